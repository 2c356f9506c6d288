/-
  Contracts of layer wide for numbers of two words: Div by a word, Sqrt. Conditions: the fields are words of 64 bits.
-/
import Derived.Test.YtgjgcehoakacoaaGreatDoorMW
import Derived.Deep.CutBlock
import Derived.Deep.DeepCutAuto
import Derived.Deep.LoopGhost
namespace Go.Proofs.YtgjgcehoakacoaaGreatDoor
open Go.RowKit

/-- What a guess of half a word of the quotient is: u times 2^32 and the half word d are divided by y1 times 2^32 and y0; q is not too small, and q times y1 and r are u. -/
structure Guess (u d y1 y0 q r : Int) : Prop where
  q0 : 0 ≤ q
  qle : q ≤ 4294967297
  r0 : 0 ≤ r
  r1 : r < 4294967296
  sum : q * y1 + r = u
  big : u * 4294967296 + d < (q + 1) * (y1 * 4294967296 + y0)

/-- The divisor, and the number that is divided. -/
structure Halves (u d y1 y0 : Int) : Prop where
  u0 : 0 ≤ u
  u1 : u < y1 * 4294967296 + y0
  d0 : 0 ≤ d
  d1 : d < 4294967296
  y10 : 2147483648 ≤ y1
  y11 : y1 < 4294967296
  y00 : 0 ≤ y0
  y01 : y0 < 4294967296

/-- The quotient's half word is found. -/
structure Found (u d y1 y0 q : Int) : Prop where
  q0 : 0 ≤ q
  q1 : q < 4294967296
  lo : q * (y1 * 4294967296 + y0) ≤ u * 4294967296 + d
  hi : u * 4294967296 + d < (q + 1) * (y1 * 4294967296 + y0)

theorem found_lt {u d y1 y0 q : Int} (h : Halves u d y1 y0) (_hq : 0 ≤ q) (hlo : q * (y1 * 4294967296 + y0) ≤ u * 4294967296 + d) : q < 4294967296 := by
  obtain ⟨u0, u1, d0, d1, y10, y11, y00, y01⟩ := h
  rcases Int.lt_or_le q 4294967296 with h | h
  · exact h
  · exfalso
    have := Int.mul_le_mul_of_nonneg_right h (show 0 ≤ y1 * 4294967296 + y0 by omega)
    omega

theorem guess_first {u d y1 y0 : Int} (h : Halves u d y1 y0) : Guess u d y1 y0 (u / y1) (u - u / y1 * y1) := by
  obtain ⟨u0, u1, d0, d1, y10, y11, y00, y01⟩ := h
  have hp : 0 < y1 := by omega
  have e := Int.ediv_mul_add_emod u y1
  have m0 := Int.emod_nonneg u (Int.ne_of_gt hp)
  have m1 := Int.emod_lt_of_pos u hp
  have q0 : 0 ≤ u / y1 := Int.ediv_nonneg u0 (Int.le_of_lt hp)
  generalize u / y1 = q at *
  generalize u % y1 = r at *
  refine ⟨q0, ?_, by omega, by omega, by omega, ?_⟩
  · rcases Int.lt_or_le q 4294967298 with h | h
    · omega
    · have := Int.mul_le_mul_of_nonneg_right h (Int.le_of_lt hp)
      omega
  · have k1 : (q + 1) * (y1 * 4294967296 + y0) = q * y1 * 4294967296 + y1 * 4294967296 + (q + 1) * y0 := by
      rw [Int.mul_add, ← Int.mul_assoc, Int.add_mul q 1 y1, Int.add_mul]
      omega
    have k2 : 0 ≤ (q + 1) * y0 := Int.mul_nonneg (by omega) y00
    rw [k1]
    omega

/-- The guess is too great: one less is a guess, too, or it is found. -/
theorem guess_next {u d y1 y0 q r : Int} (h : Halves u d y1 y0) (g : Guess u d y1 y0 q r) (hc : 4294967296 ≤ q ∨ 4294967296 * r + d < q * y0) :
    1 ≤ q ∧ r + y1 < 18446744073709551616 ∧ (4294967296 ≤ r + y1 → Found u d y1 y0 (q - 1)) ∧ (r + y1 < 4294967296 → Guess u d y1 y0 (q - 1) (r + y1)) := by
  obtain ⟨q0, qle, r0, r1, sum, big⟩ := g
  have h' := h
  obtain ⟨u0, u1, d0, d1, y10, y11, y00, y01⟩ := h
  have k1 : q * (y1 * 4294967296 + y0) = q * y1 * 4294967296 + q * y0 := by rw [Int.mul_add, ← Int.mul_assoc]
  have k2 : (q - 1) * (y1 * 4294967296 + y0) = q * (y1 * 4294967296 + y0) - (y1 * 4294967296 + y0) := by rw [Int.sub_mul, Int.one_mul]
  have less : u * 4294967296 + d < q * (y1 * 4294967296 + y0) := by
    rcases hc with hc | hc
    · have := Int.mul_le_mul_of_nonneg_right hc (show 0 ≤ y1 * 4294967296 + y0 by omega)
      omega
    · rw [k1]
      omega
  have q1 : 1 ≤ q := by
    rcases Int.lt_or_le q 1 with h | h
    · exfalso
      have : q = 0 := by omega
      subst this
      omega
    · exact h
  have s1 : (q - 1) * y1 = q * y1 - y1 := by rw [Int.sub_mul, Int.one_mul]
  refine ⟨q1, by omega, fun hr => ?_, fun hr => ⟨by omega, by omega, by omega, hr, by omega, by rw [show q - 1 + 1 = q by omega]; exact less⟩⟩
  have k3 : (q - 1) * y0 ≤ 4294967296 * 4294967295 := Int.mul_le_mul (by omega) (by omega) y00 (by decide)
  have lo : (q - 1) * (y1 * 4294967296 + y0) ≤ u * 4294967296 + d := by
    rw [Int.mul_add, ← Int.mul_assoc, s1]
    omega
  exact ⟨by omega, found_lt h' (by omega) lo, lo, by rw [show q - 1 + 1 = q by omega]; exact less⟩

/-- The guess is right. -/
theorem guess_done {u d y1 y0 q r : Int} (g : Guess u d y1 y0 q r) (hc : ¬ 4294967296 ≤ q) (hd : ¬ 4294967296 * r + d < q * y0) : Found u d y1 y0 q := by
  obtain ⟨q0, qle, r0, r1, sum, big⟩ := g
  refine ⟨q0, by omega, ?_, big⟩
  rw [Int.mul_add, ← Int.mul_assoc]
  omega

/-- What is left is below the divisor. -/
theorem found_rest {u d y1 y0 q : Int} (f : Found u d y1 y0 q) : 0 ≤ u * 4294967296 + d - q * (y1 * 4294967296 + y0) ∧ u * 4294967296 + d - q * (y1 * 4294967296 + y0) < y1 * 4294967296 + y0 := by
  obtain ⟨_, _, lo, hi⟩ := f
  rw [Int.add_mul, Int.one_mul] at hi
  omega

theorem lz_arith {y : Int} (h : Word y) (h0 : 0 < y) : ∃ s : Nat, 64 - ((Lib.bitLen y.toNat : Nat) : Int) = (s : Int) ∧ s ≤ 63 ∧ 9223372036854775808 ≤ y * 2 ^ s ∧ y * 2 ^ s < 18446744073709551616 := by
  obtain ⟨n, hn, rfl⟩ := word_nat h
  have hb := bitLen_spec n
  rw [Int.toNat_natCast, lib_bitLen n hn]
  have h1 : n ≠ 0 := by omega
  have hk : Go.bitLen n ≤ 64 := by
    have := blen_word_le h
    unfold blen at this
    rw [Int.toNat_natCast] at this
    omega
  have hk1 : 1 ≤ Go.bitLen n := by
    rcases Nat.eq_zero_or_pos (Go.bitLen n) with e | e
    · rw [e] at hb
      simp at hb
      omega
    · exact e
  have lo := hb.2 h1
  have hi := hb.1
  generalize Go.bitLen n = k at *
  refine ⟨64 - k, by omega, by omega, ?_, ?_⟩
  · have : 2 ^ (k - 1) * 2 ^ (64 - k) ≤ n * 2 ^ (64 - k) := Nat.mul_le_mul_right _ lo
    rw [← Nat.pow_add, show k - 1 + (64 - k) = 63 by omega] at this
    have h2 : ((9223372036854775808 : Nat) : Int) ≤ ((n * 2 ^ (64 - k) : Nat) : Int) := Int.ofNat_le.2 this
    simpa using h2
  · have : n * 2 ^ (64 - k) < 2 ^ k * 2 ^ (64 - k) := Nat.mul_lt_mul_of_pos_right hi (Nat.two_pow_pos _)
    rw [← Nat.pow_add, show k + (64 - k) = 64 by omega] at this
    have h2 : ((n * 2 ^ (64 - k) : Nat) : Int) < ((18446744073709551616 : Nat) : Int) := Int.ofNat_lt.2 this
    simpa using h2

/-- The quotient and what is left. -/
def IsDiv64 (n y : Int) (w : World) (e : Ending) (w' : World) : Prop := ∃ q r : Int, Word q ∧ Word r ∧ r < y ∧ q * y + r = n ∧ e = .returned (.tuple #[.int .u64 q, .int .u64 r]) ∧ Below w.heap.size w w'

theorem and_low (a : Int) (h : Word a) : bits BinOp.and IntKind.u64 a 4294967295 = a % 4294967296 := and_low32 a h.1 h.2

theorem bounds_of {u d y1 y0 q r : Int} (g : Guess u d y1 y0 q r) (h : Halves u d y1 y0) : 0 ≤ q ∧ q ≤ 4294967297 ∧ 0 ≤ r ∧ r < 4294967296 ∧ (2147483648 ≤ y1 ∧ y1 < 4294967296) ∧ (0 ≤ d ∧ d < 4294967296) :=
  ⟨g.q0, g.qle, g.r0, g.r1, ⟨h.y10, h.y11⟩, ⟨h.d0, h.d1⟩⟩
theorem prod_of {u d y1 y0 q r : Int} (g : Guess u d y1 y0 q r) (h : Halves u d y1 y0) (hc : ¬ 4294967296 ≤ q) : 0 ≤ q * y0 ∧ q * y0 < 18446744073709551616 := by
  have := g.q0
  have := h.y00
  have := h.y01
  have : q * y0 ≤ 4294967295 * 4294967295 := Int.mul_le_mul (by omega) (by omega) (by omega) (by decide)
  exact ⟨Int.mul_nonneg (by omega) (by omega), by omega⟩

theorem wrap_rest {u v1 q Y : Int} (hY1 : Y < 18446744073709551616) (h0 : 0 ≤ u * 4294967296 + v1 - q * Y) (h1 : u * 4294967296 + v1 - q * Y < Y) :
    IntKind.u64.wrap (IntKind.u64.wrap (IntKind.u64.wrap (u * 4294967296) + v1) - IntKind.u64.wrap (q * Y)) = u * 4294967296 + v1 - q * Y := by
  simp only [IntKind.wrap_u64]
  generalize q * Y = z at *
  omega
theorem wrap_guess {u d y1 y0 : Int} (h : Halves u d y1 y0) (_hu : u < 18446744073709551616) :
    IntKind.u64.wrap (u.tdiv y1) = u / y1 ∧ IntKind.u64.wrap (u - IntKind.u64.wrap (u / y1 * y1)) = u - u / y1 * y1 := by
  have g := guess_first h
  have e : u.tdiv y1 = u / y1 := Int.tdiv_eq_ediv_of_nonneg h.u0
  have q0 := g.q0
  have q1 := g.qle
  have r0 := g.r0
  have r1 := g.r1
  have u0 := h.u0
  have p0 : 0 ≤ u / y1 * y1 := Int.mul_nonneg q0 (by have := h.y10; omega)
  rw [e]
  simp only [IntKind.wrap_u64]
  generalize u / y1 * y1 = z at *
  constructor
  · exact Int.emod_eq_of_lt q0 (by omega)
  · omega

/-- What the two half words of the quotient come to. -/
def IsQuo (q q0 x v0 Y : Int) (s : Nat) (n y : Int) : Prop :=
  Word (IntKind.u64.wrap (IntKind.u64.wrap (q * 4294967296) + q0)) ∧ Word (IntKind.u64.wrap (IntKind.u64.wrap (IntKind.u64.wrap (x * 4294967296) + v0) - IntKind.u64.wrap (q0 * Y)) / 2 ^ s) ∧
  IntKind.u64.wrap (IntKind.u64.wrap (IntKind.u64.wrap (x * 4294967296) + v0) - IntKind.u64.wrap (q0 * Y)) / 2 ^ s < y ∧
  IntKind.u64.wrap (IntKind.u64.wrap (q * 4294967296) + q0) * y + IntKind.u64.wrap (IntKind.u64.wrap (IntKind.u64.wrap (x * 4294967296) + v0) - IntKind.u64.wrap (q0 * Y)) / 2 ^ s = n

theorem div64_fin {u v v1 v0 y Y y1 y0 n q q0 : Int} {s : Nat} (hU : u * 18446744073709551616 + v = n * 2 ^ s) (hv : v = v1 * 4294967296 + v0) (rY : y * 2 ^ s = Y) (hYs : Y = y1 * 4294967296 + y0) (hY1 : Y < 18446744073709551616)
    (hy : Word y) (F : Found u v1 y1 y0 q) (F2 : Found (u * 4294967296 + v1 - q * Y) v0 y1 y0 q0) : IsQuo q q0 (u * 4294967296 + v1 - q * Y) v0 Y s n y := by
  obtain ⟨a0, a1⟩ := found_rest F
  obtain ⟨b0, b1⟩ := found_rest F2
  rw [← hYs] at a0 a1 b0 b1
  obtain ⟨f0, f1, _, _⟩ := F
  obtain ⟨g0, g1, _, _⟩ := F2
  have hp := pow_pos' s
  have e1 : IntKind.u64.wrap (IntKind.u64.wrap (q * 4294967296) + q0) = q * 4294967296 + q0 := by simp only [IntKind.wrap_u64]; omega
  have e2 := wrap_rest hY1 b0 b1
  have e3 : (u * 4294967296 + v1 - q * Y) * 4294967296 + v0 - q0 * Y = (n - (q * 4294967296 + q0) * y) * 2 ^ s := by
    have e5 : (n - (q * 4294967296 + q0) * y) * 2 ^ s = n * 2 ^ s - (q * 4294967296 + q0) * (y * 2 ^ s) := by rw [Int.sub_mul, Int.mul_assoc]
    rw [e5, rY, ← hU, Int.add_mul, Int.mul_right_comm]
    omega
  have e4 : ((u * 4294967296 + v1 - q * Y) * 4294967296 + v0 - q0 * Y) / 2 ^ s = n - (q * 4294967296 + q0) * y := by
    rw [e3]
    exact Int.mul_ediv_cancel _ (Int.ne_of_gt hp)
  rw [e3] at b0 b1
  have c0 : 0 ≤ n - (q * 4294967296 + q0) * y := Int.nonneg_of_mul_nonneg_left b0 hp
  have c1 : n - (q * 4294967296 + q0) * y < y := Int.lt_of_mul_lt_mul_right (by rw [rY]; exact b1) (Int.le_of_lt hp)
  unfold IsQuo
  rw [e1, e2, e4]
  exact ⟨⟨by omega, by omega⟩, ⟨c0, by have := hy.2; omega⟩, c1, by omega⟩

/-- A quotient of three words, and a word that is left. -/
def IsDivW (a b : Int) (v : Value) : Prop := ∃ h m l r : Int, Word h ∧ Word m ∧ Word l ∧ Word r ∧ r < b ∧ V3 h m l * b + r = a ∧ v = .tuple #[.agg #[.int .u64 h, .int .u64 m, .int .u64 l], .int .u64 r]
theorem div2_eq {h l b qh qm ql r : Int} (h1 : Word h) (h2 : Word l) (a1 : Word qh) (a2 : Word qm) (a3 : Word ql) (a4 : Word r) (hb : 0 < b) (e : V3 qh qm ql * b + r = V3 0 h l) : V2 qm ql * b + r = V2 h l := by
  have z : qh = 0 := by
    rcases Int.lt_or_le 0 qh with hq | hq
    · exfalso
      have hv : 340282366920938463463374607431768211456 ≤ V3 qh qm ql := by
        obtain ⟨_, _⟩ := a2; obtain ⟨_, _⟩ := a3
        unfold V3
        omega
      have : 340282366920938463463374607431768211456 * 1 ≤ V3 qh qm ql * b := Int.mul_le_mul hv (by omega) (by decide) (by omega)
      obtain ⟨_, _⟩ := h1; obtain ⟨_, _⟩ := h2; obtain ⟨_, _⟩ := a4
      unfold V3 at *
      omega
    · have := a1.1
      omega
  subst z
  have e1 : V3 0 qm ql = V2 qm ql := by unfold V3 V2; omega
  have e2 : V3 0 h l = V2 h l := by unfold V3 V2; omega
  rw [← e1, ← e2]
  exact e

/-- A quotient of two words, and a word that is left. -/
def IsDiv2 (a b : Int) (v : Value) : Prop := ∃ h l r : Int, Word h ∧ Word l ∧ Word r ∧ (b = 0 → h = 0 ∧ l = 0 ∧ r = 0) ∧ (0 < b → r < b ∧ V2 h l * b + r = a) ∧ v = .tuple #[.agg #[.int .u64 h, .int .u64 l], .int .u64 r]
/-- A call came back with a value of which P holds, and made three blocks. -/
def Ret3 (P : Value → Prop) (t1 t2 t3 : TypeId) (w : World) (e : Ending) (w' : World) : Prop := ∃ v, P v ∧ e = .returned v ∧ ∃ c1 c2 c3 : Array Value, w' = ((w.alloc (.cells c1 t1)).alloc (.cells c2 t2)).alloc (.cells c3 t3)
def Ret2 (P : Value → Prop) (t1 t2 : TypeId) (w : World) (e : Ending) (w' : World) : Prop := ∃ v, P v ∧ e = .returned v ∧ ∃ c1 c2 : Array Value, w' = (w.alloc (.cells c1 t1)).alloc (.cells c2 t2)

theorem widenx (h l : Int) (w : World) : Calls Tryz.prog 161 #[.agg #[.int .u64 h, .int .u64 l]] w (Ret2 (· = .agg #[.int .u64 0, .int .u64 h, .int .u64 l]) 163 218 w) := by
  go_enter Tryz.func161, Tryz.ntmps161
  go_wp2
  exact bodyPost_ret (by simp [results, Tryz.results161, go_sem]) rfl ⟨_, rfl, rfl, _, _, rfl⟩

/-- The root is found but for its n lowest bits. -/
structure Rt (a r : Int) (n : Nat) : Prop where
  mul : ∃ c : Nat, r = ((c * 2 ^ n : Nat) : Int)
  lo : r * r ≤ a
  hi : a < (r + 2 ^ n) * (r + 2 ^ n)
  le : r + 2 ^ n ≤ 18446744073709551616

theorem Rt.word {a r : Int} {n : Nat} (h : Rt a r n) : Word r := by
  obtain ⟨⟨c, rfl⟩, _, _, le⟩ := h
  have := pow_pos' n
  exact ⟨by omega, by omega⟩
theorem Rt.or {a r : Int} {n : Nat} (h : Rt a r (n + 1)) : bits BinOp.or IntKind.u64 r (IntKind.u64.wrap (2 ^ n)) = r + 2 ^ n := by
  have w := h.word
  obtain ⟨⟨c, rfl⟩, _, _, le⟩ := h
  have hp := pow_pos' n
  have e2 : (2 : Int) ^ (n + 1) = 2 ^ n * 2 := Int.pow_succ 2 n
  have e : IntKind.u64.wrap ((2 : Int) ^ n) = ((2 ^ n : Nat) : Int) := by
    rw [IntKind.wrap_u64, Int.emod_eq_of_lt (by omega) (by have := w.1; omega)]
    simp
  have l1 : c * 2 ^ (n + 1) < 18446744073709551616 := by have := w.2; omega
  have l2 : 2 ^ n < 18446744073709551616 := by
    have h1 : ((2 ^ n : Nat) : Int) < 18446744073709551616 := by
      have : ((2 ^ n : Nat) : Int) = 2 ^ n := by simp
      rw [this]
      have := w.1
      omega
    omega
  rw [e, bits_or_u64_nat _ _ l1 l2, Nat.mul_comm c, ← Nat.two_pow_add_eq_or_of_lt (by rw [Nat.pow_succ]; have := Nat.two_pow_pos n; omega), Int.natCast_add]
  simp
theorem Rt.yes {a r : Int} {n : Nat} (h : Rt a r (n + 1)) (hc : (r + 2 ^ n) * (r + 2 ^ n) ≤ a) : Rt a (r + 2 ^ n) n := by
  obtain ⟨⟨c, rfl⟩, _, hi, le⟩ := h
  have e2 : (2 : Int) ^ (n + 1) = 2 ^ n + 2 ^ n := by rw [Int.pow_succ]; omega
  rw [e2, ← Int.add_assoc] at hi le
  refine ⟨⟨c * 2 + 1, ?_⟩, hc, hi, le⟩
  rw [Nat.pow_succ, Nat.add_mul, Nat.mul_assoc, Nat.mul_comm 2, Int.natCast_add]
  simp
theorem Rt.no {a r : Int} {n : Nat} (h : Rt a r (n + 1)) (hc : ¬ (r + 2 ^ n) * (r + 2 ^ n) ≤ a) : Rt a r n := by
  obtain ⟨⟨c, rfl⟩, lo, hi, le⟩ := h
  have e2 : (2 : Int) ^ (n + 1) = 2 ^ n + 2 ^ n := by rw [Int.pow_succ]; omega
  have := pow_pos' n
  refine ⟨⟨c * 2, ?_⟩, lo, by omega, by omega⟩
  rw [Nat.pow_succ, Nat.mul_assoc, Nat.mul_comm 2]
theorem Rt.guess {a r : Int} {n : Nat} (h : Rt a r (n + 1)) : Word (r + 2 ^ n) := by
  have w := h.word
  have := h.le
  have e2 : (2 : Int) ^ (n + 1) = 2 ^ n + 2 ^ n := by rw [Int.pow_succ]; omega
  have := pow_pos' n
  have := w.1
  exact ⟨by omega, by omega⟩
theorem V2_lt {h l : Int} (w1 : Word h) (w2 : Word l) : 0 ≤ V2 h l ∧ V2 h l < 340282366920938463463374607431768211456 := by
  obtain ⟨_, _⟩ := w1; obtain ⟨_, _⟩ := w2
  unfold V2
  constructor <;> omega
theorem blen_le128 {a : Int} (h : 0 ≤ a) (h1 : a < 340282366920938463463374607431768211456) : 0 ≤ blen a ∧ blen a ≤ 128 := by
  obtain ⟨k, e, _, hk, hz⟩ := blen_spec h
  rw [e]
  refine ⟨by omega, ?_⟩
  rcases Int.lt_or_le 0 a with h0 | h0
  · have h2 := (hk h0).1
    rcases Nat.lt_or_ge 128 k with hlt | hge
    · exfalso
      have : (2 : Int) ^ 128 ≤ 2 ^ (k - 1) := by
        have h3 : 2 ^ 128 ≤ 2 ^ (k - 1) := Nat.pow_le_pow_right (by decide) (by omega)
        have h4 : ((2 ^ 128 : Nat) : Int) ≤ ((2 ^ (k - 1) : Nat) : Int) := Int.ofNat_le.2 h3
        simpa using h4
      have e128 : (2 : Int) ^ 128 = 340282366920938463463374607431768211456 := by decide
      omega
    · omega
  · have := hz (by omega)
    omega
/-- Where the search begins. -/
theorem Rt.start {a : Int} (h : 0 ≤ a) (h1 : a < 340282366920938463463374607431768211456) : Rt a 0 (((blen a + 1) / 2).toNat) := by
  obtain ⟨k, e, lt, _, _⟩ := blen_spec h
  have hb := blen_le128 h h1
  rw [e] at hb ⊢
  have hk : k ≤ 2 * (((k : Int) + 1) / 2).toNat := by omega
  have hk2 : (((k : Int) + 1) / 2).toNat ≤ 64 := by omega
  generalize (((k : Int) + 1) / 2).toNat = m at *
  refine ⟨⟨0, by simp⟩, by simpa using h, ?_, ?_⟩
  · have h2 : (2 : Int) ^ k ≤ 2 ^ m * 2 ^ m := by
      rw [← Int.pow_add]
      have h3 : 2 ^ k ≤ 2 ^ (m + m) := Nat.pow_le_pow_right (by decide) (by omega)
      have h4 : ((2 ^ k : Nat) : Int) ≤ ((2 ^ (m + m) : Nat) : Int) := Int.ofNat_le.2 h3
      simpa using h4
    rw [Int.zero_add]
    omega
  · have := pow_le64 m hk2
    omega

/-- Two cells that are there stay as they are: behind a call, behind a new block. -/
theorem kp2b {W w1 : World} {p q : Addr} {u v : Value} (hb : Below W.heap.size W w1) (h : W.cell? p = some u ∧ W.cell? q = some v) : w1.cell? p = some u ∧ w1.cell? q = some v :=
  ⟨(hb.cell (World.block_lt_of_cell? _ _ h.1)).trans h.1, (hb.cell (World.block_lt_of_cell? _ _ h.2)).trans h.2⟩
theorem kpa2 {W : World} {o : Obj} {p q : Addr} {u v : Value} (h : W.cell? p = some u ∧ W.cell? q = some v) : (W.alloc o).cell? p = some u ∧ (W.alloc o).cell? q = some v :=
  kp2b (bel_alloc (Below.refl _ _) o) h
theorem kpad2 {W : World} {o : Obj} {p q : Addr} {u v : Value} (h : W.cell? p = some u ∧ W.cell? q = some v) : (W.alloc o).drew.cell? p = some u ∧ (W.alloc o).drew.cell? q = some v :=
  kp2b (bel_drew (bel_alloc (Below.refl _ _) o)) h

/-- A root, and what is left. -/
def IsSqrt (a : Int) (v : Value) : Prop := ∃ r h l : Int, Word r ∧ Word h ∧ Word l ∧ r * r ≤ a ∧ a < (r + 1) * (r + 1) ∧ V2 h l = a - r * r ∧ v = .tuple #[.int .u64 r, .agg #[.int .u64 h, .int .u64 l]]

theorem sqrt_rest {h l c d : Int} (w1 : Word h) (w2 : Word l) (h0 : 0 ≤ c) (hd : 0 ≤ d) (e : V2 h l - c * 340282366920938463463374607431768211456 = d) : V2 h l = d := by
  have := V2_lt w1 w2
  omega

end Go.Proofs.YtgjgcehoakacoaaGreatDoor
