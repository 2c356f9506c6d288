/-
  Contracts of layer wide for numbers of two words: Div by a word, Sqrt. Conditions: the fields are words of 64 bits.
-/
import Derived.Test.YtkdckclefegocaaGreatDoorMW
import Derived.Deep.CutBlock
import Derived.Deep.DeepCutAuto
import Derived.Deep.LoopGhost
namespace Go.Proofs.YtkdckclefegocaaGreatDoor
open Go.RowKit

/-- What a guess of half a word of the quotient is: u times 2^32 and the half word d are divided by y1 times 2^32 and y0; q is not too small, and q times y1 and r are u. -/
structure Guess (u d y1 y0 q r : Int) : Prop where
  q0 : 0 ≤ q
  qle : q ≤ 4294967297
  r0 : 0 ≤ r
  r1 : r < 4294967296
  sum : q * y1 + r = u
  big : u * 4294967296 + d < (q + 1) * (y1 * 4294967296 + y0)

/-- The divisor, and the number that is divided. -/
structure Halves (u d y1 y0 : Int) : Prop where
  u0 : 0 ≤ u
  u1 : u < y1 * 4294967296 + y0
  d0 : 0 ≤ d
  d1 : d < 4294967296
  y10 : 2147483648 ≤ y1
  y11 : y1 < 4294967296
  y00 : 0 ≤ y0
  y01 : y0 < 4294967296

/-- The quotient's half word is found. -/
structure Found (u d y1 y0 q : Int) : Prop where
  q0 : 0 ≤ q
  q1 : q < 4294967296
  lo : q * (y1 * 4294967296 + y0) ≤ u * 4294967296 + d
  hi : u * 4294967296 + d < (q + 1) * (y1 * 4294967296 + y0)

theorem found_lt {u d y1 y0 q : Int} (h : Halves u d y1 y0) (_hq : 0 ≤ q) (hlo : q * (y1 * 4294967296 + y0) ≤ u * 4294967296 + d) : q < 4294967296 := by
  obtain ⟨u0, u1, d0, d1, y10, y11, y00, y01⟩ := h
  rcases Int.lt_or_le q 4294967296 with h | h
  · exact h
  · exfalso
    have := Int.mul_le_mul_of_nonneg_right h (show 0 ≤ y1 * 4294967296 + y0 by omega)
    omega

theorem guess_first {u d y1 y0 : Int} (h : Halves u d y1 y0) : Guess u d y1 y0 (u / y1) (u - u / y1 * y1) := by
  obtain ⟨u0, u1, d0, d1, y10, y11, y00, y01⟩ := h
  have hp : 0 < y1 := by omega
  have e := Int.ediv_mul_add_emod u y1
  have m0 := Int.emod_nonneg u (Int.ne_of_gt hp)
  have m1 := Int.emod_lt_of_pos u hp
  have q0 : 0 ≤ u / y1 := Int.ediv_nonneg u0 (Int.le_of_lt hp)
  generalize u / y1 = q at *
  generalize u % y1 = r at *
  refine ⟨q0, ?_, by omega, by omega, by omega, ?_⟩
  · rcases Int.lt_or_le q 4294967298 with h | h
    · omega
    · have := Int.mul_le_mul_of_nonneg_right h (Int.le_of_lt hp)
      omega
  · have k1 : (q + 1) * (y1 * 4294967296 + y0) = q * y1 * 4294967296 + y1 * 4294967296 + (q + 1) * y0 := by
      rw [Int.mul_add, ← Int.mul_assoc, Int.add_mul q 1 y1, Int.add_mul]
      omega
    have k2 : 0 ≤ (q + 1) * y0 := Int.mul_nonneg (by omega) y00
    rw [k1]
    omega

/-- The guess is too great: one less is a guess, too, or it is found. -/
theorem guess_next {u d y1 y0 q r : Int} (h : Halves u d y1 y0) (g : Guess u d y1 y0 q r) (hc : 4294967296 ≤ q ∨ 4294967296 * r + d < q * y0) :
    1 ≤ q ∧ r + y1 < 18446744073709551616 ∧ (4294967296 ≤ r + y1 → Found u d y1 y0 (q - 1)) ∧ (r + y1 < 4294967296 → Guess u d y1 y0 (q - 1) (r + y1)) := by
  obtain ⟨q0, qle, r0, r1, sum, big⟩ := g
  have h' := h
  obtain ⟨u0, u1, d0, d1, y10, y11, y00, y01⟩ := h
  have k1 : q * (y1 * 4294967296 + y0) = q * y1 * 4294967296 + q * y0 := by rw [Int.mul_add, ← Int.mul_assoc]
  have k2 : (q - 1) * (y1 * 4294967296 + y0) = q * (y1 * 4294967296 + y0) - (y1 * 4294967296 + y0) := by rw [Int.sub_mul, Int.one_mul]
  have less : u * 4294967296 + d < q * (y1 * 4294967296 + y0) := by
    rcases hc with hc | hc
    · have := Int.mul_le_mul_of_nonneg_right hc (show 0 ≤ y1 * 4294967296 + y0 by omega)
      omega
    · rw [k1]
      omega
  have q1 : 1 ≤ q := by
    rcases Int.lt_or_le q 1 with h | h
    · exfalso
      have : q = 0 := by omega
      subst this
      omega
    · exact h
  have s1 : (q - 1) * y1 = q * y1 - y1 := by rw [Int.sub_mul, Int.one_mul]
  refine ⟨q1, by omega, fun hr => ?_, fun hr => ⟨by omega, by omega, by omega, hr, by omega, by rw [show q - 1 + 1 = q by omega]; exact less⟩⟩
  have k3 : (q - 1) * y0 ≤ 4294967296 * 4294967295 := Int.mul_le_mul (by omega) (by omega) y00 (by decide)
  have lo : (q - 1) * (y1 * 4294967296 + y0) ≤ u * 4294967296 + d := by
    rw [Int.mul_add, ← Int.mul_assoc, s1]
    omega
  exact ⟨by omega, found_lt h' (by omega) lo, lo, by rw [show q - 1 + 1 = q by omega]; exact less⟩

/-- The guess is right. -/
theorem guess_done {u d y1 y0 q r : Int} (g : Guess u d y1 y0 q r) (hc : ¬ 4294967296 ≤ q) (hd : ¬ 4294967296 * r + d < q * y0) : Found u d y1 y0 q := by
  obtain ⟨q0, qle, r0, r1, sum, big⟩ := g
  refine ⟨q0, by omega, ?_, big⟩
  rw [Int.mul_add, ← Int.mul_assoc]
  omega

/-- What is left is below the divisor. -/
theorem found_rest {u d y1 y0 q : Int} (f : Found u d y1 y0 q) : 0 ≤ u * 4294967296 + d - q * (y1 * 4294967296 + y0) ∧ u * 4294967296 + d - q * (y1 * 4294967296 + y0) < y1 * 4294967296 + y0 := by
  obtain ⟨_, _, lo, hi⟩ := f
  rw [Int.add_mul, Int.one_mul] at hi
  omega

theorem lz_arith {y : Int} (h : Word y) (h0 : 0 < y) : ∃ s : Nat, 64 - ((Lib.bitLen y.toNat : Nat) : Int) = (s : Int) ∧ s ≤ 63 ∧ 9223372036854775808 ≤ y * 2 ^ s ∧ y * 2 ^ s < 18446744073709551616 := by
  obtain ⟨n, hn, rfl⟩ := word_nat h
  have hb := bitLen_spec n
  rw [Int.toNat_natCast, lib_bitLen n hn]
  have h1 : n ≠ 0 := by omega
  have hk : Go.bitLen n ≤ 64 := by
    have := blen_word_le h
    unfold blen at this
    rw [Int.toNat_natCast] at this
    omega
  have hk1 : 1 ≤ Go.bitLen n := by
    rcases Nat.eq_zero_or_pos (Go.bitLen n) with e | e
    · rw [e] at hb
      simp at hb
      omega
    · exact e
  have lo := hb.2 h1
  have hi := hb.1
  generalize Go.bitLen n = k at *
  refine ⟨64 - k, by omega, by omega, ?_, ?_⟩
  · have : 2 ^ (k - 1) * 2 ^ (64 - k) ≤ n * 2 ^ (64 - k) := Nat.mul_le_mul_right _ lo
    rw [← Nat.pow_add, show k - 1 + (64 - k) = 63 by omega] at this
    have h2 : ((9223372036854775808 : Nat) : Int) ≤ ((n * 2 ^ (64 - k) : Nat) : Int) := Int.ofNat_le.2 this
    simpa using h2
  · have : n * 2 ^ (64 - k) < 2 ^ k * 2 ^ (64 - k) := Nat.mul_lt_mul_of_pos_right hi (Nat.two_pow_pos _)
    rw [← Nat.pow_add, show k + (64 - k) = 64 by omega] at this
    have h2 : ((n * 2 ^ (64 - k) : Nat) : Int) < ((18446744073709551616 : Nat) : Int) := Int.ofNat_lt.2 this
    simpa using h2

theorem lz64 (y : Int) (h : Word y) (s : Nat) (e : 64 - ((Lib.bitLen y.toNat : Nat) : Int) = (s : Int)) (w : World) : Calls Tryz.prog 114 #[.int .u64 y] w fun e w' => e = .returned (.int .i64 (s : Int)) ∧ w = w' := by
  have b1 := (blen_word_le h).2
  rw [← blen_word h] at b1
  have E := Lib.hid e
  clear e
  go_enter Tryz.func114, Tryz.ntmps114
  go_wp2_with (go_at_call 84; refine (len64 y h _).mono ?_; rintro e w1 ⟨rfl, rfl⟩)
  go_ret
  exact ⟨ret_int E.out, rfl⟩

/-- The quotient and what is left. -/
def IsDiv64 (n y : Int) (w : World) (e : Ending) (w' : World) : Prop := ∃ q r : Int, Word q ∧ Word r ∧ r < y ∧ q * y + r = n ∧ e = .returned (.tuple #[.int .u64 q, .int .u64 r]) ∧ Below w.heap.size w w'

theorem div64_small (lo y : Int) (h2 : Word lo) (h3 : Word y) (hy : 0 < y) (w : World) : Calls Tryz.prog 103 #[.int .u64 0, .int .u64 lo, .int .u64 y] w (IsDiv64 lo y w) := by
  have t0 : (y == 0) = false := by simp; omega
  have t1 : ¬ y ≤ 0 := by omega
  have hne : ¬ y = 0 := by omega
  go_enter Tryz.func103, Tryz.ntmps103
  go_wp2
  go_region
  go_wp2
  go_ret2
  refine ⟨_, _, ?_, ?_, ?_, ?_, rfl, bel_drew (Below.refl _ _)⟩
  · exact word_wrap _
  · rw [Int.tmod_eq_emod_of_nonneg h2.1]
    exact ⟨Int.emod_nonneg _ hne, by have := Int.emod_lt_of_pos lo hy; have := h3.2; omega⟩
  · rw [Int.tmod_eq_emod_of_nonneg h2.1]
    exact Int.emod_lt_of_pos lo hy
  · have hq : lo.tdiv y = lo / y := Int.tdiv_eq_ediv_of_nonneg h2.1
    have h5 : 0 ≤ lo / y := Int.ediv_nonneg h2.1 (Int.le_of_lt hy)
    have h6 := Int.ediv_le_self y h2.1
    have h7 := h2.2
    rw [Int.tmod_eq_emod_of_nonneg h2.1, hq, IntKind.wrap_u64, Int.emod_eq_of_lt h5 (by omega)]
    exact Int.ediv_mul_add_emod lo y

theorem and_low (a : Int) (h : Word a) : bits BinOp.and IntKind.u64 a 4294967295 = a % 4294967296 := and_low32 a h.1 h.2

theorem bounds_of {u d y1 y0 q r : Int} (g : Guess u d y1 y0 q r) (h : Halves u d y1 y0) : 0 ≤ q ∧ q ≤ 4294967297 ∧ 0 ≤ r ∧ r < 4294967296 ∧ (2147483648 ≤ y1 ∧ y1 < 4294967296) ∧ (0 ≤ d ∧ d < 4294967296) :=
  ⟨g.q0, g.qle, g.r0, g.r1, ⟨h.y10, h.y11⟩, ⟨h.d0, h.d1⟩⟩
theorem prod_of {u d y1 y0 q r : Int} (g : Guess u d y1 y0 q r) (h : Halves u d y1 y0) (hc : ¬ 4294967296 ≤ q) : 0 ≤ q * y0 ∧ q * y0 < 18446744073709551616 := by
  have := g.q0
  have := h.y00
  have := h.y01
  have : q * y0 ≤ 4294967295 * 4294967295 := Int.mul_le_mul (by omega) (by omega) (by omega) (by decide)
  exact ⟨Int.mul_nonneg (by omega) (by omega), by omega⟩

theorem wrap_rest {u v1 q Y : Int} (hY1 : Y < 18446744073709551616) (h0 : 0 ≤ u * 4294967296 + v1 - q * Y) (h1 : u * 4294967296 + v1 - q * Y < Y) :
    IntKind.u64.wrap (IntKind.u64.wrap (IntKind.u64.wrap (u * 4294967296) + v1) - IntKind.u64.wrap (q * Y)) = u * 4294967296 + v1 - q * Y := by
  simp only [IntKind.wrap_u64]
  generalize q * Y = z at *
  omega
theorem wrap_guess {u d y1 y0 : Int} (h : Halves u d y1 y0) (_hu : u < 18446744073709551616) :
    IntKind.u64.wrap (u.tdiv y1) = u / y1 ∧ IntKind.u64.wrap (u - IntKind.u64.wrap (u / y1 * y1)) = u - u / y1 * y1 := by
  have g := guess_first h
  have e : u.tdiv y1 = u / y1 := Int.tdiv_eq_ediv_of_nonneg h.u0
  have q0 := g.q0
  have q1 := g.qle
  have r0 := g.r0
  have r1 := g.r1
  have u0 := h.u0
  have p0 : 0 ≤ u / y1 * y1 := Int.mul_nonneg q0 (by have := h.y10; omega)
  rw [e]
  simp only [IntKind.wrap_u64]
  generalize u / y1 * y1 = z at *
  constructor
  · exact Int.emod_eq_of_lt q0 (by omega)
  · omega

/-- What the two half words of the quotient come to. -/
def IsQuo (q q0 x v0 Y : Int) (s : Nat) (n y : Int) : Prop :=
  Word (IntKind.u64.wrap (IntKind.u64.wrap (q * 4294967296) + q0)) ∧ Word (IntKind.u64.wrap (IntKind.u64.wrap (IntKind.u64.wrap (x * 4294967296) + v0) - IntKind.u64.wrap (q0 * Y)) / 2 ^ s) ∧
  IntKind.u64.wrap (IntKind.u64.wrap (IntKind.u64.wrap (x * 4294967296) + v0) - IntKind.u64.wrap (q0 * Y)) / 2 ^ s < y ∧
  IntKind.u64.wrap (IntKind.u64.wrap (q * 4294967296) + q0) * y + IntKind.u64.wrap (IntKind.u64.wrap (IntKind.u64.wrap (x * 4294967296) + v0) - IntKind.u64.wrap (q0 * Y)) / 2 ^ s = n

/-- The walk of a division whose high word is not nought, its numbers named. -/
theorem div64_walk (hi lo y : Int) (h3 : Word y) (h0 : 0 < hi) (hy : hi < y) (s : Nat) (hs : s ≤ 63) (es : 64 - ((Lib.bitLen y.toNat : Nat) : Int) = (s : Int))
    (Y y1 y0 u v v1 v0 q r : Int) (hY0 : 9223372036854775808 ≤ Y) (hY1 : Y < 18446744073709551616) (rY : y * 2 ^ s = Y) (ry1 : Y / 4294967296 = y1) (ry0 : bits BinOp.and IntKind.u64 Y 4294967295 = y0)
    (ru : bits BinOp.or IntKind.u64 (IntKind.u64.wrap (hi * 2 ^ s)) (lo / 2 ^ (64 - s)) = u) (rv : IntKind.u64.wrap (lo * 2 ^ s) = v) (rv1 : v / 4294967296 = v1) (rv0 : bits BinOp.and IntKind.u64 v 4294967295 = v0)
    (hne : ¬ y1 = 0) (rq : IntKind.u64.wrap (u.tdiv y1) = q) (rr : IntKind.u64.wrap (u - IntKind.u64.wrap (q * y1)) = r) (G : Guess u v1 y1 y0 q r) (H : Halves u v1 y1 y0) (hYs : Y = y1 * 4294967296 + y0) (hv0 : 0 ≤ v0 ∧ v0 < 4294967296)
    (FIN : ∀ q q0, Found u v1 y1 y0 q → Found (u * 4294967296 + v1 - q * Y) v0 y1 y0 q0 → IsQuo q q0 (u * 4294967296 + v1 - q * Y) v0 Y s (V2 hi lo) y) (w : World) :
    Calls Tryz.prog 103 #[.int .u64 hi, .int .u64 lo, .int .u64 y] w (IsDiv64 (V2 hi lo) y w) := by
  have t0 : (y == 0) = false := by simp; omega
  have t1 : ¬ y ≤ hi := by omega
  have t2 : (hi == 0) = false := by simp; omega
  have t3 : (y1 == 0) = false := by simp; omega
  have ES := Lib.hid es
  clear es
  have HYS := Lib.hid hYs
  clear hYs
  have FIN' := Lib.hid FIN
  clear FIN
  go_enter Tryz.func103, Tryz.ntmps103
  go_upto_block 0 with (go_at_call 114; refine (lz64 y h3 s ES.out _).mono ?_; rintro e w1 ⟨rfl, rfl⟩)
  go_cut [15, 16] (fun s15 s16 wx => ∃ q r : Int, s15 = .int .u64 q ∧ s16 = .int .u64 r ∧ Found u v1 y1 y0 q ∧ w = wx)
  case first =>
    clear rY ry1 ry0 ru rv rv1 rv0 rq rr
    go_wp2_with fail
    go_loop [15, 16] (fun s15 s16 => ∃ q r : Int, s15 = .int .u64 q ∧ s16 = .int .u64 r ∧ Guess u v1 y1 y0 q r) (fun s15 _ => (intOf s15).toNat)
    case atStart => exact ⟨q, r, rfl, rfl, G⟩
    case round =>
      clear G
      obtain ⟨q, r, rfl, rfl, G⟩ := hrel
      obtain ⟨b1, b2, b3, b4, b5, b6⟩ := bounds_of G H
      by_cases hc : 4294967296 ≤ q
      · have N := guess_next H G (.inl hc)
        obtain ⟨n1, n2, n3, n4⟩ := N
        by_cases hr : 4294967296 ≤ r + y1
        · have F := n3 hr
          clear n3 n4 G
          go_wp2_with fail
          go_meet
          exact ⟨_, _, rfl, rfl, F, rfl⟩
        · have G' := n4 (by omega)
          clear n3 n4 G
          go_wp2_with fail
          go_round
          case rel => exact ⟨_, _, rfl, rfl, G'⟩
          case measure => simp [intOf]; omega
      · obtain ⟨p0, p1⟩ := prod_of G H hc
        have wp : IntKind.u64.wrap (q * y0) = q * y0 := by rw [IntKind.wrap_u64]; exact Int.emod_eq_of_lt p0 p1
        by_cases hd : 4294967296 * r + v1 < q * y0
        · have N := guess_next H G (.inr hd)
          obtain ⟨n1, n2, n3, n4⟩ := N
          by_cases hr : 4294967296 ≤ r + y1
          · have F := n3 hr
            clear n3 n4 G
            go_wp2_with fail
            go_meet
            exact ⟨_, _, rfl, rfl, F, rfl⟩
          · have G' := n4 (by omega)
            clear n3 n4 G
            go_wp2_with fail
            go_round
            case rel => exact ⟨_, _, rfl, rfl, G'⟩
            case measure => simp [intOf]; omega
        · have F := guess_done G hc hd
          clear G
          go_wp2_with fail
          go_meet
          exact ⟨_, _, rfl, rfl, F, rfl⟩
  case rest =>
    obtain ⟨q, r, rfl, rfl, F, rfl⟩ := hcut
    clear G
    obtain ⟨hx0, hx1⟩ := found_rest F
    have rx : IntKind.u64.wrap (IntKind.u64.wrap (IntKind.u64.wrap (u * 4294967296) + v1) - IntKind.u64.wrap (q * Y)) = u * 4294967296 + v1 - q * Y := wrap_rest hY1 (by rw [HYS.out]; exact hx0) (by rw [HYS.out]; exact hx1)
    rw [← HYS.out] at hx0 hx1
    have FIN2 := Lib.hid (fun q0 => FIN'.out q q0 F)
    generalize u * 4294967296 + v1 - q * Y = x at *
    have H2 : Halves x v0 y1 y0 := ⟨hx0, by rw [← HYS.out]; exact hx1, hv0.1, hv0.2, H.y10, H.y11, H.y00, H.y01⟩
    have G1 := guess_first H2
    obtain ⟨rq2, rr2⟩ := wrap_guess H2 (by have := hY1; omega)
    have G2 := G1
    clear G1
    generalize x / y1 = q2 at *
    generalize x - q2 * y1 = r2 at *
    clear rq rr FIN'
    go_upto_block 2 with fail
    go_cut [16, 18] (fun s16 s18 wx => ∃ q0 r : Int, s18 = .int .u64 q0 ∧ s16 = .int .u64 r ∧ Found x v0 y1 y0 q0 ∧ w = wx)
    case first =>
      clear rY ry1 ry0 ru rv rv1 rv0 rq2 rr2 rx
      go_wp2_with fail
      go_loop [16, 18] (fun s16 s18 => ∃ q r : Int, s18 = .int .u64 q ∧ s16 = .int .u64 r ∧ Guess x v0 y1 y0 q r) (fun _ s18 => (intOf s18).toNat)
      case atStart => exact ⟨_, _, rfl, rfl, G2⟩
      case round =>
        obtain ⟨q, r, rfl, rfl, G⟩ := hrel
        obtain ⟨b1, b2, b3, b4, b5, b6⟩ := bounds_of G H2
        by_cases hc : 4294967296 ≤ q
        · have N := guess_next H2 G (.inl hc)
          obtain ⟨n1, n2, n3, n4⟩ := N
          by_cases hr : 4294967296 ≤ r + y1
          · have F := n3 hr
            clear n3 n4 G
            go_wp2_with fail
            go_meet
            exact ⟨_, _, rfl, rfl, F, rfl⟩
          · have G' := n4 (by omega)
            clear n3 n4 G
            go_wp2_with fail
            go_round
            case rel => exact ⟨_, _, rfl, rfl, G'⟩
            case measure => simp [intOf]; omega
        · obtain ⟨p0, p1⟩ := prod_of G H2 hc
          have wp : IntKind.u64.wrap (q * y0) = q * y0 := by rw [IntKind.wrap_u64]; exact Int.emod_eq_of_lt p0 p1
          by_cases hd : 4294967296 * r + v0 < q * y0
          · have N := guess_next H2 G (.inr hd)
            obtain ⟨n1, n2, n3, n4⟩ := N
            by_cases hr : 4294967296 ≤ r + y1
            · have F := n3 hr
              clear n3 n4 G
              go_wp2_with fail
              go_meet
              exact ⟨_, _, rfl, rfl, F, rfl⟩
            · have G' := n4 (by omega)
              clear n3 n4 G
              go_wp2_with fail
              go_round
              case rel => exact ⟨_, _, rfl, rfl, G'⟩
              case measure => simp [intOf]; omega
          · have F := guess_done G hc hd
            clear G
            go_wp2_with fail
            go_meet
            exact ⟨_, _, rfl, rfl, F, rfl⟩
    case rest =>
      obtain ⟨q0, r, rfl, rfl, F2, rfl⟩ := hcut
      obtain ⟨k1, k2, k3, k4⟩ := FIN2.out q0 F2
      have K4 := Lib.hid k4
      clear k4 rq2 rr2 rx
      go_wp2
      go_ret2
      exact ⟨_, _, k1, k2, k3, K4.out, rfl, Below.refl _ _⟩

theorem div64_fin {u v v1 v0 y Y y1 y0 n q q0 : Int} {s : Nat} (hU : u * 18446744073709551616 + v = n * 2 ^ s) (hv : v = v1 * 4294967296 + v0) (rY : y * 2 ^ s = Y) (hYs : Y = y1 * 4294967296 + y0) (hY1 : Y < 18446744073709551616)
    (hy : Word y) (F : Found u v1 y1 y0 q) (F2 : Found (u * 4294967296 + v1 - q * Y) v0 y1 y0 q0) : IsQuo q q0 (u * 4294967296 + v1 - q * Y) v0 Y s n y := by
  obtain ⟨a0, a1⟩ := found_rest F
  obtain ⟨b0, b1⟩ := found_rest F2
  rw [← hYs] at a0 a1 b0 b1
  obtain ⟨f0, f1, _, _⟩ := F
  obtain ⟨g0, g1, _, _⟩ := F2
  have hp := pow_pos' s
  have e1 : IntKind.u64.wrap (IntKind.u64.wrap (q * 4294967296) + q0) = q * 4294967296 + q0 := by simp only [IntKind.wrap_u64]; omega
  have e2 := wrap_rest hY1 b0 b1
  have e3 : (u * 4294967296 + v1 - q * Y) * 4294967296 + v0 - q0 * Y = (n - (q * 4294967296 + q0) * y) * 2 ^ s := by
    have e5 : (n - (q * 4294967296 + q0) * y) * 2 ^ s = n * 2 ^ s - (q * 4294967296 + q0) * (y * 2 ^ s) := by rw [Int.sub_mul, Int.mul_assoc]
    rw [e5, rY, ← hU, Int.add_mul, Int.mul_right_comm]
    omega
  have e4 : ((u * 4294967296 + v1 - q * Y) * 4294967296 + v0 - q0 * Y) / 2 ^ s = n - (q * 4294967296 + q0) * y := by
    rw [e3]
    exact Int.mul_ediv_cancel _ (Int.ne_of_gt hp)
  rw [e3] at b0 b1
  have c0 : 0 ≤ n - (q * 4294967296 + q0) * y := Int.nonneg_of_mul_nonneg_left b0 hp
  have c1 : n - (q * 4294967296 + q0) * y < y := Int.lt_of_mul_lt_mul_right (by rw [rY]; exact b1) (Int.le_of_lt hp)
  unfold IsQuo
  rw [e1, e2, e4]
  exact ⟨⟨by omega, by omega⟩, ⟨c0, by have := hy.2; omega⟩, c1, by omega⟩

theorem div64 (hi lo y : Int) (h1 : Word hi) (h2 : Word lo) (h3 : Word y) (hy : hi < y) (w : World) : Calls Tryz.prog 103 #[.int .u64 hi, .int .u64 lo, .int .u64 y] w (IsDiv64 (V2 hi lo) y w) := by
  by_cases h0 : hi = 0
  · subst h0
    have e : V2 0 lo = lo := by unfold V2; omega
    rw [e]
    exact div64_small lo y h2 h3 hy w
  · have h0' : 0 < hi := by have := h1.1; omega
    obtain ⟨s, es, hs, g1, g2⟩ := lz_arith h3 (by omega)
    have hp := pow_pos' s
    have wY : Word (y * 2 ^ s) := ⟨by omega, g2⟩
    have wv := word_wrap (lo * 2 ^ s)
    have sp := wshl_split lo s (by omega)
    have sl := wshr_lt lo h2 s (by omega)
    have hu : IntKind.u64.wrap (hi * 2 ^ s) = hi * 2 ^ s := by
      rw [IntKind.wrap_u64]
      refine Int.emod_eq_of_lt (Int.mul_nonneg h1.1 (Int.le_of_lt hp)) ?_
      have := Int.mul_lt_mul_of_pos_right hy hp
      omega
    have ru : bits BinOp.or IntKind.u64 (IntKind.u64.wrap (hi * 2 ^ s)) (lo / 2 ^ (64 - s)) = hi * 2 ^ s + lo / 2 ^ (64 - s) := by
      rw [wor_shl hi _ h1 sl.1 s (by omega) sl.2, hu]
    have hu1 : hi * 2 ^ s + lo / 2 ^ (64 - s) < y * 2 ^ s := by
      have := Int.mul_le_mul_of_nonneg_right (show hi + 1 ≤ y by omega) (Int.le_of_lt hp)
      rw [Int.add_mul] at this
      omega
    have hu0 : 0 ≤ hi * 2 ^ s + lo / 2 ^ (64 - s) := by
      have := Int.mul_nonneg h1.1 (Int.le_of_lt hp)
      omega
    have H : Halves (hi * 2 ^ s + lo / 2 ^ (64 - s)) (IntKind.u64.wrap (lo * 2 ^ s) / 4294967296) (y * 2 ^ s / 4294967296) (y * 2 ^ s % 4294967296) := by
      have := wv.1
      have := wv.2
      exact ⟨hu0, by omega, by omega, by omega, by omega, by omega, by omega, by omega⟩
    obtain ⟨rq, rr⟩ := wrap_guess H (by omega)
    refine div64_walk hi lo y h3 h0' hy s hs es (y * 2 ^ s) _ _ _ _ _ _ _ _ g1 g2 rfl rfl (and_low _ wY) ru rfl rfl (and_low _ wv) (by omega) rq rr (guess_first H) H (by omega) (by have := wv.1; omega) (fun q q0 F F2 => div64_fin ?_ (v := IntKind.u64.wrap (lo * 2 ^ s)) (by omega) rfl (by omega) g2 h3 F F2) w
    have e6 : V2 hi lo * 2 ^ s = hi * 2 ^ s * 18446744073709551616 + lo * 2 ^ s := by
      unfold V2
      rw [Int.add_mul, Int.mul_right_comm]
    rw [e6]
    omega

/-- A quotient of three words, and a word that is left. -/
def IsDivW (a b : Int) (v : Value) : Prop := ∃ h m l r : Int, Word h ∧ Word m ∧ Word l ∧ Word r ∧ r < b ∧ V3 h m l * b + r = a ∧ v = .tuple #[.agg #[.int .u64 h, .int .u64 m, .int .u64 l], .int .u64 r]
theorem divWord (h m l b : Int) (h1 : Word h) (h2 : Word m) (h3 : Word l) (h4 : Word b) (hb : 0 < b) (w : World) :
    Calls Tryz.prog 78 #[.agg #[.int .u64 h, .int .u64 m, .int .u64 l], .int .u64 b] w (Ret (IsDivW (V3 h m l) b) w) := by
  go_enter Tryz.func78, Tryz.ntmps78
  go_wp2_with fail
  refine (div64 0 h b ⟨by decide, by decide⟩ h1 h4 hb _).mono ?_
  rintro e w1 ⟨qh, r1, a1, a2, a3, a4, rfl, hb1⟩
  have A4 := Lib.hid a4
  clear a4
  have z0 := hb1.cell (p := ⟨w.heap.size, 1, none⟩) (by simp <;> omega)
  have z1 := hb1.cell (p := ⟨w.heap.size, 2, none⟩) (by simp <;> omega)
  simp [go_sem] at z0 z1
  go_wp2_with fail
  refine (div64 r1 m b a2 h2 h4 a3 _).mono ?_
  rintro e w2 ⟨qm, r2, b1, b2, b3, b4, rfl, hb2⟩
  have B4 := Lib.hid b4
  clear b4
  have hb12 := bel_trans hb1 hb2
  have z2 := hb12.cell (p := ⟨w.heap.size, 2, none⟩) (by simp <;> omega)
  simp [go_sem] at z2
  go_wp2_with fail
  refine (div64 r2 l b b2 h3 h4 b3 _).mono ?_
  rintro e w3 ⟨ql, r3, c1, c2, c3, c4, rfl, hb3⟩
  have C4 := Lib.hid c4
  clear c4
  have hb123 := bel_trans hb12 hb3
  have y0 := hb123.cell (p := ⟨w.heap.size + 1, 0, none⟩) (by simp)
  have y1 := hb123.cell (p := ⟨w.heap.size + 1, 1, none⟩) (by simp)
  have y2 := hb123.cell (p := ⟨w.heap.size + 1, 2, none⟩) (by simp)
  have f0 := hb123.frozen (p := ⟨w.heap.size + 1, 0, none⟩) (by simp)
  have f1 := hb123.frozen (p := ⟨w.heap.size + 1, 1, none⟩) (by simp)
  have f2 := hb123.frozen (p := ⟨w.heap.size + 1, 2, none⟩) (by simp)
  simp [go_sem] at y0 y1 y2 f0 f1 f2
  have fin : IsDivW (V3 h m l) b (.tuple #[.agg #[.int .u64 qh, .int .u64 qm, .int .u64 ql], .int .u64 r3]) := by
    refine ⟨_, _, _, _, a1, b1, c1, c2, c3, ?_, rfl⟩
    have A := A4.out
    have B := B4.out
    have C := C4.out
    unfold V2 at A B C
    unfold V3
    rw [Int.add_mul, Int.add_mul, Int.mul_right_comm, Int.mul_right_comm qm]
    omega
  have HB := Lib.hid hb123
  clear hb1 hb2 hb3 hb12 hb123 A4 B4 C4 z0 z1 z2
  go_wp2
  refine bodyPost_ret (by simp [results, Tryz.results78, go_sem, y0, y1, y2]) rfl ⟨_, fin, rfl, ?_⟩
  exact bel_set (bel_set (bel_set (bel_trans (bel_alloc (bel_alloc (Below.refl _ _) _) _) HB.out) (by simp) _) (by simp) _) (by simp) _

theorem div2_eq {h l b qh qm ql r : Int} (h1 : Word h) (h2 : Word l) (a1 : Word qh) (a2 : Word qm) (a3 : Word ql) (a4 : Word r) (hb : 0 < b) (e : V3 qh qm ql * b + r = V3 0 h l) : V2 qm ql * b + r = V2 h l := by
  have z : qh = 0 := by
    rcases Int.lt_or_le 0 qh with hq | hq
    · exfalso
      have hv : 340282366920938463463374607431768211456 ≤ V3 qh qm ql := by
        obtain ⟨_, _⟩ := a2; obtain ⟨_, _⟩ := a3
        unfold V3
        omega
      have : 340282366920938463463374607431768211456 * 1 ≤ V3 qh qm ql * b := Int.mul_le_mul hv (by omega) (by decide) (by omega)
      obtain ⟨_, _⟩ := h1; obtain ⟨_, _⟩ := h2; obtain ⟨_, _⟩ := a4
      unfold V3 at *
      omega
    · have := a1.1
      omega
  subst z
  have e1 : V3 0 qm ql = V2 qm ql := by unfold V3 V2; omega
  have e2 : V3 0 h l = V2 h l := by unfold V3 V2; omega
  rw [← e1, ← e2]
  exact e

/-- A quotient of two words, and a word that is left. -/
def IsDiv2 (a b : Int) (v : Value) : Prop := ∃ h l r : Int, Word h ∧ Word l ∧ Word r ∧ (b = 0 → h = 0 ∧ l = 0 ∧ r = 0) ∧ (0 < b → r < b ∧ V2 h l * b + r = a) ∧ v = .tuple #[.agg #[.int .u64 h, .int .u64 l], .int .u64 r]
theorem div2 (h l b : Int) (h1 : Word h) (h2 : Word l) (h3 : Word b) (w : World) :
    Calls Tryz.prog 41 #[.agg #[.int .u64 h, .int .u64 l], .int .u64 b] w (Ret (IsDiv2 (V2 h l) b) w) := by
  by_cases hb : b = 0
  · subst hb
    have fin : IsDiv2 (V2 h l) 0 (.tuple #[.agg #[.int .u64 0, .int .u64 0], .int .u64 0]) :=
      ⟨0, 0, 0, ⟨by decide, by decide⟩, ⟨by decide, by decide⟩, ⟨by decide, by decide⟩, fun _ => ⟨rfl, rfl, rfl⟩, fun h => absurd h (by decide), rfl⟩
    go_enter Tryz.func41, Tryz.ntmps41
    go_wp2
    refine bodyPost_ret (by simp [results, Tryz.results41, go_sem]) rfl ⟨_, fin, rfl, ?_⟩
    exact bel_alloc (bel_alloc (Below.refl _ _) _) _
  · have t0 : (b == 0) = false := by simp [hb]
    have hb' : 0 < b := by have := h3.1; omega
    go_enter Tryz.func41, Tryz.ntmps41
    go_wp2_with fail
    refine (widen_any _ _ _).mono ?_
    rintro e w1 ⟨rfl, hb1⟩
    go_wp2_with fail
    refine (divWord _ _ _ _ ⟨by decide, by decide⟩ h1 h2 h3 hb' _).mono ?_
    rintro e w2 ⟨v, ⟨qh, qm, ql, r, a1, a2, a3, a4, a5, a6, rfl⟩, rfl, hb2⟩
    have A6 := Lib.hid a6
    clear a6
    go_wp2_with fail
    refine (wlow_any _ _ _ _).mono ?_
    rintro e w3 ⟨rfl, hb3⟩
    have hbb := bel_trans (bel_alloc (bel_trans hb1 hb2) _) hb3
    have r0 := hbb.cell (p := ⟨w.heap.size + 1, 0, none⟩) (by simp)
    have r1 := hbb.cell (p := ⟨w.heap.size + 1, 1, none⟩) (by simp)
    have f0 := hbb.frozen (p := ⟨w.heap.size + 1, 0, none⟩) (by simp)
    have f1 := hbb.frozen (p := ⟨w.heap.size + 1, 1, none⟩) (by simp)
    simp [go_sem] at r0 r1 f0 f1
    have HB := Lib.hid hbb
    have fin : IsDiv2 (V2 h l) b (.tuple #[.agg #[.int .u64 qm, .int .u64 ql], .int .u64 r]) := by
      refine ⟨_, _, _, a2, a3, a4, fun e => absurd e hb, fun _ => ⟨a5, ?_⟩, rfl⟩
      exact div2_eq h1 h2 a1 a2 a3 a4 hb' A6.out
    clear hbb hb1 hb2 hb3 A6
    go_wp2
    refine bodyPost_ret (by simp [results, Tryz.results41, go_sem, r0, r1]) rfl ⟨_, fin, rfl, ?_⟩
    exact bel_set (bel_set (bel_trans (bel_alloc (bel_alloc (Below.refl _ _) _) _) HB.out) (by simp) _) (by simp) _

/-- A call came back with a value of which P holds, and made three blocks. -/
def Ret3 (P : Value → Prop) (t1 t2 t3 : TypeId) (w : World) (e : Ending) (w' : World) : Prop := ∃ v, P v ∧ e = .returned v ∧ ∃ c1 c2 c3 : Array Value, w' = ((w.alloc (.cells c1 t1)).alloc (.cells c2 t2)).alloc (.cells c3 t3)
def Ret2 (P : Value → Prop) (t1 t2 : TypeId) (w : World) (e : Ending) (w' : World) : Prop := ∃ v, P v ∧ e = .returned v ∧ ∃ c1 c2 : Array Value, w' = (w.alloc (.cells c1 t1)).alloc (.cells c2 t2)

theorem sub2x (ah al bh bl : Int) (h1 : Word ah) (h2 : Word al) (h3 : Word bh) (h4 : Word bl) (w : World) :
    Calls Tryz.prog 83 #[.agg #[.int .u64 ah, .int .u64 al], .agg #[.int .u64 bh, .int .u64 bl]] w (Ret3 (IsSub2 (V2 ah al) (V2 bh bl)) 58 58 58 w) := by
  have k0 := bor_ge al bl
  have k1 := bor_le al bl
  have fin := sub2_eq h1 h2 h3 h4
  have A0 : ∀ w, (callFunc 106 #[.int .u64 al, .int .u64 bl, .int .u64 0]).run Tryz.prog w = .ok (.value (.tuple #[.int .u64 (lowOf (al - bl)), .int .u64 (bor al bl)])) w := fun w => by
    have := sub64w al bl 0 h2 h4 (Int.le_refl 0) (by decide) w
    rwa [Int.add_zero] at this
  have A1 := sub64w ah bh _ h1 h3 k0 k1
  go_enter Tryz.func83, Tryz.ntmps83
  go_wp2_with (first | simp only [A0] | simp only [A1])
  exact bodyPost_ret (by simp [results, Tryz.results83, go_sem]) rfl ⟨_, fin, rfl, _, _, _, rfl⟩

theorem widenx (h l : Int) (w : World) : Calls Tryz.prog 77 #[.agg #[.int .u64 h, .int .u64 l]] w (Ret2 (· = .agg #[.int .u64 0, .int .u64 h, .int .u64 l]) 58 113 w) := by
  go_enter Tryz.func77, Tryz.ntmps77
  go_wp2
  exact bodyPost_ret (by simp [results, Tryz.results77, go_sem]) rfl ⟨_, rfl, rfl, _, _, rfl⟩

/-- The root is found but for its n lowest bits. -/
structure Rt (a r : Int) (n : Nat) : Prop where
  mul : ∃ c : Nat, r = ((c * 2 ^ n : Nat) : Int)
  lo : r * r ≤ a
  hi : a < (r + 2 ^ n) * (r + 2 ^ n)
  le : r + 2 ^ n ≤ 18446744073709551616

theorem Rt.word {a r : Int} {n : Nat} (h : Rt a r n) : Word r := by
  obtain ⟨⟨c, rfl⟩, _, _, le⟩ := h
  have := pow_pos' n
  exact ⟨by omega, by omega⟩
theorem Rt.or {a r : Int} {n : Nat} (h : Rt a r (n + 1)) : bits BinOp.or IntKind.u64 r (IntKind.u64.wrap (2 ^ n)) = r + 2 ^ n := by
  have w := h.word
  obtain ⟨⟨c, rfl⟩, _, _, le⟩ := h
  have hp := pow_pos' n
  have e2 : (2 : Int) ^ (n + 1) = 2 ^ n * 2 := Int.pow_succ 2 n
  have e : IntKind.u64.wrap ((2 : Int) ^ n) = ((2 ^ n : Nat) : Int) := by
    rw [IntKind.wrap_u64, Int.emod_eq_of_lt (by omega) (by have := w.1; omega)]
    simp
  have l1 : c * 2 ^ (n + 1) < 18446744073709551616 := by have := w.2; omega
  have l2 : 2 ^ n < 18446744073709551616 := by
    have h1 : ((2 ^ n : Nat) : Int) < 18446744073709551616 := by
      have : ((2 ^ n : Nat) : Int) = 2 ^ n := by simp
      rw [this]
      have := w.1
      omega
    omega
  rw [e, bits_or_u64_nat _ _ l1 l2, Nat.mul_comm c, ← Nat.two_pow_add_eq_or_of_lt (by rw [Nat.pow_succ]; have := Nat.two_pow_pos n; omega), Int.natCast_add]
  simp
theorem Rt.yes {a r : Int} {n : Nat} (h : Rt a r (n + 1)) (hc : (r + 2 ^ n) * (r + 2 ^ n) ≤ a) : Rt a (r + 2 ^ n) n := by
  obtain ⟨⟨c, rfl⟩, _, hi, le⟩ := h
  have e2 : (2 : Int) ^ (n + 1) = 2 ^ n + 2 ^ n := by rw [Int.pow_succ]; omega
  rw [e2, ← Int.add_assoc] at hi le
  refine ⟨⟨c * 2 + 1, ?_⟩, hc, hi, le⟩
  rw [Nat.pow_succ, Nat.add_mul, Nat.mul_assoc, Nat.mul_comm 2, Int.natCast_add]
  simp
theorem Rt.no {a r : Int} {n : Nat} (h : Rt a r (n + 1)) (hc : ¬ (r + 2 ^ n) * (r + 2 ^ n) ≤ a) : Rt a r n := by
  obtain ⟨⟨c, rfl⟩, lo, hi, le⟩ := h
  have e2 : (2 : Int) ^ (n + 1) = 2 ^ n + 2 ^ n := by rw [Int.pow_succ]; omega
  have := pow_pos' n
  refine ⟨⟨c * 2, ?_⟩, lo, by omega, by omega⟩
  rw [Nat.pow_succ, Nat.mul_assoc, Nat.mul_comm 2]
theorem Rt.guess {a r : Int} {n : Nat} (h : Rt a r (n + 1)) : Word (r + 2 ^ n) := by
  have w := h.word
  have := h.le
  have e2 : (2 : Int) ^ (n + 1) = 2 ^ n + 2 ^ n := by rw [Int.pow_succ]; omega
  have := pow_pos' n
  have := w.1
  exact ⟨by omega, by omega⟩
theorem V2_lt {h l : Int} (w1 : Word h) (w2 : Word l) : 0 ≤ V2 h l ∧ V2 h l < 340282366920938463463374607431768211456 := by
  obtain ⟨_, _⟩ := w1; obtain ⟨_, _⟩ := w2
  unfold V2
  constructor <;> omega
theorem blen_le128 {a : Int} (h : 0 ≤ a) (h1 : a < 340282366920938463463374607431768211456) : 0 ≤ blen a ∧ blen a ≤ 128 := by
  obtain ⟨k, e, _, hk, hz⟩ := blen_spec h
  rw [e]
  refine ⟨by omega, ?_⟩
  rcases Int.lt_or_le 0 a with h0 | h0
  · have h2 := (hk h0).1
    rcases Nat.lt_or_ge 128 k with hlt | hge
    · exfalso
      have : (2 : Int) ^ 128 ≤ 2 ^ (k - 1) := by
        have h3 : 2 ^ 128 ≤ 2 ^ (k - 1) := Nat.pow_le_pow_right (by decide) (by omega)
        have h4 : ((2 ^ 128 : Nat) : Int) ≤ ((2 ^ (k - 1) : Nat) : Int) := Int.ofNat_le.2 h3
        simpa using h4
      have e128 : (2 : Int) ^ 128 = 340282366920938463463374607431768211456 := by decide
      omega
    · omega
  · have := hz (by omega)
    omega
/-- Where the search begins. -/
theorem Rt.start {a : Int} (h : 0 ≤ a) (h1 : a < 340282366920938463463374607431768211456) : Rt a 0 (((blen a + 1) / 2).toNat) := by
  obtain ⟨k, e, lt, _, _⟩ := blen_spec h
  have hb := blen_le128 h h1
  rw [e] at hb ⊢
  have hk : k ≤ 2 * (((k : Int) + 1) / 2).toNat := by omega
  have hk2 : (((k : Int) + 1) / 2).toNat ≤ 64 := by omega
  generalize (((k : Int) + 1) / 2).toNat = m at *
  refine ⟨⟨0, by simp⟩, by simpa using h, ?_, ?_⟩
  · have h2 : (2 : Int) ^ k ≤ 2 ^ m * 2 ^ m := by
      rw [← Int.pow_add]
      have h3 : 2 ^ k ≤ 2 ^ (m + m) := Nat.pow_le_pow_right (by decide) (by omega)
      have h4 : ((2 ^ k : Nat) : Int) ≤ ((2 ^ (m + m) : Nat) : Int) := Int.ofNat_le.2 h3
      simpa using h4
    rw [Int.zero_add]
    omega
  · have := pow_le64 m hk2
    omega

/-- Two cells that are there stay as they are: behind a call, behind a new block. -/
theorem kp2b {W w1 : World} {p q : Addr} {u v : Value} (hb : Below W.heap.size W w1) (h : W.cell? p = some u ∧ W.cell? q = some v) : w1.cell? p = some u ∧ w1.cell? q = some v :=
  ⟨(hb.cell (World.block_lt_of_cell? _ _ h.1)).trans h.1, (hb.cell (World.block_lt_of_cell? _ _ h.2)).trans h.2⟩
theorem kpa2 {W : World} {o : Obj} {p q : Addr} {u v : Value} (h : W.cell? p = some u ∧ W.cell? q = some v) : (W.alloc o).cell? p = some u ∧ (W.alloc o).cell? q = some v :=
  kp2b (bel_alloc (Below.refl _ _) o) h
theorem kpad2 {W : World} {o : Obj} {p q : Addr} {u v : Value} (h : W.cell? p = some u ∧ W.cell? q = some v) : (W.alloc o).drew.cell? p = some u ∧ (W.alloc o).drew.cell? q = some v :=
  kp2b (bel_drew (bel_alloc (Below.refl _ _) o)) h

/-- A root, and what is left. -/
def IsSqrt (a : Int) (v : Value) : Prop := ∃ r h l : Int, Word r ∧ Word h ∧ Word l ∧ r * r ≤ a ∧ a < (r + 1) * (r + 1) ∧ V2 h l = a - r * r ∧ v = .tuple #[.int .u64 r, .agg #[.int .u64 h, .int .u64 l]]

theorem sqrt_rest {h l c d : Int} (w1 : Word h) (w2 : Word l) (h0 : 0 ≤ c) (hd : 0 ≤ d) (e : V2 h l - c * 340282366920938463463374607431768211456 = d) : V2 h l = d := by
  have := V2_lt w1 w2
  omega

set_option maxHeartbeats 6400000 in
theorem sqrt2 (h l : Int) (h1 : Word h) (h2 : Word l) (w : World) :
    Calls Tryz.prog 44 #[.agg #[.int .u64 h, .int .u64 l]] w (Ret (IsSqrt (V2 h l)) w) := by
  have V := V2_lt h1 h2
  have st := Rt.start V.1 V.2
  have bl := blen_le128 V.1 V.2
  generalize ha : V2 h l = a at *
  have HA := Lib.hid ha
  clear ha
  go_enter Tryz.func44, Tryz.ntmps44
  go_wp2_with fail
  refine (len2 h l h1 h2 _).mono ?_
  rw [HA.out]
  rintro e w1 ⟨rfl, hb1⟩
  generalize blen a = k at *
  have HB1 : Hid (Below (w.heap.size + 2) ((w.alloc (.cells #[.int .u64 h, .int .u64 l] 58)).alloc (.cells #[.int .u64 0, .int .u64 0] 58)) w1) := hb1.mono (by simp)
  clear hb1
  go_wp2_with fail
  go_loopw [4, 5] (fun s4 s5 wr => ∃ (j r : Int), s5 = .int .i64 j ∧ s4 = .int .u64 r ∧ -1 ≤ j ∧ j ≤ 63 ∧ Rt a r (j + 1).toNat ∧ Hid (Below (w.heap.size + 2) ((w.alloc (.cells #[.int .u64 h, .int .u64 l] 58)).alloc (.cells #[.int .u64 0, .int .u64 0] 58)) wr)) (fun _ s5 _ => (intOf s5 + 1).toNat)
  case atStart => exact ⟨_, _, rfl, rfl, by omega, by omega, by rw [show (k + 1) / 2 - 1 + 1 = (k + 1) / 2 by omega]; exact st, HB1⟩
  case round =>
    clear st HB1
    obtain ⟨j, r, rfl, rfl, hj1, hj2, R, HB⟩ := hrel
    have c0 := HB.out.cell (p := ⟨w.heap.size, 0, none⟩) (by simp)
    have c1 := HB.out.cell (p := ⟨w.heap.size, 1, none⟩) (by simp)
    simp [go_sem] at c0 c1
    by_cases hj : 0 ≤ j
    · obtain ⟨n, rfl⟩ := Int.eq_ofNat_of_zero_le hj
      rw [show ((n : Int) + 1).toNat = n + 1 by omega] at R
      have ro := R.or
      have wg := R.guess
      by_cases hc : (r + 2 ^ n) * (r + 2 ^ n) ≤ a
      · have R' := R.yes hc
        have tc : decide (cmpI ((r + 2 ^ n) * (r + 2 ^ n)) a ≤ 0) = true := by simp only [decide_eq_true_eq]; unfold cmpI; split <;> (try split) <;> omega
        clear R hc
        generalize r + 2 ^ n = g at *
        have TC := Lib.hid tc
        clear tc
        go_wp2_with fail
        go_region_held3 (fun w' => w'.cell? ⟨w.heap.size, 0, none⟩ = some (.int .u64 h) ∧ w'.cell? ⟨w.heap.size, 1, none⟩ = some (.int .u64 l)) (first | exact ⟨c0, c1⟩ | exact kp2b (by assumption) (by assumption) | exact kpad2 (by assumption) | exact kpa2 (by assumption))
          (first
            | (go_at_call 34; refine (mul1x g g wg wg _).mono ?_; rintro e w' ⟨h5, l5, hh5, hl5, hv, rfl, c, rfl⟩; have HV5 := Lib.hid hv; clear hv)
            | (go_at_call 82; refine (cmp2 h5 l5 h l hh5 hl5 h1 h2 _).mono ?_; rw [HV5.out, HA.out]; rintro e w' ⟨rfl, hbc⟩))
        rw [TC.out]
        have hz := HB.out.size
        simp at hz
        have HB' : Hid (Below (w.heap.size + 2) ((w.alloc (.cells #[.int .u64 h, .int .u64 l] 58)).alloc (.cells #[.int .u64 0, .int .u64 0] 58)) w') := (HB.out.alloc (by omega) _).drew.trans (hbc.mono (by simp; omega))
        clear hbc HB HV5 TC
        go_wp2
        go_roundw
        case rel => exact ⟨(n : Int) - 1, _, by go_num, rfl, by omega, by omega, by rw [show ((n : Int) - 1 + 1).toNat = n by omega]; exact R', HB'⟩
        case measure => simp [intOf]
      · have R' := R.no hc
        have tc : decide (cmpI ((r + 2 ^ n) * (r + 2 ^ n)) a ≤ 0) = false := by simp only [decide_eq_false_iff_not]; unfold cmpI; split <;> (try split) <;> omega
        clear R hc
        generalize r + 2 ^ n = g at *
        have TC := Lib.hid tc
        clear tc
        go_wp2_with fail
        go_region_held3 (fun w' => w'.cell? ⟨w.heap.size, 0, none⟩ = some (.int .u64 h) ∧ w'.cell? ⟨w.heap.size, 1, none⟩ = some (.int .u64 l)) (first | exact ⟨c0, c1⟩ | exact kp2b (by assumption) (by assumption) | exact kpad2 (by assumption) | exact kpa2 (by assumption))
          (first
            | (go_at_call 34; refine (mul1x g g wg wg _).mono ?_; rintro e w' ⟨h5, l5, hh5, hl5, hv, rfl, c, rfl⟩; have HV5 := Lib.hid hv; clear hv)
            | (go_at_call 82; refine (cmp2 h5 l5 h l hh5 hl5 h1 h2 _).mono ?_; rw [HV5.out, HA.out]; rintro e w' ⟨rfl, hbc⟩))
        rw [TC.out]
        have hz := HB.out.size
        simp at hz
        have HB' : Hid (Below (w.heap.size + 2) ((w.alloc (.cells #[.int .u64 h, .int .u64 l] 58)).alloc (.cells #[.int .u64 0, .int .u64 0] 58)) w') := (HB.out.alloc (by omega) _).drew.trans (hbc.mono (by simp; omega))
        clear hbc HB HV5 TC
        go_wp2
        go_roundw
        case rel => exact ⟨(n : Int) - 1, _, by go_num, rfl, by omega, by omega, by rw [show ((n : Int) - 1 + 1).toNat = n by omega]; exact R', HB'⟩
        case measure => simp [intOf]
    · have ej : j = -1 := by omega
      subst ej
      have R0 : Rt a r 0 := R
      have wr0 := R0.word
      have lo := R0.lo
      have hi := R0.hi
      rw [Int.pow_zero] at hi
      clear R R0
      go_upto_region 8 with fail
      have hz := HB.out.size
      simp at hz
      go_cut [7] (fun s7 wx => ∃ (g : Nat) (h' l' : Int), s7 = .pointer (some ⟨g, 0, none⟩) ∧ w.heap.size + 2 ≤ g ∧ wx.cell? ⟨g, 0, none⟩ = some (.int .u64 h') ∧ wx.cell? ⟨g, 1, none⟩ = some (.int .u64 l') ∧ Word h' ∧ Word l' ∧ V2 h' l' = a - r * r ∧ Hid (Below (w.heap.size + 2) ((w.alloc (.cells #[.int .u64 h, .int .u64 l] 58)).alloc (.cells #[.int .u64 0, .int .u64 0] 58)) wx))
      case first =>
        go_region_held3 (fun w' => w'.cell? ⟨w.heap.size, 0, none⟩ = some (.int .u64 h) ∧ w'.cell? ⟨w.heap.size, 1, none⟩ = some (.int .u64 l)) ((refine kp2b (W := wr) ?_ ⟨c0, c1⟩; repeat (first | exact Below.refl _ _ | refine bel_drew ?_ | refine bel_alloc ?_ _)))
          (first
            | (go_at_call 34; refine (mul1x r r wr0 wr0 _).mono ?_; rintro e w' ⟨h5, l5, hh5, hl5, hv, rfl, c, rfl⟩; have HV5 := Lib.hid hv; clear hv)
            | (go_at_call 83; refine (sub2x h l h5 l5 h1 h2 hh5 hl5 _).mono ?_; rw [HV5.out, HA.out]; rintro e w' ⟨v, ⟨h6, l6, b6, hh6, hl6, hb60, hb61, hv6, rfl⟩, rfl, d1, d2, d3, rfl⟩; have HV6 := Lib.hid hv6; clear hv6))
        all_goals
          go_wp2_with fail
          go_meet
          refine ⟨_, h6, l6, rfl, by omega, by simp [go_sem], by simp [go_sem], hh6, hl6, sqrt_rest hh6 hl6 hb60 (by omega) HV6.out, ?_⟩
          show Below _ _ _
          refine HB.out.trans ?_
          refine Below.mono (B := wr.heap.size) ?_ (by omega)
          repeat (first | exact Below.refl _ _ | refine bel_drew ?_ | refine bel_alloc ?_ _)
      case rest =>
        obtain ⟨g, h', l', rfl, hg, d0, d1, wh', wl', hv, HB2⟩ := hcut
        have fin : IsSqrt a (.tuple #[.int .u64 r, .agg #[.int .u64 h', .int .u64 l']]) := ⟨_, _, _, wr0, wh', wl', lo, hi, hv, rfl⟩
        have r0 := HB2.out.cell (p := ⟨w.heap.size + 1, 0, none⟩) (by simp)
        have r1 := HB2.out.cell (p := ⟨w.heap.size + 1, 1, none⟩) (by simp)
        have f0 := HB2.out.frozen (p := ⟨w.heap.size + 1, 0, none⟩) (by simp)
        have f1 := HB2.out.frozen (p := ⟨w.heap.size + 1, 1, none⟩) (by simp)
        simp [go_sem] at r0 r1 f0 f1
        clear hv HB lo hi c0 c1 hz
        go_wp2
        go_region
        all_goals
          go_wp2
          refine bodyPost_ret (by simp [results, Tryz.results44, go_sem, r0, r1]) rfl ⟨_, fin, rfl, ?_⟩
          exact bel_drew (bel_set (bel_set ((bel_alloc (bel_alloc (Below.refl _ _) _) _).trans (HB2.out.mono (by omega))) (by simp) _) (by simp) _)

end Go.Proofs.YtkdckclefegocaaGreatDoor
