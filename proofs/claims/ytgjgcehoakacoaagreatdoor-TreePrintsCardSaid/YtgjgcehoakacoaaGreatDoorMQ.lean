/-
  Contracts of the reference's Bits (words of 32 bits as a row of bits, without noughts ahead), Words (back), Same and Is. Conditions: at most 2^15 words, rows of at most 2^20 bits.
  Contracts of the reference's Words (a row of bits as words of 32 bits, none of them nought at the end), Same and Is. Conditions: rows of at most 2^20 bits.
  The contract of the examples of layer 2: they hold. Condition: the table of math/bits stands in its variable.
  The contract of layer 2's helper 'small', and what bounds numbers. Conditions: none.
  Small laws of numbers, and the contract of the reference's Gcd on rows of bits. Conditions: rows of at most 2^20 bits.
  Contracts of the reference's Words (one word) and Text on rows of bits. Conditions: rows of at most 2^19 bits.
-/
import Derived.Test.YtgjgcehoakacoaaGreatDoorMNd
import Derived.Test.YtgjgcehoakacoaaGreatDoorMR
namespace Go.Proofs.YtgjgcehoakacoaaGreatDoor
open Go.RowKit
set_option maxRecDepth 100000

/-- So many bits of the word x behind the words before. -/
structure OfTo32 (ws : List Int) (i : Nat) (x : Int) (zs : List Bool) (j : Nat) : Prop where
  len : zs.length = 32 * i + j
  eq : val zs = nv (ws.take i) + 2 ^ (32 * i) * (x % 2 ^ j)
theorem OfTo32.next {ws : List Int} {i : Nat} {x : Int} {zs : List Bool} {j : Nat} (h : OfTo32 ws i x zs j) (b : Bool) (hb : decide (x / 2 ^ j % 2 = 1) = b) : OfTo32 ws i x (zs ++ [b]) (j + 1) := by
  obtain ⟨h1, h2⟩ := h
  refine ⟨by simp [h1]; omega, ?_⟩
  rw [val_snoc, mod_bit, h2, h1, Int.mul_add, Int.pow_add, ← hb]
  by_cases hx : x / 2 ^ j % 2 = 1
  · simp [hx]
    omega
  · simp [hx]
theorem OfTo32.done {ws : List Int} {i : Nat} {x : Int} {zs : List Bool} (h : OfTo32 ws i x zs 32) (hx : ws.getD i 0 = x) (hw : W32 x) : val zs = nv (ws.take (i + 1)) := by
  rw [h.eq, nv_take_succ, hx, Int.emod_eq_of_lt hw.1 (by have := hw.2; rw [show (2 : Int) ^ 32 = 4294967296 by decide]; exact this)]

/-- A row of the bits of a number, without noughts ahead. -/
structure IsBitsOf (v : Int) (xs : List Bool) : Prop where
  val : val xs = v
  len : (xs.length : Int) = blen v

theorem and_one_u32 (a : Int) (h0 : 0 ≤ a) (h1 : a < 4294967296) : bits BinOp.and IntKind.u32 a 1 = a % 2 := by
  obtain ⟨k, rfl⟩ := Int.eq_ofNat_of_zero_le h0
  have : bits BinOp.and IntKind.u32 (k : Int) ((1 : Nat) : Int) = ((k &&& 1 : Nat) : Int) := u32_and_nat k 1 (by omega) (by decide)
  rw [show ((1 : Nat) : Int) = 1 by rfl] at this
  rw [this, Nat.and_one_is_mod]
  omega

end Go.Proofs.YtgjgcehoakacoaaGreatDoor
namespace Go.Proofs.YtgjgcehoakacoaaGreatDoor
open Go.RowKit
set_option maxRecDepth 100000

theorem run_make_u32s (N : Int) (n : Nat) (hN : N = (n : Int)) (hn : n ≤ 1099511627776) (rs : List Int) (hr : rs = List.replicate n 0) (w : World) :
    (Instr.makeSlice 119 (.int .i64 N) (.int .i64 N)).run Tryz.prog w = .ok (.slice (some ⟨w.heap.size, 0, none⟩) n n) (w.alloc (.cells (wordArr rs) 147)) := by
  obtain ⟨i0, hi, hz0, hz1, hz2⟩ := info_parts u32_info
  subst hN hr
  have h := run_make (P := Tryz.prog) w 119 147 i0 (.int .u32 0) Tryz.underlying119 hi hz0 .i64 .i64 (n : Int) (n : Int) (by omega) (by omega) (by rw [hz2]; omega) (by omega)
  rw [Int.toNat_natCast, hz1, Nat.mul_one] at h
  rw [← wordArr_made]
  exact h

/-- So many bits lie in the words. -/
structure WdTo (xs : List Bool) (zs : List Int) (L i : Nat) : Prop where
  len : zs.length = L
  all : AllW zs
  eq : nv zs = val (xs.take i)
theorem WdTo.room {xs : List Bool} {zs : List Int} {L i : Nat} (h : WdTo xs zs L i) : zs.getD (i / 32) 0 < 2 ^ (i % 32) := by
  obtain ⟨h1, h2, h3⟩ := h
  have l1 := val_lt (xs.take i)
  have l2 := pow_mono (xs.take i).length i (by rw [List.length_take]; omega)
  have e1 : nv zs / 2 ^ (32 * (i / 32)) = nv (zs.drop (i / 32)) := nv_div zs h2 _
  have e2 : zs.getD (i / 32) 0 ≤ nv (zs.drop (i / 32)) := by
    rw [nv_tail (zs.drop (i / 32)), getD0_drop, Nat.add_zero]
    have := nv_nonneg (zs.drop (i / 32)).tail fun y hy => (h2.drop _) y (List.mem_of_mem_tail hy)
    omega
  have e3 : nv zs / 2 ^ (32 * (i / 32)) < 2 ^ (i % 32) := by
    rw [Int.ediv_lt_iff_lt_mul (pow_pos' _), ← Int.pow_add, show i % 32 + 32 * (i / 32) = i by omega]
    omega
  omega
theorem WdTo.yes {xs : List Bool} {zs : List Int} {L i : Nat} {z : Int} (h : WdTo xs zs L i) (hi : i / 32 < L) (hx : xs.getD i false = true) (ez : zs.getD (i / 32) 0 = z) : WdTo xs (zs.set (i / 32) (z + 2 ^ (i % 32))) L (i + 1) := by
  have hr := h.room
  rw [ez] at hr
  obtain ⟨h1, h2, h3⟩ := h
  have wz := h2.getD (i / 32)
  rw [ez] at wz
  have p2 : (2 : Int) ^ (i % 32) + 2 ^ (i % 32) ≤ 4294967296 := by
    have := pow_mono (i % 32 + 1) 32 (by omega)
    rw [Int.pow_succ, show (2 : Int) ^ 32 = 4294967296 by decide] at this
    omega
  have p1 := pow_pos' (i % 32)
  refine ⟨by rw [List.length_set, h1], h2.set _ ⟨by have := wz.1; omega, by omega⟩, ?_⟩
  rw [nv_set _ _ _ (by omega), ez, val_take_succ, hx, h3, if_pos rfl, show z + 2 ^ (i % 32) - z = 2 ^ (i % 32) by omega, ← Int.pow_add, show 32 * (i / 32) + i % 32 = i by omega]
theorem WdTo.no {xs : List Bool} {zs : List Int} {L i : Nat} (h : WdTo xs zs L i) (hx : xs.getD i false = false) : WdTo xs zs L (i + 1) := by
  obtain ⟨h1, h2, h3⟩ := h
  exact ⟨h1, h2, by rw [val_take_succ, hx, h3]; simp⟩

/-- What Words hands back. -/
def RetWs (v : Int) (w : World) (e : Ending) (w' : World) : Prop :=
  ∃ (ws : List Int) (A : Option Addr) (n c : Nat), IsNat v ws ∧ ws.length = n ∧ e = .returned (.slice A n c) ∧ n ≤ c ∧ Rn w' A ws ∧ Below w.heap.size w w'

end Go.Proofs.YtgjgcehoakacoaaGreatDoor
namespace Go.Proofs.YtgjgcehoakacoaaGreatDoor
open Go.RowKit
set_option maxRecDepth 100000

theorem isNat_of (v : Int) (ws : List Int) (h1 : nv ws = v) (h2 : ws.all (fun x => decide (0 ≤ x) && decide (x < 4294967296)) = true) (h3 : tlen ws = ws.length) : IsNat v ws := by
  refine ⟨h1, fun x hx => ?_, h3⟩
  have := List.all_eq_true.1 h2 x hx
  simp only [Bool.and_eq_true, decide_eq_true_eq] at this
  exact this
theorem bytes_eq {s : ByteArray} {l : List UInt8} (h : s.data.toList = l) : s = ⟨l.toArray⟩ := by
  obtain ⟨⟨d⟩⟩ := s
  simp at h
  rw [h]

end Go.Proofs.YtgjgcehoakacoaaGreatDoor
namespace Go.Proofs.YtgjgcehoakacoaaGreatDoor
open Go.RowKit
set_option maxRecDepth 100000

/-- Are the slices short enough? -/
def smallB (ls : List (Option Addr × Nat × Nat)) : Bool := ls.all fun p => decide (p.2.1 ≤ 24)
theorem add_bd {x y : Int} {a b c : Nat} (h1 : x < 2 ^ (32 * a)) (h2 : y < 2 ^ (32 * b)) (h3 : a < c) (h4 : b < c) : x + y < 2 ^ (32 * c) := by
  have l1 := pow_mono (32 * a) (32 * (c - 1)) (by omega)
  have l2 := pow_mono (32 * b) (32 * (c - 1)) (by omega)
  have l3 := pow32 (c - 1)
  rw [show c - 1 + 1 = c by omega] at l3
  have := pow_pos' (32 * (c - 1))
  omega
theorem mul_bd {x y : Int} {a b c : Nat} (h0 : 0 ≤ x) (h1 : x < 2 ^ (32 * a)) (h2 : y < 2 ^ (32 * b)) (h3 : a + b = c) : x * y < 2 ^ (32 * c) := by
  subst h3
  rw [pow_off]
  have a1 : x * y ≤ x * 2 ^ (32 * b) := Int.mul_le_mul_of_nonneg_left (by omega) h0
  have a2 : x * 2 ^ (32 * b) < 2 ^ (32 * a) * 2 ^ (32 * b) := Int.mul_lt_mul_of_pos_right h1 (pow_pos' _)
  omega
/-- What is known of a number that was handed in: at most 24 words. -/
theorem in_bd {us : List Int} {n : Nat} (hu : AllW us) (hn : us.length = n) (h : n ≤ 24) (B : Nat) (hB : 24 ≤ B) : nv us < 2 ^ (32 * B) := by
  have := nv_lt us hu
  rw [hn] at this
  have := pow_mono (32 * n) (32 * B) (by omega)
  omega
/-- Of a row of a number's bits. -/
theorem IsBitsOf.le {v : Int} {xs : List Bool} {B : Nat} (h : IsBitsOf v xs) (h0 : 0 ≤ v) (h1 : v < 2 ^ B) : xs.length ≤ B := by
  have := (blen_bd h0 h1).2
  have := h.len
  omega
end Go.Proofs.YtgjgcehoakacoaaGreatDoor
namespace Go.Proofs.YtgjgcehoakacoaaGreatDoor
open Go.RowKit
set_option maxRecDepth 100000

theorem blen_pos {v : Int} (h : 0 < v) : (blen v == 0) = false := by
  obtain ⟨k, e, _, ge, _⟩ := blen_spec (Int.le_of_lt h)
  have := (ge h).2
  rw [e]
  simp
  omega
theorem gcd_nonneg (a b : Int) : 0 ≤ gcdI a b := by unfold gcdI; omega
theorem gcd_bd {a b : Int} {k : Nat} (ha : 0 ≤ a) (hb : 0 ≤ b) (h1 : a < 2 ^ k) (h2 : b < 2 ^ k) : gcdI a b < 2 ^ k := by
  by_cases h0 : a = 0
  · rw [h0, gcdI_zero_left hb]
    exact h2
  · have := (gcdI_le (a := a) (b := b) (by omega)).2
    omega
theorem gcd_zero {a b : Int} (ha : 0 ≤ a) (hb : 0 ≤ b) (h : gcdI a b = 0) : a = 0 ∧ b = 0 := by
  unfold gcdI at h
  have h1 : Nat.gcd a.toNat b.toNat = 0 := by omega
  rw [Nat.gcd_eq_zero_iff] at h1
  omega
theorem gcd_comm (a b : Int) : gcdI b a = gcdI a b := by unfold gcdI; rw [Nat.gcd_comm]
theorem gcd_rests {a b : Int} (ha : 0 ≤ a) (hb : 0 ≤ b) (h : gcdI a b ≠ 0) : a % gcdI a b = 0 ∧ b % gcdI a b = 0 ∧ gcdI (a / gcdI a b) (b / gcdI a b) = 1 := by
  obtain ⟨x, rfl⟩ := Int.eq_ofNat_of_zero_le ha
  obtain ⟨y, rfl⟩ := Int.eq_ofNat_of_zero_le hb
  unfold gcdI at h ⊢
  simp only [Int.toNat_natCast] at h ⊢
  have hg : 0 < Nat.gcd x y := by omega
  rw [← Int.natCast_emod, ← Int.natCast_emod, ← Int.natCast_ediv, ← Int.natCast_ediv]
  simp only [Int.toNat_natCast]
  refine ⟨?_, ?_, ?_⟩
  · rw [Nat.mod_eq_zero_of_dvd (Nat.gcd_dvd_left x y)]; rfl
  · rw [Nat.mod_eq_zero_of_dvd (Nat.gcd_dvd_right x y)]; rfl
  · rw [Nat.gcd_div (Nat.gcd_dvd_left x y) (Nat.gcd_dvd_right x y), Nat.div_self hg]; rfl

/-- A call came back with a row of which P holds. -/
def RetRw (P : List Bool → Prop) (w : World) (e : Ending) (w' : World) : Prop := ∃ (xs : List Bool) (A : Option Addr) (c : Nat), P xs ∧ e = .returned (.slice A xs.length c) ∧ xs.length ≤ c ∧ Rd w' A xs ∧ Below w.heap.size w w'
def IsGcdR (v : Int) (n : Nat) (xs : List Bool) : Prop := val xs = v ∧ xs.length ≤ n

end Go.Proofs.YtgjgcehoakacoaaGreatDoor
namespace Go.Proofs.YtgjgcehoakacoaaGreatDoor
open Go.RowKit
set_option maxRecDepth 100000

theorem u64_info : (Tryz.prog.info? 34).map (fun i => (i.zero, i.size, i.bytes)) = some (some (.int .u64 0), 1, 8) := by kernel_rfl
theorem or_bit64 (z : Int) (i : Nat) (h0 : 0 ≤ z) (h1 : z < 2 ^ i) (hi : i < 64) : bits BinOp.or IntKind.u64 z (2 ^ i) = z + 2 ^ i := by
  obtain ⟨z, rfl⟩ := Int.eq_ofNat_of_zero_le h0
  have h2 : z < 2 ^ i := by
    have : (z : Int) < ((2 ^ i : Nat) : Int) := by simpa using h1
    omega
  have h3 : 2 ^ i ≤ 2 ^ 63 := Nat.pow_le_pow_right (by decide) (by omega)
  have h4 : (2 : Nat) ^ 63 = 9223372036854775808 := by decide
  have e : (2 : Int) ^ i = ((2 ^ i : Nat) : Int) := by simp
  have e2 : 2 ^ i * 1 + z = 2 ^ i * 1 ||| z := Nat.two_pow_add_eq_or_of_lt h2 1
  rw [Nat.mul_one] at e2
  rw [e, bits_or_u64_nat _ _ (by omega) (by omega), Nat.or_comm, ← e2, Int.natCast_add, Int.add_comm]

/-- One word comes back, in a block of its own. -/
def RetW1 (v : Int) (w : World) (e : Ending) (w' : World) : Prop :=
  ∃ g : Nat, e = .returned (.slice (some ⟨g, 0, none⟩) 1 1) ∧ w.heap.size ≤ g ∧ Blk w' g 34 #[.int .u64 v] ∧ Below w.heap.size w w'

/-- So many digits of V, the last ones; v is what is left. -/
structure TxR (V v : Int) (l : List UInt8) : Prop where
  dig : l.all isDig = true
  eq : v * 10 ^ l.length + dval l = V
  v0 : 0 ≤ v
  head : v = 0 → ∀ c, l.head? = some c → c.toNat ≠ 48
theorem TxR.next {V v q r : Int} {l : List UInt8} (h : TxR V v l) (e : q * 10 + r = v) (h0 : 0 ≤ r) (h1 : r < 10) (hv : 0 < v) (c : UInt8) (hc : (c.toNat : Int) = 48 + r) : TxR V q (c :: l) := by
  obtain ⟨a1, a2, a3, a4⟩ := h
  refine ⟨?_, ?_, by omega, fun hq c' hc' => ?_⟩
  · simp only [List.all_cons, Bool.and_eq_true]
    refine ⟨?_, a1⟩
    unfold isDig
    simp only [Bool.and_eq_true, decide_eq_true_eq]
    omega
  · rw [dval_cons, List.length_cons, Int.pow_succ, hc, show 48 + r - 48 = r by omega, ← a2, ← e, Int.add_mul, Int.mul_assoc q, Int.mul_comm 10]
    omega
  · simp at hc'
    subst hc'
    omega
theorem TxR.done {V : Int} {l : List UInt8} (h : TxR V 0 l) (hl : l ≠ []) : IsText V l := by
  obtain ⟨a1, a2, a3, a4⟩ := h
  rcases l with _ | ⟨c, l⟩
  · exact absurd rfl hl
  have hc := a4 rfl c rfl
  have h1 := dval_low a1 hc
  have hp : (0 : Int) < 10 ^ l.length := Int.pow_pos (by decide)
  have e : dval (c :: l) = V := by rw [Int.zero_mul] at a2; omega
  exact ⟨a1, e, hl, fun h => by omega, fun _ d hd => by simp at hd; rw [← hd]; exact hc⟩

end Go.Proofs.YtgjgcehoakacoaaGreatDoor
