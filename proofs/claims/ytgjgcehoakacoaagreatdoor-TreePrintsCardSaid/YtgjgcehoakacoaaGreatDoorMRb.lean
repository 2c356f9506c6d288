/-
  Contracts of ratio's addSigned, Add, Sub, Mul, Div, Cmp, Len, Text and Dyad over rational numbers. Conditions: the parts are of at most 2^16 words; the table of math/bits stands in its variable.
-/
import Derived.Test.YtgjgcehoakacoaaGreatDoorMRa
namespace Go.Proofs.YtgjgcehoakacoaaGreatDoor
open Go.RowKit
set_option maxRecDepth 100000

/-- A sign and a natural number, together the number v. -/
def RetSg (v : Int) (L : Nat) (w : World) (e : Ending) (w' : World) : Prop := ∃ s x n, NatC w' x n L ∧ sv s n = v ∧ e = .returned (.tuple #[.bool s, x]) ∧ Below w.heap.size w w'
theorem NatV.drew {w : World} {v : Value} {p : Int} {L : Nat} (h : NatV w v p L) : NatV w.drew v p L := h
theorem NatC.drew {w : World} {v : Value} {p : Int} {L : Nat} (h : NatC w v p L) : NatC w.drew v p L := h
theorem TabOk.drew {w : World} (h : TabOk w) : TabOk w.drew := h
/-- What two structs' blocks read as stays behind a call. -/
theorem kp_rr {W w1 : World} {g h : Nat} {t u : TypeId} {a b c d e f : Value} (hb : Below W.heap.size W w1) (hg : Blk W g t #[a, b, c]) (hh : Blk W h u #[d, e, f]) :
    w1.cell? ⟨g, 0, none⟩ = some a ∧ w1.cell? ⟨g, 1, none⟩ = some b ∧ w1.cell? ⟨g, 2, none⟩ = some c ∧ w1.cell? ⟨h, 0, none⟩ = some d ∧ w1.cell? ⟨h, 1, none⟩ = some e ∧ w1.cell? ⟨h, 2, none⟩ = some f := by
  have hg1 := hg.below hb hg.lt
  have hh1 := hh.below hb hh.lt
  exact ⟨hg1.cell 0, hg1.cell 1, hg1.cell 2, hh1.cell 0, hh1.cell 1, hh1.cell 2⟩
/-- And behind a third struct's being written. -/
theorem kp_rr_put {W w1 : World} {g h k : Nat} {t u : TypeId} {a b c d e f x y z : Value} (hb : Below W.heap.size W w1) (hg : Blk W g t #[a, b, c]) (hh : Blk W h u #[d, e, f]) (n1 : g ≠ k) (n2 : h ≠ k) :
    (((w1.setCell ⟨k, 0, none⟩ x).setCell ⟨k, 1, none⟩ y).setCell ⟨k, 2, none⟩ z).cell? ⟨g, 0, none⟩ = some a ∧ (((w1.setCell ⟨k, 0, none⟩ x).setCell ⟨k, 1, none⟩ y).setCell ⟨k, 2, none⟩ z).cell? ⟨g, 1, none⟩ = some b ∧ (((w1.setCell ⟨k, 0, none⟩ x).setCell ⟨k, 1, none⟩ y).setCell ⟨k, 2, none⟩ z).cell? ⟨g, 2, none⟩ = some c ∧
    (((w1.setCell ⟨k, 0, none⟩ x).setCell ⟨k, 1, none⟩ y).setCell ⟨k, 2, none⟩ z).cell? ⟨h, 0, none⟩ = some d ∧ (((w1.setCell ⟨k, 0, none⟩ x).setCell ⟨k, 1, none⟩ y).setCell ⟨k, 2, none⟩ z).cell? ⟨h, 1, none⟩ = some e ∧ (((w1.setCell ⟨k, 0, none⟩ x).setCell ⟨k, 1, none⟩ y).setCell ⟨k, 2, none⟩ z).cell? ⟨h, 2, none⟩ = some f := by
  have hg1 := (hg.below hb hg.lt).put3_far n1 x y z
  have hh1 := (hh.below hb hh.lt).put3_far n2 x y z
  unfold wput at hg1 hh1
  exact ⟨hg1.cell 0, hg1.cell 1, hg1.cell 2, hh1.cell 0, hh1.cell 1, hh1.cell 2⟩

theorem sgn_ne {s : Bool} {p q : Int} (hp : 0 ≤ p) (hq : 0 ≤ q) (h : sgn (rv s p q) ≠ 0) : 0 < p ∧ 0 < q := by
  rw [sgn_rv hp hq] at h
  by_cases h0 : p = 0 ∨ q = 0
  · rw [if_pos h0] at h; exact absurd rfl h
  · omega
end Go.Proofs.YtgjgcehoakacoaaGreatDoor
namespace Go.Proofs.YtgjgcehoakacoaaGreatDoor
open Go.RowKit
set_option maxRecDepth 100000

theorem sum_rv {s t s' : Bool} {p q a b n : Int} (hq : 0 < q) (hb : 0 < b) (h : sv s' n = sv s (p * b) + sv t (a * q)) : rv s' n (q * b) = rv s p q + rv t a b := by
  rw [rv_add hq hb]
  unfold rv
  rw [h]
  congr 1
  cases s <;> cases t <;> simp [sv, Int.neg_mul]

end Go.Proofs.YtgjgcehoakacoaaGreatDoor
namespace Go.Proofs.YtgjgcehoakacoaaGreatDoor
open Go.RowKit
set_option maxRecDepth 100000

theorem cmpI_zero {a b : Int} (h : cmpI a b = 0) : a = b := by
  unfold cmpI at h
  split at h
  · cases h
  · split at h
    · cases h
    · omega
theorem same_sign {s t : Bool} {p q a b : Int} (hp : 0 < p) (hq : 0 < q) (ha : 0 < a) (hb : 0 < b) (h : sgn (rv s p q) = sgn (rv t a b)) : s = t := by
  rw [sgn_rv (Int.le_of_lt hp) (Int.le_of_lt hq), sgn_rv (Int.le_of_lt ha) (Int.le_of_lt hb), if_neg (by omega), if_neg (show ¬ (a = 0 ∨ b = 0) by omega)] at h
  cases s <;> cases t <;> simp at h ⊢
theorem wrap_sign {g c : Int} (h : g = -1 ∨ g = 1) (h0 : -1 ≤ c) (h1 : c ≤ 1) : IntKind.i64.wrap (g * c) = g * c := by
  rcases h with h | h <;> subst h
  · have : c = -1 ∨ c = 0 ∨ c = 1 := by omega
    rcases this with h | h | h <;> subst h <;> decide
  · have : c = -1 ∨ c = 0 ∨ c = 1 := by omega
    rcases this with h | h | h <;> subst h <;> decide

theorem blen_le {w : World} {v : Value} {p : Int} {L : Nat} (h : NatV w v p L) : 0 ≤ blen p ∧ blen p ≤ 32 * L := by
  have := blen_bd h.nonneg h.lt
  omega
theorem kp_r {W w1 : World} {g : Nat} {t : TypeId} {a b c : Value} (hb : Below W.heap.size W w1) (hg : Blk W g t #[a, b, c]) :
    w1.cell? ⟨g, 0, none⟩ = some a ∧ w1.cell? ⟨g, 1, none⟩ = some b ∧ w1.cell? ⟨g, 2, none⟩ = some c := by
  have hg1 := hg.below hb hg.lt
  exact ⟨hg1.cell 0, hg1.cell 1, hg1.cell 2⟩
theorem wrap_in {a : Int} (h0 : -9223372036854775808 ≤ a) (h1 : a ≤ 9223372036854775807) : IntKind.i64.wrap a = a := IntWalk.i64_in a ⟨h0, h1⟩

end Go.Proofs.YtgjgcehoakacoaaGreatDoor
namespace Go.Proofs.YtgjgcehoakacoaaGreatDoor
open Go.RowKit
set_option maxRecDepth 100000

/-- The text of a rational number. -/
def IsRText (r : Rat) (l : List UInt8) : Prop := ∃ l1 l2, IsText (rp r) l1 ∧ IsText (rq r) l2 ∧ l = (if rs r then [45] else []) ++ l1 ++ (if rq r = 1 then [] else 47 :: l2)
theorem IsRText.eq {r : Rat} {l m : List UInt8} (h : IsRText r l) (k : IsRText r m) : l = m := by
  obtain ⟨l1, l2, a, b, rfl⟩ := h
  obtain ⟨m1, m2, c, d, rfl⟩ := k
  rw [a.eq c, b.eq d]
theorem blen_one {q : Int} (h : 0 < q) : decide (1 < blen q) = decide (q ≠ 1) := by
  obtain ⟨k, e, lt, ge, _⟩ := blen_spec (Int.le_of_lt h)
  obtain ⟨ge, k1⟩ := ge h
  rw [e]
  by_cases h1 : q = 1
  · rw [h1] at ge
    have : k = 1 := by
      rcases Nat.lt_or_ge 1 k with h2 | h2
      · have := pow_mono 1 (k - 1) (by omega)
        omega
      · omega
    subst this
    simp [h1]
  · have : 1 < k := by
      rcases Nat.lt_or_ge 1 k with h2 | h2
      · exact h2
      · have : k = 1 := by omega
        subst this
        simp at lt
        omega
    simp [h1]
    omega

theorem IsText.len {v : Int} {l : List UInt8} {b : Nat} (h : IsText v l) (hv : v < 2 ^ b) : l.length ≤ b + 1 := by
  by_cases h0 : v = 0
  · rw [h.zero h0]
    simp
  · rcases l with _ | ⟨c, m⟩
    · simp
    · have h1 := dval_low h.dig (h.head h0 c rfl)
      rw [h.val] at h1
      have h2 := pow2_10 m.length
      rcases Nat.lt_or_ge m.length b with h3 | h3
      · simp; omega
      · have := pow_mono b m.length h3
        omega
theorem IsText.size {v : Int} {s : ByteArray} {L : Nat} (h : IsText v s.data.toList) (hv : v < 2 ^ (32 * L)) (hL : L ≤ 65536) : s.size ≤ 2097153 := by
  have := h.len hv
  rw [Lib.size_eq]
  omega
theorem isText_one : IsText 1 [49] := ⟨by decide, by decide, by simp, fun h => absurd h (by decide), fun _ c hc => by simp at hc; subst hc; decide⟩

/-- A number shifted up, no error. -/
def RetShlV (v : Int) (K : Nat) (w : World) (e : Ending) (w' : World) : Prop := ∃ x, NatC w' x v K ∧ e = .returned (.tuple #[x, .int .i64 0]) ∧ Below w.heap.size w w'
theorem nshlV {w : World} {x : Value} {p : Int} {L : Nat} (h : NatV w x p L) (N : Int) (hL : L ≤ 1048576) (hN : p ≠ 0 → blen p ≤ 65536 - max N 0) (K : Nat) (hK : 2 ^ (max N 0).toNat * p < 2 ^ (32 * K)) : Calls Tryz.prog 136 #[x, .int .i64 N] w (RetShlV (2 ^ (max N 0).toNat * p) K w) := by
  obtain ⟨A, n, c, us, rfl, hn, hc, hr, ha, hv, hl⟩ := h
  by_cases h0 : p = 0
  · refine (nshl_zero A n c us N w hn hc hr ha (by omega) (by rw [hv, h0])).mono fun e w' r => ?_
    obtain ⟨ws, A', n', c', i, hn', e1, hc', hr', hb⟩ := r
    have ez : 2 ^ (max N 0).toNat * p = 0 := by rw [h0, Int.mul_zero]
    rw [ez] at hK ⊢
    exact ⟨_, ⟨A', n', c', ws, rfl, hn', hc', hr', i, by rw [← hn']; exact i.le hK⟩, e1, hb⟩
  · refine (nshl_ok A n c us N w hn hc hr ha (by omega) (by rw [hv]; exact h0) (by rw [hv]; have := hN h0; omega)).mono fun e w' r => ?_
    rw [hv] at r
    obtain ⟨ws, A', n', c', i, hn', e1, hc', hr', hb⟩ := r
    exact ⟨_, ⟨A', n', c', ws, rfl, hn', hc', hr', i, by rw [← hn']; exact i.le hK⟩, e1, hb⟩
/-- m * 2^e, with a sign. -/
def dyR (s : Bool) (m e : Int) : Rat := rv s (2 ^ (max e 0).toNat * m) (2 ^ (max (-e) 0).toNat * 1)
theorem shl_bd {m : Int} (hm : Word m) {k : Nat} (hk : k ≤ 8192) : (2 : Int) ^ k * m < 2 ^ (32 * 258) := by
  have h1 : (2 : Int) ^ k * m ≤ 2 ^ k * 2 ^ 64 := Int.mul_le_mul_of_nonneg_left (by have := hm.2; rw [show (2 : Int) ^ 64 = 18446744073709551616 by decide]; omega) (Int.le_of_lt (pow_pos' k))
  rw [← Int.pow_add] at h1
  have h2 := pow_mono (k + 64) 8256 (by omega)
  have h3 : (2 : Int) ^ k * m < 2 ^ k * 2 ^ 64 := Int.mul_lt_mul_of_pos_left (by have := hm.2; rw [show (2 : Int) ^ 64 = 18446744073709551616 by decide]; omega) (pow_pos' k)
  rw [← Int.pow_add] at h3
  rw [show 32 * 258 = 8256 by decide]
  omega
theorem shl_len {m : Int} (hm : Word m) {N : Int} (hN : N ≤ 8192) : blen m ≤ 65536 - max N 0 := by
  have := (blen_bd (k := 64) hm.1 (by rw [show (2 : Int) ^ 64 = 18446744073709551616 by decide]; exact hm.2)).2
  omega
end Go.Proofs.YtgjgcehoakacoaaGreatDoor
