/-
  Contracts of slices.MaxFunc at fractions by Cmp, and of ratio's Max. Conditions: at most 1000 fractions, their parts of at most 2^16 words; the table of math/bits stands in its variable.
  Contracts of the reference's trim, one, Low, Minus, Over, Sign, Mul, Add, Cmp and Text of fractions. Conditions: the rows are of at most 2^13 bits.
-/
import Derived.Test.YtgjgcehoakacoaaGreatDoorMRb
namespace Go.Proofs.YtgjgcehoakacoaaGreatDoor
open Go.RowKit
set_option maxRecDepth 100000

/-- The slice's address leads to the fractions vs, three cells each. -/
def RdR (w : World) (A : Option Addr) (vs : List (Value × Value × Value)) : Prop :=
  vs = [] ∨ ∃ g off, A = some ⟨g, off, none⟩ ∧ g < w.heap.size ∧ ∀ i v, vs[i]? = some v → w.cell? ⟨g, off + i * 3, none⟩ = some v.1 ∧ w.cell? ⟨g, off + i * 3 + 1, none⟩ = some v.2.1 ∧ w.cell? ⟨g, off + i * 3 + 2, none⟩ = some v.2.2
/-- Each is a fraction, the i-th one f i. -/
def AllR (w : World) (vs : List (Value × Value × Value)) (L : Nat) (f : Nat → Rat) : Prop := ∀ i v, vs[i]? = some v → RV w v.1 v.2.1 v.2.2 L (f i)
theorem RdR.below {w w' : World} {A : Option Addr} {vs : List (Value × Value × Value)} (h : RdR w A vs) (hb : Below w.heap.size w w') : RdR w' A vs := by
  rcases h with h | ⟨g, off, e, hg, hc⟩
  · exact .inl h
  · refine .inr ⟨g, off, e, Nat.lt_of_lt_of_le hg hb.size, fun i v hi => ?_⟩
    obtain ⟨a, b, c⟩ := hc i v hi
    exact ⟨(hb.cell (p := ⟨g, off + i * 3, none⟩) hg).trans a, (hb.cell (p := ⟨g, off + i * 3 + 1, none⟩) hg).trans b, (hb.cell (p := ⟨g, off + i * 3 + 2, none⟩) hg).trans c⟩
theorem AllR.below {w w' : World} {vs : List (Value × Value × Value)} {L : Nat} {f : Nat → Rat} (h : AllR w vs L f) (hb : Below w.heap.size w w') : AllR w' vs L f := fun i v hi => (h i v hi).below hb
theorem RdR.at_ {w : World} {g off : Nat} {vs : List (Value × Value × Value)} (h : RdR w (some ⟨g, off, none⟩) vs) {i : Nat} {v : Value × Value × Value} (hi : vs[i]? = some v) : w.cell? ⟨g, off + i * 3, none⟩ = some v.1 ∧ w.cell? ⟨g, off + i * 3 + 1, none⟩ = some v.2.1 ∧ w.cell? ⟨g, off + i * 3 + 2, none⟩ = some v.2.2 := by
  rcases h with h | ⟨g', off', e, hg, hc⟩
  · subst h; simp at hi
  · injection e with e
    injection e with e1 e2
    subst e1 e2
    exact hc i v hi

theorem kp_c {W w1 : World} {p : Addr} {a : Value} (hb : Below W.heap.size W w1) (h : W.cell? p = some a) : w1.cell? p = some a := (hb.cell (World.block_lt_of_cell? _ _ h)).trans h
theorem kp6 {W w1 : World} {p q r s t u : Addr} {a b c d e f : Value} (hb : Below W.heap.size W w1) (h1 : W.cell? p = some a) (h2 : W.cell? q = some b) (h3 : W.cell? r = some c) (h4 : W.cell? s = some d) (h5 : W.cell? t = some e) (h6 : W.cell? u = some f) :
    w1.cell? p = some a ∧ w1.cell? q = some b ∧ w1.cell? r = some c ∧ w1.cell? s = some d ∧ w1.cell? t = some e ∧ w1.cell? u = some f :=
  ⟨kp_c hb h1, kp_c hb h2, kp_c hb h3, kp_c hb h4, kp_c hb h5, kp_c hb h6⟩

end Go.Proofs.YtgjgcehoakacoaaGreatDoor
namespace Go.Proofs.YtgjgcehoakacoaaGreatDoor
open Go.RowKit
set_option maxRecDepth 100000

theorem blen_1 : blen 1 = 1 := by decide
theorem RowC.len0 {w : World} {v : Value} {p : Int} {L : Nat} (h : RowC w v p L) : ∃ A n c, v = .slice A n c ∧ ((n : Int) == 0) = decide (p = 0) ∧ n ≤ L := by
  obtain ⟨A, n, c, xs, e, hn, hc, hr, hv, hb, hl⟩ := h
  refine ⟨A, n, c, e, ?_, hl⟩
  rw [hb, blen_zero]
  rw [← hv]
  exact val_nonneg xs
theorem RowC.fit {w : World} {v : Value} {p : Int} {L M : Nat} (h : RowC w v p L) (k : p < 2 ^ M) : RowC w v p M := by
  have h0 := h.nonneg
  obtain ⟨A, n, c, xs, e, hn, hc, hr, hv, hb, hl⟩ := h
  refine ⟨A, n, c, xs, e, hn, hc, hr, hv, hb, ?_⟩
  have := (blen_bd h0 k).2
  omega

theorem q_zero {w : World} {v : Value} {L : Nat} (hL : 1 ≤ L) (h : RowC w v 1 1) : QC w (.bool false) (.slice none 0 0) v L 0 :=
  ⟨rfl, ⟨none, 0, 0, [], rfl, rfl, Nat.le_refl _, .inl rfl, rfl, rfl, Nat.zero_le _⟩, h.mono hL⟩

theorem QC.parts {w : World} {x y z : Value} {L : Nat} {r : Rat} (h : QC w x y z L r) : ∃ s p q, x = .bool s ∧ RowV w y p L ∧ RowV w z q L ∧ rv s p q = r ∧ 0 < q ∧ s = rs r ∧ p = rp r ∧ q = rq r := ⟨_, _, _, h.1, h.2.1.v, h.2.2.v, rv_of r, rq_pos r, rfl, rfl, rfl⟩
end Go.Proofs.YtgjgcehoakacoaaGreatDoor
namespace Go.Proofs.YtgjgcehoakacoaaGreatDoor
open Go.RowKit
set_option maxRecDepth 100000

theorem RowV.drew {w : World} {v : Value} {p : Int} {L : Nat} (h : RowV w v p L) : RowV w.drew v p L := h
theorem QC.drew {w : World} {x y z : Value} {L : Nat} {r : Rat} (h : QC w x y z L r) : QC w.drew x y z L r := h

/-- A difference of rows that is no less than nought, and whatever bool. -/
def RetSubR (p : Int) (L : Nat) (w : World) (e : Ending) (w' : World) : Prop := ∃ v b, RowV w' v p L ∧ e = .returned (.tuple #[v, .bool b]) ∧ Below w.heap.size w w'
theorem kp_1 {W w1 : World} {p : Addr} {a : Value} (hb : Below W.heap.size W w1) (h : W.cell? p = some a) : w1.cell? p = some a := kp_c hb h
theorem kp_1_put {W w1 : World} {g k : Nat} {t : TypeId} {a b c x y z : Value} (hb : Below W.heap.size W w1) (hg : Blk W g t #[a, b, c]) (n1 : g ≠ k) : (((w1.setCell ⟨k, 0, none⟩ x).setCell ⟨k, 1, none⟩ y).setCell ⟨k, 2, none⟩ z).cell? ⟨g, 0, none⟩ = some a := by
  have hg1 := (hg.below hb hg.lt).put3_far n1 x y z
  unfold wput at hg1
  exact hg1.cell 0
theorem kp_r_put {W w1 : World} {g k : Nat} {t : TypeId} {a b c x y z : Value} (hb : Below W.heap.size W w1) (hg : Blk W g t #[a, b, c]) (n1 : g ≠ k) : (((w1.setCell ⟨k, 0, none⟩ x).setCell ⟨k, 1, none⟩ y).setCell ⟨k, 2, none⟩ z).cell? ⟨g, 0, none⟩ = some a ∧ (((w1.setCell ⟨k, 0, none⟩ x).setCell ⟨k, 1, none⟩ y).setCell ⟨k, 2, none⟩ z).cell? ⟨g, 1, none⟩ = some b ∧ (((w1.setCell ⟨k, 0, none⟩ x).setCell ⟨k, 1, none⟩ y).setCell ⟨k, 2, none⟩ z).cell? ⟨g, 2, none⟩ = some c := by
  have hg1 := (hg.below hb hg.lt).put3_far n1 x y z
  unfold wput at hg1
  exact ⟨hg1.cell 0, hg1.cell 1, hg1.cell 2⟩
theorem max_cast (n m : Nat) : max (n : Int) (m : Int) = ((max n m : Nat) : Int) := by omega

end Go.Proofs.YtgjgcehoakacoaaGreatDoor
namespace Go.Proofs.YtgjgcehoakacoaaGreatDoor
open Go.RowKit
set_option maxRecDepth 100000

end Go.Proofs.YtgjgcehoakacoaaGreatDoor
