/-
  The contract of layer 4's Value. Conditions: the float is a word; the table of math/bits stands in its variable.
-/
import Derived.Test.YtdjhpplcdkgfgaaDoorPatc
import Derived.Test.YtdjhpplcdkgfgaaDoorMRb
namespace Go.Proofs.YtdjhpplcdkgfgaaDoor
open Go.RowKit
set_option maxRecDepth 100000

/-- The number that a finite float is. -/
def fV (f : Int) : Rat := dyR (fS f) (fX f) (fY f)
theorem fX_word (f : Int) : Word (fX f) := by
  have := frac_bd (f := f)
  unfold fX Word
  split
  · omega
  · split <;> omega
theorem fY_bd (f : Int) : -1074 ≤ fY f ∧ fY f ≤ 972 := by
  have := exp_bd (f := f)
  unfold fY
  split
  · rename_i h
    have : fE f ≠ 0 := by
      intro k
      unfold fC at h
      rw [if_neg (by omega), if_pos k] at h
      split at h <;> omega
    omega
  · split <;> omega
/-- A fraction and a yes. -/
def RetRB (r : Rat) (L : Nat) (w : World) (e : Ending) (w' : World) : Prop := ∃ x y z, RC w' x y z L r ∧ e = .returned (.tuple #[.agg #[x, y, z], .bool true]) ∧ Below w.heap.size w w'
set_option maxHeartbeats 4000000 in
theorem value_bad (f : Int) (hf : Word f) (h : ¬ fC f < 3) (w : World) : Calls Tryd.prog 17 #[.int .u64 f] w fun e w' => e = .returned (.tuple #[.agg #[.bool false, .slice none 0 0, .slice none 0 0], .bool false]) ∧ Below w.heap.size w w' := by
  go_enter Tryd.func17, Tryd.ntmps17
  go_wp2_with fail
  refine (class_any f hf _).mono ?_
  rintro e w1 ⟨rfl, rfl⟩
  go_wp2_with fail
  try simp only [Exit.inBlock, Exit.then]
  refine bodyPost_ret (v := .tuple #[.agg #[.bool false, .slice none 0 0, .slice none 0 0], .bool false]) (by simp [results, Tryd.results17, go_sem]) rfl ⟨rfl, bel_alloc (Below.refl _ _) _⟩
set_option maxHeartbeats 4000000 in
theorem value_good (f : Int) (hf : Word f) (h : fC f < 3) (w : World) (hT : TabOk w) : Calls Tryd.prog 17 #[.int .u64 f] w (RetRB (fV f) 258 w) := by
  have HS := sign_bit hf
  have yb := fY_bd f
  have HV : Hid (fV f = dyR (fS f) (fX f) (fY f)) := rfl
  have hd : decide (3 ≤ fC f) = false := decide_eq_false (by omega)
  go_enter Tryd.func17, Tryd.ntmps17
  go_wp2_with fail
  refine (class_any f hf _).mono ?_
  rintro e w1 ⟨rfl, rfl⟩
  go_wp2_with fail
  refine (split_any f hf _).mono ?_
  rintro e w1 ⟨rfl, rfl⟩
  go_wp2_with fail
  refine (qdyad_any _ _ _ (fX_word f) (by omega) _ (hT.below (bel_alloc (Below.refl _ _) _))).mono ?_
  rw [← HV.out]
  rintro e w1 ⟨x1, y1, z1, hr, rfl, hb1⟩
  obtain ⟨s1, A1, n1, k1, B1, m1, l1, rfl, rfl, rfl⟩ := hr.form
  have K1 := Blk.made hb1
  have H1 := Lib.hid (bel_trans (bel_alloc (Below.refl _ _) _) hb1)
  clear hb1 HV HS
  obtain ⟨c0, c1, c2, f0, f1, f2⟩ := K1.three
  have hlt := K1.lt
  go_wp2_with fail
  have K6 := (K1.put3 (.bool s1) (.slice A1 n1 k1) (.slice B1 m1 l1)).alloc (.cells #[.bool s1, .slice A1 n1 k1, .slice B1 m1 l1] 39)
  have R6 := (hr.put3 K1 (.bool s1) (.slice A1 n1 k1) (.slice B1 m1 l1)).below (bel_alloc (Below.refl _ _) (.cells #[.bool s1, .slice A1 n1 k1, .slice B1 m1 l1] 39))
  have B6 := Lib.hid (bel_alloc (bel_put3 H1.out (Nat.le_refl _) (.bool s1) (.slice A1 n1 k1) (.slice B1 m1 l1)) (.cells #[.bool s1, .slice A1 n1 k1, .slice B1 m1 l1] 39))
  unfold wput at K6 R6 B6
  clear c0 c1 c2 f0 f1 f2 K1 hr H1
  obtain ⟨c0, c1, c2, -, -, -⟩ := K6.three
  try simp only [Exit.inBlock, Exit.then]
  refine bodyPost_ret (v := .tuple #[.agg #[.bool s1, .slice A1 n1 k1, .slice B1 m1 l1], .bool true]) (by simp [results, Tryd.results17, go_sem, c0, c1, c2]) rfl ⟨_, _, _, R6, rfl, B6.out⟩
end Go.Proofs.YtdjhpplcdkgfgaaDoor
