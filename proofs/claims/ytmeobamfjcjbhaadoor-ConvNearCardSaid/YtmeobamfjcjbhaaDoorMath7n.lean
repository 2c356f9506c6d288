/-
  The mathematics of ConvNear: a float, what is ahead of its point, and what it is rounded to as a whole number, as rational numbers. No function of the program.
-/
import Derived.Test.YtmeobamfjcjbhaaDoorMath7
namespace Go.Proofs.YtmeobamfjcjbhaaDoor
open Go.RowKit
set_option maxRecDepth 100000

theorem fV_mk {f : Int} (hf : Word f) (hc : fC f < 3) : fV f = mkRat (sv (fS f) (fMg f)) (dB 1074) := by
  rw [fV_key hf hc]
  rfl
theorem intR_mk (x : Int) : intR x = mkRat (x * dD) (dB 1074) := by
  unfold intR dD
  have := Rat.mkRat_mul_right (n := x) (d := 1) (a := dB 1074) (dB_ne 1074)
  rw [Nat.one_mul] at this
  exact this.symm
theorem mk_diff {a b : Int} {d : Nat} (hd : d ≠ 0) : mkRat a d - mkRat b d = mkRat (a - b) d := by
  rw [Rat.sub_eq_add_neg, Rat.neg_mkRat, mk_add hd, ← Int.sub_eq_add_neg]
theorem cmpI_nonneg (a b : Int) : decide (0 ≤ cmpI a b) = decide (b ≤ a) := by
  unfold cmpI
  by_cases h : a < b
  · rw [if_pos h, decide_eq_false (by omega : ¬ b ≤ a)]; rfl
  · rw [if_neg h, decide_eq_true (by omega : b ≤ a)]
    split <;> rfl
theorem cmpI_above (a b : Int) : decide (0 < cmpI a b) = decide (b < a) := by
  unfold cmpI
  by_cases h : a < b
  · rw [if_pos h, decide_eq_false (by omega : ¬ b < a)]; rfl
  · rw [if_neg h]
    by_cases h2 : b < a
    · rw [if_pos h2, decide_eq_true h2]; rfl
    · rw [if_neg h2, decide_eq_false h2]; rfl
theorem cmpI_below (a b : Int) : decide (cmpI a b ≤ 0) = decide (a ≤ b) := by
  unfold cmpI
  by_cases h : a < b
  · rw [if_pos h, decide_eq_true (by omega : a ≤ b)]; rfl
  · rw [if_neg h]
    by_cases h2 : b < a
    · rw [if_pos h2, decide_eq_false (by omega : ¬ a ≤ b)]; rfl
    · rw [if_neg h2, decide_eq_true (by omega : a ≤ b)]; rfl
theorem cmpI_apart (a b : Int) : (cmpI a b != 0) = decide (a ≠ b) := by
  rw [bne, cmp_zero]
  simp

/-- What is asked of an integer that a float was cut off to. -/
structure NearT (c f : Int) : Prop where
  near : decide (0 ≤ cmpR (absR (intR (toX c f) - fV f)) (intR 1)) = false
  low : decide (0 < cmpR (absR (intR (toX c f))) (absR (fV f))) = false
  flag : (toG c f == 1) = (cmpR (intR (toX c f)) (fV f) != 0)
theorem near_t {c f : Int} (hf : Word f) (hc : fC f < 3) (hg : toG c f ≠ 16) : NearT c f := by
  have hB : tBad c f = false := by
    cases h : tBad c f
    · rfl
    · exfalso
      apply hg
      unfold toG
      rw [h]
      rfl
  have hX : toX c f = sv (fS f) (vT f) := by unfold toX; rw [hB]; rfl
  have hG : toG c f = if vR f = 0 then 0 else 1 := by unfold toG; rw [hB]; rfl
  have e := vTR f
  obtain ⟨r0, r1⟩ := vR_bd f
  have t0 := vT_nn f
  have p0 := Int.mul_nonneg t0 (Int.le_of_lt dD_pos)
  have hd := dB_ne 1074
  have e1 : intR 1 = mkRat dD (dB 1074) := by rw [intR_mk, Int.one_mul]
  constructor
  · rw [hX, intR_mk, e1, fV_mk hf hc, mk_diff hd, absR_mk hd, cmp_over hd, cmpI_nonneg, ← e, ← sv_mul]
    generalize vT f * dD = P at *
    rw [decide_eq_false]
    unfold sv
    split <;> omega
  · rw [hX, intR_mk, fV_mk hf hc, absR_mk hd, absR_mk hd, cmp_over hd, cmpI_above, ← e, ← sv_mul]
    generalize vT f * dD = P at *
    rw [decide_eq_false]
    unfold sv
    split <;> omega
  · rw [hG, hX, intR_mk, fV_mk hf hc, cmp_over hd, cmpI_apart, ← e, ← sv_mul]
    generalize vT f * dD = P at *
    unfold sv
    by_cases h : vR f = 0
    · rw [if_pos h, decide_eq_false (by split <;> omega)]
      rfl
    · rw [if_neg h, decide_eq_true (by split <;> omega)]
      rfl
/-- What is asked of the whole number that a float is rounded to. -/
structure NearW (md f : Int) : Prop where
  word : Word (whF md f)
  fin : fC (whF md f) < 3
  near : decide (0 ≤ cmpR (absR (fV (whF md f) - fV f)) (intR 1)) = false
  flag : (whG f == 1) = (cmpR (fV (whF md f)) (fV f) != 0)
  up : md = 1 → decide (0 ≤ cmpR (fV (whF md f)) (fV f)) = true
  down : md = 2 → decide (cmpR (fV (whF md f)) (fV f) ≤ 0) = true
theorem near_w {f : Int} (hf : Word f) (hc : fC f < 3) (md : Int) : NearW md f := by
  have hF : whF md f = iF (fS f) (vW md f) := by unfold whF; rw [if_neg (by omega), if_neg (by omega)]
  have hG : whG f = if vR f = 0 then 0 else 1 := by unfold whG; rw [if_neg (by omega)]
  obtain ⟨w1, w2, w3, w4, -⟩ := iF_parts (vW_int hf hc md) (fS f)
  have e := vTR f
  obtain ⟨r0, r1⟩ := vR_bd f
  have hD := dD_pos
  have hd := dB_ne 1074
  have e1 : intR 1 = mkRat dD (dB 1074) := by rw [intR_mk, Int.one_mul]
  have eU : fV (whF md f) = mkRat (sv (fS f) (vW md f * dD)) (dB 1074) := by rw [hF, fV_mk w1 w2, w3, w4]
  have eW : vW md f * dD = vT f * dD + b2i (awH md (fS f) (vT f) (vR f) dD) * dD := by unfold vW; rw [Int.add_mul]
  have hz : vR f = 0 → awH md (fS f) (vT f) (vR f) dD = false := fun h => by rw [h]; exact awH_far md _ hD
  have h1 : md = 1 → awH md (fS f) (vT f) (vR f) dD = (!fS f && decide (vR f ≠ 0)) := fun h => by unfold awH; rw [if_pos h]
  have h2 : md = 2 → awH md (fS f) (vT f) (vR f) dD = (fS f && decide (vR f ≠ 0)) := fun h => by unfold awH; rw [if_neg (by omega), if_pos h]
  have p0 := Int.mul_nonneg (vT_nn f) (Int.le_of_lt dD_pos)
  have k1 : whG f = if vR f = 0 then 0 else 1 := hG
  have eV := fV_mk hf hc
  rw [← e] at eV
  rw [eW] at eU
  generalize vT f * dD = P at *
  generalize awH md (fS f) (vT f) (vR f) dD = U at *
  refine ⟨by rw [hF]; exact w1, by rw [hF]; exact w2, ?_, ?_, fun h => ?_, fun h => ?_⟩
  · rw [eU, e1, eV, mk_diff hd, absR_mk hd, cmp_over hd, cmpI_nonneg, decide_eq_false]
    by_cases hr : vR f = 0
    · rw [hz hr, hr]
      unfold sv b2i
      split <;> simp <;> omega
    · cases U
      · unfold sv b2i
        split <;> simp <;> omega
      · unfold sv b2i
        split <;> simp <;> omega
  · rw [eU, eV, cmp_over hd, cmpI_apart, k1]
    by_cases hr : vR f = 0
    · rw [hz hr, if_pos hr, hr, decide_eq_false]
      · rfl
      · unfold sv b2i
        split <;> simp
    · rw [if_neg hr, decide_eq_true]
      · rfl
      · cases U
        · unfold sv b2i
          split <;> simp <;> omega
        · unfold sv b2i
          split <;> simp <;> omega
  · rw [eU, eV, cmp_over hd, cmpI_nonneg, decide_eq_true]
    have hU := h1 h
    by_cases hr : vR f = 0
    · rw [hz hr, hr]
      unfold sv b2i
      split <;> simp
    · rw [decide_eq_true hr, Bool.and_true] at hU
      rw [hU]
      cases fS f
      · unfold sv b2i
        simp
        omega
      · unfold sv b2i
        simp
        omega
  · rw [eU, eV, cmp_over hd, cmpI_below, decide_eq_true]
    have hU := h2 h
    by_cases hr : vR f = 0
    · rw [hz hr, hr]
      unfold sv b2i
      split <;> simp
    · rw [decide_eq_true hr, Bool.and_true] at hU
      rw [hU]
      cases fS f
      · unfold sv b2i
        simp
        omega
      · unfold sv b2i
        simp
        omega
end Go.Proofs.YtmeobamfjcjbhaaDoor
