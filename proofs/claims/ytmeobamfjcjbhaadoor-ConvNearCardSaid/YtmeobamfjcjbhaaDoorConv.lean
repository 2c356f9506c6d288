/-
  Contracts of layer 7's small functions and of FromInt and Whole. Conditions: floats are words, an integer is one of 64 bits.
-/
import Derived.Test.YtmeobamfjcjbhaaDoorMath7
import Derived.Test.YtmeobamfjcjbhaaDoorMSa
namespace Go.Proofs.YtmeobamfjcjbhaaDoor
open Go.RowKit
set_option maxRecDepth 100000

theorem vneg_any (f : Int) (hf : Word f) (w : World) : Calls Tryd.prog 26 #[.int .u64 f] w fun x w' => x = .returned (.bool (fS f)) ∧ w = w' := by
  go_enter Tryd.func26, Tryd.ntmps26
  go_wp2_with fail
  refine (parts_any f hf _).mono ?_
  rintro e w1 ⟨rfl, rfl⟩
  go_wp2_with fail
  go_ret
  exact ⟨rfl, rfl⟩
theorem vzero_any (f : Int) (hf : Word f) (w : World) : Calls Tryd.prog 31 #[.int .u64 f] w fun x w' => x = .returned (.int .u8 (if fS f then 1 else 2)) ∧ w = w' := by
  have NF := Lib.hid (vneg_any f hf)
  generalize fS f = s at *
  go_enter Tryd.func31, Tryd.ntmps31
  go_wp2_with fail
  refine (NF.out _).mono ?_
  rintro e w1 ⟨rfl, rfl⟩
  cases s
  · go_wp2_with fail
    go_ret
    exact ⟨rfl, rfl⟩
  · go_wp2_with fail
    go_ret
    exact ⟨rfl, rfl⟩

/-- An integer of one word, rounded. -/
theorem round_int (neg : Bool) (c md : Int) (h : Word c) (w : World) : Calls Tryd.prog 27 #[.bool neg, .agg #[.int .u64 0, .int .u64 c], .int .i64 0, .bool false, .int .u8 md] w (RetF (rF md neg (2 * (c * dD)) false) (rG md neg (2 * (c * dD)) false) w) := by
  by_cases hz : c = 0
  · subst hz
    rw [Int.zero_mul, Int.mul_zero, (rF_nil md neg).1, (rF_nil md neg).2]
    exact round_zero neg 0 false md w
  · obtain ⟨i1, i2⟩ := int_round c
    have hc : 0 < c := by have := h.1; omega
    have RP := round_pos neg 0 c 0 false md ⟨by decide, by decide⟩ h (by rw [V2_low]; exact hc) w _ _ rfl rfl
    rw [V2_low, Bool.false_and, i1, i2] at RP
    exact RP

set_option maxHeartbeats 2000000 in
theorem vfrom_any (x md : Int) (h0 : -9223372036854775808 ≤ x) (h1 : x ≤ 9223372036854775807) (w : World) : Calls Tryd.prog 12 #[.int .i64 x, .int .u8 md] w (RetF (fiF md x) (fiG md x) w) := by
  have R := Lib.hid (round_int (decide (x < 0)) (x.natAbs : Int) md ⟨by omega, by omega⟩)
  by_cases h : x < 0
  · have e1 : IntKind.u64.wrap (-IntKind.u64.wrap x) = (x.natAbs : Int) := by simp only [IntKind.wrap_u64]; omega
    have e2 : decide (x < 0) = true := decide_eq_true h
    unfold fiF fiG
    rw [e2] at R ⊢
    go_enter Tryd.func12, Tryd.ntmps12
    go_wp2_with fail
    refine (R.out _).mono ?_
    rintro e w1 ⟨rfl, hb⟩
    go_wp2_with fail
    go_ret2
    exact ⟨rfl, hb⟩
  · have e1 : IntKind.u64.wrap x = (x.natAbs : Int) := by simp only [IntKind.wrap_u64]; omega
    have e2 : decide (x < 0) = false := decide_eq_false h
    unfold fiF fiG
    rw [e2] at R ⊢
    go_enter Tryd.func12, Tryd.ntmps12
    go_wp2_with fail
    refine (R.out _).mono ?_
    rintro e w1 ⟨rfl, hb⟩
    go_wp2_with fail
    go_ret2
    exact ⟨rfl, hb⟩

set_option maxHeartbeats 4000000 in
theorem vwhole_any (f md : Int) (hf : Word f) (w : World) : Calls Tryd.prog 11 #[.int .u64 f, .int .u8 md] w (RetF (whF md f) (whG f) w) := by
  have CF := Lib.hid (class_any f hf)
  have SF := Lib.hid (split_any f hf)
  have cb := cls_bd f
  by_cases h4 : fC f = 4
  · have e1 : whF md f = 9221120237041090560 := by unfold whF; rw [if_pos h4]
    have e2 : whG f = 0 := by unfold whG; rw [if_pos (by omega)]
    rw [e1, e2]
    rw [h4] at CF
    clear e1 e2 cb h4
    generalize fX f = X at *
    generalize fY f = Y at *
    go_enter Tryd.func11, Tryd.ntmps11
    go_wp2_with fail
    refine (SF.out _).mono ?_
    rintro e w1 ⟨rfl, rfl⟩
    go_wp2_with fail
    refine (CF.out _).mono ?_
    rintro e w1 ⟨rfl, rfl⟩
    go_wp2_with fail
    refine (quiet_f _).mono ?_
    rintro e w1 ⟨rfl, rfl⟩
    go_wp2_with fail
    go_ret2
    exact ⟨rfl, Below.refl _ _⟩
  by_cases h3 : fC f = 3
  · have e1 : whF md f = f := by unfold whF; rw [if_neg h4, if_pos h3]
    have e2 : whG f = 0 := by unfold whG; rw [if_pos (by omega)]
    rw [e1, e2]
    rw [h3] at CF
    clear e1 e2 cb h4 h3
    generalize fX f = X at *
    generalize fY f = Y at *
    go_enter Tryd.func11, Tryd.ntmps11
    go_wp2_with fail
    refine (SF.out _).mono ?_
    rintro e w1 ⟨rfl, rfl⟩
    go_wp2_with fail
    refine (CF.out _).mono ?_
    rintro e w1 ⟨rfl, rfl⟩
    go_wp2_with fail
    refine (CF.out _).mono ?_
    rintro e w1 ⟨rfl, rfl⟩
    go_wp2_with fail
    go_ret2
    exact ⟨rfl, Below.refl _ _⟩
  have hc : fC f < 3 := by omega
  have e1 : whF md f = iF (fS f) (vW md f) := by unfold whF; rw [if_neg h4, if_neg h3]
  have e2 : whG f = if vR f = 0 then 0 else 1 := by unfold whG; rw [if_neg (by omega)]
  have t4 : (fC f == 4) = false := by simp [h4]
  have t3 : (fC f == 3) = false := by simp [h3]
  by_cases he : 0 ≤ fY f
  · have hp := (pos_parts hf hc he).2.1
    obtain ⟨-, o2, o3⟩ := own_int hf hc hp
    rw [e1, e2, o3, o2, if_pos hp]
    clear e1 e2 cb h4 h3 hp o2 o3 hc
    generalize fX f = X at *
    generalize fY f = Y at *
    generalize fC f = C at *
    go_enter Tryd.func11, Tryd.ntmps11
    go_wp2_with fail
    refine (SF.out _).mono ?_
    rintro e w1 ⟨rfl, rfl⟩
    go_wp2_with fail
    refine (CF.out _).mono ?_
    rintro e w1 ⟨rfl, rfl⟩
    go_wp2_with fail
    refine (CF.out _).mono ?_
    rintro e w1 ⟨rfl, rfl⟩
    go_wp2_with fail
    go_ret2
    exact ⟨rfl, Below.refl _ _⟩
  · obtain ⟨n1, n2⟩ := neg_round hf hc (by omega) md
    obtain ⟨w0, w1, -⟩ := vW_bd hf hc (by omega) md
    obtain ⟨u1, u2⟩ := units_is w0 w1 (fS f)
    have yb := fY_bd f
    have hX := fX_pos (f := f) (by omega)
    have R1 := fun w => round_pos (fS f) 0 (fX f) (fY f - 1074) false md ⟨by decide, by decide⟩ (fX_word f) (by rw [V2_low]; exact hX) w _ _ rfl rfl
    rw [V2_low, Bool.false_and, n1, n2] at R1
    have R1 := Lib.hid R1
    have S2 := split_any _ u2
    rw [u1] at S2
    have S2 := Lib.hid S2
    obtain ⟨i1, i2⟩ := iF_any (isI_small w0 (by omega)) md (fS f)
    have R2 := fun w => round_int (fS f) (vW md f) md ⟨w0, by omega⟩ w
    rw [i1, i2] at R2
    have R2 := Lib.hid R2
    have NF := Lib.hid (vneg_any f hf)
    have wr : wrap64 (fY f - 1074) = fY f - 1074 := wrap64_in (by omega) (by omega)
    have hG : Hid (bits BinOp.and IntKind.u8 (if vR f = 0 then 0 else 3) 1 = if vR f = 0 then 0 else 1) := by
      show _ = _
      split <;> decide
    rw [e1, e2]
    clear e1 e2 cb h4 h3 n1 n2 w0 w1 u1 u2 hX i1 i2 hc
    generalize (if vR f = 0 then (0 : Int) else 3) = g3 at *
    generalize (if vR f = 0 then (0 : Int) else 1) = g1 at *
    generalize fY (vW md f + sg (fS f)) = Y2 at *
    generalize vW md f + sg (fS f) = f2 at *
    generalize iF (fS f) (vW md f) = F at *
    generalize vW md f = W at *
    generalize fX f = X at *
    generalize fY f = Y at *
    generalize fC f = C at *
    generalize fS f = s at *
    go_enter Tryd.func11, Tryd.ntmps11
    go_wp2_with fail
    refine (SF.out _).mono ?_
    rintro e w1 ⟨rfl, rfl⟩
    go_wp2_with fail
    refine (CF.out _).mono ?_
    rintro e w1 ⟨rfl, rfl⟩
    go_wp2_with fail
    refine (CF.out _).mono ?_
    rintro e w1 ⟨rfl, rfl⟩
    go_wp2_with fail
    refine (NF.out _).mono ?_
    rintro e w1 ⟨rfl, rfl⟩
    go_wp2_with fail
    refine (R1.out _).mono ?_
    rintro e w2 ⟨rfl, hb2⟩
    go_wp2_with fail
    refine (S2.out _).mono ?_
    rintro e w3 ⟨rfl, rfl⟩
    go_wp2_with fail
    refine (R2.out _).mono ?_
    rintro e w4 ⟨rfl, hb4⟩
    go_wp2_with fail
    go_ret2
    exact ⟨ret_two rfl hG.out, bel_trans hb2 hb4⟩
end Go.Proofs.YtmeobamfjcjbhaaDoor
