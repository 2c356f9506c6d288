/-
  Contracts of soft's Mul and Div, of any floats. Conditions: floats are words.
-/
import Derived.Test.YtkdckclefegocaaGreatDoorSofD
import Derived.Test.YtkdckclefegocaaGreatDoorMath6c
namespace Go.Proofs.YtkdckclefegocaaGreatDoor
open Go.RowKit
set_option maxRecDepth 100000

/-- The product of any two floats, and its flags. -/
def mlF (md a b : Int) : Int := if fC a = 4 ∨ fC b = 4 then 9221120237041090560 else if (fC a = 0 ∧ fC b = 3) ∨ (fC a = 3 ∧ fC b = 0) then 9221120237041090560 else if fC a = 3 ∨ fC b = 3 then 9218868437227405312 + sg (fS a != fS b) else if fV a * fV b = 0 then sg (fS a != fS b) else dF md (fV a * fV b)
def mlG (md a b : Int) : Int := if fC a = 4 ∨ fC b = 4 then 0 else if (fC a = 0 ∧ fC b = 3) ∨ (fC a = 3 ∧ fC b = 0) then 16 else if fC a = 3 ∨ fC b = 3 then 0 else dG md (fV a * fV b)
/-- The quotient of any two floats, and its flags. -/
def dvF (md a b : Int) : Int := if fC a = 4 ∨ fC b = 4 then 9221120237041090560 else if (fC a = 0 ∧ fC b = 0) ∨ (fC a = 3 ∧ fC b = 3) then 9221120237041090560 else if fC a = 3 then 9218868437227405312 + sg (fS a != fS b) else if fC b = 0 then 9218868437227405312 + sg (fS a != fS b) else if fC a = 0 ∨ fC b = 3 then sg (fS a != fS b) else dF md (fV a / fV b)
def dvG (md a b : Int) : Int := if fC a = 4 ∨ fC b = 4 then 0 else if (fC a = 0 ∧ fC b = 0) ∨ (fC a = 3 ∧ fC b = 3) then 16 else if fC a = 3 then 0 else if fC b = 0 then 8 else if fC a = 0 ∨ fC b = 3 then 0 else dG md (fV a / fV b)

theorem dG_nil (md : Int) : dG md 0 = 0 := if_pos rfl
theorem fX_fin {f : Int} (h : fC f < 3) : fX f = 0 ↔ fC f = 0 := by
  obtain ⟨p1, p2, p3⟩ := parts_of h
  have cls : fC f = if fE f = 2047 then (if fM f = 0 then 3 else 4) else if fE f = 0 then (if fM f = 0 then 0 else 1) else 2 := rfl
  rw [if_neg p3] at cls
  by_cases h0 : fE f = 0
  · rw [if_pos h0] at cls
    rw [(p1 h0).1]
    constructor
    · intro k
      rw [if_pos k] at cls
      exact cls
    · intro k
      rcases Decidable.em (fM f = 0) with h1 | h1
      · exact h1
      · rw [if_neg h1] at cls
        omega
  · rw [if_neg h0] at cls
    have := (p2 h0).2
    omega
theorem mul_any {a b : Int} (md h l : Int) (wh : Word h) (wl : Word l) (hv : V2 h l = fX a * fX b) (w : World) :
    Calls Tryz.prog 33 #[.bool (fS a != fS b), .agg #[.int .u64 h, .int .u64 l], .int .i64 (fY a + fY b), .bool false, .int .u8 md] w (RetF (if fV a * fV b = 0 then sg (fS a != fS b) else dF md (fV a * fV b)) (dG md (fV a * fV b)) w) := by
  have x1 := (fX_bd (f := a)).1
  have x2 := (fX_bd (f := b)).1
  by_cases hz : fX a = 0 ∨ fX b = 0
  · have e : fV a * fV b = 0 := by
      rcases hz with h | h
      · rw [fV_nil h, Rat.zero_mul]
      · rw [fV_nil h, Rat.mul_zero]
    have hv0 : V2 h l = 0 := by
      rw [hv]
      rcases hz with h | h <;> rw [h] <;> simp
    obtain ⟨rfl, rfl⟩ := V2_nil wh wl hv0
    rw [if_pos e, e, dG_nil]
    exact round_zero _ _ _ md w
  · have a0 : 0 < fX a := by omega
    have b0 : 0 < fX b := by omega
    obtain ⟨hne, f, g⟩ := mul_round a0 b0 md
    rw [if_neg hne, f, g]
    have y1 := fY_bd a
    have y2 := fY_bd b
    have R := round_pos (fS a != fS b) h l (fY a + fY b) false md wh wl (by rw [hv]; exact Int.mul_pos a0 b0) w _ _ rfl rfl
    rw [hv, eC_small (by omega) (by omega), Bool.false_and] at R
    exact R
theorem quo_any {a b : Int} (ha : 0 < fX a) (hb : 0 < fX b) (md h l R : Int) (wh : Word h) (wl : Word l) (hR0 : 0 ≤ R) (hR1 : R < fX b) (hv : V2 h l * fX b + R = fX a * 2 ^ (128 - blen (fX a)).toNat) (w : World) :
    Calls Tryz.prog 33 #[.bool (fS a != fS b), .agg #[.int .u64 h, .int .u64 l], .int .i64 (fY a - (128 - blen (fX a)) - fY b), .bool (decide (R ≠ 0)), .int .u8 md] w (RetF (dF md (fV a / fV b)) (dG md (fV a / fV b)) w) := by
  obtain ⟨q0, hne, f, g⟩ := div_round ha hb md _ _ hv hR0 hR1
  rw [← f, ← g]
  have y1 := fY_bd a
  have y2 := fY_bd b
  have hb0 := fX_blen a
  have C := round_pos (fS a != fS b) h l (fY a - (128 - blen (fX a)) - fY b) (decide (R ≠ 0)) md wh wl q0 w _ _ rfl rfl
  rw [eC_small (by omega) (by omega)] at C
  exact C
set_option maxHeartbeats 4000000 in
theorem mul_NN (a b md : Int) (ha : Word a) (hb : Word b) (hca : fC a = 4) (hcb : fC b = 4) (w : World) :
    Calls Tryz.prog 8 #[.int .u64 a, .int .u64 b, .int .u8 md] w (RetF (mlF md a b) (mlG md a b) w) := by
  have la := cls_bd a
  have lb := cls_bd b
  have za : decide (fC a = 0) = false := decide_eq_false (by omega)
  have ia : decide (fC a = 3) = false := decide_eq_false (by omega)
  have zb : decide (fC b = 0) = false := decide_eq_false (by omega)
  have ib : decide (fC b = 3) = false := decide_eq_false (by omega)
  have nn : (decide (fC a = 4) || decide (fC b = 4)) = true := by simp only [Bool.or_eq_true, decide_eq_true_eq]; omega
  have eF : mlF md a b = 9221120237041090560 := by unfold mlF; rw [if_pos (by omega)]
  have eG : mlG md a b = 0 := by unfold mlG; rw [if_pos (by omega)]
  rw [eF, eG]
  clear eF eG
  clear hca hcb la lb
  go_enter Tryz.func8, Tryz.ntmps8
  go_wp2_with fail
  refine (sneg_any a ha _).mono ?_
  rintro e w2 ⟨rfl, rfl⟩
  go_wp2_with fail
  refine (sneg_any b hb _).mono ?_
  rintro e w2 ⟨rfl, rfl⟩
  go_wp2_with fail
  refine (nan2 ha hb _ _ _).mono ?_
  rw [nn]
  rintro e w1 ⟨rfl, hb1⟩
  have HB := Lib.hid (bel_trans (bel_alloc (Below.refl _ _) _) hb1)
  clear hb1
  go_wp2_with fail
  refine (quiet_f _).mono ?_
  rintro e w2 ⟨rfl, rfl⟩
  go_wp2_with fail
  go_ret2
  exact ⟨rfl, HB.out⟩
set_option maxHeartbeats 4000000 in
theorem mul_NI (a b md : Int) (ha : Word a) (hb : Word b) (hca : fC a = 4) (hcb : fC b = 3) (w : World) :
    Calls Tryz.prog 8 #[.int .u64 a, .int .u64 b, .int .u8 md] w (RetF (mlF md a b) (mlG md a b) w) := by
  have la := cls_bd a
  have lb := cls_bd b
  have za : decide (fC a = 0) = false := decide_eq_false (by omega)
  have ia : decide (fC a = 3) = false := decide_eq_false (by omega)
  have zb : decide (fC b = 0) = false := decide_eq_false (by omega)
  have ib : decide (fC b = 3) = true := decide_eq_true (by omega)
  have nn : (decide (fC a = 4) || decide (fC b = 4)) = true := by simp only [Bool.or_eq_true, decide_eq_true_eq]; omega
  have eF : mlF md a b = 9221120237041090560 := by unfold mlF; rw [if_pos (by omega)]
  have eG : mlG md a b = 0 := by unfold mlG; rw [if_pos (by omega)]
  rw [eF, eG]
  clear eF eG
  clear hca hcb la lb
  go_enter Tryz.func8, Tryz.ntmps8
  go_wp2_with fail
  refine (sneg_any a ha _).mono ?_
  rintro e w2 ⟨rfl, rfl⟩
  go_wp2_with fail
  refine (sneg_any b hb _).mono ?_
  rintro e w2 ⟨rfl, rfl⟩
  go_wp2_with fail
  refine (nan2 ha hb _ _ _).mono ?_
  rw [nn]
  rintro e w1 ⟨rfl, hb1⟩
  have HB := Lib.hid (bel_trans (bel_alloc (Below.refl _ _) _) hb1)
  clear hb1
  go_wp2_with fail
  refine (quiet_f _).mono ?_
  rintro e w2 ⟨rfl, rfl⟩
  go_wp2_with fail
  go_ret2
  exact ⟨rfl, HB.out⟩
set_option maxHeartbeats 4000000 in
theorem mul_NZ (a b md : Int) (ha : Word a) (hb : Word b) (hca : fC a = 4) (hcb : fC b = 0) (w : World) :
    Calls Tryz.prog 8 #[.int .u64 a, .int .u64 b, .int .u8 md] w (RetF (mlF md a b) (mlG md a b) w) := by
  have la := cls_bd a
  have lb := cls_bd b
  have za : decide (fC a = 0) = false := decide_eq_false (by omega)
  have ia : decide (fC a = 3) = false := decide_eq_false (by omega)
  have zb : decide (fC b = 0) = true := decide_eq_true (by omega)
  have ib : decide (fC b = 3) = false := decide_eq_false (by omega)
  have nn : (decide (fC a = 4) || decide (fC b = 4)) = true := by simp only [Bool.or_eq_true, decide_eq_true_eq]; omega
  have eF : mlF md a b = 9221120237041090560 := by unfold mlF; rw [if_pos (by omega)]
  have eG : mlG md a b = 0 := by unfold mlG; rw [if_pos (by omega)]
  rw [eF, eG]
  clear eF eG
  clear hca hcb la lb
  go_enter Tryz.func8, Tryz.ntmps8
  go_wp2_with fail
  refine (sneg_any a ha _).mono ?_
  rintro e w2 ⟨rfl, rfl⟩
  go_wp2_with fail
  refine (sneg_any b hb _).mono ?_
  rintro e w2 ⟨rfl, rfl⟩
  go_wp2_with fail
  refine (nan2 ha hb _ _ _).mono ?_
  rw [nn]
  rintro e w1 ⟨rfl, hb1⟩
  have HB := Lib.hid (bel_trans (bel_alloc (Below.refl _ _) _) hb1)
  clear hb1
  go_wp2_with fail
  refine (quiet_f _).mono ?_
  rintro e w2 ⟨rfl, rfl⟩
  go_wp2_with fail
  go_ret2
  exact ⟨rfl, HB.out⟩
set_option maxHeartbeats 4000000 in
theorem mul_NF (a b md : Int) (ha : Word a) (hb : Word b) (hca : fC a = 4) (hcb : fC b ≠ 0 ∧ fC b ≠ 3 ∧ fC b ≠ 4) (w : World) :
    Calls Tryz.prog 8 #[.int .u64 a, .int .u64 b, .int .u8 md] w (RetF (mlF md a b) (mlG md a b) w) := by
  have la := cls_bd a
  have lb := cls_bd b
  have za : decide (fC a = 0) = false := decide_eq_false (by omega)
  have ia : decide (fC a = 3) = false := decide_eq_false (by omega)
  have zb : decide (fC b = 0) = false := decide_eq_false (by omega)
  have ib : decide (fC b = 3) = false := decide_eq_false (by omega)
  have nn : (decide (fC a = 4) || decide (fC b = 4)) = true := by simp only [Bool.or_eq_true, decide_eq_true_eq]; omega
  have eF : mlF md a b = 9221120237041090560 := by unfold mlF; rw [if_pos (by omega)]
  have eG : mlG md a b = 0 := by unfold mlG; rw [if_pos (by omega)]
  rw [eF, eG]
  clear eF eG
  clear hca hcb la lb
  go_enter Tryz.func8, Tryz.ntmps8
  go_wp2_with fail
  refine (sneg_any a ha _).mono ?_
  rintro e w2 ⟨rfl, rfl⟩
  go_wp2_with fail
  refine (sneg_any b hb _).mono ?_
  rintro e w2 ⟨rfl, rfl⟩
  go_wp2_with fail
  refine (nan2 ha hb _ _ _).mono ?_
  rw [nn]
  rintro e w1 ⟨rfl, hb1⟩
  have HB := Lib.hid (bel_trans (bel_alloc (Below.refl _ _) _) hb1)
  clear hb1
  go_wp2_with fail
  refine (quiet_f _).mono ?_
  rintro e w2 ⟨rfl, rfl⟩
  go_wp2_with fail
  go_ret2
  exact ⟨rfl, HB.out⟩
set_option maxHeartbeats 4000000 in
theorem mul_IN (a b md : Int) (ha : Word a) (hb : Word b) (hca : fC a = 3) (hcb : fC b = 4) (w : World) :
    Calls Tryz.prog 8 #[.int .u64 a, .int .u64 b, .int .u8 md] w (RetF (mlF md a b) (mlG md a b) w) := by
  have la := cls_bd a
  have lb := cls_bd b
  have za : decide (fC a = 0) = false := decide_eq_false (by omega)
  have ia : decide (fC a = 3) = true := decide_eq_true (by omega)
  have zb : decide (fC b = 0) = false := decide_eq_false (by omega)
  have ib : decide (fC b = 3) = false := decide_eq_false (by omega)
  have nn : (decide (fC a = 4) || decide (fC b = 4)) = true := by simp only [Bool.or_eq_true, decide_eq_true_eq]; omega
  have eF : mlF md a b = 9221120237041090560 := by unfold mlF; rw [if_pos (by omega)]
  have eG : mlG md a b = 0 := by unfold mlG; rw [if_pos (by omega)]
  rw [eF, eG]
  clear eF eG
  clear hca hcb la lb
  go_enter Tryz.func8, Tryz.ntmps8
  go_wp2_with fail
  refine (sneg_any a ha _).mono ?_
  rintro e w2 ⟨rfl, rfl⟩
  go_wp2_with fail
  refine (sneg_any b hb _).mono ?_
  rintro e w2 ⟨rfl, rfl⟩
  go_wp2_with fail
  refine (nan2 ha hb _ _ _).mono ?_
  rw [nn]
  rintro e w1 ⟨rfl, hb1⟩
  have HB := Lib.hid (bel_trans (bel_alloc (Below.refl _ _) _) hb1)
  clear hb1
  go_wp2_with fail
  refine (quiet_f _).mono ?_
  rintro e w2 ⟨rfl, rfl⟩
  go_wp2_with fail
  go_ret2
  exact ⟨rfl, HB.out⟩
set_option maxHeartbeats 4000000 in
theorem mul_II (a b md : Int) (ha : Word a) (hb : Word b) (hca : fC a = 3) (hcb : fC b = 3) (w : World) :
    Calls Tryz.prog 8 #[.int .u64 a, .int .u64 b, .int .u8 md] w (RetF (mlF md a b) (mlG md a b) w) := by
  have la := cls_bd a
  have lb := cls_bd b
  have za : decide (fC a = 0) = false := decide_eq_false (by omega)
  have ia : decide (fC a = 3) = true := decide_eq_true (by omega)
  have zb : decide (fC b = 0) = false := decide_eq_false (by omega)
  have ib : decide (fC b = 3) = true := decide_eq_true (by omega)
  have nn : (decide (fC a = 4) || decide (fC b = 4)) = false := by simp only [Bool.or_eq_false_iff, decide_eq_false_iff_not]; omega
  have eF : mlF md a b = 9218868437227405312 + sg (fS a != fS b) := by unfold mlF; rw [if_neg (by omega), if_neg (by omega), if_pos (by omega)]
  have eG : mlG md a b = 0 := by unfold mlG; rw [if_neg (by omega), if_neg (by omega), if_pos (by omega)]
  rw [eF, eG]
  clear eF eG
  clear hca hcb la lb
  go_enter Tryz.func8, Tryz.ntmps8
  go_wp2_with fail
  refine (sneg_any a ha _).mono ?_
  rintro e w2 ⟨rfl, rfl⟩
  go_wp2_with fail
  refine (sneg_any b hb _).mono ?_
  rintro e w2 ⟨rfl, rfl⟩
  go_wp2_with fail
  refine (nan2 ha hb _ _ _).mono ?_
  rw [nn]
  rintro e w1 ⟨rfl, hb1⟩
  have HB := Lib.hid (bel_trans (bel_alloc (Below.refl _ _) _) hb1)
  clear hb1
  go_wp2_with fail
  refine (szero_any a ha _).mono ?_
  rw [za]
  rintro e w2 ⟨rfl, rfl⟩
  go_wp2_with fail
  refine (sinf_any a ha _).mono ?_
  rw [ia]
  rintro e w2 ⟨rfl, rfl⟩
  go_wp2_with fail
  refine (szero_any b hb _).mono ?_
  rw [zb]
  rintro e w2 ⟨rfl, rfl⟩
  go_wp2_with fail
  refine (sinf_any a ha _).mono ?_
  rw [ia]
  rintro e w2 ⟨rfl, rfl⟩
  go_wp2_with fail
  refine (inf_f _ _).mono ?_
  rintro e w2 ⟨rfl, rfl⟩
  go_wp2_with fail
  go_ret2
  exact ⟨rfl, HB.out⟩
set_option maxHeartbeats 4000000 in
theorem mul_IZ (a b md : Int) (ha : Word a) (hb : Word b) (hca : fC a = 3) (hcb : fC b = 0) (w : World) :
    Calls Tryz.prog 8 #[.int .u64 a, .int .u64 b, .int .u8 md] w (RetF (mlF md a b) (mlG md a b) w) := by
  have la := cls_bd a
  have lb := cls_bd b
  have za : decide (fC a = 0) = false := decide_eq_false (by omega)
  have ia : decide (fC a = 3) = true := decide_eq_true (by omega)
  have zb : decide (fC b = 0) = true := decide_eq_true (by omega)
  have ib : decide (fC b = 3) = false := decide_eq_false (by omega)
  have nn : (decide (fC a = 4) || decide (fC b = 4)) = false := by simp only [Bool.or_eq_false_iff, decide_eq_false_iff_not]; omega
  have eF : mlF md a b = 9221120237041090560 := by unfold mlF; rw [if_neg (by omega), if_pos (by omega)]
  have eG : mlG md a b = 16 := by unfold mlG; rw [if_neg (by omega), if_pos (by omega)]
  rw [eF, eG]
  clear eF eG
  clear hca hcb la lb
  go_enter Tryz.func8, Tryz.ntmps8
  go_wp2_with fail
  refine (sneg_any a ha _).mono ?_
  rintro e w2 ⟨rfl, rfl⟩
  go_wp2_with fail
  refine (sneg_any b hb _).mono ?_
  rintro e w2 ⟨rfl, rfl⟩
  go_wp2_with fail
  refine (nan2 ha hb _ _ _).mono ?_
  rw [nn]
  rintro e w1 ⟨rfl, hb1⟩
  have HB := Lib.hid (bel_trans (bel_alloc (Below.refl _ _) _) hb1)
  clear hb1
  go_wp2_with fail
  refine (szero_any a ha _).mono ?_
  rw [za]
  rintro e w2 ⟨rfl, rfl⟩
  go_wp2_with fail
  refine (sinf_any a ha _).mono ?_
  rw [ia]
  rintro e w2 ⟨rfl, rfl⟩
  go_wp2_with fail
  refine (szero_any b hb _).mono ?_
  rw [zb]
  rintro e w2 ⟨rfl, rfl⟩
  go_wp2_with fail
  refine (invalid_any _).mono ?_
  rintro e w2 ⟨rfl, rfl⟩
  go_wp2_with fail
  go_ret2
  exact ⟨rfl, HB.out⟩
set_option maxHeartbeats 4000000 in
theorem mul_IF (a b md : Int) (ha : Word a) (hb : Word b) (hca : fC a = 3) (hcb : fC b ≠ 0 ∧ fC b ≠ 3 ∧ fC b ≠ 4) (w : World) :
    Calls Tryz.prog 8 #[.int .u64 a, .int .u64 b, .int .u8 md] w (RetF (mlF md a b) (mlG md a b) w) := by
  have la := cls_bd a
  have lb := cls_bd b
  have za : decide (fC a = 0) = false := decide_eq_false (by omega)
  have ia : decide (fC a = 3) = true := decide_eq_true (by omega)
  have zb : decide (fC b = 0) = false := decide_eq_false (by omega)
  have ib : decide (fC b = 3) = false := decide_eq_false (by omega)
  have nn : (decide (fC a = 4) || decide (fC b = 4)) = false := by simp only [Bool.or_eq_false_iff, decide_eq_false_iff_not]; omega
  have eF : mlF md a b = 9218868437227405312 + sg (fS a != fS b) := by unfold mlF; rw [if_neg (by omega), if_neg (by omega), if_pos (by omega)]
  have eG : mlG md a b = 0 := by unfold mlG; rw [if_neg (by omega), if_neg (by omega), if_pos (by omega)]
  rw [eF, eG]
  clear eF eG
  clear hca hcb la lb
  go_enter Tryz.func8, Tryz.ntmps8
  go_wp2_with fail
  refine (sneg_any a ha _).mono ?_
  rintro e w2 ⟨rfl, rfl⟩
  go_wp2_with fail
  refine (sneg_any b hb _).mono ?_
  rintro e w2 ⟨rfl, rfl⟩
  go_wp2_with fail
  refine (nan2 ha hb _ _ _).mono ?_
  rw [nn]
  rintro e w1 ⟨rfl, hb1⟩
  have HB := Lib.hid (bel_trans (bel_alloc (Below.refl _ _) _) hb1)
  clear hb1
  go_wp2_with fail
  refine (szero_any a ha _).mono ?_
  rw [za]
  rintro e w2 ⟨rfl, rfl⟩
  go_wp2_with fail
  refine (sinf_any a ha _).mono ?_
  rw [ia]
  rintro e w2 ⟨rfl, rfl⟩
  go_wp2_with fail
  refine (szero_any b hb _).mono ?_
  rw [zb]
  rintro e w2 ⟨rfl, rfl⟩
  go_wp2_with fail
  refine (sinf_any a ha _).mono ?_
  rw [ia]
  rintro e w2 ⟨rfl, rfl⟩
  go_wp2_with fail
  refine (inf_f _ _).mono ?_
  rintro e w2 ⟨rfl, rfl⟩
  go_wp2_with fail
  go_ret2
  exact ⟨rfl, HB.out⟩
set_option maxHeartbeats 4000000 in
theorem mul_ZN (a b md : Int) (ha : Word a) (hb : Word b) (hca : fC a = 0) (hcb : fC b = 4) (w : World) :
    Calls Tryz.prog 8 #[.int .u64 a, .int .u64 b, .int .u8 md] w (RetF (mlF md a b) (mlG md a b) w) := by
  have la := cls_bd a
  have lb := cls_bd b
  have za : decide (fC a = 0) = true := decide_eq_true (by omega)
  have ia : decide (fC a = 3) = false := decide_eq_false (by omega)
  have zb : decide (fC b = 0) = false := decide_eq_false (by omega)
  have ib : decide (fC b = 3) = false := decide_eq_false (by omega)
  have nn : (decide (fC a = 4) || decide (fC b = 4)) = true := by simp only [Bool.or_eq_true, decide_eq_true_eq]; omega
  have eF : mlF md a b = 9221120237041090560 := by unfold mlF; rw [if_pos (by omega)]
  have eG : mlG md a b = 0 := by unfold mlG; rw [if_pos (by omega)]
  rw [eF, eG]
  clear eF eG
  clear hca hcb la lb
  go_enter Tryz.func8, Tryz.ntmps8
  go_wp2_with fail
  refine (sneg_any a ha _).mono ?_
  rintro e w2 ⟨rfl, rfl⟩
  go_wp2_with fail
  refine (sneg_any b hb _).mono ?_
  rintro e w2 ⟨rfl, rfl⟩
  go_wp2_with fail
  refine (nan2 ha hb _ _ _).mono ?_
  rw [nn]
  rintro e w1 ⟨rfl, hb1⟩
  have HB := Lib.hid (bel_trans (bel_alloc (Below.refl _ _) _) hb1)
  clear hb1
  go_wp2_with fail
  refine (quiet_f _).mono ?_
  rintro e w2 ⟨rfl, rfl⟩
  go_wp2_with fail
  go_ret2
  exact ⟨rfl, HB.out⟩
set_option maxHeartbeats 4000000 in
theorem mul_ZI (a b md : Int) (ha : Word a) (hb : Word b) (hca : fC a = 0) (hcb : fC b = 3) (w : World) :
    Calls Tryz.prog 8 #[.int .u64 a, .int .u64 b, .int .u8 md] w (RetF (mlF md a b) (mlG md a b) w) := by
  have la := cls_bd a
  have lb := cls_bd b
  have za : decide (fC a = 0) = true := decide_eq_true (by omega)
  have ia : decide (fC a = 3) = false := decide_eq_false (by omega)
  have zb : decide (fC b = 0) = false := decide_eq_false (by omega)
  have ib : decide (fC b = 3) = true := decide_eq_true (by omega)
  have nn : (decide (fC a = 4) || decide (fC b = 4)) = false := by simp only [Bool.or_eq_false_iff, decide_eq_false_iff_not]; omega
  have eF : mlF md a b = 9221120237041090560 := by unfold mlF; rw [if_neg (by omega), if_pos (by omega)]
  have eG : mlG md a b = 16 := by unfold mlG; rw [if_neg (by omega), if_pos (by omega)]
  rw [eF, eG]
  clear eF eG
  clear hca hcb la lb
  go_enter Tryz.func8, Tryz.ntmps8
  go_wp2_with fail
  refine (sneg_any a ha _).mono ?_
  rintro e w2 ⟨rfl, rfl⟩
  go_wp2_with fail
  refine (sneg_any b hb _).mono ?_
  rintro e w2 ⟨rfl, rfl⟩
  go_wp2_with fail
  refine (nan2 ha hb _ _ _).mono ?_
  rw [nn]
  rintro e w1 ⟨rfl, hb1⟩
  have HB := Lib.hid (bel_trans (bel_alloc (Below.refl _ _) _) hb1)
  clear hb1
  go_wp2_with fail
  refine (szero_any a ha _).mono ?_
  rw [za]
  rintro e w2 ⟨rfl, rfl⟩
  go_wp2_with fail
  refine (sinf_any b hb _).mono ?_
  rw [ib]
  rintro e w2 ⟨rfl, rfl⟩
  go_wp2_with fail
  refine (invalid_any _).mono ?_
  rintro e w2 ⟨rfl, rfl⟩
  go_wp2_with fail
  go_ret2
  exact ⟨rfl, HB.out⟩
set_option maxHeartbeats 4000000 in
theorem mul_ZZ (a b md : Int) (ha : Word a) (hb : Word b) (hca : fC a = 0) (hcb : fC b = 0) (w : World) :
    Calls Tryz.prog 8 #[.int .u64 a, .int .u64 b, .int .u8 md] w (RetF (mlF md a b) (mlG md a b) w) := by
  have la := cls_bd a
  have lb := cls_bd b
  have za : decide (fC a = 0) = true := decide_eq_true (by omega)
  have ia : decide (fC a = 3) = false := decide_eq_false (by omega)
  have zb : decide (fC b = 0) = true := decide_eq_true (by omega)
  have ib : decide (fC b = 3) = false := decide_eq_false (by omega)
  have nn : (decide (fC a = 4) || decide (fC b = 4)) = false := by simp only [Bool.or_eq_false_iff, decide_eq_false_iff_not]; omega
  have eF : mlF md a b = if fV a * fV b = 0 then sg (fS a != fS b) else dF md (fV a * fV b) := by unfold mlF; rw [if_neg (by omega), if_neg (by omega), if_neg (by omega)]
  have eG : mlG md a b = dG md (fV a * fV b) := by unfold mlG; rw [if_neg (by omega), if_neg (by omega), if_neg (by omega)]
  rw [eF, eG]
  clear eF eG
  have CR := Lib.hid (fun (h l : Int) (wh : Word h) (wl : Word l) (hv : V2 h l = fX a * fX b) (w : World) => mul_any md h l wh wl hv w)
  have SA := Lib.hid (split_any a ha)
  have SB := Lib.hid (split_any b hb)
  have xa := fX_word a
  have xb := fX_word b
  have ya := fY_bd a
  have yb := fY_bd b
  generalize (if fV a * fV b = 0 then sg (fS a != fS b) else dF md (fV a * fV b)) = rr at *
  clear hca hcb la lb
  go_enter Tryz.func8, Tryz.ntmps8
  go_wp2_with fail
  refine (sneg_any a ha _).mono ?_
  rintro e w2 ⟨rfl, rfl⟩
  go_wp2_with fail
  refine (sneg_any b hb _).mono ?_
  rintro e w2 ⟨rfl, rfl⟩
  go_wp2_with fail
  refine (nan2 ha hb _ _ _).mono ?_
  rw [nn]
  rintro e w1 ⟨rfl, hb1⟩
  have HB := Lib.hid (bel_trans (bel_alloc (Below.refl _ _) _) hb1)
  clear hb1
  go_wp2_with fail
  refine (szero_any a ha _).mono ?_
  rw [za]
  rintro e w2 ⟨rfl, rfl⟩
  go_wp2_with fail
  refine (sinf_any b hb _).mono ?_
  rw [ib]
  rintro e w2 ⟨rfl, rfl⟩
  go_wp2_with fail
  refine (sinf_any a ha _).mono ?_
  rw [ia]
  rintro e w2 ⟨rfl, rfl⟩
  go_wp2_with fail
  refine (sinf_any a ha _).mono ?_
  rw [ia]
  rintro e w2 ⟨rfl, rfl⟩
  go_wp2_with fail
  refine (sinf_any b hb _).mono ?_
  rw [ib]
  rintro e w2 ⟨rfl, rfl⟩
  go_wp2_with fail
  refine (SA.out _).mono ?_
  rintro e w2 ⟨rfl, rfl⟩
  go_wp2_with fail
  refine (SB.out _).mono ?_
  rintro e w2 ⟨rfl, rfl⟩
  go_wp2_with fail
  refine (mul1 (fX a) (fX b) xa xb _).mono ?_
  rintro e w3 ⟨v, ⟨h, l, wh, wl, hv, rfl⟩, rfl, hb3⟩
  have HV := Lib.hid hv
  have HB3 := Lib.hid (bel_trans HB.out hb3)
  clear hv hb3 HB
  go_wp2_with fail
  refine (CR.out h l wh wl HV.out _).mono ?_
  rintro e w4 ⟨rfl, hb4⟩
  go_wp2_with fail
  go_ret2
  exact ⟨rfl, bel_trans HB3.out hb4⟩
set_option maxHeartbeats 4000000 in
theorem mul_ZF (a b md : Int) (ha : Word a) (hb : Word b) (hca : fC a = 0) (hcb : fC b ≠ 0 ∧ fC b ≠ 3 ∧ fC b ≠ 4) (w : World) :
    Calls Tryz.prog 8 #[.int .u64 a, .int .u64 b, .int .u8 md] w (RetF (mlF md a b) (mlG md a b) w) := by
  have la := cls_bd a
  have lb := cls_bd b
  have za : decide (fC a = 0) = true := decide_eq_true (by omega)
  have ia : decide (fC a = 3) = false := decide_eq_false (by omega)
  have zb : decide (fC b = 0) = false := decide_eq_false (by omega)
  have ib : decide (fC b = 3) = false := decide_eq_false (by omega)
  have nn : (decide (fC a = 4) || decide (fC b = 4)) = false := by simp only [Bool.or_eq_false_iff, decide_eq_false_iff_not]; omega
  have eF : mlF md a b = if fV a * fV b = 0 then sg (fS a != fS b) else dF md (fV a * fV b) := by unfold mlF; rw [if_neg (by omega), if_neg (by omega), if_neg (by omega)]
  have eG : mlG md a b = dG md (fV a * fV b) := by unfold mlG; rw [if_neg (by omega), if_neg (by omega), if_neg (by omega)]
  rw [eF, eG]
  clear eF eG
  have CR := Lib.hid (fun (h l : Int) (wh : Word h) (wl : Word l) (hv : V2 h l = fX a * fX b) (w : World) => mul_any md h l wh wl hv w)
  have SA := Lib.hid (split_any a ha)
  have SB := Lib.hid (split_any b hb)
  have xa := fX_word a
  have xb := fX_word b
  have ya := fY_bd a
  have yb := fY_bd b
  generalize (if fV a * fV b = 0 then sg (fS a != fS b) else dF md (fV a * fV b)) = rr at *
  clear hca hcb la lb
  go_enter Tryz.func8, Tryz.ntmps8
  go_wp2_with fail
  refine (sneg_any a ha _).mono ?_
  rintro e w2 ⟨rfl, rfl⟩
  go_wp2_with fail
  refine (sneg_any b hb _).mono ?_
  rintro e w2 ⟨rfl, rfl⟩
  go_wp2_with fail
  refine (nan2 ha hb _ _ _).mono ?_
  rw [nn]
  rintro e w1 ⟨rfl, hb1⟩
  have HB := Lib.hid (bel_trans (bel_alloc (Below.refl _ _) _) hb1)
  clear hb1
  go_wp2_with fail
  refine (szero_any a ha _).mono ?_
  rw [za]
  rintro e w2 ⟨rfl, rfl⟩
  go_wp2_with fail
  refine (sinf_any b hb _).mono ?_
  rw [ib]
  rintro e w2 ⟨rfl, rfl⟩
  go_wp2_with fail
  refine (sinf_any a ha _).mono ?_
  rw [ia]
  rintro e w2 ⟨rfl, rfl⟩
  go_wp2_with fail
  refine (sinf_any a ha _).mono ?_
  rw [ia]
  rintro e w2 ⟨rfl, rfl⟩
  go_wp2_with fail
  refine (sinf_any b hb _).mono ?_
  rw [ib]
  rintro e w2 ⟨rfl, rfl⟩
  go_wp2_with fail
  refine (SA.out _).mono ?_
  rintro e w2 ⟨rfl, rfl⟩
  go_wp2_with fail
  refine (SB.out _).mono ?_
  rintro e w2 ⟨rfl, rfl⟩
  go_wp2_with fail
  refine (mul1 (fX a) (fX b) xa xb _).mono ?_
  rintro e w3 ⟨v, ⟨h, l, wh, wl, hv, rfl⟩, rfl, hb3⟩
  have HV := Lib.hid hv
  have HB3 := Lib.hid (bel_trans HB.out hb3)
  clear hv hb3 HB
  go_wp2_with fail
  refine (CR.out h l wh wl HV.out _).mono ?_
  rintro e w4 ⟨rfl, hb4⟩
  go_wp2_with fail
  go_ret2
  exact ⟨rfl, bel_trans HB3.out hb4⟩
set_option maxHeartbeats 4000000 in
theorem mul_FN (a b md : Int) (ha : Word a) (hb : Word b) (hca : fC a ≠ 0 ∧ fC a ≠ 3 ∧ fC a ≠ 4) (hcb : fC b = 4) (w : World) :
    Calls Tryz.prog 8 #[.int .u64 a, .int .u64 b, .int .u8 md] w (RetF (mlF md a b) (mlG md a b) w) := by
  have la := cls_bd a
  have lb := cls_bd b
  have za : decide (fC a = 0) = false := decide_eq_false (by omega)
  have ia : decide (fC a = 3) = false := decide_eq_false (by omega)
  have zb : decide (fC b = 0) = false := decide_eq_false (by omega)
  have ib : decide (fC b = 3) = false := decide_eq_false (by omega)
  have nn : (decide (fC a = 4) || decide (fC b = 4)) = true := by simp only [Bool.or_eq_true, decide_eq_true_eq]; omega
  have eF : mlF md a b = 9221120237041090560 := by unfold mlF; rw [if_pos (by omega)]
  have eG : mlG md a b = 0 := by unfold mlG; rw [if_pos (by omega)]
  rw [eF, eG]
  clear eF eG
  clear hca hcb la lb
  go_enter Tryz.func8, Tryz.ntmps8
  go_wp2_with fail
  refine (sneg_any a ha _).mono ?_
  rintro e w2 ⟨rfl, rfl⟩
  go_wp2_with fail
  refine (sneg_any b hb _).mono ?_
  rintro e w2 ⟨rfl, rfl⟩
  go_wp2_with fail
  refine (nan2 ha hb _ _ _).mono ?_
  rw [nn]
  rintro e w1 ⟨rfl, hb1⟩
  have HB := Lib.hid (bel_trans (bel_alloc (Below.refl _ _) _) hb1)
  clear hb1
  go_wp2_with fail
  refine (quiet_f _).mono ?_
  rintro e w2 ⟨rfl, rfl⟩
  go_wp2_with fail
  go_ret2
  exact ⟨rfl, HB.out⟩
set_option maxHeartbeats 4000000 in
theorem mul_FI (a b md : Int) (ha : Word a) (hb : Word b) (hca : fC a ≠ 0 ∧ fC a ≠ 3 ∧ fC a ≠ 4) (hcb : fC b = 3) (w : World) :
    Calls Tryz.prog 8 #[.int .u64 a, .int .u64 b, .int .u8 md] w (RetF (mlF md a b) (mlG md a b) w) := by
  have la := cls_bd a
  have lb := cls_bd b
  have za : decide (fC a = 0) = false := decide_eq_false (by omega)
  have ia : decide (fC a = 3) = false := decide_eq_false (by omega)
  have zb : decide (fC b = 0) = false := decide_eq_false (by omega)
  have ib : decide (fC b = 3) = true := decide_eq_true (by omega)
  have nn : (decide (fC a = 4) || decide (fC b = 4)) = false := by simp only [Bool.or_eq_false_iff, decide_eq_false_iff_not]; omega
  have eF : mlF md a b = 9218868437227405312 + sg (fS a != fS b) := by unfold mlF; rw [if_neg (by omega), if_neg (by omega), if_pos (by omega)]
  have eG : mlG md a b = 0 := by unfold mlG; rw [if_neg (by omega), if_neg (by omega), if_pos (by omega)]
  rw [eF, eG]
  clear eF eG
  clear hca hcb la lb
  go_enter Tryz.func8, Tryz.ntmps8
  go_wp2_with fail
  refine (sneg_any a ha _).mono ?_
  rintro e w2 ⟨rfl, rfl⟩
  go_wp2_with fail
  refine (sneg_any b hb _).mono ?_
  rintro e w2 ⟨rfl, rfl⟩
  go_wp2_with fail
  refine (nan2 ha hb _ _ _).mono ?_
  rw [nn]
  rintro e w1 ⟨rfl, hb1⟩
  have HB := Lib.hid (bel_trans (bel_alloc (Below.refl _ _) _) hb1)
  clear hb1
  go_wp2_with fail
  refine (szero_any a ha _).mono ?_
  rw [za]
  rintro e w2 ⟨rfl, rfl⟩
  go_wp2_with fail
  refine (sinf_any a ha _).mono ?_
  rw [ia]
  rintro e w2 ⟨rfl, rfl⟩
  go_wp2_with fail
  refine (sinf_any a ha _).mono ?_
  rw [ia]
  rintro e w2 ⟨rfl, rfl⟩
  go_wp2_with fail
  refine (sinf_any b hb _).mono ?_
  rw [ib]
  rintro e w2 ⟨rfl, rfl⟩
  go_wp2_with fail
  refine (inf_f _ _).mono ?_
  rintro e w2 ⟨rfl, rfl⟩
  go_wp2_with fail
  go_ret2
  exact ⟨rfl, HB.out⟩
set_option maxHeartbeats 4000000 in
theorem mul_FZ (a b md : Int) (ha : Word a) (hb : Word b) (hca : fC a ≠ 0 ∧ fC a ≠ 3 ∧ fC a ≠ 4) (hcb : fC b = 0) (w : World) :
    Calls Tryz.prog 8 #[.int .u64 a, .int .u64 b, .int .u8 md] w (RetF (mlF md a b) (mlG md a b) w) := by
  have la := cls_bd a
  have lb := cls_bd b
  have za : decide (fC a = 0) = false := decide_eq_false (by omega)
  have ia : decide (fC a = 3) = false := decide_eq_false (by omega)
  have zb : decide (fC b = 0) = true := decide_eq_true (by omega)
  have ib : decide (fC b = 3) = false := decide_eq_false (by omega)
  have nn : (decide (fC a = 4) || decide (fC b = 4)) = false := by simp only [Bool.or_eq_false_iff, decide_eq_false_iff_not]; omega
  have eF : mlF md a b = if fV a * fV b = 0 then sg (fS a != fS b) else dF md (fV a * fV b) := by unfold mlF; rw [if_neg (by omega), if_neg (by omega), if_neg (by omega)]
  have eG : mlG md a b = dG md (fV a * fV b) := by unfold mlG; rw [if_neg (by omega), if_neg (by omega), if_neg (by omega)]
  rw [eF, eG]
  clear eF eG
  have CR := Lib.hid (fun (h l : Int) (wh : Word h) (wl : Word l) (hv : V2 h l = fX a * fX b) (w : World) => mul_any md h l wh wl hv w)
  have SA := Lib.hid (split_any a ha)
  have SB := Lib.hid (split_any b hb)
  have xa := fX_word a
  have xb := fX_word b
  have ya := fY_bd a
  have yb := fY_bd b
  generalize (if fV a * fV b = 0 then sg (fS a != fS b) else dF md (fV a * fV b)) = rr at *
  clear hca hcb la lb
  go_enter Tryz.func8, Tryz.ntmps8
  go_wp2_with fail
  refine (sneg_any a ha _).mono ?_
  rintro e w2 ⟨rfl, rfl⟩
  go_wp2_with fail
  refine (sneg_any b hb _).mono ?_
  rintro e w2 ⟨rfl, rfl⟩
  go_wp2_with fail
  refine (nan2 ha hb _ _ _).mono ?_
  rw [nn]
  rintro e w1 ⟨rfl, hb1⟩
  have HB := Lib.hid (bel_trans (bel_alloc (Below.refl _ _) _) hb1)
  clear hb1
  go_wp2_with fail
  refine (szero_any a ha _).mono ?_
  rw [za]
  rintro e w2 ⟨rfl, rfl⟩
  go_wp2_with fail
  refine (sinf_any a ha _).mono ?_
  rw [ia]
  rintro e w2 ⟨rfl, rfl⟩
  go_wp2_with fail
  refine (sinf_any a ha _).mono ?_
  rw [ia]
  rintro e w2 ⟨rfl, rfl⟩
  go_wp2_with fail
  refine (sinf_any b hb _).mono ?_
  rw [ib]
  rintro e w2 ⟨rfl, rfl⟩
  go_wp2_with fail
  refine (SA.out _).mono ?_
  rintro e w2 ⟨rfl, rfl⟩
  go_wp2_with fail
  refine (SB.out _).mono ?_
  rintro e w2 ⟨rfl, rfl⟩
  go_wp2_with fail
  refine (mul1 (fX a) (fX b) xa xb _).mono ?_
  rintro e w3 ⟨v, ⟨h, l, wh, wl, hv, rfl⟩, rfl, hb3⟩
  have HV := Lib.hid hv
  have HB3 := Lib.hid (bel_trans HB.out hb3)
  clear hv hb3 HB
  go_wp2_with fail
  refine (CR.out h l wh wl HV.out _).mono ?_
  rintro e w4 ⟨rfl, hb4⟩
  go_wp2_with fail
  go_ret2
  exact ⟨rfl, bel_trans HB3.out hb4⟩
set_option maxHeartbeats 4000000 in
theorem mul_FF (a b md : Int) (ha : Word a) (hb : Word b) (hca : fC a ≠ 0 ∧ fC a ≠ 3 ∧ fC a ≠ 4) (hcb : fC b ≠ 0 ∧ fC b ≠ 3 ∧ fC b ≠ 4) (w : World) :
    Calls Tryz.prog 8 #[.int .u64 a, .int .u64 b, .int .u8 md] w (RetF (mlF md a b) (mlG md a b) w) := by
  have la := cls_bd a
  have lb := cls_bd b
  have za : decide (fC a = 0) = false := decide_eq_false (by omega)
  have ia : decide (fC a = 3) = false := decide_eq_false (by omega)
  have zb : decide (fC b = 0) = false := decide_eq_false (by omega)
  have ib : decide (fC b = 3) = false := decide_eq_false (by omega)
  have nn : (decide (fC a = 4) || decide (fC b = 4)) = false := by simp only [Bool.or_eq_false_iff, decide_eq_false_iff_not]; omega
  have eF : mlF md a b = if fV a * fV b = 0 then sg (fS a != fS b) else dF md (fV a * fV b) := by unfold mlF; rw [if_neg (by omega), if_neg (by omega), if_neg (by omega)]
  have eG : mlG md a b = dG md (fV a * fV b) := by unfold mlG; rw [if_neg (by omega), if_neg (by omega), if_neg (by omega)]
  rw [eF, eG]
  clear eF eG
  have CR := Lib.hid (fun (h l : Int) (wh : Word h) (wl : Word l) (hv : V2 h l = fX a * fX b) (w : World) => mul_any md h l wh wl hv w)
  have SA := Lib.hid (split_any a ha)
  have SB := Lib.hid (split_any b hb)
  have xa := fX_word a
  have xb := fX_word b
  have ya := fY_bd a
  have yb := fY_bd b
  generalize (if fV a * fV b = 0 then sg (fS a != fS b) else dF md (fV a * fV b)) = rr at *
  clear hca hcb la lb
  go_enter Tryz.func8, Tryz.ntmps8
  go_wp2_with fail
  refine (sneg_any a ha _).mono ?_
  rintro e w2 ⟨rfl, rfl⟩
  go_wp2_with fail
  refine (sneg_any b hb _).mono ?_
  rintro e w2 ⟨rfl, rfl⟩
  go_wp2_with fail
  refine (nan2 ha hb _ _ _).mono ?_
  rw [nn]
  rintro e w1 ⟨rfl, hb1⟩
  have HB := Lib.hid (bel_trans (bel_alloc (Below.refl _ _) _) hb1)
  clear hb1
  go_wp2_with fail
  refine (szero_any a ha _).mono ?_
  rw [za]
  rintro e w2 ⟨rfl, rfl⟩
  go_wp2_with fail
  refine (sinf_any a ha _).mono ?_
  rw [ia]
  rintro e w2 ⟨rfl, rfl⟩
  go_wp2_with fail
  refine (sinf_any a ha _).mono ?_
  rw [ia]
  rintro e w2 ⟨rfl, rfl⟩
  go_wp2_with fail
  refine (sinf_any b hb _).mono ?_
  rw [ib]
  rintro e w2 ⟨rfl, rfl⟩
  go_wp2_with fail
  refine (SA.out _).mono ?_
  rintro e w2 ⟨rfl, rfl⟩
  go_wp2_with fail
  refine (SB.out _).mono ?_
  rintro e w2 ⟨rfl, rfl⟩
  go_wp2_with fail
  refine (mul1 (fX a) (fX b) xa xb _).mono ?_
  rintro e w3 ⟨v, ⟨h, l, wh, wl, hv, rfl⟩, rfl, hb3⟩
  have HV := Lib.hid hv
  have HB3 := Lib.hid (bel_trans HB.out hb3)
  clear hv hb3 HB
  go_wp2_with fail
  refine (CR.out h l wh wl HV.out _).mono ?_
  rintro e w4 ⟨rfl, hb4⟩
  go_wp2_with fail
  go_ret2
  exact ⟨rfl, bel_trans HB3.out hb4⟩
set_option maxHeartbeats 4000000 in
theorem div_NN (a b md : Int) (ha : Word a) (hb : Word b) (hca : fC a = 4) (hcb : fC b = 4) (w : World) :
    Calls Tryz.prog 13 #[.int .u64 a, .int .u64 b, .int .u8 md] w (RetF (dvF md a b) (dvG md a b) w) := by
  have la := cls_bd a
  have lb := cls_bd b
  have za : decide (fC a = 0) = false := decide_eq_false (by omega)
  have ia : decide (fC a = 3) = false := decide_eq_false (by omega)
  have zb : decide (fC b = 0) = false := decide_eq_false (by omega)
  have ib : decide (fC b = 3) = false := decide_eq_false (by omega)
  have nn : (decide (fC a = 4) || decide (fC b = 4)) = true := by simp only [Bool.or_eq_true, decide_eq_true_eq]; omega
  have eF : dvF md a b = 9221120237041090560 := by unfold dvF; rw [if_pos (by omega)]
  have eG : dvG md a b = 0 := by unfold dvG; rw [if_pos (by omega)]
  rw [eF, eG]
  clear eF eG
  clear hca hcb la lb
  go_enter Tryz.func13, Tryz.ntmps13
  go_wp2_with fail
  refine (sneg_any a ha _).mono ?_
  rintro e w2 ⟨rfl, rfl⟩
  go_wp2_with fail
  refine (sneg_any b hb _).mono ?_
  rintro e w2 ⟨rfl, rfl⟩
  go_wp2_with fail
  refine (nan2 ha hb _ _ _).mono ?_
  rw [nn]
  rintro e w1 ⟨rfl, hb1⟩
  have HB := Lib.hid (bel_trans (bel_alloc (Below.refl _ _) _) hb1)
  clear hb1
  go_wp2_with fail
  refine (quiet_f _).mono ?_
  rintro e w2 ⟨rfl, rfl⟩
  go_wp2_with fail
  go_ret2
  exact ⟨rfl, HB.out⟩
set_option maxHeartbeats 4000000 in
theorem div_NI (a b md : Int) (ha : Word a) (hb : Word b) (hca : fC a = 4) (hcb : fC b = 3) (w : World) :
    Calls Tryz.prog 13 #[.int .u64 a, .int .u64 b, .int .u8 md] w (RetF (dvF md a b) (dvG md a b) w) := by
  have la := cls_bd a
  have lb := cls_bd b
  have za : decide (fC a = 0) = false := decide_eq_false (by omega)
  have ia : decide (fC a = 3) = false := decide_eq_false (by omega)
  have zb : decide (fC b = 0) = false := decide_eq_false (by omega)
  have ib : decide (fC b = 3) = true := decide_eq_true (by omega)
  have nn : (decide (fC a = 4) || decide (fC b = 4)) = true := by simp only [Bool.or_eq_true, decide_eq_true_eq]; omega
  have eF : dvF md a b = 9221120237041090560 := by unfold dvF; rw [if_pos (by omega)]
  have eG : dvG md a b = 0 := by unfold dvG; rw [if_pos (by omega)]
  rw [eF, eG]
  clear eF eG
  clear hca hcb la lb
  go_enter Tryz.func13, Tryz.ntmps13
  go_wp2_with fail
  refine (sneg_any a ha _).mono ?_
  rintro e w2 ⟨rfl, rfl⟩
  go_wp2_with fail
  refine (sneg_any b hb _).mono ?_
  rintro e w2 ⟨rfl, rfl⟩
  go_wp2_with fail
  refine (nan2 ha hb _ _ _).mono ?_
  rw [nn]
  rintro e w1 ⟨rfl, hb1⟩
  have HB := Lib.hid (bel_trans (bel_alloc (Below.refl _ _) _) hb1)
  clear hb1
  go_wp2_with fail
  refine (quiet_f _).mono ?_
  rintro e w2 ⟨rfl, rfl⟩
  go_wp2_with fail
  go_ret2
  exact ⟨rfl, HB.out⟩
set_option maxHeartbeats 4000000 in
theorem div_NZ (a b md : Int) (ha : Word a) (hb : Word b) (hca : fC a = 4) (hcb : fC b = 0) (w : World) :
    Calls Tryz.prog 13 #[.int .u64 a, .int .u64 b, .int .u8 md] w (RetF (dvF md a b) (dvG md a b) w) := by
  have la := cls_bd a
  have lb := cls_bd b
  have za : decide (fC a = 0) = false := decide_eq_false (by omega)
  have ia : decide (fC a = 3) = false := decide_eq_false (by omega)
  have zb : decide (fC b = 0) = true := decide_eq_true (by omega)
  have ib : decide (fC b = 3) = false := decide_eq_false (by omega)
  have nn : (decide (fC a = 4) || decide (fC b = 4)) = true := by simp only [Bool.or_eq_true, decide_eq_true_eq]; omega
  have eF : dvF md a b = 9221120237041090560 := by unfold dvF; rw [if_pos (by omega)]
  have eG : dvG md a b = 0 := by unfold dvG; rw [if_pos (by omega)]
  rw [eF, eG]
  clear eF eG
  clear hca hcb la lb
  go_enter Tryz.func13, Tryz.ntmps13
  go_wp2_with fail
  refine (sneg_any a ha _).mono ?_
  rintro e w2 ⟨rfl, rfl⟩
  go_wp2_with fail
  refine (sneg_any b hb _).mono ?_
  rintro e w2 ⟨rfl, rfl⟩
  go_wp2_with fail
  refine (nan2 ha hb _ _ _).mono ?_
  rw [nn]
  rintro e w1 ⟨rfl, hb1⟩
  have HB := Lib.hid (bel_trans (bel_alloc (Below.refl _ _) _) hb1)
  clear hb1
  go_wp2_with fail
  refine (quiet_f _).mono ?_
  rintro e w2 ⟨rfl, rfl⟩
  go_wp2_with fail
  go_ret2
  exact ⟨rfl, HB.out⟩
set_option maxHeartbeats 4000000 in
theorem div_NF (a b md : Int) (ha : Word a) (hb : Word b) (hca : fC a = 4) (hcb : fC b ≠ 0 ∧ fC b ≠ 3 ∧ fC b ≠ 4) (w : World) :
    Calls Tryz.prog 13 #[.int .u64 a, .int .u64 b, .int .u8 md] w (RetF (dvF md a b) (dvG md a b) w) := by
  have la := cls_bd a
  have lb := cls_bd b
  have za : decide (fC a = 0) = false := decide_eq_false (by omega)
  have ia : decide (fC a = 3) = false := decide_eq_false (by omega)
  have zb : decide (fC b = 0) = false := decide_eq_false (by omega)
  have ib : decide (fC b = 3) = false := decide_eq_false (by omega)
  have nn : (decide (fC a = 4) || decide (fC b = 4)) = true := by simp only [Bool.or_eq_true, decide_eq_true_eq]; omega
  have eF : dvF md a b = 9221120237041090560 := by unfold dvF; rw [if_pos (by omega)]
  have eG : dvG md a b = 0 := by unfold dvG; rw [if_pos (by omega)]
  rw [eF, eG]
  clear eF eG
  clear hca hcb la lb
  go_enter Tryz.func13, Tryz.ntmps13
  go_wp2_with fail
  refine (sneg_any a ha _).mono ?_
  rintro e w2 ⟨rfl, rfl⟩
  go_wp2_with fail
  refine (sneg_any b hb _).mono ?_
  rintro e w2 ⟨rfl, rfl⟩
  go_wp2_with fail
  refine (nan2 ha hb _ _ _).mono ?_
  rw [nn]
  rintro e w1 ⟨rfl, hb1⟩
  have HB := Lib.hid (bel_trans (bel_alloc (Below.refl _ _) _) hb1)
  clear hb1
  go_wp2_with fail
  refine (quiet_f _).mono ?_
  rintro e w2 ⟨rfl, rfl⟩
  go_wp2_with fail
  go_ret2
  exact ⟨rfl, HB.out⟩
set_option maxHeartbeats 4000000 in
theorem div_IN (a b md : Int) (ha : Word a) (hb : Word b) (hca : fC a = 3) (hcb : fC b = 4) (w : World) :
    Calls Tryz.prog 13 #[.int .u64 a, .int .u64 b, .int .u8 md] w (RetF (dvF md a b) (dvG md a b) w) := by
  have la := cls_bd a
  have lb := cls_bd b
  have za : decide (fC a = 0) = false := decide_eq_false (by omega)
  have ia : decide (fC a = 3) = true := decide_eq_true (by omega)
  have zb : decide (fC b = 0) = false := decide_eq_false (by omega)
  have ib : decide (fC b = 3) = false := decide_eq_false (by omega)
  have nn : (decide (fC a = 4) || decide (fC b = 4)) = true := by simp only [Bool.or_eq_true, decide_eq_true_eq]; omega
  have eF : dvF md a b = 9221120237041090560 := by unfold dvF; rw [if_pos (by omega)]
  have eG : dvG md a b = 0 := by unfold dvG; rw [if_pos (by omega)]
  rw [eF, eG]
  clear eF eG
  clear hca hcb la lb
  go_enter Tryz.func13, Tryz.ntmps13
  go_wp2_with fail
  refine (sneg_any a ha _).mono ?_
  rintro e w2 ⟨rfl, rfl⟩
  go_wp2_with fail
  refine (sneg_any b hb _).mono ?_
  rintro e w2 ⟨rfl, rfl⟩
  go_wp2_with fail
  refine (nan2 ha hb _ _ _).mono ?_
  rw [nn]
  rintro e w1 ⟨rfl, hb1⟩
  have HB := Lib.hid (bel_trans (bel_alloc (Below.refl _ _) _) hb1)
  clear hb1
  go_wp2_with fail
  refine (quiet_f _).mono ?_
  rintro e w2 ⟨rfl, rfl⟩
  go_wp2_with fail
  go_ret2
  exact ⟨rfl, HB.out⟩
set_option maxHeartbeats 4000000 in
theorem div_II (a b md : Int) (ha : Word a) (hb : Word b) (hca : fC a = 3) (hcb : fC b = 3) (w : World) :
    Calls Tryz.prog 13 #[.int .u64 a, .int .u64 b, .int .u8 md] w (RetF (dvF md a b) (dvG md a b) w) := by
  have la := cls_bd a
  have lb := cls_bd b
  have za : decide (fC a = 0) = false := decide_eq_false (by omega)
  have ia : decide (fC a = 3) = true := decide_eq_true (by omega)
  have zb : decide (fC b = 0) = false := decide_eq_false (by omega)
  have ib : decide (fC b = 3) = true := decide_eq_true (by omega)
  have nn : (decide (fC a = 4) || decide (fC b = 4)) = false := by simp only [Bool.or_eq_false_iff, decide_eq_false_iff_not]; omega
  have eF : dvF md a b = 9221120237041090560 := by unfold dvF; rw [if_neg (by omega), if_pos (by omega)]
  have eG : dvG md a b = 16 := by unfold dvG; rw [if_neg (by omega), if_pos (by omega)]
  rw [eF, eG]
  clear eF eG
  clear hca hcb la lb
  go_enter Tryz.func13, Tryz.ntmps13
  go_wp2_with fail
  refine (sneg_any a ha _).mono ?_
  rintro e w2 ⟨rfl, rfl⟩
  go_wp2_with fail
  refine (sneg_any b hb _).mono ?_
  rintro e w2 ⟨rfl, rfl⟩
  go_wp2_with fail
  refine (nan2 ha hb _ _ _).mono ?_
  rw [nn]
  rintro e w1 ⟨rfl, hb1⟩
  have HB := Lib.hid (bel_trans (bel_alloc (Below.refl _ _) _) hb1)
  clear hb1
  go_wp2_with fail
  refine (szero_any a ha _).mono ?_
  rw [za]
  rintro e w2 ⟨rfl, rfl⟩
  go_wp2_with fail
  refine (sinf_any a ha _).mono ?_
  rw [ia]
  rintro e w2 ⟨rfl, rfl⟩
  go_wp2_with fail
  refine (sinf_any b hb _).mono ?_
  rw [ib]
  rintro e w2 ⟨rfl, rfl⟩
  go_wp2_with fail
  refine (invalid_any _).mono ?_
  rintro e w2 ⟨rfl, rfl⟩
  go_wp2_with fail
  go_ret2
  exact ⟨rfl, HB.out⟩
set_option maxHeartbeats 4000000 in
theorem div_IZ (a b md : Int) (ha : Word a) (hb : Word b) (hca : fC a = 3) (hcb : fC b = 0) (w : World) :
    Calls Tryz.prog 13 #[.int .u64 a, .int .u64 b, .int .u8 md] w (RetF (dvF md a b) (dvG md a b) w) := by
  have la := cls_bd a
  have lb := cls_bd b
  have za : decide (fC a = 0) = false := decide_eq_false (by omega)
  have ia : decide (fC a = 3) = true := decide_eq_true (by omega)
  have zb : decide (fC b = 0) = true := decide_eq_true (by omega)
  have ib : decide (fC b = 3) = false := decide_eq_false (by omega)
  have nn : (decide (fC a = 4) || decide (fC b = 4)) = false := by simp only [Bool.or_eq_false_iff, decide_eq_false_iff_not]; omega
  have eF : dvF md a b = 9218868437227405312 + sg (fS a != fS b) := by unfold dvF; rw [if_neg (by omega), if_neg (by omega), if_pos (by omega)]
  have eG : dvG md a b = 0 := by unfold dvG; rw [if_neg (by omega), if_neg (by omega), if_pos (by omega)]
  rw [eF, eG]
  clear eF eG
  clear hca hcb la lb
  go_enter Tryz.func13, Tryz.ntmps13
  go_wp2_with fail
  refine (sneg_any a ha _).mono ?_
  rintro e w2 ⟨rfl, rfl⟩
  go_wp2_with fail
  refine (sneg_any b hb _).mono ?_
  rintro e w2 ⟨rfl, rfl⟩
  go_wp2_with fail
  refine (nan2 ha hb _ _ _).mono ?_
  rw [nn]
  rintro e w1 ⟨rfl, hb1⟩
  have HB := Lib.hid (bel_trans (bel_alloc (Below.refl _ _) _) hb1)
  clear hb1
  go_wp2_with fail
  refine (szero_any a ha _).mono ?_
  rw [za]
  rintro e w2 ⟨rfl, rfl⟩
  go_wp2_with fail
  refine (sinf_any a ha _).mono ?_
  rw [ia]
  rintro e w2 ⟨rfl, rfl⟩
  go_wp2_with fail
  refine (sinf_any b hb _).mono ?_
  rw [ib]
  rintro e w2 ⟨rfl, rfl⟩
  go_wp2_with fail
  refine (sinf_any a ha _).mono ?_
  rw [ia]
  rintro e w2 ⟨rfl, rfl⟩
  go_wp2_with fail
  refine (inf_f _ _).mono ?_
  rintro e w2 ⟨rfl, rfl⟩
  go_wp2_with fail
  go_ret2
  exact ⟨rfl, HB.out⟩
set_option maxHeartbeats 4000000 in
theorem div_IF (a b md : Int) (ha : Word a) (hb : Word b) (hca : fC a = 3) (hcb : fC b ≠ 0 ∧ fC b ≠ 3 ∧ fC b ≠ 4) (w : World) :
    Calls Tryz.prog 13 #[.int .u64 a, .int .u64 b, .int .u8 md] w (RetF (dvF md a b) (dvG md a b) w) := by
  have la := cls_bd a
  have lb := cls_bd b
  have za : decide (fC a = 0) = false := decide_eq_false (by omega)
  have ia : decide (fC a = 3) = true := decide_eq_true (by omega)
  have zb : decide (fC b = 0) = false := decide_eq_false (by omega)
  have ib : decide (fC b = 3) = false := decide_eq_false (by omega)
  have nn : (decide (fC a = 4) || decide (fC b = 4)) = false := by simp only [Bool.or_eq_false_iff, decide_eq_false_iff_not]; omega
  have eF : dvF md a b = 9218868437227405312 + sg (fS a != fS b) := by unfold dvF; rw [if_neg (by omega), if_neg (by omega), if_pos (by omega)]
  have eG : dvG md a b = 0 := by unfold dvG; rw [if_neg (by omega), if_neg (by omega), if_pos (by omega)]
  rw [eF, eG]
  clear eF eG
  clear hca hcb la lb
  go_enter Tryz.func13, Tryz.ntmps13
  go_wp2_with fail
  refine (sneg_any a ha _).mono ?_
  rintro e w2 ⟨rfl, rfl⟩
  go_wp2_with fail
  refine (sneg_any b hb _).mono ?_
  rintro e w2 ⟨rfl, rfl⟩
  go_wp2_with fail
  refine (nan2 ha hb _ _ _).mono ?_
  rw [nn]
  rintro e w1 ⟨rfl, hb1⟩
  have HB := Lib.hid (bel_trans (bel_alloc (Below.refl _ _) _) hb1)
  clear hb1
  go_wp2_with fail
  refine (szero_any a ha _).mono ?_
  rw [za]
  rintro e w2 ⟨rfl, rfl⟩
  go_wp2_with fail
  refine (sinf_any a ha _).mono ?_
  rw [ia]
  rintro e w2 ⟨rfl, rfl⟩
  go_wp2_with fail
  refine (sinf_any b hb _).mono ?_
  rw [ib]
  rintro e w2 ⟨rfl, rfl⟩
  go_wp2_with fail
  refine (sinf_any a ha _).mono ?_
  rw [ia]
  rintro e w2 ⟨rfl, rfl⟩
  go_wp2_with fail
  refine (inf_f _ _).mono ?_
  rintro e w2 ⟨rfl, rfl⟩
  go_wp2_with fail
  go_ret2
  exact ⟨rfl, HB.out⟩
set_option maxHeartbeats 4000000 in
theorem div_ZN (a b md : Int) (ha : Word a) (hb : Word b) (hca : fC a = 0) (hcb : fC b = 4) (w : World) :
    Calls Tryz.prog 13 #[.int .u64 a, .int .u64 b, .int .u8 md] w (RetF (dvF md a b) (dvG md a b) w) := by
  have la := cls_bd a
  have lb := cls_bd b
  have za : decide (fC a = 0) = true := decide_eq_true (by omega)
  have ia : decide (fC a = 3) = false := decide_eq_false (by omega)
  have zb : decide (fC b = 0) = false := decide_eq_false (by omega)
  have ib : decide (fC b = 3) = false := decide_eq_false (by omega)
  have nn : (decide (fC a = 4) || decide (fC b = 4)) = true := by simp only [Bool.or_eq_true, decide_eq_true_eq]; omega
  have eF : dvF md a b = 9221120237041090560 := by unfold dvF; rw [if_pos (by omega)]
  have eG : dvG md a b = 0 := by unfold dvG; rw [if_pos (by omega)]
  rw [eF, eG]
  clear eF eG
  clear hca hcb la lb
  go_enter Tryz.func13, Tryz.ntmps13
  go_wp2_with fail
  refine (sneg_any a ha _).mono ?_
  rintro e w2 ⟨rfl, rfl⟩
  go_wp2_with fail
  refine (sneg_any b hb _).mono ?_
  rintro e w2 ⟨rfl, rfl⟩
  go_wp2_with fail
  refine (nan2 ha hb _ _ _).mono ?_
  rw [nn]
  rintro e w1 ⟨rfl, hb1⟩
  have HB := Lib.hid (bel_trans (bel_alloc (Below.refl _ _) _) hb1)
  clear hb1
  go_wp2_with fail
  refine (quiet_f _).mono ?_
  rintro e w2 ⟨rfl, rfl⟩
  go_wp2_with fail
  go_ret2
  exact ⟨rfl, HB.out⟩
set_option maxHeartbeats 4000000 in
theorem div_ZI (a b md : Int) (ha : Word a) (hb : Word b) (hca : fC a = 0) (hcb : fC b = 3) (w : World) :
    Calls Tryz.prog 13 #[.int .u64 a, .int .u64 b, .int .u8 md] w (RetF (dvF md a b) (dvG md a b) w) := by
  have la := cls_bd a
  have lb := cls_bd b
  have za : decide (fC a = 0) = true := decide_eq_true (by omega)
  have ia : decide (fC a = 3) = false := decide_eq_false (by omega)
  have zb : decide (fC b = 0) = false := decide_eq_false (by omega)
  have ib : decide (fC b = 3) = true := decide_eq_true (by omega)
  have nn : (decide (fC a = 4) || decide (fC b = 4)) = false := by simp only [Bool.or_eq_false_iff, decide_eq_false_iff_not]; omega
  have eF : dvF md a b = sg (fS a != fS b) := by unfold dvF; rw [if_neg (by omega), if_neg (by omega), if_neg (by omega), if_neg (by omega), if_pos (by omega)]
  have eG : dvG md a b = 0 := by unfold dvG; rw [if_neg (by omega), if_neg (by omega), if_neg (by omega), if_neg (by omega), if_pos (by omega)]
  rw [eF, eG]
  clear eF eG
  clear hca hcb la lb
  go_enter Tryz.func13, Tryz.ntmps13
  go_wp2_with fail
  refine (sneg_any a ha _).mono ?_
  rintro e w2 ⟨rfl, rfl⟩
  go_wp2_with fail
  refine (sneg_any b hb _).mono ?_
  rintro e w2 ⟨rfl, rfl⟩
  go_wp2_with fail
  refine (nan2 ha hb _ _ _).mono ?_
  rw [nn]
  rintro e w1 ⟨rfl, hb1⟩
  have HB := Lib.hid (bel_trans (bel_alloc (Below.refl _ _) _) hb1)
  clear hb1
  go_wp2_with fail
  refine (szero_any a ha _).mono ?_
  rw [za]
  rintro e w2 ⟨rfl, rfl⟩
  go_wp2_with fail
  refine (szero_any b hb _).mono ?_
  rw [zb]
  rintro e w2 ⟨rfl, rfl⟩
  go_wp2_with fail
  refine (sinf_any a ha _).mono ?_
  rw [ia]
  rintro e w2 ⟨rfl, rfl⟩
  go_wp2_with fail
  refine (sinf_any a ha _).mono ?_
  rw [ia]
  rintro e w2 ⟨rfl, rfl⟩
  go_wp2_with fail
  refine (szero_any b hb _).mono ?_
  rw [zb]
  rintro e w2 ⟨rfl, rfl⟩
  go_wp2_with fail
  refine (szero_any a ha _).mono ?_
  rw [za]
  rintro e w2 ⟨rfl, rfl⟩
  go_wp2_with fail
  refine (sz_any _ _).mono ?_
  rintro e w2 ⟨rfl, rfl⟩
  go_wp2_with fail
  go_ret2
  exact ⟨rfl, HB.out⟩
set_option maxHeartbeats 4000000 in
theorem div_ZZ (a b md : Int) (ha : Word a) (hb : Word b) (hca : fC a = 0) (hcb : fC b = 0) (w : World) :
    Calls Tryz.prog 13 #[.int .u64 a, .int .u64 b, .int .u8 md] w (RetF (dvF md a b) (dvG md a b) w) := by
  have la := cls_bd a
  have lb := cls_bd b
  have za : decide (fC a = 0) = true := decide_eq_true (by omega)
  have ia : decide (fC a = 3) = false := decide_eq_false (by omega)
  have zb : decide (fC b = 0) = true := decide_eq_true (by omega)
  have ib : decide (fC b = 3) = false := decide_eq_false (by omega)
  have nn : (decide (fC a = 4) || decide (fC b = 4)) = false := by simp only [Bool.or_eq_false_iff, decide_eq_false_iff_not]; omega
  have eF : dvF md a b = 9221120237041090560 := by unfold dvF; rw [if_neg (by omega), if_pos (by omega)]
  have eG : dvG md a b = 16 := by unfold dvG; rw [if_neg (by omega), if_pos (by omega)]
  rw [eF, eG]
  clear eF eG
  clear hca hcb la lb
  go_enter Tryz.func13, Tryz.ntmps13
  go_wp2_with fail
  refine (sneg_any a ha _).mono ?_
  rintro e w2 ⟨rfl, rfl⟩
  go_wp2_with fail
  refine (sneg_any b hb _).mono ?_
  rintro e w2 ⟨rfl, rfl⟩
  go_wp2_with fail
  refine (nan2 ha hb _ _ _).mono ?_
  rw [nn]
  rintro e w1 ⟨rfl, hb1⟩
  have HB := Lib.hid (bel_trans (bel_alloc (Below.refl _ _) _) hb1)
  clear hb1
  go_wp2_with fail
  refine (szero_any a ha _).mono ?_
  rw [za]
  rintro e w2 ⟨rfl, rfl⟩
  go_wp2_with fail
  refine (szero_any b hb _).mono ?_
  rw [zb]
  rintro e w2 ⟨rfl, rfl⟩
  go_wp2_with fail
  refine (invalid_any _).mono ?_
  rintro e w2 ⟨rfl, rfl⟩
  go_wp2_with fail
  go_ret2
  exact ⟨rfl, HB.out⟩
set_option maxHeartbeats 4000000 in
theorem div_ZF (a b md : Int) (ha : Word a) (hb : Word b) (hca : fC a = 0) (hcb : fC b ≠ 0 ∧ fC b ≠ 3 ∧ fC b ≠ 4) (w : World) :
    Calls Tryz.prog 13 #[.int .u64 a, .int .u64 b, .int .u8 md] w (RetF (dvF md a b) (dvG md a b) w) := by
  have la := cls_bd a
  have lb := cls_bd b
  have za : decide (fC a = 0) = true := decide_eq_true (by omega)
  have ia : decide (fC a = 3) = false := decide_eq_false (by omega)
  have zb : decide (fC b = 0) = false := decide_eq_false (by omega)
  have ib : decide (fC b = 3) = false := decide_eq_false (by omega)
  have nn : (decide (fC a = 4) || decide (fC b = 4)) = false := by simp only [Bool.or_eq_false_iff, decide_eq_false_iff_not]; omega
  have eF : dvF md a b = sg (fS a != fS b) := by unfold dvF; rw [if_neg (by omega), if_neg (by omega), if_neg (by omega), if_neg (by omega), if_pos (by omega)]
  have eG : dvG md a b = 0 := by unfold dvG; rw [if_neg (by omega), if_neg (by omega), if_neg (by omega), if_neg (by omega), if_pos (by omega)]
  rw [eF, eG]
  clear eF eG
  clear hca hcb la lb
  go_enter Tryz.func13, Tryz.ntmps13
  go_wp2_with fail
  refine (sneg_any a ha _).mono ?_
  rintro e w2 ⟨rfl, rfl⟩
  go_wp2_with fail
  refine (sneg_any b hb _).mono ?_
  rintro e w2 ⟨rfl, rfl⟩
  go_wp2_with fail
  refine (nan2 ha hb _ _ _).mono ?_
  rw [nn]
  rintro e w1 ⟨rfl, hb1⟩
  have HB := Lib.hid (bel_trans (bel_alloc (Below.refl _ _) _) hb1)
  clear hb1
  go_wp2_with fail
  refine (szero_any a ha _).mono ?_
  rw [za]
  rintro e w2 ⟨rfl, rfl⟩
  go_wp2_with fail
  refine (szero_any b hb _).mono ?_
  rw [zb]
  rintro e w2 ⟨rfl, rfl⟩
  go_wp2_with fail
  refine (sinf_any a ha _).mono ?_
  rw [ia]
  rintro e w2 ⟨rfl, rfl⟩
  go_wp2_with fail
  refine (sinf_any a ha _).mono ?_
  rw [ia]
  rintro e w2 ⟨rfl, rfl⟩
  go_wp2_with fail
  refine (szero_any b hb _).mono ?_
  rw [zb]
  rintro e w2 ⟨rfl, rfl⟩
  go_wp2_with fail
  refine (szero_any a ha _).mono ?_
  rw [za]
  rintro e w2 ⟨rfl, rfl⟩
  go_wp2_with fail
  refine (sz_any _ _).mono ?_
  rintro e w2 ⟨rfl, rfl⟩
  go_wp2_with fail
  go_ret2
  exact ⟨rfl, HB.out⟩
set_option maxHeartbeats 4000000 in
theorem div_FN (a b md : Int) (ha : Word a) (hb : Word b) (hca : fC a ≠ 0 ∧ fC a ≠ 3 ∧ fC a ≠ 4) (hcb : fC b = 4) (w : World) :
    Calls Tryz.prog 13 #[.int .u64 a, .int .u64 b, .int .u8 md] w (RetF (dvF md a b) (dvG md a b) w) := by
  have la := cls_bd a
  have lb := cls_bd b
  have za : decide (fC a = 0) = false := decide_eq_false (by omega)
  have ia : decide (fC a = 3) = false := decide_eq_false (by omega)
  have zb : decide (fC b = 0) = false := decide_eq_false (by omega)
  have ib : decide (fC b = 3) = false := decide_eq_false (by omega)
  have nn : (decide (fC a = 4) || decide (fC b = 4)) = true := by simp only [Bool.or_eq_true, decide_eq_true_eq]; omega
  have eF : dvF md a b = 9221120237041090560 := by unfold dvF; rw [if_pos (by omega)]
  have eG : dvG md a b = 0 := by unfold dvG; rw [if_pos (by omega)]
  rw [eF, eG]
  clear eF eG
  clear hca hcb la lb
  go_enter Tryz.func13, Tryz.ntmps13
  go_wp2_with fail
  refine (sneg_any a ha _).mono ?_
  rintro e w2 ⟨rfl, rfl⟩
  go_wp2_with fail
  refine (sneg_any b hb _).mono ?_
  rintro e w2 ⟨rfl, rfl⟩
  go_wp2_with fail
  refine (nan2 ha hb _ _ _).mono ?_
  rw [nn]
  rintro e w1 ⟨rfl, hb1⟩
  have HB := Lib.hid (bel_trans (bel_alloc (Below.refl _ _) _) hb1)
  clear hb1
  go_wp2_with fail
  refine (quiet_f _).mono ?_
  rintro e w2 ⟨rfl, rfl⟩
  go_wp2_with fail
  go_ret2
  exact ⟨rfl, HB.out⟩
set_option maxHeartbeats 4000000 in
theorem div_FI (a b md : Int) (ha : Word a) (hb : Word b) (hca : fC a ≠ 0 ∧ fC a ≠ 3 ∧ fC a ≠ 4) (hcb : fC b = 3) (w : World) :
    Calls Tryz.prog 13 #[.int .u64 a, .int .u64 b, .int .u8 md] w (RetF (dvF md a b) (dvG md a b) w) := by
  have la := cls_bd a
  have lb := cls_bd b
  have za : decide (fC a = 0) = false := decide_eq_false (by omega)
  have ia : decide (fC a = 3) = false := decide_eq_false (by omega)
  have zb : decide (fC b = 0) = false := decide_eq_false (by omega)
  have ib : decide (fC b = 3) = true := decide_eq_true (by omega)
  have nn : (decide (fC a = 4) || decide (fC b = 4)) = false := by simp only [Bool.or_eq_false_iff, decide_eq_false_iff_not]; omega
  have eF : dvF md a b = sg (fS a != fS b) := by unfold dvF; rw [if_neg (by omega), if_neg (by omega), if_neg (by omega), if_neg (by omega), if_pos (by omega)]
  have eG : dvG md a b = 0 := by unfold dvG; rw [if_neg (by omega), if_neg (by omega), if_neg (by omega), if_neg (by omega), if_pos (by omega)]
  rw [eF, eG]
  clear eF eG
  clear hca hcb la lb
  go_enter Tryz.func13, Tryz.ntmps13
  go_wp2_with fail
  refine (sneg_any a ha _).mono ?_
  rintro e w2 ⟨rfl, rfl⟩
  go_wp2_with fail
  refine (sneg_any b hb _).mono ?_
  rintro e w2 ⟨rfl, rfl⟩
  go_wp2_with fail
  refine (nan2 ha hb _ _ _).mono ?_
  rw [nn]
  rintro e w1 ⟨rfl, hb1⟩
  have HB := Lib.hid (bel_trans (bel_alloc (Below.refl _ _) _) hb1)
  clear hb1
  go_wp2_with fail
  refine (szero_any a ha _).mono ?_
  rw [za]
  rintro e w2 ⟨rfl, rfl⟩
  go_wp2_with fail
  refine (sinf_any a ha _).mono ?_
  rw [ia]
  rintro e w2 ⟨rfl, rfl⟩
  go_wp2_with fail
  refine (sinf_any a ha _).mono ?_
  rw [ia]
  rintro e w2 ⟨rfl, rfl⟩
  go_wp2_with fail
  refine (szero_any b hb _).mono ?_
  rw [zb]
  rintro e w2 ⟨rfl, rfl⟩
  go_wp2_with fail
  refine (szero_any a ha _).mono ?_
  rw [za]
  rintro e w2 ⟨rfl, rfl⟩
  go_wp2_with fail
  refine (sinf_any b hb _).mono ?_
  rw [ib]
  rintro e w2 ⟨rfl, rfl⟩
  go_wp2_with fail
  refine (sz_any _ _).mono ?_
  rintro e w2 ⟨rfl, rfl⟩
  go_wp2_with fail
  go_ret2
  exact ⟨rfl, HB.out⟩
set_option maxHeartbeats 4000000 in
theorem div_FZ (a b md : Int) (ha : Word a) (hb : Word b) (hca : fC a ≠ 0 ∧ fC a ≠ 3 ∧ fC a ≠ 4) (hcb : fC b = 0) (w : World) :
    Calls Tryz.prog 13 #[.int .u64 a, .int .u64 b, .int .u8 md] w (RetF (dvF md a b) (dvG md a b) w) := by
  have la := cls_bd a
  have lb := cls_bd b
  have za : decide (fC a = 0) = false := decide_eq_false (by omega)
  have ia : decide (fC a = 3) = false := decide_eq_false (by omega)
  have zb : decide (fC b = 0) = true := decide_eq_true (by omega)
  have ib : decide (fC b = 3) = false := decide_eq_false (by omega)
  have nn : (decide (fC a = 4) || decide (fC b = 4)) = false := by simp only [Bool.or_eq_false_iff, decide_eq_false_iff_not]; omega
  have eF : dvF md a b = 9218868437227405312 + sg (fS a != fS b) := by unfold dvF; rw [if_neg (by omega), if_neg (by omega), if_neg (by omega), if_pos (by omega)]
  have eG : dvG md a b = 8 := by unfold dvG; rw [if_neg (by omega), if_neg (by omega), if_neg (by omega), if_pos (by omega)]
  rw [eF, eG]
  clear eF eG
  clear hca hcb la lb
  go_enter Tryz.func13, Tryz.ntmps13
  go_wp2_with fail
  refine (sneg_any a ha _).mono ?_
  rintro e w2 ⟨rfl, rfl⟩
  go_wp2_with fail
  refine (sneg_any b hb _).mono ?_
  rintro e w2 ⟨rfl, rfl⟩
  go_wp2_with fail
  refine (nan2 ha hb _ _ _).mono ?_
  rw [nn]
  rintro e w1 ⟨rfl, hb1⟩
  have HB := Lib.hid (bel_trans (bel_alloc (Below.refl _ _) _) hb1)
  clear hb1
  go_wp2_with fail
  refine (szero_any a ha _).mono ?_
  rw [za]
  rintro e w2 ⟨rfl, rfl⟩
  go_wp2_with fail
  refine (sinf_any a ha _).mono ?_
  rw [ia]
  rintro e w2 ⟨rfl, rfl⟩
  go_wp2_with fail
  refine (sinf_any a ha _).mono ?_
  rw [ia]
  rintro e w2 ⟨rfl, rfl⟩
  go_wp2_with fail
  refine (szero_any b hb _).mono ?_
  rw [zb]
  rintro e w2 ⟨rfl, rfl⟩
  go_wp2_with fail
  refine (inf_f _ _).mono ?_
  rintro e w2 ⟨rfl, rfl⟩
  go_wp2_with fail
  go_ret2
  exact ⟨rfl, HB.out⟩
set_option maxHeartbeats 4000000 in
theorem div_FF (a b md : Int) (ha : Word a) (hb : Word b) (hca : fC a ≠ 0 ∧ fC a ≠ 3 ∧ fC a ≠ 4) (hcb : fC b ≠ 0 ∧ fC b ≠ 3 ∧ fC b ≠ 4) (w : World) :
    Calls Tryz.prog 13 #[.int .u64 a, .int .u64 b, .int .u8 md] w (RetF (dvF md a b) (dvG md a b) w) := by
  have la := cls_bd a
  have lb := cls_bd b
  have za : decide (fC a = 0) = false := decide_eq_false (by omega)
  have ia : decide (fC a = 3) = false := decide_eq_false (by omega)
  have zb : decide (fC b = 0) = false := decide_eq_false (by omega)
  have ib : decide (fC b = 3) = false := decide_eq_false (by omega)
  have nn : (decide (fC a = 4) || decide (fC b = 4)) = false := by simp only [Bool.or_eq_false_iff, decide_eq_false_iff_not]; omega
  have eF : dvF md a b = dF md (fV a / fV b) := by unfold dvF; rw [if_neg (by omega), if_neg (by omega), if_neg (by omega), if_neg (by omega), if_neg (by omega)]
  have eG : dvG md a b = dG md (fV a / fV b) := by unfold dvG; rw [if_neg (by omega), if_neg (by omega), if_neg (by omega), if_neg (by omega), if_neg (by omega)]
  rw [eF, eG]
  clear eF eG
  have pa : 0 < fX a := by have := (fX_bd (f := a)).1; have := (fX_fin (f := a) (by omega)); omega
  have pb : 0 < fX b := by have := (fX_bd (f := b)).1; have := (fX_fin (f := b) (by omega)); omega
  have CR := Lib.hid (fun (h l R : Int) (wh : Word h) (wl : Word l) (hR0 : 0 ≤ R) (hR1 : R < fX b) (hv : V2 h l * fX b + R = fX a * 2 ^ (128 - blen (fX a)).toNat) (w : World) => quo_any pa pb md h l R wh wl hR0 hR1 hv w)
  have SB := Lib.hid (split_any b hb)
  have WA := Lib.hid (widest_any a ha)
  have xb := fX_word b
  have ya := fY_bd a
  have yb := fY_bd b
  have ba := fX_blen a
  clear pa
  clear hca hcb la lb
  go_enter Tryz.func13, Tryz.ntmps13
  go_wp2_with fail
  refine (sneg_any a ha _).mono ?_
  rintro e w2 ⟨rfl, rfl⟩
  go_wp2_with fail
  refine (sneg_any b hb _).mono ?_
  rintro e w2 ⟨rfl, rfl⟩
  go_wp2_with fail
  refine (nan2 ha hb _ _ _).mono ?_
  rw [nn]
  rintro e w1 ⟨rfl, hb1⟩
  have HB := Lib.hid (bel_trans (bel_alloc (Below.refl _ _) _) hb1)
  clear hb1
  go_wp2_with fail
  refine (szero_any a ha _).mono ?_
  rw [za]
  rintro e w2 ⟨rfl, rfl⟩
  go_wp2_with fail
  refine (sinf_any a ha _).mono ?_
  rw [ia]
  rintro e w2 ⟨rfl, rfl⟩
  go_wp2_with fail
  refine (sinf_any a ha _).mono ?_
  rw [ia]
  rintro e w2 ⟨rfl, rfl⟩
  go_wp2_with fail
  refine (szero_any b hb _).mono ?_
  rw [zb]
  rintro e w2 ⟨rfl, rfl⟩
  go_wp2_with fail
  refine (szero_any a ha _).mono ?_
  rw [za]
  rintro e w2 ⟨rfl, rfl⟩
  go_wp2_with fail
  refine (sinf_any b hb _).mono ?_
  rw [ib]
  rintro e w2 ⟨rfl, rfl⟩
  go_wp2_with fail
  refine (WA.out _).mono ?_
  rintro e w3 ⟨v, ⟨h3, l3, wh3, wl3, hv3, rfl⟩, rfl, hb3⟩
  have HV3 := Lib.hid hv3
  have HB3 := Lib.hid (bel_alloc (bel_trans HB.out hb3) (.cells #[.int .u64 h3, .int .u64 l3] 58))
  have K3 := Blk.new w3 58 #[.int .u64 h3, .int .u64 l3]
  clear hv3 hb3 HB
  obtain ⟨c0, c1, f0, f1⟩ := K3.two
  simp at c0 c1 f0 f1
  obtain ⟨eA, heA⟩ : ∃ e, fY a - (128 - blen (fX a)) = e := ⟨_, rfl⟩
  rw [heA] at CR
  have eb : -2000 ≤ eA ∧ eA ≤ 2000 := by omega
  rw [heA]
  go_wp2_with fail
  refine (SB.out _).mono ?_
  rintro e w2 ⟨rfl, rfl⟩
  go_wp2_with fail
  refine (div2 h3 l3 (fX b) wh3 wl3 xb _).mono ?_
  rintro e w5 ⟨v, ⟨h5, l5, R, wh5, wl5, wR, -, hq, rfl⟩, rfl, hb5⟩
  obtain ⟨hR1, hq⟩ := hq pb
  rw [HV3.out] at hq
  have HQ := Lib.hid hq
  have HB5 := Lib.hid (bel_alloc (bel_trans HB3.out hb5) (.cells #[.int .u64 h5, .int .u64 l5] 58))
  have K5 := Blk.new w5 58 #[.int .u64 h5, .int .u64 l5]
  clear hq hb5 HB3 c0 c1 f0 f1 K3
  obtain ⟨c0, c1, -, -⟩ := K5.two
  simp at c0 c1
  have tr : (R != 0) = decide (R ≠ 0) := by rw [Bool.eq_iff_iff]; simp
  have hR0 := wR.1
  have CC := Lib.hid (CR.out h5 l5 R wh5 wl5 hR0 hR1 HQ.out)
  clear CR HQ HV3
  generalize decide (R ≠ 0) = rest at *
  clear hR0 hR1
  go_wp2_with fail
  refine (CC.out _).mono ?_
  rintro e w4 ⟨rfl, hb4⟩
  go_wp2_with fail
  go_ret2
  exact ⟨rfl, bel_trans HB5.out hb4⟩

theorem smul_any (a b md : Int) (ha : Word a) (hb : Word b) (w : World) :
    Calls Tryz.prog 8 #[.int .u64 a, .int .u64 b, .int .u8 md] w (RetF (mlF md a b) (mlG md a b) w) := by
  have ka : fC a = 4 ∨ fC a = 3 ∨ fC a = 0 ∨ (fC a ≠ 0 ∧ fC a ≠ 3 ∧ fC a ≠ 4) := by omega
  have kb : fC b = 4 ∨ fC b = 3 ∨ fC b = 0 ∨ (fC b ≠ 0 ∧ fC b ≠ 3 ∧ fC b ≠ 4) := by omega
  rcases ka with ka | ka | ka | ka <;> rcases kb with kb | kb | kb | kb
  · exact mul_NN a b md ha hb ka kb w
  · exact mul_NI a b md ha hb ka kb w
  · exact mul_NZ a b md ha hb ka kb w
  · exact mul_NF a b md ha hb ka kb w
  · exact mul_IN a b md ha hb ka kb w
  · exact mul_II a b md ha hb ka kb w
  · exact mul_IZ a b md ha hb ka kb w
  · exact mul_IF a b md ha hb ka kb w
  · exact mul_ZN a b md ha hb ka kb w
  · exact mul_ZI a b md ha hb ka kb w
  · exact mul_ZZ a b md ha hb ka kb w
  · exact mul_ZF a b md ha hb ka kb w
  · exact mul_FN a b md ha hb ka kb w
  · exact mul_FI a b md ha hb ka kb w
  · exact mul_FZ a b md ha hb ka kb w
  · exact mul_FF a b md ha hb ka kb w
theorem sdiv_any (a b md : Int) (ha : Word a) (hb : Word b) (w : World) :
    Calls Tryz.prog 13 #[.int .u64 a, .int .u64 b, .int .u8 md] w (RetF (dvF md a b) (dvG md a b) w) := by
  have ka : fC a = 4 ∨ fC a = 3 ∨ fC a = 0 ∨ (fC a ≠ 0 ∧ fC a ≠ 3 ∧ fC a ≠ 4) := by omega
  have kb : fC b = 4 ∨ fC b = 3 ∨ fC b = 0 ∨ (fC b ≠ 0 ∧ fC b ≠ 3 ∧ fC b ≠ 4) := by omega
  rcases ka with ka | ka | ka | ka <;> rcases kb with kb | kb | kb | kb
  · exact div_NN a b md ha hb ka kb w
  · exact div_NI a b md ha hb ka kb w
  · exact div_NZ a b md ha hb ka kb w
  · exact div_NF a b md ha hb ka kb w
  · exact div_IN a b md ha hb ka kb w
  · exact div_II a b md ha hb ka kb w
  · exact div_IZ a b md ha hb ka kb w
  · exact div_IF a b md ha hb ka kb w
  · exact div_ZN a b md ha hb ka kb w
  · exact div_ZI a b md ha hb ka kb w
  · exact div_ZZ a b md ha hb ka kb w
  · exact div_ZF a b md ha hb ka kb w
  · exact div_FN a b md ha hb ka kb w
  · exact div_FI a b md ha hb ka kb w
  · exact div_FZ a b md ha hb ka kb w
  · exact div_FF a b md ha hb ka kb w
end Go.Proofs.YtkdckclefegocaaGreatDoor
