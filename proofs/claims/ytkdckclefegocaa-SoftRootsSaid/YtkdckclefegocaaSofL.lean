/-
  Contracts of the reference's Mul, Div and Sqrt, of any floats: they answer what soft's do. Conditions: floats are words.
-/
import Derived.Test.YtkdckclefegocaaSofG
import Derived.Test.YtkdckclefegocaaRsq
namespace Go.Proofs.Ytkdckclefegocaa
open Go.RowKit
set_option maxRecDepth 100000

/-- What the reference rounds for a product. -/
theorem kml_any {a b : Int} (md : Int) (w : World) (v : Value) (L : Nat) (hL : L ≤ 65536) (hv : RowV w v (fX a * fX b) L) :
    Calls Try.prog 43 #[.bool (fS a != fS b), v, .int .i64 (fY a + fY b), .bool false, .int .u8 md] w (RetF (if fV a * fV b = 0 then sg (fS a != fS b) else dF md (fV a * fV b)) (dG md (fV a * fV b)) w) := by
  have x1 := (fX_bd (f := a)).1
  have x2 := (fX_bd (f := b)).1
  by_cases hz : fX a = 0 ∨ fX b = 0
  · have e : fV a * fV b = 0 := by
      rcases hz with h | h
      · rw [fV_nil h, Rat.zero_mul]
      · rw [fV_nil h, Rat.mul_zero]
    have hv0 : fX a * fX b = 0 := by rcases hz with h | h <;> rw [h] <;> simp
    rw [hv0] at hv
    rw [if_pos e, e, dG_nil]
    exact hround_zero hv hL _ _ _ md
  · have a0 : 0 < fX a := by omega
    have b0 : 0 < fX b := by omega
    obtain ⟨hne, f, g⟩ := mul_round a0 b0 md
    rw [if_neg hne, f, g]
    have y1 := fY_bd a
    have y2 := fY_bd b
    have R := hround_pos hv hL (Int.mul_pos a0 b0) (fS a != fS b) (fY a + fY b) false md
    rw [eC_small (by omega) (by omega), Bool.false_and] at R
    exact R
theorem kdv_any {a b : Int} (ha : 0 < fX a) (hb : 0 < fX b) (md : Int) (w : World) (x y : Value) (hx : RowV w x (fX a) 64) (hy : RowV w y (fX b) 64) :
    Calls Try.prog 54 #[.bool (fS a != fS b), .agg #[x, y, .int .i64 (fY a - fY b), .bool false], .int .u8 md] w (RetF (dF md (fV a / fV b)) (dG md (fV a / fV b)) w) := by
  obtain ⟨f, g⟩ := div_ref ha hb md
  rw [← f, ← g]
  have y1 := fY_bd a
  have y2 := fY_bd b
  exact hsigned_any (L := 64) ⟨x, y, fX a, fX b, fY a - fY b, false, rfl, hx, hy, hb, by omega, by omega, rfl, rfl⟩ (by decide) (fS a != fS b) md
set_option maxHeartbeats 4000000 in
theorem kmul_NN (a b md : Int) (ha : Word a) (_hb : Word b) (hca : fC a = 4) (hcb : fC b = 4) (w : World) :
    Calls Try.prog 16 #[.int .u64 a, .int .u64 b, .int .u8 md] w (RetF (mlF md a b) (mlG md a b) w) := by
  have la := cls_bd a
  have lb := cls_bd b
  have na : decide (fC a = 4) = true := decide_eq_true (by omega)
  have za : decide (fC a = 0) = false := decide_eq_false (by omega)
  have ia : decide (fC a = 3) = false := decide_eq_false (by omega)
  have nb : decide (fC b = 4) = true := decide_eq_true (by omega)
  have zb : decide (fC b = 0) = false := decide_eq_false (by omega)
  have ib : decide (fC b = 3) = false := decide_eq_false (by omega)
  have eF : mlF md a b = 9221120237041090560 := by unfold mlF; rw [if_pos (by omega)]
  have eG : mlG md a b = 0 := by unfold mlG; rw [if_pos (by omega)]
  rw [eF, eG]
  clear eF eG
  clear hca hcb la lb
  go_enter Try.func16, Try.ntmps16
  go_wp2_with fail
  refine (kis_any a 4 ha _).mono ?_
  rw [na]
  rintro e w2 ⟨rfl, rfl⟩
  go_wp2_with fail
  go_ret2
  exact ⟨rfl, Below.refl _ _⟩
set_option maxHeartbeats 4000000 in
theorem kmul_NI (a b md : Int) (ha : Word a) (_hb : Word b) (hca : fC a = 4) (hcb : fC b = 3) (w : World) :
    Calls Try.prog 16 #[.int .u64 a, .int .u64 b, .int .u8 md] w (RetF (mlF md a b) (mlG md a b) w) := by
  have la := cls_bd a
  have lb := cls_bd b
  have na : decide (fC a = 4) = true := decide_eq_true (by omega)
  have za : decide (fC a = 0) = false := decide_eq_false (by omega)
  have ia : decide (fC a = 3) = false := decide_eq_false (by omega)
  have nb : decide (fC b = 4) = false := decide_eq_false (by omega)
  have zb : decide (fC b = 0) = false := decide_eq_false (by omega)
  have ib : decide (fC b = 3) = true := decide_eq_true (by omega)
  have eF : mlF md a b = 9221120237041090560 := by unfold mlF; rw [if_pos (by omega)]
  have eG : mlG md a b = 0 := by unfold mlG; rw [if_pos (by omega)]
  rw [eF, eG]
  clear eF eG
  clear hca hcb la lb
  go_enter Try.func16, Try.ntmps16
  go_wp2_with fail
  refine (kis_any a 4 ha _).mono ?_
  rw [na]
  rintro e w2 ⟨rfl, rfl⟩
  go_wp2_with fail
  go_ret2
  exact ⟨rfl, Below.refl _ _⟩
set_option maxHeartbeats 4000000 in
theorem kmul_NZ (a b md : Int) (ha : Word a) (_hb : Word b) (hca : fC a = 4) (hcb : fC b = 0) (w : World) :
    Calls Try.prog 16 #[.int .u64 a, .int .u64 b, .int .u8 md] w (RetF (mlF md a b) (mlG md a b) w) := by
  have la := cls_bd a
  have lb := cls_bd b
  have na : decide (fC a = 4) = true := decide_eq_true (by omega)
  have za : decide (fC a = 0) = false := decide_eq_false (by omega)
  have ia : decide (fC a = 3) = false := decide_eq_false (by omega)
  have nb : decide (fC b = 4) = false := decide_eq_false (by omega)
  have zb : decide (fC b = 0) = true := decide_eq_true (by omega)
  have ib : decide (fC b = 3) = false := decide_eq_false (by omega)
  have eF : mlF md a b = 9221120237041090560 := by unfold mlF; rw [if_pos (by omega)]
  have eG : mlG md a b = 0 := by unfold mlG; rw [if_pos (by omega)]
  rw [eF, eG]
  clear eF eG
  clear hca hcb la lb
  go_enter Try.func16, Try.ntmps16
  go_wp2_with fail
  refine (kis_any a 4 ha _).mono ?_
  rw [na]
  rintro e w2 ⟨rfl, rfl⟩
  go_wp2_with fail
  go_ret2
  exact ⟨rfl, Below.refl _ _⟩
set_option maxHeartbeats 4000000 in
theorem kmul_NF (a b md : Int) (ha : Word a) (_hb : Word b) (hca : fC a = 4) (hcb : fC b ≠ 0 ∧ fC b ≠ 3 ∧ fC b ≠ 4) (w : World) :
    Calls Try.prog 16 #[.int .u64 a, .int .u64 b, .int .u8 md] w (RetF (mlF md a b) (mlG md a b) w) := by
  have la := cls_bd a
  have lb := cls_bd b
  have na : decide (fC a = 4) = true := decide_eq_true (by omega)
  have za : decide (fC a = 0) = false := decide_eq_false (by omega)
  have ia : decide (fC a = 3) = false := decide_eq_false (by omega)
  have nb : decide (fC b = 4) = false := decide_eq_false (by omega)
  have zb : decide (fC b = 0) = false := decide_eq_false (by omega)
  have ib : decide (fC b = 3) = false := decide_eq_false (by omega)
  have eF : mlF md a b = 9221120237041090560 := by unfold mlF; rw [if_pos (by omega)]
  have eG : mlG md a b = 0 := by unfold mlG; rw [if_pos (by omega)]
  rw [eF, eG]
  clear eF eG
  clear hca hcb la lb
  go_enter Try.func16, Try.ntmps16
  go_wp2_with fail
  refine (kis_any a 4 ha _).mono ?_
  rw [na]
  rintro e w2 ⟨rfl, rfl⟩
  go_wp2_with fail
  go_ret2
  exact ⟨rfl, Below.refl _ _⟩
set_option maxHeartbeats 4000000 in
theorem kmul_IN (a b md : Int) (ha : Word a) (hb : Word b) (hca : fC a = 3) (hcb : fC b = 4) (w : World) :
    Calls Try.prog 16 #[.int .u64 a, .int .u64 b, .int .u8 md] w (RetF (mlF md a b) (mlG md a b) w) := by
  have la := cls_bd a
  have lb := cls_bd b
  have na : decide (fC a = 4) = false := decide_eq_false (by omega)
  have za : decide (fC a = 0) = false := decide_eq_false (by omega)
  have ia : decide (fC a = 3) = true := decide_eq_true (by omega)
  have nb : decide (fC b = 4) = true := decide_eq_true (by omega)
  have zb : decide (fC b = 0) = false := decide_eq_false (by omega)
  have ib : decide (fC b = 3) = false := decide_eq_false (by omega)
  have eF : mlF md a b = 9221120237041090560 := by unfold mlF; rw [if_pos (by omega)]
  have eG : mlG md a b = 0 := by unfold mlG; rw [if_pos (by omega)]
  rw [eF, eG]
  clear eF eG
  clear hca hcb la lb
  go_enter Try.func16, Try.ntmps16
  go_wp2_with fail
  refine (kis_any a 4 ha _).mono ?_
  rw [na]
  rintro e w2 ⟨rfl, rfl⟩
  go_wp2_with fail
  refine (kis_any b 4 hb _).mono ?_
  rw [nb]
  rintro e w2 ⟨rfl, rfl⟩
  go_wp2_with fail
  go_ret2
  exact ⟨rfl, Below.refl _ _⟩
set_option maxHeartbeats 4000000 in
theorem kmul_II (a b md : Int) (ha : Word a) (hb : Word b) (hca : fC a = 3) (hcb : fC b = 3) (w : World) :
    Calls Try.prog 16 #[.int .u64 a, .int .u64 b, .int .u8 md] w (RetF (mlF md a b) (mlG md a b) w) := by
  have la := cls_bd a
  have lb := cls_bd b
  have na : decide (fC a = 4) = false := decide_eq_false (by omega)
  have za : decide (fC a = 0) = false := decide_eq_false (by omega)
  have ia : decide (fC a = 3) = true := decide_eq_true (by omega)
  have nb : decide (fC b = 4) = false := decide_eq_false (by omega)
  have zb : decide (fC b = 0) = false := decide_eq_false (by omega)
  have ib : decide (fC b = 3) = true := decide_eq_true (by omega)
  have eF : mlF md a b = 9218868437227405312 + sg (fS a != fS b) := by unfold mlF; rw [if_neg (by omega), if_neg (by omega), if_pos (by omega)]
  have eG : mlG md a b = 0 := by unfold mlG; rw [if_neg (by omega), if_neg (by omega), if_pos (by omega)]
  rw [eF, eG]
  clear eF eG
  clear hca hcb la lb
  go_enter Try.func16, Try.ntmps16
  go_wp2_with fail
  refine (kis_any a 4 ha _).mono ?_
  rw [na]
  rintro e w2 ⟨rfl, rfl⟩
  go_wp2_with fail
  refine (kis_any b 4 hb _).mono ?_
  rw [nb]
  rintro e w2 ⟨rfl, rfl⟩
  go_wp2_with fail
  refine (kis_any a 3 ha _).mono ?_
  rw [ia]
  rintro e w2 ⟨rfl, rfl⟩
  go_wp2_with fail
  refine (kis_any b 0 hb _).mono ?_
  rw [zb]
  rintro e w2 ⟨rfl, rfl⟩
  go_wp2_with fail
  refine (kis_any a 0 ha _).mono ?_
  rw [za]
  rintro e w2 ⟨rfl, rfl⟩
  go_wp2_with fail
  refine (kneg_any a ha _).mono ?_
  rintro e w2 ⟨rfl, rfl⟩
  go_wp2_with fail
  refine (kneg_any b hb _).mono ?_
  rintro e w2 ⟨rfl, rfl⟩
  go_wp2_with fail
  refine (kis_any a 3 ha _).mono ?_
  rw [ia]
  rintro e w2 ⟨rfl, rfl⟩
  go_wp2_with fail
  refine (kinf_any _ _).mono ?_
  rintro e w2 ⟨rfl, rfl⟩
  go_wp2_with fail
  go_ret2
  exact ⟨rfl, Below.refl _ _⟩
set_option maxHeartbeats 4000000 in
theorem kmul_IZ (a b md : Int) (ha : Word a) (hb : Word b) (hca : fC a = 3) (hcb : fC b = 0) (w : World) :
    Calls Try.prog 16 #[.int .u64 a, .int .u64 b, .int .u8 md] w (RetF (mlF md a b) (mlG md a b) w) := by
  have la := cls_bd a
  have lb := cls_bd b
  have na : decide (fC a = 4) = false := decide_eq_false (by omega)
  have za : decide (fC a = 0) = false := decide_eq_false (by omega)
  have ia : decide (fC a = 3) = true := decide_eq_true (by omega)
  have nb : decide (fC b = 4) = false := decide_eq_false (by omega)
  have zb : decide (fC b = 0) = true := decide_eq_true (by omega)
  have ib : decide (fC b = 3) = false := decide_eq_false (by omega)
  have eF : mlF md a b = 9221120237041090560 := by unfold mlF; rw [if_neg (by omega), if_pos (by omega)]
  have eG : mlG md a b = 16 := by unfold mlG; rw [if_neg (by omega), if_pos (by omega)]
  rw [eF, eG]
  clear eF eG
  clear hca hcb la lb
  go_enter Try.func16, Try.ntmps16
  go_wp2_with fail
  refine (kis_any a 4 ha _).mono ?_
  rw [na]
  rintro e w2 ⟨rfl, rfl⟩
  go_wp2_with fail
  refine (kis_any b 4 hb _).mono ?_
  rw [nb]
  rintro e w2 ⟨rfl, rfl⟩
  go_wp2_with fail
  refine (kis_any a 3 ha _).mono ?_
  rw [ia]
  rintro e w2 ⟨rfl, rfl⟩
  go_wp2_with fail
  refine (kis_any b 0 hb _).mono ?_
  rw [zb]
  rintro e w2 ⟨rfl, rfl⟩
  go_wp2_with fail
  go_ret2
  exact ⟨rfl, Below.refl _ _⟩
set_option maxHeartbeats 4000000 in
theorem kmul_IF (a b md : Int) (ha : Word a) (hb : Word b) (hca : fC a = 3) (hcb : fC b ≠ 0 ∧ fC b ≠ 3 ∧ fC b ≠ 4) (w : World) :
    Calls Try.prog 16 #[.int .u64 a, .int .u64 b, .int .u8 md] w (RetF (mlF md a b) (mlG md a b) w) := by
  have la := cls_bd a
  have lb := cls_bd b
  have na : decide (fC a = 4) = false := decide_eq_false (by omega)
  have za : decide (fC a = 0) = false := decide_eq_false (by omega)
  have ia : decide (fC a = 3) = true := decide_eq_true (by omega)
  have nb : decide (fC b = 4) = false := decide_eq_false (by omega)
  have zb : decide (fC b = 0) = false := decide_eq_false (by omega)
  have ib : decide (fC b = 3) = false := decide_eq_false (by omega)
  have eF : mlF md a b = 9218868437227405312 + sg (fS a != fS b) := by unfold mlF; rw [if_neg (by omega), if_neg (by omega), if_pos (by omega)]
  have eG : mlG md a b = 0 := by unfold mlG; rw [if_neg (by omega), if_neg (by omega), if_pos (by omega)]
  rw [eF, eG]
  clear eF eG
  clear hca hcb la lb
  go_enter Try.func16, Try.ntmps16
  go_wp2_with fail
  refine (kis_any a 4 ha _).mono ?_
  rw [na]
  rintro e w2 ⟨rfl, rfl⟩
  go_wp2_with fail
  refine (kis_any b 4 hb _).mono ?_
  rw [nb]
  rintro e w2 ⟨rfl, rfl⟩
  go_wp2_with fail
  refine (kis_any a 3 ha _).mono ?_
  rw [ia]
  rintro e w2 ⟨rfl, rfl⟩
  go_wp2_with fail
  refine (kis_any b 0 hb _).mono ?_
  rw [zb]
  rintro e w2 ⟨rfl, rfl⟩
  go_wp2_with fail
  refine (kis_any a 0 ha _).mono ?_
  rw [za]
  rintro e w2 ⟨rfl, rfl⟩
  go_wp2_with fail
  refine (kneg_any a ha _).mono ?_
  rintro e w2 ⟨rfl, rfl⟩
  go_wp2_with fail
  refine (kneg_any b hb _).mono ?_
  rintro e w2 ⟨rfl, rfl⟩
  go_wp2_with fail
  refine (kis_any a 3 ha _).mono ?_
  rw [ia]
  rintro e w2 ⟨rfl, rfl⟩
  go_wp2_with fail
  refine (kinf_any _ _).mono ?_
  rintro e w2 ⟨rfl, rfl⟩
  go_wp2_with fail
  go_ret2
  exact ⟨rfl, Below.refl _ _⟩
set_option maxHeartbeats 4000000 in
theorem kmul_ZN (a b md : Int) (ha : Word a) (hb : Word b) (hca : fC a = 0) (hcb : fC b = 4) (w : World) :
    Calls Try.prog 16 #[.int .u64 a, .int .u64 b, .int .u8 md] w (RetF (mlF md a b) (mlG md a b) w) := by
  have la := cls_bd a
  have lb := cls_bd b
  have na : decide (fC a = 4) = false := decide_eq_false (by omega)
  have za : decide (fC a = 0) = true := decide_eq_true (by omega)
  have ia : decide (fC a = 3) = false := decide_eq_false (by omega)
  have nb : decide (fC b = 4) = true := decide_eq_true (by omega)
  have zb : decide (fC b = 0) = false := decide_eq_false (by omega)
  have ib : decide (fC b = 3) = false := decide_eq_false (by omega)
  have eF : mlF md a b = 9221120237041090560 := by unfold mlF; rw [if_pos (by omega)]
  have eG : mlG md a b = 0 := by unfold mlG; rw [if_pos (by omega)]
  rw [eF, eG]
  clear eF eG
  clear hca hcb la lb
  go_enter Try.func16, Try.ntmps16
  go_wp2_with fail
  refine (kis_any a 4 ha _).mono ?_
  rw [na]
  rintro e w2 ⟨rfl, rfl⟩
  go_wp2_with fail
  refine (kis_any b 4 hb _).mono ?_
  rw [nb]
  rintro e w2 ⟨rfl, rfl⟩
  go_wp2_with fail
  go_ret2
  exact ⟨rfl, Below.refl _ _⟩
set_option maxHeartbeats 4000000 in
theorem kmul_ZI (a b md : Int) (ha : Word a) (hb : Word b) (hca : fC a = 0) (hcb : fC b = 3) (w : World) :
    Calls Try.prog 16 #[.int .u64 a, .int .u64 b, .int .u8 md] w (RetF (mlF md a b) (mlG md a b) w) := by
  have la := cls_bd a
  have lb := cls_bd b
  have na : decide (fC a = 4) = false := decide_eq_false (by omega)
  have za : decide (fC a = 0) = true := decide_eq_true (by omega)
  have ia : decide (fC a = 3) = false := decide_eq_false (by omega)
  have nb : decide (fC b = 4) = false := decide_eq_false (by omega)
  have zb : decide (fC b = 0) = false := decide_eq_false (by omega)
  have ib : decide (fC b = 3) = true := decide_eq_true (by omega)
  have eF : mlF md a b = 9221120237041090560 := by unfold mlF; rw [if_neg (by omega), if_pos (by omega)]
  have eG : mlG md a b = 16 := by unfold mlG; rw [if_neg (by omega), if_pos (by omega)]
  rw [eF, eG]
  clear eF eG
  clear hca hcb la lb
  go_enter Try.func16, Try.ntmps16
  go_wp2_with fail
  refine (kis_any a 4 ha _).mono ?_
  rw [na]
  rintro e w2 ⟨rfl, rfl⟩
  go_wp2_with fail
  refine (kis_any b 4 hb _).mono ?_
  rw [nb]
  rintro e w2 ⟨rfl, rfl⟩
  go_wp2_with fail
  refine (kis_any a 3 ha _).mono ?_
  rw [ia]
  rintro e w2 ⟨rfl, rfl⟩
  go_wp2_with fail
  refine (kis_any a 0 ha _).mono ?_
  rw [za]
  rintro e w2 ⟨rfl, rfl⟩
  go_wp2_with fail
  refine (kis_any b 3 hb _).mono ?_
  rw [ib]
  rintro e w2 ⟨rfl, rfl⟩
  go_wp2_with fail
  go_ret2
  exact ⟨rfl, Below.refl _ _⟩
set_option maxHeartbeats 4000000 in
theorem kmul_ZZ (a b md : Int) (ha : Word a) (hb : Word b) (hca : fC a = 0) (hcb : fC b = 0) (w : World) :
    Calls Try.prog 16 #[.int .u64 a, .int .u64 b, .int .u8 md] w (RetF (mlF md a b) (mlG md a b) w) := by
  have la := cls_bd a
  have lb := cls_bd b
  have na : decide (fC a = 4) = false := decide_eq_false (by omega)
  have za : decide (fC a = 0) = true := decide_eq_true (by omega)
  have ia : decide (fC a = 3) = false := decide_eq_false (by omega)
  have nb : decide (fC b = 4) = false := decide_eq_false (by omega)
  have zb : decide (fC b = 0) = true := decide_eq_true (by omega)
  have ib : decide (fC b = 3) = false := decide_eq_false (by omega)
  have eF : mlF md a b = if fV a * fV b = 0 then sg (fS a != fS b) else dF md (fV a * fV b) := by unfold mlF; rw [if_neg (by omega), if_neg (by omega), if_neg (by omega)]
  have eG : mlG md a b = dG md (fV a * fV b) := by unfold mlG; rw [if_neg (by omega), if_neg (by omega), if_neg (by omega)]
  rw [eF, eG]
  clear eF eG
  have SA := Lib.hid (fun w => gsplit_any a ha w)
  have SB := Lib.hid (fun w => gsplit_any b hb w)
  have xa := fX_word a
  have xb := fX_word b
  have ya := fY_bd a
  have yb := fY_bd b
  have CR := Lib.hid (fun (w : World) (v : Value) (hv : RowV w v (fX a * fX b) (64 + 64 + 1)) => kml_any (a := a) (b := b) md w v _ (by decide) hv)
  generalize (if fV a * fV b = 0 then sg (fS a != fS b) else dF md (fV a * fV b)) = rr at *
  generalize dG md (fV a * fV b) = gg at *
  clear hca hcb la lb
  go_enter Try.func16, Try.ntmps16
  go_wp2_with fail
  refine (kis_any a 4 ha _).mono ?_
  rw [na]
  rintro e w2 ⟨rfl, rfl⟩
  go_wp2_with fail
  refine (kis_any b 4 hb _).mono ?_
  rw [nb]
  rintro e w2 ⟨rfl, rfl⟩
  go_wp2_with fail
  refine (kis_any a 3 ha _).mono ?_
  rw [ia]
  rintro e w2 ⟨rfl, rfl⟩
  go_wp2_with fail
  refine (kis_any a 0 ha _).mono ?_
  rw [za]
  rintro e w2 ⟨rfl, rfl⟩
  go_wp2_with fail
  refine (kis_any b 3 hb _).mono ?_
  rw [ib]
  rintro e w2 ⟨rfl, rfl⟩
  go_wp2_with fail
  refine (kneg_any a ha _).mono ?_
  rintro e w2 ⟨rfl, rfl⟩
  go_wp2_with fail
  refine (kneg_any b hb _).mono ?_
  rintro e w2 ⟨rfl, rfl⟩
  go_wp2_with fail
  refine (kis_any a 3 ha _).mono ?_
  rw [ia]
  rintro e w2 ⟨rfl, rfl⟩
  go_wp2_with fail
  refine (kis_any b 3 hb _).mono ?_
  rw [ib]
  rintro e w2 ⟨rfl, rfl⟩
  go_wp2_with fail
  refine (SA.out _).mono ?_
  rintro e w2 ⟨rfl, rfl⟩
  go_wp2_with fail
  refine (SB.out _).mono ?_
  rintro e w2 ⟨rfl, rfl⟩
  go_wp2_with fail
  refine (kbits_any _ xa _).mono ?_
  rintro e w3 ⟨v3, r3, rfl, hb3⟩
  have HB3 := Lib.hid hb3
  clear hb3
  go_wp2_with fail
  refine (kbits_any _ xb _).mono ?_
  rintro e w4 ⟨v4, r4, rfl, hb4⟩
  have r5 := r3.v.below hb4
  have HB4 := Lib.hid (bel_trans HB3.out hb4)
  clear hb4 HB3 r3
  go_wp2_with fail
  refine (rmulV r5 r4.v (by decide) (by decide)).mono ?_
  rintro e w5 ⟨v5, r6, rfl, hb5⟩
  have HB5 := Lib.hid (bel_trans HB4.out hb5)
  clear hb5 HB4 r5 r4
  go_wp2_with fail
  refine (CR.out _ _ r6).mono ?_
  rintro e w6 ⟨rfl, hb6⟩
  go_wp2_with fail
  go_ret2
  exact ⟨rfl, bel_trans HB5.out hb6⟩
set_option maxHeartbeats 4000000 in
theorem kmul_ZF (a b md : Int) (ha : Word a) (hb : Word b) (hca : fC a = 0) (hcb : fC b ≠ 0 ∧ fC b ≠ 3 ∧ fC b ≠ 4) (w : World) :
    Calls Try.prog 16 #[.int .u64 a, .int .u64 b, .int .u8 md] w (RetF (mlF md a b) (mlG md a b) w) := by
  have la := cls_bd a
  have lb := cls_bd b
  have na : decide (fC a = 4) = false := decide_eq_false (by omega)
  have za : decide (fC a = 0) = true := decide_eq_true (by omega)
  have ia : decide (fC a = 3) = false := decide_eq_false (by omega)
  have nb : decide (fC b = 4) = false := decide_eq_false (by omega)
  have zb : decide (fC b = 0) = false := decide_eq_false (by omega)
  have ib : decide (fC b = 3) = false := decide_eq_false (by omega)
  have eF : mlF md a b = if fV a * fV b = 0 then sg (fS a != fS b) else dF md (fV a * fV b) := by unfold mlF; rw [if_neg (by omega), if_neg (by omega), if_neg (by omega)]
  have eG : mlG md a b = dG md (fV a * fV b) := by unfold mlG; rw [if_neg (by omega), if_neg (by omega), if_neg (by omega)]
  rw [eF, eG]
  clear eF eG
  have SA := Lib.hid (fun w => gsplit_any a ha w)
  have SB := Lib.hid (fun w => gsplit_any b hb w)
  have xa := fX_word a
  have xb := fX_word b
  have ya := fY_bd a
  have yb := fY_bd b
  have CR := Lib.hid (fun (w : World) (v : Value) (hv : RowV w v (fX a * fX b) (64 + 64 + 1)) => kml_any (a := a) (b := b) md w v _ (by decide) hv)
  generalize (if fV a * fV b = 0 then sg (fS a != fS b) else dF md (fV a * fV b)) = rr at *
  generalize dG md (fV a * fV b) = gg at *
  clear hca hcb la lb
  go_enter Try.func16, Try.ntmps16
  go_wp2_with fail
  refine (kis_any a 4 ha _).mono ?_
  rw [na]
  rintro e w2 ⟨rfl, rfl⟩
  go_wp2_with fail
  refine (kis_any b 4 hb _).mono ?_
  rw [nb]
  rintro e w2 ⟨rfl, rfl⟩
  go_wp2_with fail
  refine (kis_any a 3 ha _).mono ?_
  rw [ia]
  rintro e w2 ⟨rfl, rfl⟩
  go_wp2_with fail
  refine (kis_any a 0 ha _).mono ?_
  rw [za]
  rintro e w2 ⟨rfl, rfl⟩
  go_wp2_with fail
  refine (kis_any b 3 hb _).mono ?_
  rw [ib]
  rintro e w2 ⟨rfl, rfl⟩
  go_wp2_with fail
  refine (kneg_any a ha _).mono ?_
  rintro e w2 ⟨rfl, rfl⟩
  go_wp2_with fail
  refine (kneg_any b hb _).mono ?_
  rintro e w2 ⟨rfl, rfl⟩
  go_wp2_with fail
  refine (kis_any a 3 ha _).mono ?_
  rw [ia]
  rintro e w2 ⟨rfl, rfl⟩
  go_wp2_with fail
  refine (kis_any b 3 hb _).mono ?_
  rw [ib]
  rintro e w2 ⟨rfl, rfl⟩
  go_wp2_with fail
  refine (SA.out _).mono ?_
  rintro e w2 ⟨rfl, rfl⟩
  go_wp2_with fail
  refine (SB.out _).mono ?_
  rintro e w2 ⟨rfl, rfl⟩
  go_wp2_with fail
  refine (kbits_any _ xa _).mono ?_
  rintro e w3 ⟨v3, r3, rfl, hb3⟩
  have HB3 := Lib.hid hb3
  clear hb3
  go_wp2_with fail
  refine (kbits_any _ xb _).mono ?_
  rintro e w4 ⟨v4, r4, rfl, hb4⟩
  have r5 := r3.v.below hb4
  have HB4 := Lib.hid (bel_trans HB3.out hb4)
  clear hb4 HB3 r3
  go_wp2_with fail
  refine (rmulV r5 r4.v (by decide) (by decide)).mono ?_
  rintro e w5 ⟨v5, r6, rfl, hb5⟩
  have HB5 := Lib.hid (bel_trans HB4.out hb5)
  clear hb5 HB4 r5 r4
  go_wp2_with fail
  refine (CR.out _ _ r6).mono ?_
  rintro e w6 ⟨rfl, hb6⟩
  go_wp2_with fail
  go_ret2
  exact ⟨rfl, bel_trans HB5.out hb6⟩
set_option maxHeartbeats 4000000 in
theorem kmul_FN (a b md : Int) (ha : Word a) (hb : Word b) (hca : fC a ≠ 0 ∧ fC a ≠ 3 ∧ fC a ≠ 4) (hcb : fC b = 4) (w : World) :
    Calls Try.prog 16 #[.int .u64 a, .int .u64 b, .int .u8 md] w (RetF (mlF md a b) (mlG md a b) w) := by
  have la := cls_bd a
  have lb := cls_bd b
  have na : decide (fC a = 4) = false := decide_eq_false (by omega)
  have za : decide (fC a = 0) = false := decide_eq_false (by omega)
  have ia : decide (fC a = 3) = false := decide_eq_false (by omega)
  have nb : decide (fC b = 4) = true := decide_eq_true (by omega)
  have zb : decide (fC b = 0) = false := decide_eq_false (by omega)
  have ib : decide (fC b = 3) = false := decide_eq_false (by omega)
  have eF : mlF md a b = 9221120237041090560 := by unfold mlF; rw [if_pos (by omega)]
  have eG : mlG md a b = 0 := by unfold mlG; rw [if_pos (by omega)]
  rw [eF, eG]
  clear eF eG
  clear hca hcb la lb
  go_enter Try.func16, Try.ntmps16
  go_wp2_with fail
  refine (kis_any a 4 ha _).mono ?_
  rw [na]
  rintro e w2 ⟨rfl, rfl⟩
  go_wp2_with fail
  refine (kis_any b 4 hb _).mono ?_
  rw [nb]
  rintro e w2 ⟨rfl, rfl⟩
  go_wp2_with fail
  go_ret2
  exact ⟨rfl, Below.refl _ _⟩
set_option maxHeartbeats 4000000 in
theorem kmul_FI (a b md : Int) (ha : Word a) (hb : Word b) (hca : fC a ≠ 0 ∧ fC a ≠ 3 ∧ fC a ≠ 4) (hcb : fC b = 3) (w : World) :
    Calls Try.prog 16 #[.int .u64 a, .int .u64 b, .int .u8 md] w (RetF (mlF md a b) (mlG md a b) w) := by
  have la := cls_bd a
  have lb := cls_bd b
  have na : decide (fC a = 4) = false := decide_eq_false (by omega)
  have za : decide (fC a = 0) = false := decide_eq_false (by omega)
  have ia : decide (fC a = 3) = false := decide_eq_false (by omega)
  have nb : decide (fC b = 4) = false := decide_eq_false (by omega)
  have zb : decide (fC b = 0) = false := decide_eq_false (by omega)
  have ib : decide (fC b = 3) = true := decide_eq_true (by omega)
  have eF : mlF md a b = 9218868437227405312 + sg (fS a != fS b) := by unfold mlF; rw [if_neg (by omega), if_neg (by omega), if_pos (by omega)]
  have eG : mlG md a b = 0 := by unfold mlG; rw [if_neg (by omega), if_neg (by omega), if_pos (by omega)]
  rw [eF, eG]
  clear eF eG
  clear hca hcb la lb
  go_enter Try.func16, Try.ntmps16
  go_wp2_with fail
  refine (kis_any a 4 ha _).mono ?_
  rw [na]
  rintro e w2 ⟨rfl, rfl⟩
  go_wp2_with fail
  refine (kis_any b 4 hb _).mono ?_
  rw [nb]
  rintro e w2 ⟨rfl, rfl⟩
  go_wp2_with fail
  refine (kis_any a 3 ha _).mono ?_
  rw [ia]
  rintro e w2 ⟨rfl, rfl⟩
  go_wp2_with fail
  refine (kis_any a 0 ha _).mono ?_
  rw [za]
  rintro e w2 ⟨rfl, rfl⟩
  go_wp2_with fail
  refine (kneg_any a ha _).mono ?_
  rintro e w2 ⟨rfl, rfl⟩
  go_wp2_with fail
  refine (kneg_any b hb _).mono ?_
  rintro e w2 ⟨rfl, rfl⟩
  go_wp2_with fail
  refine (kis_any a 3 ha _).mono ?_
  rw [ia]
  rintro e w2 ⟨rfl, rfl⟩
  go_wp2_with fail
  refine (kis_any b 3 hb _).mono ?_
  rw [ib]
  rintro e w2 ⟨rfl, rfl⟩
  go_wp2_with fail
  refine (kinf_any _ _).mono ?_
  rintro e w2 ⟨rfl, rfl⟩
  go_wp2_with fail
  go_ret2
  exact ⟨rfl, Below.refl _ _⟩
set_option maxHeartbeats 4000000 in
theorem kmul_FZ (a b md : Int) (ha : Word a) (hb : Word b) (hca : fC a ≠ 0 ∧ fC a ≠ 3 ∧ fC a ≠ 4) (hcb : fC b = 0) (w : World) :
    Calls Try.prog 16 #[.int .u64 a, .int .u64 b, .int .u8 md] w (RetF (mlF md a b) (mlG md a b) w) := by
  have la := cls_bd a
  have lb := cls_bd b
  have na : decide (fC a = 4) = false := decide_eq_false (by omega)
  have za : decide (fC a = 0) = false := decide_eq_false (by omega)
  have ia : decide (fC a = 3) = false := decide_eq_false (by omega)
  have nb : decide (fC b = 4) = false := decide_eq_false (by omega)
  have zb : decide (fC b = 0) = true := decide_eq_true (by omega)
  have ib : decide (fC b = 3) = false := decide_eq_false (by omega)
  have eF : mlF md a b = if fV a * fV b = 0 then sg (fS a != fS b) else dF md (fV a * fV b) := by unfold mlF; rw [if_neg (by omega), if_neg (by omega), if_neg (by omega)]
  have eG : mlG md a b = dG md (fV a * fV b) := by unfold mlG; rw [if_neg (by omega), if_neg (by omega), if_neg (by omega)]
  rw [eF, eG]
  clear eF eG
  have SA := Lib.hid (fun w => gsplit_any a ha w)
  have SB := Lib.hid (fun w => gsplit_any b hb w)
  have xa := fX_word a
  have xb := fX_word b
  have ya := fY_bd a
  have yb := fY_bd b
  have CR := Lib.hid (fun (w : World) (v : Value) (hv : RowV w v (fX a * fX b) (64 + 64 + 1)) => kml_any (a := a) (b := b) md w v _ (by decide) hv)
  generalize (if fV a * fV b = 0 then sg (fS a != fS b) else dF md (fV a * fV b)) = rr at *
  generalize dG md (fV a * fV b) = gg at *
  clear hca hcb la lb
  go_enter Try.func16, Try.ntmps16
  go_wp2_with fail
  refine (kis_any a 4 ha _).mono ?_
  rw [na]
  rintro e w2 ⟨rfl, rfl⟩
  go_wp2_with fail
  refine (kis_any b 4 hb _).mono ?_
  rw [nb]
  rintro e w2 ⟨rfl, rfl⟩
  go_wp2_with fail
  refine (kis_any a 3 ha _).mono ?_
  rw [ia]
  rintro e w2 ⟨rfl, rfl⟩
  go_wp2_with fail
  refine (kis_any a 0 ha _).mono ?_
  rw [za]
  rintro e w2 ⟨rfl, rfl⟩
  go_wp2_with fail
  refine (kneg_any a ha _).mono ?_
  rintro e w2 ⟨rfl, rfl⟩
  go_wp2_with fail
  refine (kneg_any b hb _).mono ?_
  rintro e w2 ⟨rfl, rfl⟩
  go_wp2_with fail
  refine (kis_any a 3 ha _).mono ?_
  rw [ia]
  rintro e w2 ⟨rfl, rfl⟩
  go_wp2_with fail
  refine (kis_any b 3 hb _).mono ?_
  rw [ib]
  rintro e w2 ⟨rfl, rfl⟩
  go_wp2_with fail
  refine (SA.out _).mono ?_
  rintro e w2 ⟨rfl, rfl⟩
  go_wp2_with fail
  refine (SB.out _).mono ?_
  rintro e w2 ⟨rfl, rfl⟩
  go_wp2_with fail
  refine (kbits_any _ xa _).mono ?_
  rintro e w3 ⟨v3, r3, rfl, hb3⟩
  have HB3 := Lib.hid hb3
  clear hb3
  go_wp2_with fail
  refine (kbits_any _ xb _).mono ?_
  rintro e w4 ⟨v4, r4, rfl, hb4⟩
  have r5 := r3.v.below hb4
  have HB4 := Lib.hid (bel_trans HB3.out hb4)
  clear hb4 HB3 r3
  go_wp2_with fail
  refine (rmulV r5 r4.v (by decide) (by decide)).mono ?_
  rintro e w5 ⟨v5, r6, rfl, hb5⟩
  have HB5 := Lib.hid (bel_trans HB4.out hb5)
  clear hb5 HB4 r5 r4
  go_wp2_with fail
  refine (CR.out _ _ r6).mono ?_
  rintro e w6 ⟨rfl, hb6⟩
  go_wp2_with fail
  go_ret2
  exact ⟨rfl, bel_trans HB5.out hb6⟩
set_option maxHeartbeats 4000000 in
theorem kmul_FF (a b md : Int) (ha : Word a) (hb : Word b) (hca : fC a ≠ 0 ∧ fC a ≠ 3 ∧ fC a ≠ 4) (hcb : fC b ≠ 0 ∧ fC b ≠ 3 ∧ fC b ≠ 4) (w : World) :
    Calls Try.prog 16 #[.int .u64 a, .int .u64 b, .int .u8 md] w (RetF (mlF md a b) (mlG md a b) w) := by
  have la := cls_bd a
  have lb := cls_bd b
  have na : decide (fC a = 4) = false := decide_eq_false (by omega)
  have za : decide (fC a = 0) = false := decide_eq_false (by omega)
  have ia : decide (fC a = 3) = false := decide_eq_false (by omega)
  have nb : decide (fC b = 4) = false := decide_eq_false (by omega)
  have zb : decide (fC b = 0) = false := decide_eq_false (by omega)
  have ib : decide (fC b = 3) = false := decide_eq_false (by omega)
  have eF : mlF md a b = if fV a * fV b = 0 then sg (fS a != fS b) else dF md (fV a * fV b) := by unfold mlF; rw [if_neg (by omega), if_neg (by omega), if_neg (by omega)]
  have eG : mlG md a b = dG md (fV a * fV b) := by unfold mlG; rw [if_neg (by omega), if_neg (by omega), if_neg (by omega)]
  rw [eF, eG]
  clear eF eG
  have SA := Lib.hid (fun w => gsplit_any a ha w)
  have SB := Lib.hid (fun w => gsplit_any b hb w)
  have xa := fX_word a
  have xb := fX_word b
  have ya := fY_bd a
  have yb := fY_bd b
  have CR := Lib.hid (fun (w : World) (v : Value) (hv : RowV w v (fX a * fX b) (64 + 64 + 1)) => kml_any (a := a) (b := b) md w v _ (by decide) hv)
  generalize (if fV a * fV b = 0 then sg (fS a != fS b) else dF md (fV a * fV b)) = rr at *
  generalize dG md (fV a * fV b) = gg at *
  clear hca hcb la lb
  go_enter Try.func16, Try.ntmps16
  go_wp2_with fail
  refine (kis_any a 4 ha _).mono ?_
  rw [na]
  rintro e w2 ⟨rfl, rfl⟩
  go_wp2_with fail
  refine (kis_any b 4 hb _).mono ?_
  rw [nb]
  rintro e w2 ⟨rfl, rfl⟩
  go_wp2_with fail
  refine (kis_any a 3 ha _).mono ?_
  rw [ia]
  rintro e w2 ⟨rfl, rfl⟩
  go_wp2_with fail
  refine (kis_any a 0 ha _).mono ?_
  rw [za]
  rintro e w2 ⟨rfl, rfl⟩
  go_wp2_with fail
  refine (kneg_any a ha _).mono ?_
  rintro e w2 ⟨rfl, rfl⟩
  go_wp2_with fail
  refine (kneg_any b hb _).mono ?_
  rintro e w2 ⟨rfl, rfl⟩
  go_wp2_with fail
  refine (kis_any a 3 ha _).mono ?_
  rw [ia]
  rintro e w2 ⟨rfl, rfl⟩
  go_wp2_with fail
  refine (kis_any b 3 hb _).mono ?_
  rw [ib]
  rintro e w2 ⟨rfl, rfl⟩
  go_wp2_with fail
  refine (SA.out _).mono ?_
  rintro e w2 ⟨rfl, rfl⟩
  go_wp2_with fail
  refine (SB.out _).mono ?_
  rintro e w2 ⟨rfl, rfl⟩
  go_wp2_with fail
  refine (kbits_any _ xa _).mono ?_
  rintro e w3 ⟨v3, r3, rfl, hb3⟩
  have HB3 := Lib.hid hb3
  clear hb3
  go_wp2_with fail
  refine (kbits_any _ xb _).mono ?_
  rintro e w4 ⟨v4, r4, rfl, hb4⟩
  have r5 := r3.v.below hb4
  have HB4 := Lib.hid (bel_trans HB3.out hb4)
  clear hb4 HB3 r3
  go_wp2_with fail
  refine (rmulV r5 r4.v (by decide) (by decide)).mono ?_
  rintro e w5 ⟨v5, r6, rfl, hb5⟩
  have HB5 := Lib.hid (bel_trans HB4.out hb5)
  clear hb5 HB4 r5 r4
  go_wp2_with fail
  refine (CR.out _ _ r6).mono ?_
  rintro e w6 ⟨rfl, hb6⟩
  go_wp2_with fail
  go_ret2
  exact ⟨rfl, bel_trans HB5.out hb6⟩
set_option maxHeartbeats 4000000 in
theorem kdiv_NN (a b md : Int) (ha : Word a) (_hb : Word b) (hca : fC a = 4) (hcb : fC b = 4) (w : World) :
    Calls Try.prog 18 #[.int .u64 a, .int .u64 b, .int .u8 md] w (RetF (dvF md a b) (dvG md a b) w) := by
  have la := cls_bd a
  have lb := cls_bd b
  have na : decide (fC a = 4) = true := decide_eq_true (by omega)
  have za : decide (fC a = 0) = false := decide_eq_false (by omega)
  have ia : decide (fC a = 3) = false := decide_eq_false (by omega)
  have nb : decide (fC b = 4) = true := decide_eq_true (by omega)
  have zb : decide (fC b = 0) = false := decide_eq_false (by omega)
  have ib : decide (fC b = 3) = false := decide_eq_false (by omega)
  have eF : dvF md a b = 9221120237041090560 := by unfold dvF; rw [if_pos (by omega)]
  have eG : dvG md a b = 0 := by unfold dvG; rw [if_pos (by omega)]
  rw [eF, eG]
  clear eF eG
  clear hca hcb la lb
  go_enter Try.func18, Try.ntmps18
  go_wp2_with fail
  refine (kis_any a 4 ha _).mono ?_
  rw [na]
  rintro e w2 ⟨rfl, rfl⟩
  go_wp2_with fail
  go_ret2
  exact ⟨rfl, Below.refl _ _⟩
set_option maxHeartbeats 4000000 in
theorem kdiv_NI (a b md : Int) (ha : Word a) (_hb : Word b) (hca : fC a = 4) (hcb : fC b = 3) (w : World) :
    Calls Try.prog 18 #[.int .u64 a, .int .u64 b, .int .u8 md] w (RetF (dvF md a b) (dvG md a b) w) := by
  have la := cls_bd a
  have lb := cls_bd b
  have na : decide (fC a = 4) = true := decide_eq_true (by omega)
  have za : decide (fC a = 0) = false := decide_eq_false (by omega)
  have ia : decide (fC a = 3) = false := decide_eq_false (by omega)
  have nb : decide (fC b = 4) = false := decide_eq_false (by omega)
  have zb : decide (fC b = 0) = false := decide_eq_false (by omega)
  have ib : decide (fC b = 3) = true := decide_eq_true (by omega)
  have eF : dvF md a b = 9221120237041090560 := by unfold dvF; rw [if_pos (by omega)]
  have eG : dvG md a b = 0 := by unfold dvG; rw [if_pos (by omega)]
  rw [eF, eG]
  clear eF eG
  clear hca hcb la lb
  go_enter Try.func18, Try.ntmps18
  go_wp2_with fail
  refine (kis_any a 4 ha _).mono ?_
  rw [na]
  rintro e w2 ⟨rfl, rfl⟩
  go_wp2_with fail
  go_ret2
  exact ⟨rfl, Below.refl _ _⟩
set_option maxHeartbeats 4000000 in
theorem kdiv_NZ (a b md : Int) (ha : Word a) (_hb : Word b) (hca : fC a = 4) (hcb : fC b = 0) (w : World) :
    Calls Try.prog 18 #[.int .u64 a, .int .u64 b, .int .u8 md] w (RetF (dvF md a b) (dvG md a b) w) := by
  have la := cls_bd a
  have lb := cls_bd b
  have na : decide (fC a = 4) = true := decide_eq_true (by omega)
  have za : decide (fC a = 0) = false := decide_eq_false (by omega)
  have ia : decide (fC a = 3) = false := decide_eq_false (by omega)
  have nb : decide (fC b = 4) = false := decide_eq_false (by omega)
  have zb : decide (fC b = 0) = true := decide_eq_true (by omega)
  have ib : decide (fC b = 3) = false := decide_eq_false (by omega)
  have eF : dvF md a b = 9221120237041090560 := by unfold dvF; rw [if_pos (by omega)]
  have eG : dvG md a b = 0 := by unfold dvG; rw [if_pos (by omega)]
  rw [eF, eG]
  clear eF eG
  clear hca hcb la lb
  go_enter Try.func18, Try.ntmps18
  go_wp2_with fail
  refine (kis_any a 4 ha _).mono ?_
  rw [na]
  rintro e w2 ⟨rfl, rfl⟩
  go_wp2_with fail
  go_ret2
  exact ⟨rfl, Below.refl _ _⟩
set_option maxHeartbeats 4000000 in
theorem kdiv_NF (a b md : Int) (ha : Word a) (_hb : Word b) (hca : fC a = 4) (hcb : fC b ≠ 0 ∧ fC b ≠ 3 ∧ fC b ≠ 4) (w : World) :
    Calls Try.prog 18 #[.int .u64 a, .int .u64 b, .int .u8 md] w (RetF (dvF md a b) (dvG md a b) w) := by
  have la := cls_bd a
  have lb := cls_bd b
  have na : decide (fC a = 4) = true := decide_eq_true (by omega)
  have za : decide (fC a = 0) = false := decide_eq_false (by omega)
  have ia : decide (fC a = 3) = false := decide_eq_false (by omega)
  have nb : decide (fC b = 4) = false := decide_eq_false (by omega)
  have zb : decide (fC b = 0) = false := decide_eq_false (by omega)
  have ib : decide (fC b = 3) = false := decide_eq_false (by omega)
  have eF : dvF md a b = 9221120237041090560 := by unfold dvF; rw [if_pos (by omega)]
  have eG : dvG md a b = 0 := by unfold dvG; rw [if_pos (by omega)]
  rw [eF, eG]
  clear eF eG
  clear hca hcb la lb
  go_enter Try.func18, Try.ntmps18
  go_wp2_with fail
  refine (kis_any a 4 ha _).mono ?_
  rw [na]
  rintro e w2 ⟨rfl, rfl⟩
  go_wp2_with fail
  go_ret2
  exact ⟨rfl, Below.refl _ _⟩
set_option maxHeartbeats 4000000 in
theorem kdiv_IN (a b md : Int) (ha : Word a) (hb : Word b) (hca : fC a = 3) (hcb : fC b = 4) (w : World) :
    Calls Try.prog 18 #[.int .u64 a, .int .u64 b, .int .u8 md] w (RetF (dvF md a b) (dvG md a b) w) := by
  have la := cls_bd a
  have lb := cls_bd b
  have na : decide (fC a = 4) = false := decide_eq_false (by omega)
  have za : decide (fC a = 0) = false := decide_eq_false (by omega)
  have ia : decide (fC a = 3) = true := decide_eq_true (by omega)
  have nb : decide (fC b = 4) = true := decide_eq_true (by omega)
  have zb : decide (fC b = 0) = false := decide_eq_false (by omega)
  have ib : decide (fC b = 3) = false := decide_eq_false (by omega)
  have eF : dvF md a b = 9221120237041090560 := by unfold dvF; rw [if_pos (by omega)]
  have eG : dvG md a b = 0 := by unfold dvG; rw [if_pos (by omega)]
  rw [eF, eG]
  clear eF eG
  clear hca hcb la lb
  go_enter Try.func18, Try.ntmps18
  go_wp2_with fail
  refine (kis_any a 4 ha _).mono ?_
  rw [na]
  rintro e w2 ⟨rfl, rfl⟩
  go_wp2_with fail
  refine (kis_any b 4 hb _).mono ?_
  rw [nb]
  rintro e w2 ⟨rfl, rfl⟩
  go_wp2_with fail
  go_ret2
  exact ⟨rfl, Below.refl _ _⟩
set_option maxHeartbeats 4000000 in
theorem kdiv_II (a b md : Int) (ha : Word a) (hb : Word b) (hca : fC a = 3) (hcb : fC b = 3) (w : World) :
    Calls Try.prog 18 #[.int .u64 a, .int .u64 b, .int .u8 md] w (RetF (dvF md a b) (dvG md a b) w) := by
  have la := cls_bd a
  have lb := cls_bd b
  have na : decide (fC a = 4) = false := decide_eq_false (by omega)
  have za : decide (fC a = 0) = false := decide_eq_false (by omega)
  have ia : decide (fC a = 3) = true := decide_eq_true (by omega)
  have nb : decide (fC b = 4) = false := decide_eq_false (by omega)
  have zb : decide (fC b = 0) = false := decide_eq_false (by omega)
  have ib : decide (fC b = 3) = true := decide_eq_true (by omega)
  have eF : dvF md a b = 9221120237041090560 := by unfold dvF; rw [if_neg (by omega), if_pos (by omega)]
  have eG : dvG md a b = 16 := by unfold dvG; rw [if_neg (by omega), if_pos (by omega)]
  rw [eF, eG]
  clear eF eG
  clear hca hcb la lb
  go_enter Try.func18, Try.ntmps18
  go_wp2_with fail
  refine (kis_any a 4 ha _).mono ?_
  rw [na]
  rintro e w2 ⟨rfl, rfl⟩
  go_wp2_with fail
  refine (kis_any b 4 hb _).mono ?_
  rw [nb]
  rintro e w2 ⟨rfl, rfl⟩
  go_wp2_with fail
  refine (kis_any a 3 ha _).mono ?_
  rw [ia]
  rintro e w2 ⟨rfl, rfl⟩
  go_wp2_with fail
  refine (kis_any b 3 hb _).mono ?_
  rw [ib]
  rintro e w2 ⟨rfl, rfl⟩
  go_wp2_with fail
  go_ret2
  exact ⟨rfl, Below.refl _ _⟩
set_option maxHeartbeats 4000000 in
theorem kdiv_IZ (a b md : Int) (ha : Word a) (hb : Word b) (hca : fC a = 3) (hcb : fC b = 0) (w : World) :
    Calls Try.prog 18 #[.int .u64 a, .int .u64 b, .int .u8 md] w (RetF (dvF md a b) (dvG md a b) w) := by
  have la := cls_bd a
  have lb := cls_bd b
  have na : decide (fC a = 4) = false := decide_eq_false (by omega)
  have za : decide (fC a = 0) = false := decide_eq_false (by omega)
  have ia : decide (fC a = 3) = true := decide_eq_true (by omega)
  have nb : decide (fC b = 4) = false := decide_eq_false (by omega)
  have zb : decide (fC b = 0) = true := decide_eq_true (by omega)
  have ib : decide (fC b = 3) = false := decide_eq_false (by omega)
  have eF : dvF md a b = 9218868437227405312 + sg (fS a != fS b) := by unfold dvF; rw [if_neg (by omega), if_neg (by omega), if_pos (by omega)]
  have eG : dvG md a b = 0 := by unfold dvG; rw [if_neg (by omega), if_neg (by omega), if_pos (by omega)]
  rw [eF, eG]
  clear eF eG
  clear hca hcb la lb
  go_enter Try.func18, Try.ntmps18
  go_wp2_with fail
  refine (kis_any a 4 ha _).mono ?_
  rw [na]
  rintro e w2 ⟨rfl, rfl⟩
  go_wp2_with fail
  refine (kis_any b 4 hb _).mono ?_
  rw [nb]
  rintro e w2 ⟨rfl, rfl⟩
  go_wp2_with fail
  refine (kis_any a 3 ha _).mono ?_
  rw [ia]
  rintro e w2 ⟨rfl, rfl⟩
  go_wp2_with fail
  refine (kis_any b 3 hb _).mono ?_
  rw [ib]
  rintro e w2 ⟨rfl, rfl⟩
  go_wp2_with fail
  refine (kis_any a 0 ha _).mono ?_
  rw [za]
  rintro e w2 ⟨rfl, rfl⟩
  go_wp2_with fail
  refine (kneg_any a ha _).mono ?_
  rintro e w2 ⟨rfl, rfl⟩
  go_wp2_with fail
  refine (kneg_any b hb _).mono ?_
  rintro e w2 ⟨rfl, rfl⟩
  go_wp2_with fail
  refine (kis_any a 3 ha _).mono ?_
  rw [ia]
  rintro e w2 ⟨rfl, rfl⟩
  go_wp2_with fail
  refine (kinf_any _ _).mono ?_
  rintro e w2 ⟨rfl, rfl⟩
  go_wp2_with fail
  go_ret2
  exact ⟨rfl, Below.refl _ _⟩
set_option maxHeartbeats 4000000 in
theorem kdiv_IF (a b md : Int) (ha : Word a) (hb : Word b) (hca : fC a = 3) (hcb : fC b ≠ 0 ∧ fC b ≠ 3 ∧ fC b ≠ 4) (w : World) :
    Calls Try.prog 18 #[.int .u64 a, .int .u64 b, .int .u8 md] w (RetF (dvF md a b) (dvG md a b) w) := by
  have la := cls_bd a
  have lb := cls_bd b
  have na : decide (fC a = 4) = false := decide_eq_false (by omega)
  have za : decide (fC a = 0) = false := decide_eq_false (by omega)
  have ia : decide (fC a = 3) = true := decide_eq_true (by omega)
  have nb : decide (fC b = 4) = false := decide_eq_false (by omega)
  have zb : decide (fC b = 0) = false := decide_eq_false (by omega)
  have ib : decide (fC b = 3) = false := decide_eq_false (by omega)
  have eF : dvF md a b = 9218868437227405312 + sg (fS a != fS b) := by unfold dvF; rw [if_neg (by omega), if_neg (by omega), if_pos (by omega)]
  have eG : dvG md a b = 0 := by unfold dvG; rw [if_neg (by omega), if_neg (by omega), if_pos (by omega)]
  rw [eF, eG]
  clear eF eG
  clear hca hcb la lb
  go_enter Try.func18, Try.ntmps18
  go_wp2_with fail
  refine (kis_any a 4 ha _).mono ?_
  rw [na]
  rintro e w2 ⟨rfl, rfl⟩
  go_wp2_with fail
  refine (kis_any b 4 hb _).mono ?_
  rw [nb]
  rintro e w2 ⟨rfl, rfl⟩
  go_wp2_with fail
  refine (kis_any a 3 ha _).mono ?_
  rw [ia]
  rintro e w2 ⟨rfl, rfl⟩
  go_wp2_with fail
  refine (kis_any b 3 hb _).mono ?_
  rw [ib]
  rintro e w2 ⟨rfl, rfl⟩
  go_wp2_with fail
  refine (kis_any a 0 ha _).mono ?_
  rw [za]
  rintro e w2 ⟨rfl, rfl⟩
  go_wp2_with fail
  refine (kneg_any a ha _).mono ?_
  rintro e w2 ⟨rfl, rfl⟩
  go_wp2_with fail
  refine (kneg_any b hb _).mono ?_
  rintro e w2 ⟨rfl, rfl⟩
  go_wp2_with fail
  refine (kis_any a 3 ha _).mono ?_
  rw [ia]
  rintro e w2 ⟨rfl, rfl⟩
  go_wp2_with fail
  refine (kinf_any _ _).mono ?_
  rintro e w2 ⟨rfl, rfl⟩
  go_wp2_with fail
  go_ret2
  exact ⟨rfl, Below.refl _ _⟩
set_option maxHeartbeats 4000000 in
theorem kdiv_ZN (a b md : Int) (ha : Word a) (hb : Word b) (hca : fC a = 0) (hcb : fC b = 4) (w : World) :
    Calls Try.prog 18 #[.int .u64 a, .int .u64 b, .int .u8 md] w (RetF (dvF md a b) (dvG md a b) w) := by
  have la := cls_bd a
  have lb := cls_bd b
  have na : decide (fC a = 4) = false := decide_eq_false (by omega)
  have za : decide (fC a = 0) = true := decide_eq_true (by omega)
  have ia : decide (fC a = 3) = false := decide_eq_false (by omega)
  have nb : decide (fC b = 4) = true := decide_eq_true (by omega)
  have zb : decide (fC b = 0) = false := decide_eq_false (by omega)
  have ib : decide (fC b = 3) = false := decide_eq_false (by omega)
  have eF : dvF md a b = 9221120237041090560 := by unfold dvF; rw [if_pos (by omega)]
  have eG : dvG md a b = 0 := by unfold dvG; rw [if_pos (by omega)]
  rw [eF, eG]
  clear eF eG
  clear hca hcb la lb
  go_enter Try.func18, Try.ntmps18
  go_wp2_with fail
  refine (kis_any a 4 ha _).mono ?_
  rw [na]
  rintro e w2 ⟨rfl, rfl⟩
  go_wp2_with fail
  refine (kis_any b 4 hb _).mono ?_
  rw [nb]
  rintro e w2 ⟨rfl, rfl⟩
  go_wp2_with fail
  go_ret2
  exact ⟨rfl, Below.refl _ _⟩
set_option maxHeartbeats 4000000 in
theorem kdiv_ZI (a b md : Int) (ha : Word a) (hb : Word b) (hca : fC a = 0) (hcb : fC b = 3) (w : World) :
    Calls Try.prog 18 #[.int .u64 a, .int .u64 b, .int .u8 md] w (RetF (dvF md a b) (dvG md a b) w) := by
  have la := cls_bd a
  have lb := cls_bd b
  have na : decide (fC a = 4) = false := decide_eq_false (by omega)
  have za : decide (fC a = 0) = true := decide_eq_true (by omega)
  have ia : decide (fC a = 3) = false := decide_eq_false (by omega)
  have nb : decide (fC b = 4) = false := decide_eq_false (by omega)
  have zb : decide (fC b = 0) = false := decide_eq_false (by omega)
  have ib : decide (fC b = 3) = true := decide_eq_true (by omega)
  have eF : dvF md a b = sg (fS a != fS b) := by unfold dvF; rw [if_neg (by omega), if_neg (by omega), if_neg (by omega), if_neg (by omega), if_pos (by omega)]
  have eG : dvG md a b = 0 := by unfold dvG; rw [if_neg (by omega), if_neg (by omega), if_neg (by omega), if_neg (by omega), if_pos (by omega)]
  rw [eF, eG]
  clear eF eG
  clear hca hcb la lb
  go_enter Try.func18, Try.ntmps18
  go_wp2_with fail
  refine (kis_any a 4 ha _).mono ?_
  rw [na]
  rintro e w2 ⟨rfl, rfl⟩
  go_wp2_with fail
  refine (kis_any b 4 hb _).mono ?_
  rw [nb]
  rintro e w2 ⟨rfl, rfl⟩
  go_wp2_with fail
  refine (kis_any a 3 ha _).mono ?_
  rw [ia]
  rintro e w2 ⟨rfl, rfl⟩
  go_wp2_with fail
  refine (kis_any a 0 ha _).mono ?_
  rw [za]
  rintro e w2 ⟨rfl, rfl⟩
  go_wp2_with fail
  refine (kis_any b 0 hb _).mono ?_
  rw [zb]
  rintro e w2 ⟨rfl, rfl⟩
  go_wp2_with fail
  refine (kneg_any a ha _).mono ?_
  rintro e w2 ⟨rfl, rfl⟩
  go_wp2_with fail
  refine (kneg_any b hb _).mono ?_
  rintro e w2 ⟨rfl, rfl⟩
  go_wp2_with fail
  refine (kis_any a 3 ha _).mono ?_
  rw [ia]
  rintro e w2 ⟨rfl, rfl⟩
  go_wp2_with fail
  refine (kis_any b 0 hb _).mono ?_
  rw [zb]
  rintro e w2 ⟨rfl, rfl⟩
  go_wp2_with fail
  refine (kis_any a 0 ha _).mono ?_
  rw [za]
  rintro e w2 ⟨rfl, rfl⟩
  go_wp2_with fail
  refine (kzero_any _ _).mono ?_
  rintro e w2 ⟨rfl, rfl⟩
  go_wp2_with fail
  go_ret2
  exact ⟨rfl, Below.refl _ _⟩
set_option maxHeartbeats 4000000 in
theorem kdiv_ZZ (a b md : Int) (ha : Word a) (hb : Word b) (hca : fC a = 0) (hcb : fC b = 0) (w : World) :
    Calls Try.prog 18 #[.int .u64 a, .int .u64 b, .int .u8 md] w (RetF (dvF md a b) (dvG md a b) w) := by
  have la := cls_bd a
  have lb := cls_bd b
  have na : decide (fC a = 4) = false := decide_eq_false (by omega)
  have za : decide (fC a = 0) = true := decide_eq_true (by omega)
  have ia : decide (fC a = 3) = false := decide_eq_false (by omega)
  have nb : decide (fC b = 4) = false := decide_eq_false (by omega)
  have zb : decide (fC b = 0) = true := decide_eq_true (by omega)
  have ib : decide (fC b = 3) = false := decide_eq_false (by omega)
  have eF : dvF md a b = 9221120237041090560 := by unfold dvF; rw [if_neg (by omega), if_pos (by omega)]
  have eG : dvG md a b = 16 := by unfold dvG; rw [if_neg (by omega), if_pos (by omega)]
  rw [eF, eG]
  clear eF eG
  clear hca hcb la lb
  go_enter Try.func18, Try.ntmps18
  go_wp2_with fail
  refine (kis_any a 4 ha _).mono ?_
  rw [na]
  rintro e w2 ⟨rfl, rfl⟩
  go_wp2_with fail
  refine (kis_any b 4 hb _).mono ?_
  rw [nb]
  rintro e w2 ⟨rfl, rfl⟩
  go_wp2_with fail
  refine (kis_any a 3 ha _).mono ?_
  rw [ia]
  rintro e w2 ⟨rfl, rfl⟩
  go_wp2_with fail
  refine (kis_any a 0 ha _).mono ?_
  rw [za]
  rintro e w2 ⟨rfl, rfl⟩
  go_wp2_with fail
  refine (kis_any b 0 hb _).mono ?_
  rw [zb]
  rintro e w2 ⟨rfl, rfl⟩
  go_wp2_with fail
  go_ret2
  exact ⟨rfl, Below.refl _ _⟩
set_option maxHeartbeats 4000000 in
theorem kdiv_ZF (a b md : Int) (ha : Word a) (hb : Word b) (hca : fC a = 0) (hcb : fC b ≠ 0 ∧ fC b ≠ 3 ∧ fC b ≠ 4) (w : World) :
    Calls Try.prog 18 #[.int .u64 a, .int .u64 b, .int .u8 md] w (RetF (dvF md a b) (dvG md a b) w) := by
  have la := cls_bd a
  have lb := cls_bd b
  have na : decide (fC a = 4) = false := decide_eq_false (by omega)
  have za : decide (fC a = 0) = true := decide_eq_true (by omega)
  have ia : decide (fC a = 3) = false := decide_eq_false (by omega)
  have nb : decide (fC b = 4) = false := decide_eq_false (by omega)
  have zb : decide (fC b = 0) = false := decide_eq_false (by omega)
  have ib : decide (fC b = 3) = false := decide_eq_false (by omega)
  have eF : dvF md a b = sg (fS a != fS b) := by unfold dvF; rw [if_neg (by omega), if_neg (by omega), if_neg (by omega), if_neg (by omega), if_pos (by omega)]
  have eG : dvG md a b = 0 := by unfold dvG; rw [if_neg (by omega), if_neg (by omega), if_neg (by omega), if_neg (by omega), if_pos (by omega)]
  rw [eF, eG]
  clear eF eG
  clear hca hcb la lb
  go_enter Try.func18, Try.ntmps18
  go_wp2_with fail
  refine (kis_any a 4 ha _).mono ?_
  rw [na]
  rintro e w2 ⟨rfl, rfl⟩
  go_wp2_with fail
  refine (kis_any b 4 hb _).mono ?_
  rw [nb]
  rintro e w2 ⟨rfl, rfl⟩
  go_wp2_with fail
  refine (kis_any a 3 ha _).mono ?_
  rw [ia]
  rintro e w2 ⟨rfl, rfl⟩
  go_wp2_with fail
  refine (kis_any a 0 ha _).mono ?_
  rw [za]
  rintro e w2 ⟨rfl, rfl⟩
  go_wp2_with fail
  refine (kis_any b 0 hb _).mono ?_
  rw [zb]
  rintro e w2 ⟨rfl, rfl⟩
  go_wp2_with fail
  refine (kneg_any a ha _).mono ?_
  rintro e w2 ⟨rfl, rfl⟩
  go_wp2_with fail
  refine (kneg_any b hb _).mono ?_
  rintro e w2 ⟨rfl, rfl⟩
  go_wp2_with fail
  refine (kis_any a 3 ha _).mono ?_
  rw [ia]
  rintro e w2 ⟨rfl, rfl⟩
  go_wp2_with fail
  refine (kis_any b 0 hb _).mono ?_
  rw [zb]
  rintro e w2 ⟨rfl, rfl⟩
  go_wp2_with fail
  refine (kis_any a 0 ha _).mono ?_
  rw [za]
  rintro e w2 ⟨rfl, rfl⟩
  go_wp2_with fail
  refine (kzero_any _ _).mono ?_
  rintro e w2 ⟨rfl, rfl⟩
  go_wp2_with fail
  go_ret2
  exact ⟨rfl, Below.refl _ _⟩
set_option maxHeartbeats 4000000 in
theorem kdiv_FN (a b md : Int) (ha : Word a) (hb : Word b) (hca : fC a ≠ 0 ∧ fC a ≠ 3 ∧ fC a ≠ 4) (hcb : fC b = 4) (w : World) :
    Calls Try.prog 18 #[.int .u64 a, .int .u64 b, .int .u8 md] w (RetF (dvF md a b) (dvG md a b) w) := by
  have la := cls_bd a
  have lb := cls_bd b
  have na : decide (fC a = 4) = false := decide_eq_false (by omega)
  have za : decide (fC a = 0) = false := decide_eq_false (by omega)
  have ia : decide (fC a = 3) = false := decide_eq_false (by omega)
  have nb : decide (fC b = 4) = true := decide_eq_true (by omega)
  have zb : decide (fC b = 0) = false := decide_eq_false (by omega)
  have ib : decide (fC b = 3) = false := decide_eq_false (by omega)
  have eF : dvF md a b = 9221120237041090560 := by unfold dvF; rw [if_pos (by omega)]
  have eG : dvG md a b = 0 := by unfold dvG; rw [if_pos (by omega)]
  rw [eF, eG]
  clear eF eG
  clear hca hcb la lb
  go_enter Try.func18, Try.ntmps18
  go_wp2_with fail
  refine (kis_any a 4 ha _).mono ?_
  rw [na]
  rintro e w2 ⟨rfl, rfl⟩
  go_wp2_with fail
  refine (kis_any b 4 hb _).mono ?_
  rw [nb]
  rintro e w2 ⟨rfl, rfl⟩
  go_wp2_with fail
  go_ret2
  exact ⟨rfl, Below.refl _ _⟩
set_option maxHeartbeats 4000000 in
theorem kdiv_FI (a b md : Int) (ha : Word a) (hb : Word b) (hca : fC a ≠ 0 ∧ fC a ≠ 3 ∧ fC a ≠ 4) (hcb : fC b = 3) (w : World) :
    Calls Try.prog 18 #[.int .u64 a, .int .u64 b, .int .u8 md] w (RetF (dvF md a b) (dvG md a b) w) := by
  have la := cls_bd a
  have lb := cls_bd b
  have na : decide (fC a = 4) = false := decide_eq_false (by omega)
  have za : decide (fC a = 0) = false := decide_eq_false (by omega)
  have ia : decide (fC a = 3) = false := decide_eq_false (by omega)
  have nb : decide (fC b = 4) = false := decide_eq_false (by omega)
  have zb : decide (fC b = 0) = false := decide_eq_false (by omega)
  have ib : decide (fC b = 3) = true := decide_eq_true (by omega)
  have eF : dvF md a b = sg (fS a != fS b) := by unfold dvF; rw [if_neg (by omega), if_neg (by omega), if_neg (by omega), if_neg (by omega), if_pos (by omega)]
  have eG : dvG md a b = 0 := by unfold dvG; rw [if_neg (by omega), if_neg (by omega), if_neg (by omega), if_neg (by omega), if_pos (by omega)]
  rw [eF, eG]
  clear eF eG
  clear hca hcb la lb
  go_enter Try.func18, Try.ntmps18
  go_wp2_with fail
  refine (kis_any a 4 ha _).mono ?_
  rw [na]
  rintro e w2 ⟨rfl, rfl⟩
  go_wp2_with fail
  refine (kis_any b 4 hb _).mono ?_
  rw [nb]
  rintro e w2 ⟨rfl, rfl⟩
  go_wp2_with fail
  refine (kis_any a 3 ha _).mono ?_
  rw [ia]
  rintro e w2 ⟨rfl, rfl⟩
  go_wp2_with fail
  refine (kis_any a 0 ha _).mono ?_
  rw [za]
  rintro e w2 ⟨rfl, rfl⟩
  go_wp2_with fail
  refine (kneg_any a ha _).mono ?_
  rintro e w2 ⟨rfl, rfl⟩
  go_wp2_with fail
  refine (kneg_any b hb _).mono ?_
  rintro e w2 ⟨rfl, rfl⟩
  go_wp2_with fail
  refine (kis_any a 3 ha _).mono ?_
  rw [ia]
  rintro e w2 ⟨rfl, rfl⟩
  go_wp2_with fail
  refine (kis_any b 0 hb _).mono ?_
  rw [zb]
  rintro e w2 ⟨rfl, rfl⟩
  go_wp2_with fail
  refine (kis_any a 0 ha _).mono ?_
  rw [za]
  rintro e w2 ⟨rfl, rfl⟩
  go_wp2_with fail
  refine (kis_any b 3 hb _).mono ?_
  rw [ib]
  rintro e w2 ⟨rfl, rfl⟩
  go_wp2_with fail
  refine (kzero_any _ _).mono ?_
  rintro e w2 ⟨rfl, rfl⟩
  go_wp2_with fail
  go_ret2
  exact ⟨rfl, Below.refl _ _⟩
set_option maxHeartbeats 4000000 in
theorem kdiv_FZ (a b md : Int) (ha : Word a) (hb : Word b) (hca : fC a ≠ 0 ∧ fC a ≠ 3 ∧ fC a ≠ 4) (hcb : fC b = 0) (w : World) :
    Calls Try.prog 18 #[.int .u64 a, .int .u64 b, .int .u8 md] w (RetF (dvF md a b) (dvG md a b) w) := by
  have la := cls_bd a
  have lb := cls_bd b
  have na : decide (fC a = 4) = false := decide_eq_false (by omega)
  have za : decide (fC a = 0) = false := decide_eq_false (by omega)
  have ia : decide (fC a = 3) = false := decide_eq_false (by omega)
  have nb : decide (fC b = 4) = false := decide_eq_false (by omega)
  have zb : decide (fC b = 0) = true := decide_eq_true (by omega)
  have ib : decide (fC b = 3) = false := decide_eq_false (by omega)
  have eF : dvF md a b = 9218868437227405312 + sg (fS a != fS b) := by unfold dvF; rw [if_neg (by omega), if_neg (by omega), if_neg (by omega), if_pos (by omega)]
  have eG : dvG md a b = 8 := by unfold dvG; rw [if_neg (by omega), if_neg (by omega), if_neg (by omega), if_pos (by omega)]
  rw [eF, eG]
  clear eF eG
  clear hca hcb la lb
  go_enter Try.func18, Try.ntmps18
  go_wp2_with fail
  refine (kis_any a 4 ha _).mono ?_
  rw [na]
  rintro e w2 ⟨rfl, rfl⟩
  go_wp2_with fail
  refine (kis_any b 4 hb _).mono ?_
  rw [nb]
  rintro e w2 ⟨rfl, rfl⟩
  go_wp2_with fail
  refine (kis_any a 3 ha _).mono ?_
  rw [ia]
  rintro e w2 ⟨rfl, rfl⟩
  go_wp2_with fail
  refine (kis_any a 0 ha _).mono ?_
  rw [za]
  rintro e w2 ⟨rfl, rfl⟩
  go_wp2_with fail
  refine (kneg_any a ha _).mono ?_
  rintro e w2 ⟨rfl, rfl⟩
  go_wp2_with fail
  refine (kneg_any b hb _).mono ?_
  rintro e w2 ⟨rfl, rfl⟩
  go_wp2_with fail
  refine (kis_any a 3 ha _).mono ?_
  rw [ia]
  rintro e w2 ⟨rfl, rfl⟩
  go_wp2_with fail
  refine (kis_any b 0 hb _).mono ?_
  rw [zb]
  rintro e w2 ⟨rfl, rfl⟩
  go_wp2_with fail
  refine (kinf_any _ _).mono ?_
  rintro e w2 ⟨rfl, rfl⟩
  go_wp2_with fail
  go_ret2
  exact ⟨rfl, Below.refl _ _⟩
set_option maxHeartbeats 4000000 in
theorem kdiv_FF (a b md : Int) (ha : Word a) (hb : Word b) (hca : fC a ≠ 0 ∧ fC a ≠ 3 ∧ fC a ≠ 4) (hcb : fC b ≠ 0 ∧ fC b ≠ 3 ∧ fC b ≠ 4) (w : World) :
    Calls Try.prog 18 #[.int .u64 a, .int .u64 b, .int .u8 md] w (RetF (dvF md a b) (dvG md a b) w) := by
  have la := cls_bd a
  have lb := cls_bd b
  have na : decide (fC a = 4) = false := decide_eq_false (by omega)
  have za : decide (fC a = 0) = false := decide_eq_false (by omega)
  have ia : decide (fC a = 3) = false := decide_eq_false (by omega)
  have nb : decide (fC b = 4) = false := decide_eq_false (by omega)
  have zb : decide (fC b = 0) = false := decide_eq_false (by omega)
  have ib : decide (fC b = 3) = false := decide_eq_false (by omega)
  have eF : dvF md a b = dF md (fV a / fV b) := by unfold dvF; rw [if_neg (by omega), if_neg (by omega), if_neg (by omega), if_neg (by omega), if_neg (by omega)]
  have eG : dvG md a b = dG md (fV a / fV b) := by unfold dvG; rw [if_neg (by omega), if_neg (by omega), if_neg (by omega), if_neg (by omega), if_neg (by omega)]
  rw [eF, eG]
  clear eF eG
  have pa : 0 < fX a := by have := (fX_bd (f := a)).1; have := (fX_fin (f := a) (by omega)); omega
  have pb : 0 < fX b := by have := (fX_bd (f := b)).1; have := (fX_fin (f := b) (by omega)); omega
  have SA := Lib.hid (fun w => gsplit_any a ha w)
  have SB := Lib.hid (fun w => gsplit_any b hb w)
  have xa := fX_word a
  have xb := fX_word b
  have ya := fY_bd a
  have yb := fY_bd b
  have CR := Lib.hid (fun (w : World) (x y : Value) (hx : RowV w x (fX a) 64) (hy : RowV w y (fX b) 64) => kdv_any pa pb md w x y hx hy)
  generalize dF md (fV a / fV b) = rr at *
  generalize dG md (fV a / fV b) = gg at *
  clear hca hcb la lb
  go_enter Try.func18, Try.ntmps18
  go_wp2_with fail
  refine (kis_any a 4 ha _).mono ?_
  rw [na]
  rintro e w2 ⟨rfl, rfl⟩
  go_wp2_with fail
  refine (kis_any b 4 hb _).mono ?_
  rw [nb]
  rintro e w2 ⟨rfl, rfl⟩
  go_wp2_with fail
  refine (kis_any a 3 ha _).mono ?_
  rw [ia]
  rintro e w2 ⟨rfl, rfl⟩
  go_wp2_with fail
  refine (kis_any a 0 ha _).mono ?_
  rw [za]
  rintro e w2 ⟨rfl, rfl⟩
  go_wp2_with fail
  refine (kneg_any a ha _).mono ?_
  rintro e w2 ⟨rfl, rfl⟩
  go_wp2_with fail
  refine (kneg_any b hb _).mono ?_
  rintro e w2 ⟨rfl, rfl⟩
  go_wp2_with fail
  refine (kis_any a 3 ha _).mono ?_
  rw [ia]
  rintro e w2 ⟨rfl, rfl⟩
  go_wp2_with fail
  refine (kis_any b 0 hb _).mono ?_
  rw [zb]
  rintro e w2 ⟨rfl, rfl⟩
  go_wp2_with fail
  refine (kis_any a 0 ha _).mono ?_
  rw [za]
  rintro e w2 ⟨rfl, rfl⟩
  go_wp2_with fail
  refine (kis_any b 3 hb _).mono ?_
  rw [ib]
  rintro e w2 ⟨rfl, rfl⟩
  go_wp2_with fail
  refine (SA.out _).mono ?_
  rintro e w2 ⟨rfl, rfl⟩
  go_wp2_with fail
  refine (SB.out _).mono ?_
  rintro e w2 ⟨rfl, rfl⟩
  go_wp2_with fail
  refine (kbits_any _ xa _).mono ?_
  rintro e w3 ⟨v3, r3, rfl, hb3⟩
  have HB3 := Lib.hid hb3
  clear hb3
  go_wp2_with fail
  refine (kbits_any _ xb _).mono ?_
  rintro e w4 ⟨v4, r4, rfl, hb4⟩
  have r5 := r3.v.below hb4
  have r6 := r4.v
  have HB4 := Lib.hid (bel_trans HB3.out hb4)
  clear hb4 HB3 r3 r4
  obtain ⟨A5, n5, c5, rfl⟩ := r5.form
  obtain ⟨A6, n6, c6, rfl⟩ := r6.form
  go_wp2_with fail
  refine (CR.out _ _ _ r5 r6).mono ?_
  rintro e w6 ⟨rfl, hb6⟩
  go_wp2_with fail
  go_ret2
  exact ⟨rfl, bel_trans HB4.out hb6⟩

theorem kmul_any (a b md : Int) (ha : Word a) (hb : Word b) (w : World) :
    Calls Try.prog 16 #[.int .u64 a, .int .u64 b, .int .u8 md] w (RetF (mlF md a b) (mlG md a b) w) := by
  have ka : fC a = 4 ∨ fC a = 3 ∨ fC a = 0 ∨ (fC a ≠ 0 ∧ fC a ≠ 3 ∧ fC a ≠ 4) := by omega
  have kb : fC b = 4 ∨ fC b = 3 ∨ fC b = 0 ∨ (fC b ≠ 0 ∧ fC b ≠ 3 ∧ fC b ≠ 4) := by omega
  rcases ka with ka | ka | ka | ka <;> rcases kb with kb | kb | kb | kb
  · exact kmul_NN a b md ha hb ka kb w
  · exact kmul_NI a b md ha hb ka kb w
  · exact kmul_NZ a b md ha hb ka kb w
  · exact kmul_NF a b md ha hb ka kb w
  · exact kmul_IN a b md ha hb ka kb w
  · exact kmul_II a b md ha hb ka kb w
  · exact kmul_IZ a b md ha hb ka kb w
  · exact kmul_IF a b md ha hb ka kb w
  · exact kmul_ZN a b md ha hb ka kb w
  · exact kmul_ZI a b md ha hb ka kb w
  · exact kmul_ZZ a b md ha hb ka kb w
  · exact kmul_ZF a b md ha hb ka kb w
  · exact kmul_FN a b md ha hb ka kb w
  · exact kmul_FI a b md ha hb ka kb w
  · exact kmul_FZ a b md ha hb ka kb w
  · exact kmul_FF a b md ha hb ka kb w
theorem kdiv_any (a b md : Int) (ha : Word a) (hb : Word b) (w : World) :
    Calls Try.prog 18 #[.int .u64 a, .int .u64 b, .int .u8 md] w (RetF (dvF md a b) (dvG md a b) w) := by
  have ka : fC a = 4 ∨ fC a = 3 ∨ fC a = 0 ∨ (fC a ≠ 0 ∧ fC a ≠ 3 ∧ fC a ≠ 4) := by omega
  have kb : fC b = 4 ∨ fC b = 3 ∨ fC b = 0 ∨ (fC b ≠ 0 ∧ fC b ≠ 3 ∧ fC b ≠ 4) := by omega
  rcases ka with ka | ka | ka | ka <;> rcases kb with kb | kb | kb | kb
  · exact kdiv_NN a b md ha hb ka kb w
  · exact kdiv_NI a b md ha hb ka kb w
  · exact kdiv_NZ a b md ha hb ka kb w
  · exact kdiv_NF a b md ha hb ka kb w
  · exact kdiv_IN a b md ha hb ka kb w
  · exact kdiv_II a b md ha hb ka kb w
  · exact kdiv_IZ a b md ha hb ka kb w
  · exact kdiv_IF a b md ha hb ka kb w
  · exact kdiv_ZN a b md ha hb ka kb w
  · exact kdiv_ZI a b md ha hb ka kb w
  · exact kdiv_ZZ a b md ha hb ka kb w
  · exact kdiv_ZF a b md ha hb ka kb w
  · exact kdiv_FN a b md ha hb ka kb w
  · exact kdiv_FI a b md ha hb ka kb w
  · exact kdiv_FZ a b md ha hb ka kb w
  · exact kdiv_FF a b md ha hb ka kb w
end Go.Proofs.Ytkdckclefegocaa
