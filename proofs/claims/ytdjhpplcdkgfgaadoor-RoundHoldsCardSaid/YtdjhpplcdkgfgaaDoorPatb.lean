/-
  Contracts of layer 4's functions that make and compare floats, and of the reference's. Conditions: floats are words.
-/
import Derived.Test.YtdjhpplcdkgfgaaDoorPat
namespace Go.Proofs.YtdjhpplcdkgfgaaDoor
open Go.RowKit
set_option maxRecDepth 100000

def sg (s : Bool) : Int := if s then 9223372036854775808 else 0
theorem sg_bd (s : Bool) : 0 ≤ sg s ∧ sg s ≤ 9223372036854775808 := by cases s <;> decide
theorem withSign_any (s : Bool) (f : Int) (h0 : 0 ≤ f) (h1 : f < 9223372036854775808) (w : World) : Calls Tryd.prog 55 #[.bool s, .int .u64 f] w fun e w' => e = .returned (.int .u64 (f + sg s)) ∧ w = w' := by
  cases s
  · go_enter Tryd.func55, Tryd.ntmps55
    go_wp2_with fail
    go_ret
    exact ⟨ret_int (by simp [sg]), rfl⟩
  · go_enter Tryd.func55, Tryd.ntmps55
    go_wp2_with fail
    rw [or63 h0 h1]
    go_ret
    exact ⟨ret_int (by simp [sg]), rfl⟩

/-- The float with these parts. -/
def mkF (s : Bool) (e m : Int) : Int := e * 4503599627370496 + m + sg s
def mkOk (e m : Int) : Prop := 0 ≤ e ∧ e < 2048 ∧ m < 4503599627370496
instance (e m : Int) : Decidable (mkOk e m) := by unfold mkOk; infer_instance
theorem mkF_word {s : Bool} {e m : Int} (h : mkOk e m) (h0 : 0 ≤ m) : Word (mkF s e m) := by
  obtain ⟨h1, h2, h3⟩ := h
  have := sg_bd s
  unfold mkF
  constructor <;> omega
theorem mkF_parts {f : Int} (hf : Word f) : mkF (fS f) (fE f) (fM f) = f ∧ mkOk (fE f) (fM f) := by
  obtain ⟨h0, h1⟩ := hf
  unfold mkF fS fE fM mkOk sg
  by_cases h : 9223372036854775808 ≤ f
  · rw [decide_eq_true h]; simp only [if_true]; omega
  · rw [decide_eq_false h]; simp only [Bool.false_eq_true, if_false]; omega
set_option maxHeartbeats 1000000 in
theorem make_good (s : Bool) (e m : Int) (hm : Word m) (h : mkOk e m) (w : World) : Calls Tryd.prog 67 #[.bool s, .int .i64 e, .int .u64 m] w fun x w' => x = .returned (.tuple #[.int .u64 (mkF s e m), .int .i64 0]) ∧ w = w' := by
  obtain ⟨h1, h2, h3⟩ := h
  obtain ⟨m0, m1⟩ := hm
  have o := or52 (e := e) (m := m) h1 (by omega) m0 h3
  have HO := Lib.hid o
  clear o
  go_enter Tryd.func67, Tryd.ntmps67
  go_wp2_with fail
  rw [HO.out]
  refine (withSign_any s _ (by omega) (by omega) _).mono ?_
  rintro x w1 ⟨rfl, rfl⟩
  go_wp2_with fail
  go_ret2
  exact ⟨rfl, rfl⟩
set_option maxHeartbeats 1000000 in
theorem make_bad (s : Bool) (e m : Int) (hm : Word m) (h : ¬ mkOk e m) (w : World) : Calls Tryd.prog 67 #[.bool s, .int .i64 e, .int .u64 m] w fun x w' => x = .returned (.tuple #[.int .u64 0, .int .i64 1]) ∧ w = w' := by
  obtain ⟨m0, m1⟩ := hm
  unfold mkOk at h
  by_cases h1 : e < 0
  · go_enter Tryd.func67, Tryd.ntmps67
    go_wp2_with fail
    go_ret2
    exact ⟨rfl, rfl⟩
  · by_cases h2 : 2047 < e
    · go_enter Tryd.func67, Tryd.ntmps67
      go_wp2_with fail
      go_ret2
      exact ⟨rfl, rfl⟩
    · have h3 : 4503599627370496 ≤ m := by omega
      go_enter Tryd.func67, Tryd.ntmps67
      go_wp2_with fail
      go_ret2
      exact ⟨rfl, rfl⟩
set_option maxHeartbeats 1000000 in
theorem gmake_any (s : Bool) (e m : Int) (hm : Word m) (h : mkOk e m) (w : World) : Calls Tryd.prog 71 #[.bool s, .int .i64 e, .int .u64 m] w fun x w' => x = .returned (.int .u64 (mkF s e m)) ∧ w = w' := by
  obtain ⟨h1, h2, h3⟩ := h
  obtain ⟨m0, m1⟩ := hm
  cases s
  · go_enter Tryd.func71, Tryd.ntmps71
    go_wp2_with fail
    go_ret
    exact ⟨ret_int (by simp [mkF, sg]), rfl⟩
  · go_enter Tryd.func71, Tryd.ntmps71
    go_wp2_with fail
    go_ret
    exact ⟨ret_int (by simp [mkF, sg]), rfl⟩

theorem isNaN_any (f : Int) (hf : Word f) (w : World) : Calls Tryd.prog 56 #[.int .u64 f] w fun x w' => x = .returned (.bool (decide (fC f = 4))) ∧ w = w' := by
  go_enter Tryd.func56, Tryd.ntmps56
  go_wp2_with fail
  refine (class_any f hf _).mono ?_
  rintro e w1 ⟨rfl, rfl⟩
  go_wp2_with fail
  go_ret
  exact ⟨ret_bool (by by_cases h : fC f = 4 <;> simp [h]), rfl⟩
theorem gfinite_any (f : Int) (hf : Word f) (w : World) : Calls Tryd.prog 27 #[.int .u64 f] w fun x w' => x = .returned (.bool (decide (fC f < 3))) ∧ w = w' := by
  have cb := cls_bd f
  go_enter Tryd.func27, Tryd.ntmps27
  go_wp2_with fail
  refine (gclass_any f hf _).mono ?_
  rintro e w1 ⟨rfl, rfl⟩
  by_cases h3 : fC f = 3
  · have HD : Hid (false = decide (fC f < 3)) := by show _ = _; rw [decide_eq_false (by omega)]
    rw [h3]
    go_wp2_with fail
    go_ret
    exact ⟨ret_bool HD.out, rfl⟩
  · by_cases h4 : fC f = 4
    · have HD : Hid (false = decide (fC f < 3)) := by show _ = _; rw [decide_eq_false (by omega)]
      rw [h4]
      go_wp2_with fail
      go_ret
      exact ⟨ret_bool HD.out, rfl⟩
    · have HD : Hid (true = decide (fC f < 3)) := by show _ = _; rw [decide_eq_true (by omega)]
      go_wp2_with fail
      go_ret
      exact ⟨ret_bool (by rw [← HD.out]; simp [h3, h4]), rfl⟩

/-- Where a float stands in the order. -/
def fK (f : Int) : Int := if fS f then -(f % 9223372036854775808) else f % 9223372036854775808
theorem fK_bd (f : Int) : -9223372036854775808 < fK f ∧ fK f < 9223372036854775808 := by unfold fK; split <;> omega
theorem low63 {f : Int} (hf : Word f) : fE f * 4503599627370496 + fM f = f % 9223372036854775808 := by
  obtain ⟨h0, h1⟩ := hf
  unfold fE fM
  omega
set_option maxHeartbeats 1000000 in
theorem rank_any (f : Int) (hf : Word f) (w : World) : Calls Tryd.prog 61 #[.int .u64 f] w fun x w' => x = .returned (.int .i64 (fK f)) ∧ w = w' := by
  have HS := sign_bit hf
  have HN := nand63 hf
  have b0 : 0 ≤ f % 9223372036854775808 := by omega
  have b1 : f % 9223372036854775808 < 9223372036854775808 := by omega
  by_cases h : fS f = true
  · have HK : Hid (-(f % 9223372036854775808) = fK f) := by show _ = _; simp [fK, h]
    rw [h] at HS
    generalize f % 9223372036854775808 = z at *
    clear h
    go_enter Tryd.func61, Tryd.ntmps61
    go_wp2_with fail
    go_ret
    exact ⟨ret_int HK.out, rfl⟩
  · have HK : Hid (f % 9223372036854775808 = fK f) := by show _ = _; simp [fK, h]
    rw [Bool.not_eq_true] at h
    rw [h] at HS
    generalize f % 9223372036854775808 = z at *
    clear h
    go_enter Tryd.func61, Tryd.ntmps61
    go_wp2_with fail
    go_ret
    exact ⟨ret_int HK.out, rfl⟩
theorem isNaNI64_any (a : Int) (w : World) : Calls Tryd.prog 90 #[.int .i64 a] w fun e w' => e = .returned (.bool false) ∧ w = w' := by
  go_enter Tryd.func90, Tryd.ntmps90
  go_wp2
  go_ret
  exact ⟨by simp, rfl⟩
theorem cmpI64_any (a b : Int) (w : World) : Calls Tryd.prog 60 #[.int .i64 a, .int .i64 b] w fun e w' => e = .returned (.int .i64 (cmpI a b)) ∧ w = w' := by
  rcases Int.lt_trichotomy a b with h | h | h
  · go_enter Tryd.func60, Tryd.ntmps60
    go_wp2_with (go_at_call 90; refine (isNaNI64_any _ _).mono ?_; rintro e w1 ⟨rfl, rfl⟩)
    go_ret
    exact ⟨ret_int (cmpI_lt h).symm, rfl⟩
  · subst h
    go_enter Tryd.func60, Tryd.ntmps60
    go_wp2_with (go_at_call 90; refine (isNaNI64_any _ _).mono ?_; rintro e w1 ⟨rfl, rfl⟩)
    go_ret
    exact ⟨ret_int (cmpI_eq a).symm, rfl⟩
  · have h' : ¬ a < b := by omega
    go_enter Tryd.func60, Tryd.ntmps60
    go_wp2_with (go_at_call 90; refine (isNaNI64_any _ _).mono ?_; rintro e w1 ⟨rfl, rfl⟩)
    go_ret
    exact ⟨ret_int (cmpI_gt h).symm, rfl⟩

/-- How floats compare; with a NaN there is no answer. -/
def fOk (a b : Int) : Bool := decide (fC a ≠ 4) && decide (fC b ≠ 4)
def fCmp (a b : Int) : Int := if fOk a b then cmpI (fK a) (fK b) else 0
theorem fOk_no1 {a b : Int} (h : fC a = 4) : fOk a b = false ∧ fCmp a b = 0 := by simp [fCmp, fOk, h]
theorem fOk_no2 {a b : Int} (h : fC b = 4) : fOk a b = false ∧ fCmp a b = 0 := by simp [fCmp, fOk, h]
theorem fOk_yes {a b : Int} (h1 : fC a ≠ 4) (h2 : fC b ≠ 4) : fOk a b = true ∧ fCmp a b = cmpI (fK a) (fK b) := by simp [fCmp, fOk, h1, h2]
theorem fCmp_bd (a b : Int) : -1 ≤ fCmp a b ∧ fCmp a b ≤ 1 := by
  have := cmpI_bd (fK a) (fK b)
  unfold fCmp
  split <;> omega
theorem ret_ib {k : IntKind} {a c : Int} {b d : Bool} (h1 : b = d) (h2 : a = c) : Ending.returned (.tuple #[.int k a, .bool b]) = .returned (.tuple #[.int k c, .bool d]) := by rw [h1, h2]
set_option maxHeartbeats 1000000 in
theorem cmp_any (a b : Int) (ha : Word a) (hb : Word b) (w : World) : Calls Tryd.prog 24 #[.int .u64 a, .int .u64 b] w fun e w' => e = .returned (.tuple #[.int .i64 (fCmp a b), .bool (fOk a b)]) ∧ w = w' := by
  by_cases h1 : fC a = 4
  · have HC := Lib.hid (fOk_no1 (b := b) h1)
    have HD := decide_eq_true h1
    go_enter Tryd.func24, Tryd.ntmps24
    go_wp2_with (go_at_call 56; refine (isNaN_any a ha _).mono ?_; rw [HD]; rintro e w1 ⟨rfl, rfl⟩)
    go_ret2
    exact ⟨ret_ib HC.out.1.symm HC.out.2.symm, rfl⟩
  · have HD := decide_eq_false h1
    by_cases h2 : fC b = 4
    · have HC := Lib.hid (fOk_no2 (a := a) h2)
      have HE := decide_eq_true h2
      go_enter Tryd.func24, Tryd.ntmps24
      go_wp2_with fail
      refine (isNaN_any a ha _).mono ?_
      rw [HD]
      rintro e w1 ⟨rfl, rfl⟩
      go_wp2_with fail
      refine (isNaN_any b hb _).mono ?_
      rw [HE]
      rintro e w1 ⟨rfl, rfl⟩
      go_wp2_with fail
      go_ret2
      exact ⟨ret_ib HC.out.1.symm HC.out.2.symm, rfl⟩
    · have HC := Lib.hid (fOk_yes h1 h2)
      have HE := decide_eq_false h2
      go_enter Tryd.func24, Tryd.ntmps24
      go_wp2_with fail
      refine (isNaN_any a ha _).mono ?_
      rw [HD]
      rintro e w1 ⟨rfl, rfl⟩
      go_wp2_with fail
      refine (isNaN_any b hb _).mono ?_
      rw [HE]
      rintro e w1 ⟨rfl, rfl⟩
      go_wp2_with fail
      refine (rank_any a ha _).mono ?_
      rintro e w1 ⟨rfl, rfl⟩
      go_wp2_with fail
      refine (rank_any b hb _).mono ?_
      rintro e w1 ⟨rfl, rfl⟩
      go_wp2_with fail
      refine (cmpI64_any _ _ _).mono ?_
      rintro e w1 ⟨rfl, rfl⟩
      go_wp2_with fail
      go_ret2
      exact ⟨ret_ib HC.out.1.symm HC.out.2.symm, rfl⟩
def fLt (a b : Int) : Bool := fOk a b && decide (fCmp a b < 0)
set_option maxHeartbeats 1000000 in
theorem less_any (a b : Int) (ha : Word a) (hb : Word b) (w : World) : Calls Tryd.prog 25 #[.int .u64 a, .int .u64 b] w fun e w' => e = .returned (.bool (fLt a b)) ∧ w = w' := by
  have HL : Hid (fLt a b = (fOk a b && decide (fCmp a b < 0))) := rfl
  cases h : fOk a b
  · go_enter Tryd.func25, Tryd.ntmps25
    go_wp2_with fail
    refine (cmp_any a b ha hb _).mono ?_
    rw [h]
    rintro e w1 ⟨rfl, rfl⟩
    go_wp2_with fail
    go_ret
    exact ⟨ret_bool (by rw [HL.out, h]; rfl), rfl⟩
  · go_enter Tryd.func25, Tryd.ntmps25
    go_wp2_with fail
    refine (cmp_any a b ha hb _).mono ?_
    rw [h]
    rintro e w1 ⟨rfl, rfl⟩
    go_wp2_with fail
    go_ret
    exact ⟨ret_bool (by rw [HL.out, h]; rfl), rfl⟩
end Go.Proofs.YtdjhpplcdkgfgaaDoor
