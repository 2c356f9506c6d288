/-
  The walk of RoundRises: whatever is handed in, the law answers true. Condition: the table of math/bits stands in its variable.
-/
import Derived.Test.YtdjhpplcdkgfgaaDoorQin5
import Derived.Test.YtdjhpplcdkgfgaaDoorMath5
namespace Go.Proofs.YtdjhpplcdkgfgaaDoor
open Go.RowKit
set_option maxRecDepth 100000

set_option maxHeartbeats 4000000 in
theorem lrises_long (s : Bool) (A E : Option Addr) (n c m d : Nat) (s' : Bool) (A' E' : Option Addr) (n' c' m' d' : Nat) (md : Int) (w : World) (hT : TabOk w) (b1 b2 b3 b4 : Bool)
    (z1 : decide ((6 : Int) < (n : Int)) = b1) (z2 : decide ((6 : Int) < (m : Int)) = b2) (z3 : decide ((6 : Int) < (n' : Int)) = b3) (z4 : decide ((6 : Int) < (m' : Int)) = b4) (h : (b1 || b2 || b3 || b4) = true) :
    Calls Tryd.prog 7 #[.agg #[.bool s, .slice A n c, .slice E m d], .agg #[.bool s', .slice A' n' c', .slice E' m' d'], .int .u8 md] w fun x w' => x = .returned (.bool true) ∧ Below w.heap.size w w' := by
  have H : b1 = true ∨ (b1 = false ∧ b2 = true) ∨ (b1 = false ∧ b2 = false ∧ b3 = true) ∨ (b1 = false ∧ b2 = false ∧ b3 = false ∧ b4 = true) := by
    revert h
    cases b1 <;> cases b2 <;> cases b3 <;> cases b4 <;> decide
  clear h
  rcases H with h1 | ⟨h1, h2⟩ | ⟨h1, h2, h3⟩ | ⟨h1, h2, h3, h4⟩
  all_goals
    rw [h1] at z1
    try rw [h2] at z2
    try rw [h3] at z3
    try rw [h4] at z4
    go_enter Tryd.func7, Tryd.ntmps7
    go_wp2_with fail
    refine (works5 _ (hT.below (bel_2 _ _ _))).mono ?_
    rintro x w1 ⟨rfl, hb1⟩
    have K1 := Blk.in21 hb1
    have K2 := Blk.in22 hb1
    have HB1 := Lib.hid (bel_trans (bel_2 _ _ _) hb1)
    clear hb1
    obtain ⟨c0, c1, c2, -, -, -⟩ := K1.three
    obtain ⟨d0, d1, d2, -, -, -⟩ := K2.three
    go_wp2_with fail
    go_ret
    exact ⟨rfl, HB1.out⟩

/-- What the law asks of the answers. -/
theorem rises_ask (md : Int) (a b : Rat) : fOk (dF md a) (dF md b) = true ∧ (cmpR a b ≤ 0 → fCmp (dF md a) (dF md b) ≤ 0) ∧ (0 ≤ cmpR a b → 0 ≤ fCmp (dF md a) (dF md b)) ∧ fLt (dF 0 a) (dF 2 a) = false ∧ fLt (dF 1 a) (dF 0 a) = false := by
  obtain ⟨y1, y2⟩ := fOk_yes (dF_class md a) (dF_class md b)
  obtain ⟨m1, m2⟩ := dF_modes a
  refine ⟨y1, fun h => ?_, fun h => ?_, ?_, ?_⟩
  · have hl : a ≤ b := by
      rcases cmp_cases a b with e | e | e
      · exact Rat.le_of_lt (cmp_lt.1 e)
      · rw [cmp_eq.1 e]; exact Rat.le_refl
      · omega
    have := dF_rises md hl
    rw [y2]
    unfold cmpI
    (repeat' split) <;> omega
  · have hl : b ≤ a := by
      rcases cmp_cases a b with e | e | e
      · omega
      · rw [cmp_eq.1 e]; exact Rat.le_refl
      · exact Rat.le_of_lt (cmp_gt.1 e)
    have := dF_rises md hl
    rw [y2]
    unfold cmpI
    (repeat' split) <;> omega
  · obtain ⟨o1, o2⟩ := fOk_yes (dF_class 0 a) (dF_class 2 a)
    unfold fLt
    rw [o1, o2, Bool.true_and, decide_eq_false_iff_not]
    unfold cmpI
    (repeat' split) <;> omega
  · obtain ⟨o1, o2⟩ := fOk_yes (dF_class 1 a) (dF_class 0 a)
    unfold fLt
    rw [o1, o2, Bool.true_and, decide_eq_false_iff_not]
    unfold cmpI
    (repeat' split) <;> omega

set_option maxHeartbeats 8000000 in
theorem lrises_short (s : Bool) (A E : Option Addr) (n c m d : Nat) (s' : Bool) (A' E' : Option Addr) (n' c' m' d' : Nat) (md : Int) (w : World) (a b : Rat) (ha : RV w (.bool s) (.slice A n c) (.slice E m d) 6 a) (hb : RV w (.bool s') (.slice A' n' c') (.slice E' m' d') 6 b) (hT : TabOk w)
    (z1 : decide ((6 : Int) < (n : Int)) = false) (z2 : decide ((6 : Int) < (m : Int)) = false) (z3 : decide ((6 : Int) < (n' : Int)) = false) (z4 : decide ((6 : Int) < (m' : Int)) = false) :
    Calls Tryd.prog 7 #[.agg #[.bool s, .slice A n c, .slice E m d], .agg #[.bool s', .slice A' n' c', .slice E' m' d'], .int .u8 md] w fun x w' => x = .returned (.bool true) ∧ Below w.heap.size w w' := by
  obtain ⟨o1, o2, o3, o4, o5⟩ := rises_ask md a b
  have CM := fun w => cmp_any (dF md a) (dF md b) (dF_word md a) (dF_word md b) w
  rw [o1] at CM
  have L1 := fun w => less_any (dF 0 a) (dF 2 a) (dF_word 0 a) (dF_word 2 a) w
  rw [o4] at L1
  have L2 := fun w => less_any (dF 1 a) (dF 0 a) (dF_word 1 a) (dF_word 0 a) w
  rw [o5] at L2
  have X1 := Lib.hid fun (w : World) (h : RV w (.bool s) (.slice A n c) (.slice E m d) 6 a) (k : Int) => exact_f h k (by decide)
  have X2 := Lib.hid fun (w : World) (h : RV w (.bool s') (.slice A' n' c') (.slice E' m' d') 6 b) (k : Int) => exact_f h k (by decide)
  have HC : Hid (∀ (w : World) (h : RV w (.bool s) (.slice A n c) (.slice E m d) 6 a) (k : RV w (.bool s') (.slice A' n' c') (.slice E' m' d') 6 b), Calls Tryd.prog 18 #[.agg #[.bool s, .slice A n c, .slice E m d], .agg #[.bool s', .slice A' n' c', .slice E' m' d']] w fun e w' => e = .returned (.int .i64 (cmpR a b)) ∧ Below w.heap.size w w') := fun w h k => qcmp_any h k (by decide) (by decide)
  have CM' := Lib.hid CM
  have L1' := Lib.hid L1
  have L2' := Lib.hid L2
  have kb := fCmp_bd (dF md a) (dF md b)
  have cb := cmp_bd a b
  clear CM L1 L2 o1 o4 o5
  generalize fCmp (dF md a) (dF md b) = k at *
  generalize cmpR a b = q at *
  have O : (q = -1 ∧ decide (k ≤ 0) = true) ∨ (q = 0 ∧ k = 0) ∨ (q = 1 ∧ decide (0 ≤ k) = true) := by
    rcases (show q = -1 ∨ q = 0 ∨ q = 1 by omega) with h | h | h
    · exact .inl ⟨h, decide_eq_true (o2 (by omega))⟩
    · exact .inr (.inl ⟨h, by have := o2 (by omega); have := o3 (by omega); omega⟩)
    · exact .inr (.inr ⟨h, decide_eq_true (o3 (by omega))⟩)
  clear o2 o3 kb cb
  go_enter Tryd.func7, Tryd.ntmps7
  go_wp2_with fail
  refine (works5 _ (hT.below (bel_2 _ _ _))).mono ?_
  rintro x w1 ⟨rfl, hb1⟩
  have K1 := Blk.in21 hb1
  have J1 := Blk.in22 hb1
  have B1 := bel_trans (bel_2 _ _ _) hb1
  have a1 := ha.below B1
  have e1 := hb.below B1
  have HB1 := Lib.hid B1
  clear hb1 B1 ha hb
  obtain ⟨c0, c1, c2, -, -, -⟩ := K1.three
  obtain ⟨d0, d1, d2, -, -, -⟩ := J1.three
  go_wp2_with fail
  refine (X1.out _ a1 md).mono ?_
  rintro x w2 ⟨rfl, h2⟩
  have K2 := K1.below h2 K1.lt
  have J2 := J1.below h2 J1.lt
  have a2 := a1.below h2
  have e2 := e1.below h2
  have HB2 := Lib.hid (bel_trans HB1.out h2)
  clear c0 c1 c2 d0 d1 d2 K1 J1 a1 e1 HB1 h2
  obtain ⟨d0, d1, d2, -, -, -⟩ := J2.three
  go_wp2_with fail
  refine (X2.out _ e2 md).mono ?_
  rintro x w3 ⟨rfl, h3⟩
  have K3 := K2.below h3 K2.lt
  have J3 := J2.below h3 J2.lt
  have a3 := a2.below h3
  have e3 := e2.below h3
  have HB3 := Lib.hid (bel_trans HB2.out h3)
  clear d0 d1 d2 K2 J2 a2 e2 HB2 h3
  obtain ⟨c0, c1, c2, -, -, -⟩ := K3.three
  go_wp2_with fail
  refine (X1.out _ a3 2).mono ?_
  rintro x w4 ⟨rfl, h4⟩
  have K4 := K3.below h4 K3.lt
  have J4 := J3.below h4 J3.lt
  have a4 := a3.below h4
  have e4 := e3.below h4
  have HB4 := Lib.hid (bel_trans HB3.out h4)
  clear c0 c1 c2 K3 J3 a3 e3 HB3 h4
  obtain ⟨c0, c1, c2, -, -, -⟩ := K4.three
  go_wp2_with fail
  refine (X1.out _ a4 0).mono ?_
  rintro x w5 ⟨rfl, h5⟩
  have K5 := K4.below h5 K4.lt
  have J5 := J4.below h5 J4.lt
  have a5 := a4.below h5
  have e5 := e4.below h5
  have HB5 := Lib.hid (bel_trans HB4.out h5)
  clear c0 c1 c2 K4 J4 a4 e4 HB4 h5
  obtain ⟨c0, c1, c2, -, -, -⟩ := K5.three
  go_wp2_with fail
  refine (X1.out _ a5 1).mono ?_
  rintro x w6 ⟨rfl, h6⟩
  have K6 := K5.below h6 K5.lt
  have J6 := J5.below h6 J5.lt
  have a6 := a5.below h6
  have e6 := e5.below h6
  have HB6 := Lib.hid (bel_trans HB5.out h6)
  clear c0 c1 c2 K5 J5 a5 e5 HB5 h6
  obtain ⟨c0, c1, c2, -, -, -⟩ := K6.three
  obtain ⟨d0, d1, d2, -, -, -⟩ := J6.three
  go_wp2_with fail
  refine (HC.out _ a6 e6).mono ?_
  rintro x w7 ⟨rfl, h7⟩
  have HB7 := Lib.hid (bel_trans HB6.out h7)
  clear c0 c1 c2 d0 d1 d2 K6 J6 a6 e6 HB6 h7
  go_wp2_with fail
  refine (CM'.out _).mono ?_
  rintro x w8 ⟨rfl, rfl⟩
  rcases O with ⟨rfl, h1⟩ | ⟨rfl, rfl⟩ | ⟨rfl, h1⟩
  all_goals
    go_wp2_with fail
    refine (L1'.out _).mono ?_
    rintro x w8 ⟨rfl, rfl⟩
    go_wp2_with fail
    refine (L2'.out _).mono ?_
    rintro x w8 ⟨rfl, rfl⟩
    go_wp2_with fail
    go_ret
    exact ⟨rfl, HB7.out⟩
theorem lrises_walk (s : Bool) (A E : Option Addr) (n c m d : Nat) (s' : Bool) (A' E' : Option Addr) (n' c' m' d' : Nat) (md : Int) (w : World) (ha : NatIn w A n c) (hb : NatIn w E m d) (ha' : NatIn w A' n' c') (hb' : NatIn w E' m' d') (hT : TabOk w) :
    Calls Tryd.prog 7 #[.agg #[.bool s, .slice A n c, .slice E m d], .agg #[.bool s', .slice A' n' c', .slice E' m' d'], .int .u8 md] w fun x w' => x = .returned (.bool true) ∧ Below w.heap.size w w' := by
  by_cases h : n ≤ 6 ∧ m ≤ 6 ∧ n' ≤ 6 ∧ m' ≤ 6
  · obtain ⟨a, ra⟩ := in_rv s ha hb h.1 h.2.1
    obtain ⟨b, rb⟩ := in_rv s' ha' hb' h.2.2.1 h.2.2.2
    exact lrises_short s A E n c m d s' A' E' n' c' m' d' md w a b ra rb hT (by simp; omega) (by simp; omega) (by simp; omega) (by simp; omega)
  · exact lrises_long s A E n c m d s' A' E' n' c' m' d' md w hT _ _ _ _ rfl rfl rfl rfl (by simp only [Bool.or_eq_true, decide_eq_true_eq]; omega)
end Go.Proofs.YtdjhpplcdkgfgaaDoor
