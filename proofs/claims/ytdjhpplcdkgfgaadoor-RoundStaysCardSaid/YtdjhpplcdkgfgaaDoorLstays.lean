/-
  The walks of RoundStays, RoundRises and RoundUlps: whatever is handed in, the laws answer true. Condition: the table of math/bits stands in its variable.
-/
import Derived.Test.YtdjhpplcdkgfgaaDoorQin5
import Derived.Test.YtdjhpplcdkgfgaaDoorMath5
namespace Go.Proofs.YtdjhpplcdkgfgaaDoor
open Go.RowKit
set_option maxRecDepth 100000

theorem fin_X {f : Int} (h : fC f < 3) : (fX f = 0 ↔ fC f = 0) ∧ (fC f ≠ 0 → -1074 ≤ fY f ∧ fY f ≤ 971) := by
  have eb := exp_bd (f := f)
  have mb := frac_bd (f := f)
  unfold fX fY fC at *
  constructor
  · (repeat' split) <;> (repeat' split at h) <;> omega
  · intro h2
    (repeat' split) <;> (repeat' split at h) <;> (repeat' split at h2) <;> omega

set_option maxHeartbeats 4000000 in
theorem lulps_bad (f : Int) (w : World) (hf : Word f) (hT : TabOk w) (hc : ¬ fC f < 3) :
    Calls Tryd.prog 8 #[.int .u64 f] w fun e w' => e = .returned (.bool true) ∧ Below w.heap.size w w' := by
  have U := fun w => ulp_any f hf w
  simp only [if_neg hc] at U
  have F := fun w => gfinite_any f hf w
  simp only [decide_eq_false hc] at F
  clear hc
  go_enter Tryd.func8, Tryd.ntmps8
  go_wp2_with fail
  refine (works5 w hT).mono ?_
  rintro e w1 ⟨rfl, hb1⟩
  have HB1 := Lib.hid hb1
  clear hb1
  go_wp2_with fail
  refine (U _).mono ?_
  rintro e w2 ⟨rfl, hb2⟩
  have HB2 := Lib.hid (bel_trans HB1.out hb2)
  clear hb2 HB1
  go_wp2_with fail
  refine (F _).mono ?_
  rintro e w3 ⟨rfl, rfl⟩
  go_wp2_with fail
  refine (quiet_f _).mono ?_
  rintro e w3 ⟨rfl, rfl⟩
  go_wp2_with fail
  go_ret
  exact ⟨rfl, HB2.out⟩
set_option maxHeartbeats 4000000 in
theorem lulps_zero (f : Int) (w : World) (hf : Word f) (hT : TabOk w) (hc : fC f = 0) :
    Calls Tryd.prog 8 #[.int .u64 f] w fun e w' => e = .returned (.bool true) ∧ Below w.heap.size w w' := by
  have hc3 : fC f < 3 := by omega
  have U := fun w => ulp_any f hf w
  have hu : uE f = -1074 := by unfold uE; rw [if_pos hc]
  simp only [if_pos hc3, hu, show p2F (-1074) = 1 by decide +kernel] at U
  have F := fun w => gfinite_any f hf w
  simp only [decide_eq_true hc3] at F
  have S := fun w => gsplit_any f hf w
  simp only [(fin_X hc3).1.2 hc] at S
  clear hc hc3 hu
  go_enter Tryd.func8, Tryd.ntmps8
  go_wp2_with fail
  refine (works5 w hT).mono ?_
  rintro e w1 ⟨rfl, hb1⟩
  have HB1 := Lib.hid hb1
  clear hb1
  go_wp2_with fail
  refine (U _).mono ?_
  rintro e w2 ⟨rfl, hb2⟩
  have HB2 := Lib.hid (bel_trans HB1.out hb2)
  clear hb2 HB1
  go_wp2_with fail
  refine (F _).mono ?_
  rintro e w3 ⟨rfl, rfl⟩
  go_wp2_with fail
  refine (S _).mono ?_
  rintro e w3 ⟨rfl, rfl⟩
  go_wp2_with fail
  go_ret
  exact ⟨rfl, HB2.out⟩
set_option maxHeartbeats 4000000 in
theorem lulps_good (f : Int) (w : World) (hf : Word f) (hT : TabOk w) (hc : fC f < 3) (h0 : fC f ≠ 0) :
    Calls Tryd.prog 8 #[.int .u64 f] w fun e w' => e = .returned (.bool true) ∧ Below w.heap.size w w' := by
  have U := fun w => ulp_any f hf w
  have hu : uE f = fY f := by unfold uE; rw [if_neg h0]
  simp only [if_pos hc, hu] at U
  have F := fun w => gfinite_any f hf w
  simp only [decide_eq_true hc] at F
  have S := fun w => gsplit_any f hf w
  have hx : (fX f == 0) = false := by
    have : fX f ≠ 0 := fun h => h0 ((fin_X hc).1.1 h)
    simp [this]
  obtain ⟨y0, y1⟩ := (fin_X hc).2 h0
  obtain ⟨pw, pc, pv⟩ := p2F_is y0 y1
  clear hc hu h0
  generalize fX f = X at *
  generalize fY f = Y at *
  have V := fun w hT => value_good (p2F Y) pw pc w hT
  rw [pv] at V
  generalize p2F Y = u at *
  go_enter Tryd.func8, Tryd.ntmps8
  go_wp2_with fail
  refine (works5 w hT).mono ?_
  rintro e w1 ⟨rfl, hb1⟩
  have HB1 := Lib.hid hb1
  clear hb1
  go_wp2_with fail
  refine (U _).mono ?_
  rintro e w2 ⟨rfl, hb2⟩
  have HB2 := Lib.hid (bel_trans HB1.out hb2)
  clear hb2 HB1
  go_wp2_with fail
  refine (F _).mono ?_
  rintro e w3 ⟨rfl, rfl⟩
  go_wp2_with fail
  refine (S _).mono ?_
  rintro e w3 ⟨rfl, rfl⟩
  go_wp2_with fail
  refine (V _ (hT.below HB2.out)).mono ?_
  rintro e w3 ⟨x3, y3, z3, r3, rfl, hb3⟩
  obtain ⟨s3, A3, n3, k3, E3, m3, l3, rfl, rfl, rfl⟩ := r3.form
  have b4 := bel_alloc (Below.refl w3.heap.size w3) (.cells #[.bool s3, .slice A3 n3 k3, .slice E3 m3 l3] 39)
  have K4 := Blk.new w3 39 #[.bool s3, .slice A3 n3 k3, .slice E3 m3 l3]
  have r4 := r3.below b4
  have HB4 := Lib.hid (bel_trans (bel_trans HB2.out hb3) b4)
  clear hb3 b4 HB2 r3
  go_wp2_with fail
  refine (qdyad_any false 1 Y ⟨by decide, by decide⟩ ⟨by omega, by omega⟩ _ (hT.below HB4.out)).mono ?_
  rintro e w5 ⟨x5, y5, z5, r5, rfl, hb5⟩
  obtain ⟨s5, A5, n5, k5, E5, m5, l5, rfl, rfl, rfl⟩ := r5.form
  have b6 := bel_alloc (Below.refl w5.heap.size w5) (.cells #[.bool s5, .slice A5 n5 k5, .slice E5 m5 l5] 39)
  have K6 := Blk.new w5 39 #[.bool s5, .slice A5 n5 k5, .slice E5 m5 l5]
  have r6 := r5.below b6
  have K7 := (K4.below hb5 K4.lt).alloc (.cells #[.bool s5, .slice A5 n5 k5, .slice E5 m5 l5] 39)
  have r7 := (r4.below hb5).below b6
  have HB6 := Lib.hid (bel_trans (bel_trans HB4.out hb5) b6)
  clear hb5 b6 HB4 r5 r4 K4
  obtain ⟨c0, c1, c2, -, -, -⟩ := K6.three
  obtain ⟨d0, d1, d2, -, -, -⟩ := K7.three
  go_wp2_with fail
  refine (qcmp_any r7.v r6.v (by decide) (by decide)).mono ?_
  rw [cmp_self]
  rintro e w8 ⟨rfl, hb8⟩
  have HB8 := Lib.hid (bel_trans HB6.out hb8)
  clear c0 c1 c2 d0 d1 d2 K6 K7 r6 r7 hb8 HB6
  go_wp2_with fail
  go_ret
  exact ⟨rfl, HB8.out⟩
theorem lulps_walk (f : Int) (w : World) (hf : Word f) (hT : TabOk w) :
    Calls Tryd.prog 8 #[.int .u64 f] w fun e w' => e = .returned (.bool true) ∧ Below w.heap.size w w' := by
  by_cases hc : fC f < 3
  · by_cases h0 : fC f = 0
    · exact lulps_zero f w hf hT h0
    · exact lulps_good f w hf hT hc h0
  · exact lulps_bad f w hf hT hc

set_option maxHeartbeats 4000000 in
theorem lstays_bad (f md : Int) (w : World) (hf : Word f) (hT : TabOk w) (hc : ¬ fC f < 3) :
    Calls Tryd.prog 6 #[.int .u64 f, .int .u8 md] w fun e w' => e = .returned (.bool true) ∧ Below w.heap.size w w' := by
  go_enter Tryd.func6, Tryd.ntmps6
  go_wp2_with fail
  refine (works5 w hT).mono ?_
  rintro e w1 ⟨rfl, hb1⟩
  have HB1 := Lib.hid hb1
  clear hb1
  go_wp2_with fail
  refine (value_bad f hf (by omega) _).mono ?_
  rintro e w2 ⟨rfl, hb2⟩
  have HB2 := Lib.hid (bel_alloc (bel_trans HB1.out hb2) (.cells #[.bool false, .slice none 0 0, .slice none 0 0] 39))
  clear hb2 HB1
  go_wp2_with fail
  go_ret
  exact ⟨rfl, HB2.out⟩
set_option maxHeartbeats 4000000 in
theorem lstays_good (f md : Int) (w : World) (hf : Word f) (hT : TabOk w) (hc : fC f < 3) :
    Calls Tryd.prog 6 #[.int .u64 f, .int .u8 md] w fun e w' => e = .returned (.bool true) ∧ Below w.heap.size w w' := by
  obtain ⟨s1, s2, s3⟩ := dF_stays hf hc md
  have hv := fun w hT => value_good f hf hc w hT
  obtain ⟨y1, y2⟩ := fOk_yes (dF_class md (fV f)) (show fC f ≠ 4 by omega)
  have y3 : cmpI (fK (dF md (fV f))) (fK f) = 0 := by rw [s2]; simp [cmpI]
  rw [y3] at y2
  have hw := dF_word md (fV f)
  have CM := fun w => cmp_any (dF md (fV f)) f hw hf w
  rw [y1, y2] at CM
  have EX := fun (w : World) (x y z : Value) (h : RC w x y z 258 (fV f)) => exact_f h.v md (by decide)
  rw [s1] at EX
  clear s1 s2 hc y1 y2 y3 hw
  generalize fV f = v at *
  generalize dF md v = a at *
  have hcs : sgn v = 0 ∨ ((sgn v == 0) = false ∧ a = f) := by
    by_cases h : v = 0
    · exact .inl (sgn_eq.2 h)
    · right
      refine ⟨?_, s3 h⟩
      have : sgn v ≠ 0 := fun h2 => h (sgn_eq.1 h2)
      simp [this]
  clear s3
  rcases hcs with hz | ⟨hz, rfl⟩
  all_goals
    go_enter Tryd.func6, Tryd.ntmps6
    go_wp2_with fail
    refine (works5 w hT).mono ?_
    rintro e w1 ⟨rfl, hb1⟩
    have HB1 := Lib.hid hb1
    clear hb1
    go_wp2_with fail
    refine (hv _ (hT.below HB1.out)).mono ?_
    rintro e w3 ⟨x3, y3, z3, r3, rfl, hb3⟩
    obtain ⟨s3, A3, n3, k3, E3, m3, l3, rfl, rfl, rfl⟩ := r3.form
    have b4 := bel_alloc (Below.refl w3.heap.size w3) (.cells #[.bool s3, .slice A3 n3 k3, .slice E3 m3 l3] 39)
    have K4 := Blk.new w3 39 #[.bool s3, .slice A3 n3 k3, .slice E3 m3 l3]
    have r4 := r3.below b4
    have HB4 := Lib.hid (bel_trans (bel_trans HB1.out hb3) b4)
    clear hb3 b4 HB1 r3
    go_wp2_with fail
    refine (EX _ _ _ _ r4).mono ?_
    rintro e w5 ⟨rfl, hb5⟩
    have K5 := K4.below hb5 K4.lt
    have r5 := r4.below hb5
    have HB5 := Lib.hid (bel_trans HB4.out hb5)
    clear hb5 HB4 r4 K4
    go_wp2_with fail
    refine (CM _).mono ?_
    rintro e w6 ⟨rfl, rfl⟩
    obtain ⟨c0, c1, c2, -, -, -⟩ := K5.three
    go_wp2_with fail
    refine (sign_any r5.v (by decide)).mono ?_
    rintro e w6 ⟨rfl, hb6⟩
    have HB6 := Lib.hid (bel_trans HB5.out hb6)
    clear c0 c1 c2 K5 r5 hb6 HB5
    go_wp2_with fail
    go_ret
    exact ⟨rfl, HB6.out⟩
theorem lstays_walk (f md : Int) (w : World) (hf : Word f) (hT : TabOk w) :
    Calls Tryd.prog 6 #[.int .u64 f, .int .u8 md] w fun e w' => e = .returned (.bool true) ∧ Below w.heap.size w w' := by
  by_cases hc : fC f < 3
  · exact lstays_good f md w hf hT hc
  · exact lstays_bad f md w hf hT hc
end Go.Proofs.YtdjhpplcdkgfgaaDoor
