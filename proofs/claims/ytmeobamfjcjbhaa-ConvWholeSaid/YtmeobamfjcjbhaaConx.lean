/-
  The contract of the reference's Whole. Conditions: the float is a word.
-/
import Derived.Test.YtmeobamfjcjbhaaConw
namespace Go.Proofs.Ytmeobamfjcjbhaa
open Go.RowKit
set_option maxRecDepth 100000

theorem odd_bit {xs : List Bool} {T : Int} (h : val xs = T) : xs.getD 0 false = decide (T % 2 = 1) := by
  have e := val_tail xs
  rw [h] at e
  generalize val xs.tail = t at *
  cases k : xs.getD 0 false
  · rw [k] at e
    simp at e
    rw [decide_eq_false]
    omega
  · rw [k] at e
    simp at e
    rw [decide_eq_true]
    omega
/-- What the reference asks in the mode Near. -/
def nrW (T R D : Int) : Bool := decide (D < 2 * R) || (decide (2 * R = D) && decide (T % 2 = 1))
theorem awH_1 (s : Bool) (T R D : Int) : awH 1 s T R D = (!s && !decide (R = 0)) := by simp [awH]
theorem awH_2 (s : Bool) (T R D : Int) : awH 2 s T R D = (s && !decide (R = 0)) := by simp [awH]
theorem awH_0 {md : Int} (h1 : ¬ md = 1) (h2 : ¬ md = 2) (s : Bool) (T R D : Int) : awH md s T R D = nrW T R D := by simp [awH, nrW, h1, h2]
theorem row_true (W : World) : RowV (W.alloc (.cells #[.bool true] 4)) (.slice (some ⟨W.heap.size, 0, none⟩) 1 1) 1 1 := ⟨_, 1, 1, [true], rfl, rfl, Nat.le_refl _, row_one W, by decide, by omega⟩

theorem near_cmp7 (T R D : Int) : nrW T R D = (decide (0 < cmpI (2 * R) D) || (cmpI (2 * R) D == 0 && decide (T % 2 = 1))) := by
  unfold nrW
  rw [cmp_zero]
  congr 1
  unfold cmpI
  by_cases h1 : 2 * R < D
  · rw [if_pos h1, decide_eq_false (by omega)]; rfl
  · rw [if_neg h1]
    by_cases h2 : D < 2 * R
    · rw [if_pos h2, decide_eq_true h2]; rfl
    · rw [if_neg h2, decide_eq_false h2]; rfl
theorem cmpI_three (a b : Int) : cmpI a b = -1 ∨ cmpI a b = 0 ∨ cmpI a b = 1 := by
  unfold cmpI
  split
  · exact .inl rfl
  · split
    · exact .inr (.inr rfl)
    · exact .inr (.inl rfl)
/-- The flags that nobody looks at. -/
def jG (s : Bool) (p : Int) : Int := rG 0 s (2 * (p * dD)) false
theorem jround_any {w : World} {x : Value} {p : Int} {L : Nat} (h : RowV w x p L) (hL : L ≤ 65536) (hp : 0 ≤ p) (s : Bool) : Calls Try.prog 16 #[.bool s, x, .int .i64 0, .bool false, .int .u8 0] w (RetF (iF s p) (jG s p) w) := hround_int h hL hp s 0

set_option maxHeartbeats 16000000 in
theorem jwhole_any (f md : Int) (hf : Word f) (w : World) : Calls Try.prog 14 #[.int .u64 f, .int .u8 md] w (RetF (whF md f) (whG f) w) := by
  have CF := Lib.hid (gclass_any f hf)
  have cb := cls_bd f
  by_cases h4 : fC f = 4
  · have e1 : whF md f = 9221120237041090560 := by unfold whF; rw [if_pos h4]
    have e2 : whG f = 0 := by unfold whG; rw [if_pos (by omega)]
    rw [e1, e2]
    rw [h4] at CF
    clear e1 e2 cb h4
    go_enter Try.func14, Try.ntmps14
    go_wp2_with fail
    refine (CF.out _).mono ?_
    rintro e w1 ⟨rfl, rfl⟩
    go_wp2_with fail
    go_ret2
    exact ⟨rfl, Below.refl _ _⟩
  by_cases h3 : fC f = 3
  · have e1 : whF md f = f := by unfold whF; rw [if_neg h4, if_pos h3]
    have e2 : whG f = 0 := by unfold whG; rw [if_pos (by omega)]
    rw [e1, e2]
    rw [h3] at CF
    clear e1 e2 cb h4 h3
    go_enter Try.func14, Try.ntmps14
    go_wp2_with fail
    refine (CF.out _).mono ?_
    rintro e w1 ⟨rfl, rfl⟩
    go_wp2_with fail
    go_ret2
    exact ⟨rfl, Below.refl _ _⟩
  have hc : fC f < 3 := by omega
  have HF : Hid (whF md f = iF (fS f) (vT f + b2i (awH md (fS f) (vT f) (vR f) dD))) := by show _ = _; unfold whF vW; rw [if_neg h4, if_neg h3]
  have HG : Hid (whG f = if decide (vR f = 0) then 0 else 1) := by show _ = _; unfold whG; rw [if_neg (by omega)]; simp
  have t4 : (fC f == 4) = false := by simp [h4]
  have t3 : (fC f == 3) = false := by simp [h3]
  have PF := jparts_any f hf hc
  unfold RetParts at PF
  have PF := Lib.hid PF
  have TB := topb7 hf
  have t0 := vT_nn f
  have RI := Lib.hid (fun (W : World) (v : Value) (p : Int) (L : Nat) (h : RowV W v p L) (hL : L ≤ 65536) (hp : 0 ≤ p) => jround_any h hL hp (fS f))
  have H1 : Hid (md = 1 → awH md (fS f) (vT f) (vR f) dD = (!fS f && !decide (vR f = 0))) := fun h => by rw [h]; exact awH_1 _ _ _ _
  have H2 : Hid (md = 2 → awH md (fS f) (vT f) (vR f) dD = (fS f && !decide (vR f = 0))) := fun h => by rw [h]; exact awH_2 _ _ _ _
  have H0 := Lib.hid (fun h1 h2 => awH_0 (md := md) h1 h2 (fS f) (vT f) (vR f) dD)
  have HN : Hid (nrW (vT f) (vR f) dD = (decide (0 < cmpI (2 * vR f) dD) || (cmpI (2 * vR f) dD == 0 && decide (vT f % 2 = 1)))) := near_cmp7 _ _ _
  have HK := Lib.hid (cmpI_three (2 * vR f) dD)
  generalize cmpI (2 * vR f) dD = cc at *
  generalize whF md f = Fo at *
  generalize whG f = Gout at *
  generalize nrW (vT f) (vR f) dD = nr at *
  generalize awH md (fS f) (vT f) (vR f) dD = U at *
  generalize decide (vR f = 0) = ex at *
  generalize hod : decide (vT f % 2 = 1) = od at *
  have HOD := Lib.hid (fun xs h => (odd_bit (xs := xs) (T := vT f) h).trans hod)
  clear hod
  generalize vT f = T at *
  generalize fS f = s at *
  generalize fC f = C at *
  go_enter Try.func14, Try.ntmps14
  go_wp2_with fail
  refine (CF.out _).mono ?_
  rintro e w1 ⟨rfl, rfl⟩
  go_wp2_with fail
  refine (PF.out _).mono ?_
  rintro e w2 ⟨v, rv, rfl, hb⟩
  have HB := Lib.hid hb
  clear hb
  obtain ⟨A, k, d, xs, rfl, hk, hd, hr, hv, hl⟩ := rv
  have hod := HOD.out xs hv
  have RV : RowV w2 (.slice A k d) T 2200 := ⟨A, k, d, xs, rfl, hk, hd, hr, hv, hl⟩
  clear HOD
  go_upto_region 8 with fail
  go_cut [11] (fun s11 wx => s11 = .bool od ∧ w2 = wx)
  case first =>
    rcases Nat.eq_zero_or_pos k with hk0 | hk0
    · have hxs : xs = [] := List.eq_nil_of_length_eq_zero (by omega)
      subst hxs
      have hod2 : od = false := hod.symm
      subst hod2
      subst hk0
      clear hr RV
      go_wp2_with fail
      go_meet
      exact ⟨rfl, rfl⟩
    · obtain ⟨g, off, rfl, hg, hcell⟩ := hr.at_ (i := 0) (by omega)
      rw [hod, Nat.add_zero] at hcell
      have hk1 : (0 : Int) < (k : Int) := by omega
      clear RV
      go_wp2_with fail
      go_meet
      exact ⟨rfl, rfl⟩
  case rest =>
    obtain ⟨rfl, rfl⟩ := hcut
    clear hr hod
    go_upto_region 9 with fail
    go_cut [12] (fun s12 wx => s12 = .bool nr ∧ w2 = wx)
    case first =>
      have hn := HN.out
      rcases HK.out with rfl | rfl | rfl
      · have : nr = false := by rw [hn]; rfl
        subst this
        clear hn
        go_wp2_with fail
        go_meet
        exact ⟨rfl, rfl⟩
      · have : nr = od := by rw [hn]; simp
        subst this
        clear hn
        go_wp2_with fail
        go_meet
        exact ⟨rfl, rfl⟩
      · have : nr = true := by rw [hn]; rfl
        subst this
        clear hn
        go_wp2_with fail
        go_meet
        exact ⟨rfl, rfl⟩
    case rest =>
      obtain ⟨rfl, rfl⟩ := hcut
      have AD := Lib.hid (raddV (RV.below (bel_alloc (Below.refl w2.heap.size w2) (.cells #[.bool true] 4))) (row_true w2) (by decide) (by decide))
      have RV' := Lib.hid RV
      clear HN HK RV hv hf CF PF TB
      cases ex <;> cases s
      all_goals
        by_cases m1 : md = 1
        · have hU := H1.out m1
          subst m1
          clear H0 H1 H2
          cases U
          · first
            | (exfalso; revert hU; decide)
            | (clear hU
               go_wp2_with fail
               refine (RI.out _ _ _ _ RV'.out (by decide) t0).mono ?_
               rintro e w4 ⟨rfl, hb4⟩
               go_wp2_with fail
               go_ret2
               exact ⟨ret_two ((HF.out.trans (by rw [show b2i false = 0 from rfl, Int.add_zero])).symm) HG.out.symm, bel_trans HB.out hb4⟩)
          · first
            | (exfalso; revert hU; decide)
            | (clear hU
               go_wp2_with fail
               refine AD.out.mono ?_
               rintro e w3 ⟨v3, r3, rfl, hb3⟩
               have HB3 := Lib.hid (bel_trans (bel_alloc HB.out _) hb3)
               obtain ⟨A3, n3, c3, rfl⟩ := r3.form
               go_wp2_with fail
               refine (RI.out _ _ _ _ r3 (by decide) (by omega)).mono ?_
               rintro e w4 ⟨rfl, hb4⟩
               go_wp2_with fail
               go_ret2
               exact ⟨ret_two HF.out.symm HG.out.symm, bel_trans HB3.out hb4⟩)
        · by_cases m2 : md = 2
          · have hU := H2.out m2
            subst m2
            clear H0 H1 H2
            cases U
            · first
              | (exfalso; revert hU; decide)
              | (clear hU
                 go_wp2_with fail
                 refine (RI.out _ _ _ _ RV'.out (by decide) t0).mono ?_
                 rintro e w4 ⟨rfl, hb4⟩
                 go_wp2_with fail
                 go_ret2
                 exact ⟨ret_two ((HF.out.trans (by rw [show b2i false = 0 from rfl, Int.add_zero])).symm) HG.out.symm, bel_trans HB.out hb4⟩)
            · first
              | (exfalso; revert hU; decide)
              | (clear hU
                 go_wp2_with fail
                 refine AD.out.mono ?_
                 rintro e w3 ⟨v3, r3, rfl, hb3⟩
                 have HB3 := Lib.hid (bel_trans (bel_alloc HB.out _) hb3)
                 obtain ⟨A3, n3, c3, rfl⟩ := r3.form
                 go_wp2_with fail
                 refine (RI.out _ _ _ _ r3 (by decide) (by omega)).mono ?_
                 rintro e w4 ⟨rfl, hb4⟩
                 go_wp2_with fail
                 go_ret2
                 exact ⟨ret_two HF.out.symm HG.out.symm, bel_trans HB3.out hb4⟩)
          · have hU := H0.out m1 m2
            have f1 : (md == 1) = false := by simp [m1]
            have f2 : (md == 2) = false := by simp [m2]
            clear H0 H1 H2
            subst hU
            cases U
            · skip
              go_wp2_with fail
              refine (RI.out _ _ _ _ RV'.out (by decide) t0).mono ?_
              rintro e w4 ⟨rfl, hb4⟩
              go_wp2_with fail
              go_ret2
              exact ⟨ret_two ((HF.out.trans (by rw [show b2i false = 0 from rfl, Int.add_zero])).symm) HG.out.symm, bel_trans HB.out hb4⟩
            · skip
              go_wp2_with fail
              refine AD.out.mono ?_
              rintro e w3 ⟨v3, r3, rfl, hb3⟩
              have HB3 := Lib.hid (bel_trans (bel_alloc HB.out _) hb3)
              obtain ⟨A3, n3, c3, rfl⟩ := r3.form
              go_wp2_with fail
              refine (RI.out _ _ _ _ r3 (by decide) (by omega)).mono ?_
              rintro e w4 ⟨rfl, hb4⟩
              go_wp2_with fail
              go_ret2
              exact ⟨ret_two HF.out.symm HG.out.symm, bel_trans HB3.out hb4⟩
end Go.Proofs.Ytmeobamfjcjbhaa
