/-
  Contracts of layer 4's neighbours and signs, and of the reference's. Conditions: floats are words.
-/
import Derived.Test.YtdjhpplcdkgfgaaDoorPatb
namespace Go.Proofs.YtdjhpplcdkgfgaaDoor
open Go.RowKit
set_option maxRecDepth 100000

def fNg (f : Int) : Int := if fC f = 4 then f else if fS f then f - 9223372036854775808 else f + 9223372036854775808
def fAb (f : Int) : Int := if fC f = 4 then f else f % 9223372036854775808
def fNx (f : Int) : Int := if fC f = 4 ∨ f = 9218868437227405312 then f else if f = 9223372036854775808 then 1 else if fS f then f - 1 else f + 1
def fPv (f : Int) : Int := fNg (fNx (fNg f))
/-- A NaN, by its bits. -/
theorem nan_iff {f : Int} (hf : Word f) : fC f = 4 ↔ 9218868437227405312 < f % 9223372036854775808 := by
  obtain ⟨h0, h1⟩ := hf
  unfold fC fE fM
  split
  · split <;> omega
  · split
    · split <;> omega
    · omega
theorem sgn_iff {f : Int} : fS f = true ↔ 9223372036854775808 ≤ f := by unfold fS; simp
theorem fNg_is {f : Int} (hf : Word f) : (9218868437227405312 < f % 9223372036854775808 → fNg f = f) ∧ (¬ 9218868437227405312 < f % 9223372036854775808 → (9223372036854775808 ≤ f → fNg f = f - 9223372036854775808) ∧ (f < 9223372036854775808 → fNg f = f + 9223372036854775808)) := by
  refine ⟨fun h => if_pos ((nan_iff hf).2 h), fun h => ?_⟩
  have e : fNg f = _ := if_neg (fun k => h ((nan_iff hf).1 k))
  refine ⟨fun k => e.trans (if_pos (sgn_iff.2 k)), fun k => e.trans (if_neg (fun j => ?_))⟩
  have := sgn_iff.1 j
  omega
theorem fNg_word {f : Int} (hf : Word f) : Word (fNg f) := by
  have h := fNg_is hf
  obtain ⟨h0, h1⟩ := hf
  by_cases k : 9218868437227405312 < f % 9223372036854775808
  · rw [h.1 k]; exact ⟨h0, h1⟩
  · by_cases j : 9223372036854775808 ≤ f
    · rw [(h.2 k).1 j]; constructor <;> omega
    · rw [(h.2 k).2 (by omega)]; constructor <;> omega
theorem fNx_is {f : Int} (hf : Word f) : (9218868437227405312 < f % 9223372036854775808 → fNx f = f) ∧ (f = 9218868437227405312 → fNx f = f) ∧ (f = 9223372036854775808 → fNx f = 1) ∧ (9223372036854775808 < f → f ≤ 18442240474082181120 → fNx f = f - 1) ∧ (f < 9218868437227405312 → fNx f = f + 1) := by
  have hn := nan_iff hf
  have hs := sgn_iff (f := f)
  obtain ⟨h0, h1⟩ := hf
  refine ⟨fun h => if_pos (.inl (hn.2 h)), fun h => if_pos (.inr h), fun h => ?_, fun h k => ?_, fun h => ?_⟩
  · have e : fNx f = _ := if_neg (by rw [hn]; omega)
    exact e.trans (if_pos h)
  · have e : fNx f = _ := if_neg (by rw [hn]; omega)
    exact e.trans ((if_neg (by omega)).trans (if_pos (hs.2 (by omega))))
  · have e : fNx f = _ := if_neg (by rw [hn]; omega)
    refine e.trans ((if_neg (by omega)).trans (if_neg (fun j => ?_)))
    have := hs.1 j
    omega
theorem fNx_word {f : Int} (hf : Word f) : Word (fNx f) := by
  have ⟨a, b, c, d, e⟩ := fNx_is hf
  obtain ⟨h0, h1⟩ := hf
  by_cases k : 9218868437227405312 < f % 9223372036854775808
  · rw [a k]; exact ⟨h0, h1⟩
  · by_cases k1 : f = 9218868437227405312
    · rw [b k1]; exact ⟨h0, h1⟩
    · by_cases k2 : f = 9223372036854775808
      · rw [c k2]; constructor <;> omega
      · by_cases k3 : 9223372036854775808 < f
        · rw [d k3 (by omega)]; constructor <;> omega
        · rw [e (by omega)]; constructor <;> omega
theorem fPv_word {f : Int} (hf : Word f) : Word (fPv f) := fNg_word (fNx_word (fNg_word hf))

set_option maxHeartbeats 1000000 in
theorem next_f (f : Int) (hf : Word f) (w : World) : Calls Tryd.prog 20 #[.int .u64 f] w fun x w' => x = .returned (.int .u64 (fNx f)) ∧ w = w' := by
  obtain ⟨a, b, c, d, e⟩ := fNx_is hf
  have hn := nan_iff hf
  have hs := sign_bit hf
  by_cases h : fC f = 4
  · have HN := Lib.hid (a (hn.1 h)).symm
    clear a b c d e hn hs
    go_enter Tryd.func20, Tryd.ntmps20
    go_wp2_with fail
    refine (isNaN_any f hf _).mono ?_
    rw [decide_eq_true h]
    rintro e w1 ⟨rfl, rfl⟩
    go_wp2_with fail
    go_ret
    exact ⟨ret_int HN.out, rfl⟩
  · have hd := decide_eq_false h
    have hq : ¬ 9218868437227405312 < f % 9223372036854775808 := fun k => h (hn.2 k)
    obtain ⟨f0, f1⟩ := id hf
    by_cases h1 : f = 9218868437227405312
    · have HN := Lib.hid (b h1).symm
      clear a b c d e hn hs h hq f0 f1
      subst h1
      go_enter Tryd.func20, Tryd.ntmps20
      go_wp2_with fail
      refine (isNaN_any _ hf _).mono ?_
      rw [hd]
      rintro e w1 ⟨rfl, rfl⟩
      go_wp2_with fail
      go_ret
      exact ⟨ret_int HN.out, rfl⟩
    · by_cases h2 : f = 9223372036854775808
      · have HN := Lib.hid (c h2).symm
        clear a b c d e hn hs h hq f0 f1
        subst h2
        go_enter Tryd.func20, Tryd.ntmps20
        go_wp2_with fail
        refine (isNaN_any _ hf _).mono ?_
        rw [hd]
        rintro e w1 ⟨rfl, rfl⟩
        go_wp2_with fail
        go_ret
        exact ⟨ret_int HN.out, rfl⟩
      · by_cases h3 : 9223372036854775808 < f
        · have HN := Lib.hid (d h3 (by omega)).symm
          rw [sgn_iff.2 (by omega)] at hs
          clear a b c d e hn h hq
          go_enter Tryd.func20, Tryd.ntmps20
          go_wp2_with fail
          refine (isNaN_any _ hf _).mono ?_
          rw [hd]
          rintro e w1 ⟨rfl, rfl⟩
          go_wp2_with fail
          go_ret
          exact ⟨ret_int HN.out, rfl⟩
        · have HN := Lib.hid (e (by omega)).symm
          rw [show fS f = false by unfold fS; rw [decide_eq_false]; omega] at hs
          clear a b c d e hn h hq
          go_enter Tryd.func20, Tryd.ntmps20
          go_wp2_with fail
          refine (isNaN_any _ hf _).mono ?_
          rw [hd]
          rintro e w1 ⟨rfl, rfl⟩
          go_wp2_with fail
          go_ret
          exact ⟨ret_int HN.out, rfl⟩
theorem inf_f (s : Bool) (w : World) : Calls Tryd.prog 19 #[.bool s] w fun x w' => x = .returned (.int .u64 (9218868437227405312 + sg s)) ∧ w = w' := by
  go_enter Tryd.func19, Tryd.ntmps19
  go_wp2_with fail
  refine (withSign_any s _ (by decide) (by decide) _).mono ?_
  rintro e w1 ⟨rfl, rfl⟩
  go_wp2_with fail
  go_ret
  exact ⟨rfl, rfl⟩
theorem quiet_f (w : World) : Calls Tryd.prog 28 #[] w fun x w' => x = .returned (.int .u64 9221120237041090560) ∧ w = w' := by
  go_enter Tryd.func28, Tryd.ntmps28
  go_wp2_with fail
  go_ret
  exact ⟨rfl, rfl⟩

/-- The float of a place in the order; of 0 the nought with that sign. -/
def fOf (k : Int) (neg : Bool) : Int := if k < 0 ∨ (k = 0 ∧ neg = true) then -k + 9223372036854775808 else k
theorem ofs {k : Int} (h0 : 0 ≤ k) (h1 : k < 9223372036854775808) : mkOk (k / 4503599627370496) (k % 4503599627370496) ∧ Word (k % 4503599627370496) ∧ mkF true (k / 4503599627370496) (k % 4503599627370496) = k + 9223372036854775808 ∧ mkF false (k / 4503599627370496) (k % 4503599627370496) = k := by
  unfold mkOk Word mkF sg
  simp only [if_true, Bool.false_eq_true, if_false]
  omega
theorem of_neg {k : Int} (h : k ≤ 0) (h0 : -9223372036854775808 < k) : wrap64 (-k.tdiv 4503599627370496) = -k / 4503599627370496 ∧ IntKind.u64.wrap (-k.tmod 4503599627370496) = -k % 4503599627370496 := by
  have e1 : -k.tdiv 4503599627370496 = -k / 4503599627370496 := by
    rw [← Int.neg_tdiv, Int.tdiv_eq_ediv_of_nonneg (by omega)]
  have e2 : -k.tmod 4503599627370496 = -k % 4503599627370496 := by
    rw [← Int.neg_tmod, Int.tmod_eq_emod_of_nonneg (by omega)]
  rw [e1, e2]
  exact ⟨wrap64_in (by omega) (by omega), IntWalk.u64_in _ ⟨by omega, by omega⟩⟩
set_option maxHeartbeats 1000000 in
theorem gof_any (k : Int) (neg : Bool) (h0 : -9223372036854775808 < k) (h1 : k < 9223372036854775808) (w : World) : Calls Tryd.prog 41 #[.int .i64 k, .bool neg] w fun x w' => x = .returned (.int .u64 (fOf k neg)) ∧ w = w' := by
  by_cases h : k < 0
  · have HN : Hid (-k + 9223372036854775808 = fOf k neg) := by show _ = _; simp [fOf, h]
    obtain ⟨o1, o2, o3, -⟩ := ofs (k := -k) (by omega) (by omega)
    have O3 := Lib.hid o3
    have Q := Lib.hid (of_neg (k := k) (by omega) h0)
    clear o3
    go_enter Tryd.func41, Tryd.ntmps41
    go_wp2_with fail
    rw [Q.out.1, Q.out.2]
    refine (gmake_any true _ _ o2 o1 _).mono ?_
    rw [O3.out]
    rintro e w1 ⟨rfl, rfl⟩
    go_wp2_with fail
    go_ret
    exact ⟨ret_int HN.out, rfl⟩
  · obtain ⟨o1, o2, o3, o4⟩ := ofs (k := k) (by omega) (by omega)
    have O4 := Lib.hid o4
    clear o3 o4
    by_cases h2 : k = 0
    · subst h2
      cases neg
      · go_enter Tryd.func41, Tryd.ntmps41
        go_wp2_with fail
        refine (gmake_any false 0 0 ⟨by decide, by decide⟩ (by decide) _).mono ?_
        rintro e w1 ⟨rfl, rfl⟩
        go_wp2_with fail
        go_ret
        exact ⟨ret_int (by decide), rfl⟩
      · go_enter Tryd.func41, Tryd.ntmps41
        go_wp2_with fail
        refine (gmake_any true 0 0 ⟨by decide, by decide⟩ (by decide) _).mono ?_
        rintro e w1 ⟨rfl, rfl⟩
        go_wp2_with fail
        go_ret
        exact ⟨ret_int (by decide), rfl⟩
    · have HN : Hid (k = fOf k neg) := by show _ = _; simp [fOf, h, h2]
      go_enter Tryd.func41, Tryd.ntmps41
      go_wp2_with fail
      refine (gmake_any false _ _ o2 o1 _).mono ?_
      rw [O4.out]
      rintro e w1 ⟨rfl, rfl⟩
      go_wp2_with fail
      go_ret
      exact ⟨ret_int HN.out, rfl⟩

theorem fK_is {f : Int} (hf : Word f) : (f < 9223372036854775808 → fK f = f) ∧ (9223372036854775808 ≤ f → fK f = 9223372036854775808 - f) := by
  obtain ⟨h0, h1⟩ := hf
  refine ⟨fun h => ?_, fun h => ?_⟩
  · have : fS f = false := decide_eq_false (by omega)
    simp only [fK, this, Bool.false_eq_true, if_false]; omega
  · have : fS f = true := decide_eq_true h
    simp only [fK, this, if_true]; omega
theorem fNx_of {f : Int} (hf : Word f) (hn : fC f ≠ 4) (hk : fK f ≠ 9218868437227405312) : fOf (fK f + 1) (decide (fK f < 0)) = fNx f ∧ -9223372036854775808 < fK f + 1 ∧ fK f + 1 < 9223372036854775808 := by
  obtain ⟨k1, k2⟩ := fK_is hf
  obtain ⟨-, n2, n3, n4, n5⟩ := fNx_is hf
  have hq : ¬ 9218868437227405312 < f % 9223372036854775808 := fun k => hn ((nan_iff hf).2 k)
  obtain ⟨h0, h1⟩ := hf
  by_cases h : f < 9223372036854775808
  · rw [k1 h] at hk ⊢
    rw [n5 (by omega)]
    refine ⟨?_, by omega, by omega⟩
    exact if_neg (by omega)
  · have h2 : 9223372036854775808 ≤ f := by omega
    rw [k2 h2] at hk ⊢
    refine ⟨?_, by omega, by omega⟩
    by_cases h3 : f = 9223372036854775808
    · rw [n3 h3]; subst h3; decide
    · rw [n4 (by omega) (by omega)]
      have : fOf (9223372036854775808 - f + 1) (decide (9223372036854775808 - f < 0)) = -(9223372036854775808 - f + 1) + 9223372036854775808 := by
        refine if_pos ?_
        by_cases h4 : f = 9223372036854775809
        · right; subst h4; decide
        · left; omega
      rw [this]; omega
theorem fNx_inf {f : Int} (hf : Word f) (hk : fK f = 9218868437227405312) : fNx f = f := by
  obtain ⟨k1, k2⟩ := fK_is hf
  obtain ⟨-, n2, -, -, -⟩ := fNx_is hf
  obtain ⟨h0, h1⟩ := hf
  refine n2 ?_
  by_cases h : f < 9223372036854775808
  · rw [k1 h] at hk; exact hk
  · rw [k2 (by omega)] at hk; omega
theorem fNg_key {f : Int} (hf : Word f) (hn : fC f ≠ 4) : fC (fNg f) ≠ 4 ∧ fK (fNg f) = -fK f ∧ (fS (fNg f) = !fS f) ∧ fNg (fNg f) = f := by
  have hw := fNg_word hf
  obtain ⟨a1, a2⟩ := fNg_is hf
  have hq : ¬ 9218868437227405312 < f % 9223372036854775808 := fun k => hn ((nan_iff hf).2 k)
  obtain ⟨a3, a4⟩ := a2 hq
  obtain ⟨k1, k2⟩ := fK_is hf
  obtain ⟨k3, k4⟩ := fK_is hw
  obtain ⟨b1, b2⟩ := fNg_is hw
  rw [Ne, nan_iff hw]
  obtain ⟨h0, h1⟩ := hf
  by_cases h : 9223372036854775808 ≤ f
  · have e := a3 h
    rw [e] at k3 b2 ⊢
    clear hw a1 a2 a3 a4 b1 k4
    obtain ⟨b3, b4⟩ := b2 (by omega)
    rw [k3 (by omega), k2 h, b4 (by omega), show fS (f - 9223372036854775808) = false from decide_eq_false (by omega), show fS f = true from decide_eq_true h]
    refine ⟨by omega, by omega, rfl, by omega⟩
  · have e := a4 (by omega)
    rw [e] at k4 b2 ⊢
    clear hw a1 a2 a3 a4 b1 k3
    obtain ⟨b3, b4⟩ := b2 (by omega)
    rw [k4 (by omega), k1 (by omega), b3 (by omega), show fS (f + 9223372036854775808) = true from decide_eq_true (by omega), show fS f = false from decide_eq_false h]
    refine ⟨by omega, by omega, rfl, by omega⟩
theorem fNg_nan {f : Int} (hn : fC f = 4) : fNg f = f := if_pos hn
theorem fPv_of {f : Int} (hf : Word f) (hn : fC f ≠ 4) (hk : fK f ≠ -9218868437227405312) : fOf (fK f - 1) (decide (fK f ≤ 0)) = fPv f ∧ -9223372036854775808 < fK f - 1 ∧ fK f - 1 < 9223372036854775808 := by
  obtain ⟨c1, c2, -, -⟩ := fNg_key hf hn
  have w1 := fNg_word hf
  obtain ⟨d1, d2, d3⟩ := fNx_of w1 c1 (by rw [c2]; omega)
  rw [c2] at d1 d2 d3
  refine ⟨?_, by omega, by omega⟩
  unfold fPv
  rw [← d1]
  have w2 : Word (fOf (-fK f + 1) (decide (-fK f < 0))) := by rw [d1]; exact fNx_word w1
  have hb := fK_bd f
  have hq : ¬ 9218868437227405312 < f % 9223372036854775808 := fun k => hn ((nan_iff hf).2 k)
  obtain ⟨b1, b2⟩ := fNg_is w2
  obtain ⟨k1, k2⟩ := fK_is hf
  obtain ⟨h0, h1⟩ := hf
  unfold fOf at *
  have e1 : (-fK f + 1 < 0 ∨ (-fK f + 1 = 0 ∧ decide (-fK f < 0) = true)) ↔ 1 ≤ fK f := by simp; omega
  have e2 : (fK f - 1 < 0 ∨ (fK f - 1 = 0 ∧ decide (fK f ≤ 0) = true)) ↔ fK f ≤ 0 := by simp; omega
  simp only [e1, e2] at *
  by_cases h : 1 ≤ fK f
  · simp only [if_pos h, if_neg (show ¬ fK f ≤ 0 by omega)] at *
    obtain ⟨b3, b4⟩ := b2 (by by_cases h3 : f < 9223372036854775808 <;> omega)
    rw [b3 (by omega)]; omega
  · simp only [if_neg h, if_pos (show fK f ≤ 0 by omega)] at *
    obtain ⟨b3, b4⟩ := b2 (by by_cases h3 : f < 9223372036854775808 <;> omega)
    rw [b4 (by omega)]; omega
theorem fPv_inf {f : Int} (hf : Word f) (hn : fC f ≠ 4) (hk : fK f = -9218868437227405312) : fPv f = f := by
  obtain ⟨c1, c2, -, c4⟩ := fNg_key hf hn
  unfold fPv
  rw [fNx_inf (fNg_word hf) (by rw [c2]; omega), c4]
theorem fPv_nan {f : Int} (hn : fC f = 4) : fPv f = f := by
  have e : fNx f = f := if_pos (.inl hn)
  unfold fPv
  rw [fNg_nan hn, e, fNg_nan hn]
end Go.Proofs.YtdjhpplcdkgfgaaDoor
