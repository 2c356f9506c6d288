/-
  Contracts of deci.layOut and Print. Conditions: layOut's digits are 1 to 20 bytes, its power at most 2000 either way; the listed tables stand.
-/
import Derived.Test.YtgjgcehoakacoaaGreatDoorMXb
import Derived.Test.YtgjgcehoakacoaaGreatDoorPlan
import Derived.BigQuiet
namespace Go.Proofs.YtgjgcehoakacoaaGreatDoor
open Go.RowKit
set_option maxRecDepth 100000

theorem nts_str (n : Nat) (w : World) (hn : n ≤ 5000) : Calls Tryz.prog 52 #[.string ⟨#[48]⟩, .int .i64 (n : Int)] w fun e w' => e = .returned (.string ⟨(nts n).toArray⟩) ∧ Below w.heap.size w w' := by
  have h : (⟨#[48]⟩ : ByteArray).size = 1 := rfl
  exact sh_strings_Repeat ⟨#[48]⟩ n w (by omega) (by rw [h]; omega)
set_option maxHeartbeats 4000000 in
theorem layOut1 (d r : ByteArray) (q P : Int) (w : World) (hP : (d.size : Int) + q = P) (hd : 1 ≤ d.size) (hd' : d.size ≤ 20) (hq : -2000 ≤ q) (hq' : q ≤ 2000) (k : Nat) (hk : q = (k : Int)) (h1 : P ≤ 21) (F : d ++ ⟨(nts k).toArray⟩ ++ ⟨#[46, 48]⟩ = r) :
    Calls Tryz.prog 28 #[.string d, .int .i64 q] w fun x w' => x = .returned (.string r) ∧ Below w.heap.size w w' := by
  subst hk
  have RP := Lib.hid fun w => nts_str k w (by omega)
  have FF := Lib.hid F
  clear F
  have hz : (⟨(nts k).toArray⟩ : ByteArray).size ≤ 3000 := by rw [str_size, (nts_dig k).2]; omega
  generalize (⟨(nts k).toArray⟩ : ByteArray) = z at *
  have hz2 : (d ++ z).size ≤ 4000 := by rw [ByteArray.size_append]; omega
  have h2 : (0 : Int) ≤ (k : Int) := by omega
  have o1 : IntKind.i64.wrap ((d.size : Int) + (k : Int)) = P := by rw [IntKind.wrap_i64]; omega
  go_enter Tryz.func28, Tryz.ntmps28
  go_wp2_with fail
  refine (RP.out _).mono ?_
  rintro x w1 ⟨rfl, hb1⟩
  go_wp2_with fail
  go_ret
  exact ⟨by rw [← FF.out]; rfl, hb1⟩
set_option maxHeartbeats 4000000 in
theorem layOut2 (d r : ByteArray) (q P : Int) (w : World) (hP : (d.size : Int) + q = P) (hd : 1 ≤ d.size) (hd' : d.size ≤ 20) (hq : -2000 ≤ q) (hq' : q ≤ 2000) (k : Nat) (hk : P = (k : Int)) (h1 : q < 0) (h2 : 0 < P) (F : d.extract 0 k ++ ⟨#[46]⟩ ++ d.extract k d.size = r) :
    Calls Tryz.prog 28 #[.string d, .int .i64 q] w fun x w' => x = .returned (.string r) ∧ Below w.heap.size w w' := by
  subst hk
  have FF := Lib.hid F
  clear F
  have h3 : k ≤ d.size := by omega
  have h4 : ¬ (0 ≤ q) := by omega
  have h5 : (0 : Int) ≤ (k : Int) := by omega
  have h6 : (k : Int) ≤ (d.size : Int) := by omega
  have o1 : IntKind.i64.wrap ((d.size : Int) + q) = (k : Int) := by rw [IntKind.wrap_i64]; omega
  go_enter Tryz.func28, Tryz.ntmps28
  go_upto_region 5 with fail
  have h7 : 0 < k := by omega
  go_quiet (fail)
  go_wp2_with fail
  go_ret
  exact ⟨by rw [← FF.out]; rfl, below_drewN _ _⟩
set_option maxHeartbeats 4000000 in
theorem layOut3 (d r : ByteArray) (q P : Int) (w : World) (hP : (d.size : Int) + q = P) (hd : 1 ≤ d.size) (hd' : d.size ≤ 20) (hq : -2000 ≤ q) (hq' : q ≤ 2000) (k : Nat) (hk : P = -(k : Int)) (h2 : k ≤ 5) (F : (⟨#[48, 46]⟩ : ByteArray) ++ ⟨(nts k).toArray⟩ ++ d = r) :
    Calls Tryz.prog 28 #[.string d, .int .i64 q] w fun x w' => x = .returned (.string r) ∧ Below w.heap.size w w' := by
  subst hk
  have RP := Lib.hid fun w => nts_str k w (by omega)
  have FF := Lib.hid F
  clear F
  have hz : (⟨(nts k).toArray⟩ : ByteArray).size ≤ 3000 := by rw [str_size, (nts_dig k).2]; omega
  generalize (⟨(nts k).toArray⟩ : ByteArray) = z at *
  have hz2 : ((⟨#[48, 46]⟩ : ByteArray) ++ z).size ≤ 4000 := by rw [ByteArray.size_append, show (⟨#[48, 46]⟩ : ByteArray).size = 2 from rfl]; omega
  have h4 : ¬ (0 ≤ q) := by omega
  have h5 : q < 0 := by omega
  have h6 : ¬ (0 < -(k : Int)) := by omega
  have h7 : -(k : Int) ≤ 0 := by omega
  have h8 : -5 ≤ -(k : Int) := by omega
  have o1 : IntKind.i64.wrap ((d.size : Int) + q) = -(k : Int) := by rw [IntKind.wrap_i64]; omega
  have o2 : IntKind.i64.wrap (k : Int) = (k : Int) := by rw [IntKind.wrap_i64]; omega
  go_enter Tryz.func28, Tryz.ntmps28
  go_wp2_with fail
  refine (RP.out _).mono ?_
  rintro x w1 ⟨rfl, hb1⟩
  go_wp2_with fail
  go_ret
  exact ⟨by rw [← FF.out]; rfl, hb1⟩
theorem ext_all (d : ByteArray) : d.extract 0 1 ++ ⟨#[]⟩ ++ d.extract 1 d.size = d := by
  have h := str_of (s := d.extract 0 1 ++ ⟨#[]⟩ ++ d.extract 1 d.size) (l := d.data.toList) (by
    simp only [ByteArray.data_append, Array.toList_append, ext_front, ext_back]
    show d.data.toList.take 1 ++ [] ++ d.data.toList.drop 1 = _
    rw [List.append_nil]
    exact List.take_append_drop 1 _)
  rw [h]
set_option maxHeartbeats 4000000 in
theorem layOut4 (d r : ByteArray) (q P : Int) (w : World) (hP : (d.size : Int) + q = P) (hd : 1 ≤ d.size) (hd' : d.size ≤ 20) (hq : -2000 ≤ q) (hq' : q ≤ 2000) (hE : EnvOk w) (hh : 0 ≤ q ∧ 21 < P ∨ q < 0 ∧ P < -5) (F : d.extract 0 1 ++ (if d.size = 1 then ⟨#[]⟩ else ⟨#[46]⟩) ++ d.extract 1 d.size ++ ⟨#[101]⟩ ++ ⟨(Lib.itoa (P - 1)).toArray⟩ = r) :
    Calls Tryz.prog 28 #[.string d, .int .i64 q] w fun x w' => x = .returned (.string r) ∧ Below w.heap.size w w' := by
  have FF := Lib.hid F
  have RP := Lib.hid fun w hE => itoa8 (P - 1) (by omega) (by omega) w hE
  have o1 : IntKind.i64.wrap ((d.size : Int) + q) = P := by rw [IntKind.wrap_i64]; omega
  have o2 : IntKind.i64.wrap (P - 1) = P - 1 := by rw [IntKind.wrap_i64]; omega
  have hd1 : (1 : Int) ≤ (d.size : Int) := by omega
  have hi : (⟨(Lib.itoa (P - 1)).toArray⟩ : ByteArray).size ≤ 6 := by
    have nd : ∀ n : Nat, n < 10000 → (Lib.decDigits n).length ≤ 4 := fun n hn => by
      rw [Lib.decDigits_length]
      by_cases h : n < 10
      · rw [Lib.nDigits_small h]; omega
      · rw [Lib.nDigits_big h]
        by_cases h' : n / 10 < 10
        · rw [Lib.nDigits_small h']; omega
        · rw [Lib.nDigits_big h']
          by_cases h'' : n / 10 / 10 < 10
          · rw [Lib.nDigits_small h'']; omega
          · rw [Lib.nDigits_big h'', Lib.nDigits_small (by omega)]; omega
    rw [str_size]
    unfold Lib.itoa
    split
    · have := nd (P - 1).natAbs (by omega)
      simp only [List.length_cons]
      omega
    · have := nd (P - 1).toNat (by omega)
      omega
  clear F
  generalize (⟨(Lib.itoa (P - 1)).toArray⟩ : ByteArray) = z at *
  obtain ⟨h, h1, h2, h3⟩ | ⟨h, h1, h2, h3, h4⟩ : (0 ≤ q ∧ ¬ P ≤ 21 ∧ ¬ q < 0 ∧ ¬ P ≤ 0) ∨ (¬ 0 ≤ q ∧ q < 0 ∧ ¬ 0 < P ∧ P ≤ 0 ∧ ¬ -5 ≤ P) := by omega
  all_goals
    have e2 := ext_back d 1
    by_cases h1s : d.size = 1
    · have hemp : (d.extract 1 d.size).toList.isEmpty = true := by
        rw [Lib.toList_data, e2, List.isEmpty_iff, List.drop_eq_nil_iff, ← Lib.size_eq]
        omega
      rw [if_pos h1s, ext_all] at FF
      clear e2 h1s
      go_enter Tryz.func28, Tryz.ntmps28
      go_upto_region 8 with fail
      go_quiet (fail)
      go_wp2_with fail
      refine (RP.out _ (hE.below (below_drewN _ _))).mono ?_
      rintro x w1 ⟨rfl, hb1⟩
      have HB := Lib.hid (bel_trans (below_drewN w _) hb1)
      clear hb1
      go_wp2_with fail
      go_ret
      exact ⟨by rw [← FF.out]; rfl, HB.out⟩
    · have hemp : (d.extract 1 d.size).toList.isEmpty = false := by
        rw [Lib.toList_data, e2]
        cases hl : d.data.toList.drop 1 with
        | nil =>
          rw [List.drop_eq_nil_iff, ← Lib.size_eq] at hl
          omega
        | cons a l => rfl
      rw [if_neg h1s] at FF
      clear e2 h1s
      go_enter Tryz.func28, Tryz.ntmps28
      go_upto_region 8 with fail
      go_quiet (fail)
      go_wp2_with fail
      refine (RP.out _ (hE.below (below_drewN _ _))).mono ?_
      rintro x w1 ⟨rfl, hb1⟩
      have HB := Lib.hid (bel_trans (below_drewN w _) hb1)
      clear hb1
      go_wp2_with fail
      go_ret
      exact ⟨by rw [← FF.out]; rfl, HB.out⟩
theorem layOut_any (d : List UInt8) (q : Int) (w : World) (hd : 1 ≤ d.length) (hd' : d.length ≤ 20) (hq : -2000 ≤ q) (hq' : q ≤ 2000) (hE : EnvOk w) :
    Calls Tryz.prog 28 #[.string ⟨d.toArray⟩, .int .i64 q] w fun x w' => x = .returned (.string ⟨(loT d q).toArray⟩) ∧ Below w.heap.size w w' := by
  have sz := str_size d
  have sd := str_data d
  obtain ⟨D, hD⟩ : ∃ D : ByteArray, D = ⟨d.toArray⟩ := ⟨_, rfl⟩
  rw [← hD] at sz sd ⊢
  clear hD
  obtain ⟨P, hP⟩ : ∃ P : Int, (D.size : Int) + q = P := ⟨_, rfl⟩
  have hP' : (d.length : Int) + q = P := by rw [← sz]; exact hP
  unfold loT
  rw [hP']
  by_cases c1 : 0 ≤ q ∧ P ≤ 21
  · rw [if_pos c1]
    exact layOut1 D _ q P w hP (by omega) (by omega) hq hq' q.toNat (by omega) c1.2 (str_of (by simp [sd]))
  rw [if_neg c1]
  by_cases c2 : q < 0 ∧ 0 < P
  · rw [if_pos c2]
    exact layOut2 D _ q P w hP (by omega) (by omega) hq hq' P.toNat (by omega) c2.1 c2.2 (str_of (by
      simp only [ByteArray.data_append, Array.toList_append, ext_front, ext_back, sd]
      simp))
  rw [if_neg c2]
  by_cases c3 : P ≤ 0 ∧ -5 ≤ P
  · rw [if_pos c3]
    exact layOut3 D _ q P w hP (by omega) (by omega) hq hq' (-P).toNat (by omega) (by omega) (str_of (by simp [sd]))
  rw [if_neg c3]
  refine layOut4 D _ q P w hP (by omega) (by omega) hq hq' hE (by omega) (str_of ?_)
  simp only [ByteArray.data_append, Array.toList_append, ext_front, ext_back, sd]
  by_cases h1 : D.size = 1
  · have e : d.drop 1 = [] := by rw [List.drop_eq_nil_iff]; omega
    rw [if_pos h1, if_pos e]
    simp
  · have e : ¬ d.drop 1 = [] := by rw [List.drop_eq_nil_iff]; omega
    rw [if_neg h1, if_neg e]
    simp
/-- What Print says of a float. -/
def prT (f : Int) : List UInt8 :=
  if fC f = 4 then [110, 97, 110] else (if fS f then [45] else []) ++ (if fC f = 3 then [105, 110, 102] else if fC f = 0 then [48, 46, 48] else loT (dgD f) (dgQ f))
set_option maxHeartbeats 4000000 in
theorem print_any (f : Int) (hf : Word f) (w : World) (hE : EnvOk w) :
    Calls Tryz.prog 9 #[.int .u64 f] w fun x w' => x = .returned (.string ⟨(prT f).toArray⟩) ∧ Below w.heap.size w w' := by
  have PT := Lib.hid fun w => parts_any f hf w
  have CL := Lib.hid fun w => class_any f hf w
  have cb := cls_bd f
  obtain ⟨r, hr⟩ : ∃ r : ByteArray, r = ⟨(prT f).toArray⟩ := ⟨_, rfl⟩
  have R : Hid (∀ s : ByteArray, s.data.toList = (if fC f = 4 then [110, 97, 110] else (if fS f then [45] else []) ++ (if fC f = 3 then [105, 110, 102] else if fC f = 0 then [48, 46, 48] else loT (dgD f) (dgQ f))) → s = r) := fun s h => by rw [hr]; exact str_of h
  rw [← hr]
  clear hr
  by_cases hc : fC f = 1 ∨ fC f = 2
  · have DG := Lib.hid fun w hE => digits_any f hf w hE
    obtain ⟨k1, k2, k3, k4, -⟩ := dg_known hf hc
    have l1 : 1 ≤ (dgD f).length := by
      have := (digB_all k1).2
      cases h : dgD f with
      | nil => exact absurd h this
      | cons a l => simp
    have LO := Lib.hid fun w hE => layOut_any (dgD f) (dgQ f) w l1 (by omega) (by omega) (by omega) hE
    have R' : Hid (∀ s : ByteArray, s.data.toList = (if fS f then [45] else []) ++ loT (dgD f) (dgQ f) → s = r) := fun s h => R.out s (by rw [h, if_neg (show ¬ fC f = 4 by omega), if_neg (show ¬ fC f = 3 by omega), if_neg (show ¬ fC f = 0 by omega)])
    have sz : (⟨(loT (dgD f) (dgQ f)).toArray⟩ : ByteArray).size ≤ 26 := by rw [str_size]; exact (rd_lo k1 ⟨k3, k4⟩ k2).2.2.1
    have sd := str_data (loT (dgD f) (dgQ f))
    generalize loT (dgD f) (dgQ f) = lo at *
    generalize (⟨(dgD f).toArray⟩ : ByteArray) = d at *
    generalize (⟨lo.toArray⟩ : ByteArray) = t at *
    generalize dgQ f = q at *
    have h1 : (fC f == 4) = false := by simp; omega
    have h2 : (fC f == 3) = false := by simp; omega
    have h3 : (fC f == 0) = false := by simp; omega
    clear R hc k1 k2 k3 k4 l1 cb
    generalize fC f = c at *
    cases hs : fS f
    all_goals
      rw [hs] at PT R'
      have SD := Lib.hid sd
      clear sd
      go_enter Tryz.func9, Tryz.ntmps9
      go_wp2_with fail
      refine (PT.out _).mono ?_
      rintro x w1 ⟨rfl, rfl⟩
      go_wp2_with fail
      refine (CL.out _).mono ?_
      rintro x w1 ⟨rfl, rfl⟩
      go_wp2_with fail
      refine (DG.out _ hE).mono ?_
      rintro x w2 ⟨rfl, hb2⟩
      have HB2 := Lib.hid hb2
      clear hb2
      go_wp2_with fail
      refine (LO.out _ (hE.below HB2.out)).mono ?_
      rintro x w3 ⟨rfl, hb3⟩
      have HB3 := Lib.hid (bel_trans HB2.out hb3)
      clear hb3
      go_wp2_with fail
      go_ret
      refine ⟨?_, HB3.out⟩
      first
        | (rw [← R'.out t (by rw [SD.out]; rfl)]; rfl)
        | (rw [← R'.out (⟨#[45]⟩ ++ t) (by simp [SD.out])]; rfl)
  · have c3 : fC f = 0 ∨ fC f = 3 ∨ fC f = 4 := by omega
    clear hE cb hc
    generalize fC f = c at *
    generalize loT (dgD f) (dgQ f) = lo at *
    cases hs : fS f
    all_goals
      rw [hs] at PT R
      rcases c3 with rfl | rfl | rfl
      all_goals
        go_enter Tryz.func9, Tryz.ntmps9
        go_wp2_with fail
        refine (PT.out _).mono ?_
        rintro x w1 ⟨rfl, rfl⟩
        go_wp2_with fail
        refine (CL.out _).mono ?_
        rintro x w1 ⟨rfl, rfl⟩
        go_wp2_with fail
        go_ret
        refine ⟨?_, Below.refl _ _⟩
        first
          | (rw [← R.out ⟨#[110, 97, 110]⟩ (by simp)]; rfl)
          | (rw [← R.out ⟨#[105, 110, 102]⟩ (by simp)]; rfl)
          | (rw [← R.out ⟨#[48, 46, 48]⟩ (by simp)]; rfl)
          | (rw [← R.out (⟨#[45]⟩ ++ ⟨#[105, 110, 102]⟩) (by simp)]; rfl)
          | (rw [← R.out (⟨#[45]⟩ ++ ⟨#[48, 46, 48]⟩) (by simp)]; rfl)
end Go.Proofs.YtgjgcehoakacoaaGreatDoor
