/-
  The walk of DeciPrints: whatever float is handed in, the law answers true. Conditions: the float is a word; the listed tables stand.
-/
import Derived.Test.YthofjlgngandoaaGreatDoorForm8
import Derived.Test.YthofjlgngandoaaGreatDoorWorks8
namespace Go.Proofs.YthofjlgngandoaaGreatDoor
open Go.RowKit
set_option maxRecDepth 100000

set_option maxHeartbeats 16000000 in
theorem lprints8_walk (f : Int) (w : World) (hf : Word f) (hE : EnvOk w) :
    Calls Tryz.prog 4 #[.int .u64 f] w fun x w' => x = .returned (.bool true) ∧ Below w.heap.size w w' := by
  have WK := Lib.hid fun w hE => works8 w hE
  have CL := Lib.hid fun w => gclass_any f hf w
  have PR := Lib.hid fun w hE => print_any f hf w hE
  have DG := Lib.hid fun w hE => digits_any f hf w hE
  have cb := cls_bd f
  have SH : f / 9223372036854775808 = (if fS f then 1 else 0) := by
    have h0 := hf.1
    have h1 := hf.2
    unfold fS
    by_cases h : 9223372036854775808 ≤ f
    · rw [decide_eq_true h, if_pos rfl]; omega
    · rw [decide_eq_false h, if_neg (by decide)]; omega
  by_cases hc : fC f = 1 ∨ fC f = 2
  · obtain ⟨k1, k2, k3, k4, -⟩ := dg_known hf hc
    have l1 : 1 ≤ (dgD f).length := by
      have := (digB_all k1).2
      cases h : dgD f with
      | nil => exact absurd h this
      | cons a l => simp
    have FM := Lib.hid fun w => kform_any (dgD f) (dgQ f) w l1 (by omega) (by omega) (by omega)
    have sz : (⟨(loT (dgD f) (dgQ f)).toArray⟩ : ByteArray).size ≤ 26 := by rw [str_size]; exact (rd_lo k1 ⟨k3, k4⟩ k2).2.2.1
    have dz : 0 < (⟨(dgD f).toArray⟩ : ByteArray).size := by rw [str_size]; omega
    have PE : prT f = (if fS f then [45] else []) ++ loT (dgD f) (dgQ f) := by
      unfold prT
      rw [if_neg (show ¬ fC f = 4 by omega), if_neg (show ¬ fC f = 3 by omega), if_neg (show ¬ fC f = 0 by omega)]
    have PT : (⟨(prT f).toArray⟩ : ByteArray) = if fS f then ⟨#[45]⟩ ++ ⟨(loT (dgD f) (dgQ f)).toArray⟩ else ⟨(loT (dgD f) (dgQ f)).toArray⟩ := by
      rw [PE]
      cases fS f
      · rfl
      · exact (str_of (by simp)).symm
    rw [PT] at PR
    have dz' : (0 : Int) < ((⟨(dgD f).toArray⟩ : ByteArray).size : Int) := by omega
    clear PE PT k1 k2 k3 k4 l1
    generalize (⟨(loT (dgD f) (dgQ f)).toArray⟩ : ByteArray) = t at *
    generalize (⟨(dgD f).toArray⟩ : ByteArray) = d at *
    generalize dgQ f = q at *
    have h1 : (fC f == 4) = false := by simp; omega
    have h2 : (fC f == 3) = false := by simp; omega
    have h3 : (fC f == 0) = false := by simp; omega
    have h4 : ((fC f != 2) = false) ∨ ((fC f != 2) = true ∧ (fC f != 1) = false) := by
      rcases hc with h | h
      · right; rw [h]; exact ⟨rfl, rfl⟩
      · left; rw [h]; rfl
    clear hc cb
    generalize fC f = c at *
    cases hs : fS f
    · rw [hs] at PR SH
      have PR' : Hid (∀ w, EnvOk w → Calls Tryz.prog 16 #[.int .u64 f] w fun x w' => x = .returned (.string t) ∧ Below w.heap.size w w') := PR.out
      have SH' : f / 9223372036854775808 = 0 := SH
      have te : (t.toList == ((⟨#[]⟩ : ByteArray) ++ t).toList) = true := by rw [Lib.toList_data, Lib.toList_data, ByteArray.data_append, Array.toList_append]; simp
      clear PR SH
      rcases h4 with h4 | ⟨h4, h5⟩
      all_goals
        go_enter Tryz.func4, Tryz.ntmps4
        go_wp2_with fail
        refine (WK.out _ hE).mono ?_
        rintro x w1 ⟨rfl, hb1⟩
        have HB1 := Lib.hid hb1
        clear hb1
        go_wp2_with fail
        refine (PR'.out _ (hE.below HB1.out)).mono ?_
        rintro x w2 ⟨rfl, hb2⟩
        have HB2 := Lib.hid (bel_trans HB1.out hb2)
        clear hb2
        go_wp2_with fail
        refine (DG.out _ (hE.below HB2.out)).mono ?_
        rintro x w3 ⟨rfl, hb3⟩
        have HB3 := Lib.hid (bel_trans HB2.out hb3)
        clear hb3
        go_wp2_with fail
        refine (CL.out _).mono ?_
        rintro x w4 ⟨rfl, rfl⟩
        go_wp2_with fail
        refine (FM.out _).mono ?_
        rintro x w5 ⟨rfl, hb5⟩
        have HB5 := Lib.hid (bel_trans HB3.out hb5)
        clear hb5
        go_wp2_with fail
        go_ret
        exact ⟨rfl, HB5.out⟩
    · rw [hs] at PR SH
      have PR' : Hid (∀ w, EnvOk w → Calls Tryz.prog 16 #[.int .u64 f] w fun x w' => x = .returned (.string (⟨#[45]⟩ ++ t)) ∧ Below w.heap.size w w') := PR.out
      have SH' : f / 9223372036854775808 = 1 := SH
      clear PR SH
      rcases h4 with h4 | ⟨h4, h5⟩
      all_goals
        go_enter Tryz.func4, Tryz.ntmps4
        go_wp2_with fail
        refine (WK.out _ hE).mono ?_
        rintro x w1 ⟨rfl, hb1⟩
        have HB1 := Lib.hid hb1
        clear hb1
        go_wp2_with fail
        refine (PR'.out _ (hE.below HB1.out)).mono ?_
        rintro x w2 ⟨rfl, hb2⟩
        have HB2 := Lib.hid (bel_trans HB1.out hb2)
        clear hb2
        go_wp2_with fail
        refine (DG.out _ (hE.below HB2.out)).mono ?_
        rintro x w3 ⟨rfl, hb3⟩
        have HB3 := Lib.hid (bel_trans HB2.out hb3)
        clear hb3
        go_wp2_with fail
        refine (CL.out _).mono ?_
        rintro x w4 ⟨rfl, rfl⟩
        go_wp2_with fail
        refine (FM.out _).mono ?_
        rintro x w5 ⟨rfl, hb5⟩
        have HB5 := Lib.hid (bel_trans HB3.out hb5)
        clear hb5
        go_wp2_with fail
        go_ret
        exact ⟨rfl, HB5.out⟩
  · have eD : dgD f = [] := by unfold dgD; rw [if_neg hc]
    have eQ : dgQ f = 0 := by unfold dgQ; rw [if_neg hc]
    rw [eD, eQ] at DG
    have DG' : Hid (∀ w, EnvOk w → Calls Tryz.prog 17 #[.int .u64 f] w fun x w' => x = .returned (.tuple #[.string ⟨#[]⟩, .int .i64 0]) ∧ Below w.heap.size w w') := DG.out
    have PT : (⟨(prT f).toArray⟩ : ByteArray) = if fC f = 4 then ⟨#[110, 97, 110]⟩ else if fC f = 3 then (if fS f then ⟨#[45, 105, 110, 102]⟩ else ⟨#[105, 110, 102]⟩) else (if fS f then ⟨#[45, 48, 46, 48]⟩ else ⟨#[48, 46, 48]⟩) := by
      unfold prT
      by_cases h4 : fC f = 4
      · rw [if_pos h4, if_pos h4]
      · rw [if_neg h4, if_neg h4]
        by_cases h3 : fC f = 3
        · rw [if_pos h3, if_pos h3]
          cases fS f <;> rfl
        · rw [if_neg h3, if_neg h3, if_pos (show fC f = 0 by omega)]
          cases fS f <;> rfl
    rw [PT] at PR
    have c3 : fC f = 0 ∨ fC f = 3 ∨ fC f = 4 := by omega
    have t1 : (([48, 46, 48] : List UInt8) == ((⟨#[]⟩ : ByteArray) ++ ⟨#[48, 46, 48]⟩).toList) = true := by rw [Lib.toList_data]; rfl
    have t2 : (([105, 110, 102] : List UInt8) == ((⟨#[]⟩ : ByteArray) ++ ⟨#[105, 110, 102]⟩).toList) = true := by rw [Lib.toList_data]; rfl
    have t3 : (([45, 48, 46, 48] : List UInt8) == ((⟨#[45]⟩ : ByteArray) ++ ⟨#[48, 46, 48]⟩).toList) = true := by rw [Lib.toList_data]; rfl
    have t4 : (([45, 105, 110, 102] : List UInt8) == ((⟨#[45]⟩ : ByteArray) ++ ⟨#[105, 110, 102]⟩).toList) = true := by rw [Lib.toList_data]; rfl
    clear PT DG eD eQ hc cb
    generalize fC f = c at *
    cases hs : fS f
    all_goals
      rw [hs] at PR SH
      simp only [Bool.false_eq_true, if_false, if_true] at SH
      rcases c3 with rfl | rfl | rfl
      all_goals
        have PR' := PR.out
        simp (decide := true) only [reduceIte] at PR'
        have PR'' := Lib.hid PR'
        clear PR PR'
        go_enter Tryz.func4, Tryz.ntmps4
        go_wp2_with fail
        refine (WK.out _ hE).mono ?_
        rintro x w1 ⟨rfl, hb1⟩
        have HB1 := Lib.hid hb1
        clear hb1
        go_wp2_with fail
        refine (PR''.out _ (hE.below HB1.out)).mono ?_
        rintro x w2 ⟨rfl, hb2⟩
        have HB2 := Lib.hid (bel_trans HB1.out hb2)
        clear hb2
        go_wp2_with fail
        refine (DG'.out _ (hE.below HB2.out)).mono ?_
        rintro x w3 ⟨rfl, hb3⟩
        have HB3 := Lib.hid (bel_trans HB2.out hb3)
        clear hb3
        go_wp2_with fail
        refine (CL.out _).mono ?_
        rintro x w4 ⟨rfl, rfl⟩
        go_wp2_with fail
        go_ret
        exact ⟨rfl, HB3.out⟩
end Go.Proofs.YthofjlgngandoaaGreatDoor
