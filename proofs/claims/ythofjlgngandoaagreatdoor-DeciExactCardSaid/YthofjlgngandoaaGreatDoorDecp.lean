/-
  Contract of deci.Parse. Conditions: a text of ASCII bytes; the listed tables stand.
-/
import Derived.Test.YthofjlgngandoaaGreatDoorDecr
namespace Go.Proofs.YthofjlgngandoaaGreatDoor
open Go.RowKit
set_option maxRecDepth 100000

/-- What Parse says of a text: the float, the error. -/
def psE (l : List UInt8) : Int := if 400 < l.length then 81 else if rdOk l then (if fC (nearV (rdD l) (rdE l)) = 3 then 82 else 0) else 80
def psF (l : List UInt8) : Int := if psE l = 0 then nearV (rdD l) (rdE l) else 0
theorem rd_len (l : List UInt8) : (rdD l).length ≤ 2 * l.length ∧ ((rdC l).2.1).length ≤ l.length := by
  have h := cut_len (rdS l) [46]
  have hs : (rdS l).length ≤ l.length := by
    unfold rdS
    split
    · rw [List.length_take]; omega
    · omega
  unfold rdD rdC
  rw [List.length_append]
  omega
theorem near_word (d : List UInt8) (e : Int) (hd : digB d = true) : Word (nearV d e) :=
  nrF_word (Int.mul_nonneg (dval_bd (digB_all hd).1).1 (Int.pow_nonneg (by decide))) (Int.pow_nonneg (by decide))
set_option maxHeartbeats 4000000 in
theorem parse_any (s : ByteArray) (w : World) (hs : s.size ≤ 1048576) (ha : Ascii s) (hE : EnvOk w) :
    Calls Tryz.prog 14 #[.string s] w fun x w' => x = .returned (.tuple #[.int .u64 (psF s.data.toList), .int .i64 (psE s.data.toList)]) ∧ Below w.heap.size w w' := by
  by_cases hl : 400 < s.size
  · have hl' : (400 : Int) < (s.size : Int) := by omega
    have pe : psE s.data.toList = 81 := by unfold psE; rw [← Lib.size_eq, if_pos hl]
    have pf : psF s.data.toList = 0 := by unfold psF; rw [pe]; rfl
    rw [pe, pf]
    go_enter Tryz.func14, Tryz.ntmps14
    go_wp2_with fail
    go_ret2
    exact ⟨rfl, Below.refl _ _⟩
  · have hl' : ¬ (400 : Int) < (s.size : Int) := by omega
    have R := Lib.hid fun w hE => read_any s w (by omega) ha hE
    have PE : psE s.data.toList = if rdOk s.data.toList then (if fC (nearV (rdD s.data.toList) (rdE s.data.toList)) = 3 then 82 else 0) else 80 := by unfold psE; rw [← Lib.size_eq, if_neg hl]
    have PF : psF s.data.toList = if psE s.data.toList = 0 then nearV (rdD s.data.toList) (rdE s.data.toList) else 0 := rfl
    have lens := rd_len s.data.toList
    rw [← Lib.size_eq] at lens
    have pb := rdP_bd s.data.toList
    have eb : -3000 ≤ rdE s.data.toList ∧ rdE s.data.toList ≤ 3000 := by unfold rdE; omega
    by_cases ok : rdOk s.data.toList = true
    · have dg := rdD_dig ok
      have NW := near_word (rdD s.data.toList) (rdE s.data.toList) dg
      have NR := Lib.hid fun w => nearest_any ⟨(rdD s.data.toList).toArray⟩ (rdE s.data.toList) w (by rw [str_size]; omega) (by rw [str_data]; exact dg) eb.1 eb.2
      rw [if_pos ok] at PE
      rw [ok] at R
      have R' : Hid (∀ w, EnvOk w → Calls Tryz.prog 35 #[.string s] w fun x w' => x = .returned (.tuple #[.agg #[.string ⟨(rdD s.data.toList).toArray⟩, .int .i64 (rdE s.data.toList)], .bool true]) ∧ Below w.heap.size w w') := R.out
      have NR' : Hid (∀ w, Calls Tryz.prog 36 #[.agg #[.string ⟨(rdD s.data.toList).toArray⟩, .int .i64 (rdE s.data.toList)]] w fun x w' => x = .returned (.int .u64 (nearV (rdD s.data.toList) (rdE s.data.toList))) ∧ Below w.heap.size w w') := NR.out
      clear R NR lens pb eb dg ok ha
      generalize nearV (rdD s.data.toList) (rdE s.data.toList) = f at *
      have CL := Lib.hid fun w => class_any f NW w
      generalize (⟨(rdD s.data.toList).toArray⟩ : ByteArray) = d at *
      generalize rdE s.data.toList = e at *
      have HPE := Lib.hid PE
      have HPF := Lib.hid PF
      clear PE PF
      generalize psE s.data.toList = pe at *
      generalize psF s.data.toList = pf at *
      go_enter Tryz.func14, Tryz.ntmps14
      go_wp2_with fail
      refine (R'.out _ hE).mono ?_
      rintro x w1 ⟨rfl, hb1⟩
      have HB1 := Lib.hid (bel_alloc hb1 (.cells #[.string d, .int .i64 e] 70))
      clear hb1
      go_wp2_with fail
      refine (NR'.out _).mono ?_
      rintro x w2 ⟨rfl, hb2⟩
      have HB2 := Lib.hid (bel_trans HB1.out hb2)
      clear hb2 HB1
      go_wp2_with fail
      refine (CL.out _).mono ?_
      rintro x w3 ⟨rfl, rfl⟩
      clear CL R' NR'
      by_cases h3 : fC f = 3
      · have e1 : pe = 82 := by have := HPE.out; rw [if_pos h3] at this; exact this
        have e2 : pf = 0 := by have := HPF.out; rw [e1] at this; exact this
        subst e1 e2
        have hc : (fC f == 3) = true := by simp [h3]
        clear HPE HPF h3
        go_wp2_with fail
        go_ret2
        exact ⟨rfl, HB2.out⟩
      · have e1 : pe = 0 := by have := HPE.out; rw [if_neg h3] at this; exact this
        have e2 : pf = f := by have := HPF.out; rw [e1] at this; exact this
        subst e1 e2
        have hc : (fC pf == 3) = false := by simp [h3]
        clear HPE HPF h3
        go_wp2_with fail
        go_ret2
        exact ⟨rfl, HB2.out⟩
    · have ok' : rdOk s.data.toList = false := by simpa using ok
      rw [if_neg ok] at PE
      rw [PE] at PF
      rw [ok'] at R
      have R' : Hid (∀ w, EnvOk w → Calls Tryz.prog 35 #[.string s] w fun x w' => x = .returned (.tuple #[.agg #[.string ⟨#[]⟩, .int .i64 0], .bool false]) ∧ Below w.heap.size w w') := R.out
      have pf : psF s.data.toList = 0 := PF
      rw [PE, pf]
      clear R PE PF pf lens pb eb ok ok' ha
      go_enter Tryz.func14, Tryz.ntmps14
      go_wp2_with fail
      refine (R'.out _ hE).mono ?_
      rintro x w1 ⟨rfl, hb1⟩
      have HB1 := Lib.hid (bel_alloc hb1 (.cells #[.string ⟨#[]⟩, .int .i64 0] 70))
      clear hb1
      go_wp2_with fail
      go_ret2
      exact ⟨rfl, HB1.out⟩
end Go.Proofs.YthofjlgngandoaaGreatDoor
