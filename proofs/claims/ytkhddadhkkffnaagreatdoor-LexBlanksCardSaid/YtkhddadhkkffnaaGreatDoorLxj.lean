/-
  Contracts of lex.IsWord and IsName. Conditions: the listed tables stand; texts of at most 1048576 bytes.
-/
import Derived.Test.YtkhddadhkkffnaaGreatDoorLxi
namespace Go.Proofs.YtkhddadhkkffnaaGreatDoor
open Go.RowKit Go.Maps
set_option maxRecDepth 100000

theorem xIsWord_any (s : ByteArray) (w : World) (hs : s.size ≤ 1048576) (hE : Env9 w) :
    Calls Tryz.prog 12 #[.string s] w fun e w' => e = .returned (.bool (kwS.contains s.data.toList)) ∧ Below w.heap.size w w' := by
  have KW := Lib.hid (xKeywords_any w hE)
  go_enter Tryz.func12, Tryz.ntmps12
  go_wp2_with fail
  refine KW.out.mono ?_
  rintro e w1 ⟨g, rfl, hg, hK, hb⟩
  have HB := Lib.hid hb
  obtain ⟨c, hc, hd⟩ := hK.look s hs
  have HD : Hid (decide (0 < c) = kwS.contains s.data.toList) := hd
  clear hb hK hd KW hE
  go_wp2_with fail
  go_ret
  exact ⟨ret_bool HD.out, HB.out⟩
def isnV (l : List UInt8) : Bool := !l.isEmpty && (decide (l.length ≤ 32) && (decide (nmL l = l.length) && !kwS.contains l))
theorem xIsName_any (s : ByteArray) (w : World) (hs : s.size ≤ 1048576) (hE : Env9 w) :
    Calls Tryz.prog 14 #[.string s] w fun e w' => e = .returned (.bool (isnV s.data.toList)) ∧ Below w.heap.size w w' := by
  have V : isnV s.data.toList = (!s.data.toList.isEmpty && (decide (s.data.toList.length ≤ 32) && (decide (nmL s.data.toList = s.data.toList.length) && !kwS.contains s.data.toList))) := rfl
  rw [← Lib.size_eq] at V
  have N := Lib.hid fun w => xName_any s w
  have W := Lib.hid fun w hE => xIsWord_any s w hs hE
  have hem : s.toList.isEmpty = s.data.toList.isEmpty := by rw [Lib.toList_data]
  generalize isnV s.data.toList = R at *
  generalize s.data.toList.isEmpty = em at *
  generalize kwS.contains s.data.toList = k at *
  cases em
  · by_cases h1 : s.size ≤ 32
    · have h1' : (s.size : Int) ≤ 32 := by omega
      rw [decide_eq_true h1] at V
      by_cases h2 : nmL s.data.toList = s.size
      · rw [decide_eq_true h2] at V
        rw [h2] at N
        have VV : Hid ((!k) = R) := by show _ = _; rw [V]; simp
        clear V h2
        go_enter Tryz.func14, Tryz.ntmps14
        go_wp2_with fail
        refine (N.out _).mono ?_
        rintro e w1 ⟨rfl, hb⟩
        have HB := Lib.hid hb
        have HE := Lib.hid (hE.below hb)
        clear hb hE N
        go_wp2_with fail
        refine (W.out _ HE.out).mono ?_
        rintro e w2 ⟨rfl, hb⟩
        have HB2 := Lib.hid (bel_trans HB.out hb)
        clear hb
        go_wp2_with fail
        go_ret
        exact ⟨ret_bool VV.out, HB2.out⟩
      · have h2' : ((nmL s.data.toList : Int) == (s.size : Int)) = false := by rw [beq_eq_false_iff_ne]; omega
        rw [decide_eq_false h2] at V
        have VV : Hid (false = R) := by show _ = _; rw [V]; simp
        clear V h2
        go_enter Tryz.func14, Tryz.ntmps14
        go_wp2_with fail
        refine (N.out _).mono ?_
        rintro e w1 ⟨rfl, hb⟩
        have HB := Lib.hid hb
        clear hb hE N
        go_wp2_with fail
        go_ret
        exact ⟨ret_bool VV.out, HB.out⟩
    · have h1' : ¬ (s.size : Int) ≤ 32 := by omega
      rw [decide_eq_false h1] at V
      have VV : Hid (false = R) := by show _ = _; rw [V]; simp
      clear V
      go_enter Tryz.func14, Tryz.ntmps14
      go_wp2_with fail
      go_ret
      exact ⟨ret_bool VV.out, Below.refl _ _⟩
  · have VV : Hid (false = R) := by show _ = _; rw [V]; simp
    clear V
    go_enter Tryz.func14, Tryz.ntmps14
    go_wp2_with fail
    go_ret
    exact ⟨ret_bool VV.out, Below.refl _ _⟩
end Go.Proofs.YtkhddadhkkffnaaGreatDoor
