/-
  What works of layer 8 says: true; and flyballlaw08.text. Conditions: the listed tables stand.
-/
import Derived.Test.YthofjlgngandoaaGreatDoorDigh
import Derived.Test.YthofjlgngandoaaGreatDoorMRc
namespace Go.Proofs.YthofjlgngandoaaGreatDoor
open Go.RowKit
set_option maxRecDepth 100000

theorem ascii_of {s : ByteArray} (h : (s.data.toList.all fun b => decide (b.toNat < 128)) = true) : Ascii s := fun j b hj => by
  have := List.all_eq_true.1 h b (List.mem_of_getElem? hj)
  exact of_decide_eq_true this
/-- The same, reckoned step by step. -/
def itF (z : Int) : List UInt8 := if z < 0 then 45 :: decF 20 z.natAbs else decF 20 z.toNat
theorem itF_is {z : Int} (h : -100000 ≤ z ∧ z ≤ 100000) : Lib.itoa z = itF z := by
  unfold Lib.itoa itF
  rw [dec20 (by omega), dec20 (by omega)]
def loF (d : List UInt8) (q : Int) : List UInt8 :=
  if 0 ≤ q ∧ d.length + q ≤ 21 then d ++ nts q.toNat ++ [46, 48]
  else if q < 0 ∧ 0 < d.length + q then d.take (d.length + q).toNat ++ 46 :: d.drop (d.length + q).toNat
  else if d.length + q ≤ 0 ∧ -5 ≤ d.length + q then 48 :: 46 :: (nts (-(d.length + q)).toNat ++ d)
  else d.take 1 ++ (if d.drop 1 = [] then [] else [46]) ++ d.drop 1 ++ 101 :: itF (d.length + q - 1)
def prF (f : Int) : List UInt8 :=
  if fC f = 4 then [110, 97, 110] else (if fS f then [45] else []) ++ (if fC f = 3 then [105, 110, 102] else if fC f = 0 then [48, 46, 48] else loF (dgD f) (dgQ f))
theorem prF_is {f : Int} (hf : Word f) : prT f = prF f := by
  unfold prT prF
  by_cases hc : fC f = 1 ∨ fC f = 2
  · obtain ⟨k1, k2, k3, k4, -⟩ := dg_known hf hc
    unfold loT loF
    rw [itF_is (by omega)]
  · have := cls_bd f
    by_cases h4 : fC f = 4
    · rw [if_pos h4, if_pos h4]
    · rw [if_neg h4, if_neg h4]
      by_cases h3 : fC f = 3
      · rw [if_pos h3, if_pos h3]
      · rw [if_neg h3, if_neg h3, if_pos (show fC f = 0 by omega), if_pos (show fC f = 0 by omega)]
theorem pr_call (f : Int) (l : List UInt8) (hf : Word f) (h : prF f = l) (w : World) (hE : EnvOk w) : Calls Tryz.prog 16 #[.int .u64 f] w fun x w' => x = .returned (.string ⟨l.toArray⟩) ∧ Below w.heap.size w w' := by
  have := print_any f hf w hE
  rw [prF_is hf, h] at this
  exact this
theorem ps_call (l : List UInt8) (f e : Int) (hl : l.length ≤ 400) (ha : (l.all fun b => decide (b.toNat < 128)) = true) (hf : psF l = f) (he : psE l = e) (w : World) (hE : EnvOk w) : Calls Tryz.prog 14 #[.string ⟨l.toArray⟩] w fun x w' => x = .returned (.tuple #[.int .u64 f, .int .i64 e]) ∧ Below w.heap.size w w' := by
  have := parse_any ⟨l.toArray⟩ w (by rw [str_size]; omega) (ascii_of ha) hE
  rw [str_data, hf, he] at this
  exact this
set_option maxHeartbeats 8000000 in
theorem works8 (w : World) (hE : EnvOk w) : Calls Tryz.prog 6 #[] w fun e w' => e = .returned (.bool true) ∧ Below w.heap.size w w' := by
  have A1 := Lib.hid fun w hE => ps_call [48, 46, 49] 4591870180066957722 0 (by decide) (by decide) (by decide +kernel) (by decide +kernel) w hE
  have A2 := Lib.hid fun w hE => ps_call [49, 101, 51, 48, 57] 0 82 (by decide) (by decide) (by decide +kernel) (by decide +kernel) w hE
  have A3 := Lib.hid fun w hE => ps_call [46, 53] 0 80 (by decide) (by decide) (by decide +kernel) (by decide +kernel) w hE
  have D1 : Hid (∀ w, EnvOk w → Calls Tryz.prog 17 #[.int .u64 4609434218613702656] w fun x w' => x = .returned (.tuple #[.string ⟨#[49, 53]⟩, .int .i64 (-1)]) ∧ Below w.heap.size w w') := by
    intro w hE
    have := digits_any 4609434218613702656 ⟨by decide, by decide⟩ w hE
    rw [show dgD 4609434218613702656 = [49, 53] by decide +kernel, show dgQ 4609434218613702656 = -1 by decide +kernel] at this
    exact this
  have B1 := Lib.hid fun w hE => pr_call 4591870180066957722 [48, 46, 49] ⟨by decide, by decide⟩ (by decide +kernel) w hE
  have B2 := Lib.hid fun w hE => pr_call 1 [53, 101, 45, 51, 50, 52] ⟨by decide, by decide⟩ (by decide +kernel) w hE
  have B3 := Lib.hid fun w hE => pr_call 4845873199050653696 [57, 48, 48, 55, 49, 57, 57, 50, 53, 52, 55, 52, 48, 57, 57, 50, 46, 48] ⟨by decide, by decide⟩ (by decide +kernel) w hE
  have B4 := Lib.hid fun w hE => pr_call 9223372036854775808 [45, 48, 46, 48] ⟨by decide, by decide⟩ (by decide +kernel) w hE
  have B5 := Lib.hid fun w hE => pr_call 4921056587992461136 [49, 101, 50, 49] ⟨by decide, by decide⟩ (by decide +kernel) w hE
  go_enter Tryz.func6, Tryz.ntmps6
  go_wp2_with fail
  refine (A1.out _ hE).mono ?_
  rintro x w1 ⟨rfl, hb1⟩
  have HB1 := Lib.hid hb1
  clear hb1
  go_wp2_with fail
  refine (A2.out _ (hE.below HB1.out)).mono ?_
  rintro x w2 ⟨rfl, hb2⟩
  have HB2 := Lib.hid (bel_trans HB1.out hb2)
  clear hb2 HB1
  go_wp2_with fail
  refine (A3.out _ (hE.below HB2.out)).mono ?_
  rintro x w3 ⟨rfl, hb3⟩
  have HB3 := Lib.hid (bel_trans HB2.out hb3)
  clear hb3 HB2
  go_wp2_with fail
  refine (D1.out _ (hE.below HB3.out)).mono ?_
  rintro x w4 ⟨rfl, hb4⟩
  have HB4 := Lib.hid (bel_trans HB3.out hb4)
  clear hb4 HB3
  go_wp2_with fail
  refine (B1.out _ (hE.below HB4.out)).mono ?_
  rintro x w5 ⟨rfl, hb5⟩
  have HB5 := Lib.hid (bel_trans HB4.out hb5)
  clear hb5 HB4
  go_wp2_with fail
  refine (B2.out _ (hE.below HB5.out)).mono ?_
  rintro x w6 ⟨rfl, hb6⟩
  have HB6 := Lib.hid (bel_trans HB5.out hb6)
  clear hb6 HB5
  go_wp2_with fail
  refine (B3.out _ (hE.below HB6.out)).mono ?_
  rintro x w7 ⟨rfl, hb7⟩
  have HB7 := Lib.hid (bel_trans HB6.out hb7)
  clear hb7 HB6
  go_wp2_with fail
  refine (B4.out _ (hE.below HB7.out)).mono ?_
  rintro x w8 ⟨rfl, hb8⟩
  have HB8 := Lib.hid (bel_trans HB7.out hb8)
  clear hb8 HB7
  go_wp2_with fail
  refine (B5.out _ (hE.below HB8.out)).mono ?_
  rintro x w9 ⟨rfl, hb9⟩
  have HB9 := Lib.hid (bel_trans HB8.out hb9)
  clear hb9 HB8
  go_wp2_with fail
  go_ret
  exact ⟨rfl, HB9.out⟩
/-- flyballlaw08.text: a number's digits, perhaps with a sign. -/
theorem text8 (p : Int) (hp : -9223372036854775808 ≤ p ∧ p ≤ 9223372036854775807) (w : World) (hE : EnvOk w) : Calls Tryz.prog 9 #[.int .i64 p] w fun e w' => (∃ s : ByteArray, IsRText (intR p) s.data.toList ∧ e = .returned (.string s)) ∧ Below w.heap.size w w' := by
  go_enter Tryz.func9, Tryz.ntmps9
  go_wp2_with fail
  refine (int_any p hp w).mono ?_
  rintro x w1 ⟨x1, y1, z1, r1, rfl, hb1⟩
  have HB1 := Lib.hid hb1
  clear hb1
  obtain ⟨s1, A1, n1, c1, B1, m1, d1, rfl, rfl, rfl⟩ := r1.form
  go_wp2_with fail
  refine (qtext_any r1.v (by decide) (by decide) (hE.tab.below HB1.out)).mono ?_
  rintro x w2 ⟨⟨s, hs, rfl⟩, hb2⟩
  have HB2 := Lib.hid (bel_trans HB1.out hb2)
  clear hb2
  go_wp2_with fail
  go_ret
  exact ⟨⟨s, hs, rfl⟩, HB2.out⟩
end Go.Proofs.YthofjlgngandoaaGreatDoor
