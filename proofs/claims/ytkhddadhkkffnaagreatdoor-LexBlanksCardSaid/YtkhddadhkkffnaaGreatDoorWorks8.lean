/-
  What works of layer 8 says: true; and flyballlaw08.text. Conditions: the listed tables stand.
-/
import Derived.Test.YtkhddadhkkffnaaGreatDoorMXc
import Derived.Test.YtkhddadhkkffnaaGreatDoorMRc
namespace Go.Proofs.YtkhddadhkkffnaaGreatDoor
open Go.RowKit
set_option maxRecDepth 100000

theorem ascii_of {s : ByteArray} (h : (s.data.toList.all fun b => decide (b.toNat < 128)) = true) : Ascii s := fun j b hj => by
  have := List.all_eq_true.1 h b (List.mem_of_getElem? hj)
  exact of_decide_eq_true this
/-- The same, reckoned step by step. -/
def itF (z : Int) : List UInt8 := if z < 0 then 45 :: decF 20 z.natAbs else decF 20 z.toNat
theorem itF_is {z : Int} (h : -100000 ≤ z ∧ z ≤ 100000) : Lib.itoa z = itF z := by
  unfold Lib.itoa itF
  rw [dec20 (by omega), dec20 (by omega)]
def loF (d : List UInt8) (q : Int) : List UInt8 :=
  if 0 ≤ q ∧ d.length + q ≤ 21 then d ++ nts q.toNat ++ [46, 48]
  else if q < 0 ∧ 0 < d.length + q then d.take (d.length + q).toNat ++ 46 :: d.drop (d.length + q).toNat
  else if d.length + q ≤ 0 ∧ -5 ≤ d.length + q then 48 :: 46 :: (nts (-(d.length + q)).toNat ++ d)
  else d.take 1 ++ (if d.drop 1 = [] then [] else [46]) ++ d.drop 1 ++ 101 :: itF (d.length + q - 1)
def prF (f : Int) : List UInt8 :=
  if fC f = 4 then [110, 97, 110] else (if fS f then [45] else []) ++ (if fC f = 3 then [105, 110, 102] else if fC f = 0 then [48, 46, 48] else loF (dgD f) (dgQ f))
theorem prF_is {f : Int} (hf : Word f) : prT f = prF f := by
  unfold prT prF
  by_cases hc : fC f = 1 ∨ fC f = 2
  · obtain ⟨k1, k2, k3, k4, -⟩ := dg_known hf hc
    unfold loT loF
    rw [itF_is (by omega)]
  · have := cls_bd f
    by_cases h4 : fC f = 4
    · rw [if_pos h4, if_pos h4]
    · rw [if_neg h4, if_neg h4]
      by_cases h3 : fC f = 3
      · rw [if_pos h3, if_pos h3]
      · rw [if_neg h3, if_neg h3, if_pos (show fC f = 0 by omega), if_pos (show fC f = 0 by omega)]
theorem pr_call (f : Int) (l : List UInt8) (hf : Word f) (h : prF f = l) (w : World) (hE : EnvOk w) : Calls Tryz.prog 28 #[.int .u64 f] w fun x w' => x = .returned (.string ⟨l.toArray⟩) ∧ Below w.heap.size w w' := by
  have := print_any f hf w hE
  rw [prF_is hf, h] at this
  exact this
theorem ps_call (l : List UInt8) (f e : Int) (hl : l.length ≤ 400) (ha : (l.all fun b => decide (b.toNat < 128)) = true) (hf : psF l = f) (he : psE l = e) (w : World) (hE : EnvOk w) : Calls Tryz.prog 87 #[.string ⟨l.toArray⟩] w fun x w' => x = .returned (.tuple #[.int .u64 f, .int .i64 e]) ∧ Below w.heap.size w w' := by
  have := parse_any ⟨l.toArray⟩ w (by rw [str_size]; omega) (ascii_of ha) hE
  rw [str_data, hf, he] at this
  exact this
end Go.Proofs.YtkhddadhkkffnaaGreatDoor
