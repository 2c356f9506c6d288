/-
  The contract of the reference's Sqrt on rows of bits: the root, in 64 bits, and what is left. Conditions: the row has at most 128 bits.
-/
import Derived.Test.YtkdckclefegocaaMHa
import Derived.Test.YtkdckclefegocaaMW2
namespace Go.Proofs.Ytkdckclefegocaa
open Go.RowKit

theorem set_back (rs : List Bool) (i : Nat) (h : rs.getD i false = false) : (rs.set i true).set i false = rs := by
  rw [List.set_set]
  apply List.ext_getElem?
  intro j
  rw [List.getElem?_set]
  split
  · rename_i e
    subst e
    split
    · rename_i hl
      rw [List.getD_eq_getElem?_getD, List.getElem?_eq_getElem hl] at h
      rw [List.getElem?_eq_getElem hl]
      simpa using h.symm
    · rename_i hl
      rw [List.getElem?_eq_none (by omega)]
  · rfl
def IsRoot (a : Int) (rs zs : List Bool) : Prop := 0 ≤ val rs ∧ val rs * val rs ≤ a ∧ a < (val rs + 1) * (val rs + 1) ∧ rs.length = 64 ∧ val zs = a - val rs * val rs

set_option maxHeartbeats 3200000 in
theorem rsqrt_any (A : Option Addr) (n c : Nat) (xs : List Bool) (w : World) (hn : xs.length = n) (hx : Rd w A xs) (ln : n ≤ 128) :
    Calls Try.prog 58 #[.slice A n c] w (RetRow2 (fun rs zs => IsRoot (val xs) rs zs ∧ zs.length = n) w) := by
  have HN := Lib.hid hn
  clear hn
  obtain ⟨r0, hr0⟩ : ∃ r0, r0 = List.replicate 64 false := ⟨_, rfl⟩
  have hmk := run_make_bools 64 64 rfl (by decide) r0 hr0
  have HR0 := Lib.hid hr0
  clear hr0
  have a0 := val_nonneg xs
  have a1 : val xs < 340282366920938463463374607431768211456 := by
    have := val_lt xs
    have h2 := pow_mono xs.length 128 (by rw [HN.out]; exact ln)
    have e128 : (2 : Int) ^ 128 = 340282366920938463463374607431768211456 := by decide
    omega
  generalize hv : val xs = a at *
  have HV := Lib.hid hv
  clear hv
  go_enter Try.func58, Try.ntmps58
  go_wp2_with fail
  clear hmk
  go_loopw [5] (fun s5 wr => ∃ (k : Nat) (rs : List Bool), s5 = .int .i64 ((k : Int) - 1) ∧ k ≤ 64 ∧ Hid (rs.length = 64) ∧ Hid (∀ j, j < k → rs.getD j false = false) ∧ Rt a (val rs) k ∧ Blk wr w.heap.size 4 (rowArr rs) ∧ Hid (Below w.heap.size w wr)) (fun s5 _ => (intOf s5 + 1).toNat)
  case atStart =>
    refine ⟨64, r0, rfl, Nat.le_refl _, by show _ = _; rw [HR0.out]; simp, ?_, ?_, Blk.new _ _ _, bel_alloc (Below.refl _ _) _⟩
    · intro j hj
      rw [HR0.out, List.getD_eq_getElem?_getD, List.getElem?_replicate]
      split <;> rfl
    · rw [HR0.out, val_replicate]
      exact ⟨⟨0, by simp⟩, by omega, by have e64 : (2 : Int) ^ 64 = 18446744073709551616 := by decide
                                        rw [e64]; omega, by decide⟩
  case round =>
    obtain ⟨k, rs, rfl, hk, HL, HZ, R, B, HB⟩ := hrel
    by_cases h0 : k = 0
    · subst h0
      have rw_ := B.row
      have hxr := hx.below HB.out (Nat.le_refl _)
      have lo := R.lo
      have hi := R.hi
      rw [Int.pow_zero] at hi
      have wr0 := R.word
      clear R HZ
      go_wp2_with fail
      refine (rmul_any _ _ 64 64 64 64 rs rs _ HL.out HL.out rw_ rw_ (by decide) (by decide)).mono ?_
      rintro e w2 ⟨ps, A2, c2, hp, rfl, hc2, hm2, hr2, hb2⟩
      have hlp : ps.length ≤ 129 := by have := hp.2; rw [HL.out] at this; omega
      have hxr2 := hxr.below hb2 (Nat.le_refl _)
      have B2 := B.below hb2 B.lt
      have D2 := Lib.hid (bel_trans HB.out hb2)
      have HP := Lib.hid hp.1
      clear hp hb2 HB B rw_ hxr
      generalize hpz : ps.length = pz at *
      have HPZ := Lib.hid hpz
      clear hpz
      go_wp2_with fail
      refine (rsub_any A A2 n pz c c2 xs ps (n : Int) _ HN.out HPZ.out hxr2 hr2 (by omega) (by omega) (by omega) (by omega)).mono ?_
      rw [Int.toNat_natCast]
      rintro e w3 ⟨zs, lb, A3, c3, hs, rfl, hc3, hm3, hr3, hb3⟩
      have B3 := B2.below hb3 B2.lt
      have D3 := Lib.hid (bel_trans D2.out hb3)
      have fin : IsRoot a rs zs := by
        refine ⟨wr0.1, lo, hi, HL.out, ?_⟩
        have e1 := hs.eq
        rw [List.take_of_length_le (by rw [HN.out]; exact Nat.le_refl _), HV.out, val_take_small (by rw [HP.out, ← HN.out]; have := val_lt xs; rw [HV.out] at this; omega), HP.out] at e1
        have n0 := val_nonneg zs
        have n1 := val_lt zs
        rw [hs.len] at n1
        cases lb
        · simp at e1
          omega
        · simp at e1
          omega
      have hlz := hs.len
      have HLZ := Lib.hid hlz
      clear hs hb3 B2 D2 hlz hxr2 hr2 lo hi
      generalize hzz : zs.length = zz at *
      have HZZ := Lib.hid hzz
      clear hzz
      go_wp2_with fail
      go_ret2
      exact ⟨rs, zs, some ⟨w.heap.size, 0, none⟩, A3, 64, c3, ⟨fin, by rw [HZZ.out]; exact HLZ.out⟩, by rw [HL.out, HZZ.out]; rfl, by rw [HL.out]; exact Nat.le_refl _, by rw [HZZ.out]; exact hc3, B3.row, hr3, D3.out⟩
    · obtain ⟨i, rfl⟩ : ∃ i, k = i + 1 := ⟨k - 1, by omega⟩
      have e1 : ((i + 1 : Nat) : Int) - 1 = (i : Int) := by omega
      rw [e1]
      clear e1 h0
      have hb := HZ.out i (by omega)
      have c0 : wr.cell? ⟨w.heap.size, i, none⟩ = some (.bool (rs.getD i false)) := (B.cell i).trans (rowArr_get rs i (by rw [HL.out]; omega))
      have c1 := B.frozen i
      have hi1 : (i : Int) < 64 := by omega
      rw [hb] at c0
      have hvs := val_set rs i (by rw [HL.out]; omega) hb
      have hsb := set_back rs i hb
      have B1 := B.set_ i (.bool true)
      rw [rowArr_set] at B1
      have Dn : Below w.heap.size w (wr.setCell ⟨w.heap.size, i, none⟩ (.bool true)) := bel_set HB.out (Nat.le_refl _) _
      have HVS := Lib.hid hvs
      have HSB := Lib.hid hsb
      have HL1 : Hid ((rs.set i true).length = 64) := by show _ = _; rw [List.length_set]; exact HL.out
      have HZ1 : Hid (∀ j, j < i → (rs.set i true).getD j false = false) := fun j hj => by
        rw [List.getD_eq_getElem?_getD, List.getElem?_set_ne (by omega), ← List.getD_eq_getElem?_getD]
        exact HZ.out j (by omega)
      have HZ0 : Hid (∀ j, j < i → rs.getD j false = false) := fun j hj => HZ.out j (by omega)
      have DN := Lib.hid Dn
      clear hvs hsb hb B HZ HB Dn
      go_wp2_with fail
      generalize wr.setCell ⟨w.heap.size, i, none⟩ (.bool true) = W1 at *
      have hxr := hx.below DN.out (Nat.le_refl _)
      refine (rmul_any _ _ 64 64 64 64 (rs.set i true) (rs.set i true) _ HL1.out HL1.out B1.row B1.row (by decide) (by decide)).mono ?_
      rintro e w2 ⟨ps, A2, c2, hp, rfl, hc2, hm2, hr2, hb2⟩
      have hlp : ps.length ≤ 129 := by have := hp.2; rw [HL1.out] at this; omega
      have hxr2 := hxr.below hb2 (Nat.le_refl _)
      have B2 := B1.below hb2 B1.lt
      have D2 := Lib.hid (bel_trans DN.out hb2)
      have hp1 := hp.1
      rw [HVS.out] at hp1
      have HP := Lib.hid hp1
      clear hp hp1 hb2 B1 DN hxr c0 c1
      generalize hpz : ps.length = pz at *
      have HPZ := Lib.hid hpz
      clear hpz
      go_wp2_with fail
      refine (rcmp_any A2 A pz n c2 c ps xs _ HPZ.out HN.out hr2 hxr2 (by omega) (by omega)).mono ?_
      rw [HP.out, HV.out]
      rintro e w3 ⟨rfl, rfl⟩
      clear hr2 hxr2
      by_cases hc : (val rs + 2 ^ i) * (val rs + 2 ^ i) ≤ a
      · have R2 := R.yes hc
        rw [← HVS.out] at R2
        have tc : decide (0 < cmpI ((val rs + 2 ^ i) * (val rs + 2 ^ i)) a) = false := by simp only [decide_eq_false_iff_not]; unfold cmpI; split <;> (try split) <;> omega
        clear hc R HP HVS
        go_wp2_with fail
        go_roundw
        case rel => exact ⟨i, rs.set i true, rfl, by omega, HL1, HZ1, R2, B2, D2⟩
        case measure => simp [intOf]
      · have R2 := R.no hc
        have tc : decide (0 < cmpI ((val rs + 2 ^ i) * (val rs + 2 ^ i)) a) = true := by simp only [decide_eq_true_eq]; unfold cmpI; split <;> (try split) <;> omega
        have c0 : w2.cell? ⟨w.heap.size, i, none⟩ = some (.bool ((rs.set i true).getD i false)) := (B2.cell i).trans (rowArr_get _ i (by rw [HL1.out]; omega))
        have c1 := B2.frozen i
        have B3 := B2.set_ i (.bool false)
        rw [rowArr_set, HSB.out] at B3
        have D3 : Hid (Below w.heap.size w (w2.setCell ⟨w.heap.size, i, none⟩ (.bool false))) := bel_set D2.out (Nat.le_refl _) _
        generalize (rs.set i true).getD i false = old at *
        clear hc R HP HVS B2 D2
        go_wp2_with fail
        go_roundw
        case rel => exact ⟨i, rs, rfl, by omega, HL, HZ0, R2, B3, D3⟩
        case measure => simp [intOf]
end Go.Proofs.Ytkdckclefegocaa
