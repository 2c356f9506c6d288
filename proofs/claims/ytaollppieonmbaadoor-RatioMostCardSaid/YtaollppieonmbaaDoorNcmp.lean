/-
  Contracts of nat's Cmp and Len: how numbers compare, and how many bits there are. Conditions: at most 2^20 words, each of 32 bits.
-/
import Derived.Test.YtaollppieonmbaaDoorNword
namespace Go.Proofs.YtaollppieonmbaaDoor
open Go.RowKit

theorem cmpU32_q (a b : Int) (w : World) : Calls Tryd.prog 71 #[.int .u32 a, .int .u32 b] w fun e w' => e = .returned (.int .i64 (cmpI a b)) ∧ w' = w := (cmpU32_any a b w).mono fun _ _ h => ⟨h.1, h.2.symm⟩

set_option maxHeartbeats 1600000 in
theorem ncmp_any (A B : Option Addr) (n m c d : Nat) (us vs : List Int) (w : World) (hn : us.length = n) (hm : vs.length = m) (hc : n ≤ c) (hd : m ≤ d) (hx : Rn w A us) (hy : Rn w B vs) (hu : AllW us) (hv : AllW vs) (ln : n ≤ 1048577) (lm : m ≤ 1048577) :
    Calls Tryd.prog 54 #[.slice A n c, .slice B m d] w fun e w' => e = .returned (.int .i64 (cmpI (nv us) (nv vs))) ∧ Below w.heap.size w w' := by
  have HN := Lib.hid hn
  have HM := Lib.hid hm
  obtain ⟨va, hva⟩ : ∃ va, nv us = va := ⟨_, rfl⟩
  obtain ⟨vb, hvb⟩ : ∃ vb, nv vs = vb := ⟨_, rfl⟩
  rw [hva, hvb]
  have HVA := Lib.hid hva
  have HVB := Lib.hid hvb
  clear hn hm hva hvb
  go_enter Tryd.func54, Tryd.ntmps54
  go_wp2_with fail
  refine (trim_any A n c us w HN.out hc hx (by omega)).mono ?_
  rintro e w1 ⟨us', A1, n1, c1, TU, rfl, hc1, hx1, -, rfl⟩
  go_wp2_with fail
  refine (trim_any B m d vs w HM.out hd hy (by omega)).mono ?_
  rintro e w1 ⟨vs', B1, m1, d1, TV, rfl, hd1, hy1, -, rfl⟩
  have a1 := (TU.nat hu).all
  have a2 := (TV.nat hv).all
  have HVA' : Hid (nv us' = va) := (TU.nat hu).val.trans HVA.out
  have HVB' : Hid (nv vs' = vb) := (TV.nat hv).val.trans HVB.out
  have T1 := Lib.hid TU.tl
  have T2 := Lib.hid TV.tl
  have ln1 := TU.le HN.out
  have lm1 := TV.le HM.out
  have HN1 := Lib.hid TU.len
  have HM1 := Lib.hid TV.len
  clear TU TV hx hy hu hv HVA HVB
  go_wp2_with fail
  refine (cmpInt_any (n1 : Int) (m1 : Int) _).mono ?_
  rintro e w1 ⟨rfl, rfl⟩
  rcases Nat.lt_trichotomy n1 m1 with h | h | h
  · have e0 : cmpI (n1 : Int) (m1 : Int) = -1 := cmpI_lt (by omega)
    have F : Hid (cmpI va vb = -1) := by
      rw [← HVA'.out, ← HVB'.out]
      refine cmpI_lt ?_
      have h1 := tlen_lt us' a1
      have h2 := tlen_pos a2 (by rw [T2.out]; omega)
      rw [T1.out] at h1
      rw [T2.out] at h2
      have := pow_mono (32 * n1) (32 * (m1 - 1)) (by omega)
      omega
    rw [e0]
    clear e0
    go_wp2_with fail
    go_ret
    exact ⟨ret_int F.out.symm, Below.refl _ _⟩
  · subst h
    have e0 : cmpI (n1 : Int) (n1 : Int) = 0 := cmpI_eq _
    rw [e0]
    clear e0
    go_wp2_with fail
    go_loopw [23] (fun s23 wr => ∃ k : Nat, s23 = .int .i64 (k : Int) ∧ k ≤ n1 ∧ Hid (∀ j, n1 - k ≤ j → us'.getD j 0 = vs'.getD j 0) ∧ Hid (Below w.heap.size w wr)) (fun s23 _ => n1 - (intOf s23).toNat)
    case atStart => exact ⟨0, rfl, Nat.zero_le _, fun j hj => by rw [getD0_past us' j (by rw [HN1.out]; omega), getD0_past vs' j (by rw [HM1.out]; omega)], Below.refl _ _⟩
    case round =>
      obtain ⟨k, rfl, hk, H, HB⟩ := hrel
      by_cases hlt : k < n1
      · obtain ⟨i, hi⟩ : ∃ i, n1 - k = i + 1 := ⟨n1 - k - 1, by omega⟩
        have hxr := hx1.below HB.out (Nat.le_refl _)
        have hyr := hy1.below HB.out (Nat.le_refl _)
        obtain ⟨g, off, rfl, hg, hcell⟩ := hxr.at_ (i := i) (by have := HN1.out; omega)
        obtain ⟨g2, off2, rfl, hg2, hcell2⟩ := hyr.at_ (i := i) (by have := HM1.out; omega)
        have e1 : (n1 : Int) - 1 - (k : Int) = (i : Int) := by omega
        have hi1 : (i : Int) < (n1 : Int) := by omega
        have KEY : Hid (∀ j, i < j → us'.getD j 0 = vs'.getD j 0) := fun j hj => H.out j (by omega)
        obtain ⟨x, hxx⟩ : ∃ x, us'.getD i 0 = x := ⟨_, rfl⟩
        obtain ⟨y, hyy⟩ : ∃ y, vs'.getD i 0 = y := ⟨_, rfl⟩
        rw [hxx] at hcell
        rw [hyy] at hcell2
        have HX := Lib.hid hxx
        have HY := Lib.hid hyy
        clear hxx hyy H hxr hyr
        go_upto_region 9 with fail
        go_quiet ((go_at_call 71; exact Calls.quiet_of_same (cmpU32_q _ _ _)))
        rcases Int.lt_trichotomy x y with h | h | h
        · have F : Hid (cmpI va vb = -1) := by rw [← HVA'.out, ← HVB'.out]; exact cmpI_lt (nv_diff i vs' us' a2 a1 (fun j hj => (KEY.out j hj).symm) (by rw [HX.out, HY.out]; exact h))
          have e0 : cmpI x y = -1 := cmpI_lt h
          rw [e0]
          clear e0
          go_wp2_with fail
          go_ret
          exact ⟨ret_int F.out.symm, bel_drewN HB.out _⟩
        · subst h
          have e0 : cmpI x x = 0 := cmpI_eq _
          rw [e0]
          have H2 : Hid (∀ j, n1 - (k + 1) ≤ j → us'.getD j 0 = vs'.getD j 0) := fun j hj => by
            rcases Nat.eq_or_lt_of_le (show i ≤ j by omega) with e | e
            · subst e; rw [HX.out, HY.out]
            · exact KEY.out j e
          clear e0
          go_wp2_with fail
          go_roundw
          case rel => exact ⟨k + 1, by go_num, by omega, H2, bel_drewN HB.out _⟩
          case measure => simp [intOf]; omega
        · have F : Hid (cmpI va vb = 1) := by rw [← HVA'.out, ← HVB'.out]; exact cmpI_gt (nv_diff i us' vs' a1 a2 (fun j hj => KEY.out j hj) (by rw [HX.out, HY.out]; exact h))
          have e0 : cmpI x y = 1 := cmpI_gt h
          rw [e0]
          clear e0
          go_wp2_with fail
          go_ret
          exact ⟨ret_int F.out.symm, bel_drewN HB.out _⟩
      · have F : Hid (cmpI va vb = 0) := by
          show _ = _
          rw [← HVA'.out, ← HVB'.out, nv_same us' vs' fun j => H.out j (by omega), cmpI_eq]
        go_wp2_with fail
        go_ret
        exact ⟨ret_int F.out.symm, HB.out⟩
  · have e0 : cmpI (n1 : Int) (m1 : Int) = 1 := cmpI_gt (by omega)
    have F : Hid (cmpI va vb = 1) := by
      rw [← HVA'.out, ← HVB'.out]
      refine cmpI_gt ?_
      have h1 := tlen_lt vs' a2
      have h2 := tlen_pos a1 (by rw [T1.out]; omega)
      rw [T2.out] at h1
      rw [T1.out] at h2
      have := pow_mono (32 * m1) (32 * (n1 - 1)) (by omega)
      omega
    rw [e0]
    clear e0
    go_wp2_with fail
    go_ret
    exact ⟨ret_int F.out.symm, Below.refl _ _⟩
end Go.Proofs.YtaollppieonmbaaDoor
