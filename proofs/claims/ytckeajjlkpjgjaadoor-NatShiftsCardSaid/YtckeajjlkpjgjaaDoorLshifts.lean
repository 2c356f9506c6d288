/-
  The walk of NatShifts: for every number, shift and place the law answers true, and nothing that was there has changed. Condition: the table of math/bits stands in its variable.
-/
import Derived.Test.YtckeajjlkpjgjaaDoorQtext
namespace Go.Proofs.YtckeajjlkpjgjaaDoor
open Go.RowKit

theorem val_bit (xs : List Bool) (i : Nat) : val xs / 2 ^ i % 2 = if xs.getD i false then 1 else 0 := by
  rcases Nat.lt_or_ge i xs.length with h | h
  · rw [← (val_drop xs i (by omega)).1, List.drop_eq_getElem_cons h, List.getD_eq_getElem?_getD, List.getElem?_eq_getElem h]
    generalize xs[i] = b
    cases b <;> simp [val] <;> omega
  · rw [List.getD_eq_getElem?_getD, List.getElem?_eq_none h]
    have h1 := val_lt xs
    have h2 := pow_mono xs.length i h
    rw [Int.ediv_eq_zero_of_lt (val_nonneg xs) (by omega)]
    rfl
theorem bitN_row (xs : List Bool) (i : Int) : bitN (val xs) i = if bitAt xs i then 1 else 0 := by
  unfold bitN bitAt
  by_cases h : i < 0
  · rw [if_pos h, decide_eq_false (show ¬ 0 ≤ i by omega)]
    rfl
  · rw [if_neg h, decide_eq_true (show 0 ≤ i by omega), Bool.true_and]
    exact val_bit xs i.toNat

set_option maxRecDepth 100000 in
set_option maxHeartbeats 20000000 in
theorem shifts_walk (A : Option Addr) (n c : Nat) (us : List Int) (N i : Int) (w : World) (hn : us.length = n) (hc : n ≤ c) (hx : Rn w A us) (hu : AllW us) (hN : -9223372036854775808 ≤ N ∧ N ≤ 9223372036854775807) (hi : -9223372036854775808 ≤ i ∧ i ≤ 9223372036854775807) (hT : TabOk w) :
    Calls Tryd.prog 5 #[.slice A n c, .int .i64 N, .int .i64 i] w fun e w' => e = .returned (.bool true) ∧ Below w.heap.size w w' := by
  have HA := Lib.hid hn
  have HT := Lib.hid hT
  obtain ⟨hN0, hN1⟩ := hN
  obtain ⟨hi0, hi1⟩ := hi
  clear hn hT
  go_enter Tryd.func5, Tryd.ntmps5
  go_wp2_with fail
  refine (works2 w HT.out).mono ?_
  rintro e w1 ⟨rfl, hb1⟩
  have hx1 := hx.below hb1 (Nat.le_refl _)
  go_wp2_with fail
  refine (small_any w1.heap.size 1 [(A, n, c)] rfl (by decide) _ (by simp) ?hc).mono ?_
  case hc =>
    intro i p hp
    rcases i with _ | i
    · simp at hp; subst hp; simp [go_sem]
    · simp at hp
  rintro e w2 ⟨rfl, rfl⟩
  have HB2 := Lib.hid (bel_alloc hb1 (.cells #[.slice A n c] 23))
  have hx2 := hx1.alloc (.cells #[.slice A n c] 23)
  generalize w1.alloc (.cells #[.slice A n c] 23) = w2 at *
  clear hb1 hx1 hx
  by_cases hs : n ≤ 24
  · have e0 : smallB [(A, n, c)] = true := by simp [smallB]; omega
    rw [e0]
    clear e0
    obtain ⟨BB, hBB⟩ : ∃ BB : Nat, BB = 768 := ⟨_, rfl⟩
    have hB2 : BB ≤ 768 := by omega
    obtain ⟨x, ha⟩ : ∃ x, nv us = x := ⟨_, rfl⟩
    have VA := Lib.hid ha
    have x0 : 0 ≤ x := by rw [← ha]; exact nv_nonneg _ hu
    have xb : Hid (x < 2 ^ BB) := by
      show _ < _
      have h1 := in_bd hu HA.out hs 24 (Nat.le_refl _)
      rw [ha] at h1
      rw [hBB]
      exact h1
    clear ha hBB
    go_wp2_with fail
    refine (rbits_any A n c us _ HA.out hx2 hu (by omega)).mono ?_
    rw [VA.out]
    rintro e w3 ⟨xs, X, cx, px, rfl, hcx, hmx, rx, hb3⟩
    have hx3 := hx2.below hb3 (Nat.le_refl _)
    have HB3 := Lib.hid (bel_trans HB2.out hb3)
    have VX := Lib.hid px.val
    obtain ⟨L, lx⟩ : ∃ n, xs.length = n := ⟨_, rfl⟩
    have lL : L ≤ 768 := by rw [← lx]; exact Nat.le_trans (px.le x0 xb.out) hB2
    have BL : Hid (blen x = (L : Int)) := by show _ = _; rw [← lx]; exact px.len.symm
    rw [lx] at hcx ⊢
    have LX := Lib.hid lx
    clear lx px hb3 HB2 hx2
    obtain ⟨M, hM⟩ := Int.eq_ofNat_of_zero_le (show 0 ≤ max N 0 by omega)
    obtain ⟨K, hK⟩ : ∃ K : Nat, min (M : Int) (L : Int) = (K : Int) := ⟨min M L, by omega⟩
    have hKL : K ≤ L := by omega
    have KK : Hid (K = min M L) := by show _ = _; omega
    go_upto_region 9 with fail
    go_cut [11] (fun s wx => s = .bool true ∧ Below w3.heap.size w3 wx)
    case first =>
      have QE : Hid (x / 2 ^ M = val (xs.drop K)) := by
        show _ = _
        rw [(val_drop xs K (by rw [LX.out]; exact hKL)).1, VX.out]
        rcases Nat.lt_or_ge L M with h | h
        · have e : K = L := by rw [KK.out]; omega
          have h1 := val_lt xs
          rw [VX.out, LX.out] at h1
          have h2 := pow_mono L M (by omega)
          rw [e, Int.ediv_eq_zero_of_lt x0 (by omega), Int.ediv_eq_zero_of_lt x0 h1]
        · have e : K = M := by rw [KK.out]; omega
          rw [e]
      have CS := Lib.hid (nshr_any A n c us N w3.drew HA.out hc hx3.drew hu (by omega) hN1)
      rw [VA.out, hM, Int.toNat_natCast, QE.out] at CS
      have NZ : Hid (∀ zs, IsNat (val (xs.drop K)) zs → zs.length ≤ 24) := by
        show ∀ zs, _ → _
        intro zs hz
        refine hz.le ?_
        have h1 := val_lt (xs.drop K)
        rw [List.length_drop, LX.out] at h1
        have h2 := pow_mono (L - K) (32 * 24) (by omega)
        omega
      have LR : Hid ((xs.drop K).length = L - K) := by show _ = _; rw [List.length_drop, LX.out]
      have hKc : (K : Int) ≤ (cx : Int) := by omega
      clear QE KK hM
      by_cases hlt : K < L
      · obtain ⟨g, off, rfl, hg, _⟩ := rx.at_ (i := K) (by rw [LX.out]; exact hlt)
        have ry := (rx.dropAt K).drew
        have hKc2 : ¬ cx = K := by omega
        clear rx
        generalize xs.drop K = ys at *
        go_region_with
          (first
            | (go_at_call 26; refine CS.out.mono ?_; rintro e w4 ⟨zs, Z, nz, cz, hz, hl, rfl, hcz, rz, -, hb⟩; have HZ := Lib.hid hl; have lz := NZ.out zs hz; rw [hl] at lz; clear hl)
            | (go_at_call 14; refine (isr_any Z _ nz (L - K) cz _ zs ys _ HZ.out LR.out rz (ry.below hb (Nat.le_refl _)) (by omega) (by omega) hz).mono ?_; rintro e w5 ⟨rfl, hb5⟩))
        all_goals
          go_wp2_with fail
          go_meet
          exact ⟨rfl, bel_trans (bel_trans (bel_drew (Below.refl w3.heap.size w3)) hb) hb5⟩
      · have ey : xs.drop K = [] := List.drop_eq_nil_of_le (by rw [LX.out]; omega)
        have ry : ∀ B w', Rd w' B (xs.drop K) := fun B w' => .inl ey
        have RY := Lib.hid ry
        have LR0 : Hid ((xs.drop K).length = 0) := by show _ = _; rw [ey]; rfl
        clear ry ey
        generalize xs.drop K = ys at *
        rcases X with _ | X
        · go_region_with
            (first
              | (go_at_call 26; refine CS.out.mono ?_; rintro e w4 ⟨zs, Z, nz, cz, hz, hl, rfl, hcz, rz, -, hb⟩; have HZ := Lib.hid hl; have lz := NZ.out zs hz; rw [hl] at lz; clear hl)
              | (go_at_call 14; refine (isr_any Z _ nz (L - K) cz _ zs ys _ HZ.out LR.out rz (RY.out _ _) (by omega) (by omega) hz).mono ?_; rintro e w5 ⟨rfl, hb5⟩))
          all_goals
            go_wp2_with fail
            go_meet
            exact ⟨rfl, bel_trans (bel_trans (bel_drew (Below.refl w3.heap.size w3)) hb) hb5⟩
        by_cases hcK : cx = K
        · subst hcK
          go_region_with
            (first
              | (go_at_call 26; refine CS.out.mono ?_; rintro e w4 ⟨zs, Z, nz, cz, hz, hl, rfl, hcz, rz, -, hb⟩; have HZ := Lib.hid hl; have lz := NZ.out zs hz; rw [hl] at lz; clear hl)
              | (go_at_call 14; refine (isr_any Z _ nz 0 cz _ zs ys _ HZ.out LR0.out rz (RY.out _ _) (by omega) (by omega) hz).mono ?_; rintro e w5 ⟨rfl, hb5⟩))
          all_goals
            go_wp2_with fail
            go_meet
            exact ⟨rfl, bel_trans (bel_trans (bel_drew (Below.refl w3.heap.size w3)) hb) hb5⟩
        · go_region_with
            (first
              | (go_at_call 26; refine CS.out.mono ?_; rintro e w4 ⟨zs, Z, nz, cz, hz, hl, rfl, hcz, rz, -, hb⟩; have HZ := Lib.hid hl; have lz := NZ.out zs hz; rw [hl] at lz; clear hl)
              | (go_at_call 14; refine (isr_any Z _ nz (L - K) cz _ zs ys _ HZ.out LR.out rz (RY.out _ _) (by omega) (by omega) hz).mono ?_; rintro e w5 ⟨rfl, hb5⟩))
          all_goals
            go_wp2_with fail
            go_meet
            exact ⟨rfl, bel_trans (bel_trans (bel_drew (Below.refl w3.heap.size w3)) hb) hb5⟩
    case rest =>
      obtain ⟨rfl, hbc⟩ := hcut
      have rx4 := rx.below hbc (Nat.le_refl _)
      have hx4 := hx3.below hbc (Nat.le_refl _)
      have HB4 := Lib.hid (bel_trans HB3.out hbc)
      clear rx hx3 hbc HB3 hK hKL KK
      generalize wc = w4 at *
      go_upto_region 11 with fail
      have BR := bitN_row xs i
      rw [VX.out] at BR
      obtain ⟨bt, hbt⟩ : ∃ bt, bitAt xs i = bt := ⟨_, rfl⟩
      rw [hbt] at BR
      have HBT := Lib.hid hbt
      have HBR := Lib.hid BR
      clear BR hbt
      go_cut [55] (fun s wx => s = .bool bt ∧ wx = w4)
      case first =>
        by_cases h0 : 0 ≤ i
        · obtain ⟨j, rfl⟩ := Int.eq_ofNat_of_zero_le h0
          by_cases h1 : j < L
          · have h2 : (j : Int) < (L : Int) := by omega
            obtain ⟨g, off, rfl, hg, hcell⟩ := rx4.at_ (i := j) (by rw [LX.out]; exact h1)
            have EB : bitAt xs (j : Int) = xs.getD j false := by unfold bitAt; rw [decide_eq_true h0, Bool.true_and, Int.toNat_natCast]
            rw [HBT.out] at EB
            subst EB
            go_wp2_with fail
            go_meet
            exact ⟨rfl, rfl⟩
          · have h2 : decide ((j : Int) < (L : Int)) = false := decide_eq_false (by omega)
            have EB : bitAt xs (j : Int) = false := by
              unfold bitAt
              rw [Int.toNat_natCast, List.getD_eq_getElem?_getD, List.getElem?_eq_none (by rw [LX.out]; omega)]
              simp
            rw [HBT.out] at EB
            subst EB
            go_wp2_with fail
            go_meet
            exact ⟨rfl, rfl⟩
        · have h2 : decide (0 ≤ i) = false := decide_eq_false h0
          have EB : bitAt xs i = false := by unfold bitAt; rw [h2]; rfl
          rw [HBT.out] at EB
          subst EB
          go_wp2_with fail
          go_meet
          exact ⟨rfl, rfl⟩
      case rest =>
        obtain ⟨rfl, rfl⟩ := hcut
        generalize wc = w4 at *
        clear HBT
        go_upto_if 55 with fail
        go_cut [12] (fun s wx => s = .int .u64 (bitN x i) ∧ wx = w4)
        case first =>
          cases bt
          · go_wp2_with fail
            go_meet
            exact ⟨congrArg (Value.int .u64) HBR.out.symm, rfl⟩
          · go_wp2_with fail
            go_meet
            exact ⟨congrArg (Value.int .u64) HBR.out.symm, rfl⟩
        case rest =>
        clear HBR
        obtain ⟨rfl, rfl⟩ := hcut
        go_wp2_with fail
        refine (rwords1_any X L cx xs _ LX.out rx4 (by omega)).mono ?_
        rintro e w5 ⟨g5, rfl, hg5, BK, hb5⟩
        have rx5 := rx4.below hb5 (Nat.le_refl _)
        have hx5 := hx4.below hb5 (Nat.le_refl _)
        have HB5 := Lib.hid (bel_trans HB4.out hb5)
        have q0 : w5.cell? ⟨g5, 0, none⟩ = some (.int .u64 (val (xs.take 64))) := BK.cell 0
        clear rx4 hx4 hb5 HB4 BK
        go_wp2_with fail
        refine (nuint_any A n c us _ HA.out hc hx5 hu (by omega)).mono ?_
        rw [VA.out]
        rintro e w6 ⟨rfl, rfl⟩
        by_cases h64 : x < 18446744073709551616
        · have e2 : uintV x = x := if_pos h64
          have e3 : val (xs.take 64) = x := by rw [val_take_small (by rw [VX.out, show (2 : Int) ^ 64 = 18446744073709551616 by decide]; exact h64)]; exact VX.out
          have l64 : (L : Int) ≤ 64 := by
            have := (blen_bd (k := 64) x0 (by rw [show (2 : Int) ^ 64 = 18446744073709551616 by decide]; exact h64)).2
            rw [BL.out] at this
            exact this
          rw [decide_eq_true h64, e2]
          rw [e3] at q0
          clear h64 e2 e3
          go_wp2_with fail
          refine (nbit_any A n c us i _ HA.out hx5 hu (by omega) hi1).mono ?_
          rw [VA.out]
          rintro e w7 ⟨rfl, rfl⟩
          generalize bitN x i = bv at *
          go_wp2_with fail
          refine (nlen_any A n c us _ HA.out hc hx5 hu (by omega)).mono ?_
          rw [VA.out, BL.out]
          rintro e w8 ⟨rfl, rfl⟩
          by_cases hz : x = 0
          · have hL0 : L = 0 := by have h := BL.out; rw [hz, show blen 0 = 0 from rfl] at h; omega
            subst hL0
            have CL := Lib.hid (nshl_zero A n c us N w5 HA.out hc hx5 hu (by omega) (by rw [VA.out]; exact hz))
            clear hz
            go_wp2_with fail
            refine CL.out.mono ?_
            rintro e w9 ⟨zs, Z, nz, cz, hz1, hl, rfl, hcz, rz, hb9⟩
            obtain rfl := hz1.zero
            obtain rfl : 0 = nz := hl
            go_wp2_with fail
            go_ret
            exact ⟨rfl, bel_trans HB5.out hb9⟩
          · have hL1 : (0 : Int) < (L : Int) := by
              obtain ⟨kk, ek, _, ge, _⟩ := blen_spec x0
              have h := BL.out
              have := (ge (by omega)).2
              omega
            have hLb : ((L : Int) == 0) = false := by simp; omega
            by_cases hlong : 65536 - (L : Int) < N
            · have CL := Lib.hid (nshl_long A n c us N w5 HA.out hc hx5 hu (by omega) hN1 (by rw [VA.out]; exact hz) (by rw [VA.out, BL.out]; omega))
              clear hz
              go_wp2_with fail
              refine CL.out.mono ?_
              rintro e w9 ⟨zs, Z, nz, cz, hz1, hl, rfl, hcz, rz, hb9⟩
              obtain rfl := hz1.zero
              obtain rfl : 0 = nz := hl
              go_wp2_with fail
              go_ret
              exact ⟨rfl, bel_trans HB5.out hb9⟩
            · have hdl : decide (65536 - (L : Int) < N) = false := decide_eq_false hlong
              have CL := Lib.hid (nshl_ok A n c us N w5 HA.out hc hx5 hu (by omega) (by rw [VA.out]; exact hz) (by rw [VA.out, BL.out]; omega))
              rw [VA.out, hM, Int.toNat_natCast] at CL
              have lM : M ≤ 65536 := by omega
              have lML : M + L ≤ 65536 := by omega
              clear hz hlong
              go_wp2_with fail
              refine CL.out.mono ?_
              rintro e w9 ⟨zs, Z, nz, cz, hz1, hl, rfl, hcz, rz, hb9⟩
              have HZ := Lib.hid hl
              have HZ1 := Lib.hid hz1
              have rx9 := rx5.below hb9 (Nat.le_refl _)
              have HB9 := Lib.hid (bel_trans HB5.out hb9)
              clear CL hl hz1 hb9
              go_wp2_with fail
              refine (rshl_any X L cx xs (M : Int) _ LX.out rx9 (by omega) (by omega) (by omega)).mono ?_
              rw [Int.toNat_natCast]
              rintro e w10 ⟨ts, T, ct, pt, rfl, hct, hmt, rt, hb10⟩
              obtain ⟨pv, pl⟩ := pt.val
              have rz10 := rz.below hb10 (Nat.le_refl _)
              have HB10 := Lib.hid (bel_trans HB9.out hb10)
              obtain ⟨nt, hnt⟩ : ∃ nt, ts.length = nt := ⟨_, rfl⟩
              have lnt : nt ≤ 65536 := by rw [← hnt, pl, LX.out]; exact lML
              have IN : Hid (IsNat (val ts) zs) := by show IsNat _ _; rw [pv, VX.out]; exact HZ1.out
              have lnz : nz ≤ nt := by
                rw [← HZ.out]
                refine IN.out.le ?_
                have h1 := val_lt ts
                rw [hnt] at h1
                have h2 := pow_mono nt (32 * nt) (by omega)
                omega
              rw [hnt] at hct ⊢
              have HNT := Lib.hid hnt
              clear pt pv pl hnt hb10 HB9 rz rx9
              go_wp2_with fail
              refine (isr_any Z T nz nt cz ct zs ts _ HZ.out HNT.out rz10 rt (by omega) (by omega) IN.out).mono ?_
              rintro e w11 ⟨rfl, hb11⟩
              go_wp2_with fail
              go_ret
              exact ⟨rfl, bel_trans HB10.out hb11⟩
        · have e2 : uintV x = 0 := if_neg h64
          have l64 : decide ((L : Int) ≤ 64) = false := by
            have := lt_blen (k := 64) (v := x) (by rw [show (2 : Int) ^ 64 = 18446744073709551616 by decide]; omega)
            rw [BL.out] at this
            exact decide_eq_false (by omega)
          rw [decide_eq_false h64, e2]
          clear h64 e2 q0
          go_wp2_with fail
          refine (nbit_any A n c us i _ HA.out hx5 hu (by omega) hi1).mono ?_
          rw [VA.out]
          rintro e w7 ⟨rfl, rfl⟩
          generalize bitN x i = bv at *
          go_wp2_with fail
          refine (nlen_any A n c us _ HA.out hc hx5 hu (by omega)).mono ?_
          rw [VA.out, BL.out]
          rintro e w8 ⟨rfl, rfl⟩
          by_cases hz : x = 0
          · have hL0 : L = 0 := by have h := BL.out; rw [hz, show blen 0 = 0 from rfl] at h; omega
            subst hL0
            have CL := Lib.hid (nshl_zero A n c us N w5 HA.out hc hx5 hu (by omega) (by rw [VA.out]; exact hz))
            clear hz
            go_wp2_with fail
            refine CL.out.mono ?_
            rintro e w9 ⟨zs, Z, nz, cz, hz1, hl, rfl, hcz, rz, hb9⟩
            obtain rfl := hz1.zero
            obtain rfl : 0 = nz := hl
            go_wp2_with fail
            go_ret
            exact ⟨rfl, bel_trans HB5.out hb9⟩
          · have hL1 : (0 : Int) < (L : Int) := by
              obtain ⟨kk, ek, _, ge, _⟩ := blen_spec x0
              have h := BL.out
              have := (ge (by omega)).2
              omega
            have hLb : ((L : Int) == 0) = false := by simp; omega
            by_cases hlong : 65536 - (L : Int) < N
            · have CL := Lib.hid (nshl_long A n c us N w5 HA.out hc hx5 hu (by omega) hN1 (by rw [VA.out]; exact hz) (by rw [VA.out, BL.out]; omega))
              clear hz
              go_wp2_with fail
              refine CL.out.mono ?_
              rintro e w9 ⟨zs, Z, nz, cz, hz1, hl, rfl, hcz, rz, hb9⟩
              obtain rfl := hz1.zero
              obtain rfl : 0 = nz := hl
              go_wp2_with fail
              go_ret
              exact ⟨rfl, bel_trans HB5.out hb9⟩
            · have hdl : decide (65536 - (L : Int) < N) = false := decide_eq_false hlong
              have CL := Lib.hid (nshl_ok A n c us N w5 HA.out hc hx5 hu (by omega) (by rw [VA.out]; exact hz) (by rw [VA.out, BL.out]; omega))
              rw [VA.out, hM, Int.toNat_natCast] at CL
              have lM : M ≤ 65536 := by omega
              have lML : M + L ≤ 65536 := by omega
              clear hz hlong
              go_wp2_with fail
              refine CL.out.mono ?_
              rintro e w9 ⟨zs, Z, nz, cz, hz1, hl, rfl, hcz, rz, hb9⟩
              have HZ := Lib.hid hl
              have HZ1 := Lib.hid hz1
              have rx9 := rx5.below hb9 (Nat.le_refl _)
              have HB9 := Lib.hid (bel_trans HB5.out hb9)
              clear CL hl hz1 hb9
              go_wp2_with fail
              refine (rshl_any X L cx xs (M : Int) _ LX.out rx9 (by omega) (by omega) (by omega)).mono ?_
              rw [Int.toNat_natCast]
              rintro e w10 ⟨ts, T, ct, pt, rfl, hct, hmt, rt, hb10⟩
              obtain ⟨pv, pl⟩ := pt.val
              have rz10 := rz.below hb10 (Nat.le_refl _)
              have HB10 := Lib.hid (bel_trans HB9.out hb10)
              obtain ⟨nt, hnt⟩ : ∃ nt, ts.length = nt := ⟨_, rfl⟩
              have lnt : nt ≤ 65536 := by rw [← hnt, pl, LX.out]; exact lML
              have IN : Hid (IsNat (val ts) zs) := by show IsNat _ _; rw [pv, VX.out]; exact HZ1.out
              have lnz : nz ≤ nt := by
                rw [← HZ.out]
                refine IN.out.le ?_
                have h1 := val_lt ts
                rw [hnt] at h1
                have h2 := pow_mono nt (32 * nt) (by omega)
                omega
              rw [hnt] at hct ⊢
              have HNT := Lib.hid hnt
              clear pt pv pl hnt hb10 HB9 rz rx9
              go_wp2_with fail
              refine (isr_any Z T nz nt cz ct zs ts _ HZ.out HNT.out rz10 rt (by omega) (by omega) IN.out).mono ?_
              rintro e w11 ⟨rfl, hb11⟩
              go_wp2_with fail
              go_ret
              exact ⟨rfl, bel_trans HB10.out hb11⟩
  · have e0 : smallB [(A, n, c)] = false := by simp [smallB]; omega
    rw [e0]
    clear e0
    go_wp2_with fail
    go_ret
    exact ⟨rfl, HB2.out⟩
end Go.Proofs.YtckeajjlkpjgjaaDoor
