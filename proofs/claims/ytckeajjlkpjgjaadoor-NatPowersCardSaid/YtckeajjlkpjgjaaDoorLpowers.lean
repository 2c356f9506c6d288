/-
  The walk of NatPowers: for every word and every exponent the law answers true, and nothing that was there has changed. Condition: the table of math/bits stands in its variable.
-/
import Derived.Test.YtckeajjlkpjgjaaDoorQmore
namespace Go.Proofs.YtckeajjlkpjgjaaDoor
open Go.RowKit

theorem npow_any (x N : Int) (w : World) (hx : Word x) (hN : N ≤ 9223372036854775807) :
    Calls Tryd.prog 37 #[.int .u64 x, .int .i64 N] w (RetShl (powV (x ^ (max N 0).toNat)) (powE (x ^ (max N 0).toNat)) w) := by
  obtain ⟨M, hM⟩ := Int.eq_ofNat_of_zero_le (show 0 ≤ max N 0 by omega)
  obtain ⟨X, eX⟩ := Int.eq_ofNat_of_zero_le hx.1
  obtain ⟨b, eb, blt, ge, z⟩ := blen_spec hx.1
  rw [hM, Int.toNat_natCast]
  by_cases he : M = 0 ∨ 0 < M ∧ ¬ 65535 / M < b - 1
  · exact npow_main x N X M b eX (by have := hx.2; omega) hM hN eb he w
  · have hM0 : 0 < M := by omega
    have he2 : 65535 / M < b - 1 := by
      rcases Nat.lt_or_ge (65535 / M) (b - 1) with h | h
      · exact h
      · exact absurd (.inr ⟨hM0, by omega⟩) he
    have hb1 : 1 ≤ b := by have h := Nat.lt_of_le_of_lt (Nat.zero_le _) he2; omega
    have hxp : 0 < x := by
      rcases Int.lt_or_le 0 x with h | h
      · exact h
      · have := z (by have := hx.1; omega)
        omega
    obtain ⟨E, hE⟩ : ∃ E : Nat, E = 65536 := ⟨_, rfl⟩
    have h1 : 2 ^ (b - 1) ≤ X := by
      have h2 := (ge hxp).1
      rw [eX] at h2
      have h3 : ((2 ^ (b - 1) : Nat) : Int) ≤ (X : Int) := by simpa using h2
      omega
    have h4 := pow_early h1 he2 hM0 hE
    have h5 : (2 : Int) ^ E ≤ x ^ M := by
      rw [eX]
      have : ((2 ^ E : Nat) : Int) ≤ ((X ^ M : Nat) : Int) := Int.ofNat_le.2 h4
      simpa using this
    have h6 := lt_blen h5
    have e1 : powV (x ^ M) = 0 := by rw [powV, if_neg (by omega)]
    have e2 : powE (x ^ M) = 20 := by rw [powE, if_neg (by omega)]
    rw [e1, e2]
    exact npow_early x N X M b eX (by have := hx.2; omega) hM hM0 hN eb he2 w

theorem pow_lt64 {x : Int} (hx : Word x) (i : Nat) : 0 ≤ x ^ i ∧ x ^ i < 2 ^ (64 * i + 1) := by
  obtain ⟨X, rfl⟩ := Int.eq_ofNat_of_zero_le hx.1
  refine ⟨Int.pow_nonneg hx.1, ?_⟩
  have h1 : X ≤ 2 ^ 64 := by have := hx.2; rw [show (2 : Nat) ^ 64 = 18446744073709551616 by decide]; omega
  have h2 : X ^ i ≤ (2 ^ 64) ^ i := Nat.pow_le_pow_left h1 i
  rw [← Nat.pow_mul] at h2
  have h3 : 2 ^ (64 * i) < 2 ^ (64 * i + 1) := Nat.pow_lt_pow_right (by decide) (by omega)
  have h4 : ((X ^ i : Nat) : Int) < ((2 ^ (64 * i + 1) : Nat) : Int) := Int.ofNat_lt.2 (by omega)
  simpa using h4
theorem pow_small {x : Int} (hx : 0 ≤ x) (h1 : x ≤ 1) (M : Nat) : 0 ≤ x ^ M ∧ x ^ M ≤ 1 := by
  obtain ⟨X, rfl⟩ := Int.eq_ofNat_of_zero_le hx
  refine ⟨Int.pow_nonneg hx, ?_⟩
  have h2 : X ^ M ≤ 1 ^ M := Nat.pow_le_pow_left (by omega) M
  rw [Nat.one_pow] at h2
  have : ((X ^ M : Nat) : Int) ≤ ((1 : Nat) : Int) := Int.ofNat_le.2 h2
  simpa using this

set_option maxRecDepth 100000 in
set_option maxHeartbeats 20000000 in
theorem powers_walk (x N : Int) (w : World) (hx : Word x) (hN : -9223372036854775808 ≤ N ∧ N ≤ 9223372036854775807) (hT : TabOk w) :
    Calls Tryd.prog 7 #[.int .u64 x, .int .i64 N] w fun e w' => e = .returned (.bool true) ∧ Below w.heap.size w w' := by
  have HT := Lib.hid hT
  obtain ⟨hN0, hN1⟩ := hN
  obtain ⟨x0, x1⟩ := id hx
  obtain ⟨M, hM⟩ := Int.eq_ofNat_of_zero_le (show 0 ≤ max N 0 by omega)
  obtain ⟨P, hP⟩ : ∃ P, x ^ M = P := ⟨_, rfl⟩
  have CP := Lib.hid (fun w => npow_any x N w hx hN1)
  rw [hM, Int.toNat_natCast, hP] at CP
  have HP := Lib.hid hP
  have HM := Lib.hid hM
  clear hT hP hM
  go_enter Tryd.func7, Tryd.ntmps7
  go_wp2_with fail
  refine (works2 w HT.out).mono ?_
  rintro e w1 ⟨rfl, hb1⟩
  go_wp2_with fail
  refine (CP.out _).mono ?_
  rintro e w2 ⟨ps, A2, n2, c2, hn2, hl2, rfl, hc2, r2, hb2⟩
  have HB2 := Lib.hid (bel_trans hb1 hb2)
  have L2 := Lib.hid hl2
  clear CP hb1 hb2 hl2
  by_cases h120 : 120 < N
  · by_cases hB : blen P ≤ 65536
    · have hE : Hid (powE P = 0) := by show _ = _; rw [powE, if_pos hB]
      rw [hE.out]
      by_cases hx1 : 1 < x
      · go_wp2_with fail
        go_ret
        exact ⟨rfl, HB2.out⟩
      · have hx2 : decide (1 < x) = false := decide_eq_false hx1
        go_wp2_with fail
        go_ret
        exact ⟨rfl, HB2.out⟩
    · have hE : Hid (powE P = 20) := by show _ = _; rw [powE, if_neg hB]
      have hV : powV P = 0 := by rw [powV, if_neg hB]
      rw [hV] at hn2
      obtain rfl := hn2.zero
      obtain rfl : 0 = n2 := L2.out
      have hx1 : 1 < x := by
        rcases Int.lt_or_le 1 x with h | h
        · exact h
        · exfalso
          have h3 := pow_small x0 h M
          rw [HP.out] at h3
          have h4 := (blen_bd (k := 1) h3.1 (by omega)).2
          omega
      rw [hE.out]
      clear hV hn2
      go_wp2_with fail
      go_ret
      exact ⟨rfl, HB2.out⟩
  · have hM120 : M ≤ 120 := by have := HM.out; omega
    have hPb := pow_lt64 hx M
    rw [HP.out] at hPb
    have hB : blen P ≤ 65536 := by
      have := (blen_bd hPb.1 hPb.2).2
      omega
    have hE : Hid (powE P = 0) := by show _ = _; rw [powE, if_pos hB]
    have hV : powV P = P := by rw [powV, if_pos hB]
    rw [hV] at hn2
    rw [hE.out]
    have hd : decide ((120 : Int) < N) = false := decide_eq_false h120
    clear hV hB h120
    have lnp := hn2.le (k := 2 * M + 1) (by have := pow_mono (64 * M + 1) (32 * (2 * M + 1)) (by omega); omega)
    rw [L2.out] at lnp
    go_wp2_with fail
    refine (rof_any _ 1 1 [1] _ rfl ?hx ?hw (by decide)).mono ?_
    case hx =>
      refine .inr ⟨_, 0, rfl, by simp, fun i y hi => ?_⟩
      rcases i with _ | i
      · simp at hi; subst hi; simp [go_sem]
      · simp at hi
    case hw =>
      intro y hy
      simp at hy
      subst hy
      exact ⟨by decide, by decide⟩
    rintro e w3 ⟨os, A3, c3, ⟨v3, l3⟩, rfl, hc3, hm3, r3, hb3⟩
    have r2a := (r2.alloc (.cells #[.int .u64 1] 47)).below hb3 (Nat.le_refl _)
    have HB3 := Lib.hid (bel_trans (bel_alloc HB2.out (.cells #[.int .u64 1] 47)) hb3)
    rw [l3] at hc3 ⊢
    have V3 : Hid (val os = x ^ 0) := by show _ = _; rw [v3, Int.pow_zero]; rfl
    have L3 := Lib.hid l3
    clear r2 hb3 HB2 v3 l3
    go_wp2_with fail
    refine (new_any x hx _).mono ?_
    rintro e w4 ⟨xs, A4, n4, c4, h4, l4, rfl, hc4, r4, -, hb4⟩
    have r2b := r2a.below hb4 (Nat.le_refl _)
    have r3b := r3.below hb4 (Nat.le_refl _)
    have HB4 := Lib.hid (bel_trans HB3.out hb4)
    have L4 := Lib.hid l4
    have V4 := Lib.hid h4.val
    have ln4 := h4.le (k := 2) (by rw [show (2 : Int) ^ (32 * 2) = 18446744073709551616 by decide]; exact x1)
    rw [L4.out] at ln4
    clear r2a r3 hb4 HB3 l4
    go_wp2_with fail
    refine (rbits_any A4 n4 c4 xs _ L4.out r4 h4.all (by omega)).mono ?_
    rw [V4.out]
    rintro e w5 ⟨ys, A5, c5, p5, rfl, hc5, hm5, r5, hb5⟩
    have r2c := r2b.below hb5 (Nat.le_refl _)
    have r3c := r3b.below hb5 (Nat.le_refl _)
    have HB5 := Lib.hid (bel_trans HB4.out hb5)
    have V5 := Lib.hid p5.val
    obtain ⟨n5, l5⟩ : ∃ n5, ys.length = n5 := ⟨_, rfl⟩
    have ln5 : n5 ≤ 64 := by rw [← l5]; exact p5.le x0 (by rw [show (2 : Int) ^ 64 = 18446744073709551616 by decide]; exact x1)
    rw [l5] at hc5 ⊢
    have L5 := Lib.hid l5
    clear r2b r3b r4 hb5 HB4 l5 p5
    go_wp2_with fail
    go_loopw [8, 10] (fun s8 s10 wr => ∃ (i z c8 : Nat) (zs : List Bool) (A8 : Option Addr), s10 = .int .i64 (i : Int) ∧ i ≤ M ∧ s8 = .slice A8 z c8 ∧ z ≤ c8 ∧ Hid (zs.length = z) ∧ z ≤ 64 * i + 64 ∧ Hid (val zs = x ^ i) ∧ Rd wr A8 zs ∧ Rd wr A5 ys ∧ Rn wr A2 ps ∧ Hid (Below w.heap.size w wr)) (fun _ s10 _ => M - (intOf s10).toNat)
    case atStart => exact ⟨0, 64, c3, os, A3, rfl, Nat.zero_le _, rfl, by simpa using hc3, by show _ = _; simpa using L3.out, by omega, V3, r3c, r5, r2c, HB5⟩
    case round =>
      clear r3c r5 r2c HB5 V3 L3 hc3
      obtain ⟨i, z, c8, zs, A8, rfl, hi, rfl, hz, lz, hzb, vz, rz, ry, rp, HB⟩ := hrel
      by_cases hlt : i < M
      · have hl1 : (i : Int) < N := by have := HM.out; omega
        go_wp2_with fail
        refine (rmul_any A8 A5 z n5 c8 c5 zs ys _ lz.out L5.out rz ry (by omega) (by omega)).mono ?_
        rintro e w6 ⟨ms, A6, c6, ⟨v6, l6⟩, rfl, hc6, hm6, r6, hb6⟩
        have ry6 := ry.below hb6 (Nat.le_refl _)
        have rp6 := rp.below hb6 (Nat.le_refl _)
        have HB6 := Lib.hid (bel_trans HB.out hb6)
        have V6 : Hid (val ms = x ^ (i + 1)) := by show _ = _; rw [v6, vz.out, V5.out, Int.pow_succ]
        rw [lz.out, L5.out] at l6
        obtain ⟨n6, e6⟩ : ∃ n6, ms.length = n6 := ⟨_, rfl⟩
        rw [e6] at hc6 l6 ⊢
        have L6 := Lib.hid e6
        have bd6 := pow_lt64 hx (i + 1)
        obtain ⟨K, hK, hKm, hKv⟩ := blen_bound (val_nonneg ms) (val_lt ms)
        rw [e6] at hKm
        have hK2 : K ≤ 64 * (i + 1) + 1 := by
          have h7 := (blen_bd bd6.1 bd6.2).2
          rw [← V6.out, hK] at h7
          omega
        have CL := Lib.hid (rlen_any A6 n6 c6 ms w6 L6.out r6 (by omega))
        rw [hK] at CL
        have r7 := r6.take K
        have V7 : Hid (val (ms.take K) = x ^ (i + 1)) := by show _ = _; rw [val_take_small hKv]; exact V6.out
        have L7 : Hid ((ms.take K).length = K) := by show _ = _; rw [List.length_take, L6.out]; omega
        have hKc : (K : Int) ≤ (c6 : Int) := by omega
        clear e6 v6 hb6 HB rz ry rp hK hKv V6 vz r6
        generalize ms.take K = ks at *
        go_wp2_with fail
        refine CL.out.mono ?_
        rintro e w7 ⟨rfl, rfl⟩
        clear CL
        go_wp2_with fail
        go_roundw
        case rel => exact ⟨i + 1, K, c6, ks, A6, by go_num, by omega, rfl, by omega, L7, by omega, V7, r7, ry6, rp6, HB6⟩
        case measure => simp [intOf]; omega
      · have ei : i = M := by omega
        subst ei
        have hl1 : ¬ (i : Int) < N := by have := HM.out; omega
        rw [HP.out] at vz
        go_wp2_with fail
        refine (isr_any A2 A8 n2 z c2 c8 ps zs _ L2.out lz.out rp rz (by omega) (by omega) (by rw [vz.out]; exact hn2)).mono ?_
        rintro e w6 ⟨rfl, hb6⟩
        have ry6 := ry.below hb6 (Nat.le_refl _)
        have HB6 := Lib.hid (bel_trans HB.out hb6)
        clear hb6 HB ry rz rp
        go_wp2_with fail
        refine (new_any x hx _).mono ?_
        rintro e w7 ⟨xs7, A7, n7, c7, h7, l7, rfl, hc7, r7, -, hb7⟩
        have ry7 := ry6.below hb7 (Nat.le_refl _)
        have HB7 := Lib.hid (bel_trans HB6.out hb7)
        have L7 := Lib.hid l7
        have ln7 := h7.le (k := 2) (by rw [show (2 : Int) ^ (32 * 2) = 18446744073709551616 by decide]; exact x1)
        rw [L7.out] at ln7
        clear l7 hb7 HB6 ry6
        go_wp2_with fail
        refine (isr_any A7 A5 n7 n5 c7 c5 xs7 ys _ L7.out L5.out r7 ry7 (by omega) (by omega) (by rw [V5.out]; exact h7)).mono ?_
        rintro e w8 ⟨rfl, hb8⟩
        have HB8 := Lib.hid (bel_trans HB7.out hb8)
        go_wp2_with fail
        go_ret
        exact ⟨rfl, HB8.out⟩
end Go.Proofs.YtckeajjlkpjgjaaDoor
