/-
  Contract of nat's Pow: a power, or that it is too long. Conditions: the base is a word of 64 bits.
-/
import Derived.Test.YtckeajjlkpjgjaaDoorNgcd
namespace Go.Proofs.YtckeajjlkpjgjaaDoor
open Go.RowKit

theorem lt_blen {v : Int} {k : Nat} (h : (2 : Int) ^ k ≤ v) : (k : Int) < blen v := by
  have hp := pow_pos' k
  obtain ⟨K, e, lt, _, _⟩ := blen_spec (show 0 ≤ v by omega)
  rw [e]
  rcases Nat.lt_or_ge k K with h1 | h1
  · omega
  · have := pow_mono K k h1
    omega
theorem pow_early {X b N E : Nat} (h1 : 2 ^ (b - 1) ≤ X) (hb : 65535 / N < b - 1) (hN : 0 < N) (hE : E = 65536) : 2 ^ E ≤ X ^ N := by
  have h2 : (2 ^ (b - 1)) ^ N ≤ X ^ N := Nat.pow_le_pow_left h1 N
  rw [← Nat.pow_mul] at h2
  have h3 := Nat.div_add_mod 65535 N
  have h4 := Nat.mod_lt 65535 hN
  have h5 : (65535 / N + 1) * N ≤ (b - 1) * N := Nat.mul_le_mul_right N hb
  rw [Nat.add_mul, Nat.one_mul, Nat.mul_comm (65535 / N)] at h5
  exact Nat.le_trans (Nat.pow_le_pow_right (by decide) (by omega)) h2
theorem pow_size {X b N k E : Nat} (h1 : X < 2 ^ b) (hb : b ≤ 1 ∨ 0 < N ∧ b - 1 ≤ 65535 / N) (hk : k ≤ N) (hE : E = 131072) : X ^ k < 2 ^ E := by
  rcases Nat.lt_or_ge 1 b with h | h
  · obtain ⟨hN, hb'⟩ := hb.resolve_left (by omega)
    have h3 := Nat.div_mul_le_self 65535 N
    have h5 : (b - 1) * N ≤ 65535 / N * N := Nat.mul_le_mul_right N hb'
    have h6 : 1 * N ≤ (b - 1) * N := Nat.mul_le_mul_right N (by omega)
    have h7 : X ^ k ≤ (2 ^ b) ^ k := Nat.pow_le_pow_left (Nat.le_of_lt h1) k
    rw [← Nat.pow_mul] at h7
    have h8 : b * k ≤ b * N := Nat.mul_le_mul_left b hk
    have h9 : b * N = (b - 1) * N + N := by
      obtain ⟨c, rfl⟩ : ∃ c, b = c + 1 := ⟨b - 1, by omega⟩
      rw [Nat.add_sub_cancel, Nat.add_mul, Nat.one_mul]
    exact Nat.lt_of_le_of_lt h7 (Nat.pow_lt_pow_right (by decide) (by omega))
  · have hX : X ≤ 1 := by
      have : 2 ^ b ≤ 2 ^ 1 := Nat.pow_le_pow_right (by decide) h
      omega
    have h7 : X ^ k ≤ 1 ^ k := Nat.pow_le_pow_left hX k
    rw [Nat.one_pow] at h7
    have : 2 ^ 1 ≤ 2 ^ E := Nat.pow_le_pow_right (by decide) (by omega)
    omega

theorem lenU (x : Int) (h : Word x) (w : World) : Calls Tryd.prog 62 #[.int .u64 x] w fun e w' => e = .returned (.int .i64 (blen x)) ∧ w = w' := by
  have L := len64w x h
  obtain ⟨x0, x1⟩ := h
  generalize blen x = b at *
  have LL := Lib.hid L
  clear L
  go_enter Tryd.func62, Tryd.ntmps62
  go_wp2_with fail
  refine (LL.out _).mono ?_
  rintro e w1 ⟨rfl, rfl⟩
  go_wp2_with fail
  go_ret
  exact ⟨rfl, rfl⟩
theorem and_one_i64 (a : Int) (h0 : 0 ≤ a) (h1 : a < 9223372036854775808) : bits BinOp.and IntKind.i64 a 1 = a % 2 := by
  obtain ⟨i, rfl⟩ := Int.eq_ofNat_of_zero_le h0
  have e : (BitVec.ofInt 64 (i : Int)).toNat = i := by
    rw [BitVec.ofInt_natCast, BitVec.toNat_ofNat]
    exact Nat.mod_eq_of_lt (by omega)
  show IntKind.i64.wrap ((BitVec.ofInt 64 (i : Int) &&& BitVec.ofInt 64 1).toNat : Int) = _
  rw [BitVec.toNat_and, e, show (BitVec.ofInt 64 1).toNat = 1 by decide, Nat.and_one_is_mod, IntKind.wrap_i64]
  omega

/-- What Pow hands back. -/
def powV (P : Int) : Int := if blen P ≤ 65536 then P else 0
def powE (P : Int) : Int := if blen P ≤ 65536 then 0 else 20
theorem npow_early (x : Int) (N : Int) (X M b : Nat) (hx : x = (X : Int)) (hw : X < 18446744073709551616) (hM : max N 0 = (M : Int)) (hM0 : 0 < M) (_hM1 : N ≤ 9223372036854775807) (eb : blen x = (b : Int)) (he : 65535 / M < b - 1) (w : World) :
    Calls Tryd.prog 37 #[.int .u64 x, .int .i64 N] w (RetShl 0 20 w) := by
  have L := len64w x ⟨by omega, by omega⟩
  rw [eb] at L
  have LL := Lib.hid L
  have hb64 := (blen_bd (x := x) (k := 64) (by omega) (by rw [show (2 : Int) ^ 64 = 18446744073709551616 by decide]; omega)).2
  rw [eb] at hb64
  have hM2 : decide ((0 : Int) < (M : Int)) = true := by simp; omega
  have hM3 : ((M : Int) == 0) = false := by simp; omega
  have e1 : (65535 : Int) / (M : Int) < (b : Int) - 1 := by
    have : ((65535 / M : Nat) : Int) = (65535 : Int) / (M : Int) := by simp
    rw [← this]
    clear this
    generalize 65535 / M = q at *
    omega
  have e0 : 0 ≤ (65535 : Int) / (M : Int) := Int.ediv_nonneg (by decide) (by omega)
  have e2 : (65535 : Int) / (M : Int) ≤ 65535 := Int.ediv_le_self _ (by decide)
  have ew : IntKind.i64.wrap ((65535 : Int) / (M : Int)) = (65535 : Int) / (M : Int) := IntWalk.i64_in _ ⟨by omega, by omega⟩
  have ew2 : IntKind.i64.wrap ((b : Int) - 1) = (b : Int) - 1 := IntWalk.i64_in _ ⟨by omega, by omega⟩
  have hd : decide ((65535 : Int) / (M : Int) < (b : Int) - 1) = true := by simp; exact e1
  clear L hx eb
  go_enter Tryd.func37, Tryd.ntmps37
  go_upto_region 2 with fail
  go_quiet ((go_at_call 61; exact Calls.quiet_of_same (back (LL.out _))))
  go_wp2_with fail
  go_ret2
  exact ⟨[], none, 0, 0, IsNat.nil, rfl, rfl, Nat.le_refl _, .inl rfl, bel_drewN (Below.refl _ _) _⟩

theorem pow_step (x : Int) (N S k : Nat) (hk : k < S) : x ^ (N / 2 ^ (S - (k + 1))) = x ^ (N / 2 ^ (S - k)) * x ^ (N / 2 ^ (S - k)) * (if N / 2 ^ (S - 1 - k) % 2 = 1 then x else 1) := by
  have e1 : S - (k + 1) = S - 1 - k := by omega
  have e2 : N / 2 ^ (S - k) = N / 2 ^ (S - 1 - k) / 2 := by
    rw [show S - k = S - 1 - k + 1 by omega, Nat.pow_succ, Nat.div_div_eq_div_mul]
  rw [e1, e2]
  generalize N / 2 ^ (S - 1 - k) = m
  have e3 : x ^ m = x ^ (m / 2 + m / 2 + m % 2) := by rw [show m / 2 + m / 2 + m % 2 = m by omega]
  rw [e3, Int.pow_add, Int.pow_add]
  rcases Nat.mod_two_eq_zero_or_one m with h | h
  · rw [h]; simp
  · rw [h, if_pos rfl, show x ^ 1 = x by rw [Int.pow_succ, Int.pow_zero, Int.one_mul]]

set_option maxHeartbeats 6400000 in
theorem npow_main (x : Int) (N : Int) (X M b : Nat) (hx : x = (X : Int)) (hw : X < 18446744073709551616) (hM : max N 0 = (M : Int)) (hM1 : N ≤ 9223372036854775807) (eb : blen x = (b : Int)) (he : M = 0 ∨ 0 < M ∧ ¬ 65535 / M < b - 1) (w : World) :
    Calls Tryd.prog 37 #[.int .u64 x, .int .i64 N] w (RetShl (powV (x ^ M)) (powE (x ^ M)) w) := by
  have wx : Word x := ⟨by omega, by omega⟩
  have L := len64w x wx
  rw [eb] at L
  have LL := Lib.hid L
  have hb64 := (blen_bd (x := x) (k := 64) (by omega) (by rw [show (2 : Int) ^ 64 = 18446744073709551616 by decide]; omega)).2
  rw [eb] at hb64
  obtain ⟨b', eb', blt, _, _⟩ := blen_spec wx.1
  have hXb : X < 2 ^ b := by
    have e : b' = b := by rw [eb] at eb'; omega
    rw [e, hx] at blt
    have : ((X : Nat) : Int) < ((2 ^ b : Nat) : Int) := by simpa using blt
    omega
  obtain ⟨E, hE⟩ : ∃ E : Nat, E = 131072 := ⟨_, rfl⟩
  have SZ : Hid (∀ k, k ≤ M → x ^ k < 2 ^ E ∧ 0 ≤ x ^ k) := fun k hk => by
    have h0 : (0 : Int) ≤ x ^ k := by rw [hx]; exact Int.pow_nonneg (by omega)
    refine ⟨?_, h0⟩
    rcases he with h | ⟨h, h2⟩
    · have : k = 0 := by omega
      subst this
      rw [Int.pow_zero]
      have h3 := pow_mono 1 E (by omega)
      omega
    · have := pow_size hXb (k := k) (N := M) (.inr ⟨h, by omega⟩) hk hE
      have h2 : ((X ^ k : Nat) : Int) < ((2 ^ E : Nat) : Int) := Int.ofNat_lt.2 this
      rw [hx]
      simpa using h2
  have HE : Hid (E = 32 * 4096) := by show _ = _; omega
  have hM4 : M ≤ 9223372036854775807 := by omega
  obtain ⟨S, eS, Slt, _, _⟩ := blen_spec (show (0 : Int) ≤ (M : Int) by omega)
  have hS64 := (blen_bd (x := (M : Int)) (k := 63) (by omega) (by rw [show (2 : Int) ^ 63 = 9223372036854775808 by decide]; omega)).2
  rw [eS] at hS64
  have LU := Lib.hid (fun w => lenU (M : Int) ⟨by omega, by omega⟩ w)
  rw [eS] at LU
  have hMS : Hid (M / 2 ^ S = 0) := by
    show _ = _
    apply Nat.div_eq_of_lt
    have : ((M : Nat) : Int) < ((2 ^ S : Nat) : Int) := by simpa using Slt
    omega
  obtain ⟨P, hP⟩ : ∃ P, x ^ M = P := ⟨_, rfl⟩
  rw [hP]
  have HP := Lib.hid hP
  clear L hx eb eb' blt hXb hE Slt eS hP
  go_enter Tryd.func37, Tryd.ntmps37
  go_upto_region 2 with fail
  go_cut [21] (fun s21 wx => s21 = .bool false ∧ Below w.heap.size w wx)
  case first =>
    rcases he with h | ⟨h, h2⟩
    · subst h
      go_quiet (fail)
      go_wp2_with fail
      go_meet
      exact ⟨rfl, bel_drewN (Below.refl _ _) _⟩
    · have hM2 : decide ((0 : Int) < (M : Int)) = true := by simp; omega
      have hM3 : ((M : Int) == 0) = false := by simp; omega
      have e1 : ¬ (65535 : Int) / (M : Int) < (b : Int) - 1 := by
        have : ((65535 / M : Nat) : Int) = (65535 : Int) / (M : Int) := by simp
        rw [← this]
        clear this
        generalize 65535 / M = q at *
        omega
      have e0 : 0 ≤ (65535 : Int) / (M : Int) := Int.ediv_nonneg (by decide) (by omega)
      have e2 : (65535 : Int) / (M : Int) ≤ 65535 := Int.ediv_le_self _ (by decide)
      have ew : IntKind.i64.wrap ((65535 : Int) / (M : Int)) = (65535 : Int) / (M : Int) := IntWalk.i64_in _ ⟨by omega, by omega⟩
      have ew2 : IntKind.i64.wrap ((b : Int) - 1) = (b : Int) - 1 := IntWalk.i64_in _ ⟨by omega, by omega⟩
      have hd : decide ((65535 : Int) / (M : Int) < (b : Int) - 1) = false := by simp; omega
      go_quiet ((go_at_call 61; exact Calls.quiet_of_same (back (LL.out _))))
      go_wp2_with fail
      go_meet
      exact ⟨rfl, bel_drewN (Below.refl _ _) _⟩
  case rest =>
    obtain ⟨rfl, hb0⟩ := hcut
    clear LL he
    go_wp2_with fail
    refine (new_any x wx _).mono ?_
    rintro e w1 ⟨bs, A1, n1, c1, nb, l1, rfl, hc1, hr1, -, hb1⟩
    have HL1 := Lib.hid l1
    clear l1
    go_wp2_with fail
    refine (new_any 1 ⟨by decide, by decide⟩ _).mono ?_
    rintro e w2 ⟨os, A2, n2, c2, no, l2, rfl, hc2, hr2, -, hb2⟩
    have HL2 := Lib.hid l2
    have hr1' := hr1.below hb2 (Nat.le_refl _)
    have HB := Lib.hid (bel_trans (bel_trans hb0 hb1) hb2)
    have hn1 : n1 ≤ 2 := by
      have := nb.le (k := 2) (by rw [show (2 : Int) ^ (32 * 2) = 18446744073709551616 by decide]; exact wx.2)
      rw [HL1.out] at this
      exact this
    have VB := Lib.hid nb.val
    clear l2 hr1 hb0 hb1 hb2
    go_wp2_with fail
    refine (LU.out _).mono ?_
    rintro e w3 ⟨rfl, rfl⟩
    clear LU
    go_wp2_with fail
    go_loopw [7, 29] (fun s7 s29 wr => ∃ (k n c : Nat) (ps : List Int) (A : Option Addr), s7 = .slice A n c ∧ s29 = .int .i64 (k : Int) ∧ k ≤ S ∧ IsNat (x ^ (M / 2 ^ (S - k))) ps ∧ Hid (ps.length = n) ∧ n ≤ c ∧ Rn wr A ps ∧ Rn wr A1 bs ∧ Hid (Below w.heap.size w wr)) (fun _ s29 _ => S - (intOf s29).toNat)
    case atStart => exact ⟨0, n2, c2, os, A2, rfl, rfl, Nat.zero_le _, by rw [Nat.sub_zero, hMS.out, Int.pow_zero]; exact no, HL2, hc2, hr2, hr1', HB⟩
    case round =>
      clear no HL2 hc2 hr2 hr1' HB
      obtain ⟨k, n, c, ps, A, rfl, rfl, hk, np, lp, hc, hr, hrb, HB⟩ := hrel
      have szk := SZ.out (M / 2 ^ (S - k)) (Nat.div_le_self _ _)
      have ln := np.le (k := 4096) (by rw [← HE.out]; exact szk.1)
      rw [lp.out] at ln
      clear szk
      by_cases hlt : k < S
      · have hstep := pow_step x M S k hlt
        have hl1 : (k : Int) < (S : Int) := by omega
        have esh : (S : Int) - 1 - (k : Int) = ((S - 1 - k : Nat) : Int) := by omega
        obtain ⟨j, hj⟩ : ∃ j, S - 1 - k = j := ⟨_, rfl⟩
        rw [hj] at hstep esh
        have hj64 : j ≤ 64 := by omega
        have VP := Lib.hid np.val
        obtain ⟨y, hy⟩ : ∃ y, x ^ (M / 2 ^ (S - k)) = y := ⟨_, rfl⟩
        rw [hy] at np VP hstep
        have szn := SZ.out (M / 2 ^ (S - (k + 1))) (Nat.div_le_self _ _)
        have HST := Lib.hid hstep
        have hMj0 : 0 ≤ (M : Int) / 2 ^ j := Int.ediv_nonneg (by omega) (Int.le_of_lt (pow_pos' _))
        have hMj1 : (M : Int) / 2 ^ j ≤ (M : Int) := Int.ediv_le_self _ (by omega)
        have hand := and_one_i64 ((M : Int) / 2 ^ j) hMj0 (by omega)
        have ecast : ((M / 2 ^ j : Nat) : Int) = (M : Int) / 2 ^ j := by simp
        have HAND := Lib.hid hand
        have HC := Lib.hid ecast
        have hkS : k + 1 ≤ S := by omega
        have HSZ := Lib.hid szn
        clear hstep hy hj hand ecast szn
        go_wp2_with fail
        refine (nmul_any A A n n c c ps ps wr lp.out lp.out hc hc hr hr np.all np.all (by omega) (by omega)).mono ?_
        rw [VP.out]
        rintro e w4 ⟨qs, A4, n4, c4, h1, h2, rfl, h3, h4, -, hb4⟩
        have HL4 := Lib.hid h2
        have hrb4 := hrb.below hb4 (Nat.le_refl _)
        have HB4 := Lib.hid (bel_trans HB.out hb4)
        clear h2 hb4 HB hr hrb
        by_cases hbit : M / 2 ^ j % 2 = 1
        · have hbi : (M : Int) / 2 ^ j % 2 = 1 := by rw [← HC.out]; omega
          have hand := HAND.out
          rw [hbi] at hand
          have EQ : Hid (x ^ (M / 2 ^ (S - (k + 1))) = y * y * x) := by show _ = _; rw [HST.out, if_pos hbit]
          have ln4 : n4 ≤ 8192 := by
            have h5 := h1.le (k := 8192) (by
              have h6 := ln
              have h7 := nv_lt ps np.all
              rw [VP.out, lp.out] at h7
              have h8 := np.nonneg
              have h9 := pow_mono (32 * n) (32 * 4096) (by omega)
              have h10 : y * y < 2 ^ (32 * 4096) * 2 ^ (32 * 4096) := by
                have a1 : y * y ≤ y * 2 ^ (32 * 4096) := Int.mul_le_mul_of_nonneg_left (by omega) h8
                have a2 : y * 2 ^ (32 * 4096) < 2 ^ (32 * 4096) * 2 ^ (32 * 4096) := Int.mul_lt_mul_of_pos_right (by omega) (pow_pos' _)
                omega
              rw [← Int.pow_add] at h10
              exact h10)
            rw [HL4.out] at h5
            exact h5
          have V4 := Lib.hid h1.val
          clear hbi hbit
          go_wp2_with fail
          refine (nmul_any A4 A1 n4 n1 c4 c1 qs bs _ HL4.out HL1.out h3 hc1 h4 hrb4 h1.all nb.all (by omega) (by omega)).mono ?_
          rw [V4.out, VB.out]
          rintro e w5 ⟨rs, A5, n5, c5, g1, g2, rfl, g3, g4, -, hb5⟩
          have HL5 := Lib.hid g2
          have hrb5 := hrb4.below hb5 (Nat.le_refl _)
          have HB5 := Lib.hid (bel_trans HB4.out hb5)
          have NN : IsNat (x ^ (M / 2 ^ (S - (k + 1)))) rs := by rw [EQ.out]; exact g1
          clear g2 hb5 HB4 hrb4 h4 EQ hand
          go_wp2_with fail
          go_roundw
          case rel => exact ⟨k + 1, n5, c5, rs, A5, rfl, by go_num, by omega, NN, HL5, g3, g4, hrb5, HB5⟩
          case measure => simp [intOf]; omega
        · have hbi : (M : Int) / 2 ^ j % 2 = 0 := by rw [← HC.out]; omega
          have hand := HAND.out
          rw [hbi] at hand
          have NN : IsNat (x ^ (M / 2 ^ (S - (k + 1)))) qs := by rw [HST.out, if_neg hbit, Int.mul_one]; exact h1
          clear hbi hbit
          go_wp2_with fail
          go_roundw
          case rel => exact ⟨k + 1, n4, c4, qs, A4, rfl, by go_num, by omega, NN, HL4, h3, h4, hrb4, HB4⟩
          case measure => simp [intOf]; omega
      · have ek : k = S := by omega
        subst ek
        have NP : IsNat P ps := by
          have := np
          rw [Nat.sub_self, Nat.pow_zero, Nat.div_one, HP.out] at this
          exact this
        have CL := Lib.hid (nlen_any A n c ps wr lp.out hc hr NP.all (by omega))
        rw [NP.val] at CL
        clear np
        obtain ⟨B, eB, _, _, _⟩ := blen_spec NP.nonneg
        rw [eB] at CL
        have BE := Lib.hid eB
        have h4096 := (blen_bd NP.nonneg (k := 32 * n) (by have := nv_lt ps NP.all; rw [NP.val, lp.out] at this; exact this)).2
        rw [eB] at h4096
        clear eB
        by_cases hB : B ≤ 65536
        · have FV : Hid (powV P = P) := by show _ = _; rw [powV, BE.out, if_pos (by omega)]
          have FE : Hid (powE P = 0) := by show _ = _; rw [powE, BE.out, if_pos (by omega)]
          have hB' : decide ((65536 : Int) < (B : Int)) = false := by simp; omega
          go_wp2_with fail
          refine CL.out.mono ?_
          rintro e w4 ⟨rfl, rfl⟩
          clear CL
          go_wp2_with fail
          go_ret2
          refine ⟨ps, A, n, c, by rw [FV.out]; exact NP, lp.out, ?_, hc, hr, HB.out⟩
          rw [FE.out]
          rfl
        · have FV : Hid (powV P = 0) := by show _ = _; rw [powV, BE.out, if_neg (by omega)]
          have FE : Hid (powE P = 20) := by show _ = _; rw [powE, BE.out, if_neg (by omega)]
          have hB' : decide ((65536 : Int) < (B : Int)) = true := by simp; omega
          go_wp2_with fail
          refine CL.out.mono ?_
          rintro e w4 ⟨rfl, rfl⟩
          clear CL
          go_wp2_with fail
          go_ret2
          refine ⟨[], none, 0, 0, by rw [FV.out]; exact IsNat.nil, rfl, ?_, Nat.le_refl _, .inl rfl, HB.out⟩
          rw [FE.out]
          rfl
end Go.Proofs.YtckeajjlkpjgjaaDoor
