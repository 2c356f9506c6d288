/-
  The walk of NatTexts: for every number and every text the law answers true, and nothing that was there has changed. Condition: the table of math/bits stands in its variable.
-/
import Derived.Test.YtckeajjlkpjgjaaDoorQparse
namespace Go.Proofs.YtckeajjlkpjgjaaDoor
open Go.RowKit

theorem IsText.size_le {v : Int} {l : List UInt8} {b : Nat} (h : IsText v l) (hv : v < 2 ^ b) : l.length ≤ b + 1 := by
  by_cases h0 : v = 0
  · rw [h.zero h0]
    simp
  · obtain ⟨h1, h2, h3, _, h5⟩ := h
    rcases l with _ | ⟨c, m⟩
    · simp
    · have h6 := dval_low h1 (h5 h0 c rfl)
      have h7 := dig_bound (V := v) (v := 1) (r := v - 10 ^ m.length) (m := m.length) (b := b) (by omega) (by decide) (by omega) hv
      simp
      omega
theorem IsText.digB {v : Int} {l : List UInt8} (h : IsText v l) : digB l = true := by
  unfold YtckeajjlkpjgjaaDoor.digB
  rw [h.dig, Bool.and_true]
  cases l with
  | nil => exact absurd rfl h.ne
  | cons => rfl

set_option maxRecDepth 100000 in
set_option maxHeartbeats 20000000 in
theorem texts_walk (A : Option Addr) (n c : Nat) (us : List Int) (s : ByteArray) (w : World) (hn : us.length = n) (hc : n ≤ c) (hx : Rn w A us) (hu : AllW us) (hT : TabOk w) :
    Calls Tryd.prog 6 #[.slice A n c, .string s] w fun e w' => e = .returned (.bool true) ∧ Below w.heap.size w w' := by
  have HA := Lib.hid hn
  have HT := Lib.hid hT
  clear hn hT
  go_enter Tryd.func6, Tryd.ntmps6
  go_wp2_with fail
  refine (works2 w HT.out).mono ?_
  rintro e w1 ⟨rfl, hb1⟩
  have hx1 := hx.below hb1 (Nat.le_refl _)
  go_wp2_with fail
  refine (small_any w1.heap.size 1 [(A, n, c)] rfl (by decide) _ (by simp) ?hc).mono ?_
  case hc =>
    intro i p hp
    rcases i with _ | i
    · simp at hp; subst hp; simp [go_sem]
    · simp at hp
  rintro e w2 ⟨rfl, rfl⟩
  have HB2 := Lib.hid (bel_alloc hb1 (.cells #[.slice A n c] 23))
  have hx2 := hx1.alloc (.cells #[.slice A n c] 23)
  generalize w1.alloc (.cells #[.slice A n c] 23) = w2 at *
  clear hb1 hx1 hx
  by_cases hs : n ≤ 24
  · have e0 : smallB [(A, n, c)] = true := by simp [smallB]; omega
    rw [e0]
    clear e0
    obtain ⟨BB, hBB⟩ : ∃ BB : Nat, BB = 768 := ⟨_, rfl⟩
    have hB2 : BB ≤ 768 := by omega
    obtain ⟨x, ha⟩ : ∃ x, nv us = x := ⟨_, rfl⟩
    have VA := Lib.hid ha
    have x0 : 0 ≤ x := by rw [← ha]; exact nv_nonneg _ hu
    have xb : Hid (x < 2 ^ BB) := by
      show _ < _
      have h1 := in_bd hu HA.out hs 24 (Nat.le_refl _)
      rw [ha] at h1
      rw [hBB]
      exact h1
    clear ha hBB
    by_cases hsz : 200 < s.size
    · have hsz1 : (200 : Int) < (s.size : Int) := by omega
      go_wp2_with fail
      go_ret
      exact ⟨rfl, HB2.out⟩
    have hsd : decide (200 < s.size) = false := decide_eq_false hsz
    have hsd1 : decide ((200 : Int) < (s.size : Int)) = false := decide_eq_false (by omega)
    have hs200 : s.size ≤ 200 := by omega
    go_wp2_with fail
    refine (ntext_any A n c us _ HA.out hc hx2 hu (by omega)).mono ?_
    rw [VA.out]
    rintro e w4 ⟨⟨tx, it, rfl⟩, hb4⟩
    have IT := Lib.hid it
    have hx4 := hx2.below hb4 (Nat.le_refl _)
    have HB4 := Lib.hid (bel_trans HB2.out hb4)
    have tsz : tx.size ≤ 769 := by
      have h := it.size_le xb.out
      rw [Lib.size_eq]
      omega
    have CP := Lib.hid (nparse_any tx w4 (by omega))
    rw [show parV tx.data.toList = x by rw [parV, if_pos it.digB, it.val], show parE tx.data.toList = 0 by rw [parE, if_pos it.digB]] at CP
    clear it hx2 HB2 hb4
    go_wp2_with fail
    refine CP.out.mono ?_
    rintro e w5 ⟨zs, Z, nz, cz, hz, hl, rfl, hcz, rz, hb5⟩
    have HZ := Lib.hid hl
    have VZ := Lib.hid hz.val
    have az := hz.all
    have lz : nz ≤ 24 := by
      rw [← hl]
      refine hz.le ?_
      have h1 := in_bd hu HA.out hs 24 (Nat.le_refl _)
      rw [VA.out] at h1
      exact h1
    have hx5 := hx4.below hb5 (Nat.le_refl _)
    have HB5 := Lib.hid (bel_trans HB4.out hb5)
    clear CP hl hz hx4 HB4 hb5
    go_wp2_with fail
    refine (rbits_any A n c us _ HA.out hx5 hu (by omega)).mono ?_
    rw [VA.out]
    rintro e w3 ⟨xs, X, cx, px, rfl, hcx, hmx, rx, hb3⟩
    have hx3 := hx5.below hb3 (Nat.le_refl _)
    have HB3 := Lib.hid (bel_trans HB5.out hb3)
    have VX := Lib.hid px.val
    obtain ⟨L, lx⟩ : ∃ n, xs.length = n := ⟨_, rfl⟩
    have lL : L ≤ 768 := by rw [← lx]; exact Nat.le_trans (px.le x0 xb.out) hB2
    have BL : Hid (blen x = (L : Int)) := by show _ = _; rw [← lx]; exact px.len.symm
    rw [lx] at hcx ⊢
    have LX := Lib.hid lx
    have hb3z := hb3
    clear lx px hb3 HB5 hx5
    have rz3 := rz.below hb3z (Nat.le_refl _)
    clear rz hb3z
    go_wp2_with fail
    refine (rtext_any X L cx xs _ LX.out rx 1000 (by decide) (by omega)).mono ?_
    rintro e w6 ⟨⟨t2, it2, rfl⟩, hb6⟩
    rw [VX.out] at it2
    have et : t2 = tx := (bytes_eq (it2.eq IT.out)).trans (bytes_eq rfl).symm
    subst et
    have hx6 := hx3.below hb6 (Nat.le_refl _)
    have rz6 := rz3.below hb6 (Nat.le_refl _)
    have HB6 := Lib.hid (bel_trans HB3.out hb6)
    clear it2 hx3 rz3 HB3 hb6 rx
    go_wp2_with fail
    refine (ncmp_any Z A nz n cz c zs us _ HZ.out HA.out hcz hc rz6 hx6 az hu (by omega) (by omega)).mono ?_
    rw [VZ.out, VA.out, cmpI_eq]
    rintro e w7 ⟨rfl, hb7⟩
    have HB7 := Lib.hid (bel_trans HB6.out hb7)
    clear HB6 hb7
    go_wp2_with fail
    refine (nparse_any s _ (by omega)).mono ?_
    rintro e w8 ⟨qs, Q, nq, cq, hq, hlq, rfl, hcq, rq, hb8⟩
    have HQ := Lib.hid hlq
    have IQ := Lib.hid hq
    have HB8 := Lib.hid (bel_trans HB7.out hb8)
    clear hlq hq HB7 hb8
    go_wp2_with fail
    refine (rparse_any s _ hs200).mono ?_
    rintro e w9 ⟨bs, P, a, ca, rfl, hP, hb9⟩
    have HP := Lib.hid hP
    have rq9 := rq.below hb9 (Nat.le_refl _)
    have HB9 := Lib.hid (bel_trans HB8.out hb9)
    clear hP rq HB8 hb9
    by_cases hd : digB s.data.toList = true
    · have h1 := HP.out hd
      have e1 : parV s.data.toList = dval s.data.toList := by rw [parV, if_pos hd]
      have e2 : parE s.data.toList = 0 := by rw [parE, if_pos hd]
      obtain ⟨h2, h3, h4, h5⟩ := h1
      have IN : Hid (IsNat (val bs) qs) := by show IsNat _ _; rw [h4, ← e1]; exact IQ.out
      have lq : nq ≤ 800 := by
        rw [← HQ.out]
        refine IN.out.le ?_
        have k1 := val_lt bs
        rw [h2] at k1
        have k2 := pow_mono a (32 * 800) (by omega)
        omega
      have H2 := Lib.hid h2
      rw [hd, e2]
      clear hd e1 e2 h2 h4 HP IQ
      go_wp2_with fail
      refine (isr_any Q P nq a cq ca qs bs _ HQ.out H2.out rq9 h5 (by omega) (by omega) IN.out).mono ?_
      rintro e w11 ⟨rfl, hb11⟩
      go_wp2_with fail
      go_ret
      exact ⟨rfl, bel_trans HB9.out hb11⟩
    · have hd2 : digB s.data.toList = false := by simpa using hd
      have e1 : parV s.data.toList = 0 := by rw [parV, if_neg hd]
      have e2 : parE s.data.toList = 22 := by rw [parE, if_neg hd]
      have h0 := IQ.out
      rw [e1] at h0
      obtain rfl := h0.zero
      obtain rfl : 0 = nq := HQ.out
      rw [hd2, e2]
      clear hd hd2 e1 e2 HP IQ h0
      go_wp2_with fail
      go_ret
      exact ⟨rfl, HB9.out⟩
  · have e0 : smallB [(A, n, c)] = false := by simp [smallB]; omega
    rw [e0]
    clear e0
    go_wp2_with fail
    go_ret
    exact ⟨rfl, HB2.out⟩
end Go.Proofs.YtckeajjlkpjgjaaDoor
