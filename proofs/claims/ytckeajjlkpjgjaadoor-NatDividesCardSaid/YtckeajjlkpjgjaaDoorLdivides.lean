/-
  The walk of NatDivides: for all numbers the law answers true, and nothing that was there has changed. Condition: the table of math/bits stands in its variable.
-/
import Derived.Test.YtckeajjlkpjgjaaDoorQmore
namespace Go.Proofs.YtckeajjlkpjgjaaDoor
open Go.RowKit

theorem bits_zero {v : Int} {xs : List Bool} {n : Nat} (h : IsBitsOf v xs) (hl : xs.length = n) (h0 : 0 ≤ v) : (v = 0 → n = 0) ∧ (n = 0 → v = 0) := by
  have e := h.len
  rw [hl] at e
  obtain ⟨k, ek, _, ge, z⟩ := blen_spec h0
  rw [ek] at e
  refine ⟨fun hv => by have := z hv; omega, fun hn => ?_⟩
  rcases Int.lt_or_le 0 v with hh | hh
  · have := (ge hh).2
    omega
  · omega

set_option maxRecDepth 100000 in
set_option maxHeartbeats 40000000 in
theorem ndivides_walk (A B : Option Addr) (n c m d : Nat) (us vs : List Int) (w : World) (hn : us.length = n) (hc : n ≤ c) (hx : Rn w A us) (hu : AllW us) (hm : vs.length = m) (hd : m ≤ d) (hy : Rn w B vs) (hv : AllW vs) (hT : TabOk w) :
    Calls Tryd.prog 4 #[.slice A n c, .slice B m d] w fun e w' => e = .returned (.bool true) ∧ Below w.heap.size w w' := by
  have HA := Lib.hid hn
  have HB := Lib.hid hm
  have HT := Lib.hid hT
  clear hn hm hT
  go_enter Tryd.func4, Tryd.ntmps4
  go_wp2_with fail
  refine (works2 w HT.out).mono ?_
  rintro e w1 ⟨rfl, hb1⟩
  have hx1 := hx.below hb1 (Nat.le_refl _)
  have hy1 := hy.below hb1 (Nat.le_refl _)
  go_wp2_with fail
  refine (small_any w1.heap.size 2 [(A, n, c), (B, m, d)] rfl (by decide) _ (by simp) ?hc).mono ?_
  case hc =>
    intro i p hp
    rcases i with _ | _ | i
    · simp at hp; subst hp; simp [go_sem]
    · simp at hp; subst hp; simp [go_sem]
    · simp at hp
  rintro e w2 ⟨rfl, rfl⟩
  have HB2 := Lib.hid (bel_alloc hb1 (.cells #[.slice A n c, .slice B m d] 23))
  have hx2 := hx1.alloc (.cells #[.slice A n c, .slice B m d] 23)
  have hy2 := hy1.alloc (.cells #[.slice A n c, .slice B m d] 23)
  generalize w1.alloc (.cells #[.slice A n c, .slice B m d] 23) = w2 at *
  clear hb1 hx1 hy1 hx hy
  by_cases hs : n ≤ 24 ∧ m ≤ 24
  · have e0 : smallB [(A, n, c), (B, m, d)] = true := by simp [smallB]; omega
    rw [e0]
    clear e0
    obtain ⟨BB, hBB⟩ : ∃ BB : Nat, BB = 24 := ⟨_, rfl⟩
    have hB1 : 24 ≤ BB := by omega
    have hB2 : BB ≤ 24 := by omega
    clear hBB
    obtain ⟨xa, ha⟩ : ∃ xa, nv us = xa := ⟨_, rfl⟩
    have Va := Lib.hid ha
    have za : 0 ≤ xa := by rw [← ha]; exact nv_nonneg _ hu
    have ba : Hid (xa < 2 ^ (32 * BB)) := by show _ < _; rw [← ha]; exact in_bd hu HA.out (by omega) BB hB1
    have lna : n ≤ BB := by omega
    clear ha
    obtain ⟨xb, hb⟩ : ∃ xb, nv vs = xb := ⟨_, rfl⟩
    have Vb := Lib.hid hb
    have zb : 0 ≤ xb := by rw [← hb]; exact nv_nonneg _ hv
    have bb : Hid (xb < 2 ^ (32 * BB)) := by show _ < _; rw [← hb]; exact in_bd hv HB.out (by omega) BB hB1
    have lnb : m ≤ BB := by omega
    clear hb
    go_wp2_with fail
    refine (rbits_any A n c us _ HA.out hx2 hu (by omega)).mono ?_
    rw [Va.out]
    rintro e w101 ⟨xs101, A101, c101, pp101, rfl, hc101, hm101, r101, hb101⟩
    have hx2x := hx2.below hb101 (Nat.le_refl _)
    clear hx2
    have hy2x := hy2.below hb101 (Nat.le_refl _)
    clear hy2
    have HB102 := Lib.hid (bel_trans HB2.out hb101)
    clear hb101
    have VXxs101 : Hid (val xs101 = xa) := by show _ = _; exact pp101.val
    obtain ⟨nxs101, lxs101⟩ : ∃ n, xs101.length = n := ⟨_, rfl⟩
    have lnxs101 : nxs101 ≤ 800 := by rw [← lxs101]; exact Nat.le_trans (pp101.le za ba.out) (by omega)
    rw [lxs101] at hc101 ⊢
    have LXxs101 := Lib.hid lxs101
    clear lxs101
    clear pp101
    go_wp2_with fail
    refine (rbits_any B m d vs _ HB.out hy2x hv (by omega)).mono ?_
    rw [Vb.out]
    rintro e w103 ⟨xs103, A103, c103, pp103, rfl, hc103, hm103, r103, hb103⟩
    have hx2xx := hx2x.below hb103 (Nat.le_refl _)
    clear hx2x
    have hy2xx := hy2x.below hb103 (Nat.le_refl _)
    clear hy2x
    have r101x := r101.below hb103 (Nat.le_refl _)
    clear r101
    have HB104 := Lib.hid (bel_trans HB102.out hb103)
    clear hb103
    have VXxs103 : Hid (val xs103 = xb) := by show _ = _; exact pp103.val
    obtain ⟨nxs103, lxs103⟩ : ∃ n, xs103.length = n := ⟨_, rfl⟩
    have lnxs103 : nxs103 ≤ 800 := by rw [← lxs103]; exact Nat.le_trans (pp103.le zb bb.out) (by omega)
    rw [lxs103] at hc103 ⊢
    have LXxs103 := Lib.hid lxs103
    clear lxs103
    have HY0 := Lib.hid (bits_zero pp103 LXxs103.out zb)
    clear pp103
    by_cases h6 : 6 < n + m
    · have h6' : decide ((6 : Int) < (n : Int) + (m : Int)) = true := decide_eq_true (by omega)
      by_cases h0 : xb = 0
      · obtain rfl : nxs103 = 0 := HY0.out.1 h0
        go_wp2_with fail
        refine (ndiv_zero A B n m c d us vs _ HA.out HB.out hc hd hx2xx hy2xx hv (by omega) (by omega) (by rw [Vb.out]; exact h0)).mono ?_
        rintro e w105 ⟨u105, v105, A105, B105, n105, m105, c105, d105, hn105, hm105, hl105, hk105, rfl, hc105, hd105, r105, s105, -, -, hb105⟩
        have hx2xxx := hx2xx.below hb105 (Nat.le_refl _)
        clear hx2xx
        have hy2xxx := hy2xx.below hb105 (Nat.le_refl _)
        clear hy2xx
        have r101xx := r101x.below hb105 (Nat.le_refl _)
        clear r101x
        have r103x := r103.below hb105 (Nat.le_refl _)
        clear r103
        have HB106 := Lib.hid (bel_trans HB104.out hb105)
        clear hb105
        obtain rfl := hn105.zero
        obtain rfl := hm105.zero
        obtain rfl : 0 = n105 := hl105
        obtain rfl : 0 = m105 := hk105
        clear hn105 hm105 r105 s105
        go_wp2_with fail
        go_ret
        exact ⟨rfl, HB106.out⟩
      · have hp : 0 < xb := by omega
        have hyn : nxs103 ≠ 0 := fun h => h0 (HY0.out.2 h)
        have hyn1 : ((nxs103 : Int) == 0) = false := by simp; omega
        go_wp2_with fail
        refine (ndiv_pos A B n m c d us vs _ HA.out HB.out hc hd hx2xx hy2xx hu hv (by omega) (by omega) (by rw [Vb.out]; exact h0)).mono ?_
        rw [Va.out, Vb.out]
        rintro e w701 ⟨u701, v701, A701, B701, n701, m701, c701, d701, hn701, hm701, hl701, hk701, rfl, hc701, hd701, r701, s701, -, -, hb701⟩
        have hx2xxx := hx2xx.below hb701 (Nat.le_refl _)
        clear hx2xx
        have hy2xxx := hy2xx.below hb701 (Nat.le_refl _)
        clear hy2xx
        have r101xx := r101x.below hb701 (Nat.le_refl _)
        clear r101x
        have r103x := r103.below hb701 (Nat.le_refl _)
        clear r103
        have HB702 := Lib.hid (bel_trans HB104.out hb701)
        clear hb701
        have q0 := Int.ediv_nonneg za zb
        have q1 := Int.ediv_le_self xb za
        have r0 := Int.emod_nonneg xa (Int.ne_of_gt hp)
        have r1 := Int.emod_lt_of_pos xa hp
        have DV : Hid (∀ q r, q * xb + r = xa → 0 ≤ r → r < xb → q = xa / xb ∧ r = xa % xb) := fun q r e h1 h2 => ⟨(div_of e h1 h2).1.symm, (div_of e h1 h2).2.symm⟩
        generalize xa / xb = qq at *
        generalize xa % xb = rr at *
        have V701 := Lib.hid hn701.val
        have L701 := Lib.hid hl701
        clear hl701
        have z701 : 0 ≤ qq := q0
        have b701 : Hid (qq < 2 ^ (32 * BB)) := by show _ < _; have h := ba.out; omega
        have ln701 : n701 ≤ BB := by have h := hn701.le b701.out; rw [L701.out] at h; exact h
        have Vr701 := Lib.hid hm701.val
        have Lr701 := Lib.hid hk701
        clear hk701
        have zr701 : 0 ≤ rr := r0
        have br701 : Hid (rr < 2 ^ (32 * BB)) := by show _ < _; have h := bb.out; omega
        have lnr701 : m701 ≤ BB := by have h := hm701.le br701.out; rw [Lr701.out] at h; exact h
        go_wp2_with fail
        refine (rdiv_any A101 A103 nxs101 nxs103 c101 c103 xs101 xs103 _ LXxs101.out LXxs103.out r101xx r103x (by omega) (by omega) (by rw [VXxs103.out]; exact hp)).mono ?_
        rw [VXxs101.out, VXxs103.out]
        rintro e w703 ⟨xs703, ys703, A703, B703, c703, d703, pp703, rfl, hc703, hd703, r703, s703, hb703⟩
        have hx2xxxx := hx2xxx.below hb703 (Nat.le_refl _)
        clear hx2xxx
        have hy2xxxx := hy2xxx.below hb703 (Nat.le_refl _)
        clear hy2xxx
        have r701x := r701.below hb703 (Nat.le_refl _)
        clear r701
        have s701x := s701.below hb703 (Nat.le_refl _)
        clear s701
        have r101xxx := r101xx.below hb703 (Nat.le_refl _)
        clear r101xx
        have r103xx := r103x.below hb703 (Nat.le_refl _)
        clear r103x
        have HB704 := Lib.hid (bel_trans HB702.out hb703)
        clear hb703
        obtain ⟨e1, e2, e3, e4, e5⟩ := pp703
        obtain ⟨f1, f2⟩ := DV.out _ _ e1 e2 e3
        have VXxs703 : Hid (val xs703 = qq) := by show _ = _; exact f1
        obtain ⟨nxs703, lxs703⟩ : ∃ n, xs703.length = n := ⟨_, rfl⟩
        have lnxs703 : nxs703 ≤ 800 := by rw [← lxs703, e4]; exact lnxs101
        rw [lxs703] at hc703 ⊢
        have LXxs703 := Lib.hid lxs703
        clear lxs703
        have VXys703 : Hid (val ys703 = rr) := by show _ = _; exact f2
        obtain ⟨nys703, lys703⟩ : ∃ n, ys703.length = n := ⟨_, rfl⟩
        have lnys703 : nys703 ≤ 800 := by rw [← lys703]; exact Nat.le_trans e5 lnxs103
        rw [lys703] at hd703 ⊢
        have LXys703 := Lib.hid lys703
        clear lys703
        clear e1 e2 e3 e4 e5 f1 f2
        go_wp2_with fail
        refine (isr_any A701 A703 n701 nxs703 c701 c703 u701 xs703 _ L701.out LXxs703.out r701x r703 (by omega) (by omega) (by rw [VXxs703.out]; exact hn701)).mono ?_
        rintro e w705 ⟨rfl, hb705⟩
        have hx2xxxxx := hx2xxxx.below hb705 (Nat.le_refl _)
        clear hx2xxxx
        have hy2xxxxx := hy2xxxx.below hb705 (Nat.le_refl _)
        clear hy2xxxx
        have r701xx := r701x.below hb705 (Nat.le_refl _)
        clear r701x
        have s701xx := s701x.below hb705 (Nat.le_refl _)
        clear s701x
        have r101xxxx := r101xxx.below hb705 (Nat.le_refl _)
        clear r101xxx
        have r103xxx := r103xx.below hb705 (Nat.le_refl _)
        clear r103xx
        have r703x := r703.below hb705 (Nat.le_refl _)
        clear r703
        have s703x := s703.below hb705 (Nat.le_refl _)
        clear s703
        have HB706 := Lib.hid (bel_trans HB704.out hb705)
        clear hb705
        go_wp2_with fail
        refine (isr_any B701 B703 m701 nys703 d701 d703 v701 ys703 _ Lr701.out LXys703.out s701xx s703x (by omega) (by omega) (by rw [VXys703.out]; exact hm701)).mono ?_
        rintro e w707 ⟨rfl, hb707⟩
        have hx2xxxxxx := hx2xxxxx.below hb707 (Nat.le_refl _)
        clear hx2xxxxx
        have hy2xxxxxx := hy2xxxxx.below hb707 (Nat.le_refl _)
        clear hy2xxxxx
        have r701xxx := r701xx.below hb707 (Nat.le_refl _)
        clear r701xx
        have s701xxx := s701xx.below hb707 (Nat.le_refl _)
        clear s701xx
        have r101xxxxx := r101xxxx.below hb707 (Nat.le_refl _)
        clear r101xxxx
        have r103xxxx := r103xxx.below hb707 (Nat.le_refl _)
        clear r103xxx
        have r703xx := r703x.below hb707 (Nat.le_refl _)
        clear r703x
        have s703xx := s703x.below hb707 (Nat.le_refl _)
        clear s703x
        have HB708 := Lib.hid (bel_trans HB706.out hb707)
        clear hb707
        go_wp2_with fail
        go_ret
        exact ⟨rfl, HB708.out⟩
    · have h6' : decide ((6 : Int) < (n : Int) + (m : Int)) = false := decide_eq_false (by omega)
      go_wp2_with fail
      refine (ngcd_any A B n m c d us vs _ HA.out HB.out hc hd hx2xx hy2xx hu hv (by omega) (by omega) (HT.out.below HB104.out)).mono ?_
      rw [Va.out, Vb.out]
      rintro e w401 ⟨u401, A401, n401, c401, hn401, hl401, rfl, hc401, r401, -, hb401⟩
      have hx2xxx := hx2xx.below hb401 (Nat.le_refl _)
      clear hx2xx
      have hy2xxx := hy2xx.below hb401 (Nat.le_refl _)
      clear hy2xx
      have r101xx := r101x.below hb401 (Nat.le_refl _)
      clear r101x
      have r103x := r103.below hb401 (Nat.le_refl _)
      clear r103
      have HB402 := Lib.hid (bel_trans HB104.out hb401)
      clear hb401
      have V401 := Lib.hid hn401.val
      have L401 := Lib.hid hl401
      clear hl401
      have z401 : 0 ≤ gcdI xa xb := gcd_nonneg _ _
      have b401 : Hid (gcdI xa xb < 2 ^ (32 * BB)) := gcd_bd za zb ba.out bb.out
      have ln401 : n401 ≤ BB := by have h := hn401.le b401.out; rw [L401.out] at h; exact h
      go_wp2_with fail
      refine (rgcd_any A101 A103 nxs101 nxs103 c101 c103 xs101 xs103 _ LXxs101.out LXxs103.out hc101 hc103 r101xx r103x 800 (by decide) lnxs101 lnxs103).mono ?_
      rw [VXxs101.out, VXxs103.out]
      rintro e w403 ⟨xs403, A403, c403, pp403, rfl, hc403, r403, hb403⟩
      have hx2xxxx := hx2xxx.below hb403 (Nat.le_refl _)
      clear hx2xxx
      have hy2xxxx := hy2xxx.below hb403 (Nat.le_refl _)
      clear hy2xxx
      have r401x := r401.below hb403 (Nat.le_refl _)
      clear r401
      have r101xxx := r101xx.below hb403 (Nat.le_refl _)
      clear r101xx
      have r103xx := r103x.below hb403 (Nat.le_refl _)
      clear r103x
      have HB404 := Lib.hid (bel_trans HB402.out hb403)
      clear hb403
      have VXxs403 : Hid (val xs403 = gcdI xa xb) := by show _ = _; exact pp403.1
      obtain ⟨nxs403, lxs403⟩ : ∃ n, xs403.length = n := ⟨_, rfl⟩
      have lnxs403 : nxs403 ≤ 800 := by rw [← lxs403]; exact pp403.2
      rw [lxs403] at hc403 ⊢
      have LXxs403 := Lib.hid lxs403
      clear lxs403
      clear pp403
      go_wp2_with fail
      refine (isr_any A401 A403 n401 nxs403 c401 c403 u401 xs403 _ L401.out LXxs403.out r401x r403 (by omega) (by omega) (by rw [VXxs403.out]; exact hn401)).mono ?_
      rintro e w405 ⟨rfl, hb405⟩
      have hx2xxxxx := hx2xxxx.below hb405 (Nat.le_refl _)
      clear hx2xxxx
      have hy2xxxxx := hy2xxxx.below hb405 (Nat.le_refl _)
      clear hy2xxxx
      have r401xx := r401x.below hb405 (Nat.le_refl _)
      clear r401x
      have r101xxxx := r101xxx.below hb405 (Nat.le_refl _)
      clear r101xxx
      have r103xxx := r103xx.below hb405 (Nat.le_refl _)
      clear r103xx
      have r403x := r403.below hb405 (Nat.le_refl _)
      clear r403
      have HB406 := Lib.hid (bel_trans HB404.out hb405)
      clear hb405
      clear r401xx
      clear r403x
      by_cases h0 : xb = 0
      · obtain rfl : nxs103 = 0 := HY0.out.1 h0
        go_wp2_with fail
        refine (ndiv_zero A B n m c d us vs _ HA.out HB.out hc hd hx2xxxxx hy2xxxxx hv (by omega) (by omega) (by rw [Vb.out]; exact h0)).mono ?_
        rintro e w407 ⟨u407, v407, A407, B407, n407, m407, c407, d407, hn407, hm407, hl407, hk407, rfl, hc407, hd407, r407, s407, -, -, hb407⟩
        have hx2xxxxxx := hx2xxxxx.below hb407 (Nat.le_refl _)
        clear hx2xxxxx
        have hy2xxxxxx := hy2xxxxx.below hb407 (Nat.le_refl _)
        clear hy2xxxxx
        have r101xxxxx := r101xxxx.below hb407 (Nat.le_refl _)
        clear r101xxxx
        have r103xxxx := r103xxx.below hb407 (Nat.le_refl _)
        clear r103xxx
        have HB408 := Lib.hid (bel_trans HB406.out hb407)
        clear hb407
        obtain rfl := hn407.zero
        obtain rfl := hm407.zero
        obtain rfl : 0 = n407 := hl407
        obtain rfl : 0 = m407 := hk407
        clear hn407 hm407 r407 s407
        go_wp2_with fail
        go_ret
        exact ⟨rfl, HB408.out⟩
      · have hp : 0 < xb := by omega
        have hyn : nxs103 ≠ 0 := fun h => h0 (HY0.out.2 h)
        have hyn1 : ((nxs103 : Int) == 0) = false := by simp; omega
        go_wp2_with fail
        refine (ndiv_pos A B n m c d us vs _ HA.out HB.out hc hd hx2xxxxx hy2xxxxx hu hv (by omega) (by omega) (by rw [Vb.out]; exact h0)).mono ?_
        rw [Va.out, Vb.out]
        rintro e w701 ⟨u701, v701, A701, B701, n701, m701, c701, d701, hn701, hm701, hl701, hk701, rfl, hc701, hd701, r701, s701, -, -, hb701⟩
        have hx2xxxxxx := hx2xxxxx.below hb701 (Nat.le_refl _)
        clear hx2xxxxx
        have hy2xxxxxx := hy2xxxxx.below hb701 (Nat.le_refl _)
        clear hy2xxxxx
        have r101xxxxx := r101xxxx.below hb701 (Nat.le_refl _)
        clear r101xxxx
        have r103xxxx := r103xxx.below hb701 (Nat.le_refl _)
        clear r103xxx
        have HB702 := Lib.hid (bel_trans HB406.out hb701)
        clear hb701
        have q0 := Int.ediv_nonneg za zb
        have q1 := Int.ediv_le_self xb za
        have r0 := Int.emod_nonneg xa (Int.ne_of_gt hp)
        have r1 := Int.emod_lt_of_pos xa hp
        have DV : Hid (∀ q r, q * xb + r = xa → 0 ≤ r → r < xb → q = xa / xb ∧ r = xa % xb) := fun q r e h1 h2 => ⟨(div_of e h1 h2).1.symm, (div_of e h1 h2).2.symm⟩
        generalize xa / xb = qq at *
        generalize xa % xb = rr at *
        have V701 := Lib.hid hn701.val
        have L701 := Lib.hid hl701
        clear hl701
        have z701 : 0 ≤ qq := q0
        have b701 : Hid (qq < 2 ^ (32 * BB)) := by show _ < _; have h := ba.out; omega
        have ln701 : n701 ≤ BB := by have h := hn701.le b701.out; rw [L701.out] at h; exact h
        have Vr701 := Lib.hid hm701.val
        have Lr701 := Lib.hid hk701
        clear hk701
        have zr701 : 0 ≤ rr := r0
        have br701 : Hid (rr < 2 ^ (32 * BB)) := by show _ < _; have h := bb.out; omega
        have lnr701 : m701 ≤ BB := by have h := hm701.le br701.out; rw [Lr701.out] at h; exact h
        go_wp2_with fail
        refine (rdiv_any A101 A103 nxs101 nxs103 c101 c103 xs101 xs103 _ LXxs101.out LXxs103.out r101xxxxx r103xxxx (by omega) (by omega) (by rw [VXxs103.out]; exact hp)).mono ?_
        rw [VXxs101.out, VXxs103.out]
        rintro e w703 ⟨xs703, ys703, A703, B703, c703, d703, pp703, rfl, hc703, hd703, r703, s703, hb703⟩
        have hx2xxxxxxx := hx2xxxxxx.below hb703 (Nat.le_refl _)
        clear hx2xxxxxx
        have hy2xxxxxxx := hy2xxxxxx.below hb703 (Nat.le_refl _)
        clear hy2xxxxxx
        have r701x := r701.below hb703 (Nat.le_refl _)
        clear r701
        have s701x := s701.below hb703 (Nat.le_refl _)
        clear s701
        have r101xxxxxx := r101xxxxx.below hb703 (Nat.le_refl _)
        clear r101xxxxx
        have r103xxxxx := r103xxxx.below hb703 (Nat.le_refl _)
        clear r103xxxx
        have HB704 := Lib.hid (bel_trans HB702.out hb703)
        clear hb703
        obtain ⟨e1, e2, e3, e4, e5⟩ := pp703
        obtain ⟨f1, f2⟩ := DV.out _ _ e1 e2 e3
        have VXxs703 : Hid (val xs703 = qq) := by show _ = _; exact f1
        obtain ⟨nxs703, lxs703⟩ : ∃ n, xs703.length = n := ⟨_, rfl⟩
        have lnxs703 : nxs703 ≤ 800 := by rw [← lxs703, e4]; exact lnxs101
        rw [lxs703] at hc703 ⊢
        have LXxs703 := Lib.hid lxs703
        clear lxs703
        have VXys703 : Hid (val ys703 = rr) := by show _ = _; exact f2
        obtain ⟨nys703, lys703⟩ : ∃ n, ys703.length = n := ⟨_, rfl⟩
        have lnys703 : nys703 ≤ 800 := by rw [← lys703]; exact Nat.le_trans e5 lnxs103
        rw [lys703] at hd703 ⊢
        have LXys703 := Lib.hid lys703
        clear lys703
        clear e1 e2 e3 e4 e5 f1 f2
        go_wp2_with fail
        refine (isr_any A701 A703 n701 nxs703 c701 c703 u701 xs703 _ L701.out LXxs703.out r701x r703 (by omega) (by omega) (by rw [VXxs703.out]; exact hn701)).mono ?_
        rintro e w705 ⟨rfl, hb705⟩
        have hx2xxxxxxxx := hx2xxxxxxx.below hb705 (Nat.le_refl _)
        clear hx2xxxxxxx
        have hy2xxxxxxxx := hy2xxxxxxx.below hb705 (Nat.le_refl _)
        clear hy2xxxxxxx
        have r701xx := r701x.below hb705 (Nat.le_refl _)
        clear r701x
        have s701xx := s701x.below hb705 (Nat.le_refl _)
        clear s701x
        have r101xxxxxxx := r101xxxxxx.below hb705 (Nat.le_refl _)
        clear r101xxxxxx
        have r103xxxxxx := r103xxxxx.below hb705 (Nat.le_refl _)
        clear r103xxxxx
        have r703x := r703.below hb705 (Nat.le_refl _)
        clear r703
        have s703x := s703.below hb705 (Nat.le_refl _)
        clear s703
        have HB706 := Lib.hid (bel_trans HB704.out hb705)
        clear hb705
        go_wp2_with fail
        refine (isr_any B701 B703 m701 nys703 d701 d703 v701 ys703 _ Lr701.out LXys703.out s701xx s703x (by omega) (by omega) (by rw [VXys703.out]; exact hm701)).mono ?_
        rintro e w707 ⟨rfl, hb707⟩
        have hx2xxxxxxxxx := hx2xxxxxxxx.below hb707 (Nat.le_refl _)
        clear hx2xxxxxxxx
        have hy2xxxxxxxxx := hy2xxxxxxxx.below hb707 (Nat.le_refl _)
        clear hy2xxxxxxxx
        have r701xxx := r701xx.below hb707 (Nat.le_refl _)
        clear r701xx
        have s701xxx := s701xx.below hb707 (Nat.le_refl _)
        clear s701xx
        have r101xxxxxxxx := r101xxxxxxx.below hb707 (Nat.le_refl _)
        clear r101xxxxxxx
        have r103xxxxxxx := r103xxxxxx.below hb707 (Nat.le_refl _)
        clear r103xxxxxx
        have r703xx := r703x.below hb707 (Nat.le_refl _)
        clear r703x
        have s703xx := s703x.below hb707 (Nat.le_refl _)
        clear s703x
        have HB708 := Lib.hid (bel_trans HB706.out hb707)
        clear hb707
        go_wp2_with fail
        go_ret
        exact ⟨rfl, HB708.out⟩
  · have e0 : smallB [(A, n, c), (B, m, d)] = false := by
      rw [Bool.eq_false_iff]
      intro h
      simp [smallB] at h
      omega
    rw [e0]
    clear e0
    go_wp2_with fail
    go_ret
    exact ⟨rfl, HB2.out⟩
end Go.Proofs.YtckeajjlkpjgjaaDoor
