/-
  The walk of NatAdds: for all numbers the law answers true, and nothing that was there has changed. Condition: the table of math/bits stands in its variable.
-/
import Derived.Test.YtckeajjlkpjgjaaDoorQsmall
namespace Go.Proofs.YtckeajjlkpjgjaaDoor
open Go.RowKit

theorem sub_row {xs ys zs : List Bool} {n : Nat} {b : Bool} (h : SubTo xs ys zs n b) (hn : xs.length = n) (hle : val ys ≤ val xs) : val zs = val xs - val ys := by
  have e := h.eq
  have n0 := val_nonneg zs
  have n1 := val_lt zs
  have n2 := val_lt xs
  rw [h.len] at n1
  rw [hn] at n2
  rw [List.take_of_length_le (by omega), val_take_small (by omega)] at e
  cases b
  · simp at e
    omega
  · simp at e
    omega

set_option maxRecDepth 100000 in
set_option maxHeartbeats 40000000 in
theorem adds_walk (A B : Option Addr) (n c m d : Nat) (us vs : List Int) (w : World) (hn : us.length = n) (hc : n ≤ c) (hx : Rn w A us) (hu : AllW us) (hm : vs.length = m) (hd : m ≤ d) (hy : Rn w B vs) (hv : AllW vs) (hT : TabOk w) :
    Calls Tryd.prog 3 #[.slice A n c, .slice B m d] w fun e w' => e = .returned (.bool true) ∧ Below w.heap.size w w' := by
  have HA := Lib.hid hn
  have HB := Lib.hid hm
  have HT := Lib.hid hT
  clear hn hm hT
  go_enter Tryd.func3, Tryd.ntmps3
  go_wp2_with fail
  refine (works2 w HT.out).mono ?_
  rintro e w1 ⟨rfl, hb1⟩
  have hx1 := hx.below hb1 (Nat.le_refl _)
  have hy1 := hy.below hb1 (Nat.le_refl _)
  go_wp2_with fail
  refine (small_any w1.heap.size 2 [(A, n, c), (B, m, d)] rfl (by decide) _ (by simp) ?hc).mono ?_
  case hc =>
    intro i p hp
    rcases i with _ | _ | i
    · simp at hp; subst hp; simp [go_sem]
    · simp at hp; subst hp; simp [go_sem]
    · simp at hp
  rintro e w2 ⟨rfl, rfl⟩
  have HB2 := Lib.hid (bel_alloc hb1 (.cells #[.slice A n c, .slice B m d] 23))
  have hx2 := hx1.alloc (.cells #[.slice A n c, .slice B m d] 23)
  have hy2 := hy1.alloc (.cells #[.slice A n c, .slice B m d] 23)
  generalize w1.alloc (.cells #[.slice A n c, .slice B m d] 23) = w2 at *
  clear hb1 hx1 hy1 hx hy
  by_cases hs : n ≤ 24 ∧ m ≤ 24
  · have e0 : smallB [(A, n, c), (B, m, d)] = true := by simp [smallB]; omega
    rw [e0]
    clear e0
    obtain ⟨BB, hBB⟩ : ∃ BB : Nat, BB = 24 := ⟨_, rfl⟩
    have hB1 : 24 ≤ BB := by omega
    have hB2 : BB ≤ 24 := by omega
    clear hBB
    obtain ⟨xa, ha⟩ : ∃ xa, nv us = xa := ⟨_, rfl⟩
    have Va := Lib.hid ha
    have za : 0 ≤ xa := by rw [← ha]; exact nv_nonneg _ hu
    have ba : Hid (xa < 2 ^ (32 * BB)) := by show _ < _; rw [← ha]; exact in_bd hu HA.out (by omega) BB hB1
    have lna : n ≤ BB := by omega
    clear ha
    obtain ⟨xb, hb⟩ : ∃ xb, nv vs = xb := ⟨_, rfl⟩
    have Vb := Lib.hid hb
    have zb : 0 ≤ xb := by rw [← hb]; exact nv_nonneg _ hv
    have bb : Hid (xb < 2 ^ (32 * BB)) := by show _ < _; rw [← hb]; exact in_bd hv HB.out (by omega) BB hB1
    have lnb : m ≤ BB := by omega
    clear hb
    go_wp2_with fail
    refine (rbits_any A n c us _ HA.out hx2 hu (by omega)).mono ?_
    rw [Va.out]
    rintro e w101 ⟨xs101, A101, c101, pp101, rfl, hc101, hm101, r101, hb101⟩
    have hx2x := hx2.below hb101 (Nat.le_refl _)
    clear hx2
    have hy2x := hy2.below hb101 (Nat.le_refl _)
    clear hy2
    have HB102 := Lib.hid (bel_trans HB2.out hb101)
    clear hb101
    have VXxs101 : Hid (val xs101 = xa) := by show _ = _; exact pp101.val
    obtain ⟨nxs101, lxs101⟩ : ∃ n, xs101.length = n := ⟨_, rfl⟩
    have lnxs101 : nxs101 ≤ 800 := by rw [← lxs101]; exact Nat.le_trans (pp101.le za ba.out) (by omega)
    rw [lxs101] at hc101 ⊢
    have LXxs101 := Lib.hid lxs101
    clear lxs101
    clear pp101
    go_wp2_with fail
    refine (rbits_any B m d vs _ HB.out hy2x hv (by omega)).mono ?_
    rw [Vb.out]
    rintro e w103 ⟨xs103, A103, c103, pp103, rfl, hc103, hm103, r103, hb103⟩
    have hx2xx := hx2x.below hb103 (Nat.le_refl _)
    clear hx2x
    have hy2xx := hy2x.below hb103 (Nat.le_refl _)
    clear hy2x
    have r101x := r101.below hb103 (Nat.le_refl _)
    clear r101
    have HB104 := Lib.hid (bel_trans HB102.out hb103)
    clear hb103
    have VXxs103 : Hid (val xs103 = xb) := by show _ = _; exact pp103.val
    obtain ⟨nxs103, lxs103⟩ : ∃ n, xs103.length = n := ⟨_, rfl⟩
    have lnxs103 : nxs103 ≤ 800 := by rw [← lxs103]; exact Nat.le_trans (pp103.le zb bb.out) (by omega)
    rw [lxs103] at hc103 ⊢
    have LXxs103 := Lib.hid lxs103
    clear lxs103
    clear pp103
    go_wp2_with fail
    refine (rcmp_any A101 A103 nxs101 nxs103 c101 c103 xs101 xs103 _ LXxs101.out LXxs103.out r101x r103 (by omega) (by omega)).mono ?_
    rw [VXxs101.out, VXxs103.out]
    rintro e w105 ⟨rfl, rfl⟩
    go_wp2_with fail
    refine (nadd_any A B n m c d us vs _ HA.out HB.out hx2xx hy2xx hu hv (by omega) (by omega)).mono ?_
    rw [Va.out, Vb.out]
    rintro e w106 ⟨u106, A106, n106, c106, hn106, hl106, rfl, hc106, r106, -, hb106⟩
    have hx2xxx := hx2xx.below hb106 (Nat.le_refl _)
    clear hx2xx
    have hy2xxx := hy2xx.below hb106 (Nat.le_refl _)
    clear hy2xx
    have r101xx := r101x.below hb106 (Nat.le_refl _)
    clear r101x
    have r103x := r103.below hb106 (Nat.le_refl _)
    clear r103
    have HB107 := Lib.hid (bel_trans HB104.out hb106)
    clear hb106
    have V106 := Lib.hid hn106.val
    have L106 := Lib.hid hl106
    clear hl106
    have z106 : 0 ≤ xa + xb := by omega
    have b106 : Hid (xa + xb < 2 ^ (32 * (BB + 1))) := add_bd ba.out bb.out (by omega) (by omega)
    have ln106 : n106 ≤ (BB + 1) := by have h := hn106.le b106.out; rw [L106.out] at h; exact h
    go_wp2_with fail
    refine (radd_any A101 A103 nxs101 nxs103 c101 c103 xs101 xs103 _ LXxs101.out LXxs103.out r101xx r103x (by omega) (by omega)).mono ?_
    rintro e w108 ⟨xs108, A108, c108, pp108, rfl, hc108, hm108, r108, hb108⟩
    have hx2xxxx := hx2xxx.below hb108 (Nat.le_refl _)
    clear hx2xxx
    have hy2xxxx := hy2xxx.below hb108 (Nat.le_refl _)
    clear hy2xxx
    have r106x := r106.below hb108 (Nat.le_refl _)
    clear r106
    have r101xxx := r101xx.below hb108 (Nat.le_refl _)
    clear r101xx
    have r103xx := r103x.below hb108 (Nat.le_refl _)
    clear r103x
    have HB109 := Lib.hid (bel_trans HB107.out hb108)
    clear hb108
    have VXxs108 : Hid (val xs108 = xa + xb) := by show _ = _; rw [pp108.1, VXxs101.out, VXxs103.out]
    obtain ⟨nxs108, lxs108⟩ : ∃ n, xs108.length = n := ⟨_, rfl⟩
    have lnxs108 : nxs108 ≤ 900 := by rw [← lxs108]; have h := pp108.2.2; rw [LXxs101.out, LXxs103.out] at h; omega
    rw [lxs108] at hc108 ⊢
    have LXxs108 := Lib.hid lxs108
    clear lxs108
    clear pp108
    go_wp2_with fail
    refine (isr_any A106 A108 n106 nxs108 c106 c108 u106 xs108 _ L106.out LXxs108.out r106x r108 (by omega) (by omega) (by rw [VXxs108.out]; exact hn106)).mono ?_
    rintro e w110 ⟨rfl, hb110⟩
    have hx2xxxxx := hx2xxxx.below hb110 (Nat.le_refl _)
    clear hx2xxxx
    have hy2xxxxx := hy2xxxx.below hb110 (Nat.le_refl _)
    clear hy2xxxx
    have r106xx := r106x.below hb110 (Nat.le_refl _)
    clear r106x
    have r101xxxx := r101xxx.below hb110 (Nat.le_refl _)
    clear r101xxx
    have r103xxx := r103xx.below hb110 (Nat.le_refl _)
    clear r103xx
    have r108x := r108.below hb110 (Nat.le_refl _)
    clear r108
    have HB111 := Lib.hid (bel_trans HB109.out hb110)
    clear hb110
    clear r106xx
    clear r108x
    go_wp2_with fail
    refine (nmul_any A B n m c d us vs _ HA.out HB.out hc hd hx2xxxxx hy2xxxxx hu hv (by omega) (by omega)).mono ?_
    rw [Va.out, Vb.out]
    rintro e w112 ⟨u112, A112, n112, c112, hn112, hl112, rfl, hc112, r112, -, hb112⟩
    have hx2xxxxxx := hx2xxxxx.below hb112 (Nat.le_refl _)
    clear hx2xxxxx
    have hy2xxxxxx := hy2xxxxx.below hb112 (Nat.le_refl _)
    clear hy2xxxxx
    have r101xxxxx := r101xxxx.below hb112 (Nat.le_refl _)
    clear r101xxxx
    have r103xxxx := r103xxx.below hb112 (Nat.le_refl _)
    clear r103xxx
    have HB113 := Lib.hid (bel_trans HB111.out hb112)
    clear hb112
    have V112 := Lib.hid hn112.val
    have L112 := Lib.hid hl112
    clear hl112
    have z112 : 0 ≤ xa * xb := Int.mul_nonneg za zb
    have b112 : Hid (xa * xb < 2 ^ (32 * (BB + BB))) := mul_bd za ba.out bb.out (by omega)
    have ln112 : n112 ≤ (BB + BB) := by have h := hn112.le b112.out; rw [L112.out] at h; exact h
    go_wp2_with fail
    refine (rmul_any A101 A103 nxs101 nxs103 c101 c103 xs101 xs103 _ LXxs101.out LXxs103.out r101xxxxx r103xxxx (by omega) (by omega)).mono ?_
    rintro e w114 ⟨xs114, A114, c114, pp114, rfl, hc114, hm114, r114, hb114⟩
    have hx2xxxxxxx := hx2xxxxxx.below hb114 (Nat.le_refl _)
    clear hx2xxxxxx
    have hy2xxxxxxx := hy2xxxxxx.below hb114 (Nat.le_refl _)
    clear hy2xxxxxx
    have r112x := r112.below hb114 (Nat.le_refl _)
    clear r112
    have r101xxxxxx := r101xxxxx.below hb114 (Nat.le_refl _)
    clear r101xxxxx
    have r103xxxxx := r103xxxx.below hb114 (Nat.le_refl _)
    clear r103xxxx
    have HB115 := Lib.hid (bel_trans HB113.out hb114)
    clear hb114
    have VXxs114 : Hid (val xs114 = xa * xb) := by show _ = _; rw [pp114.1, VXxs101.out, VXxs103.out]
    obtain ⟨nxs114, lxs114⟩ : ∃ n, xs114.length = n := ⟨_, rfl⟩
    have lnxs114 : nxs114 ≤ 1700 := by rw [← lxs114]; have h := pp114.2; rw [LXxs101.out, LXxs103.out] at h; omega
    rw [lxs114] at hc114 ⊢
    have LXxs114 := Lib.hid lxs114
    clear lxs114
    clear pp114
    go_wp2_with fail
    refine (isr_any A112 A114 n112 nxs114 c112 c114 u112 xs114 _ L112.out LXxs114.out r112x r114 (by omega) (by omega) (by rw [VXxs114.out]; exact hn112)).mono ?_
    rintro e w116 ⟨rfl, hb116⟩
    have hx2xxxxxxxx := hx2xxxxxxx.below hb116 (Nat.le_refl _)
    clear hx2xxxxxxx
    have hy2xxxxxxxx := hy2xxxxxxx.below hb116 (Nat.le_refl _)
    clear hy2xxxxxxx
    have r112xx := r112x.below hb116 (Nat.le_refl _)
    clear r112x
    have r101xxxxxxx := r101xxxxxx.below hb116 (Nat.le_refl _)
    clear r101xxxxxx
    have r103xxxxxx := r103xxxxx.below hb116 (Nat.le_refl _)
    clear r103xxxxx
    have r114x := r114.below hb116 (Nat.le_refl _)
    clear r114
    have HB117 := Lib.hid (bel_trans HB115.out hb116)
    clear hb116
    clear r112xx
    clear r114x
    go_wp2_with fail
    refine (nsub_any A B n m c d us vs _ HA.out HB.out hc hd hx2xxxxxxxx hy2xxxxxxxx hu hv (by omega) (by omega)).mono ?_
    rw [Va.out, Vb.out]
    rintro e w118 ⟨u118, A118, n118, c118, ok118, hok118, hn118, hl118, rfl, hc118, r118, -, hb118⟩
    have hx2xxxxxxxxx := hx2xxxxxxxx.below hb118 (Nat.le_refl _)
    clear hx2xxxxxxxx
    have hy2xxxxxxxxx := hy2xxxxxxxx.below hb118 (Nat.le_refl _)
    clear hy2xxxxxxxx
    have r101xxxxxxxx := r101xxxxxxx.below hb118 (Nat.le_refl _)
    clear r101xxxxxxx
    have r103xxxxxxx := r103xxxxxx.below hb118 (Nat.le_refl _)
    clear r103xxxxxx
    have HB119 := Lib.hid (bel_trans HB117.out hb118)
    clear hb118
    by_cases hlt : xa < xb
    · have t0 := cmp_lt0 hlt
      obtain rfl : ok118 = false := by rw [hok118]; exact decide_eq_false (by omega)
      rw [if_neg (by omega)] at hn118
      obtain rfl := hn118.zero
      obtain rfl : 0 = n118 := hl118
      clear hok118 hn118 r118
      generalize hcc : cmpI xa xb = cc at *
      have HCC := Lib.hid hcc
      clear hcc
      go_wp2_with fail
      refine (ncmp_any A B n m c d us vs _ HA.out HB.out hc hd hx2xxxxxxxxx hy2xxxxxxxxx hu hv (by omega) (by omega)).mono ?_
      rw [Va.out, Vb.out]
      rw [HCC.out]
      rintro e w120 ⟨rfl, hb120⟩
      have hx2xxxxxxxxxx := hx2xxxxxxxxx.below hb120 (Nat.le_refl _)
      clear hx2xxxxxxxxx
      have hy2xxxxxxxxxx := hy2xxxxxxxxx.below hb120 (Nat.le_refl _)
      clear hy2xxxxxxxxx
      have r101xxxxxxxxx := r101xxxxxxxx.below hb120 (Nat.le_refl _)
      clear r101xxxxxxxx
      have r103xxxxxxxx := r103xxxxxxx.below hb120 (Nat.le_refl _)
      clear r103xxxxxxx
      have HB121 := Lib.hid (bel_trans HB119.out hb120)
      clear hb120
      go_wp2_with fail
      go_ret
      exact ⟨rfl, HB121.out⟩
    · have hle : xb ≤ xa := by omega
      have t0 := cmp_nlt0 hle
      obtain rfl : ok118 = true := by rw [hok118]; exact decide_eq_true hle
      rw [if_pos hle] at hn118
      clear hok118
      have V118 := Lib.hid hn118.val
      have L118 := Lib.hid hl118
      clear hl118
      have z118 : 0 ≤ (xa - xb) := by omega
      have b118 : Hid ((xa - xb) < 2 ^ (32 * BB)) := by show _ < _; have h := ba.out; omega
      have ln118 : n118 ≤ BB := by have h := hn118.le b118.out; rw [L118.out] at h; exact h
      generalize hcc : cmpI xa xb = cc at *
      have HCC := Lib.hid hcc
      clear hcc
      go_wp2_with fail
      refine (rsub_any A101 A103 nxs101 nxs103 c101 c103 xs101 xs103 (nxs101 : Int) _ LXxs101.out LXxs103.out r101xxxxxxxx r103xxxxxxx (by omega) (by omega) (by omega) (by omega)).mono ?_
      rw [Int.toNat_natCast]
      rintro e w501 ⟨xs501, lb, A501, c501, pp501, rfl, hc501, hm501, r501, hb501⟩
      have hx2xxxxxxxxxx := hx2xxxxxxxxx.below hb501 (Nat.le_refl _)
      clear hx2xxxxxxxxx
      have hy2xxxxxxxxxx := hy2xxxxxxxxx.below hb501 (Nat.le_refl _)
      clear hy2xxxxxxxxx
      have r118x := r118.below hb501 (Nat.le_refl _)
      clear r118
      have r101xxxxxxxxx := r101xxxxxxxx.below hb501 (Nat.le_refl _)
      clear r101xxxxxxxx
      have r103xxxxxxxx := r103xxxxxxx.below hb501 (Nat.le_refl _)
      clear r103xxxxxxx
      have HB502 := Lib.hid (bel_trans HB119.out hb501)
      clear hb501
      have VXxs501 : Hid (val xs501 = (xa - xb)) := by show _ = _; rw [sub_row pp501 LXxs101.out (by rw [VXxs101.out, VXxs103.out]; exact hle), VXxs101.out, VXxs103.out]
      obtain ⟨nxs501, lxs501⟩ : ∃ n, xs501.length = n := ⟨_, rfl⟩
      have lnxs501 : nxs501 ≤ 800 := by rw [← lxs501, pp501.len]; exact lnxs101
      rw [lxs501] at hc501 ⊢
      have LXxs501 := Lib.hid lxs501
      clear lxs501
      clear pp501
      go_wp2_with fail
      refine (isr_any A118 A501 n118 nxs501 c118 c501 u118 xs501 _ L118.out LXxs501.out r118x r501 (by omega) (by omega) (by rw [VXxs501.out]; exact hn118)).mono ?_
      rintro e w503 ⟨rfl, hb503⟩
      have hx2xxxxxxxxxxx := hx2xxxxxxxxxx.below hb503 (Nat.le_refl _)
      clear hx2xxxxxxxxxx
      have hy2xxxxxxxxxxx := hy2xxxxxxxxxx.below hb503 (Nat.le_refl _)
      clear hy2xxxxxxxxxx
      have r118xx := r118x.below hb503 (Nat.le_refl _)
      clear r118x
      have r101xxxxxxxxxx := r101xxxxxxxxx.below hb503 (Nat.le_refl _)
      clear r101xxxxxxxxx
      have r103xxxxxxxxx := r103xxxxxxxx.below hb503 (Nat.le_refl _)
      clear r103xxxxxxxx
      have r501x := r501.below hb503 (Nat.le_refl _)
      clear r501
      have HB504 := Lib.hid (bel_trans HB502.out hb503)
      clear hb503
      go_wp2_with fail
      refine (ncmp_any A B n m c d us vs _ HA.out HB.out hc hd hx2xxxxxxxxxxx hy2xxxxxxxxxxx hu hv (by omega) (by omega)).mono ?_
      rw [Va.out, Vb.out]
      rw [HCC.out]
      rintro e w505 ⟨rfl, hb505⟩
      have hx2xxxxxxxxxxxx := hx2xxxxxxxxxxx.below hb505 (Nat.le_refl _)
      clear hx2xxxxxxxxxxx
      have hy2xxxxxxxxxxxx := hy2xxxxxxxxxxx.below hb505 (Nat.le_refl _)
      clear hy2xxxxxxxxxxx
      have r118xxx := r118xx.below hb505 (Nat.le_refl _)
      clear r118xx
      have r101xxxxxxxxxxx := r101xxxxxxxxxx.below hb505 (Nat.le_refl _)
      clear r101xxxxxxxxxx
      have r103xxxxxxxxxx := r103xxxxxxxxx.below hb505 (Nat.le_refl _)
      clear r103xxxxxxxxx
      have r501xx := r501x.below hb505 (Nat.le_refl _)
      clear r501x
      have HB506 := Lib.hid (bel_trans HB504.out hb505)
      clear hb505
      go_wp2_with fail
      go_ret
      exact ⟨rfl, HB506.out⟩
  · have e0 : smallB [(A, n, c), (B, m, d)] = false := by
      rw [Bool.eq_false_iff]
      intro h
      simp [smallB] at h
      omega
    rw [e0]
    clear e0
    go_wp2_with fail
    go_ret
    exact ⟨rfl, HB2.out⟩
end Go.Proofs.YtckeajjlkpjgjaaDoor
