/-
  The walk of NatLaws: for all numbers the law answers true, and nothing that was there has changed. Condition: the table of math/bits stands in its variable.
-/
import Derived.Test.YtckeajjlkpjgjaaDoorQmore
namespace Go.Proofs.YtckeajjlkpjgjaaDoor
open Go.RowKit

set_option maxRecDepth 100000 in
set_option maxHeartbeats 40000000 in
theorem laws_walk (A B C : Option Addr) (n c m d k f : Nat) (us vs ts : List Int) (w : World) (hn : us.length = n) (hc : n ≤ c) (hx : Rn w A us) (hu : AllW us) (hm : vs.length = m) (hd : m ≤ d) (hy : Rn w B vs) (hv : AllW vs) (hk : ts.length = k) (hf : k ≤ f) (hz : Rn w C ts) (ht : AllW ts) (hT : TabOk w) :
    Calls Tryd.prog 8 #[.slice A n c, .slice B m d, .slice C k f] w fun e w' => e = .returned (.bool true) ∧ Below w.heap.size w w' := by
  have HA := Lib.hid hn
  have HB := Lib.hid hm
  have HC := Lib.hid hk
  have HT := Lib.hid hT
  clear hn hm hk hT
  go_enter Tryd.func8, Tryd.ntmps8
  go_wp2_with fail
  refine (works2 w HT.out).mono ?_
  rintro e w1 ⟨rfl, hb1⟩
  have hx1 := hx.below hb1 (Nat.le_refl _)
  have hy1 := hy.below hb1 (Nat.le_refl _)
  have hz1 := hz.below hb1 (Nat.le_refl _)
  go_wp2_with fail
  refine (small_any w1.heap.size 3 [(A, n, c), (B, m, d), (C, k, f)] rfl (by decide) _ (by simp) ?hc).mono ?_
  case hc =>
    intro i p hp
    rcases i with _ | _ | _ | i
    · simp at hp; subst hp; simp [go_sem]
    · simp at hp; subst hp; simp [go_sem]
    · simp at hp; subst hp; simp [go_sem]
    · simp at hp
  rintro e w2 ⟨rfl, rfl⟩
  have HB2 := Lib.hid (bel_alloc hb1 (.cells #[.slice A n c, .slice B m d, .slice C k f] 23))
  have hx2 := hx1.alloc (.cells #[.slice A n c, .slice B m d, .slice C k f] 23)
  have hy2 := hy1.alloc (.cells #[.slice A n c, .slice B m d, .slice C k f] 23)
  have hz2 := hz1.alloc (.cells #[.slice A n c, .slice B m d, .slice C k f] 23)
  generalize w1.alloc (.cells #[.slice A n c, .slice B m d, .slice C k f] 23) = w2 at *
  clear hb1 hx1 hy1 hz1 hx hy hz
  by_cases hs : n ≤ 24 ∧ m ≤ 24 ∧ k ≤ 24
  · have e0 : smallB [(A, n, c), (B, m, d), (C, k, f)] = true := by simp [smallB]; omega
    rw [e0]
    clear e0
    obtain ⟨BB, hBB⟩ : ∃ BB : Nat, BB = 24 := ⟨_, rfl⟩
    have hB1 : 24 ≤ BB := by omega
    have hB2 : BB ≤ 24 := by omega
    clear hBB
    obtain ⟨xa, ha⟩ : ∃ xa, nv us = xa := ⟨_, rfl⟩
    have Va := Lib.hid ha
    have za : 0 ≤ xa := by rw [← ha]; exact nv_nonneg _ hu
    have ba : Hid (xa < 2 ^ (32 * BB)) := by show _ < _; rw [← ha]; exact in_bd hu HA.out (by omega) BB hB1
    have lna : n ≤ BB := by omega
    clear ha
    obtain ⟨xb, hb⟩ : ∃ xb, nv vs = xb := ⟨_, rfl⟩
    have Vb := Lib.hid hb
    have zb : 0 ≤ xb := by rw [← hb]; exact nv_nonneg _ hv
    have bb : Hid (xb < 2 ^ (32 * BB)) := by show _ < _; rw [← hb]; exact in_bd hv HB.out (by omega) BB hB1
    have lnb : m ≤ BB := by omega
    clear hb
    obtain ⟨xc, hc⟩ : ∃ xc, nv ts = xc := ⟨_, rfl⟩
    have Vc := Lib.hid hc
    have zc : 0 ≤ xc := by rw [← hc]; exact nv_nonneg _ ht
    have bc : Hid (xc < 2 ^ (32 * BB)) := by show _ < _; rw [← hc]; exact in_bd ht HC.out (by omega) BB hB1
    have lnc : k ≤ BB := by omega
    clear hc
    go_wp2_with fail
    refine (nadd_any A B n m c d us vs _ HA.out HB.out hx2 hy2 hu hv (by omega) (by omega)).mono ?_
    rw [Va.out, Vb.out]
    rintro e w101 ⟨u101, A101, n101, c101, hn101, hl101, rfl, hc101, r101, -, hb101⟩
    have hx2x := hx2.below hb101 (Nat.le_refl _)
    clear hx2
    have hy2x := hy2.below hb101 (Nat.le_refl _)
    clear hy2
    have hz2x := hz2.below hb101 (Nat.le_refl _)
    clear hz2
    have HB102 := Lib.hid (bel_trans HB2.out hb101)
    clear hb101
    have V101 := Lib.hid hn101.val
    have L101 := Lib.hid hl101
    clear hl101
    have z101 : 0 ≤ xa + xb := by omega
    have b101 : Hid (xa + xb < 2 ^ (32 * (BB + 1))) := add_bd ba.out bb.out (by omega) (by omega)
    have ln101 : n101 ≤ (BB + 1) := by have h := hn101.le b101.out; rw [L101.out] at h; exact h
    go_wp2_with fail
    refine (nadd_any B A m n d c vs us _ HB.out HA.out hy2x hx2x hv hu (by omega) (by omega)).mono ?_
    rw [Vb.out, Va.out]
    rintro e w103 ⟨u103, A103, n103, c103, hn103, hl103, rfl, hc103, r103, -, hb103⟩
    have hx2xx := hx2x.below hb103 (Nat.le_refl _)
    clear hx2x
    have hy2xx := hy2x.below hb103 (Nat.le_refl _)
    clear hy2x
    have hz2xx := hz2x.below hb103 (Nat.le_refl _)
    clear hz2x
    have r101x := r101.below hb103 (Nat.le_refl _)
    clear r101
    have HB104 := Lib.hid (bel_trans HB102.out hb103)
    clear hb103
    have V103 := Lib.hid hn103.val
    have L103 := Lib.hid hl103
    clear hl103
    have z103 : 0 ≤ xb + xa := by omega
    have b103 : Hid (xb + xa < 2 ^ (32 * (BB + 1))) := add_bd bb.out ba.out (by omega) (by omega)
    have ln103 : n103 ≤ (BB + 1) := by have h := hn103.le b103.out; rw [L103.out] at h; exact h
    go_wp2_with fail
    refine (ncmp_any A101 A103 n101 n103 c101 c103 u101 u103 _ L101.out L103.out hc101 hc103 r101x r103 hn101.all hn103.all (by omega) (by omega)).mono ?_
    rw [V101.out, V103.out]
    rw [show cmpI (xa + xb) (xb + xa) = 0 from by rw [show (xa + xb : Int) = xb + xa from Int.add_comm _ _]; exact cmpI_eq _]
    rintro e w105 ⟨rfl, hb105⟩
    have hx2xxx := hx2xx.below hb105 (Nat.le_refl _)
    clear hx2xx
    have hy2xxx := hy2xx.below hb105 (Nat.le_refl _)
    clear hy2xx
    have hz2xxx := hz2xx.below hb105 (Nat.le_refl _)
    clear hz2xx
    have r101xx := r101x.below hb105 (Nat.le_refl _)
    clear r101x
    have r103x := r103.below hb105 (Nat.le_refl _)
    clear r103
    have HB106 := Lib.hid (bel_trans HB104.out hb105)
    clear hb105
    clear r101xx hc101 V101 L101 z101 b101 ln101 hn101
    clear r103x hc103 V103 L103 z103 b103 ln103 hn103
    go_wp2_with fail
    refine (nmul_any A B n m c d us vs _ HA.out HB.out hc hd hx2xxx hy2xxx hu hv (by omega) (by omega)).mono ?_
    rw [Va.out, Vb.out]
    rintro e w107 ⟨u107, A107, n107, c107, hn107, hl107, rfl, hc107, r107, -, hb107⟩
    have hx2xxxx := hx2xxx.below hb107 (Nat.le_refl _)
    clear hx2xxx
    have hy2xxxx := hy2xxx.below hb107 (Nat.le_refl _)
    clear hy2xxx
    have hz2xxxx := hz2xxx.below hb107 (Nat.le_refl _)
    clear hz2xxx
    have HB108 := Lib.hid (bel_trans HB106.out hb107)
    clear hb107
    have V107 := Lib.hid hn107.val
    have L107 := Lib.hid hl107
    clear hl107
    have z107 : 0 ≤ xa * xb := Int.mul_nonneg za zb
    have b107 : Hid (xa * xb < 2 ^ (32 * (BB + BB))) := mul_bd za ba.out bb.out (by omega)
    have ln107 : n107 ≤ (BB + BB) := by have h := hn107.le b107.out; rw [L107.out] at h; exact h
    go_wp2_with fail
    refine (nmul_any B A m n d c vs us _ HB.out HA.out hd hc hy2xxxx hx2xxxx hv hu (by omega) (by omega)).mono ?_
    rw [Vb.out, Va.out]
    rintro e w109 ⟨u109, A109, n109, c109, hn109, hl109, rfl, hc109, r109, -, hb109⟩
    have hx2xxxxx := hx2xxxx.below hb109 (Nat.le_refl _)
    clear hx2xxxx
    have hy2xxxxx := hy2xxxx.below hb109 (Nat.le_refl _)
    clear hy2xxxx
    have hz2xxxxx := hz2xxxx.below hb109 (Nat.le_refl _)
    clear hz2xxxx
    have r107x := r107.below hb109 (Nat.le_refl _)
    clear r107
    have HB110 := Lib.hid (bel_trans HB108.out hb109)
    clear hb109
    have V109 := Lib.hid hn109.val
    have L109 := Lib.hid hl109
    clear hl109
    have z109 : 0 ≤ xb * xa := Int.mul_nonneg zb za
    have b109 : Hid (xb * xa < 2 ^ (32 * (BB + BB))) := mul_bd zb bb.out ba.out (by omega)
    have ln109 : n109 ≤ (BB + BB) := by have h := hn109.le b109.out; rw [L109.out] at h; exact h
    go_wp2_with fail
    refine (ncmp_any A107 A109 n107 n109 c107 c109 u107 u109 _ L107.out L109.out hc107 hc109 r107x r109 hn107.all hn109.all (by omega) (by omega)).mono ?_
    rw [V107.out, V109.out]
    rw [show cmpI (xa * xb) (xb * xa) = 0 from by rw [show (xa * xb : Int) = xb * xa from Int.mul_comm _ _]; exact cmpI_eq _]
    rintro e w111 ⟨rfl, hb111⟩
    have hx2xxxxxx := hx2xxxxx.below hb111 (Nat.le_refl _)
    clear hx2xxxxx
    have hy2xxxxxx := hy2xxxxx.below hb111 (Nat.le_refl _)
    clear hy2xxxxx
    have hz2xxxxxx := hz2xxxxx.below hb111 (Nat.le_refl _)
    clear hz2xxxxx
    have r107xx := r107x.below hb111 (Nat.le_refl _)
    clear r107x
    have r109x := r109.below hb111 (Nat.le_refl _)
    clear r109
    have HB112 := Lib.hid (bel_trans HB110.out hb111)
    clear hb111
    clear r107xx hc107 V107 L107 z107 b107 ln107 hn107
    clear r109x hc109 V109 L109 z109 b109 ln109 hn109
    go_wp2_with fail
    refine (nadd_any A B n m c d us vs _ HA.out HB.out hx2xxxxxx hy2xxxxxx hu hv (by omega) (by omega)).mono ?_
    rw [Va.out, Vb.out]
    rintro e w113 ⟨u113, A113, n113, c113, hn113, hl113, rfl, hc113, r113, -, hb113⟩
    have hx2xxxxxxx := hx2xxxxxx.below hb113 (Nat.le_refl _)
    clear hx2xxxxxx
    have hy2xxxxxxx := hy2xxxxxx.below hb113 (Nat.le_refl _)
    clear hy2xxxxxx
    have hz2xxxxxxx := hz2xxxxxx.below hb113 (Nat.le_refl _)
    clear hz2xxxxxx
    have HB114 := Lib.hid (bel_trans HB112.out hb113)
    clear hb113
    have V113 := Lib.hid hn113.val
    have L113 := Lib.hid hl113
    clear hl113
    have z113 : 0 ≤ xa + xb := by omega
    have b113 : Hid (xa + xb < 2 ^ (32 * (BB + 1))) := add_bd ba.out bb.out (by omega) (by omega)
    have ln113 : n113 ≤ (BB + 1) := by have h := hn113.le b113.out; rw [L113.out] at h; exact h
    go_wp2_with fail
    refine (nadd_any A113 C n113 k c113 f u113 ts _ L113.out HC.out r113 hz2xxxxxxx hn113.all ht (by omega) (by omega)).mono ?_
    rw [V113.out, Vc.out]
    rintro e w115 ⟨u115, A115, n115, c115, hn115, hl115, rfl, hc115, r115, -, hb115⟩
    have hx2xxxxxxxx := hx2xxxxxxx.below hb115 (Nat.le_refl _)
    clear hx2xxxxxxx
    have hy2xxxxxxxx := hy2xxxxxxx.below hb115 (Nat.le_refl _)
    clear hy2xxxxxxx
    have hz2xxxxxxxx := hz2xxxxxxx.below hb115 (Nat.le_refl _)
    clear hz2xxxxxxx
    have r113x := r113.below hb115 (Nat.le_refl _)
    clear r113
    have HB116 := Lib.hid (bel_trans HB114.out hb115)
    clear hb115
    have V115 := Lib.hid hn115.val
    have L115 := Lib.hid hl115
    clear hl115
    have z115 : 0 ≤ xa + xb + xc := by omega
    have b115 : Hid (xa + xb + xc < 2 ^ (32 * (BB + 2))) := add_bd b113.out bc.out (by omega) (by omega)
    have ln115 : n115 ≤ (BB + 2) := by have h := hn115.le b115.out; rw [L115.out] at h; exact h
    clear r113x hc113 V113 L113 z113 b113 ln113 hn113
    go_wp2_with fail
    refine (nadd_any B C m k d f vs ts _ HB.out HC.out hy2xxxxxxxx hz2xxxxxxxx hv ht (by omega) (by omega)).mono ?_
    rw [Vb.out, Vc.out]
    rintro e w117 ⟨u117, A117, n117, c117, hn117, hl117, rfl, hc117, r117, -, hb117⟩
    have hx2xxxxxxxxx := hx2xxxxxxxx.below hb117 (Nat.le_refl _)
    clear hx2xxxxxxxx
    have hy2xxxxxxxxx := hy2xxxxxxxx.below hb117 (Nat.le_refl _)
    clear hy2xxxxxxxx
    have hz2xxxxxxxxx := hz2xxxxxxxx.below hb117 (Nat.le_refl _)
    clear hz2xxxxxxxx
    have r115x := r115.below hb117 (Nat.le_refl _)
    clear r115
    have HB118 := Lib.hid (bel_trans HB116.out hb117)
    clear hb117
    have V117 := Lib.hid hn117.val
    have L117 := Lib.hid hl117
    clear hl117
    have z117 : 0 ≤ xb + xc := by omega
    have b117 : Hid (xb + xc < 2 ^ (32 * (BB + 1))) := add_bd bb.out bc.out (by omega) (by omega)
    have ln117 : n117 ≤ (BB + 1) := by have h := hn117.le b117.out; rw [L117.out] at h; exact h
    go_wp2_with fail
    refine (nadd_any A A117 n n117 c c117 us u117 _ HA.out L117.out hx2xxxxxxxxx r117 hu hn117.all (by omega) (by omega)).mono ?_
    rw [Va.out, V117.out]
    rintro e w119 ⟨u119, A119, n119, c119, hn119, hl119, rfl, hc119, r119, -, hb119⟩
    have hx2xxxxxxxxxx := hx2xxxxxxxxx.below hb119 (Nat.le_refl _)
    clear hx2xxxxxxxxx
    have hy2xxxxxxxxxx := hy2xxxxxxxxx.below hb119 (Nat.le_refl _)
    clear hy2xxxxxxxxx
    have hz2xxxxxxxxxx := hz2xxxxxxxxx.below hb119 (Nat.le_refl _)
    clear hz2xxxxxxxxx
    have r115xx := r115x.below hb119 (Nat.le_refl _)
    clear r115x
    have r117x := r117.below hb119 (Nat.le_refl _)
    clear r117
    have HB120 := Lib.hid (bel_trans HB118.out hb119)
    clear hb119
    have V119 := Lib.hid hn119.val
    have L119 := Lib.hid hl119
    clear hl119
    have z119 : 0 ≤ xa + (xb + xc) := by omega
    have b119 : Hid (xa + (xb + xc) < 2 ^ (32 * (BB + 2))) := add_bd ba.out b117.out (by omega) (by omega)
    have ln119 : n119 ≤ (BB + 2) := by have h := hn119.le b119.out; rw [L119.out] at h; exact h
    clear r117x hc117 V117 L117 z117 b117 ln117 hn117
    go_wp2_with fail
    refine (ncmp_any A115 A119 n115 n119 c115 c119 u115 u119 _ L115.out L119.out hc115 hc119 r115xx r119 hn115.all hn119.all (by omega) (by omega)).mono ?_
    rw [V115.out, V119.out]
    rw [show cmpI (xa + xb + xc) (xa + (xb + xc)) = 0 from by rw [show (xa + xb + xc : Int) = xa + (xb + xc) from by omega]; exact cmpI_eq _]
    rintro e w121 ⟨rfl, hb121⟩
    have hx2xxxxxxxxxxx := hx2xxxxxxxxxx.below hb121 (Nat.le_refl _)
    clear hx2xxxxxxxxxx
    have hy2xxxxxxxxxxx := hy2xxxxxxxxxx.below hb121 (Nat.le_refl _)
    clear hy2xxxxxxxxxx
    have hz2xxxxxxxxxxx := hz2xxxxxxxxxx.below hb121 (Nat.le_refl _)
    clear hz2xxxxxxxxxx
    have r115xxx := r115xx.below hb121 (Nat.le_refl _)
    clear r115xx
    have r119x := r119.below hb121 (Nat.le_refl _)
    clear r119
    have HB122 := Lib.hid (bel_trans HB120.out hb121)
    clear hb121
    clear r115xxx hc115 V115 L115 z115 b115 ln115 hn115
    clear r119x hc119 V119 L119 z119 b119 ln119 hn119
    go_wp2_with fail
    refine (nmul_any A B n m c d us vs _ HA.out HB.out hc hd hx2xxxxxxxxxxx hy2xxxxxxxxxxx hu hv (by omega) (by omega)).mono ?_
    rw [Va.out, Vb.out]
    rintro e w123 ⟨u123, A123, n123, c123, hn123, hl123, rfl, hc123, r123, -, hb123⟩
    have hx2xxxxxxxxxxxx := hx2xxxxxxxxxxx.below hb123 (Nat.le_refl _)
    clear hx2xxxxxxxxxxx
    have hy2xxxxxxxxxxxx := hy2xxxxxxxxxxx.below hb123 (Nat.le_refl _)
    clear hy2xxxxxxxxxxx
    have hz2xxxxxxxxxxxx := hz2xxxxxxxxxxx.below hb123 (Nat.le_refl _)
    clear hz2xxxxxxxxxxx
    have HB124 := Lib.hid (bel_trans HB122.out hb123)
    clear hb123
    have V123 := Lib.hid hn123.val
    have L123 := Lib.hid hl123
    clear hl123
    have z123 : 0 ≤ xa * xb := Int.mul_nonneg za zb
    have b123 : Hid (xa * xb < 2 ^ (32 * (BB + BB))) := mul_bd za ba.out bb.out (by omega)
    have ln123 : n123 ≤ (BB + BB) := by have h := hn123.le b123.out; rw [L123.out] at h; exact h
    go_wp2_with fail
    refine (nmul_any A123 C n123 k c123 f u123 ts _ L123.out HC.out hc123 hf r123 hz2xxxxxxxxxxxx hn123.all ht (by omega) (by omega)).mono ?_
    rw [V123.out, Vc.out]
    rintro e w125 ⟨u125, A125, n125, c125, hn125, hl125, rfl, hc125, r125, -, hb125⟩
    have hx2xxxxxxxxxxxxx := hx2xxxxxxxxxxxx.below hb125 (Nat.le_refl _)
    clear hx2xxxxxxxxxxxx
    have hy2xxxxxxxxxxxxx := hy2xxxxxxxxxxxx.below hb125 (Nat.le_refl _)
    clear hy2xxxxxxxxxxxx
    have hz2xxxxxxxxxxxxx := hz2xxxxxxxxxxxx.below hb125 (Nat.le_refl _)
    clear hz2xxxxxxxxxxxx
    have r123x := r123.below hb125 (Nat.le_refl _)
    clear r123
    have HB126 := Lib.hid (bel_trans HB124.out hb125)
    clear hb125
    have V125 := Lib.hid hn125.val
    have L125 := Lib.hid hl125
    clear hl125
    have z125 : 0 ≤ (xa * xb) * xc := Int.mul_nonneg z123 zc
    have b125 : Hid ((xa * xb) * xc < 2 ^ (32 * (BB + BB + BB))) := mul_bd z123 b123.out bc.out (by omega)
    have ln125 : n125 ≤ (BB + BB + BB) := by have h := hn125.le b125.out; rw [L125.out] at h; exact h
    clear r123x hc123 V123 L123 z123 b123 ln123 hn123
    go_wp2_with fail
    refine (nmul_any B C m k d f vs ts _ HB.out HC.out hd hf hy2xxxxxxxxxxxxx hz2xxxxxxxxxxxxx hv ht (by omega) (by omega)).mono ?_
    rw [Vb.out, Vc.out]
    rintro e w127 ⟨u127, A127, n127, c127, hn127, hl127, rfl, hc127, r127, -, hb127⟩
    have hx2xxxxxxxxxxxxxx := hx2xxxxxxxxxxxxx.below hb127 (Nat.le_refl _)
    clear hx2xxxxxxxxxxxxx
    have hy2xxxxxxxxxxxxxx := hy2xxxxxxxxxxxxx.below hb127 (Nat.le_refl _)
    clear hy2xxxxxxxxxxxxx
    have hz2xxxxxxxxxxxxxx := hz2xxxxxxxxxxxxx.below hb127 (Nat.le_refl _)
    clear hz2xxxxxxxxxxxxx
    have r125x := r125.below hb127 (Nat.le_refl _)
    clear r125
    have HB128 := Lib.hid (bel_trans HB126.out hb127)
    clear hb127
    have V127 := Lib.hid hn127.val
    have L127 := Lib.hid hl127
    clear hl127
    have z127 : 0 ≤ xb * xc := Int.mul_nonneg zb zc
    have b127 : Hid (xb * xc < 2 ^ (32 * (BB + BB))) := mul_bd zb bb.out bc.out (by omega)
    have ln127 : n127 ≤ (BB + BB) := by have h := hn127.le b127.out; rw [L127.out] at h; exact h
    go_wp2_with fail
    refine (nmul_any A A127 n n127 c c127 us u127 _ HA.out L127.out hc hc127 hx2xxxxxxxxxxxxxx r127 hu hn127.all (by omega) (by omega)).mono ?_
    rw [Va.out, V127.out]
    rintro e w129 ⟨u129, A129, n129, c129, hn129, hl129, rfl, hc129, r129, -, hb129⟩
    have hx2xxxxxxxxxxxxxxx := hx2xxxxxxxxxxxxxx.below hb129 (Nat.le_refl _)
    clear hx2xxxxxxxxxxxxxx
    have hy2xxxxxxxxxxxxxxx := hy2xxxxxxxxxxxxxx.below hb129 (Nat.le_refl _)
    clear hy2xxxxxxxxxxxxxx
    have hz2xxxxxxxxxxxxxxx := hz2xxxxxxxxxxxxxx.below hb129 (Nat.le_refl _)
    clear hz2xxxxxxxxxxxxxx
    have r125xx := r125x.below hb129 (Nat.le_refl _)
    clear r125x
    have r127x := r127.below hb129 (Nat.le_refl _)
    clear r127
    have HB130 := Lib.hid (bel_trans HB128.out hb129)
    clear hb129
    have V129 := Lib.hid hn129.val
    have L129 := Lib.hid hl129
    clear hl129
    have z129 : 0 ≤ xa * (xb * xc) := Int.mul_nonneg za z127
    have b129 : Hid (xa * (xb * xc) < 2 ^ (32 * (BB + (BB + BB)))) := mul_bd za ba.out b127.out (by omega)
    have ln129 : n129 ≤ (BB + (BB + BB)) := by have h := hn129.le b129.out; rw [L129.out] at h; exact h
    clear r127x hc127 V127 L127 z127 b127 ln127 hn127
    go_wp2_with fail
    refine (ncmp_any A125 A129 n125 n129 c125 c129 u125 u129 _ L125.out L129.out hc125 hc129 r125xx r129 hn125.all hn129.all (by omega) (by omega)).mono ?_
    rw [V125.out, V129.out]
    rw [show cmpI ((xa * xb) * xc) (xa * (xb * xc)) = 0 from by rw [show ((xa * xb) * xc : Int) = xa * (xb * xc) from Int.mul_assoc _ _ _]; exact cmpI_eq _]
    rintro e w131 ⟨rfl, hb131⟩
    have hx2xxxxxxxxxxxxxxxx := hx2xxxxxxxxxxxxxxx.below hb131 (Nat.le_refl _)
    clear hx2xxxxxxxxxxxxxxx
    have hy2xxxxxxxxxxxxxxxx := hy2xxxxxxxxxxxxxxx.below hb131 (Nat.le_refl _)
    clear hy2xxxxxxxxxxxxxxx
    have hz2xxxxxxxxxxxxxxxx := hz2xxxxxxxxxxxxxxx.below hb131 (Nat.le_refl _)
    clear hz2xxxxxxxxxxxxxxx
    have r125xxx := r125xx.below hb131 (Nat.le_refl _)
    clear r125xx
    have r129x := r129.below hb131 (Nat.le_refl _)
    clear r129
    have HB132 := Lib.hid (bel_trans HB130.out hb131)
    clear hb131
    clear r125xxx hc125 V125 L125 z125 b125 ln125 hn125
    clear r129x hc129 V129 L129 z129 b129 ln129 hn129
    go_wp2_with fail
    refine (nadd_any B C m k d f vs ts _ HB.out HC.out hy2xxxxxxxxxxxxxxxx hz2xxxxxxxxxxxxxxxx hv ht (by omega) (by omega)).mono ?_
    rw [Vb.out, Vc.out]
    rintro e w133 ⟨u133, A133, n133, c133, hn133, hl133, rfl, hc133, r133, -, hb133⟩
    have hx2xxxxxxxxxxxxxxxxx := hx2xxxxxxxxxxxxxxxx.below hb133 (Nat.le_refl _)
    clear hx2xxxxxxxxxxxxxxxx
    have hy2xxxxxxxxxxxxxxxxx := hy2xxxxxxxxxxxxxxxx.below hb133 (Nat.le_refl _)
    clear hy2xxxxxxxxxxxxxxxx
    have hz2xxxxxxxxxxxxxxxxx := hz2xxxxxxxxxxxxxxxx.below hb133 (Nat.le_refl _)
    clear hz2xxxxxxxxxxxxxxxx
    have HB134 := Lib.hid (bel_trans HB132.out hb133)
    clear hb133
    have V133 := Lib.hid hn133.val
    have L133 := Lib.hid hl133
    clear hl133
    have z133 : 0 ≤ xb + xc := by omega
    have b133 : Hid (xb + xc < 2 ^ (32 * (BB + 1))) := add_bd bb.out bc.out (by omega) (by omega)
    have ln133 : n133 ≤ (BB + 1) := by have h := hn133.le b133.out; rw [L133.out] at h; exact h
    go_wp2_with fail
    refine (nmul_any A A133 n n133 c c133 us u133 _ HA.out L133.out hc hc133 hx2xxxxxxxxxxxxxxxxx r133 hu hn133.all (by omega) (by omega)).mono ?_
    rw [Va.out, V133.out]
    rintro e w135 ⟨u135, A135, n135, c135, hn135, hl135, rfl, hc135, r135, -, hb135⟩
    have hx2xxxxxxxxxxxxxxxxxx := hx2xxxxxxxxxxxxxxxxx.below hb135 (Nat.le_refl _)
    clear hx2xxxxxxxxxxxxxxxxx
    have hy2xxxxxxxxxxxxxxxxxx := hy2xxxxxxxxxxxxxxxxx.below hb135 (Nat.le_refl _)
    clear hy2xxxxxxxxxxxxxxxxx
    have hz2xxxxxxxxxxxxxxxxxx := hz2xxxxxxxxxxxxxxxxx.below hb135 (Nat.le_refl _)
    clear hz2xxxxxxxxxxxxxxxxx
    have r133x := r133.below hb135 (Nat.le_refl _)
    clear r133
    have HB136 := Lib.hid (bel_trans HB134.out hb135)
    clear hb135
    have V135 := Lib.hid hn135.val
    have L135 := Lib.hid hl135
    clear hl135
    have z135 : 0 ≤ xa * (xb + xc) := Int.mul_nonneg za z133
    have b135 : Hid (xa * (xb + xc) < 2 ^ (32 * (BB + (BB + 1)))) := mul_bd za ba.out b133.out (by omega)
    have ln135 : n135 ≤ (BB + (BB + 1)) := by have h := hn135.le b135.out; rw [L135.out] at h; exact h
    clear r133x hc133 V133 L133 z133 b133 ln133 hn133
    go_wp2_with fail
    refine (nmul_any A B n m c d us vs _ HA.out HB.out hc hd hx2xxxxxxxxxxxxxxxxxx hy2xxxxxxxxxxxxxxxxxx hu hv (by omega) (by omega)).mono ?_
    rw [Va.out, Vb.out]
    rintro e w137 ⟨u137, A137, n137, c137, hn137, hl137, rfl, hc137, r137, -, hb137⟩
    have hx2xxxxxxxxxxxxxxxxxxx := hx2xxxxxxxxxxxxxxxxxx.below hb137 (Nat.le_refl _)
    clear hx2xxxxxxxxxxxxxxxxxx
    have hy2xxxxxxxxxxxxxxxxxxx := hy2xxxxxxxxxxxxxxxxxx.below hb137 (Nat.le_refl _)
    clear hy2xxxxxxxxxxxxxxxxxx
    have hz2xxxxxxxxxxxxxxxxxxx := hz2xxxxxxxxxxxxxxxxxx.below hb137 (Nat.le_refl _)
    clear hz2xxxxxxxxxxxxxxxxxx
    have r135x := r135.below hb137 (Nat.le_refl _)
    clear r135
    have HB138 := Lib.hid (bel_trans HB136.out hb137)
    clear hb137
    have V137 := Lib.hid hn137.val
    have L137 := Lib.hid hl137
    clear hl137
    have z137 : 0 ≤ xa * xb := Int.mul_nonneg za zb
    have b137 : Hid (xa * xb < 2 ^ (32 * (BB + BB))) := mul_bd za ba.out bb.out (by omega)
    have ln137 : n137 ≤ (BB + BB) := by have h := hn137.le b137.out; rw [L137.out] at h; exact h
    go_wp2_with fail
    refine (nmul_any A C n k c f us ts _ HA.out HC.out hc hf hx2xxxxxxxxxxxxxxxxxxx hz2xxxxxxxxxxxxxxxxxxx hu ht (by omega) (by omega)).mono ?_
    rw [Va.out, Vc.out]
    rintro e w139 ⟨u139, A139, n139, c139, hn139, hl139, rfl, hc139, r139, -, hb139⟩
    have hx2xxxxxxxxxxxxxxxxxxxx := hx2xxxxxxxxxxxxxxxxxxx.below hb139 (Nat.le_refl _)
    clear hx2xxxxxxxxxxxxxxxxxxx
    have hy2xxxxxxxxxxxxxxxxxxxx := hy2xxxxxxxxxxxxxxxxxxx.below hb139 (Nat.le_refl _)
    clear hy2xxxxxxxxxxxxxxxxxxx
    have hz2xxxxxxxxxxxxxxxxxxxx := hz2xxxxxxxxxxxxxxxxxxx.below hb139 (Nat.le_refl _)
    clear hz2xxxxxxxxxxxxxxxxxxx
    have r135xx := r135x.below hb139 (Nat.le_refl _)
    clear r135x
    have r137x := r137.below hb139 (Nat.le_refl _)
    clear r137
    have HB140 := Lib.hid (bel_trans HB138.out hb139)
    clear hb139
    have V139 := Lib.hid hn139.val
    have L139 := Lib.hid hl139
    clear hl139
    have z139 : 0 ≤ xa * xc := Int.mul_nonneg za zc
    have b139 : Hid (xa * xc < 2 ^ (32 * (BB + BB))) := mul_bd za ba.out bc.out (by omega)
    have ln139 : n139 ≤ (BB + BB) := by have h := hn139.le b139.out; rw [L139.out] at h; exact h
    go_wp2_with fail
    refine (nadd_any A137 A139 n137 n139 c137 c139 u137 u139 _ L137.out L139.out r137x r139 hn137.all hn139.all (by omega) (by omega)).mono ?_
    rw [V137.out, V139.out]
    rintro e w141 ⟨u141, A141, n141, c141, hn141, hl141, rfl, hc141, r141, -, hb141⟩
    have hx2xxxxxxxxxxxxxxxxxxxxx := hx2xxxxxxxxxxxxxxxxxxxx.below hb141 (Nat.le_refl _)
    clear hx2xxxxxxxxxxxxxxxxxxxx
    have hy2xxxxxxxxxxxxxxxxxxxxx := hy2xxxxxxxxxxxxxxxxxxxx.below hb141 (Nat.le_refl _)
    clear hy2xxxxxxxxxxxxxxxxxxxx
    have hz2xxxxxxxxxxxxxxxxxxxxx := hz2xxxxxxxxxxxxxxxxxxxx.below hb141 (Nat.le_refl _)
    clear hz2xxxxxxxxxxxxxxxxxxxx
    have r135xxx := r135xx.below hb141 (Nat.le_refl _)
    clear r135xx
    have r137xx := r137x.below hb141 (Nat.le_refl _)
    clear r137x
    have r139x := r139.below hb141 (Nat.le_refl _)
    clear r139
    have HB142 := Lib.hid (bel_trans HB140.out hb141)
    clear hb141
    have V141 := Lib.hid hn141.val
    have L141 := Lib.hid hl141
    clear hl141
    have z141 : 0 ≤ xa * xb + (xa * xc) := by omega
    have b141 : Hid (xa * xb + (xa * xc) < 2 ^ (32 * (BB + BB + 1))) := add_bd b137.out b139.out (by omega) (by omega)
    have ln141 : n141 ≤ (BB + BB + 1) := by have h := hn141.le b141.out; rw [L141.out] at h; exact h
    clear r137xx hc137 V137 L137 z137 b137 ln137 hn137
    clear r139x hc139 V139 L139 z139 b139 ln139 hn139
    go_wp2_with fail
    refine (ncmp_any A135 A141 n135 n141 c135 c141 u135 u141 _ L135.out L141.out hc135 hc141 r135xxx r141 hn135.all hn141.all (by omega) (by omega)).mono ?_
    rw [V135.out, V141.out]
    rw [show cmpI (xa * (xb + xc)) (xa * xb + (xa * xc)) = 0 from by rw [show (xa * (xb + xc) : Int) = xa * xb + (xa * xc) from Int.mul_add _ _ _]; exact cmpI_eq _]
    rintro e w143 ⟨rfl, hb143⟩
    have hx2xxxxxxxxxxxxxxxxxxxxxx := hx2xxxxxxxxxxxxxxxxxxxxx.below hb143 (Nat.le_refl _)
    clear hx2xxxxxxxxxxxxxxxxxxxxx
    have hy2xxxxxxxxxxxxxxxxxxxxxx := hy2xxxxxxxxxxxxxxxxxxxxx.below hb143 (Nat.le_refl _)
    clear hy2xxxxxxxxxxxxxxxxxxxxx
    have hz2xxxxxxxxxxxxxxxxxxxxxx := hz2xxxxxxxxxxxxxxxxxxxxx.below hb143 (Nat.le_refl _)
    clear hz2xxxxxxxxxxxxxxxxxxxxx
    have r135xxxx := r135xxx.below hb143 (Nat.le_refl _)
    clear r135xxx
    have r141x := r141.below hb143 (Nat.le_refl _)
    clear r141
    have HB144 := Lib.hid (bel_trans HB142.out hb143)
    clear hb143
    clear r135xxxx hc135 V135 L135 z135 b135 ln135 hn135
    clear r141x hc141 V141 L141 z141 b141 ln141 hn141
    go_wp2_with fail
    refine (nadd_any A B n m c d us vs _ HA.out HB.out hx2xxxxxxxxxxxxxxxxxxxxxx hy2xxxxxxxxxxxxxxxxxxxxxx hu hv (by omega) (by omega)).mono ?_
    rw [Va.out, Vb.out]
    rintro e w145 ⟨u145, A145, n145, c145, hn145, hl145, rfl, hc145, r145, -, hb145⟩
    have hx2xxxxxxxxxxxxxxxxxxxxxxx := hx2xxxxxxxxxxxxxxxxxxxxxx.below hb145 (Nat.le_refl _)
    clear hx2xxxxxxxxxxxxxxxxxxxxxx
    have hy2xxxxxxxxxxxxxxxxxxxxxxx := hy2xxxxxxxxxxxxxxxxxxxxxx.below hb145 (Nat.le_refl _)
    clear hy2xxxxxxxxxxxxxxxxxxxxxx
    have hz2xxxxxxxxxxxxxxxxxxxxxxx := hz2xxxxxxxxxxxxxxxxxxxxxx.below hb145 (Nat.le_refl _)
    clear hz2xxxxxxxxxxxxxxxxxxxxxx
    have HB146 := Lib.hid (bel_trans HB144.out hb145)
    clear hb145
    have V145 := Lib.hid hn145.val
    have L145 := Lib.hid hl145
    clear hl145
    have z145 : 0 ≤ xa + xb := by omega
    have b145 : Hid (xa + xb < 2 ^ (32 * (BB + 1))) := add_bd ba.out bb.out (by omega) (by omega)
    have ln145 : n145 ≤ (BB + 1) := by have h := hn145.le b145.out; rw [L145.out] at h; exact h
    go_wp2_with fail
    refine (nsub_any A145 B n145 m c145 d u145 vs _ L145.out HB.out hc145 hd r145 hy2xxxxxxxxxxxxxxxxxxxxxxx hn145.all hv (by omega) (by omega)).mono ?_
    rw [V145.out, Vb.out]
    rintro e w147 ⟨u147, A147, n147, c147, ok147, hok147, hn147, hl147, rfl, hc147, r147, -, hb147⟩
    have hx2xxxxxxxxxxxxxxxxxxxxxxxx := hx2xxxxxxxxxxxxxxxxxxxxxxx.below hb147 (Nat.le_refl _)
    clear hx2xxxxxxxxxxxxxxxxxxxxxxx
    have hy2xxxxxxxxxxxxxxxxxxxxxxxx := hy2xxxxxxxxxxxxxxxxxxxxxxx.below hb147 (Nat.le_refl _)
    clear hy2xxxxxxxxxxxxxxxxxxxxxxx
    have hz2xxxxxxxxxxxxxxxxxxxxxxxx := hz2xxxxxxxxxxxxxxxxxxxxxxx.below hb147 (Nat.le_refl _)
    clear hz2xxxxxxxxxxxxxxxxxxxxxxx
    have r145x := r145.below hb147 (Nat.le_refl _)
    clear r145
    have HB148 := Lib.hid (bel_trans HB146.out hb147)
    clear hb147
    clear r145x hc145 V145 L145 z145 b145 ln145 hn145
    obtain rfl : ok147 = true := by rw [hok147]; exact decide_eq_true (by omega)
    rw [if_pos (by omega), show xa + xb - xb = xa by omega] at hn147
    clear hok147
    have V147 := Lib.hid hn147.val
    have L147 := Lib.hid hl147
    clear hl147
    have z147 : 0 ≤ xa := za
    have b147 : Hid (xa < 2 ^ (32 * BB)) := ba
    have ln147 : n147 ≤ BB := by have h := hn147.le b147.out; rw [L147.out] at h; exact h
    go_wp2_with fail
    refine (nmul_any A B n m c d us vs _ HA.out HB.out hc hd hx2xxxxxxxxxxxxxxxxxxxxxxxx hy2xxxxxxxxxxxxxxxxxxxxxxxx hu hv (by omega) (by omega)).mono ?_
    rw [Va.out, Vb.out]
    rintro e w149 ⟨u149, A149, n149, c149, hn149, hl149, rfl, hc149, r149, -, hb149⟩
    have hx2xxxxxxxxxxxxxxxxxxxxxxxxx := hx2xxxxxxxxxxxxxxxxxxxxxxxx.below hb149 (Nat.le_refl _)
    clear hx2xxxxxxxxxxxxxxxxxxxxxxxx
    have hy2xxxxxxxxxxxxxxxxxxxxxxxxx := hy2xxxxxxxxxxxxxxxxxxxxxxxx.below hb149 (Nat.le_refl _)
    clear hy2xxxxxxxxxxxxxxxxxxxxxxxx
    have hz2xxxxxxxxxxxxxxxxxxxxxxxxx := hz2xxxxxxxxxxxxxxxxxxxxxxxx.below hb149 (Nat.le_refl _)
    clear hz2xxxxxxxxxxxxxxxxxxxxxxxx
    have r147x := r147.below hb149 (Nat.le_refl _)
    clear r147
    have HB150 := Lib.hid (bel_trans HB148.out hb149)
    clear hb149
    have V149 := Lib.hid hn149.val
    have L149 := Lib.hid hl149
    clear hl149
    have z149 : 0 ≤ xa * xb := Int.mul_nonneg za zb
    have b149 : Hid (xa * xb < 2 ^ (32 * (BB + BB))) := mul_bd za ba.out bb.out (by omega)
    have ln149 : n149 ≤ (BB + BB) := by have h := hn149.le b149.out; rw [L149.out] at h; exact h
    go_wp2_with fail
    refine (nadd_any A149 C n149 k c149 f u149 ts _ L149.out HC.out r149 hz2xxxxxxxxxxxxxxxxxxxxxxxxx hn149.all ht (by omega) (by omega)).mono ?_
    rw [V149.out, Vc.out]
    rintro e w151 ⟨u151, A151, n151, c151, hn151, hl151, rfl, hc151, r151, -, hb151⟩
    have hx2xxxxxxxxxxxxxxxxxxxxxxxxxx := hx2xxxxxxxxxxxxxxxxxxxxxxxxx.below hb151 (Nat.le_refl _)
    clear hx2xxxxxxxxxxxxxxxxxxxxxxxxx
    have hy2xxxxxxxxxxxxxxxxxxxxxxxxxx := hy2xxxxxxxxxxxxxxxxxxxxxxxxx.below hb151 (Nat.le_refl _)
    clear hy2xxxxxxxxxxxxxxxxxxxxxxxxx
    have hz2xxxxxxxxxxxxxxxxxxxxxxxxxx := hz2xxxxxxxxxxxxxxxxxxxxxxxxx.below hb151 (Nat.le_refl _)
    clear hz2xxxxxxxxxxxxxxxxxxxxxxxxx
    have r147xx := r147x.below hb151 (Nat.le_refl _)
    clear r147x
    have r149x := r149.below hb151 (Nat.le_refl _)
    clear r149
    have HB152 := Lib.hid (bel_trans HB150.out hb151)
    clear hb151
    have V151 := Lib.hid hn151.val
    have L151 := Lib.hid hl151
    clear hl151
    have z151 : 0 ≤ xa * xb + xc := by omega
    have b151 : Hid (xa * xb + xc < 2 ^ (32 * (BB + BB + 1))) := add_bd b149.out bc.out (by omega) (by omega)
    have ln151 : n151 ≤ (BB + BB + 1) := by have h := hn151.le b151.out; rw [L151.out] at h; exact h
    clear r149x hc149 V149 L149 z149 b149 ln149 hn149
    by_cases h0 : xb = 0
    · have hbl : blen xb = 0 := by rw [h0]; rfl
      have HBL := Lib.hid hbl
      have H0 := Lib.hid h0
      clear hbl h0
      go_wp2_with fail
      refine (ndiv_zero A151 B n151 m c151 d u151 vs _ L151.out HB.out hc151 hd r151 hy2xxxxxxxxxxxxxxxxxxxxxxxxxx hv (by omega) (by omega) (by rw [Vb.out]; exact H0.out)).mono ?_
      rintro e w153 ⟨u153, v153, A153, B153, n153, m153, c153, d153, hn153, hm153, hl153, hk153, rfl, hc153, hd153, r153, s153, -, -, hb153⟩
      have hx2xxxxxxxxxxxxxxxxxxxxxxxxxxx := hx2xxxxxxxxxxxxxxxxxxxxxxxxxx.below hb153 (Nat.le_refl _)
      clear hx2xxxxxxxxxxxxxxxxxxxxxxxxxx
      have hy2xxxxxxxxxxxxxxxxxxxxxxxxxxx := hy2xxxxxxxxxxxxxxxxxxxxxxxxxx.below hb153 (Nat.le_refl _)
      clear hy2xxxxxxxxxxxxxxxxxxxxxxxxxx
      have hz2xxxxxxxxxxxxxxxxxxxxxxxxxxx := hz2xxxxxxxxxxxxxxxxxxxxxxxxxx.below hb153 (Nat.le_refl _)
      clear hz2xxxxxxxxxxxxxxxxxxxxxxxxxx
      have r147xxx := r147xx.below hb153 (Nat.le_refl _)
      clear r147xx
      have r151x := r151.below hb153 (Nat.le_refl _)
      clear r151
      have HB154 := Lib.hid (bel_trans HB152.out hb153)
      clear hb153
      obtain rfl := hn153.zero
      obtain rfl := hm153.zero
      obtain rfl : 0 = n153 := hl153
      obtain rfl : 0 = m153 := hk153
      clear hn153 hm153 r153 s153
      go_wp2_with fail
      refine (nlen_any B m d vs _ HB.out hd hy2xxxxxxxxxxxxxxxxxxxxxxxxxxx hv (by omega)).mono ?_
      rw [Vb.out]
      rw [HBL.out]
      rintro e w155 ⟨rfl, rfl⟩
      go_wp2_with fail
      refine (ncmp_any A147 A n147 n c147 c u147 us _ L147.out HA.out hc147 hc r147xxx hx2xxxxxxxxxxxxxxxxxxxxxxxxxxx hn147.all hu (by omega) (by omega)).mono ?_
      rw [V147.out, Va.out]
      rw [show cmpI (xa) (xa) = 0 from by rw [show (xa : Int) = xa from rfl]; exact cmpI_eq _]
      rintro e w156 ⟨rfl, hb156⟩
      have hx2xxxxxxxxxxxxxxxxxxxxxxxxxxxx := hx2xxxxxxxxxxxxxxxxxxxxxxxxxxx.below hb156 (Nat.le_refl _)
      clear hx2xxxxxxxxxxxxxxxxxxxxxxxxxxx
      have hy2xxxxxxxxxxxxxxxxxxxxxxxxxxxx := hy2xxxxxxxxxxxxxxxxxxxxxxxxxxx.below hb156 (Nat.le_refl _)
      clear hy2xxxxxxxxxxxxxxxxxxxxxxxxxxx
      have hz2xxxxxxxxxxxxxxxxxxxxxxxxxxxx := hz2xxxxxxxxxxxxxxxxxxxxxxxxxxx.below hb156 (Nat.le_refl _)
      clear hz2xxxxxxxxxxxxxxxxxxxxxxxxxxx
      have r147xxxx := r147xxx.below hb156 (Nat.le_refl _)
      clear r147xxx
      have r151xx := r151x.below hb156 (Nat.le_refl _)
      clear r151x
      have HB157 := Lib.hid (bel_trans HB154.out hb156)
      clear hb156
      go_wp2_with fail
      go_ret
      exact ⟨rfl, HB157.out⟩
    · have hp : 0 < xb := by omega
      have hbl := blen_pos hp
      go_wp2_with fail
      refine (ndiv_pos A151 B n151 m c151 d u151 vs _ L151.out HB.out hc151 hd r151 hy2xxxxxxxxxxxxxxxxxxxxxxxxxx hn151.all hv (by omega) (by omega) (by rw [Vb.out]; exact h0)).mono ?_
      rw [V151.out, Vb.out]
      rintro e w701 ⟨u701, v701, A701, B701, n701, m701, c701, d701, hn701, hm701, hl701, hk701, rfl, hc701, hd701, r701, s701, -, -, hb701⟩
      have hx2xxxxxxxxxxxxxxxxxxxxxxxxxxx := hx2xxxxxxxxxxxxxxxxxxxxxxxxxx.below hb701 (Nat.le_refl _)
      clear hx2xxxxxxxxxxxxxxxxxxxxxxxxxx
      have hy2xxxxxxxxxxxxxxxxxxxxxxxxxxx := hy2xxxxxxxxxxxxxxxxxxxxxxxxxx.below hb701 (Nat.le_refl _)
      clear hy2xxxxxxxxxxxxxxxxxxxxxxxxxx
      have hz2xxxxxxxxxxxxxxxxxxxxxxxxxxx := hz2xxxxxxxxxxxxxxxxxxxxxxxxxx.below hb701 (Nat.le_refl _)
      clear hz2xxxxxxxxxxxxxxxxxxxxxxxxxx
      have r147xxx := r147xx.below hb701 (Nat.le_refl _)
      clear r147xx
      have r151x := r151.below hb701 (Nat.le_refl _)
      clear r151
      have HB702 := Lib.hid (bel_trans HB152.out hb701)
      clear hb701
      have es := Int.ediv_mul_add_emod (xa * xb + xc) xb
      have r0 := Int.emod_nonneg (xa * xb + xc) (Int.ne_of_gt hp)
      have r1 := Int.emod_lt_of_pos (xa * xb + xc) hp
      have q0 := Int.ediv_nonneg z151 zb
      have q1 := Int.ediv_le_self xb z151
      generalize (xa * xb + xc) / xb = qq at *
      generalize (xa * xb + xc) % xb = rr at *
      have ES := Lib.hid es
      clear es
      have V701 := Lib.hid hn701.val
      have L701 := Lib.hid hl701
      clear hl701
      have z701 : 0 ≤ qq := q0
      have b701 : Hid (qq < 2 ^ (32 * (BB + BB + 1))) := by show _ < _; have h := b151.out; omega
      have ln701 : n701 ≤ (BB + BB + 1) := by have h := hn701.le b701.out; rw [L701.out] at h; exact h
      have Vr701 := Lib.hid hm701.val
      have Lr701 := Lib.hid hk701
      clear hk701
      have zr701 : 0 ≤ rr := r0
      have br701 : Hid (rr < 2 ^ (32 * BB)) := by show _ < _; have h := bb.out; omega
      have lnr701 : m701 ≤ BB := by have h := hm701.le br701.out; rw [Lr701.out] at h; exact h
      obtain ⟨bl, ebl⟩ : ∃ bl, blen xb = bl := ⟨_, rfl⟩
      have EBL := Lib.hid ebl
      rw [ebl] at hbl
      clear ebl
      go_wp2_with fail
      refine (nlen_any B m d vs _ HB.out hd hy2xxxxxxxxxxxxxxxxxxxxxxxxxxx hv (by omega)).mono ?_
      rw [Vb.out]
      rw [EBL.out]
      rintro e w703 ⟨rfl, rfl⟩
      go_wp2_with fail
      refine (nmul_any A701 B n701 m c701 d u701 vs _ L701.out HB.out hc701 hd r701 hy2xxxxxxxxxxxxxxxxxxxxxxxxxxx hn701.all hv (by omega) (by omega)).mono ?_
      rw [V701.out, Vb.out]
      rintro e w704 ⟨u704, A704, n704, c704, hn704, hl704, rfl, hc704, r704, -, hb704⟩
      have hx2xxxxxxxxxxxxxxxxxxxxxxxxxxxx := hx2xxxxxxxxxxxxxxxxxxxxxxxxxxx.below hb704 (Nat.le_refl _)
      clear hx2xxxxxxxxxxxxxxxxxxxxxxxxxxx
      have hy2xxxxxxxxxxxxxxxxxxxxxxxxxxxx := hy2xxxxxxxxxxxxxxxxxxxxxxxxxxx.below hb704 (Nat.le_refl _)
      clear hy2xxxxxxxxxxxxxxxxxxxxxxxxxxx
      have hz2xxxxxxxxxxxxxxxxxxxxxxxxxxxx := hz2xxxxxxxxxxxxxxxxxxxxxxxxxxx.below hb704 (Nat.le_refl _)
      clear hz2xxxxxxxxxxxxxxxxxxxxxxxxxxx
      have r147xxxx := r147xxx.below hb704 (Nat.le_refl _)
      clear r147xxx
      have r151xx := r151x.below hb704 (Nat.le_refl _)
      clear r151x
      have r701x := r701.below hb704 (Nat.le_refl _)
      clear r701
      have s701x := s701.below hb704 (Nat.le_refl _)
      clear s701
      have HB705 := Lib.hid (bel_trans HB702.out hb704)
      clear hb704
      have V704 := Lib.hid hn704.val
      have L704 := Lib.hid hl704
      clear hl704
      have z704 : 0 ≤ qq * xb := Int.mul_nonneg z701 zb
      have b704 : Hid (qq * xb < 2 ^ (32 * (BB + BB + 1 + BB))) := mul_bd z701 b701.out bb.out (by omega)
      have ln704 : n704 ≤ (BB + BB + 1 + BB) := by have h := hn704.le b704.out; rw [L704.out] at h; exact h
      go_wp2_with fail
      refine (nadd_any A704 B701 n704 m701 c704 d701 u704 v701 _ L704.out Lr701.out r704 s701x hn704.all hm701.all (by omega) (by omega)).mono ?_
      rw [V704.out, Vr701.out]
      rintro e w706 ⟨u706, A706, n706, c706, hn706, hl706, rfl, hc706, r706, -, hb706⟩
      have hx2xxxxxxxxxxxxxxxxxxxxxxxxxxxxx := hx2xxxxxxxxxxxxxxxxxxxxxxxxxxxx.below hb706 (Nat.le_refl _)
      clear hx2xxxxxxxxxxxxxxxxxxxxxxxxxxxx
      have hy2xxxxxxxxxxxxxxxxxxxxxxxxxxxxx := hy2xxxxxxxxxxxxxxxxxxxxxxxxxxxx.below hb706 (Nat.le_refl _)
      clear hy2xxxxxxxxxxxxxxxxxxxxxxxxxxxx
      have hz2xxxxxxxxxxxxxxxxxxxxxxxxxxxxx := hz2xxxxxxxxxxxxxxxxxxxxxxxxxxxx.below hb706 (Nat.le_refl _)
      clear hz2xxxxxxxxxxxxxxxxxxxxxxxxxxxx
      have r147xxxxx := r147xxxx.below hb706 (Nat.le_refl _)
      clear r147xxxx
      have r151xxx := r151xx.below hb706 (Nat.le_refl _)
      clear r151xx
      have r701xx := r701x.below hb706 (Nat.le_refl _)
      clear r701x
      have s701xx := s701x.below hb706 (Nat.le_refl _)
      clear s701x
      have r704x := r704.below hb706 (Nat.le_refl _)
      clear r704
      have HB707 := Lib.hid (bel_trans HB705.out hb706)
      clear hb706
      have V706 := Lib.hid hn706.val
      have L706 := Lib.hid hl706
      clear hl706
      have z706 : 0 ≤ qq * xb + rr := by omega
      have b706 : Hid (qq * xb + rr < 2 ^ (32 * (BB + BB + 1 + BB + 1))) := add_bd b704.out br701.out (by omega) (by omega)
      have ln706 : n706 ≤ (BB + BB + 1 + BB + 1) := by have h := hn706.le b706.out; rw [L706.out] at h; exact h
      clear r704x hc704 V704 L704 z704 b704 ln704 hn704
      go_wp2_with fail
      refine (ncmp_any A147 A n147 n c147 c u147 us _ L147.out HA.out hc147 hc r147xxxxx hx2xxxxxxxxxxxxxxxxxxxxxxxxxxxxx hn147.all hu (by omega) (by omega)).mono ?_
      rw [V147.out, Va.out]
      rw [show cmpI (xa) (xa) = 0 from by rw [show (xa : Int) = xa from rfl]; exact cmpI_eq _]
      rintro e w708 ⟨rfl, hb708⟩
      have hx2xxxxxxxxxxxxxxxxxxxxxxxxxxxxxx := hx2xxxxxxxxxxxxxxxxxxxxxxxxxxxxx.below hb708 (Nat.le_refl _)
      clear hx2xxxxxxxxxxxxxxxxxxxxxxxxxxxxx
      have hy2xxxxxxxxxxxxxxxxxxxxxxxxxxxxxx := hy2xxxxxxxxxxxxxxxxxxxxxxxxxxxxx.below hb708 (Nat.le_refl _)
      clear hy2xxxxxxxxxxxxxxxxxxxxxxxxxxxxx
      have hz2xxxxxxxxxxxxxxxxxxxxxxxxxxxxxx := hz2xxxxxxxxxxxxxxxxxxxxxxxxxxxxx.below hb708 (Nat.le_refl _)
      clear hz2xxxxxxxxxxxxxxxxxxxxxxxxxxxxx
      have r147xxxxxx := r147xxxxx.below hb708 (Nat.le_refl _)
      clear r147xxxxx
      have r151xxxx := r151xxx.below hb708 (Nat.le_refl _)
      clear r151xxx
      have r701xxx := r701xx.below hb708 (Nat.le_refl _)
      clear r701xx
      have s701xxx := s701xx.below hb708 (Nat.le_refl _)
      clear s701xx
      have r706x := r706.below hb708 (Nat.le_refl _)
      clear r706
      have HB709 := Lib.hid (bel_trans HB707.out hb708)
      clear hb708
      have hneg : cmpI rr xb = -1 := cmpI_lt r1
      have HNEG := Lib.hid hneg
      clear hneg
      go_wp2_with fail
      refine (ncmp_any B701 B m701 m d701 d v701 vs _ Lr701.out HB.out hd701 hd s701xxx hy2xxxxxxxxxxxxxxxxxxxxxxxxxxxxxx hm701.all hv (by omega) (by omega)).mono ?_
      rw [Vr701.out, Vb.out]
      rw [HNEG.out]
      rintro e w710 ⟨rfl, hb710⟩
      have hx2xxxxxxxxxxxxxxxxxxxxxxxxxxxxxxx := hx2xxxxxxxxxxxxxxxxxxxxxxxxxxxxxx.below hb710 (Nat.le_refl _)
      clear hx2xxxxxxxxxxxxxxxxxxxxxxxxxxxxxx
      have hy2xxxxxxxxxxxxxxxxxxxxxxxxxxxxxxx := hy2xxxxxxxxxxxxxxxxxxxxxxxxxxxxxx.below hb710 (Nat.le_refl _)
      clear hy2xxxxxxxxxxxxxxxxxxxxxxxxxxxxxx
      have hz2xxxxxxxxxxxxxxxxxxxxxxxxxxxxxxx := hz2xxxxxxxxxxxxxxxxxxxxxxxxxxxxxx.below hb710 (Nat.le_refl _)
      clear hz2xxxxxxxxxxxxxxxxxxxxxxxxxxxxxx
      have r147xxxxxxx := r147xxxxxx.below hb710 (Nat.le_refl _)
      clear r147xxxxxx
      have r151xxxxx := r151xxxx.below hb710 (Nat.le_refl _)
      clear r151xxxx
      have r701xxxx := r701xxx.below hb710 (Nat.le_refl _)
      clear r701xxx
      have s701xxxx := s701xxx.below hb710 (Nat.le_refl _)
      clear s701xxx
      have r706xx := r706x.below hb710 (Nat.le_refl _)
      clear r706x
      have HB711 := Lib.hid (bel_trans HB709.out hb710)
      clear hb710
      go_wp2_with fail
      refine (nmul_any A B n m c d us vs _ HA.out HB.out hc hd hx2xxxxxxxxxxxxxxxxxxxxxxxxxxxxxxx hy2xxxxxxxxxxxxxxxxxxxxxxxxxxxxxxx hu hv (by omega) (by omega)).mono ?_
      rw [Va.out, Vb.out]
      rintro e w712 ⟨u712, A712, n712, c712, hn712, hl712, rfl, hc712, r712, -, hb712⟩
      have hx2xxxxxxxxxxxxxxxxxxxxxxxxxxxxxxxx := hx2xxxxxxxxxxxxxxxxxxxxxxxxxxxxxxx.below hb712 (Nat.le_refl _)
      clear hx2xxxxxxxxxxxxxxxxxxxxxxxxxxxxxxx
      have hy2xxxxxxxxxxxxxxxxxxxxxxxxxxxxxxxx := hy2xxxxxxxxxxxxxxxxxxxxxxxxxxxxxxx.below hb712 (Nat.le_refl _)
      clear hy2xxxxxxxxxxxxxxxxxxxxxxxxxxxxxxx
      have hz2xxxxxxxxxxxxxxxxxxxxxxxxxxxxxxxx := hz2xxxxxxxxxxxxxxxxxxxxxxxxxxxxxxx.below hb712 (Nat.le_refl _)
      clear hz2xxxxxxxxxxxxxxxxxxxxxxxxxxxxxxx
      have r147xxxxxxxx := r147xxxxxxx.below hb712 (Nat.le_refl _)
      clear r147xxxxxxx
      have r151xxxxxx := r151xxxxx.below hb712 (Nat.le_refl _)
      clear r151xxxxx
      have r701xxxxx := r701xxxx.below hb712 (Nat.le_refl _)
      clear r701xxxx
      have s701xxxxx := s701xxxx.below hb712 (Nat.le_refl _)
      clear s701xxxx
      have r706xxx := r706xx.below hb712 (Nat.le_refl _)
      clear r706xx
      have HB713 := Lib.hid (bel_trans HB711.out hb712)
      clear hb712
      have V712 := Lib.hid hn712.val
      have L712 := Lib.hid hl712
      clear hl712
      have z712 : 0 ≤ xa * xb := Int.mul_nonneg za zb
      have b712 : Hid (xa * xb < 2 ^ (32 * (BB + BB))) := mul_bd za ba.out bb.out (by omega)
      have ln712 : n712 ≤ (BB + BB) := by have h := hn712.le b712.out; rw [L712.out] at h; exact h
      go_wp2_with fail
      refine (nadd_any A712 C n712 k c712 f u712 ts _ L712.out HC.out r712 hz2xxxxxxxxxxxxxxxxxxxxxxxxxxxxxxxx hn712.all ht (by omega) (by omega)).mono ?_
      rw [V712.out, Vc.out]
      rintro e w714 ⟨u714, A714, n714, c714, hn714, hl714, rfl, hc714, r714, -, hb714⟩
      have hx2xxxxxxxxxxxxxxxxxxxxxxxxxxxxxxxxx := hx2xxxxxxxxxxxxxxxxxxxxxxxxxxxxxxxx.below hb714 (Nat.le_refl _)
      clear hx2xxxxxxxxxxxxxxxxxxxxxxxxxxxxxxxx
      have hy2xxxxxxxxxxxxxxxxxxxxxxxxxxxxxxxxx := hy2xxxxxxxxxxxxxxxxxxxxxxxxxxxxxxxx.below hb714 (Nat.le_refl _)
      clear hy2xxxxxxxxxxxxxxxxxxxxxxxxxxxxxxxx
      have hz2xxxxxxxxxxxxxxxxxxxxxxxxxxxxxxxxx := hz2xxxxxxxxxxxxxxxxxxxxxxxxxxxxxxxx.below hb714 (Nat.le_refl _)
      clear hz2xxxxxxxxxxxxxxxxxxxxxxxxxxxxxxxx
      have r147xxxxxxxxx := r147xxxxxxxx.below hb714 (Nat.le_refl _)
      clear r147xxxxxxxx
      have r151xxxxxxx := r151xxxxxx.below hb714 (Nat.le_refl _)
      clear r151xxxxxx
      have r701xxxxxx := r701xxxxx.below hb714 (Nat.le_refl _)
      clear r701xxxxx
      have s701xxxxxx := s701xxxxx.below hb714 (Nat.le_refl _)
      clear s701xxxxx
      have r706xxxx := r706xxx.below hb714 (Nat.le_refl _)
      clear r706xxx
      have r712x := r712.below hb714 (Nat.le_refl _)
      clear r712
      have HB715 := Lib.hid (bel_trans HB713.out hb714)
      clear hb714
      have V714 := Lib.hid hn714.val
      have L714 := Lib.hid hl714
      clear hl714
      have z714 : 0 ≤ xa * xb + xc := by omega
      have b714 : Hid (xa * xb + xc < 2 ^ (32 * (BB + BB + 1))) := add_bd b712.out bc.out (by omega) (by omega)
      have ln714 : n714 ≤ (BB + BB + 1) := by have h := hn714.le b714.out; rw [L714.out] at h; exact h
      clear r712x hc712 V712 L712 z712 b712 ln712 hn712
      go_wp2_with fail
      refine (ncmp_any A706 A714 n706 n714 c706 c714 u706 u714 _ L706.out L714.out hc706 hc714 r706xxxx r714 hn706.all hn714.all (by omega) (by omega)).mono ?_
      rw [V706.out, V714.out]
      rw [show cmpI (qq * xb + rr) (xa * xb + xc) = 0 from by rw [show (qq * xb + rr : Int) = xa * xb + xc from ES.out]; exact cmpI_eq _]
      rintro e w716 ⟨rfl, hb716⟩
      have hx2xxxxxxxxxxxxxxxxxxxxxxxxxxxxxxxxxx := hx2xxxxxxxxxxxxxxxxxxxxxxxxxxxxxxxxx.below hb716 (Nat.le_refl _)
      clear hx2xxxxxxxxxxxxxxxxxxxxxxxxxxxxxxxxx
      have hy2xxxxxxxxxxxxxxxxxxxxxxxxxxxxxxxxxx := hy2xxxxxxxxxxxxxxxxxxxxxxxxxxxxxxxxx.below hb716 (Nat.le_refl _)
      clear hy2xxxxxxxxxxxxxxxxxxxxxxxxxxxxxxxxx
      have hz2xxxxxxxxxxxxxxxxxxxxxxxxxxxxxxxxxx := hz2xxxxxxxxxxxxxxxxxxxxxxxxxxxxxxxxx.below hb716 (Nat.le_refl _)
      clear hz2xxxxxxxxxxxxxxxxxxxxxxxxxxxxxxxxx
      have r147xxxxxxxxxx := r147xxxxxxxxx.below hb716 (Nat.le_refl _)
      clear r147xxxxxxxxx
      have r151xxxxxxxx := r151xxxxxxx.below hb716 (Nat.le_refl _)
      clear r151xxxxxxx
      have r701xxxxxxx := r701xxxxxx.below hb716 (Nat.le_refl _)
      clear r701xxxxxx
      have s701xxxxxxx := s701xxxxxx.below hb716 (Nat.le_refl _)
      clear s701xxxxxx
      have r706xxxxx := r706xxxx.below hb716 (Nat.le_refl _)
      clear r706xxxx
      have r714x := r714.below hb716 (Nat.le_refl _)
      clear r714
      have HB717 := Lib.hid (bel_trans HB715.out hb716)
      clear hb716
      go_wp2_with fail
      go_ret
      exact ⟨rfl, HB717.out⟩
  · have e0 : smallB [(A, n, c), (B, m, d), (C, k, f)] = false := by
      rw [Bool.eq_false_iff]
      intro h
      simp [smallB] at h
      omega
    rw [e0]
    clear e0
    go_wp2_with fail
    go_ret
    exact ⟨rfl, HB2.out⟩
end Go.Proofs.YtckeajjlkpjgjaaDoor
