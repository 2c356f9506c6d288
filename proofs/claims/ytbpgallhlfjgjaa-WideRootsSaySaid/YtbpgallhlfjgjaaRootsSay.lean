/-
  The walk of WideRootsSay: for every number of two words it answers true. Conditions: the fields are words of 64 bits.
-/
import Derived.Test.YtbpgallhlfjgjaaRsqrt
import Derived.Test.YtbpgallhlfjgjaaMuls
namespace Go.Proofs.Ytbpgallhlfjgjaa
open Go.RowKit

set_option maxRecDepth 100000 in
set_option maxHeartbeats 6400000 in
theorem rootsSay_walk (h l : Int) (h1 : Word h) (h2 : Word l) (w : World) :
    Calls Try.prog 8 #[.agg #[.int .u64 h, .int .u64 l]] w fun e w' => e = .returned (.bool true) ∧ Below w.heap.size w w' := by
  go_enter Try.func8, Try.ntmps8
  go_wp2_with fail
  refine (works1 _).mono ?_
  rintro e w1 ⟨rfl, hb1⟩
  have K0 := Blk.made hb1
  have D1 := Lib.hid (bel_trans (bel_alloc (Below.refl w.heap.size w) _) hb1)
  have a0 : w1.cell? ⟨w.heap.size, 0, none⟩ = some (.int .u64 h) := K0.cell 0
  have a1 : w1.cell? ⟨w.heap.size, 1, none⟩ = some (.int .u64 l) := K0.cell 1
  clear hb1
  go_wp2_with fail
  refine (sqrt2 h l h1 h2 _).mono ?_
  rintro e w2 ⟨v, ⟨r, rh, rl, wr, wrh, wrl, s1, s2, hv, rfl⟩, rfl, hb2⟩
  have K02 := K0.below hb2 K0.lt
  have D2 := Lib.hid (bel_trans D1.out hb2)
  have HV := Lib.hid hv
  clear hv a0 a1 K0 hb2 D1
  have a0 : ∀ o, (w2.alloc o).cell? ⟨w.heap.size, 0, none⟩ = some (.int .u64 h) := fun o => (K02.alloc o).cell 0
  have a1 : ∀ o, (w2.alloc o).cell? ⟨w.heap.size, 1, none⟩ = some (.int .u64 l) := fun o => (K02.alloc o).cell 1
  go_wp2_with fail
  refine (of_any h l h1 h2 _).mono ?_
  rintro e w3 ⟨xs, X, cx, ⟨hvx, hlx⟩, rfl, hcx, hmx, hrx, hb3⟩
  have K3 := Blk.made hb3
  have D3 := Lib.hid (bel_trans (bel_alloc D2.out _) hb3)
  rw [hlx] at hcx ⊢
  have HVX := Lib.hid hvx
  have HLX := Lib.hid hlx
  clear hvx hlx hb3 D2 a0 a1 K02
  go_wp2_with fail
  refine (rsqrt_any X 128 cx xs _ HLX.out hrx (by decide)).mono ?_
  rintro e w4 ⟨rs, zs, A, B, c, d, ⟨⟨q1, q2, q3, q4, q5⟩, q6⟩, rfl, hc, hd, hra, hrb, hb4⟩
  rw [HVX.out] at q2 q3 q5
  have er : val rs = r := sqrt_unique q1 wr.1 q2 q3 s1 s2
  have FZ : Hid (decide (V2 rh rl = val zs) = true) := by show _ = _; rw [decide_eq_true_eq, q5, er, HV.out]
  rw [q4] at hc
  rw [q6] at hd
  rw [q4, q6]
  have HER := Lib.hid er
  have HQ4 := Lib.hid q4
  have HQ6 := Lib.hid q6
  have K4 := K3.below hb4 K3.lt
  have D4 := Lib.hid (bel_trans D3.out hb4)
  clear q1 q2 q3 q4 q5 q6 er hb4 K3 D3 HVX HLX HV s1 s2 hrx
  have b0 : w4.cell? ⟨w2.heap.size, 0, none⟩ = some (.int .u64 rh) := K4.cell 0
  have b1 : w4.cell? ⟨w2.heap.size, 1, none⟩ = some (.int .u64 rl) := K4.cell 1
  go_wp2_with fail
  refine (is_any rh rl B 128 d zs wrh wrl _ HQ6.out hrb (by decide)).mono ?_
  rw [FZ.out]
  rintro e w5 ⟨rfl, hb5⟩
  have hra5 := hra.below hb5 (Nat.le_refl _)
  have D5 := Lib.hid (bel_trans D4.out hb5)
  clear hb5 K4 D4 b0 b1 hra hrb FZ
  go_wp2_with fail
  refine (rof_any _ 1 1 [r] _ rfl (rdw_one (by simp) (by simp [go_sem])) (one_word wr) (by decide)).mono ?_
  rintro e w6 ⟨ys, Y, cy, ⟨hvy, hly⟩, rfl, hcy, hmy, hry, hb6⟩
  have hly' : ys.length = 64 := hly
  rw [hly']
  rw [wv_one] at hvy
  have HVY := Lib.hid hvy
  have HLY := Lib.hid hly'
  have hra6 := (hra5.alloc (.cells #[.int .u64 r] 22)).below hb6 (Nat.le_refl _)
  have D6 := Lib.hid (bel_trans (bel_alloc D5.out _) hb6)
  clear hvy hly hly' hb6 D5 hra5
  go_wp2_with fail
  refine (rcmp_any Y A 64 64 cy c ys rs _ HLY.out HQ4.out hry hra6 (by decide) (by decide)).mono ?_
  rw [HVY.out, HER.out, cmpI_eq]
  rintro e w7 ⟨rfl, rfl⟩
  go_wp2_with fail
  go_ret
  exact ⟨rfl, D6.out⟩
end Go.Proofs.Ytbpgallhlfjgjaa
