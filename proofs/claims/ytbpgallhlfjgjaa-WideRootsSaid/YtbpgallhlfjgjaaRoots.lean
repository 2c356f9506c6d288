/-
  The walk of WideRoots: for every number of two words it answers true. Conditions: the fields are words of 64 bits.
-/
import Derived.Test.YtbpgallhlfjgjaaWorks
namespace Go.Proofs.Ytbpgallhlfjgjaa
open Go.RowKit

theorem cmp_le {a b : Int} (h : a ≤ b) : decide (cmpI a b ≤ 0) = true := by
  simp only [decide_eq_true_eq]
  unfold cmpI
  split <;> (try split) <;> omega
theorem sqrt_two {a r : Int} (h : a < (r + 1) * (r + 1)) : a - r * r ≤ 2 * r := by
  rw [Int.mul_add, Int.add_mul] at h
  omega
theorem shl_one {r : Int} (h : Word r) : shlV2 (V2 0 r) (1 : Int).toNat = 2 * r := by
  obtain ⟨_, _⟩ := h
  unfold shlV2 V2
  rw [show (2 : Int) ^ (1 : Int).toNat = 2 by decide]
  omega

set_option maxRecDepth 100000 in
set_option maxHeartbeats 6400000 in
theorem roots_walk (h l : Int) (h1 : Word h) (h2 : Word l) (w : World) :
    Calls Try.prog 7 #[.agg #[.int .u64 h, .int .u64 l]] w fun e w' => e = .returned (.bool true) ∧ Below w.heap.size w w' := by
  have V := V2_lt h1 h2
  go_enter Try.func7, Try.ntmps7
  go_wp2_with fail
  refine (works1 _).mono ?_
  rintro e w1 ⟨rfl, hb1⟩
  have K0 := Blk.made hb1
  have a0 : w1.cell? ⟨w.heap.size, 0, none⟩ = some (.int .u64 h) := K0.cell 0
  have a1 : w1.cell? ⟨w.heap.size, 1, none⟩ = some (.int .u64 l) := K0.cell 1
  go_wp2_with fail
  refine (sqrt2 h l h1 h2 _).mono ?_
  rintro e w2 ⟨v, ⟨r, rh, rl, wr, wrh, wrl, s1, s2, hv, rfl⟩, rfl, hb2⟩
  have K02 := K0.below hb2 K0.lt
  have HV := Lib.hid hv
  clear hv a0 a1 K0
  go_wp2_with fail
  refine (mul1 r r wr wr _).mono ?_
  rintro e w3 ⟨v, ⟨qh, ql, wqh, wql, hq, rfl⟩, rfl, hb3⟩
  have K03 := K02.next hb3
  have K23 := Blk.made hb3
  have HQ := Lib.hid hq
  have b0 : ∀ o, (w3.alloc o).cell? ⟨w2.heap.size, 0, none⟩ = some (.int .u64 rh) := fun o => (K23.alloc o).cell 0
  have b1 : ∀ o, (w3.alloc o).cell? ⟨w2.heap.size, 1, none⟩ = some (.int .u64 rl) := fun o => (K23.alloc o).cell 1
  clear hq K02
  go_wp2_with fail
  refine (add2 qh ql rh rl wqh wql wrh wrl _).mono ?_
  rintro e w4 ⟨v, ⟨sh, sl, c, wsh, wsl, c0, c1, hs, rfl⟩, rfl, hb4⟩
  have ea : V2 sh sl + c * 340282366920938463463374607431768211456 = V2 h l := by rw [hs, HQ.out, HV.out]; omega
  obtain rfl : c = 0 := by have := V2_lt wsh wsl; omega
  obtain ⟨rfl, rfl⟩ := two_eq wsh wsl h1 h2 (by omega)
  have K04 := K03.next hb4
  have K24 := K23.next hb4
  clear hs ea b0 b1 K03 K23 c0 c1
  go_wp2_with fail
  refine (shl2 0 r 1 ⟨by decide, by decide⟩ wr (by decide) _).mono ?_
  rw [shl_one wr]
  rintro e w5 ⟨v, ⟨th, tl, wth, wtl, ht, rfl⟩, rfl, hb5⟩
  have hle : decide (cmpI (V2 rh rl) (V2 th tl) ≤ 0) = true := cmp_le (by rw [HV.out, ht]; exact sqrt_two s2)
  have K05 := K04.next hb5
  have K25 := K24.next hb5
  have K45 := Blk.made hb5
  have a0 : ∀ o, (w5.alloc o).cell? ⟨w.heap.size, 0, none⟩ = some (.int .u64 sh) := fun o => (K05.alloc o).cell 0
  have a1 : ∀ o, (w5.alloc o).cell? ⟨w.heap.size, 1, none⟩ = some (.int .u64 sl) := fun o => (K05.alloc o).cell 1
  have b0 : ∀ o, (w5.alloc o).cell? ⟨w2.heap.size, 0, none⟩ = some (.int .u64 rh) := fun o => (K25.alloc o).cell 0
  have b1 : ∀ o, (w5.alloc o).cell? ⟨w2.heap.size, 1, none⟩ = some (.int .u64 rl) := fun o => (K25.alloc o).cell 1
  have d0 : ∀ o, (w5.alloc o).cell? ⟨w4.heap.size, 0, none⟩ = some (.int .u64 sh) := fun o => (K45.alloc o).cell 0
  have d1 : ∀ o, (w5.alloc o).cell? ⟨w4.heap.size, 1, none⟩ = some (.int .u64 sl) := fun o => (K45.alloc o).cell 1
  have HB := Lib.hid (bel_trans (bel_alloc (bel_trans (bel_alloc (bel_trans (bel_alloc (bel_trans (bel_trans (bel_alloc (Below.refl w.heap.size w) _) hb1) hb2) _) hb3) _) hb4) _) hb5)
  have HT := Lib.hid ht
  clear ht K04 K24 K05 K25 K45 hb1 hb2 hb3 hb4 hb5 s1 s2 HV HQ V
  go_wp2_with fail
  refine (cmp2 rh rl th tl wrh wrl wth wtl _).mono ?_
  rintro e w6 ⟨rfl, hb6⟩
  clear HT
  go_wp2
  go_ret
  exact ⟨rfl, bel_trans (bel_alloc HB.out _) hb6⟩
end Go.Proofs.Ytbpgallhlfjgjaa
