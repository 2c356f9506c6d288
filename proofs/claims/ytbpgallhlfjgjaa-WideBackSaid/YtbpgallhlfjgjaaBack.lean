/-
  The walk of WideBack: for every number of two words, every word and every int it answers true. Conditions: the fields are words of 64 bits, the shift is an int.
-/
import Derived.Test.YtbpgallhlfjgjaaDiv3b
namespace Go.Proofs.Ytbpgallhlfjgjaa
open Go.RowKit

theorem back_sum {h l b sh sl c dh dl d : Int} (w1 : Word h) (w2 : Word l) (w5 : Word dh) (w6 : Word dl) (e1 : V2 sh sl + c * 340282366920938463463374607431768211456 = V2 h l + V2 0 b) (e2 : V2 dh dl - d * 340282366920938463463374607431768211456 = V2 sh sl - V2 0 b) : dh = h ∧ dl = l := by
  have := V2_lt w1 w2
  have := V2_lt w5 w6
  exact two_eq w5 w6 w1 w2 (by omega)
theorem back_div {h l b qh qm ql rh rl : Int} (w1 : Word h) (w2 : Word l) (q1 : Word qh) (q2 : Word qm) (q3 : Word ql) (r1 : Word rh) (r2 : Word rl) (hb : 0 < b) (lt : V2 rh rl < b) (e : V3 qh qm ql * b + V2 rh rl = V2 h l * b) :
    (qh = 0 ∧ qm = h ∧ ql = l) ∧ rh = 0 ∧ rl = 0 := by
  have r0 := (V2_lt r1 r2).1
  have k : V3 qh qm ql = V2 h l := by
    rcases Int.lt_trichotomy (V3 qh qm ql) (V2 h l) with k | k | k
    · have := Int.mul_le_mul_of_nonneg_right (show V3 qh qm ql + 1 ≤ V2 h l by omega) (Int.le_of_lt hb)
      rw [Int.add_mul] at this
      omega
    · exact k
    · have := Int.mul_le_mul_of_nonneg_right (show V2 h l + 1 ≤ V3 qh qm ql by omega) (Int.le_of_lt hb)
      rw [Int.add_mul] at this
      omega
  rw [k] at e
  have e0 : V3 0 h l = V2 h l := by unfold V3 V2; omega
  exact ⟨three_eq q1 q2 q3 ⟨by decide, by decide⟩ w1 w2 (by rw [e0]; exact k), two_eq r1 r2 ⟨by decide, by decide⟩ ⟨by decide, by decide⟩ (by rw [show V2 0 0 = 0 by decide]; omega)⟩
theorem back_shift {h l k xh xl bh bl : Int} (w1 : Word h) (w2 : Word l) (w5 : Word bh) (w6 : Word bl) (h0 : 0 ≤ k) (hk : k ≤ 128 - blen (V2 h l)) (e1 : V2 xh xl = shlV2 (V2 h l) k.toNat) (e2 : V2 bh bl = V2 xh xl / 2 ^ k.toNat) :
    (bh = h ∧ bl = l) ∧ decide (V2 xh xl % 2 ^ k.toNat ≠ 0) = false := by
  have V := V2_lt w1 w2
  obtain ⟨n, en, lt, _, _⟩ := blen_spec V.1
  have hp := pow_pos' k.toNat
  have e : V2 xh xl = V2 h l * 2 ^ k.toNat := by
    rw [e1]
    refine Int.emod_eq_of_lt (Int.mul_nonneg V.1 (Int.le_of_lt hp)) ?_
    have h3 : V2 h l * 2 ^ k.toNat < 2 ^ n * 2 ^ k.toNat := Int.mul_lt_mul_of_pos_right lt hp
    have h4 : (2 : Int) ^ n * 2 ^ k.toNat ≤ 2 ^ 128 := by
      rw [← Int.pow_add]
      have h5 : 2 ^ (n + k.toNat) ≤ 2 ^ 128 := Nat.pow_le_pow_right (by decide) (by omega)
      have h6 : ((2 ^ (n + k.toNat) : Nat) : Int) ≤ ((2 ^ 128 : Nat) : Int) := Int.ofNat_le.2 h5
      simpa using h6
    have e128 : (2 : Int) ^ 128 = 340282366920938463463374607431768211456 := by decide
    omega
  rw [e] at e2 ⊢
  rw [Int.mul_ediv_cancel _ (Int.ne_of_gt hp)] at e2
  refine ⟨two_eq w5 w6 w1 w2 e2, ?_⟩
  rw [Int.mul_emod_left]
  decide

set_option maxRecDepth 100000 in
set_option maxHeartbeats 6400000 in
theorem back_walk (h l b n : Int) (h1 : Word h) (h2 : Word l) (h3 : Word b) (hn : -9223372036854775808 ≤ n ∧ n ≤ 9223372036854775807) (w : World) :
    Calls Try.prog 10 #[.agg #[.int .u64 h, .int .u64 l], .int .u64 b, .int .i64 n] w fun e w' => e = .returned (.bool true) ∧ Below w.heap.size w w' := by
  have V := V2_lt h1 h2
  have BL := blen_le128 V.1 V.2
  have wz : Word 0 := ⟨by decide, by decide⟩
  go_enter Try.func10, Try.ntmps10
  go_wp2_with fail
  refine (works1 _).mono ?_
  rintro e w1 ⟨rfl, hb1⟩
  have K0 := Blk.made hb1
  have D1 := Lib.hid (bel_trans (bel_alloc (Below.refl w.heap.size w) _) hb1)
  have a0 : w1.cell? ⟨w.heap.size, 0, none⟩ = some (.int .u64 h) := K0.cell 0
  have a1 : w1.cell? ⟨w.heap.size, 1, none⟩ = some (.int .u64 l) := K0.cell 1
  go_wp2_with fail
  refine (add2 h l 0 b h1 h2 wz h3 _).mono ?_
  rintro e w2 ⟨v, ⟨sh, sl, c, ws1, ws2, c0, c1, hs, rfl⟩, rfl, hb2⟩
  have HS := Lib.hid hs
  have A0 := K0.below hb2 K0.lt
  have D2 := Lib.hid (bel_trans D1.out hb2)
  clear hs hb1 hb2 K0 D1 a0 a1
  go_wp2_with fail
  refine (sub2 sh sl 0 b ws1 ws2 wz h3 _).mono ?_
  rintro e w3 ⟨v, ⟨dh, dl, d, wd1, wd2, d0, d1, hd, rfl⟩, rfl, hb3⟩
  obtain ⟨rfl, rfl⟩ := back_sum h1 h2 wd1 wd2 HS.out hd
  have B0 := A0.next hb3
  have D3 := Lib.hid (bel_trans (bel_alloc D2.out _) hb3)
  clear hd HS hb3 A0 D2 ws1 ws2 c0 c1 d0 d1
  have a0 : ∀ o, (w3.alloc o).cell? ⟨w.heap.size, 0, none⟩ = some (.int .u64 dh) := fun o => (B0.alloc o).cell 0
  have a1 : ∀ o, (w3.alloc o).cell? ⟨w.heap.size, 1, none⟩ = some (.int .u64 dl) := fun o => (B0.alloc o).cell 1
  go_wp2_with fail
  refine (mul2 dh dl b h1 h2 h3 _).mono ?_
  rintro e w4 ⟨v, ⟨ph, pm, pl, wp1, wp2, wp3, hp, rfl⟩, rfl, hb4⟩
  have HP := Lib.hid hp
  have C0 := B0.next hb4
  have C3 := Blk.made hb4
  have D4 := Lib.hid (bel_trans (bel_alloc D3.out _) hb4)
  clear hp hb4 B0 D3 a0 a1
  go_wp2_with fail
  refine (div3 ph pm pl 0 b wp1 wp2 wp3 wz h3 _).mono ?_
  rw [HP.out, show V2 0 b = b by unfold V2; omega]
  rintro e w5 ⟨v, ⟨qh, qm, ql, rh, rl, wq1, wq2, wq3, wr1, wr2, hz, hq, rfl⟩, rfl, hb5⟩
  have HQ := Lib.hid hq
  have E0 := C0.next hb5
  have E3 := C3.next hb5
  have D5 := Lib.hid (bel_trans (bel_alloc D4.out _) hb5)
  clear hq hb5 C0 C3 D4 HP hz
  have a0 : ∀ o o', ((w5.alloc o).alloc o').cell? ⟨w.heap.size, 0, none⟩ = some (.int .u64 dh) := fun o o' => ((E0.alloc o).alloc o').cell 0
  have a1 : ∀ o o', ((w5.alloc o).alloc o').cell? ⟨w.heap.size, 1, none⟩ = some (.int .u64 dl) := fun o o' => ((E0.alloc o).alloc o').cell 1
  go_wp2_with fail
  refine (len2 dh dl h1 h2 _).mono ?_
  rintro e w6 ⟨rfl, hb6⟩
  have F0 := (E0.alloc (.cells #[.int .u64 qh, .int .u64 qm, .int .u64 ql] 45)).next hb6
  have F3 := (E3.alloc (.cells #[.int .u64 qh, .int .u64 qm, .int .u64 ql] 45)).next hb6
  have F5 := (Blk.new w5 45 #[.int .u64 qh, .int .u64 qm, .int .u64 ql]).next hb6
  have F6 : Blk w6 (w5.heap.size + 1) 24 #[.int .u64 rh, .int .u64 rl] := by have := Blk.made hb6; simpa using this
  have D6 := Lib.hid (bel_trans (bel_alloc (bel_alloc D5.out _) _) hb6)
  clear hb6 E0 E3 D5 a0 a1
  have a0 : w6.cell? ⟨w.heap.size, 0, none⟩ = some (.int .u64 dh) := F0.cell 0
  have a1 : w6.cell? ⟨w.heap.size, 1, none⟩ = some (.int .u64 dl) := F0.cell 1
  have HK : Hid (0 ≤ min (max n 0) (128 - blen (V2 dh dl)) ∧ min (max n 0) (128 - blen (V2 dh dl)) ≤ 128 - blen (V2 dh dl)) := ⟨by omega, by omega⟩
  go_wp2_with fail
  generalize min (max n 0) (128 - blen (V2 dh dl)) = k at *
  refine (shl2 dh dl k h1 h2 (by have := HK.out; omega) _).mono ?_
  rintro e w7 ⟨v, ⟨xh, xl, wx1, wx2, hx, rfl⟩, rfl, hb7⟩
  have HX := Lib.hid hx
  clear hx
  go_wp2_with fail
  refine (shr2 xh xl k wx1 wx2 (by have := HK.out; omega) _).mono ?_
  rintro e w8 ⟨v, ⟨yh, yl, wy1, wy2, hy, rfl⟩, rfl, hb8⟩
  obtain ⟨⟨rfl, rfl⟩, hlost⟩ := back_shift h1 h2 wy1 wy2 HK.out.1 HK.out.2 HX.out hy
  rw [hlost]
  have hb78 := bel_trans hb7 hb8
  have G0 := F0.below hb78 F0.lt
  have G3 := F3.below hb78 F3.lt
  have G5 := F5.below hb78 F5.lt
  have G6 := F6.below hb78 F6.lt
  have D8 := Lib.hid (bel_trans D6.out hb78)
  clear hlost hy HX HK hb7 hb8 hb78 F0 F3 F5 F6 D6 a0 a1 V BL
  have a0 : ∀ o, (w8.alloc o).cell? ⟨w.heap.size, 0, none⟩ = some (.int .u64 yh) := fun o => (G0.alloc o).cell 0
  have a1 : ∀ o, (w8.alloc o).cell? ⟨w.heap.size, 1, none⟩ = some (.int .u64 yl) := fun o => (G0.alloc o).cell 1
  have b0 : ∀ o, (w8.alloc o).cell? ⟨w3.heap.size, 0, none⟩ = some (.int .u64 yh) := fun o => (G3.alloc o).cell 0
  have b1 : ∀ o, (w8.alloc o).cell? ⟨w3.heap.size, 1, none⟩ = some (.int .u64 yl) := fun o => (G3.alloc o).cell 1
  have c0 : ∀ o, (w8.alloc o).cell? ⟨w5.heap.size, 0, none⟩ = some (.int .u64 qh) := fun o => (G5.alloc o).cell 0
  have c1 : ∀ o, (w8.alloc o).cell? ⟨w5.heap.size, 1, none⟩ = some (.int .u64 qm) := fun o => (G5.alloc o).cell 1
  have c2 : ∀ o, (w8.alloc o).cell? ⟨w5.heap.size, 2, none⟩ = some (.int .u64 ql) := fun o => (G5.alloc o).cell 2
  have c3 : ∀ o, (w8.alloc o).cell? ⟨w5.heap.size + 1, 0, none⟩ = some (.int .u64 rh) := fun o => (G6.alloc o).cell 0
  have c4 : ∀ o, (w8.alloc o).cell? ⟨w5.heap.size + 1, 1, none⟩ = some (.int .u64 rl) := fun o => (G6.alloc o).cell 1
  clear G0 G3 G5 G6
  by_cases hb : b = 0
  · subst hb
    by_cases t1 : qh = 0
    · subst t1
      by_cases t2 : qm = yh
      · subst t2
        by_cases t3 : ql = yl
        · subst t3
          by_cases t4 : rh = 0
          · subst t4
            by_cases t5 : rl = 0
            · subst t5
              go_wp2
              go_ret
              exact ⟨rfl, bel_alloc D8.out _⟩
            · go_wp2
              go_ret
              exact ⟨rfl, bel_alloc D8.out _⟩
          · go_wp2
            go_ret
            exact ⟨rfl, bel_alloc D8.out _⟩
        · go_wp2
          go_ret
          exact ⟨rfl, bel_alloc D8.out _⟩
      · go_wp2
        go_ret
        exact ⟨rfl, bel_alloc D8.out _⟩
    · go_wp2
      go_ret
      exact ⟨rfl, bel_alloc D8.out _⟩
  · have hbp : 0 < b := by have := h3.1; omega
    have tb : (b == 0) = false := by simp [hb]
    obtain ⟨lt, e⟩ := HQ.out hbp
    obtain ⟨⟨rfl, rfl, rfl⟩, rfl, rfl⟩ := back_div h1 h2 wq1 wq2 wq3 wr1 wr2 hbp lt e
    clear HQ lt e
    go_wp2
    go_ret
    exact ⟨rfl, bel_alloc D8.out _⟩
end Go.Proofs.Ytbpgallhlfjgjaa
