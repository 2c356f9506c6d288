/-
  The walk of WideShifts: for every number of two words, every number of three and every shift it answers true. Conditions: the fields are words of 64 bits, the shift is an int.
-/
import Derived.Test.YtbpgallhlfjgjaaRsh
namespace Go.Proofs.Ytbpgallhlfjgjaa
open Go.RowKit

theorem pow_mono (a b : Nat) (h : a ≤ b) : (2 : Int) ^ a ≤ 2 ^ b := by
  have h3 : 2 ^ a ≤ 2 ^ b := Nat.pow_le_pow_right (by decide) h
  have h4 : ((2 ^ a : Nat) : Int) ≤ ((2 ^ b : Nat) : Int) := Int.ofNat_le.2 h3
  simpa using h4
theorem div_min {v : Int} {m : Nat} (h0 : 0 ≤ v) (h1 : v < 2 ^ m) (K : Nat) : v / 2 ^ K = v / 2 ^ min K m ∧ v % 2 ^ K = v % 2 ^ min K m := by
  rcases Nat.lt_or_ge K m with h | h
  · rw [Nat.min_eq_left (by omega)]
    exact ⟨rfl, rfl⟩
  · rw [Nat.min_eq_right h]
    have := pow_mono m K h
    rw [Int.ediv_eq_zero_of_lt h0 h1, Int.ediv_eq_zero_of_lt h0 (by omega), Int.emod_eq_of_lt h0 h1, Int.emod_eq_of_lt h0 (by omega)]
    exact ⟨rfl, rfl⟩
theorem mul_min (v : Int) (m K : Nat) : v * 2 ^ K % 2 ^ m = v * 2 ^ min K m % 2 ^ m := by
  rcases Nat.lt_or_ge K m with h | h
  · rw [Nat.min_eq_left (by omega)]
  · rw [Nat.min_eq_right h, show K = m + (K - m) by omega, Int.pow_add, ← Int.mul_assoc, Int.mul_right_comm, Int.mul_emod_left, Int.mul_emod_left]
theorem row_some {w : World} {A : Option Addr} {xs : List Bool} (h : Rd w A xs) (h0 : 0 < xs.length) : ∃ g off, A = some ⟨g, off, none⟩ := by
  obtain ⟨g, off, e, _⟩ := h.at_ h0
  exact ⟨g, off, e⟩
theorem kp3 {W w1 : World} {p q r : Addr} {a b c : Value} (hb : Below W.heap.size W w1) (h : W.cell? p = some a ∧ W.cell? q = some b ∧ W.cell? r = some c) : w1.cell? p = some a ∧ w1.cell? q = some b ∧ w1.cell? r = some c :=
  ⟨(hb.cell (World.block_lt_of_cell? _ _ h.1)).trans h.1, (hb.cell (World.block_lt_of_cell? _ _ h.2.1)).trans h.2.1, (hb.cell (World.block_lt_of_cell? _ _ h.2.2)).trans h.2.2⟩

set_option maxRecDepth 100000 in
set_option maxHeartbeats 6400000 in
theorem shifts_walk (ah al bh bm bl n : Int) (h1 : Word ah) (h2 : Word al) (h3 : Word bh) (h4 : Word bm) (h5 : Word bl) (hn : -9223372036854775808 ≤ n ∧ n ≤ 9223372036854775807) (w : World) :
    Calls Try.prog 5 #[.agg #[.int .u64 ah, .int .u64 al], .agg #[.int .u64 bh, .int .u64 bm, .int .u64 bl], .int .i64 n] w fun e w' => e = .returned (.bool true) ∧ Below w.heap.size w w' := by
  have V := V2_lt h1 h2
  have U := V3_pos h3 h4 h5
  have d2 := div_min (m := 128) V.1 V.2 n.toNat
  have d3 := div_min (m := 192) U.1 U.2 n.toNat
  have m2 := mul_min (V2 ah al) 128 n.toNat
  have m3 := mul_min (V3 bh bm bl) 192 n.toNat
  have E2 := Lib.hid d2
  have E3 := Lib.hid d3
  have M2 := Lib.hid m2
  have M3 := Lib.hid m3
  clear d2 d3 m2 m3
  go_enter Try.func5, Try.ntmps5
  go_wp2_with fail
  refine (works1 _).mono ?_
  rintro e w1 ⟨rfl, hb1⟩
  have K0 := (Blk.new w 24 #[.int .u64 ah, .int .u64 al]).next hb1
  have K1 : Blk w1 (w.heap.size + 1) 45 #[.int .u64 bh, .int .u64 bm, .int .u64 bl] := by have := Blk.made hb1; simpa using this
  have D1 := Lib.hid (bel_trans (bel_alloc (bel_alloc (Below.refl w.heap.size w) _) _) hb1)
  clear hb1
  have a0 : w1.cell? ⟨w.heap.size, 0, none⟩ = some (.int .u64 ah) := K0.cell 0
  have a1 : w1.cell? ⟨w.heap.size, 1, none⟩ = some (.int .u64 al) := K0.cell 1
  go_wp2_with fail
  refine (shr2 ah al n h1 h2 hn.1 _).mono ?_
  rintro e w2 ⟨v, ⟨yh, yl, wy1, wy2, hy, rfl⟩, rfl, hb2⟩
  generalize hlo : decide (V2 ah al % 2 ^ n.toNat ≠ 0) = lo at *
  have HLO := Lib.hid hlo
  have HY := Lib.hid hy
  have A0 := K0.below hb2 K0.lt
  have A1 := K1.below hb2 K1.lt
  have D2 := Lib.hid (bel_trans D1.out hb2)
  clear hy hb2 K0 K1 D1 a0 a1 hlo
  have b0 : ∀ o, (w2.alloc o).cell? ⟨w.heap.size + 1, 0, none⟩ = some (.int .u64 bh) := fun o => (A1.alloc o).cell 0
  have b1 : ∀ o, (w2.alloc o).cell? ⟨w.heap.size + 1, 1, none⟩ = some (.int .u64 bm) := fun o => (A1.alloc o).cell 1
  have b2 : ∀ o, (w2.alloc o).cell? ⟨w.heap.size + 1, 2, none⟩ = some (.int .u64 bl) := fun o => (A1.alloc o).cell 2
  go_wp2_with fail
  refine (shr3 bh bm bl n h3 h4 h5 hn.1 _).mono ?_
  rintro e w3 ⟨v, ⟨zh, zm, zl, wz1, wz2, wz3, hz, rfl⟩, rfl, hb3⟩
  generalize hmo : decide (V3 bh bm bl % 2 ^ n.toNat ≠ 0) = mo at *
  have HMO := Lib.hid hmo
  have HZ := Lib.hid hz
  have B0 := A0.next hb3
  have B1 := A1.next hb3
  have B2 := Blk.made hb3
  have D3 := Lib.hid (bel_trans (bel_alloc D2.out _) hb3)
  clear hz hb3 A0 A1 D2 b0 b1 b2 hmo
  have a0 : ∀ o, (w3.alloc o).cell? ⟨w.heap.size, 0, none⟩ = some (.int .u64 ah) := fun o => (B0.alloc o).cell 0
  have a1 : ∀ o, (w3.alloc o).cell? ⟨w.heap.size, 1, none⟩ = some (.int .u64 al) := fun o => (B0.alloc o).cell 1
  go_wp2_with fail
  refine (of_any ah al h1 h2 _).mono ?_
  rintro e w4 ⟨xs, X, cx, ⟨hvx, hlx⟩, rfl, hcx, hmx, hrx, hb4⟩
  obtain ⟨gx, ox, rfl⟩ := row_some hrx (by omega)
  have C0 := B0.next hb4
  have C1 := B1.next hb4
  have C2 := B2.next hb4
  have C3 := Blk.made hb4
  have D4 := Lib.hid (bel_trans (bel_alloc D3.out _) hb4)
  rw [hlx] at hcx ⊢
  have HVX := Lib.hid hvx
  have HLX := Lib.hid hlx
  clear hvx hlx hb4 B0 B1 B2 D3 a0 a1
  go_wp2_with fail
  refine (shrB_any gx ox 128 cx xs n _ HLX.out hrx hcx hmx (by decide) (by decide) hn).mono ?_
  rintro e w5 ⟨ps, lb, P, cp, ⟨hp1, hp2, hp3⟩, rfl, hcp, hmp, hrp, hb5⟩
  obtain rfl : lb = lo := by rw [hp3, HVX.out, ← HLO.out, E2.out.2]
  have FX : Hid (decide (V2 yh yl = val ps) = true) := by show _ = _; rw [decide_eq_true_eq, HY.out, hp1, HVX.out, E2.out.1]
  have F0 := C0.below hb5 C0.lt
  have F1 := C1.below hb5 C1.lt
  have F2 := C2.below hb5 C2.lt
  have F3 := C3.below hb5 C3.lt
  have D5 := Lib.hid (bel_trans D4.out hb5)
  have hlp : ps.length ≤ 128 := by rw [hp2, HLX.out]; omega
  clear hp1 hp2 hp3 HY HVX HLX hb5 C0 C1 C2 C3 D4 hrx HLO
  generalize hpz : ps.length = pz at *
  have HPZ := Lib.hid hpz
  clear hpz
  have b0 : w5.cell? ⟨w.heap.size + 1, 0, none⟩ = some (.int .u64 bh) := F1.cell 0
  have b1 : w5.cell? ⟨w.heap.size + 1, 1, none⟩ = some (.int .u64 bm) := F1.cell 1
  have b2 : w5.cell? ⟨w.heap.size + 1, 2, none⟩ = some (.int .u64 bl) := F1.cell 2
  go_wp2_with fail
  refine (of3_any bh bm bl h3 h4 h5 _).mono ?_
  rintro e w6 ⟨us, U', cu, ⟨hvu, hlu⟩, rfl, hcu, hmu, hru, hb6⟩
  obtain ⟨gu, ou, rfl⟩ := row_some hru (by omega)
  rw [hlu] at hcu ⊢
  have HVU := Lib.hid hvu
  have HLU := Lib.hid hlu
  clear hvu hlu b0 b1 b2
  go_wp2_with fail
  refine (shrB_any gu ou 192 cu us n _ HLU.out hru hcu hmu (by decide) (by decide) hn).mono ?_
  rintro e w7 ⟨qs, mb, Q, cq, ⟨hq1, hq2, hq3⟩, rfl, hcq, hmq, hrq, hb7⟩
  obtain rfl : mb = mo := by rw [hq3, HVU.out, ← HMO.out, E3.out.2]
  have FY : Hid (decide (V3 zh zm zl = val qs) = true) := by show _ = _; rw [decide_eq_true_eq, HZ.out, hq1, HVU.out, E3.out.1]
  have hb67 := bel_trans hb6 hb7
  have G0 := F0.below hb67 F0.lt
  have G1 := F1.below hb67 F1.lt
  have G2 := F2.below hb67 F2.lt
  have G3 := F3.below hb67 F3.lt
  have D7 := Lib.hid (bel_trans D5.out hb67)
  have hrp7 := hrp.below hb67 (Nat.le_refl _)
  have hlq : qs.length ≤ 192 := by rw [hq2, HLU.out]; omega
  clear hq1 hq2 hq3 HZ HVU HLU hb6 hb7 hb67 F0 F1 F2 F3 D5 hru hrp HMO
  generalize hqz : qs.length = qz at *
  have HQZ := Lib.hid hqz
  clear hqz
  have s0 : w7.cell? ⟨w2.heap.size, 0, none⟩ = some (.int .u64 yh) := G2.cell 0
  have s1 : w7.cell? ⟨w2.heap.size, 1, none⟩ = some (.int .u64 yl) := G2.cell 1
  go_wp2_with fail
  refine (is_any yh yl P pz cp ps wy1 wy2 _ HPZ.out hrp7 (by omega)).mono ?_
  rw [FX.out]
  rintro e w8 ⟨rfl, hb8⟩
  have I0 := G0.below hb8 G0.lt
  have I1 := G1.below hb8 G1.lt
  have I3 := G3.below hb8 G3.lt
  have D8 := Lib.hid (bel_trans D7.out hb8)
  have hrq8 := hrq.below hb8 (Nat.le_refl _)
  clear hb8 G0 G1 G2 G3 D7 hrp7 hrq s0 s1 FX
  have s0 : w8.cell? ⟨w3.heap.size, 0, none⟩ = some (.int .u64 zh) := I3.cell 0
  have s1 : w8.cell? ⟨w3.heap.size, 1, none⟩ = some (.int .u64 zm) := I3.cell 1
  have s2 : w8.cell? ⟨w3.heap.size, 2, none⟩ = some (.int .u64 zl) := I3.cell 2
  go_wp2_with fail
  refine (is3_any zh zm zl Q qz cq qs wz1 wz2 wz3 _ HQZ.out hrq8 (by omega)).mono ?_
  rw [FY.out]
  rintro e w9 ⟨rfl, hb9⟩
  have J0 := I0.below hb9 I0.lt
  have J1 := I1.below hb9 I1.lt
  have D9 := Lib.hid (bel_trans D8.out hb9)
  clear hb9 I0 I1 I3 D8 hrq8 s0 s1 s2 FY
  have a0 : w9.cell? ⟨w.heap.size, 0, none⟩ = some (.int .u64 ah) := J0.cell 0
  have a1 : w9.cell? ⟨w.heap.size, 1, none⟩ = some (.int .u64 al) := J0.cell 1
  go_upto_region 10 with fail
  go_cut [18] (fun s18 wx => s18 = .bool true ∧ Hid (Below w9.heap.size w9 wx))
  case first =>
    go_region_held3 (fun w' => w'.cell? ⟨w.heap.size, 0, none⟩ = some (.int .u64 ah) ∧ w'.cell? ⟨w.heap.size, 1, none⟩ = some (.int .u64 al))
      ((refine kp2b (W := w9) ?_ ⟨a0, a1⟩; repeat (first | exact Below.refl _ _ | exact Y4 | exact Y3 | exact Y2 | exact Y1 | refine bel_drew ?_)))
      (first
        | (go_at_call 32; refine (shl2 ah al n h1 h2 hn.1 _).mono ?_; rintro e u1 ⟨v, ⟨sh, sl, ws1, ws2, hs, rfl⟩, rfl, hc1⟩; have HS := Lib.hid hs; clear hs; have Y1 : Below w9.heap.size w9 u1 := bel_trans (bel_drew (Below.refl _ _)) hc1)
        | (go_at_call 15; refine (of_any ah al h1 h2 _).mono ?_; rintro e u2 ⟨xs, X, cx, ⟨hvx, hlx⟩, rfl, hcx, hmx, hrx, hc2⟩; obtain ⟨gx, ox, rfl⟩ := row_some hrx (by omega); rw [hlx] at hcx ⊢; have HVX := Lib.hid hvx; have HLX := Lib.hid hlx; clear hvx hlx; have Y2 : Below w9.heap.size w9 u2 := bel_trans Y1 hc2)
        | (go_at_call 33; refine (shlB_any gx ox 128 cx xs n _ HLX.out hrx hcx (by decide) (by decide) hn).mono ?_; rintro e u3 ⟨zs, Z, cz, hz, rfl, hcz, hmz, hrz, hc3⟩; have Y3 : Below w9.heap.size w9 u3 := bel_trans Y2 hc3)
        | (go_at_call 17; refine (is_any sh sl Z _ cz zs ws1 ws2 _ rfl hrz (by rw [hz.2, HLX.out]; decide)).mono ?_; rw [show decide (V2 sh sl = val zs) = true by rw [decide_eq_true_eq, HS.out, hz.1, HVX.out, HLX.out, ← M2.out]; rfl]; rintro e u4 ⟨rfl, hc4⟩; have Y4 : Below w9.heap.size w9 u4 := bel_trans Y3 hc4))
    all_goals
      go_wp2_with fail
      go_meet
      exact ⟨rfl, Y4⟩
  case rest =>
    obtain ⟨rfl, HX⟩ := hcut
    have L1 := J1.below HX.out J1.lt
    have D10 := Lib.hid (bel_trans D9.out HX.out)
    clear a0 a1 J0 J1 D9 HX
    have b0 : wc.cell? ⟨w.heap.size + 1, 0, none⟩ = some (.int .u64 bh) := L1.cell 0
    have b1 : wc.cell? ⟨w.heap.size + 1, 1, none⟩ = some (.int .u64 bm) := L1.cell 1
    have b2 : wc.cell? ⟨w.heap.size + 1, 2, none⟩ = some (.int .u64 bl) := L1.cell 2
    go_upto_region 11 with fail
    go_cut [19] (fun s19 wx => s19 = .bool true ∧ Hid (Below wc.heap.size wc wx))
    case first =>
      go_region_held3 (fun w' => w'.cell? ⟨w.heap.size + 1, 0, none⟩ = some (.int .u64 bh) ∧ w'.cell? ⟨w.heap.size + 1, 1, none⟩ = some (.int .u64 bm) ∧ w'.cell? ⟨w.heap.size + 1, 2, none⟩ = some (.int .u64 bl))
        ((refine kp3 (W := wc) ?_ ⟨b0, b1, b2⟩; repeat (first | exact Below.refl _ _ | exact Y4 | exact Y3 | exact Y2 | exact Y1 | refine bel_drew ?_)))
        (first
          | (go_at_call 34; refine (shl3 bh bm bl n h3 h4 h5 hn.1 _).mono ?_; rintro e u1 ⟨v, ⟨sh, sm, sl, ws1, ws2, ws3, hs, rfl⟩, rfl, hc1⟩; have HS := Lib.hid hs; clear hs; have Y1 : Below wc.heap.size wc u1 := bel_trans (bel_drew (Below.refl _ _)) hc1)
          | (go_at_call 31; refine (of3_any bh bm bl h3 h4 h5 _).mono ?_; rintro e u2 ⟨xs, X, cx, ⟨hvx, hlx⟩, rfl, hcx, hmx, hrx, hc2⟩; obtain ⟨gx, ox, rfl⟩ := row_some hrx (by omega); rw [hlx] at hcx ⊢; have HVX := Lib.hid hvx; have HLX := Lib.hid hlx; clear hvx hlx; have Y2 : Below wc.heap.size wc u2 := bel_trans Y1 hc2)
          | (go_at_call 33; refine (shlB_any gx ox 192 cx xs n _ HLX.out hrx hcx (by decide) (by decide) hn).mono ?_; rintro e u3 ⟨zs, Z, cz, hz, rfl, hcz, hmz, hrz, hc3⟩; have Y3 : Below wc.heap.size wc u3 := bel_trans Y2 hc3)
          | (go_at_call 26; refine (is3_any sh sm sl Z _ cz zs ws1 ws2 ws3 _ rfl hrz (by rw [hz.2, HLX.out]; decide)).mono ?_; rw [show decide (V3 sh sm sl = val zs) = true by rw [decide_eq_true_eq, HS.out, hz.1, HVX.out, HLX.out, ← M3.out]; rfl]; rintro e u4 ⟨rfl, hc4⟩; have Y4 : Below wc.heap.size wc u4 := bel_trans Y3 hc4))
      all_goals
        go_wp2_with fail
        go_meet
        exact ⟨rfl, Y4⟩
    case rest =>
      obtain ⟨rfl, HY⟩ := hcut
      have D11 := Lib.hid (bel_trans D10.out HY.out)
      clear b0 b1 b2 L1 D10 HY
      go_wp2
      go_ret
      exact ⟨by simp, D11.out⟩
end Go.Proofs.Ytbpgallhlfjgjaa
