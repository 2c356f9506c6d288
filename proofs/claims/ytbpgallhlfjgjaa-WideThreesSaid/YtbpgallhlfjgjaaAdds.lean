/-
  The walk of WideAdds: for every two numbers of two words it answers true. Conditions: the fields are words of 64 bits.
-/
import Derived.Test.YtbpgallhlfjgjaaRis
import Derived.Test.YtbpgallhlfjgjaaStep
namespace Go.Proofs.Ytbpgallhlfjgjaa
open Go.RowKit

theorem kp4 {W w1 : World} {p q r s : Addr} {a b c d : Value} (hb : Below W.heap.size W w1) (h : W.cell? p = some a ∧ W.cell? q = some b ∧ W.cell? r = some c ∧ W.cell? s = some d) :
    w1.cell? p = some a ∧ w1.cell? q = some b ∧ w1.cell? r = some c ∧ w1.cell? s = some d :=
  ⟨(hb.cell (World.block_lt_of_cell? _ _ h.1)).trans h.1, (hb.cell (World.block_lt_of_cell? _ _ h.2.1)).trans h.2.1, (hb.cell (World.block_lt_of_cell? _ _ h.2.2.1)).trans h.2.2.1, (hb.cell (World.block_lt_of_cell? _ _ h.2.2.2)).trans h.2.2.2⟩

/-- What the numbers' sums and differences say of the rows'. -/
theorem adds_facts {ah al bh bl sh sl c dh dl b : Int} {zs ds : List Bool} {lb : Bool} (ws1 : Word sh) (ws2 : Word sl) (wd1 : Word dh) (wd2 : Word dl) (_c0 : 0 ≤ c) (_c1 : c ≤ 1) (_d0 : 0 ≤ b) (_d1 : b ≤ 1)
    (hs : V2 sh sl + c * 340282366920938463463374607431768211456 = V2 ah al + V2 bh bl) (hd : V2 dh dl - b * 340282366920938463463374607431768211456 = V2 ah al - V2 bh bl) (hz : val zs = V2 ah al + V2 bh bl) (l1 : 128 ≤ zs.length) (l2 : zs.length ≤ 129)
    (hv : val ds - oneI lb * 340282366920938463463374607431768211456 = V2 ah al - V2 bh bl) (hl : ds.length = 128) :
    decide (V2 sh sl = val (zs.take 128)) = true ∧ decide (V2 dh dl = val ds) = true ∧ (b == oneI lb) = true ∧ (c == oneI (decide (128 < zs.length) && zs.getD 128 false)) = true := by
  have vs := V2_lt ws1 ws2
  have vd := V2_lt wd1 wd2
  have e128 : (2 : Int) ^ 128 = 340282366920938463463374607431768211456 := by decide
  have dr := val_drop zs 128 l1
  rw [e128, hz, ← hs] at dr
  have n0 := val_nonneg ds
  have n1 := val_lt ds
  rw [hl, e128] at n1
  have ob : 0 ≤ oneI lb ∧ oneI lb ≤ 1 := by cases lb <;> decide
  have hc : c = oneI (decide (128 < zs.length) && zs.getD 128 false) := by
    have e1 : val (zs.drop 128) = c := by rw [dr.1]; omega
    rw [← e1]
    rcases Nat.eq_or_lt_of_le l1 with h | h
    · rw [List.drop_of_length_le (by omega), ← h]
      simp [val, oneI]
    · have h129 : zs.length = 129 := by omega
      have e2 : zs.drop 128 = [zs.getD 128 false] := by
        rw [List.drop_eq_getElem_cons (by omega), List.drop_of_length_le (by omega), List.getD_eq_getElem?_getD, List.getElem?_eq_getElem (by omega)]
        rfl
      rw [e2, show decide (128 < zs.length) = true by simp; omega]
      cases zs.getD 128 false <;> rfl
  refine ⟨by rw [decide_eq_true_eq, dr.2]; omega, by rw [decide_eq_true_eq]; omega, by rw [beq_iff_eq]; omega, by rw [beq_iff_eq]; exact hc⟩

set_option maxRecDepth 100000 in
set_option maxHeartbeats 6400000 in
theorem adds_walk (ah al bh bl : Int) (h1 : Word ah) (h2 : Word al) (h3 : Word bh) (h4 : Word bl) (w : World) :
    Calls Try.prog 3 #[.agg #[.int .u64 ah, .int .u64 al], .agg #[.int .u64 bh, .int .u64 bl]] w fun e w' => e = .returned (.bool true) ∧ Below w.heap.size w w' := by
  go_enter Try.func3, Try.ntmps3
  go_wp2_with fail
  refine (works1 _).mono ?_
  rintro e w1 ⟨rfl, hb1⟩
  have K0 := (Blk.new w 24 #[.int .u64 ah, .int .u64 al]).next hb1
  have K1 : Blk w1 (w.heap.size + 1) 24 #[.int .u64 bh, .int .u64 bl] := by have := Blk.made hb1; simpa using this
  have D1 := Lib.hid (bel_trans (bel_alloc (bel_alloc (Below.refl w.heap.size w) _) _) hb1)
  clear hb1
  have a0 : w1.cell? ⟨w.heap.size, 0, none⟩ = some (.int .u64 ah) := K0.cell 0
  have a1 : w1.cell? ⟨w.heap.size, 1, none⟩ = some (.int .u64 al) := K0.cell 1
  have b0 : w1.cell? ⟨w.heap.size + 1, 0, none⟩ = some (.int .u64 bh) := K1.cell 0
  have b1 : w1.cell? ⟨w.heap.size + 1, 1, none⟩ = some (.int .u64 bl) := K1.cell 1
  go_wp2_with fail
  refine (add2 ah al bh bl h1 h2 h3 h4 _).mono ?_
  rintro e w2 ⟨v, ⟨sh, sl, c, ws1, ws2, c0, c1, hs, rfl⟩, rfl, hb2⟩
  have HS := Lib.hid hs
  have A0 := K0.below hb2 K0.lt
  have A1 := K1.below hb2 K1.lt
  have D2 := Lib.hid (bel_trans D1.out hb2)
  clear hs hb2 K0 K1 D1 a0 a1 b0 b1
  have a0 : ∀ o, (w2.alloc o).cell? ⟨w.heap.size, 0, none⟩ = some (.int .u64 ah) := fun o => (A0.alloc o).cell 0
  have a1 : ∀ o, (w2.alloc o).cell? ⟨w.heap.size, 1, none⟩ = some (.int .u64 al) := fun o => (A0.alloc o).cell 1
  have b0 : ∀ o, (w2.alloc o).cell? ⟨w.heap.size + 1, 0, none⟩ = some (.int .u64 bh) := fun o => (A1.alloc o).cell 0
  have b1 : ∀ o, (w2.alloc o).cell? ⟨w.heap.size + 1, 1, none⟩ = some (.int .u64 bl) := fun o => (A1.alloc o).cell 1
  go_wp2_with fail
  refine (sub2 ah al bh bl h1 h2 h3 h4 _).mono ?_
  rintro e w3 ⟨v, ⟨dh, dl, b, wd1, wd2, d0, d1, hd, rfl⟩, rfl, hb3⟩
  have HD := Lib.hid hd
  have B0 := A0.next hb3
  have B1 := A1.next hb3
  have B2 := Blk.made hb3
  have D3 := Lib.hid (bel_trans (bel_alloc D2.out _) hb3)
  clear hd hb3 A0 A1 D2 a0 a1 b0 b1
  have C0 := B0.alloc (.cells #[.int .u64 dh, .int .u64 dl] 24)
  have C1 := B1.alloc (.cells #[.int .u64 dh, .int .u64 dl] 24)
  have C2 := B2.alloc (.cells #[.int .u64 dh, .int .u64 dl] 24)
  have C3 := Blk.new w3 24 #[.int .u64 dh, .int .u64 dl]
  have D4 := Lib.hid (bel_alloc D3.out (.cells #[.int .u64 dh, .int .u64 dl] 24))
  clear B0 B1 B2 D3
  go_upto_region 6 with fail
  generalize w3.alloc (.cells #[.int .u64 dh, .int .u64 dl] 24) = W at *
  have a0 : W.cell? ⟨w.heap.size, 0, none⟩ = some (.int .u64 ah) := C0.cell 0
  have a1 : W.cell? ⟨w.heap.size, 1, none⟩ = some (.int .u64 al) := C0.cell 1
  have b0 : W.cell? ⟨w.heap.size + 1, 0, none⟩ = some (.int .u64 bh) := C1.cell 0
  have b1 : W.cell? ⟨w.heap.size + 1, 1, none⟩ = some (.int .u64 bl) := C1.cell 1
  go_cut [10] (fun s10 wx => ∃ (zs : List Bool) (A : Option Addr) (cz : Nat), s10 = .slice A zs.length cz ∧ zs.length ≤ cz ∧ val zs = V2 ah al + V2 bh bl ∧ 128 ≤ zs.length ∧ zs.length ≤ 129 ∧ Rd wx A zs ∧ Hid (Below W.heap.size W wx))
  case first =>
    go_region_held3 (fun w' => w'.cell? ⟨w.heap.size, 0, none⟩ = some (.int .u64 ah) ∧ w'.cell? ⟨w.heap.size, 1, none⟩ = some (.int .u64 al) ∧ w'.cell? ⟨w.heap.size + 1, 0, none⟩ = some (.int .u64 bh) ∧ w'.cell? ⟨w.heap.size + 1, 1, none⟩ = some (.int .u64 bl))
      ((refine kp4 (W := W) ?_ ⟨a0, a1, b0, b1⟩; repeat (first | exact Below.refl _ _ | exact X3 | exact X2 | exact X1 | refine bel_drew ?_)))
      (first
        | (go_at_call_of 15 (Value.agg #[.int .u64 ah, .int .u64 al]); refine (of_any ah al h1 h2 _).mono ?_; rintro e w4 ⟨xs, A1, c1, ⟨hv1, hl1⟩, rfl, hc1, hm1, hr1, hb4⟩; rw [hl1]; have HV1 := Lib.hid hv1; have HL1 := Lib.hid hl1; clear hv1 hl1; have X1 : Below W.heap.size W w4 := bel_trans (bel_drew (Below.refl _ _)) hb4)
        | (go_at_call_of 15 (Value.agg #[.int .u64 bh, .int .u64 bl]); refine (of_any bh bl h3 h4 _).mono ?_; rintro e w5 ⟨ys, A2, c2, ⟨hv2, hl2⟩, rfl, hc2, hm2, hr2, hb5⟩; rw [hl2]; have HV2 := Lib.hid hv2; have HL2 := Lib.hid hl2; clear hv2 hl2; have X2 : Below W.heap.size W w5 := bel_trans X1 hb5; have hr3 := hr1.below hb5 (Nat.le_refl _))
        | (go_at_call 14; refine (radd_any A1 A2 128 128 c1 c2 xs ys _ HL1.out HL2.out hr3 hr2 (by decide) (by decide)).mono ?_; rintro e w6 ⟨zs, A3, c3, hs3, rfl, hc3, hm3, hr6, hb6⟩; have X3 : Below W.heap.size W w6 := bel_trans X2 hb6))
    have fin := hs3.1
    rw [HV1.out, HV2.out] at fin
    have l1 := hs3.2.1
    have l2 := hs3.2.2
    rw [HL1.out, HL2.out] at l1 l2
    have l3 : 128 ≤ zs.length := by omega
    have l4 : zs.length ≤ 129 := by omega
    have FIN := Lib.hid fin
    clear fin l1 l2 hs3
    go_wp2_with fail
    go_meet
    exact ⟨zs, A3, c3, rfl, hc3, FIN.out, l3, l4, hr6, X3⟩
  case rest =>
    obtain ⟨zs, A, cz, rfl, hcz, hval, hl1, hl2, hrz, HX⟩ := hcut
    have HVZ := Lib.hid hval
    clear hval a0 a1 b0 b1
    have a0 : wc.cell? ⟨w.heap.size, 0, none⟩ = some (.int .u64 ah) := (C0.below HX.out C0.lt).cell 0
    have a1 : wc.cell? ⟨w.heap.size, 1, none⟩ = some (.int .u64 al) := (C0.below HX.out C0.lt).cell 1
    have b0 : wc.cell? ⟨w.heap.size + 1, 0, none⟩ = some (.int .u64 bh) := (C1.below HX.out C1.lt).cell 0
    have b1 : wc.cell? ⟨w.heap.size + 1, 1, none⟩ = some (.int .u64 bl) := (C1.below HX.out C1.lt).cell 1
    go_upto_region 7 with fail
    go_cut [11, 12] (fun s11 s12 wx => ∃ (ds : List Bool) (A : Option Addr) (cd : Nat) (lb : Bool), s11 = .slice A ds.length cd ∧ s12 = .bool lb ∧ ds.length ≤ cd ∧ val ds - oneI lb * 340282366920938463463374607431768211456 = V2 ah al - V2 bh bl ∧ ds.length = 128 ∧ Rd wx A ds ∧ Hid (Below wc.heap.size wc wx))
    case first =>
      go_region_held3 (fun w' => w'.cell? ⟨w.heap.size, 0, none⟩ = some (.int .u64 ah) ∧ w'.cell? ⟨w.heap.size, 1, none⟩ = some (.int .u64 al) ∧ w'.cell? ⟨w.heap.size + 1, 0, none⟩ = some (.int .u64 bh) ∧ w'.cell? ⟨w.heap.size + 1, 1, none⟩ = some (.int .u64 bl))
        ((refine kp4 (W := wc) ?_ ⟨a0, a1, b0, b1⟩; repeat (first | exact Below.refl _ _ | exact X3 | exact X2 | exact X1 | refine bel_drew ?_)))
        (first
          | (go_at_call_of 15 (Value.agg #[.int .u64 ah, .int .u64 al]); refine (of_any ah al h1 h2 _).mono ?_; rintro e w4 ⟨xs, A1, c1, ⟨hv1, hl1⟩, rfl, hc1, hm1, hr1, hb4⟩; rw [hl1]; have HV1 := Lib.hid hv1; have HL1 := Lib.hid hl1; clear hv1 hl1; have X1 : Below wc.heap.size wc w4 := bel_trans (bel_drew (Below.refl _ _)) hb4)
          | (go_at_call_of 15 (Value.agg #[.int .u64 bh, .int .u64 bl]); refine (of_any bh bl h3 h4 _).mono ?_; rintro e w5 ⟨ys, A2, c2, ⟨hv2, hl2⟩, rfl, hc2, hm2, hr2, hb5⟩; rw [hl2]; have HV2 := Lib.hid hv2; have HL2 := Lib.hid hl2; clear hv2 hl2; have X2 : Below wc.heap.size wc w5 := bel_trans X1 hb5; have hr3 := hr1.below hb5 (Nat.le_refl _))
          | (go_at_call 16; refine (rsub_any A1 A2 128 128 c1 c2 xs ys 128 _ HL1.out HL2.out hr3 hr2 (by decide) (by decide) (by decide) (by decide)).mono ?_; rintro e w6 ⟨ds, lb, A3, c3, hs3, rfl, hc3, hm3, hr6, hb6⟩; have X3 : Below wc.heap.size wc w6 := bel_trans X2 hb6))
      have fin := hs3.eq
      rw [show (128 : Int).toNat = 128 from rfl, List.take_of_length_le (by rw [HL1.out]; exact Nat.le_refl _), List.take_of_length_le (by rw [HL2.out]; exact Nat.le_refl _), HV1.out, HV2.out] at fin
      have FIN : Hid (val ds - oneI lb * 340282366920938463463374607431768211456 = V2 ah al - V2 bh bl) := by
        show _ = _
        rw [← fin]
        cases lb <;> simp [oneI]
      have l1 : ds.length = 128 := hs3.len
      have L1 := Lib.hid l1
      clear fin hs3 l1
      go_wp2_with fail
      go_meet
      exact ⟨ds, A3, c3, lb, rfl, rfl, hc3, FIN.out, L1.out, hr6, X3⟩
    case rest =>
      obtain ⟨ds, A', cd, lb, rfl, rfl, hcd, hvd, hld, hrd, HY⟩ := hcut
      have HZ := Lib.hid (bel_trans HX.out HY.out)
      have hrz2 := hrz.below HY.out (Nat.le_refl _)
      obtain ⟨fx, fy, fb, fc⟩ := adds_facts ws1 ws2 wd1 wd2 c0 c1 d0 d1 HS.out HD.out HVZ.out hl1 hl2 hvd hld
      have FX := Lib.hid fx
      have FY := Lib.hid fy
      have FB := Lib.hid fb
      have FC := Lib.hid fc
      have HLD := Lib.hid hld
      have E0 := C0.below HZ.out C0.lt
      have E1 := C1.below HZ.out C1.lt
      have E2 := C2.below HZ.out C2.lt
      have E3 := C3.below HZ.out C3.lt
      have HW2 := Lib.hid (D4.out.trans (HZ.out.mono D4.out.size))
      clear fx fy fb fc hvd hrz HX HY HZ a0 a1 b0 b1 C0 C1 C2 C3 D4 HS HD HVZ
      rw [hld]
      clear hld
      obtain ⟨g, off, rfl, hg, _⟩ := hrz2.at_ (i := 0) (by omega)
      have s0 : wc.cell? ⟨w2.heap.size, 0, none⟩ = some (.int .u64 sh) := E2.cell 0
      have s1 : wc.cell? ⟨w2.heap.size, 1, none⟩ = some (.int .u64 sl) := E2.cell 1
      have l5 : (128 : Int) ≤ (cz : Int) := by omega
      have l6 : (128 : Int) ≤ (zs.length : Int) := by omega
      go_upto_region 8 with fail
      go_cut [13] (fun s13 wx => s13 = .bool true ∧ Hid (Below wc.heap.size wc wx))
      case first =>
        go_region_held3 (fun w' => w'.cell? ⟨w2.heap.size, 0, none⟩ = some (.int .u64 sh) ∧ w'.cell? ⟨w2.heap.size, 1, none⟩ = some (.int .u64 sl))
          ((refine kp2b (W := wc) ?_ ⟨s0, s1⟩; repeat (first | exact Below.refl _ _ | exact X1 | refine bel_drew ?_)))
          (first
            | (go_at_call 17; refine (is_any sh sl _ 128 cz (zs.take 128) ws1 ws2 _ (by rw [List.length_take, Nat.min_eq_left hl1]) (hrz2.take 128).drew (by decide)).mono ?_; rw [FX.out]; rintro e w4 ⟨rfl, hb4⟩; have X1 : Below wc.heap.size wc w4 := bel_trans (bel_drew (Below.refl _ _)) hb4))
        go_wp2_with fail
        go_meet
        exact ⟨rfl, X1⟩
      case rest =>
        obtain ⟨rfl, HY⟩ := hcut
        have F0 := E0.below HY.out E0.lt
        have F1 := E1.below HY.out E1.lt
        have F3 := E3.below HY.out E3.lt
        have hrz3 := hrz2.below HY.out (Nat.le_refl _)
        have hrd3 := hrd.below HY.out (Nat.le_refl _)
        have HW3 := Lib.hid (bel_trans HW2.out HY.out)
        clear HY E0 E1 E2 E3 hrz2 hrd HW2 s0 s1 FX
        have s0 : wc.cell? ⟨w3.heap.size, 0, none⟩ = some (.int .u64 dh) := F3.cell 0
        have s1 : wc.cell? ⟨w3.heap.size, 1, none⟩ = some (.int .u64 dl) := F3.cell 1
        go_wp2_with fail
        refine (is_any dh dl A' 128 cd ds wd1 wd2 _ HLD.out hrd3 (by decide)).mono ?_
        rw [FY.out]
        rintro e w4 ⟨rfl, hb4⟩
        have G0 := F0.below hb4 F0.lt
        have G1 := F1.below hb4 F1.lt
        have hrz4 := hrz3.below hb4 (Nat.le_refl _)
        have HW4 := Lib.hid (bel_trans HW3.out hb4)
        clear F0 F1 F3 hrz3 hrd3 HW3 hb4 s0 s1 FY HLD
        have a0 : w4.cell? ⟨w.heap.size, 0, none⟩ = some (.int .u64 ah) := G0.cell 0
        have a1 : w4.cell? ⟨w.heap.size, 1, none⟩ = some (.int .u64 al) := G0.cell 1
        have b0 : w4.cell? ⟨w.heap.size + 1, 0, none⟩ = some (.int .u64 bh) := G1.cell 0
        have b1 : w4.cell? ⟨w.heap.size + 1, 1, none⟩ = some (.int .u64 bl) := G1.cell 1
        have TB := FB.out
        rcases Nat.eq_or_lt_of_le hl1 with hl | hl
        · have TC := FC.out
          rw [show decide (128 < zs.length) = false by simp; omega, Bool.false_and] at TC
          have hgt : decide ((128 : Int) < (zs.length : Int)) = false := by simp; omega
          have hgt2 : decide (128 < zs.length) = false := by simp; omega
          have hle : zs.length ≤ 128 := by omega
          clear hl FB FC
          go_upto_region 10 with fail
          have KEEP : ∀ w', Below w4.heap.size w4 w' → w'.cell? ⟨w.heap.size, 0, none⟩ = some (.int .u64 ah) ∧ w'.cell? ⟨w.heap.size, 1, none⟩ = some (.int .u64 al) ∧ w'.cell? ⟨w.heap.size + 1, 0, none⟩ = some (.int .u64 bh) ∧ w'.cell? ⟨w.heap.size + 1, 1, none⟩ = some (.int .u64 bl) := fun w' hx => kp4 hx ⟨a0, a1, b0, b1⟩
          refine wp_region_held_drew (S := fun w' => w'.cell? ⟨w.heap.size, 0, none⟩ = some (.int .u64 ah) ∧ w'.cell? ⟨w.heap.size, 1, none⟩ = some (.int .u64 al) ∧ w'.cell? ⟨w.heap.size + 1, 0, none⟩ = some (.int .u64 bh) ∧ w'.cell? ⟨w.heap.size + 1, 1, none⟩ = some (.int .u64 bl)) (by kernel_rfl) (KEEP _ (bel_drew (Below.refl _ _))) (fun hHeld => ?_)
          refine wpAnyH_take (i := 0) (v := ?_) rfl (by kernel_rfl) (by kernel_rfl) (by kernel_rfl) (fun _ _ _ h => h) (Or.inl ⟨by rfl, ?_⟩) (by assumption) ?_
          rotate_left
          · intro w hSw
            (try dsimp only at hSw)
            go_simp
            try (with_reducible rfl)
          simp only [Act.put, List.getElem_toArray, List.getElem_cons_zero, List.setIfInBounds_toArray, List.set_cons_zero, List.set_cons_succ]
          refine wpAnyH_take (i := 1) (v := ?_) rfl (by kernel_rfl) (by kernel_rfl) (by kernel_rfl) (fun _ _ _ h => h) (Or.inl ⟨by rfl, ?_⟩) (by assumption) ?_
          rotate_left
          · intro w hSw
            (try dsimp only at hSw)
            go_simp
            try (with_reducible rfl)
          simp only [Act.put, List.getElem_toArray, List.getElem_cons_succ, List.getElem_cons_zero, List.setIfInBounds_toArray, List.set_cons_zero, List.set_cons_succ]
          refine wpAnyH_take (i := 2) (v := ?_) rfl (by kernel_rfl) (by kernel_rfl) (by kernel_rfl) (fun _ _ _ h => h) (Or.inl ⟨by rfl, ?_⟩) (by assumption) ?_
          rotate_left
          · intro w hSw
            (try dsimp only at hSw)
            go_simp
            try (with_reducible rfl)
          simp only [Act.put, List.getElem_toArray, List.getElem_cons_succ, List.getElem_cons_zero, List.setIfInBounds_toArray, List.set_cons_zero, List.set_cons_succ]
          refine wpAnyH_take (i := 3) (v := ?_) rfl (by kernel_rfl) (by kernel_rfl) (by kernel_rfl) (fun _ _ _ h => h) (Or.inl ⟨by rfl, ?_⟩) (by assumption) ?_
          rotate_left
          · intro w hSw
            (try dsimp only at hSw)
            go_simp
            try (with_reducible rfl)
          simp only [Act.put, List.getElem_toArray, List.getElem_cons_succ, List.getElem_cons_zero, List.setIfInBounds_toArray, List.set_cons_zero, List.set_cons_succ]
          refine wpAnyH_take (i := 4) (v := ?_) rfl (by kernel_rfl) (by kernel_rfl) (by kernel_rfl) (fun _ _ _ h => h) (Or.inl ⟨by rfl, ?_⟩) (by assumption) ?_
          rotate_left
          · intro w hSw
            (try dsimp only at hSw)
            go_simp
            try (with_reducible rfl)
          simp only [Act.put, List.getElem_toArray, List.getElem_cons_succ, List.getElem_cons_zero, List.setIfInBounds_toArray, List.set_cons_zero, List.set_cons_succ]
          refine wpAnyH_take (i := 5) (v := ?_) rfl (by kernel_rfl) (by kernel_rfl) (by kernel_rfl) (fun _ _ _ h => h) (Or.inl ⟨by rfl, ?_⟩) (by assumption) ?_
          rotate_left
          · intro w hSw
            (try dsimp only at hSw)
            go_simp
            try (with_reducible rfl)
          simp only [Act.put, List.getElem_toArray, List.getElem_cons_succ, List.getElem_cons_zero, List.setIfInBounds_toArray, List.set_cons_zero, List.set_cons_succ]
          refine wpAnyH_take (i := 6) (v := ?_) rfl (by kernel_rfl) (by kernel_rfl) (by kernel_rfl) (fun _ _ _ h => h) (Or.inl ⟨by rfl, ?_⟩) (by assumption) ?_
          rotate_left
          · intro w hSw
            (try dsimp only at hSw)
            go_simp
            try (with_reducible rfl)
          simp only [Act.put, List.getElem_toArray, List.getElem_cons_succ, List.getElem_cons_zero, List.setIfInBounds_toArray, List.set_cons_zero, List.set_cons_succ]
          refine wpAnyH_take (i := 7) (v := ?_) rfl (by kernel_rfl) (by kernel_rfl) (by kernel_rfl) (fun _ _ _ h => h) (Or.inl ⟨by rfl, ?_⟩) (by assumption) ?_
          rotate_left
          · intro w hSw
            (try dsimp only at hSw)
            go_simp
            try (with_reducible rfl)
          simp only [Act.put, List.getElem_toArray, List.getElem_cons_succ, List.getElem_cons_zero, List.setIfInBounds_toArray, List.set_cons_zero, List.set_cons_succ]
          refine wpAnyH_take (i := 8) (v := ?_) rfl (by kernel_rfl) (by kernel_rfl) (by kernel_rfl) (fun _ _ _ h => h) (Or.inl ⟨by rfl, ?_⟩) (by assumption) ?_
          rotate_left
          · intro w hSw
            (try dsimp only at hSw)
            go_simp
            try (with_reducible rfl)
          simp only [Act.put, List.getElem_toArray, List.getElem_cons_succ, List.getElem_cons_zero, List.setIfInBounds_toArray, List.set_cons_zero, List.set_cons_succ]
          refine wpAnyH_take (i := 9) (v := ?_) rfl (by kernel_rfl) (by kernel_rfl) (by kernel_rfl) (fun _ _ _ h => h) (Or.inl ⟨by rfl, ?_⟩) (by assumption) ?_
          rotate_left
          · intro w hSw
            (try dsimp only at hSw)
            go_simp
            try (with_reducible rfl)
          simp only [Act.put, List.getElem_toArray, List.getElem_cons_succ, List.getElem_cons_zero, List.setIfInBounds_toArray, List.set_cons_zero, List.set_cons_succ]
          refine wpAnyH_take (i := 10) (v := ?_) rfl (by kernel_rfl) (by kernel_rfl) (by kernel_rfl) (fun _ _ _ h => h) (Or.inl ⟨by rfl, ?_⟩) (by assumption) ?_
          rotate_left
          · intro w hSw
            (try dsimp only at hSw)
            go_simp
            try (with_reducible rfl)
          simp only [Act.put, List.getElem_toArray, List.getElem_cons_succ, List.getElem_cons_zero, List.setIfInBounds_toArray, List.set_cons_zero, List.set_cons_succ]
          refine wpAnyH_take (i := 11) (v := ?_) rfl (by kernel_rfl) (by kernel_rfl) (by kernel_rfl) (fun _ _ _ h => h) (Or.inl ⟨by rfl, ?_⟩) (by assumption) ?_
          rotate_left
          · intro w hSw
            (try dsimp only at hSw)
            go_simp
            try (with_reducible rfl)
          simp only [Act.put, List.getElem_toArray, List.getElem_cons_succ, List.getElem_cons_zero, List.setIfInBounds_toArray, List.set_cons_zero, List.set_cons_succ]
          refine wpAnyH_take (i := 12) (v := ?_) rfl (by kernel_rfl) (by kernel_rfl) (by kernel_rfl) (fun _ _ _ h => h) (Or.inl ⟨by rfl, ?_⟩) (by assumption) ?_
          rotate_left
          · intro w hSw
            (try dsimp only at hSw)
            go_simp
            try (with_reducible rfl)
          simp only [Act.put, List.getElem_toArray, List.getElem_cons_succ, List.getElem_cons_zero, List.setIfInBounds_toArray, List.set_cons_zero, List.set_cons_succ]
          refine wpAnyH_take (i := 13) (v := undef) rfl (by kernel_rfl) (by kernel_rfl) (by kernel_rfl) (fun _ _ _ h => h) (Or.inr ⟨by rfl, rfl⟩) (by assumption) ?_
          simp only [Act.put, List.getElem_toArray, List.getElem_cons_succ, List.getElem_cons_zero, List.setIfInBounds_toArray, List.set_cons_zero, List.set_cons_succ]
          refine wpAnyH_take (i := 14) (v := undef) rfl (by kernel_rfl) (by kernel_rfl) (by kernel_rfl) (fun _ _ _ h => h) (Or.inr ⟨by rfl, rfl⟩) (by assumption) ?_
          simp only [Act.put, List.getElem_toArray, List.getElem_cons_succ, List.getElem_cons_zero, List.setIfInBounds_toArray, List.set_cons_zero, List.set_cons_succ]
          refine wpAnyH_take (i := 15) (v := undef) rfl (by kernel_rfl) (by kernel_rfl) (by kernel_rfl) (fun _ _ _ h => h) (Or.inr ⟨by rfl, rfl⟩) (by assumption) ?_
          simp only [Act.put, List.getElem_toArray, List.getElem_cons_succ, List.getElem_cons_zero, List.setIfInBounds_toArray, List.set_cons_zero, List.set_cons_succ]
          refine wpAnyH_take (i := 16) (v := ?_) rfl (by kernel_rfl) (by kernel_rfl) (by kernel_rfl) (fun _ _ _ h => h) (Or.inl ⟨by rfl, ?_⟩) (by assumption) ?_
          rotate_left
          · intro w hSw
            (try dsimp only at hSw)
            go_simp
            try (with_reducible rfl)
          simp only [Act.put, List.getElem_toArray, List.getElem_cons_succ, List.getElem_cons_zero, List.setIfInBounds_toArray, List.set_cons_zero, List.set_cons_succ]
          refine wpAnyH_ready (rs := [17]) (by kernel_rfl) (by simp) ?_
          refine AllReadyH.cons rfl (fun K hK => ?_) AllReadyH.nil
          go_simp
          go_at_call 18
          refine (one_any _ _).mono ?_
          rintro e w' ⟨rfl, rfl⟩
          refine hK.out _ _ ?_ (fun hHeld => ?_)
          · exact KEEP _ (bel_drew (Below.refl _ _))
          clear hK K
          refine wpAnyH_take (i := 18) (v := ?_) rfl (by kernel_rfl) (by kernel_rfl) (by kernel_rfl) (fun _ _ _ h => h) (Or.inl ⟨by rfl, ?_⟩) (by assumption) ?_
          rotate_left
          · intro w hSw
            (try dsimp only at hSw)
            go_simp
            try (with_reducible rfl)
          simp only [Act.put, List.getElem_toArray, List.getElem_cons_succ, List.getElem_cons_zero, List.setIfInBounds_toArray, List.set_cons_zero, List.set_cons_succ]
          refine wpAnyH_take (i := 19) (v := ?_) rfl (by kernel_rfl) (by kernel_rfl) (by kernel_rfl) (fun _ _ _ h => h) (Or.inl ⟨by rfl, ?_⟩) (by assumption) ?_
          rotate_left
          · intro w hSw
            (try dsimp only at hSw)
            go_simp
            try (with_reducible rfl)
          simp only [Act.put, List.getElem_toArray, List.getElem_cons_succ, List.getElem_cons_zero, List.setIfInBounds_toArray, List.set_cons_zero, List.set_cons_succ]
          refine wpAnyH_take (i := 20) (v := ?_) rfl (by kernel_rfl) (by kernel_rfl) (by kernel_rfl) (fun _ _ _ h => h) (Or.inl ⟨by rfl, ?_⟩) (by assumption) ?_
          rotate_left
          · intro w hSw
            (try dsimp only at hSw)
            go_simp
            try (with_reducible rfl)
          simp only [Act.put, List.getElem_toArray, List.getElem_cons_succ, List.getElem_cons_zero, List.setIfInBounds_toArray, List.set_cons_zero, List.set_cons_succ]
          refine wpAnyH_take (i := 21) (v := ?_) rfl (by kernel_rfl) (by kernel_rfl) (by kernel_rfl) (fun _ _ _ h => h) (Or.inl ⟨by rfl, ?_⟩) (by assumption) ?_
          rotate_left
          · intro w hSw
            (try dsimp only at hSw)
            go_simp
            try (with_reducible rfl)
          simp only [Act.put, List.getElem_toArray, List.getElem_cons_succ, List.getElem_cons_zero, List.setIfInBounds_toArray, List.set_cons_zero, List.set_cons_succ]
          refine wpAnyH_take (i := 22) (v := ?_) rfl (by kernel_rfl) (by kernel_rfl) (by kernel_rfl) (fun _ _ _ h => h) (Or.inl ⟨by rfl, ?_⟩) (by assumption) ?_
          rotate_left
          · intro w hSw
            (try dsimp only at hSw)
            go_simp
            try (with_reducible rfl)
          simp only [Act.put, List.getElem_toArray, List.getElem_cons_succ, List.getElem_cons_zero, List.setIfInBounds_toArray, List.set_cons_zero, List.set_cons_succ]
          refine wpAnyH_ready (rs := [23]) (by kernel_rfl) (by simp) ?_
          refine AllReadyH.cons rfl (fun K hK => ?_) AllReadyH.nil
          go_simp
          go_at_call 18
          refine (one_any _ _).mono ?_
          rintro e w' ⟨rfl, rfl⟩
          refine hK.out _ _ ?_ (fun hHeld => ?_)
          · exact KEEP _ (bel_drew (Below.refl _ _))
          clear hK K
          refine wpAnyH_take (i := 24) (v := ?_) rfl (by kernel_rfl) (by kernel_rfl) (by kernel_rfl) (fun _ _ _ h => h) (Or.inl ⟨by rfl, ?_⟩) (by assumption) ?_
          rotate_left
          · intro w hSw
            (try dsimp only at hSw)
            go_simp
            try (with_reducible rfl)
          simp only [Act.put, List.getElem_toArray, List.getElem_cons_succ, List.getElem_cons_zero, List.setIfInBounds_toArray, List.set_cons_zero, List.set_cons_succ]
          refine wpAnyH_take (i := 25) (v := ?_) rfl (by kernel_rfl) (by kernel_rfl) (by kernel_rfl) (fun _ _ _ h => h) (Or.inl ⟨by rfl, ?_⟩) (by assumption) ?_
          rotate_left
          · intro w hSw
            (try dsimp only at hSw)
            go_simp
            try (with_reducible rfl)
          simp only [Act.put, List.getElem_toArray, List.getElem_cons_succ, List.getElem_cons_zero, List.setIfInBounds_toArray, List.set_cons_zero, List.set_cons_succ]
          refine wpAnyH_take (i := 26) (v := ?_) rfl (by kernel_rfl) (by kernel_rfl) (by kernel_rfl) (fun _ _ _ h => h) (Or.inl ⟨by rfl, ?_⟩) (by assumption) ?_
          rotate_left
          · intro w hSw
            (try dsimp only at hSw)
            go_simp
            try (with_reducible rfl)
          simp only [Act.put, List.getElem_toArray, List.getElem_cons_succ, List.getElem_cons_zero, List.setIfInBounds_toArray, List.set_cons_zero, List.set_cons_succ]
          refine wpAnyH_take (i := 27) (v := ?_) rfl (by kernel_rfl) (by kernel_rfl) (by kernel_rfl) (fun _ _ _ h => h) (Or.inl ⟨by rfl, ?_⟩) (by assumption) ?_
          rotate_left
          · intro w hSw
            (try dsimp only at hSw)
            go_simp
            try (with_reducible rfl)
          simp only [Act.put, List.getElem_toArray, List.getElem_cons_succ, List.getElem_cons_zero, List.setIfInBounds_toArray, List.set_cons_zero, List.set_cons_succ]
          refine wpAnyH_take (i := 28) (v := ?_) rfl (by kernel_rfl) (by kernel_rfl) (by kernel_rfl) (fun _ _ _ h => h) (Or.inl ⟨by rfl, ?_⟩) (by assumption) ?_
          rotate_left
          · intro w hSw
            (try dsimp only at hSw)
            go_simp
            try (with_reducible rfl)
          simp only [Act.put, List.getElem_toArray, List.getElem_cons_succ, List.getElem_cons_zero, List.setIfInBounds_toArray, List.set_cons_zero, List.set_cons_succ]
          refine wpAnyH_take (i := 30) (v := ?_) rfl (by kernel_rfl) (by kernel_rfl) (by kernel_rfl) (fun _ _ _ h => h) (Or.inl ⟨by rfl, ?_⟩) (by assumption) ?_
          rotate_left
          · intro w hSw
            (try dsimp only at hSw)
            go_simp
            try (with_reducible rfl)
          simp only [Act.put, List.getElem_toArray, List.getElem_cons_succ, List.getElem_cons_zero, List.setIfInBounds_toArray, List.set_cons_zero, List.set_cons_succ]
          refine wpAnyH_take (i := 32) (v := ?_) rfl (by kernel_rfl) (by kernel_rfl) (by kernel_rfl) (fun _ _ _ h => h) (Or.inl ⟨by rfl, ?_⟩) (by assumption) ?_
          rotate_left
          · intro w hSw
            (try dsimp only at hSw)
            go_simp
            try (with_reducible rfl)
          simp only [Act.put, List.getElem_toArray, List.getElem_cons_succ, List.getElem_cons_zero, List.setIfInBounds_toArray, List.set_cons_zero, List.set_cons_succ]
          refine wpAnyH_ready (rs := [29]) (by kernel_rfl) (by simp) ?_
          refine AllReadyH.cons rfl (fun K hK => ?_) AllReadyH.nil
          go_simp
          go_at_call 19
          refine (cmp2 ah al bh bl h1 h2 h3 h4 _).mono ?_
          rintro e u1 ⟨rfl, hc1⟩
          have Y1 : Below w4.heap.size w4 u1 := bel_trans (bel_drew (Below.refl _ _)) hc1
          clear hc1
          refine hK.out _ _ ?_ (fun hHeld => ?_)
          · exact KEEP _ (Y1)
          clear hK K
          refine wpAnyH_ready (rs := [31]) (by kernel_rfl) (by simp) ?_
          refine AllReadyH.cons rfl (fun K hK => ?_) AllReadyH.nil
          go_simp
          go_at_call 15
          refine (of_any ah al h1 h2 _).mono ?_
          rintro e u2 ⟨xs, X, cx, ⟨hvx, hlx⟩, rfl, hcx, hmx, hrx, hc2⟩
          rw [hlx]
          have HVX := Lib.hid hvx
          have HLX := Lib.hid hlx
          have Y2 : Below w4.heap.size w4 u2 := bel_trans Y1 hc2
          clear hvx hlx hc2
          refine hK.out _ _ ?_ (fun hHeld => ?_)
          · exact KEEP _ (Y2)
          clear hK K
          refine wpAnyH_ready (rs := [33]) (by kernel_rfl) (by simp) ?_
          refine AllReadyH.cons rfl (fun K hK => ?_) AllReadyH.nil
          go_simp
          go_at_call 15
          refine (of_any bh bl h3 h4 _).mono ?_
          rintro e u3 ⟨ys, Y, cy, ⟨hvy, hly⟩, rfl, hcy, hmy, hry, hc3⟩
          rw [hly]
          have HVY := Lib.hid hvy
          have HLY := Lib.hid hly
          have Y3 : Below w4.heap.size w4 u3 := bel_trans Y2 hc3
          have hrx3 := hrx.below hc3 (Nat.le_refl _)
          clear hvy hly hc3 hrx
          refine hK.out _ _ ?_ (fun hHeld => ?_)
          · exact KEEP _ (Y3)
          clear hK K
          refine wpAnyH_ready (rs := [34]) (by kernel_rfl) (by simp) ?_
          refine AllReadyH.cons rfl (fun K hK => ?_) AllReadyH.nil
          go_simp
          go_at_call 20
          refine (rcmp_any X Y 128 128 cx cy xs ys _ HLX.out HLY.out hrx3 hry (by decide) (by decide)).mono ?_
          rw [HVX.out, HVY.out]
          rintro e u4 ⟨rfl, rfl⟩
          clear hrx3 hry HVX HLX HVY HLY
          refine hK.out _ _ ?_ (fun hHeld => ?_)
          · exact KEEP _ (Y3)
          clear hK K
          refine wpAnyH_take (i := 35) (v := ?_) rfl (by kernel_rfl) (by kernel_rfl) (by kernel_rfl) (fun _ _ _ h => h) (Or.inl ⟨by rfl, ?_⟩) (by assumption) ?_
          rotate_left
          · intro w hSw
            (try dsimp only at hSw)
            go_simp
            try (with_reducible rfl)
          simp only [Act.put, List.getElem_toArray, List.getElem_cons_succ, List.getElem_cons_zero, List.setIfInBounds_toArray, List.set_cons_zero, List.set_cons_succ]
          refine wpAnyH_take (i := 36) (v := ?_) rfl (by kernel_rfl) (by kernel_rfl) (by kernel_rfl) (fun _ _ _ h => h) (Or.inl ⟨by rfl, ?_⟩) (by assumption) ?_
          rotate_left
          · intro w hSw
            (try dsimp only at hSw)
            go_simp
            try (with_reducible rfl)
          simp only [Act.put, List.getElem_toArray, List.getElem_cons_succ, List.getElem_cons_zero, List.setIfInBounds_toArray, List.set_cons_zero, List.set_cons_succ]
          refine wpAnyH_take (i := 37) (v := ?_) rfl (by kernel_rfl) (by kernel_rfl) (by kernel_rfl) (fun _ _ _ h => h) (Or.inl ⟨by rfl, ?_⟩) (by assumption) ?_
          rotate_left
          · intro w hSw
            (try dsimp only at hSw)
            go_simp
            try (with_reducible rfl)
          simp only [Act.put, List.getElem_toArray, List.getElem_cons_succ, List.getElem_cons_zero, List.setIfInBounds_toArray, List.set_cons_zero, List.set_cons_succ]
          refine wpAnyH_take (i := 38) (v := ?_) rfl (by kernel_rfl) (by kernel_rfl) (by kernel_rfl) (fun _ _ _ h => h) (Or.inl ⟨by rfl, ?_⟩) (by assumption) ?_
          rotate_left
          · intro w hSw
            (try dsimp only at hSw)
            go_simp
            try (with_reducible rfl)
          simp only [Act.put, List.getElem_toArray, List.getElem_cons_succ, List.getElem_cons_zero, List.setIfInBounds_toArray, List.set_cons_zero, List.set_cons_succ]
          refine wpAnyH_take (i := 40) (v := ?_) rfl (by kernel_rfl) (by kernel_rfl) (by kernel_rfl) (fun _ _ _ h => h) (Or.inl ⟨by rfl, ?_⟩) (by assumption) ?_
          rotate_left
          · intro w hSw
            (try dsimp only at hSw)
            go_simp
            try (with_reducible rfl)
          simp only [Act.put, List.getElem_toArray, List.getElem_cons_succ, List.getElem_cons_zero, List.setIfInBounds_toArray, List.set_cons_zero, List.set_cons_succ]
          refine wpAnyH_ready (rs := [39]) (by kernel_rfl) (by simp) ?_
          refine AllReadyH.cons rfl (fun K hK => ?_) AllReadyH.nil
          go_simp
          go_at_call 21
          refine (len2 ah al h1 h2 _).mono ?_
          rintro e u5 ⟨rfl, hc5⟩
          have Y5 : Below w4.heap.size w4 u5 := bel_trans Y3 hc5
          clear hc5
          refine hK.out _ _ ?_ (fun hHeld => ?_)
          · exact KEEP _ (Y5)
          clear hK K
          refine wpAnyH_ready (rs := [41]) (by kernel_rfl) (by simp) ?_
          refine AllReadyH.cons rfl (fun K hK => ?_) AllReadyH.nil
          go_simp
          go_at_call 15
          refine (of_any ah al h1 h2 _).mono ?_
          rintro e u6 ⟨us, U, cu, ⟨hvu, hlu⟩, rfl, hcu, hmu, hru, hc6⟩
          rw [hlu]
          have HVU := Lib.hid hvu
          have HLU := Lib.hid hlu
          have Y6 : Below w4.heap.size w4 u6 := bel_trans Y5 hc6
          clear hvu hlu hc6
          refine hK.out _ _ ?_ (fun hHeld => ?_)
          · exact KEEP _ (Y6)
          clear hK K
          refine wpAnyH_ready (rs := [42]) (by kernel_rfl) (by simp) ?_
          refine AllReadyH.cons rfl (fun K hK => ?_) AllReadyH.nil
          go_simp
          go_at_call 22
          refine (rlen_any U 128 cu us _ HLU.out hru (by decide)).mono ?_
          rw [HVU.out]
          rintro e u7 ⟨rfl, rfl⟩
          clear hru HVU HLU
          refine hK.out _ _ ?_ (fun hHeld => ?_)
          · exact KEEP _ (Y6)
          clear hK K
          refine wpAnyH_take (i := 43) (v := ?_) rfl (by kernel_rfl) (by kernel_rfl) (by kernel_rfl) (fun _ _ _ h => h) (Or.inl ⟨by rfl, ?_⟩) (by assumption) ?_
          rotate_left
          · intro w hSw
            (try dsimp only at hSw)
            go_simp
            try (with_reducible rfl)
          simp only [Act.put, List.getElem_toArray, List.getElem_cons_succ, List.getElem_cons_zero, List.setIfInBounds_toArray, List.set_cons_zero, List.set_cons_succ]
          refine wpAnyH_take (i := 44) (v := ?_) rfl (by kernel_rfl) (by kernel_rfl) (by kernel_rfl) (fun _ _ _ h => h) (Or.inl ⟨by rfl, ?_⟩) (by assumption) ?_
          rotate_left
          · intro w hSw
            (try dsimp only at hSw)
            go_simp
            try (with_reducible rfl)
          simp only [Act.put, List.getElem_toArray, List.getElem_cons_succ, List.getElem_cons_zero, List.setIfInBounds_toArray, List.set_cons_zero, List.set_cons_succ]
          refine wpAnyH_take (i := 45) (v := ?_) rfl (by kernel_rfl) (by kernel_rfl) (by kernel_rfl) (fun _ _ _ h => h) (Or.inl ⟨by rfl, ?_⟩) (by assumption) ?_
          rotate_left
          · intro w hSw
            (try dsimp only at hSw)
            go_simp
            try (with_reducible rfl)
          simp only [Act.put, List.getElem_toArray, List.getElem_cons_succ, List.getElem_cons_zero, List.setIfInBounds_toArray, List.set_cons_zero, List.set_cons_succ]
          refine wpAnyH_done (by kernel_rfl) ?_ _
          go_wp2_with fail
          go_ret
          exact ⟨rfl, bel_trans HW4.out Y6⟩
        · have TC := FC.out
          obtain ⟨bz, hbz⟩ : ∃ bz, zs.getD 128 false = bz := ⟨_, rfl⟩
          rw [show decide (128 < zs.length) = true by simp; omega, Bool.true_and, hbz] at TC
          have hgt : (128 : Int) < (zs.length : Int) := by omega
          have hgt2 : decide (128 < zs.length) = true := by simp; omega
          have z0 : w4.cell? ⟨g, off + 128, none⟩ = some (.bool bz) := by
            obtain ⟨g', off', e, _, hc⟩ := hrz4.at_ (i := 128) hl
            injection e with e
            injection e with e1 e2
            subst e1 e2
            rw [hbz] at hc
            exact hc
          clear hl FB FC hbz
          go_upto_region 10 with fail
          have KEEP : ∀ w', Below w4.heap.size w4 w' → w'.cell? ⟨w.heap.size, 0, none⟩ = some (.int .u64 ah) ∧ w'.cell? ⟨w.heap.size, 1, none⟩ = some (.int .u64 al) ∧ w'.cell? ⟨w.heap.size + 1, 0, none⟩ = some (.int .u64 bh) ∧ w'.cell? ⟨w.heap.size + 1, 1, none⟩ = some (.int .u64 bl) ∧ w'.cell? ⟨g, off + 128, none⟩ = some (.bool bz) := fun w' hx => kp5c hx ⟨a0, a1, b0, b1, z0⟩
          refine wp_region_held_drew (S := fun w' => w'.cell? ⟨w.heap.size, 0, none⟩ = some (.int .u64 ah) ∧ w'.cell? ⟨w.heap.size, 1, none⟩ = some (.int .u64 al) ∧ w'.cell? ⟨w.heap.size + 1, 0, none⟩ = some (.int .u64 bh) ∧ w'.cell? ⟨w.heap.size + 1, 1, none⟩ = some (.int .u64 bl) ∧ w'.cell? ⟨g, off + 128, none⟩ = some (.bool bz)) (by kernel_rfl) (KEEP _ (bel_drew (Below.refl _ _))) (fun hHeld => ?_)
          refine wpAnyH_take (i := 0) (v := ?_) rfl (by kernel_rfl) (by kernel_rfl) (by kernel_rfl) (fun _ _ _ h => h) (Or.inl ⟨by rfl, ?_⟩) (by assumption) ?_
          rotate_left
          · intro w hSw
            (try dsimp only at hSw)
            go_simp
            try (with_reducible rfl)
          simp only [Act.put, List.getElem_toArray, List.getElem_cons_zero, List.setIfInBounds_toArray, List.set_cons_zero, List.set_cons_succ]
          refine wpAnyH_take (i := 1) (v := ?_) rfl (by kernel_rfl) (by kernel_rfl) (by kernel_rfl) (fun _ _ _ h => h) (Or.inl ⟨by rfl, ?_⟩) (by assumption) ?_
          rotate_left
          · intro w hSw
            (try dsimp only at hSw)
            go_simp
            try (with_reducible rfl)
          simp only [Act.put, List.getElem_toArray, List.getElem_cons_succ, List.getElem_cons_zero, List.setIfInBounds_toArray, List.set_cons_zero, List.set_cons_succ]
          refine wpAnyH_take (i := 2) (v := ?_) rfl (by kernel_rfl) (by kernel_rfl) (by kernel_rfl) (fun _ _ _ h => h) (Or.inl ⟨by rfl, ?_⟩) (by assumption) ?_
          rotate_left
          · intro w hSw
            (try dsimp only at hSw)
            go_simp
            try (with_reducible rfl)
          simp only [Act.put, List.getElem_toArray, List.getElem_cons_succ, List.getElem_cons_zero, List.setIfInBounds_toArray, List.set_cons_zero, List.set_cons_succ]
          refine wpAnyH_take (i := 3) (v := ?_) rfl (by kernel_rfl) (by kernel_rfl) (by kernel_rfl) (fun _ _ _ h => h) (Or.inl ⟨by rfl, ?_⟩) (by assumption) ?_
          rotate_left
          · intro w hSw
            (try dsimp only at hSw)
            go_simp
            try (with_reducible rfl)
          simp only [Act.put, List.getElem_toArray, List.getElem_cons_succ, List.getElem_cons_zero, List.setIfInBounds_toArray, List.set_cons_zero, List.set_cons_succ]
          refine wpAnyH_take (i := 4) (v := ?_) rfl (by kernel_rfl) (by kernel_rfl) (by kernel_rfl) (fun _ _ _ h => h) (Or.inl ⟨by rfl, ?_⟩) (by assumption) ?_
          rotate_left
          · intro w hSw
            (try dsimp only at hSw)
            go_simp
            try (with_reducible rfl)
          simp only [Act.put, List.getElem_toArray, List.getElem_cons_succ, List.getElem_cons_zero, List.setIfInBounds_toArray, List.set_cons_zero, List.set_cons_succ]
          refine wpAnyH_take (i := 5) (v := ?_) rfl (by kernel_rfl) (by kernel_rfl) (by kernel_rfl) (fun _ _ _ h => h) (Or.inl ⟨by rfl, ?_⟩) (by assumption) ?_
          rotate_left
          · intro w hSw
            (try dsimp only at hSw)
            go_simp
            try (with_reducible rfl)
          simp only [Act.put, List.getElem_toArray, List.getElem_cons_succ, List.getElem_cons_zero, List.setIfInBounds_toArray, List.set_cons_zero, List.set_cons_succ]
          refine wpAnyH_take (i := 6) (v := ?_) rfl (by kernel_rfl) (by kernel_rfl) (by kernel_rfl) (fun _ _ _ h => h) (Or.inl ⟨by rfl, ?_⟩) (by assumption) ?_
          rotate_left
          · intro w hSw
            (try dsimp only at hSw)
            go_simp
            try (with_reducible rfl)
          simp only [Act.put, List.getElem_toArray, List.getElem_cons_succ, List.getElem_cons_zero, List.setIfInBounds_toArray, List.set_cons_zero, List.set_cons_succ]
          refine wpAnyH_take (i := 7) (v := ?_) rfl (by kernel_rfl) (by kernel_rfl) (by kernel_rfl) (fun _ _ _ h => h) (Or.inl ⟨by rfl, ?_⟩) (by assumption) ?_
          rotate_left
          · intro w hSw
            (try dsimp only at hSw)
            go_simp
            try (with_reducible rfl)
          simp only [Act.put, List.getElem_toArray, List.getElem_cons_succ, List.getElem_cons_zero, List.setIfInBounds_toArray, List.set_cons_zero, List.set_cons_succ]
          refine wpAnyH_take (i := 8) (v := ?_) rfl (by kernel_rfl) (by kernel_rfl) (by kernel_rfl) (fun _ _ _ h => h) (Or.inl ⟨by rfl, ?_⟩) (by assumption) ?_
          rotate_left
          · intro w hSw
            (try dsimp only at hSw)
            go_simp
            try (with_reducible rfl)
          simp only [Act.put, List.getElem_toArray, List.getElem_cons_succ, List.getElem_cons_zero, List.setIfInBounds_toArray, List.set_cons_zero, List.set_cons_succ]
          refine wpAnyH_take (i := 9) (v := ?_) rfl (by kernel_rfl) (by kernel_rfl) (by kernel_rfl) (fun _ _ _ h => h) (Or.inl ⟨by rfl, ?_⟩) (by assumption) ?_
          rotate_left
          · intro w hSw
            (try dsimp only at hSw)
            go_simp
            try (with_reducible rfl)
          simp only [Act.put, List.getElem_toArray, List.getElem_cons_succ, List.getElem_cons_zero, List.setIfInBounds_toArray, List.set_cons_zero, List.set_cons_succ]
          refine wpAnyH_take (i := 10) (v := ?_) rfl (by kernel_rfl) (by kernel_rfl) (by kernel_rfl) (fun _ _ _ h => h) (Or.inl ⟨by rfl, ?_⟩) (by assumption) ?_
          rotate_left
          · intro w hSw
            (try dsimp only at hSw)
            go_simp
            try (with_reducible rfl)
          simp only [Act.put, List.getElem_toArray, List.getElem_cons_succ, List.getElem_cons_zero, List.setIfInBounds_toArray, List.set_cons_zero, List.set_cons_succ]
          refine wpAnyH_take (i := 11) (v := ?_) rfl (by kernel_rfl) (by kernel_rfl) (by kernel_rfl) (fun _ _ _ h => h) (Or.inl ⟨by rfl, ?_⟩) (by assumption) ?_
          rotate_left
          · intro w hSw
            (try dsimp only at hSw)
            go_simp
            try (with_reducible rfl)
          simp only [Act.put, List.getElem_toArray, List.getElem_cons_succ, List.getElem_cons_zero, List.setIfInBounds_toArray, List.set_cons_zero, List.set_cons_succ]
          refine wpAnyH_take (i := 12) (v := ?_) rfl (by kernel_rfl) (by kernel_rfl) (by kernel_rfl) (fun _ _ _ h => h) (Or.inl ⟨by rfl, ?_⟩) (by assumption) ?_
          rotate_left
          · intro w hSw
            (try dsimp only at hSw)
            go_simp
            try (with_reducible rfl)
          simp only [Act.put, List.getElem_toArray, List.getElem_cons_succ, List.getElem_cons_zero, List.setIfInBounds_toArray, List.set_cons_zero, List.set_cons_succ]
          refine wpAnyH_take (i := 13) (v := ?_) rfl (by kernel_rfl) (by kernel_rfl) (by kernel_rfl) (fun _ _ _ h => h) (Or.inl ⟨by rfl, ?_⟩) (by assumption) ?_
          rotate_left
          · intro w hSw
            (try dsimp only at hSw)
            go_simp
            try (with_reducible rfl)
          simp only [Act.put, List.getElem_toArray, List.getElem_cons_succ, List.getElem_cons_zero, List.setIfInBounds_toArray, List.set_cons_zero, List.set_cons_succ]
          refine wpAnyH_take (i := 14) (v := ?_) rfl (by kernel_rfl) (by kernel_rfl) (by kernel_rfl) (fun _ _ _ h => h) (Or.inl ⟨by rfl, ?_⟩) (by assumption) ?_
          rotate_left
          · intro w hSw
            (try dsimp only at hSw)
            go_simp
            try (with_reducible rfl)
          simp only [Act.put, List.getElem_toArray, List.getElem_cons_succ, List.getElem_cons_zero, List.setIfInBounds_toArray, List.set_cons_zero, List.set_cons_succ]
          refine wpAnyH_take (i := 15) (v := ?_) rfl (by kernel_rfl) (by kernel_rfl) (by kernel_rfl) (fun _ _ _ h => h) (Or.inl ⟨by rfl, ?_⟩) (by assumption) ?_
          rotate_left
          · intro w hSw
            (try dsimp only at hSw)
            go_simp
            try (with_reducible rfl)
          simp only [Act.put, List.getElem_toArray, List.getElem_cons_succ, List.getElem_cons_zero, List.setIfInBounds_toArray, List.set_cons_zero, List.set_cons_succ]
          refine wpAnyH_take (i := 16) (v := ?_) rfl (by kernel_rfl) (by kernel_rfl) (by kernel_rfl) (fun _ _ _ h => h) (Or.inl ⟨by rfl, ?_⟩) (by assumption) ?_
          rotate_left
          · intro w hSw
            (try dsimp only at hSw)
            go_simp
            try (with_reducible rfl)
          simp only [Act.put, List.getElem_toArray, List.getElem_cons_succ, List.getElem_cons_zero, List.setIfInBounds_toArray, List.set_cons_zero, List.set_cons_succ]
          refine wpAnyH_ready (rs := [17]) (by kernel_rfl) (by simp) ?_
          refine AllReadyH.cons rfl (fun K hK => ?_) AllReadyH.nil
          go_simp
          go_at_call 18
          refine (one_any _ _).mono ?_
          rintro e w' ⟨rfl, rfl⟩
          refine hK.out _ _ ?_ (fun hHeld => ?_)
          · exact KEEP _ (bel_drew (Below.refl _ _))
          clear hK K
          refine wpAnyH_take (i := 18) (v := ?_) rfl (by kernel_rfl) (by kernel_rfl) (by kernel_rfl) (fun _ _ _ h => h) (Or.inl ⟨by rfl, ?_⟩) (by assumption) ?_
          rotate_left
          · intro w hSw
            (try dsimp only at hSw)
            go_simp
            try (with_reducible rfl)
          simp only [Act.put, List.getElem_toArray, List.getElem_cons_succ, List.getElem_cons_zero, List.setIfInBounds_toArray, List.set_cons_zero, List.set_cons_succ]
          refine wpAnyH_take (i := 19) (v := ?_) rfl (by kernel_rfl) (by kernel_rfl) (by kernel_rfl) (fun _ _ _ h => h) (Or.inl ⟨by rfl, ?_⟩) (by assumption) ?_
          rotate_left
          · intro w hSw
            (try dsimp only at hSw)
            go_simp
            try (with_reducible rfl)
          simp only [Act.put, List.getElem_toArray, List.getElem_cons_succ, List.getElem_cons_zero, List.setIfInBounds_toArray, List.set_cons_zero, List.set_cons_succ]
          refine wpAnyH_take (i := 20) (v := ?_) rfl (by kernel_rfl) (by kernel_rfl) (by kernel_rfl) (fun _ _ _ h => h) (Or.inl ⟨by rfl, ?_⟩) (by assumption) ?_
          rotate_left
          · intro w hSw
            (try dsimp only at hSw)
            go_simp
            try (with_reducible rfl)
          simp only [Act.put, List.getElem_toArray, List.getElem_cons_succ, List.getElem_cons_zero, List.setIfInBounds_toArray, List.set_cons_zero, List.set_cons_succ]
          refine wpAnyH_take (i := 21) (v := ?_) rfl (by kernel_rfl) (by kernel_rfl) (by kernel_rfl) (fun _ _ _ h => h) (Or.inl ⟨by rfl, ?_⟩) (by assumption) ?_
          rotate_left
          · intro w hSw
            (try dsimp only at hSw)
            go_simp
            try (with_reducible rfl)
          simp only [Act.put, List.getElem_toArray, List.getElem_cons_succ, List.getElem_cons_zero, List.setIfInBounds_toArray, List.set_cons_zero, List.set_cons_succ]
          refine wpAnyH_take (i := 22) (v := ?_) rfl (by kernel_rfl) (by kernel_rfl) (by kernel_rfl) (fun _ _ _ h => h) (Or.inl ⟨by rfl, ?_⟩) (by assumption) ?_
          rotate_left
          · intro w hSw
            (try dsimp only at hSw)
            go_simp
            try (with_reducible rfl)
          simp only [Act.put, List.getElem_toArray, List.getElem_cons_succ, List.getElem_cons_zero, List.setIfInBounds_toArray, List.set_cons_zero, List.set_cons_succ]
          refine wpAnyH_ready (rs := [23]) (by kernel_rfl) (by simp) ?_
          refine AllReadyH.cons rfl (fun K hK => ?_) AllReadyH.nil
          go_simp
          go_at_call 18
          refine (one_any _ _).mono ?_
          rintro e w' ⟨rfl, rfl⟩
          refine hK.out _ _ ?_ (fun hHeld => ?_)
          · exact KEEP _ (bel_drew (Below.refl _ _))
          clear hK K
          refine wpAnyH_take (i := 24) (v := ?_) rfl (by kernel_rfl) (by kernel_rfl) (by kernel_rfl) (fun _ _ _ h => h) (Or.inl ⟨by rfl, ?_⟩) (by assumption) ?_
          rotate_left
          · intro w hSw
            (try dsimp only at hSw)
            go_simp
            try (with_reducible rfl)
          simp only [Act.put, List.getElem_toArray, List.getElem_cons_succ, List.getElem_cons_zero, List.setIfInBounds_toArray, List.set_cons_zero, List.set_cons_succ]
          refine wpAnyH_take (i := 25) (v := ?_) rfl (by kernel_rfl) (by kernel_rfl) (by kernel_rfl) (fun _ _ _ h => h) (Or.inl ⟨by rfl, ?_⟩) (by assumption) ?_
          rotate_left
          · intro w hSw
            (try dsimp only at hSw)
            go_simp
            try (with_reducible rfl)
          simp only [Act.put, List.getElem_toArray, List.getElem_cons_succ, List.getElem_cons_zero, List.setIfInBounds_toArray, List.set_cons_zero, List.set_cons_succ]
          refine wpAnyH_take (i := 26) (v := ?_) rfl (by kernel_rfl) (by kernel_rfl) (by kernel_rfl) (fun _ _ _ h => h) (Or.inl ⟨by rfl, ?_⟩) (by assumption) ?_
          rotate_left
          · intro w hSw
            (try dsimp only at hSw)
            go_simp
            try (with_reducible rfl)
          simp only [Act.put, List.getElem_toArray, List.getElem_cons_succ, List.getElem_cons_zero, List.setIfInBounds_toArray, List.set_cons_zero, List.set_cons_succ]
          refine wpAnyH_take (i := 27) (v := ?_) rfl (by kernel_rfl) (by kernel_rfl) (by kernel_rfl) (fun _ _ _ h => h) (Or.inl ⟨by rfl, ?_⟩) (by assumption) ?_
          rotate_left
          · intro w hSw
            (try dsimp only at hSw)
            go_simp
            try (with_reducible rfl)
          simp only [Act.put, List.getElem_toArray, List.getElem_cons_succ, List.getElem_cons_zero, List.setIfInBounds_toArray, List.set_cons_zero, List.set_cons_succ]
          refine wpAnyH_take (i := 28) (v := ?_) rfl (by kernel_rfl) (by kernel_rfl) (by kernel_rfl) (fun _ _ _ h => h) (Or.inl ⟨by rfl, ?_⟩) (by assumption) ?_
          rotate_left
          · intro w hSw
            (try dsimp only at hSw)
            go_simp
            try (with_reducible rfl)
          simp only [Act.put, List.getElem_toArray, List.getElem_cons_succ, List.getElem_cons_zero, List.setIfInBounds_toArray, List.set_cons_zero, List.set_cons_succ]
          refine wpAnyH_take (i := 30) (v := ?_) rfl (by kernel_rfl) (by kernel_rfl) (by kernel_rfl) (fun _ _ _ h => h) (Or.inl ⟨by rfl, ?_⟩) (by assumption) ?_
          rotate_left
          · intro w hSw
            (try dsimp only at hSw)
            go_simp
            try (with_reducible rfl)
          simp only [Act.put, List.getElem_toArray, List.getElem_cons_succ, List.getElem_cons_zero, List.setIfInBounds_toArray, List.set_cons_zero, List.set_cons_succ]
          refine wpAnyH_take (i := 32) (v := ?_) rfl (by kernel_rfl) (by kernel_rfl) (by kernel_rfl) (fun _ _ _ h => h) (Or.inl ⟨by rfl, ?_⟩) (by assumption) ?_
          rotate_left
          · intro w hSw
            (try dsimp only at hSw)
            go_simp
            try (with_reducible rfl)
          simp only [Act.put, List.getElem_toArray, List.getElem_cons_succ, List.getElem_cons_zero, List.setIfInBounds_toArray, List.set_cons_zero, List.set_cons_succ]
          refine wpAnyH_ready (rs := [29]) (by kernel_rfl) (by simp) ?_
          refine AllReadyH.cons rfl (fun K hK => ?_) AllReadyH.nil
          go_simp
          go_at_call 19
          refine (cmp2 ah al bh bl h1 h2 h3 h4 _).mono ?_
          rintro e u1 ⟨rfl, hc1⟩
          have Y1 : Below w4.heap.size w4 u1 := bel_trans (bel_drew (Below.refl _ _)) hc1
          clear hc1
          refine hK.out _ _ ?_ (fun hHeld => ?_)
          · exact KEEP _ (Y1)
          clear hK K
          refine wpAnyH_ready (rs := [31]) (by kernel_rfl) (by simp) ?_
          refine AllReadyH.cons rfl (fun K hK => ?_) AllReadyH.nil
          go_simp
          go_at_call 15
          refine (of_any ah al h1 h2 _).mono ?_
          rintro e u2 ⟨xs, X, cx, ⟨hvx, hlx⟩, rfl, hcx, hmx, hrx, hc2⟩
          rw [hlx]
          have HVX := Lib.hid hvx
          have HLX := Lib.hid hlx
          have Y2 : Below w4.heap.size w4 u2 := bel_trans Y1 hc2
          clear hvx hlx hc2
          refine hK.out _ _ ?_ (fun hHeld => ?_)
          · exact KEEP _ (Y2)
          clear hK K
          refine wpAnyH_ready (rs := [33]) (by kernel_rfl) (by simp) ?_
          refine AllReadyH.cons rfl (fun K hK => ?_) AllReadyH.nil
          go_simp
          go_at_call 15
          refine (of_any bh bl h3 h4 _).mono ?_
          rintro e u3 ⟨ys, Y, cy, ⟨hvy, hly⟩, rfl, hcy, hmy, hry, hc3⟩
          rw [hly]
          have HVY := Lib.hid hvy
          have HLY := Lib.hid hly
          have Y3 : Below w4.heap.size w4 u3 := bel_trans Y2 hc3
          have hrx3 := hrx.below hc3 (Nat.le_refl _)
          clear hvy hly hc3 hrx
          refine hK.out _ _ ?_ (fun hHeld => ?_)
          · exact KEEP _ (Y3)
          clear hK K
          refine wpAnyH_ready (rs := [34]) (by kernel_rfl) (by simp) ?_
          refine AllReadyH.cons rfl (fun K hK => ?_) AllReadyH.nil
          go_simp
          go_at_call 20
          refine (rcmp_any X Y 128 128 cx cy xs ys _ HLX.out HLY.out hrx3 hry (by decide) (by decide)).mono ?_
          rw [HVX.out, HVY.out]
          rintro e u4 ⟨rfl, rfl⟩
          clear hrx3 hry HVX HLX HVY HLY
          refine hK.out _ _ ?_ (fun hHeld => ?_)
          · exact KEEP _ (Y3)
          clear hK K
          refine wpAnyH_take (i := 35) (v := ?_) rfl (by kernel_rfl) (by kernel_rfl) (by kernel_rfl) (fun _ _ _ h => h) (Or.inl ⟨by rfl, ?_⟩) (by assumption) ?_
          rotate_left
          · intro w hSw
            (try dsimp only at hSw)
            go_simp
            try (with_reducible rfl)
          simp only [Act.put, List.getElem_toArray, List.getElem_cons_succ, List.getElem_cons_zero, List.setIfInBounds_toArray, List.set_cons_zero, List.set_cons_succ]
          refine wpAnyH_take (i := 36) (v := ?_) rfl (by kernel_rfl) (by kernel_rfl) (by kernel_rfl) (fun _ _ _ h => h) (Or.inl ⟨by rfl, ?_⟩) (by assumption) ?_
          rotate_left
          · intro w hSw
            (try dsimp only at hSw)
            go_simp
            try (with_reducible rfl)
          simp only [Act.put, List.getElem_toArray, List.getElem_cons_succ, List.getElem_cons_zero, List.setIfInBounds_toArray, List.set_cons_zero, List.set_cons_succ]
          refine wpAnyH_take (i := 37) (v := ?_) rfl (by kernel_rfl) (by kernel_rfl) (by kernel_rfl) (fun _ _ _ h => h) (Or.inl ⟨by rfl, ?_⟩) (by assumption) ?_
          rotate_left
          · intro w hSw
            (try dsimp only at hSw)
            go_simp
            try (with_reducible rfl)
          simp only [Act.put, List.getElem_toArray, List.getElem_cons_succ, List.getElem_cons_zero, List.setIfInBounds_toArray, List.set_cons_zero, List.set_cons_succ]
          refine wpAnyH_take (i := 38) (v := ?_) rfl (by kernel_rfl) (by kernel_rfl) (by kernel_rfl) (fun _ _ _ h => h) (Or.inl ⟨by rfl, ?_⟩) (by assumption) ?_
          rotate_left
          · intro w hSw
            (try dsimp only at hSw)
            go_simp
            try (with_reducible rfl)
          simp only [Act.put, List.getElem_toArray, List.getElem_cons_succ, List.getElem_cons_zero, List.setIfInBounds_toArray, List.set_cons_zero, List.set_cons_succ]
          refine wpAnyH_take (i := 40) (v := ?_) rfl (by kernel_rfl) (by kernel_rfl) (by kernel_rfl) (fun _ _ _ h => h) (Or.inl ⟨by rfl, ?_⟩) (by assumption) ?_
          rotate_left
          · intro w hSw
            (try dsimp only at hSw)
            go_simp
            try (with_reducible rfl)
          simp only [Act.put, List.getElem_toArray, List.getElem_cons_succ, List.getElem_cons_zero, List.setIfInBounds_toArray, List.set_cons_zero, List.set_cons_succ]
          refine wpAnyH_ready (rs := [39]) (by kernel_rfl) (by simp) ?_
          refine AllReadyH.cons rfl (fun K hK => ?_) AllReadyH.nil
          go_simp
          go_at_call 21
          refine (len2 ah al h1 h2 _).mono ?_
          rintro e u5 ⟨rfl, hc5⟩
          have Y5 : Below w4.heap.size w4 u5 := bel_trans Y3 hc5
          clear hc5
          refine hK.out _ _ ?_ (fun hHeld => ?_)
          · exact KEEP _ (Y5)
          clear hK K
          refine wpAnyH_ready (rs := [41]) (by kernel_rfl) (by simp) ?_
          refine AllReadyH.cons rfl (fun K hK => ?_) AllReadyH.nil
          go_simp
          go_at_call 15
          refine (of_any ah al h1 h2 _).mono ?_
          rintro e u6 ⟨us, U, cu, ⟨hvu, hlu⟩, rfl, hcu, hmu, hru, hc6⟩
          rw [hlu]
          have HVU := Lib.hid hvu
          have HLU := Lib.hid hlu
          have Y6 : Below w4.heap.size w4 u6 := bel_trans Y5 hc6
          clear hvu hlu hc6
          refine hK.out _ _ ?_ (fun hHeld => ?_)
          · exact KEEP _ (Y6)
          clear hK K
          refine wpAnyH_ready (rs := [42]) (by kernel_rfl) (by simp) ?_
          refine AllReadyH.cons rfl (fun K hK => ?_) AllReadyH.nil
          go_simp
          go_at_call 22
          refine (rlen_any U 128 cu us _ HLU.out hru (by decide)).mono ?_
          rw [HVU.out]
          rintro e u7 ⟨rfl, rfl⟩
          clear hru HVU HLU
          refine hK.out _ _ ?_ (fun hHeld => ?_)
          · exact KEEP _ (Y6)
          clear hK K
          refine wpAnyH_take (i := 43) (v := ?_) rfl (by kernel_rfl) (by kernel_rfl) (by kernel_rfl) (fun _ _ _ h => h) (Or.inl ⟨by rfl, ?_⟩) (by assumption) ?_
          rotate_left
          · intro w hSw
            (try dsimp only at hSw)
            go_simp
            try (with_reducible rfl)
          simp only [Act.put, List.getElem_toArray, List.getElem_cons_succ, List.getElem_cons_zero, List.setIfInBounds_toArray, List.set_cons_zero, List.set_cons_succ]
          refine wpAnyH_take (i := 44) (v := ?_) rfl (by kernel_rfl) (by kernel_rfl) (by kernel_rfl) (fun _ _ _ h => h) (Or.inl ⟨by rfl, ?_⟩) (by assumption) ?_
          rotate_left
          · intro w hSw
            (try dsimp only at hSw)
            go_simp
            try (with_reducible rfl)
          simp only [Act.put, List.getElem_toArray, List.getElem_cons_succ, List.getElem_cons_zero, List.setIfInBounds_toArray, List.set_cons_zero, List.set_cons_succ]
          refine wpAnyH_take (i := 45) (v := ?_) rfl (by kernel_rfl) (by kernel_rfl) (by kernel_rfl) (fun _ _ _ h => h) (Or.inl ⟨by rfl, ?_⟩) (by assumption) ?_
          rotate_left
          · intro w hSw
            (try dsimp only at hSw)
            go_simp
            try (with_reducible rfl)
          simp only [Act.put, List.getElem_toArray, List.getElem_cons_succ, List.getElem_cons_zero, List.setIfInBounds_toArray, List.set_cons_zero, List.set_cons_succ]
          refine wpAnyH_done (by kernel_rfl) ?_ _
          go_wp2_with fail
          go_ret
          exact ⟨rfl, bel_trans HW4.out Y6⟩
end Go.Proofs.Ytbpgallhlfjgjaa
