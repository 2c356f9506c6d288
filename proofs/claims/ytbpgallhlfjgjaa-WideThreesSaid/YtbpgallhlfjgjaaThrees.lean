/-
  The walk of WideThrees: for every two numbers of three words and every list of numbers of two words it answers true. Conditions: the fields are words of 64 bits.
-/
import Derived.Test.YtbpgallhlfjgjaaAdds
import Derived.Test.YtbpgallhlfjgjaaShifts
namespace Go.Proofs.Ytbpgallhlfjgjaa
open Go.RowKit

theorem threes_facts {ah am al bh bm bl sh sm sl c dh dm dl b : Int} {zs ds : List Bool} {lb : Bool} (w1 : Word sh) (w2 : Word sm) (w3 : Word sl) (w4 : Word dh) (w5 : Word dm) (w6 : Word dl) (_c0 : 0 ≤ c) (_c1 : c ≤ 1) (_d0 : 0 ≤ b) (_d1 : b ≤ 1)
    (hs : V3 sh sm sl + c * 6277101735386680763835789423207666416102355444464034512896 = V3 ah am al + V3 bh bm bl) (hd : V3 dh dm dl - b * 6277101735386680763835789423207666416102355444464034512896 = V3 ah am al - V3 bh bm bl) (hz : val zs = V3 ah am al + V3 bh bm bl) (l1 : 192 ≤ zs.length) (l2 : zs.length ≤ 193)
    (hv : val ds - oneI lb * 6277101735386680763835789423207666416102355444464034512896 = V3 ah am al - V3 bh bm bl) (hl : ds.length = 192) :
    decide (V3 sh sm sl = val (zs.take 192)) = true ∧ decide (V3 dh dm dl = val ds) = true ∧ (b == oneI lb) = true ∧ (c == oneI (decide (192 < zs.length) && zs.getD 192 false)) = true := by
  have vs := V3_pos w1 w2 w3
  have vd := V3_pos w4 w5 w6
  have e192 : (2 : Int) ^ 192 = 6277101735386680763835789423207666416102355444464034512896 := by decide
  have dr := val_drop zs 192 l1
  rw [e192, hz, ← hs] at dr
  have n0 := val_nonneg ds
  have n1 := val_lt ds
  rw [hl, e192] at n1
  have ob : 0 ≤ oneI lb ∧ oneI lb ≤ 1 := by cases lb <;> decide
  have hc : c = oneI (decide (192 < zs.length) && zs.getD 192 false) := by
    have e1 : val (zs.drop 192) = c := by rw [dr.1]; omega
    rw [← e1]
    rcases Nat.eq_or_lt_of_le l1 with h | h
    · rw [List.drop_of_length_le (by omega), ← h]
      simp [val, oneI]
    · have e2 : zs.drop 192 = [zs.getD 192 false] := by
        rw [List.drop_eq_getElem_cons (by omega), List.drop_of_length_le (by omega), List.getD_eq_getElem?_getD, List.getElem?_eq_getElem (by omega)]
        rfl
      rw [e2, show decide (192 < zs.length) = true by simp; omega]
      cases zs.getD 192 false <;> rfl
  refine ⟨by rw [decide_eq_true_eq, dr.2]; omega, by rw [decide_eq_true_eq]; omega, by rw [beq_iff_eq]; omega, by rw [beq_iff_eq]; exact hc⟩

theorem val_min {qs : List Bool} {z : Nat} (hz : qs.length = z) : val (qs.take (min z 192)) = val qs % 6277101735386680763835789423207666416102355444464034512896 := by
  have e192 : (2 : Int) ^ 192 = 6277101735386680763835789423207666416102355444464034512896 := by decide
  rw [← e192]
  rcases Nat.lt_or_ge z 192 with h | h
  · rw [Nat.min_eq_left (by omega), List.take_of_length_le (by omega)]
    have h1 := val_lt qs
    have h2 := pow_mono qs.length 192 (by omega)
    rw [Int.emod_eq_of_lt (val_nonneg qs) (by omega)]
  · rw [Nat.min_eq_right h, (val_drop qs 192 (by omega)).2]

theorem keep6 {W w' : World} {g h : Nat} {a b c d e f : Int} (K0 : Blk W g 45 #[.int .u64 a, .int .u64 b, .int .u64 c]) (K1 : Blk W h 45 #[.int .u64 d, .int .u64 e, .int .u64 f]) (hx : Below W.heap.size W w') :
    w'.cell? ⟨g, 0, none⟩ = some (.int .u64 a) ∧ w'.cell? ⟨g, 1, none⟩ = some (.int .u64 b) ∧ w'.cell? ⟨g, 2, none⟩ = some (.int .u64 c) ∧ w'.cell? ⟨h, 0, none⟩ = some (.int .u64 d) ∧ w'.cell? ⟨h, 1, none⟩ = some (.int .u64 e) ∧ w'.cell? ⟨h, 2, none⟩ = some (.int .u64 f) :=
  ⟨(K0.below hx K0.lt).cell 0, (K0.below hx K0.lt).cell 1, (K0.below hx K0.lt).cell 2, (K1.below hx K1.lt).cell 0, (K1.below hx K1.lt).cell 1, (K1.below hx K1.lt).cell 2⟩

theorem threes_long (ah am al bh bm bl : Int) (A : Option Addr) (n c : Nat) (w : World) (hn : 300 < n) :
    Calls Try.prog 9 #[.agg #[.int .u64 ah, .int .u64 am, .int .u64 al], .agg #[.int .u64 bh, .int .u64 bm, .int .u64 bl], .slice A n c] w fun e w' => e = .returned (.bool true) ∧ Below w.heap.size w w' := by
  have hn' : (300 : Int) < (n : Int) := by omega
  go_enter Try.func9, Try.ntmps9
  go_wp2_with fail
  refine (works1 _).mono ?_
  rintro e w1 ⟨rfl, hb1⟩
  go_wp2_with fail
  go_ret
  exact ⟨rfl, bel_trans (bel_alloc (bel_alloc (Below.refl w.heap.size w) _) _) hb1⟩

set_option maxRecDepth 100000 in
set_option maxHeartbeats 12800000 in
theorem threes_short (ah am al bh bm bl : Int) (h1 : Word ah) (h2 : Word am) (h3 : Word al) (h4 : Word bh) (h5 : Word bm) (h6 : Word bl) (A : Option Addr) (n c b0 off0 : Nat) (ps : List (Int × Int)) (w : World) (hn : n ≤ 300) (hp : ps.length = n)
    (hA : 0 < n → A = some ⟨b0, off0, none⟩) (hb0 : 0 < n → b0 < w.heap.size) (hw : ∀ p ∈ ps, Word p.1 ∧ Word p.2)
    (hc : ∀ (i : Nat) (p : Int × Int), ps[i]? = some p → w.cell? ⟨b0, off0 + i * 2, none⟩ = some (.int .u64 p.1) ∧ w.cell? ⟨b0, off0 + i * 2 + 1, none⟩ = some (.int .u64 p.2)) :
    Calls Try.prog 9 #[.agg #[.int .u64 ah, .int .u64 am, .int .u64 al], .agg #[.int .u64 bh, .int .u64 bm, .int .u64 bl], .slice A n c] w fun e w' => e = .returned (.bool true) ∧ Below w.heap.size w w' := by
  have HP := Lib.hid hp
  have HA := Lib.hid hA
  have HB0 := Lib.hid hb0
  have HW := Lib.hid hw
  have HC := Lib.hid hc
  clear hp hA hb0 hw hc
  have hn' : ¬ (300 : Int) < (n : Int) := by omega
  go_enter Try.func9, Try.ntmps9
  go_wp2_with fail
  refine (works1 _).mono ?_
  rintro e w1 ⟨rfl, hb1⟩
  have K0 := (Blk.new w 45 #[.int .u64 ah, .int .u64 am, .int .u64 al]).next hb1
  have K1 : Blk w1 (w.heap.size + 1) 45 #[.int .u64 bh, .int .u64 bm, .int .u64 bl] := by have := Blk.made hb1; simpa using this
  have D1 := Lib.hid (bel_trans (bel_alloc (bel_alloc (Below.refl w.heap.size w) _) _) hb1)
  clear hb1
  have a0 : w1.cell? ⟨w.heap.size, 0, none⟩ = some (.int .u64 ah) := K0.cell 0
  have a1 : w1.cell? ⟨w.heap.size, 1, none⟩ = some (.int .u64 am) := K0.cell 1
  have a2 : w1.cell? ⟨w.heap.size, 2, none⟩ = some (.int .u64 al) := K0.cell 2
  have b0 : w1.cell? ⟨w.heap.size + 1, 0, none⟩ = some (.int .u64 bh) := K1.cell 0
  have b1 : w1.cell? ⟨w.heap.size + 1, 1, none⟩ = some (.int .u64 bm) := K1.cell 1
  have b2 : w1.cell? ⟨w.heap.size + 1, 2, none⟩ = some (.int .u64 bl) := K1.cell 2
  go_wp2_with fail
  refine (add3 ah am al bh bm bl h1 h2 h3 h4 h5 h6 _).mono ?_
  rintro e w2 ⟨v, ⟨sh, sm, sl, cc, ws1, ws2, ws3, c0, c1, hs, rfl⟩, rfl, hb2⟩
  have HS := Lib.hid hs
  have A0 := K0.below hb2 K0.lt
  have A1 := K1.below hb2 K1.lt
  have D2 := Lib.hid (bel_trans D1.out hb2)
  clear hs hb2 K0 K1 D1 a0 a1 a2 b0 b1 b2
  have a0 : ∀ o, (w2.alloc o).cell? ⟨w.heap.size, 0, none⟩ = some (.int .u64 ah) := fun o => (A0.alloc o).cell 0
  have a1 : ∀ o, (w2.alloc o).cell? ⟨w.heap.size, 1, none⟩ = some (.int .u64 am) := fun o => (A0.alloc o).cell 1
  have a2 : ∀ o, (w2.alloc o).cell? ⟨w.heap.size, 2, none⟩ = some (.int .u64 al) := fun o => (A0.alloc o).cell 2
  have b0 : ∀ o, (w2.alloc o).cell? ⟨w.heap.size + 1, 0, none⟩ = some (.int .u64 bh) := fun o => (A1.alloc o).cell 0
  have b1 : ∀ o, (w2.alloc o).cell? ⟨w.heap.size + 1, 1, none⟩ = some (.int .u64 bm) := fun o => (A1.alloc o).cell 1
  have b2 : ∀ o, (w2.alloc o).cell? ⟨w.heap.size + 1, 2, none⟩ = some (.int .u64 bl) := fun o => (A1.alloc o).cell 2
  go_wp2_with fail
  refine (sub3 ah am al bh bm bl h1 h2 h3 h4 h5 h6 _).mono ?_
  rintro e w3 ⟨v, ⟨dh, dm, dl, bb, wd1, wd2, wd3, d0, d1, hd, rfl⟩, rfl, hb3⟩
  have HD := Lib.hid hd
  have B0 := A0.next hb3
  have B1 := A1.next hb3
  have B2 := Blk.made hb3
  have D3 := Lib.hid (bel_trans (bel_alloc D2.out _) hb3)
  clear hd hb3 A0 A1 D2 a0 a1 a2 b0 b1 b2
  have C0 := B0.alloc (.cells #[.int .u64 dh, .int .u64 dm, .int .u64 dl] 45)
  have C1 := B1.alloc (.cells #[.int .u64 dh, .int .u64 dm, .int .u64 dl] 45)
  have C2 := B2.alloc (.cells #[.int .u64 dh, .int .u64 dm, .int .u64 dl] 45)
  have C3 := Blk.new w3 45 #[.int .u64 dh, .int .u64 dm, .int .u64 dl]
  have D4 := Lib.hid (bel_alloc D3.out (.cells #[.int .u64 dh, .int .u64 dm, .int .u64 dl] 45))
  clear B0 B1 B2 D3
  go_upto_region 8 with fail
  generalize w3.alloc (.cells #[.int .u64 dh, .int .u64 dm, .int .u64 dl] 45) = W at *
  go_cut [12] (fun s12 wx => ∃ (zs : List Bool) (A : Option Addr) (cz : Nat), s12 = .slice A zs.length cz ∧ zs.length ≤ cz ∧ val zs = V3 ah am al + V3 bh bm bl ∧ 192 ≤ zs.length ∧ zs.length ≤ 193 ∧ Rd wx A zs ∧ Hid (Below W.heap.size W wx))
  case first =>
    go_region_held3 (fun w' => w'.cell? ⟨w.heap.size, 0, none⟩ = some (.int .u64 ah) ∧ w'.cell? ⟨w.heap.size, 1, none⟩ = some (.int .u64 am) ∧ w'.cell? ⟨w.heap.size, 2, none⟩ = some (.int .u64 al) ∧ w'.cell? ⟨w.heap.size + 1, 0, none⟩ = some (.int .u64 bh) ∧ w'.cell? ⟨w.heap.size + 1, 1, none⟩ = some (.int .u64 bm) ∧ w'.cell? ⟨w.heap.size + 1, 2, none⟩ = some (.int .u64 bl))
      ((refine keep6 C0 C1 ?_; repeat (first | exact Below.refl _ _ | exact X3 | exact X2 | exact X1 | refine bel_drew ?_)))
      (first
        | (go_at_call_of 31 (Value.agg #[.int .u64 ah, .int .u64 am, .int .u64 al]); refine (of3_any ah am al h1 h2 h3 _).mono ?_; rintro e w4 ⟨xs, A1, c1, ⟨hv1, hl1⟩, rfl, hc1, hm1, hr1, hb4⟩; rw [hl1]; have HV1 := Lib.hid hv1; have HL1 := Lib.hid hl1; clear hv1 hl1; have X1 : Below W.heap.size W w4 := bel_trans (bel_drew (Below.refl _ _)) hb4)
        | (go_at_call_of 31 (Value.agg #[.int .u64 bh, .int .u64 bm, .int .u64 bl]); refine (of3_any bh bm bl h4 h5 h6 _).mono ?_; rintro e w5 ⟨ys, A2, c2, ⟨hv2, hl2⟩, rfl, hc2, hm2, hr2, hb5⟩; rw [hl2]; have HV2 := Lib.hid hv2; have HL2 := Lib.hid hl2; clear hv2 hl2; have X2 : Below W.heap.size W w5 := bel_trans X1 hb5; have hr3 := hr1.below hb5 (Nat.le_refl _))
        | (go_at_call 14; refine (radd_any A1 A2 192 192 c1 c2 xs ys _ HL1.out HL2.out hr3 hr2 (by decide) (by decide)).mono ?_; rintro e w6 ⟨zs, A3, c3, hs3, rfl, hc3, hm3, hr6, hb6⟩; have X3 : Below W.heap.size W w6 := bel_trans X2 hb6))
    have fin := hs3.1
    rw [HV1.out, HV2.out] at fin
    have l1 := hs3.2.1
    have l2 := hs3.2.2
    rw [HL1.out, HL2.out] at l1 l2
    have l3 : 192 ≤ zs.length := by omega
    have l4 : zs.length ≤ 193 := by omega
    have FIN := Lib.hid fin
    clear fin l1 l2 hs3
    go_wp2_with fail
    go_meet
    exact ⟨zs, A3, c3, rfl, hc3, FIN.out, l3, l4, hr6, X3⟩
  case rest =>
    obtain ⟨zs, Az, cz, rfl, hcz, hval, hl1, hl2, hrz, HX⟩ := hcut
    have HVZ := Lib.hid hval
    clear hval
    have E0 := C0.below HX.out C0.lt
    have E1 := C1.below HX.out C1.lt
    go_upto_region 9 with fail
    go_cut [13, 14] (fun s13 s14 wx => ∃ (ds : List Bool) (A : Option Addr) (cd : Nat) (lb : Bool), s13 = .slice A ds.length cd ∧ s14 = .bool lb ∧ ds.length ≤ cd ∧ val ds - oneI lb * 6277101735386680763835789423207666416102355444464034512896 = V3 ah am al - V3 bh bm bl ∧ ds.length = 192 ∧ Rd wx A ds ∧ Hid (Below wc.heap.size wc wx))
    case first =>
      go_region_held3 (fun w' => w'.cell? ⟨w.heap.size, 0, none⟩ = some (.int .u64 ah) ∧ w'.cell? ⟨w.heap.size, 1, none⟩ = some (.int .u64 am) ∧ w'.cell? ⟨w.heap.size, 2, none⟩ = some (.int .u64 al) ∧ w'.cell? ⟨w.heap.size + 1, 0, none⟩ = some (.int .u64 bh) ∧ w'.cell? ⟨w.heap.size + 1, 1, none⟩ = some (.int .u64 bm) ∧ w'.cell? ⟨w.heap.size + 1, 2, none⟩ = some (.int .u64 bl))
        ((refine keep6 E0 E1 ?_; repeat (first | exact Below.refl _ _ | exact X3 | exact X2 | exact X1 | refine bel_drew ?_)))
        (first
          | (go_at_call_of 31 (Value.agg #[.int .u64 ah, .int .u64 am, .int .u64 al]); refine (of3_any ah am al h1 h2 h3 _).mono ?_; rintro e w4 ⟨xs, A1, c1, ⟨hv1, hl1⟩, rfl, hc1, hm1, hr1, hb4⟩; rw [hl1]; have HV1 := Lib.hid hv1; have HL1 := Lib.hid hl1; clear hv1 hl1; have X1 : Below wc.heap.size wc w4 := bel_trans (bel_drew (Below.refl _ _)) hb4)
          | (go_at_call_of 31 (Value.agg #[.int .u64 bh, .int .u64 bm, .int .u64 bl]); refine (of3_any bh bm bl h4 h5 h6 _).mono ?_; rintro e w5 ⟨ys, A2, c2, ⟨hv2, hl2⟩, rfl, hc2, hm2, hr2, hb5⟩; rw [hl2]; have HV2 := Lib.hid hv2; have HL2 := Lib.hid hl2; clear hv2 hl2; have X2 : Below wc.heap.size wc w5 := bel_trans X1 hb5; have hr3 := hr1.below hb5 (Nat.le_refl _))
          | (go_at_call 16; refine (rsub_any A1 A2 192 192 c1 c2 xs ys 192 _ HL1.out HL2.out hr3 hr2 (by decide) (by decide) (by decide) (by decide)).mono ?_; rintro e w6 ⟨ds, lb, A3, c3, hs3, rfl, hc3, hm3, hr6, hb6⟩; have X3 : Below wc.heap.size wc w6 := bel_trans X2 hb6))
      have fin := hs3.eq
      rw [show (192 : Int).toNat = 192 from rfl, List.take_of_length_le (by rw [HL1.out]; exact Nat.le_refl _), List.take_of_length_le (by rw [HL2.out]; exact Nat.le_refl _), HV1.out, HV2.out] at fin
      have FIN : Hid (val ds - oneI lb * 6277101735386680763835789423207666416102355444464034512896 = V3 ah am al - V3 bh bm bl) := by
        show _ = _
        rw [← fin]
        cases lb <;> simp [oneI]
      have l1 : ds.length = 192 := hs3.len
      have L1 := Lib.hid l1
      clear fin hs3 l1
      go_wp2_with fail
      go_meet
      exact ⟨ds, A3, c3, lb, rfl, rfl, hc3, FIN.out, L1.out, hr6, X3⟩
    case rest =>
      obtain ⟨ds, Ad, cd, lb, rfl, rfl, hcd, hvd, hld, hrd, HY⟩ := hcut
      have HZ := Lib.hid (bel_trans HX.out HY.out)
      have hrz2 := hrz.below HY.out (Nat.le_refl _)
      obtain ⟨fx, fy, fb, fc⟩ := threes_facts ws1 ws2 ws3 wd1 wd2 wd3 c0 c1 d0 d1 HS.out HD.out HVZ.out hl1 hl2 hvd hld
      have FX := Lib.hid fx
      have FY := Lib.hid fy
      have FB := Lib.hid fb
      have FC := Lib.hid fc
      have HLD := Lib.hid hld
      have F0 := C0.below HZ.out C0.lt
      have F1 := C1.below HZ.out C1.lt
      have F2 := C2.below HZ.out C2.lt
      have F3 := C3.below HZ.out C3.lt
      have HW2 := Lib.hid (D4.out.trans (HZ.out.mono D4.out.size))
      clear fx fy fb fc hvd hrz HX HY HZ C0 C1 C2 C3 E0 E1 D4 HS HD HVZ
      rw [hld]
      clear hld
      obtain ⟨g, off, rfl, hg, _⟩ := hrz2.at_ (i := 0) (by omega)
      go_wp2_with fail
      go_loopw [15, 16] (fun s15 s16 wr => ∃ (k z c5 : Nat) (qs : List Bool) (A5 : Option Addr), s16 = .int .i64 (k : Int) ∧ k ≤ n ∧ s15 = .slice A5 z c5 ∧ z ≤ c5 ∧ z ≤ 129 + k ∧ Hid (qs.length = z) ∧ Hid (val qs = sumL (ps.take k)) ∧ Rd wr A5 qs ∧ Hid (Below wc.heap.size wc wr)) (fun _ s16 _ => n - (intOf s16).toNat)
      case atStart => exact ⟨0, 0, 0, [], none, rfl, Nat.zero_le _, rfl, Nat.le_refl _, by omega, rfl, by show _ = _; simp [val, sumL], .inl rfl, Below.refl _ _⟩
      case round =>
        obtain ⟨k, z, c5, qs, A5, rfl, hk, rfl, hz1, hz2, HL, HV, hr5, HR⟩ := hrel
        by_cases hlt : k < n
        · have hlt' : k < ps.length := by rw [HP.out]; exact hlt
          have hpk : ps[k]? = some ps[k] := List.getElem?_eq_getElem hlt'
          have ht := List.take_succ_eq_append_getElem hlt'
          obtain ⟨wp1, wp2⟩ := HW.out _ (List.getElem_mem hlt')
          obtain ⟨cc1, cc2⟩ := HC.out k _ hpk
          have eA := HA.out (by omega)
          have hbw := HB0.out (by omega)
          generalize ps[k] = p at *
          obtain ⟨ph, pl⟩ := p
          have bel := HW2.out.trans (HR.out.mono HW2.out.size)
          have e1 : wr.cell? ⟨b0, off0 + k * 2, none⟩ = some (.int .u64 ph) := (bel.cell (p := ⟨b0, off0 + k * 2, none⟩) hbw).trans cc1
          have e2 : wr.cell? ⟨b0, off0 + k * 2 + 1, none⟩ = some (.int .u64 pl) := (bel.cell (p := ⟨b0, off0 + k * 2 + 1, none⟩) hbw).trans cc2
          have HT := Lib.hid ht
          have hki : (k : Int) < (n : Int) := by omega
          subst eA
          clear hpk cc1 cc2 ht bel hlt'
          go_wp2_with fail
          refine (of_any ph pl wp1 wp2 _).mono ?_
          rintro e w4 ⟨xs, X, cx, ⟨hvx, hlx⟩, rfl, hcx, hmx, hrx, hb4⟩
          rw [hlx]
          have HVX := Lib.hid hvx
          have HLX := Lib.hid hlx
          have hr54 := hr5.below hb4 (Nat.le_refl _)
          clear hvx hlx hr5
          go_wp2_with fail
          refine (radd_any A5 X z 128 c5 cx qs xs _ HL.out HLX.out hr54 hrx (by omega) (by decide)).mono ?_
          rintro e w5 ⟨ts, T, ct, hts, rfl, hct, hmt, hrt, hb5⟩
          have HV2 : Hid (val ts = sumL (ps.take (k + 1))) := by
            show _ = _
            rw [hts.1, HV.out, HVX.out, HT.out, sumL_snoc]
          have hl2 : ts.length ≤ 129 + (k + 1) := by
            have := hts.2.2
            rw [HL.out, HLX.out] at this
            omega
          have HR2 := Lib.hid (bel_trans (bel_trans HR.out hb4) hb5)
          clear hts hb4 hb5 HR HV HVX hr54 hrx e1 e2
          generalize htz : ts.length = tz at *
          have HTZ := Lib.hid htz
          clear htz
          go_wp2_with fail
          go_roundw
          case rel => exact ⟨k + 1, tz, ct, ts, T, by go_num, by omega, rfl, hct, hl2, HTZ, HV2, hrt, HR2⟩
          case measure => simp [intOf]; omega
        · have ek : k = n := by omega
          have htk : ps.take k = ps := List.take_of_length_le (by rw [HP.out]; omega)
          have HVQ : Hid (val qs = sumL ps) := by show _ = _; rw [HV.out, htk]
          clear HV htk
          have G0 := F0.below HR.out F0.lt
          have G1 := F1.below HR.out F1.lt
          have G2 := F2.below HR.out F2.lt
          have G3 := F3.below HR.out F3.lt
          have hrz3 := hrz2.below HR.out (Nat.le_refl _)
          have hrd3 := hrd.below HR.out (Nat.le_refl _)
          have HW3 := Lib.hid (bel_trans HW2.out HR.out)
          have HEK := Lib.hid ek
          clear ek HR F0 F1 F2 F3 hrz2 hrd HW2
          have s0 : wr.cell? ⟨w2.heap.size, 0, none⟩ = some (.int .u64 sh) := G2.cell 0
          have s1 : wr.cell? ⟨w2.heap.size, 1, none⟩ = some (.int .u64 sm) := G2.cell 1
          have s2 : wr.cell? ⟨w2.heap.size, 2, none⟩ = some (.int .u64 sl) := G2.cell 2
          have l5 : (192 : Int) ≤ (cz : Int) := by omega
          have l6 : (192 : Int) ≤ (zs.length : Int) := by omega
          go_upto_region 15 with fail
          go_cut [17] (fun s17 wx => s17 = .bool true ∧ Hid (Below wr.heap.size wr wx))
          case first =>
            go_region_held3 (fun w' => w'.cell? ⟨w2.heap.size, 0, none⟩ = some (.int .u64 sh) ∧ w'.cell? ⟨w2.heap.size, 1, none⟩ = some (.int .u64 sm) ∧ w'.cell? ⟨w2.heap.size, 2, none⟩ = some (.int .u64 sl))
              ((refine kp3 (W := wr) ?_ ⟨s0, s1, s2⟩; repeat (first | exact Below.refl _ _ | exact X1 | refine bel_drew ?_)))
              (first
                | (go_at_call 26; refine (is3_any sh sm sl _ 192 cz (zs.take 192) ws1 ws2 ws3 _ (by rw [List.length_take, Nat.min_eq_left hl1]) (hrz3.take 192).drew (by decide)).mono ?_; rw [FX.out]; rintro e w4 ⟨rfl, hb4⟩; have X1 : Below wr.heap.size wr w4 := bel_trans (bel_drew (Below.refl _ _)) hb4))
            go_wp2_with fail
            go_meet
            exact ⟨rfl, X1⟩
          case rest =>
            obtain ⟨rfl, HY⟩ := hcut
            have I0 := G0.below HY.out G0.lt
            have I1 := G1.below HY.out G1.lt
            have I3 := G3.below HY.out G3.lt
            have hrz4 := hrz3.below HY.out (Nat.le_refl _)
            have hrd4 := hrd3.below HY.out (Nat.le_refl _)
            have hrq4 := hr5.below HY.out (Nat.le_refl _)
            have HW4 := Lib.hid (bel_trans HW3.out HY.out)
            clear HY G0 G1 G2 G3 hrz3 hrd3 hr5 HW3 s0 s1 s2 FX
            have s0 : wc.cell? ⟨w3.heap.size, 0, none⟩ = some (.int .u64 dh) := I3.cell 0
            have s1 : wc.cell? ⟨w3.heap.size, 1, none⟩ = some (.int .u64 dm) := I3.cell 1
            have s2 : wc.cell? ⟨w3.heap.size, 2, none⟩ = some (.int .u64 dl) := I3.cell 2
            go_wp2_with fail
            refine (is3_any dh dm dl Ad 192 cd ds wd1 wd2 wd3 _ HLD.out hrd4 (by decide)).mono ?_
            rw [FY.out]
            rintro e w4 ⟨rfl, hb4⟩
            have J0 := I0.below hb4 I0.lt
            have J1 := I1.below hb4 I1.lt
            have hrz5 := hrz4.below hb4 (Nat.le_refl _)
            have hrq5 := hrq4.below hb4 (Nat.le_refl _)
            have HW5 := Lib.hid (bel_trans HW4.out hb4)
            clear I0 I1 I3 hrz4 hrd4 hrq4 HW4 hb4 s0 s1 s2 FY HLD
            obtain ⟨y, hy⟩ : ∃ y : Nat, min (z : Int) 192 = (y : Int) := ⟨min z 192, by omega⟩
            have hy1 : (y : Int) ≤ (c5 : Int) := by omega
            have hyz : y = min z 192 := by omega
            have HYZ := Lib.hid hyz
            clear hyz
            have CS : ∀ (i : Nat) (p : Int × Int), ps[i]? = some p → w4.cell? ⟨b0, off0 + i * 2, none⟩ = some (.int .u64 p.1) ∧ w4.cell? ⟨b0, off0 + i * 2 + 1, none⟩ = some (.int .u64 p.2) := fun i p hi => by
              have hil : i < ps.length := by
                rcases Nat.lt_or_ge i ps.length with h | h
                · exact h
                · rw [List.getElem?_eq_none h] at hi; cases hi
              have hbw := HB0.out (by rw [← HP.out]; omega)
              obtain ⟨x1, x2⟩ := HC.out i p hi
              exact ⟨(HW5.out.cell (p := ⟨b0, off0 + i * 2, none⟩) hbw).trans x1, (HW5.out.cell (p := ⟨b0, off0 + i * 2 + 1, none⟩) hbw).trans x2⟩
            have HCS := Lib.hid CS
            clear CS
            go_upto_region 17 with fail
            go_cut [19] (fun s19 wx => s19 = .bool true ∧ Hid (Below w4.heap.size w4 wx))
            case first =>
              go_region_held3 (fun _ => True) (trivial)
                (first
                  | (go_at_call 42; refine (sum_any A b0 off0 n c ps HP.out (by omega) w4.drew HA.out (fun h => Nat.lt_of_lt_of_le (HB0.out h) HW5.out.size) HW.out HCS.out).mono ?_; rintro e u1 ⟨v, ⟨th, tm, tl, wt1, wt2, wt3, ht, rfl⟩, rfl, hc1⟩; have HTT := Lib.hid ht; clear ht; have X1 : Below w4.heap.size w4 u1 := bel_trans (bel_drew (Below.refl _ _)) hc1)
                  | (go_at_call 26; refine (is3_any th tm tl _ y c5 (qs.take y) wt1 wt2 wt3 _ (by rw [List.length_take, HL.out, HYZ.out]; omega) ((hrq5.below X1 (Nat.le_refl _)).take y) (by have := HYZ.out; omega)).mono ?_; rw [show decide (V3 th tm tl = val (qs.take y)) = true by rw [decide_eq_true_eq, HTT.out, HYZ.out, val_min HL.out, HVQ.out]]; rintro e u2 ⟨rfl, hc2⟩; have X2 : Below w4.heap.size w4 u2 := bel_trans X1 hc2))
              all_goals
                go_wp2_with fail
                go_meet
                exact ⟨rfl, X2⟩
            case rest =>
              obtain ⟨rfl, HY⟩ := hcut
              clear hy
              have G0 := J0.below HY.out J0.lt
              have G1 := J1.below HY.out J1.lt
              have hrz6 := hrz5.below HY.out (Nat.le_refl _)
              have HW4 := Lib.hid (bel_trans HW5.out HY.out)
              clear HY J0 J1 hrz5 hrq5 HW5 HCS
              generalize wc = w5 at *
              have TB := FB.out
              rcases Nat.eq_or_lt_of_le hl1 with hl | hl
              · have TC := FC.out
                rw [show decide (192 < zs.length) = false by simp; omega, Bool.false_and] at TC
                have hgt : decide ((192 : Int) < (zs.length : Int)) = false := by simp; omega
                have hgt2 : decide (192 < zs.length) = false := by simp; omega
                have hle : zs.length ≤ 192 := by omega
                clear hl FB FC
                go_upto_region 18 with fail
                have KEEP : ∀ w', Below w5.heap.size w5 w' → w'.cell? ⟨w.heap.size, 0, none⟩ = some (.int .u64 ah) ∧ w'.cell? ⟨w.heap.size, 1, none⟩ = some (.int .u64 am) ∧ w'.cell? ⟨w.heap.size, 2, none⟩ = some (.int .u64 al) ∧ w'.cell? ⟨w.heap.size + 1, 0, none⟩ = some (.int .u64 bh) ∧ w'.cell? ⟨w.heap.size + 1, 1, none⟩ = some (.int .u64 bm) ∧ w'.cell? ⟨w.heap.size + 1, 2, none⟩ = some (.int .u64 bl) := fun w' hx => ⟨(G0.below hx G0.lt).cell 0, (G0.below hx G0.lt).cell 1, (G0.below hx G0.lt).cell 2, (G1.below hx G1.lt).cell 0, (G1.below hx G1.lt).cell 1, (G1.below hx G1.lt).cell 2⟩
                refine wp_region_held_drew (S := fun w' => w'.cell? ⟨w.heap.size, 0, none⟩ = some (.int .u64 ah) ∧ w'.cell? ⟨w.heap.size, 1, none⟩ = some (.int .u64 am) ∧ w'.cell? ⟨w.heap.size, 2, none⟩ = some (.int .u64 al) ∧ w'.cell? ⟨w.heap.size + 1, 0, none⟩ = some (.int .u64 bh) ∧ w'.cell? ⟨w.heap.size + 1, 1, none⟩ = some (.int .u64 bm) ∧ w'.cell? ⟨w.heap.size + 1, 2, none⟩ = some (.int .u64 bl)) (by kernel_rfl) (KEEP _ (bel_drew (Below.refl _ _))) (fun hHeld => ?_)
                refine wpAnyH_take (i := 0) (v := ?_) rfl (by kernel_rfl) (by kernel_rfl) (by kernel_rfl) (fun _ _ _ h => h) (Or.inl ⟨by rfl, ?_⟩) (by assumption) ?_
                rotate_left
                · intro w hSw
                  (try dsimp only at hSw)
                  go_simp
                  try (with_reducible rfl)
                simp only [Act.put, List.getElem_toArray, List.getElem_cons_zero, List.setIfInBounds_toArray, List.set_cons_zero, List.set_cons_succ]
                refine wpAnyH_take (i := 1) (v := ?_) rfl (by kernel_rfl) (by kernel_rfl) (by kernel_rfl) (fun _ _ _ h => h) (Or.inl ⟨by rfl, ?_⟩) (by assumption) ?_
                rotate_left
                · intro w hSw
                  (try dsimp only at hSw)
                  go_simp
                  try (with_reducible rfl)
                simp only [Act.put, List.getElem_toArray, List.getElem_cons_succ, List.getElem_cons_zero, List.setIfInBounds_toArray, List.set_cons_zero, List.set_cons_succ]
                refine wpAnyH_take (i := 2) (v := ?_) rfl (by kernel_rfl) (by kernel_rfl) (by kernel_rfl) (fun _ _ _ h => h) (Or.inl ⟨by rfl, ?_⟩) (by assumption) ?_
                rotate_left
                · intro w hSw
                  (try dsimp only at hSw)
                  go_simp
                  try (with_reducible rfl)
                simp only [Act.put, List.getElem_toArray, List.getElem_cons_succ, List.getElem_cons_zero, List.setIfInBounds_toArray, List.set_cons_zero, List.set_cons_succ]
                refine wpAnyH_take (i := 3) (v := ?_) rfl (by kernel_rfl) (by kernel_rfl) (by kernel_rfl) (fun _ _ _ h => h) (Or.inl ⟨by rfl, ?_⟩) (by assumption) ?_
                rotate_left
                · intro w hSw
                  (try dsimp only at hSw)
                  go_simp
                  try (with_reducible rfl)
                simp only [Act.put, List.getElem_toArray, List.getElem_cons_succ, List.getElem_cons_zero, List.setIfInBounds_toArray, List.set_cons_zero, List.set_cons_succ]
                refine wpAnyH_take (i := 4) (v := ?_) rfl (by kernel_rfl) (by kernel_rfl) (by kernel_rfl) (fun _ _ _ h => h) (Or.inl ⟨by rfl, ?_⟩) (by assumption) ?_
                rotate_left
                · intro w hSw
                  (try dsimp only at hSw)
                  go_simp
                  try (with_reducible rfl)
                simp only [Act.put, List.getElem_toArray, List.getElem_cons_succ, List.getElem_cons_zero, List.setIfInBounds_toArray, List.set_cons_zero, List.set_cons_succ]
                refine wpAnyH_take (i := 5) (v := ?_) rfl (by kernel_rfl) (by kernel_rfl) (by kernel_rfl) (fun _ _ _ h => h) (Or.inl ⟨by rfl, ?_⟩) (by assumption) ?_
                rotate_left
                · intro w hSw
                  (try dsimp only at hSw)
                  go_simp
                  try (with_reducible rfl)
                simp only [Act.put, List.getElem_toArray, List.getElem_cons_succ, List.getElem_cons_zero, List.setIfInBounds_toArray, List.set_cons_zero, List.set_cons_succ]
                refine wpAnyH_take (i := 6) (v := ?_) rfl (by kernel_rfl) (by kernel_rfl) (by kernel_rfl) (fun _ _ _ h => h) (Or.inl ⟨by rfl, ?_⟩) (by assumption) ?_
                rotate_left
                · intro w hSw
                  (try dsimp only at hSw)
                  go_simp
                  try (with_reducible rfl)
                simp only [Act.put, List.getElem_toArray, List.getElem_cons_succ, List.getElem_cons_zero, List.setIfInBounds_toArray, List.set_cons_zero, List.set_cons_succ]
                refine wpAnyH_take (i := 7) (v := ?_) rfl (by kernel_rfl) (by kernel_rfl) (by kernel_rfl) (fun _ _ _ h => h) (Or.inl ⟨by rfl, ?_⟩) (by assumption) ?_
                rotate_left
                · intro w hSw
                  (try dsimp only at hSw)
                  go_simp
                  try (with_reducible rfl)
                simp only [Act.put, List.getElem_toArray, List.getElem_cons_succ, List.getElem_cons_zero, List.setIfInBounds_toArray, List.set_cons_zero, List.set_cons_succ]
                refine wpAnyH_take (i := 8) (v := ?_) rfl (by kernel_rfl) (by kernel_rfl) (by kernel_rfl) (fun _ _ _ h => h) (Or.inl ⟨by rfl, ?_⟩) (by assumption) ?_
                rotate_left
                · intro w hSw
                  (try dsimp only at hSw)
                  go_simp
                  try (with_reducible rfl)
                simp only [Act.put, List.getElem_toArray, List.getElem_cons_succ, List.getElem_cons_zero, List.setIfInBounds_toArray, List.set_cons_zero, List.set_cons_succ]
                refine wpAnyH_take (i := 9) (v := ?_) rfl (by kernel_rfl) (by kernel_rfl) (by kernel_rfl) (fun _ _ _ h => h) (Or.inl ⟨by rfl, ?_⟩) (by assumption) ?_
                rotate_left
                · intro w hSw
                  (try dsimp only at hSw)
                  go_simp
                  try (with_reducible rfl)
                simp only [Act.put, List.getElem_toArray, List.getElem_cons_succ, List.getElem_cons_zero, List.setIfInBounds_toArray, List.set_cons_zero, List.set_cons_succ]
                refine wpAnyH_take (i := 10) (v := ?_) rfl (by kernel_rfl) (by kernel_rfl) (by kernel_rfl) (fun _ _ _ h => h) (Or.inl ⟨by rfl, ?_⟩) (by assumption) ?_
                rotate_left
                · intro w hSw
                  (try dsimp only at hSw)
                  go_simp
                  try (with_reducible rfl)
                simp only [Act.put, List.getElem_toArray, List.getElem_cons_succ, List.getElem_cons_zero, List.setIfInBounds_toArray, List.set_cons_zero, List.set_cons_succ]
                refine wpAnyH_take (i := 11) (v := ?_) rfl (by kernel_rfl) (by kernel_rfl) (by kernel_rfl) (fun _ _ _ h => h) (Or.inl ⟨by rfl, ?_⟩) (by assumption) ?_
                rotate_left
                · intro w hSw
                  (try dsimp only at hSw)
                  go_simp
                  try (with_reducible rfl)
                simp only [Act.put, List.getElem_toArray, List.getElem_cons_succ, List.getElem_cons_zero, List.setIfInBounds_toArray, List.set_cons_zero, List.set_cons_succ]
                refine wpAnyH_take (i := 12) (v := ?_) rfl (by kernel_rfl) (by kernel_rfl) (by kernel_rfl) (fun _ _ _ h => h) (Or.inl ⟨by rfl, ?_⟩) (by assumption) ?_
                rotate_left
                · intro w hSw
                  (try dsimp only at hSw)
                  go_simp
                  try (with_reducible rfl)
                simp only [Act.put, List.getElem_toArray, List.getElem_cons_succ, List.getElem_cons_zero, List.setIfInBounds_toArray, List.set_cons_zero, List.set_cons_succ]
                refine wpAnyH_take (i := 13) (v := ?_) rfl (by kernel_rfl) (by kernel_rfl) (by kernel_rfl) (fun _ _ _ h => h) (Or.inl ⟨by rfl, ?_⟩) (by assumption) ?_
                rotate_left
                · intro w hSw
                  (try dsimp only at hSw)
                  go_simp
                  try (with_reducible rfl)
                simp only [Act.put, List.getElem_toArray, List.getElem_cons_succ, List.getElem_cons_zero, List.setIfInBounds_toArray, List.set_cons_zero, List.set_cons_succ]
                refine wpAnyH_take (i := 14) (v := ?_) rfl (by kernel_rfl) (by kernel_rfl) (by kernel_rfl) (fun _ _ _ h => h) (Or.inl ⟨by rfl, ?_⟩) (by assumption) ?_
                rotate_left
                · intro w hSw
                  (try dsimp only at hSw)
                  go_simp
                  try (with_reducible rfl)
                simp only [Act.put, List.getElem_toArray, List.getElem_cons_succ, List.getElem_cons_zero, List.setIfInBounds_toArray, List.set_cons_zero, List.set_cons_succ]
                refine wpAnyH_take (i := 15) (v := ?_) rfl (by kernel_rfl) (by kernel_rfl) (by kernel_rfl) (fun _ _ _ h => h) (Or.inl ⟨by rfl, ?_⟩) (by assumption) ?_
                rotate_left
                · intro w hSw
                  (try dsimp only at hSw)
                  go_simp
                  try (with_reducible rfl)
                simp only [Act.put, List.getElem_toArray, List.getElem_cons_succ, List.getElem_cons_zero, List.setIfInBounds_toArray, List.set_cons_zero, List.set_cons_succ]
                refine wpAnyH_take (i := 16) (v := undef) rfl (by kernel_rfl) (by kernel_rfl) (by kernel_rfl) (fun _ _ _ h => h) (Or.inr ⟨by rfl, rfl⟩) (by assumption) ?_
                simp only [Act.put, List.getElem_toArray, List.getElem_cons_succ, List.getElem_cons_zero, List.setIfInBounds_toArray, List.set_cons_zero, List.set_cons_succ]
                refine wpAnyH_take (i := 17) (v := undef) rfl (by kernel_rfl) (by kernel_rfl) (by kernel_rfl) (fun _ _ _ h => h) (Or.inr ⟨by rfl, rfl⟩) (by assumption) ?_
                simp only [Act.put, List.getElem_toArray, List.getElem_cons_succ, List.getElem_cons_zero, List.setIfInBounds_toArray, List.set_cons_zero, List.set_cons_succ]
                refine wpAnyH_take (i := 18) (v := undef) rfl (by kernel_rfl) (by kernel_rfl) (by kernel_rfl) (fun _ _ _ h => h) (Or.inr ⟨by rfl, rfl⟩) (by assumption) ?_
                simp only [Act.put, List.getElem_toArray, List.getElem_cons_succ, List.getElem_cons_zero, List.setIfInBounds_toArray, List.set_cons_zero, List.set_cons_succ]
                refine wpAnyH_take (i := 19) (v := ?_) rfl (by kernel_rfl) (by kernel_rfl) (by kernel_rfl) (fun _ _ _ h => h) (Or.inl ⟨by rfl, ?_⟩) (by assumption) ?_
                rotate_left
                · intro w hSw
                  (try dsimp only at hSw)
                  go_simp
                  try (with_reducible rfl)
                simp only [Act.put, List.getElem_toArray, List.getElem_cons_succ, List.getElem_cons_zero, List.setIfInBounds_toArray, List.set_cons_zero, List.set_cons_succ]
                refine wpAnyH_ready (rs := [20]) (by kernel_rfl) (by simp) ?_
                refine AllReadyH.cons rfl (fun K hK => ?_) AllReadyH.nil
                go_simp
                go_at_call 18
                refine (one_any _ _).mono ?_
                rintro e w' ⟨rfl, rfl⟩
                refine hK.out _ _ ?_ (fun hHeld => ?_)
                · exact KEEP _ (bel_drew (Below.refl _ _))
                clear hK K
                refine wpAnyH_take (i := 21) (v := ?_) rfl (by kernel_rfl) (by kernel_rfl) (by kernel_rfl) (fun _ _ _ h => h) (Or.inl ⟨by rfl, ?_⟩) (by assumption) ?_
                rotate_left
                · intro w hSw
                  (try dsimp only at hSw)
                  go_simp
                  try (with_reducible rfl)
                simp only [Act.put, List.getElem_toArray, List.getElem_cons_succ, List.getElem_cons_zero, List.setIfInBounds_toArray, List.set_cons_zero, List.set_cons_succ]
                refine wpAnyH_take (i := 22) (v := ?_) rfl (by kernel_rfl) (by kernel_rfl) (by kernel_rfl) (fun _ _ _ h => h) (Or.inl ⟨by rfl, ?_⟩) (by assumption) ?_
                rotate_left
                · intro w hSw
                  (try dsimp only at hSw)
                  go_simp
                  try (with_reducible rfl)
                simp only [Act.put, List.getElem_toArray, List.getElem_cons_succ, List.getElem_cons_zero, List.setIfInBounds_toArray, List.set_cons_zero, List.set_cons_succ]
                refine wpAnyH_take (i := 23) (v := ?_) rfl (by kernel_rfl) (by kernel_rfl) (by kernel_rfl) (fun _ _ _ h => h) (Or.inl ⟨by rfl, ?_⟩) (by assumption) ?_
                rotate_left
                · intro w hSw
                  (try dsimp only at hSw)
                  go_simp
                  try (with_reducible rfl)
                simp only [Act.put, List.getElem_toArray, List.getElem_cons_succ, List.getElem_cons_zero, List.setIfInBounds_toArray, List.set_cons_zero, List.set_cons_succ]
                refine wpAnyH_take (i := 24) (v := ?_) rfl (by kernel_rfl) (by kernel_rfl) (by kernel_rfl) (fun _ _ _ h => h) (Or.inl ⟨by rfl, ?_⟩) (by assumption) ?_
                rotate_left
                · intro w hSw
                  (try dsimp only at hSw)
                  go_simp
                  try (with_reducible rfl)
                simp only [Act.put, List.getElem_toArray, List.getElem_cons_succ, List.getElem_cons_zero, List.setIfInBounds_toArray, List.set_cons_zero, List.set_cons_succ]
                refine wpAnyH_take (i := 25) (v := ?_) rfl (by kernel_rfl) (by kernel_rfl) (by kernel_rfl) (fun _ _ _ h => h) (Or.inl ⟨by rfl, ?_⟩) (by assumption) ?_
                rotate_left
                · intro w hSw
                  (try dsimp only at hSw)
                  go_simp
                  try (with_reducible rfl)
                simp only [Act.put, List.getElem_toArray, List.getElem_cons_succ, List.getElem_cons_zero, List.setIfInBounds_toArray, List.set_cons_zero, List.set_cons_succ]
                refine wpAnyH_ready (rs := [26]) (by kernel_rfl) (by simp) ?_
                refine AllReadyH.cons rfl (fun K hK => ?_) AllReadyH.nil
                go_simp
                go_at_call 18
                refine (one_any _ _).mono ?_
                rintro e w' ⟨rfl, rfl⟩
                refine hK.out _ _ ?_ (fun hHeld => ?_)
                · exact KEEP _ (bel_drew (Below.refl _ _))
                clear hK K
                refine wpAnyH_take (i := 27) (v := ?_) rfl (by kernel_rfl) (by kernel_rfl) (by kernel_rfl) (fun _ _ _ h => h) (Or.inl ⟨by rfl, ?_⟩) (by assumption) ?_
                rotate_left
                · intro w hSw
                  (try dsimp only at hSw)
                  go_simp
                  try (with_reducible rfl)
                simp only [Act.put, List.getElem_toArray, List.getElem_cons_succ, List.getElem_cons_zero, List.setIfInBounds_toArray, List.set_cons_zero, List.set_cons_succ]
                refine wpAnyH_take (i := 28) (v := ?_) rfl (by kernel_rfl) (by kernel_rfl) (by kernel_rfl) (fun _ _ _ h => h) (Or.inl ⟨by rfl, ?_⟩) (by assumption) ?_
                rotate_left
                · intro w hSw
                  (try dsimp only at hSw)
                  go_simp
                  try (with_reducible rfl)
                simp only [Act.put, List.getElem_toArray, List.getElem_cons_succ, List.getElem_cons_zero, List.setIfInBounds_toArray, List.set_cons_zero, List.set_cons_succ]
                refine wpAnyH_take (i := 29) (v := ?_) rfl (by kernel_rfl) (by kernel_rfl) (by kernel_rfl) (fun _ _ _ h => h) (Or.inl ⟨by rfl, ?_⟩) (by assumption) ?_
                rotate_left
                · intro w hSw
                  (try dsimp only at hSw)
                  go_simp
                  try (with_reducible rfl)
                simp only [Act.put, List.getElem_toArray, List.getElem_cons_succ, List.getElem_cons_zero, List.setIfInBounds_toArray, List.set_cons_zero, List.set_cons_succ]
                refine wpAnyH_take (i := 30) (v := ?_) rfl (by kernel_rfl) (by kernel_rfl) (by kernel_rfl) (fun _ _ _ h => h) (Or.inl ⟨by rfl, ?_⟩) (by assumption) ?_
                rotate_left
                · intro w hSw
                  (try dsimp only at hSw)
                  go_simp
                  try (with_reducible rfl)
                simp only [Act.put, List.getElem_toArray, List.getElem_cons_succ, List.getElem_cons_zero, List.setIfInBounds_toArray, List.set_cons_zero, List.set_cons_succ]
                refine wpAnyH_take (i := 31) (v := ?_) rfl (by kernel_rfl) (by kernel_rfl) (by kernel_rfl) (fun _ _ _ h => h) (Or.inl ⟨by rfl, ?_⟩) (by assumption) ?_
                rotate_left
                · intro w hSw
                  (try dsimp only at hSw)
                  go_simp
                  try (with_reducible rfl)
                simp only [Act.put, List.getElem_toArray, List.getElem_cons_succ, List.getElem_cons_zero, List.setIfInBounds_toArray, List.set_cons_zero, List.set_cons_succ]
                refine wpAnyH_take (i := 33) (v := ?_) rfl (by kernel_rfl) (by kernel_rfl) (by kernel_rfl) (fun _ _ _ h => h) (Or.inl ⟨by rfl, ?_⟩) (by assumption) ?_
                rotate_left
                · intro w hSw
                  (try dsimp only at hSw)
                  go_simp
                  try (with_reducible rfl)
                simp only [Act.put, List.getElem_toArray, List.getElem_cons_succ, List.getElem_cons_zero, List.setIfInBounds_toArray, List.set_cons_zero, List.set_cons_succ]
                refine wpAnyH_take (i := 35) (v := ?_) rfl (by kernel_rfl) (by kernel_rfl) (by kernel_rfl) (fun _ _ _ h => h) (Or.inl ⟨by rfl, ?_⟩) (by assumption) ?_
                rotate_left
                · intro w hSw
                  (try dsimp only at hSw)
                  go_simp
                  try (with_reducible rfl)
                simp only [Act.put, List.getElem_toArray, List.getElem_cons_succ, List.getElem_cons_zero, List.setIfInBounds_toArray, List.set_cons_zero, List.set_cons_succ]
                refine wpAnyH_ready (rs := [32]) (by kernel_rfl) (by simp) ?_
                refine AllReadyH.cons rfl (fun K hK => ?_) AllReadyH.nil
                go_simp
                go_at_call 43
                refine (cmp3 ah am al bh bm bl h1 h2 h3 h4 h5 h6 _).mono ?_
                rintro e u1 ⟨rfl, hc1⟩
                have Y1 : Below w5.heap.size w5 u1 := bel_trans (bel_drew (Below.refl _ _)) hc1
                clear hc1
                refine hK.out _ _ ?_ (fun hHeld => ?_)
                · exact KEEP _ (Y1)
                clear hK K
                refine wpAnyH_ready (rs := [34]) (by kernel_rfl) (by simp) ?_
                refine AllReadyH.cons rfl (fun K hK => ?_) AllReadyH.nil
                go_simp
                go_at_call 31
                refine (of3_any ah am al h1 h2 h3 _).mono ?_
                rintro e u2 ⟨xs, X, cx, ⟨hvx, hlx⟩, rfl, hcx, hmx, hrx, hc2⟩
                rw [hlx]
                have HVX := Lib.hid hvx
                have HLX := Lib.hid hlx
                have Y2 : Below w5.heap.size w5 u2 := bel_trans Y1 hc2
                clear hvx hlx hc2
                refine hK.out _ _ ?_ (fun hHeld => ?_)
                · exact KEEP _ (Y2)
                clear hK K
                refine wpAnyH_ready (rs := [36]) (by kernel_rfl) (by simp) ?_
                refine AllReadyH.cons rfl (fun K hK => ?_) AllReadyH.nil
                go_simp
                go_at_call 31
                refine (of3_any bh bm bl h4 h5 h6 _).mono ?_
                rintro e u3 ⟨ys, Y, cy, ⟨hvy, hly⟩, rfl, hcy, hmy, hry, hc3⟩
                rw [hly]
                have HVY := Lib.hid hvy
                have HLY := Lib.hid hly
                have Y3 : Below w5.heap.size w5 u3 := bel_trans Y2 hc3
                have hrx3 := hrx.below hc3 (Nat.le_refl _)
                clear hvy hly hc3 hrx
                refine hK.out _ _ ?_ (fun hHeld => ?_)
                · exact KEEP _ (Y3)
                clear hK K
                refine wpAnyH_ready (rs := [37]) (by kernel_rfl) (by simp) ?_
                refine AllReadyH.cons rfl (fun K hK => ?_) AllReadyH.nil
                go_simp
                go_at_call 20
                refine (rcmp_any X Y 192 192 cx cy xs ys _ HLX.out HLY.out hrx3 hry (by decide) (by decide)).mono ?_
                rw [HVX.out, HVY.out]
                rintro e u4 ⟨rfl, rfl⟩
                clear hrx3 hry HVX HLX HVY HLY
                refine hK.out _ _ ?_ (fun hHeld => ?_)
                · exact KEEP _ (Y3)
                clear hK K
                refine wpAnyH_take (i := 38) (v := ?_) rfl (by kernel_rfl) (by kernel_rfl) (by kernel_rfl) (fun _ _ _ h => h) (Or.inl ⟨by rfl, ?_⟩) (by assumption) ?_
                rotate_left
                · intro w hSw
                  (try dsimp only at hSw)
                  go_simp
                  try (with_reducible rfl)
                simp only [Act.put, List.getElem_toArray, List.getElem_cons_succ, List.getElem_cons_zero, List.setIfInBounds_toArray, List.set_cons_zero, List.set_cons_succ]
                refine wpAnyH_take (i := 39) (v := ?_) rfl (by kernel_rfl) (by kernel_rfl) (by kernel_rfl) (fun _ _ _ h => h) (Or.inl ⟨by rfl, ?_⟩) (by assumption) ?_
                rotate_left
                · intro w hSw
                  (try dsimp only at hSw)
                  go_simp
                  try (with_reducible rfl)
                simp only [Act.put, List.getElem_toArray, List.getElem_cons_succ, List.getElem_cons_zero, List.setIfInBounds_toArray, List.set_cons_zero, List.set_cons_succ]
                refine wpAnyH_take (i := 40) (v := ?_) rfl (by kernel_rfl) (by kernel_rfl) (by kernel_rfl) (fun _ _ _ h => h) (Or.inl ⟨by rfl, ?_⟩) (by assumption) ?_
                rotate_left
                · intro w hSw
                  (try dsimp only at hSw)
                  go_simp
                  try (with_reducible rfl)
                simp only [Act.put, List.getElem_toArray, List.getElem_cons_succ, List.getElem_cons_zero, List.setIfInBounds_toArray, List.set_cons_zero, List.set_cons_succ]
                refine wpAnyH_take (i := 41) (v := ?_) rfl (by kernel_rfl) (by kernel_rfl) (by kernel_rfl) (fun _ _ _ h => h) (Or.inl ⟨by rfl, ?_⟩) (by assumption) ?_
                rotate_left
                · intro w hSw
                  (try dsimp only at hSw)
                  go_simp
                  try (with_reducible rfl)
                simp only [Act.put, List.getElem_toArray, List.getElem_cons_succ, List.getElem_cons_zero, List.setIfInBounds_toArray, List.set_cons_zero, List.set_cons_succ]
                refine wpAnyH_take (i := 43) (v := ?_) rfl (by kernel_rfl) (by kernel_rfl) (by kernel_rfl) (fun _ _ _ h => h) (Or.inl ⟨by rfl, ?_⟩) (by assumption) ?_
                rotate_left
                · intro w hSw
                  (try dsimp only at hSw)
                  go_simp
                  try (with_reducible rfl)
                simp only [Act.put, List.getElem_toArray, List.getElem_cons_succ, List.getElem_cons_zero, List.setIfInBounds_toArray, List.set_cons_zero, List.set_cons_succ]
                refine wpAnyH_ready (rs := [42]) (by kernel_rfl) (by simp) ?_
                refine AllReadyH.cons rfl (fun K hK => ?_) AllReadyH.nil
                go_simp
                go_at_call 44
                refine (len3 ah am al h1 h2 h3 _).mono ?_
                rintro e u5 ⟨rfl, hc5⟩
                have Y5 : Below w5.heap.size w5 u5 := bel_trans Y3 hc5
                clear hc5
                refine hK.out _ _ ?_ (fun hHeld => ?_)
                · exact KEEP _ (Y5)
                clear hK K
                refine wpAnyH_ready (rs := [44]) (by kernel_rfl) (by simp) ?_
                refine AllReadyH.cons rfl (fun K hK => ?_) AllReadyH.nil
                go_simp
                go_at_call 31
                refine (of3_any ah am al h1 h2 h3 _).mono ?_
                rintro e u6 ⟨us, U, cu, ⟨hvu, hlu⟩, rfl, hcu, hmu, hru, hc6⟩
                rw [hlu]
                have HVU := Lib.hid hvu
                have HLU := Lib.hid hlu
                have Y6 : Below w5.heap.size w5 u6 := bel_trans Y5 hc6
                clear hvu hlu hc6
                refine hK.out _ _ ?_ (fun hHeld => ?_)
                · exact KEEP _ (Y6)
                clear hK K
                refine wpAnyH_ready (rs := [45]) (by kernel_rfl) (by simp) ?_
                refine AllReadyH.cons rfl (fun K hK => ?_) AllReadyH.nil
                go_simp
                go_at_call 22
                refine (rlen_any U 192 cu us _ HLU.out hru (by decide)).mono ?_
                rw [HVU.out]
                rintro e u7 ⟨rfl, rfl⟩
                clear hru HVU HLU
                refine hK.out _ _ ?_ (fun hHeld => ?_)
                · exact KEEP _ (Y6)
                clear hK K
                refine wpAnyH_take (i := 46) (v := ?_) rfl (by kernel_rfl) (by kernel_rfl) (by kernel_rfl) (fun _ _ _ h => h) (Or.inl ⟨by rfl, ?_⟩) (by assumption) ?_
                rotate_left
                · intro w hSw
                  (try dsimp only at hSw)
                  go_simp
                  try (with_reducible rfl)
                simp only [Act.put, List.getElem_toArray, List.getElem_cons_succ, List.getElem_cons_zero, List.setIfInBounds_toArray, List.set_cons_zero, List.set_cons_succ]
                refine wpAnyH_take (i := 47) (v := ?_) rfl (by kernel_rfl) (by kernel_rfl) (by kernel_rfl) (fun _ _ _ h => h) (Or.inl ⟨by rfl, ?_⟩) (by assumption) ?_
                rotate_left
                · intro w hSw
                  (try dsimp only at hSw)
                  go_simp
                  try (with_reducible rfl)
                simp only [Act.put, List.getElem_toArray, List.getElem_cons_succ, List.getElem_cons_zero, List.setIfInBounds_toArray, List.set_cons_zero, List.set_cons_succ]
                refine wpAnyH_take (i := 48) (v := ?_) rfl (by kernel_rfl) (by kernel_rfl) (by kernel_rfl) (fun _ _ _ h => h) (Or.inl ⟨by rfl, ?_⟩) (by assumption) ?_
                rotate_left
                · intro w hSw
                  (try dsimp only at hSw)
                  go_simp
                  try (with_reducible rfl)
                simp only [Act.put, List.getElem_toArray, List.getElem_cons_succ, List.getElem_cons_zero, List.setIfInBounds_toArray, List.set_cons_zero, List.set_cons_succ]
                refine wpAnyH_done (by kernel_rfl) ?_ _
                go_wp2_with fail
                go_ret
                exact ⟨rfl, bel_trans HW4.out Y6⟩
              · have TC := FC.out
                obtain ⟨bz, hbz⟩ : ∃ bz, zs.getD 192 false = bz := ⟨_, rfl⟩
                rw [show decide (192 < zs.length) = true by simp; omega, Bool.true_and, hbz] at TC
                have hgt : (192 : Int) < (zs.length : Int) := by omega
                have hgt2 : decide (192 < zs.length) = true := by simp; omega
                have z0 : w5.cell? ⟨g, off + 192, none⟩ = some (.bool bz) := by
                  obtain ⟨g', off', e, _, hc⟩ := hrz6.at_ (i := 192) hl
                  injection e with e
                  injection e with e1 e2
                  subst e1 e2
                  rw [hbz] at hc
                  exact hc
                clear hl FB FC hbz
                go_upto_region 18 with fail
                have KEEP : ∀ w', Below w5.heap.size w5 w' → w'.cell? ⟨w.heap.size, 0, none⟩ = some (.int .u64 ah) ∧ w'.cell? ⟨w.heap.size, 1, none⟩ = some (.int .u64 am) ∧ w'.cell? ⟨w.heap.size, 2, none⟩ = some (.int .u64 al) ∧ w'.cell? ⟨w.heap.size + 1, 0, none⟩ = some (.int .u64 bh) ∧ w'.cell? ⟨w.heap.size + 1, 1, none⟩ = some (.int .u64 bm) ∧ w'.cell? ⟨w.heap.size + 1, 2, none⟩ = some (.int .u64 bl) ∧ w'.cell? ⟨g, off + 192, none⟩ = some (.bool bz) := fun w' hx => ⟨(G0.below hx G0.lt).cell 0, (G0.below hx G0.lt).cell 1, (G0.below hx G0.lt).cell 2, (G1.below hx G1.lt).cell 0, (G1.below hx G1.lt).cell 1, (G1.below hx G1.lt).cell 2, (hx.cell (World.block_lt_of_cell? _ _ z0)).trans z0⟩
                refine wp_region_held_drew (S := fun w' => w'.cell? ⟨w.heap.size, 0, none⟩ = some (.int .u64 ah) ∧ w'.cell? ⟨w.heap.size, 1, none⟩ = some (.int .u64 am) ∧ w'.cell? ⟨w.heap.size, 2, none⟩ = some (.int .u64 al) ∧ w'.cell? ⟨w.heap.size + 1, 0, none⟩ = some (.int .u64 bh) ∧ w'.cell? ⟨w.heap.size + 1, 1, none⟩ = some (.int .u64 bm) ∧ w'.cell? ⟨w.heap.size + 1, 2, none⟩ = some (.int .u64 bl) ∧ w'.cell? ⟨g, off + 192, none⟩ = some (.bool bz)) (by kernel_rfl) (KEEP _ (bel_drew (Below.refl _ _))) (fun hHeld => ?_)
                refine wpAnyH_take (i := 0) (v := ?_) rfl (by kernel_rfl) (by kernel_rfl) (by kernel_rfl) (fun _ _ _ h => h) (Or.inl ⟨by rfl, ?_⟩) (by assumption) ?_
                rotate_left
                · intro w hSw
                  (try dsimp only at hSw)
                  go_simp
                  try (with_reducible rfl)
                simp only [Act.put, List.getElem_toArray, List.getElem_cons_zero, List.setIfInBounds_toArray, List.set_cons_zero, List.set_cons_succ]
                refine wpAnyH_take (i := 1) (v := ?_) rfl (by kernel_rfl) (by kernel_rfl) (by kernel_rfl) (fun _ _ _ h => h) (Or.inl ⟨by rfl, ?_⟩) (by assumption) ?_
                rotate_left
                · intro w hSw
                  (try dsimp only at hSw)
                  go_simp
                  try (with_reducible rfl)
                simp only [Act.put, List.getElem_toArray, List.getElem_cons_succ, List.getElem_cons_zero, List.setIfInBounds_toArray, List.set_cons_zero, List.set_cons_succ]
                refine wpAnyH_take (i := 2) (v := ?_) rfl (by kernel_rfl) (by kernel_rfl) (by kernel_rfl) (fun _ _ _ h => h) (Or.inl ⟨by rfl, ?_⟩) (by assumption) ?_
                rotate_left
                · intro w hSw
                  (try dsimp only at hSw)
                  go_simp
                  try (with_reducible rfl)
                simp only [Act.put, List.getElem_toArray, List.getElem_cons_succ, List.getElem_cons_zero, List.setIfInBounds_toArray, List.set_cons_zero, List.set_cons_succ]
                refine wpAnyH_take (i := 3) (v := ?_) rfl (by kernel_rfl) (by kernel_rfl) (by kernel_rfl) (fun _ _ _ h => h) (Or.inl ⟨by rfl, ?_⟩) (by assumption) ?_
                rotate_left
                · intro w hSw
                  (try dsimp only at hSw)
                  go_simp
                  try (with_reducible rfl)
                simp only [Act.put, List.getElem_toArray, List.getElem_cons_succ, List.getElem_cons_zero, List.setIfInBounds_toArray, List.set_cons_zero, List.set_cons_succ]
                refine wpAnyH_take (i := 4) (v := ?_) rfl (by kernel_rfl) (by kernel_rfl) (by kernel_rfl) (fun _ _ _ h => h) (Or.inl ⟨by rfl, ?_⟩) (by assumption) ?_
                rotate_left
                · intro w hSw
                  (try dsimp only at hSw)
                  go_simp
                  try (with_reducible rfl)
                simp only [Act.put, List.getElem_toArray, List.getElem_cons_succ, List.getElem_cons_zero, List.setIfInBounds_toArray, List.set_cons_zero, List.set_cons_succ]
                refine wpAnyH_take (i := 5) (v := ?_) rfl (by kernel_rfl) (by kernel_rfl) (by kernel_rfl) (fun _ _ _ h => h) (Or.inl ⟨by rfl, ?_⟩) (by assumption) ?_
                rotate_left
                · intro w hSw
                  (try dsimp only at hSw)
                  go_simp
                  try (with_reducible rfl)
                simp only [Act.put, List.getElem_toArray, List.getElem_cons_succ, List.getElem_cons_zero, List.setIfInBounds_toArray, List.set_cons_zero, List.set_cons_succ]
                refine wpAnyH_take (i := 6) (v := ?_) rfl (by kernel_rfl) (by kernel_rfl) (by kernel_rfl) (fun _ _ _ h => h) (Or.inl ⟨by rfl, ?_⟩) (by assumption) ?_
                rotate_left
                · intro w hSw
                  (try dsimp only at hSw)
                  go_simp
                  try (with_reducible rfl)
                simp only [Act.put, List.getElem_toArray, List.getElem_cons_succ, List.getElem_cons_zero, List.setIfInBounds_toArray, List.set_cons_zero, List.set_cons_succ]
                refine wpAnyH_take (i := 7) (v := ?_) rfl (by kernel_rfl) (by kernel_rfl) (by kernel_rfl) (fun _ _ _ h => h) (Or.inl ⟨by rfl, ?_⟩) (by assumption) ?_
                rotate_left
                · intro w hSw
                  (try dsimp only at hSw)
                  go_simp
                  try (with_reducible rfl)
                simp only [Act.put, List.getElem_toArray, List.getElem_cons_succ, List.getElem_cons_zero, List.setIfInBounds_toArray, List.set_cons_zero, List.set_cons_succ]
                refine wpAnyH_take (i := 8) (v := ?_) rfl (by kernel_rfl) (by kernel_rfl) (by kernel_rfl) (fun _ _ _ h => h) (Or.inl ⟨by rfl, ?_⟩) (by assumption) ?_
                rotate_left
                · intro w hSw
                  (try dsimp only at hSw)
                  go_simp
                  try (with_reducible rfl)
                simp only [Act.put, List.getElem_toArray, List.getElem_cons_succ, List.getElem_cons_zero, List.setIfInBounds_toArray, List.set_cons_zero, List.set_cons_succ]
                refine wpAnyH_take (i := 9) (v := ?_) rfl (by kernel_rfl) (by kernel_rfl) (by kernel_rfl) (fun _ _ _ h => h) (Or.inl ⟨by rfl, ?_⟩) (by assumption) ?_
                rotate_left
                · intro w hSw
                  (try dsimp only at hSw)
                  go_simp
                  try (with_reducible rfl)
                simp only [Act.put, List.getElem_toArray, List.getElem_cons_succ, List.getElem_cons_zero, List.setIfInBounds_toArray, List.set_cons_zero, List.set_cons_succ]
                refine wpAnyH_take (i := 10) (v := ?_) rfl (by kernel_rfl) (by kernel_rfl) (by kernel_rfl) (fun _ _ _ h => h) (Or.inl ⟨by rfl, ?_⟩) (by assumption) ?_
                rotate_left
                · intro w hSw
                  (try dsimp only at hSw)
                  go_simp
                  try (with_reducible rfl)
                simp only [Act.put, List.getElem_toArray, List.getElem_cons_succ, List.getElem_cons_zero, List.setIfInBounds_toArray, List.set_cons_zero, List.set_cons_succ]
                refine wpAnyH_take (i := 11) (v := ?_) rfl (by kernel_rfl) (by kernel_rfl) (by kernel_rfl) (fun _ _ _ h => h) (Or.inl ⟨by rfl, ?_⟩) (by assumption) ?_
                rotate_left
                · intro w hSw
                  (try dsimp only at hSw)
                  go_simp
                  try (with_reducible rfl)
                simp only [Act.put, List.getElem_toArray, List.getElem_cons_succ, List.getElem_cons_zero, List.setIfInBounds_toArray, List.set_cons_zero, List.set_cons_succ]
                refine wpAnyH_take (i := 12) (v := ?_) rfl (by kernel_rfl) (by kernel_rfl) (by kernel_rfl) (fun _ _ _ h => h) (Or.inl ⟨by rfl, ?_⟩) (by assumption) ?_
                rotate_left
                · intro w hSw
                  (try dsimp only at hSw)
                  go_simp
                  try (with_reducible rfl)
                simp only [Act.put, List.getElem_toArray, List.getElem_cons_succ, List.getElem_cons_zero, List.setIfInBounds_toArray, List.set_cons_zero, List.set_cons_succ]
                refine wpAnyH_take (i := 13) (v := ?_) rfl (by kernel_rfl) (by kernel_rfl) (by kernel_rfl) (fun _ _ _ h => h) (Or.inl ⟨by rfl, ?_⟩) (by assumption) ?_
                rotate_left
                · intro w hSw
                  (try dsimp only at hSw)
                  go_simp
                  try (with_reducible rfl)
                simp only [Act.put, List.getElem_toArray, List.getElem_cons_succ, List.getElem_cons_zero, List.setIfInBounds_toArray, List.set_cons_zero, List.set_cons_succ]
                refine wpAnyH_take (i := 14) (v := ?_) rfl (by kernel_rfl) (by kernel_rfl) (by kernel_rfl) (fun _ _ _ h => h) (Or.inl ⟨by rfl, ?_⟩) (by assumption) ?_
                rotate_left
                · intro w hSw
                  (try dsimp only at hSw)
                  go_simp
                  try (with_reducible rfl)
                simp only [Act.put, List.getElem_toArray, List.getElem_cons_succ, List.getElem_cons_zero, List.setIfInBounds_toArray, List.set_cons_zero, List.set_cons_succ]
                refine wpAnyH_take (i := 15) (v := ?_) rfl (by kernel_rfl) (by kernel_rfl) (by kernel_rfl) (fun _ _ _ h => h) (Or.inl ⟨by rfl, ?_⟩) (by assumption) ?_
                rotate_left
                · intro w hSw
                  (try dsimp only at hSw)
                  go_simp
                  try (with_reducible rfl)
                simp only [Act.put, List.getElem_toArray, List.getElem_cons_succ, List.getElem_cons_zero, List.setIfInBounds_toArray, List.set_cons_zero, List.set_cons_succ]
                refine wpAnyH_take (i := 16) (v := ?_) rfl (by kernel_rfl) (by kernel_rfl) (by kernel_rfl) (fun _ _ _ h => h) (Or.inl ⟨by rfl, ?_⟩) (by assumption) ?_
                rotate_left
                · intro w hSw
                  (try dsimp only at hSw)
                  go_simp
                  try (with_reducible rfl)
                simp only [Act.put, List.getElem_toArray, List.getElem_cons_succ, List.getElem_cons_zero, List.setIfInBounds_toArray, List.set_cons_zero, List.set_cons_succ]
                refine wpAnyH_take (i := 17) (v := ?_) rfl (by kernel_rfl) (by kernel_rfl) (by kernel_rfl) (fun _ _ _ h => h) (Or.inl ⟨by rfl, ?_⟩) (by assumption) ?_
                rotate_left
                · intro w hSw
                  (try dsimp only at hSw)
                  go_simp
                  try (with_reducible rfl)
                simp only [Act.put, List.getElem_toArray, List.getElem_cons_succ, List.getElem_cons_zero, List.setIfInBounds_toArray, List.set_cons_zero, List.set_cons_succ]
                refine wpAnyH_take (i := 18) (v := ?_) rfl (by kernel_rfl) (by kernel_rfl) (by kernel_rfl) (fun _ _ _ h => h) (Or.inl ⟨by rfl, ?_⟩) (by assumption) ?_
                rotate_left
                · intro w hSw
                  (try dsimp only at hSw)
                  go_simp
                  try (with_reducible rfl)
                simp only [Act.put, List.getElem_toArray, List.getElem_cons_succ, List.getElem_cons_zero, List.setIfInBounds_toArray, List.set_cons_zero, List.set_cons_succ]
                refine wpAnyH_take (i := 19) (v := ?_) rfl (by kernel_rfl) (by kernel_rfl) (by kernel_rfl) (fun _ _ _ h => h) (Or.inl ⟨by rfl, ?_⟩) (by assumption) ?_
                rotate_left
                · intro w hSw
                  (try dsimp only at hSw)
                  go_simp
                  try (with_reducible rfl)
                simp only [Act.put, List.getElem_toArray, List.getElem_cons_succ, List.getElem_cons_zero, List.setIfInBounds_toArray, List.set_cons_zero, List.set_cons_succ]
                refine wpAnyH_ready (rs := [20]) (by kernel_rfl) (by simp) ?_
                refine AllReadyH.cons rfl (fun K hK => ?_) AllReadyH.nil
                go_simp
                go_at_call 18
                refine (one_any _ _).mono ?_
                rintro e w' ⟨rfl, rfl⟩
                refine hK.out _ _ ?_ (fun hHeld => ?_)
                · exact KEEP _ (bel_drew (Below.refl _ _))
                clear hK K
                refine wpAnyH_take (i := 21) (v := ?_) rfl (by kernel_rfl) (by kernel_rfl) (by kernel_rfl) (fun _ _ _ h => h) (Or.inl ⟨by rfl, ?_⟩) (by assumption) ?_
                rotate_left
                · intro w hSw
                  (try dsimp only at hSw)
                  go_simp
                  try (with_reducible rfl)
                simp only [Act.put, List.getElem_toArray, List.getElem_cons_succ, List.getElem_cons_zero, List.setIfInBounds_toArray, List.set_cons_zero, List.set_cons_succ]
                refine wpAnyH_take (i := 22) (v := ?_) rfl (by kernel_rfl) (by kernel_rfl) (by kernel_rfl) (fun _ _ _ h => h) (Or.inl ⟨by rfl, ?_⟩) (by assumption) ?_
                rotate_left
                · intro w hSw
                  (try dsimp only at hSw)
                  go_simp
                  try (with_reducible rfl)
                simp only [Act.put, List.getElem_toArray, List.getElem_cons_succ, List.getElem_cons_zero, List.setIfInBounds_toArray, List.set_cons_zero, List.set_cons_succ]
                refine wpAnyH_take (i := 23) (v := ?_) rfl (by kernel_rfl) (by kernel_rfl) (by kernel_rfl) (fun _ _ _ h => h) (Or.inl ⟨by rfl, ?_⟩) (by assumption) ?_
                rotate_left
                · intro w hSw
                  (try dsimp only at hSw)
                  go_simp
                  try (with_reducible rfl)
                simp only [Act.put, List.getElem_toArray, List.getElem_cons_succ, List.getElem_cons_zero, List.setIfInBounds_toArray, List.set_cons_zero, List.set_cons_succ]
                refine wpAnyH_take (i := 24) (v := ?_) rfl (by kernel_rfl) (by kernel_rfl) (by kernel_rfl) (fun _ _ _ h => h) (Or.inl ⟨by rfl, ?_⟩) (by assumption) ?_
                rotate_left
                · intro w hSw
                  (try dsimp only at hSw)
                  go_simp
                  try (with_reducible rfl)
                simp only [Act.put, List.getElem_toArray, List.getElem_cons_succ, List.getElem_cons_zero, List.setIfInBounds_toArray, List.set_cons_zero, List.set_cons_succ]
                refine wpAnyH_take (i := 25) (v := ?_) rfl (by kernel_rfl) (by kernel_rfl) (by kernel_rfl) (fun _ _ _ h => h) (Or.inl ⟨by rfl, ?_⟩) (by assumption) ?_
                rotate_left
                · intro w hSw
                  (try dsimp only at hSw)
                  go_simp
                  try (with_reducible rfl)
                simp only [Act.put, List.getElem_toArray, List.getElem_cons_succ, List.getElem_cons_zero, List.setIfInBounds_toArray, List.set_cons_zero, List.set_cons_succ]
                refine wpAnyH_ready (rs := [26]) (by kernel_rfl) (by simp) ?_
                refine AllReadyH.cons rfl (fun K hK => ?_) AllReadyH.nil
                go_simp
                go_at_call 18
                refine (one_any _ _).mono ?_
                rintro e w' ⟨rfl, rfl⟩
                refine hK.out _ _ ?_ (fun hHeld => ?_)
                · exact KEEP _ (bel_drew (Below.refl _ _))
                clear hK K
                refine wpAnyH_take (i := 27) (v := ?_) rfl (by kernel_rfl) (by kernel_rfl) (by kernel_rfl) (fun _ _ _ h => h) (Or.inl ⟨by rfl, ?_⟩) (by assumption) ?_
                rotate_left
                · intro w hSw
                  (try dsimp only at hSw)
                  go_simp
                  try (with_reducible rfl)
                simp only [Act.put, List.getElem_toArray, List.getElem_cons_succ, List.getElem_cons_zero, List.setIfInBounds_toArray, List.set_cons_zero, List.set_cons_succ]
                refine wpAnyH_take (i := 28) (v := ?_) rfl (by kernel_rfl) (by kernel_rfl) (by kernel_rfl) (fun _ _ _ h => h) (Or.inl ⟨by rfl, ?_⟩) (by assumption) ?_
                rotate_left
                · intro w hSw
                  (try dsimp only at hSw)
                  go_simp
                  try (with_reducible rfl)
                simp only [Act.put, List.getElem_toArray, List.getElem_cons_succ, List.getElem_cons_zero, List.setIfInBounds_toArray, List.set_cons_zero, List.set_cons_succ]
                refine wpAnyH_take (i := 29) (v := ?_) rfl (by kernel_rfl) (by kernel_rfl) (by kernel_rfl) (fun _ _ _ h => h) (Or.inl ⟨by rfl, ?_⟩) (by assumption) ?_
                rotate_left
                · intro w hSw
                  (try dsimp only at hSw)
                  go_simp
                  try (with_reducible rfl)
                simp only [Act.put, List.getElem_toArray, List.getElem_cons_succ, List.getElem_cons_zero, List.setIfInBounds_toArray, List.set_cons_zero, List.set_cons_succ]
                refine wpAnyH_take (i := 30) (v := ?_) rfl (by kernel_rfl) (by kernel_rfl) (by kernel_rfl) (fun _ _ _ h => h) (Or.inl ⟨by rfl, ?_⟩) (by assumption) ?_
                rotate_left
                · intro w hSw
                  (try dsimp only at hSw)
                  go_simp
                  try (with_reducible rfl)
                simp only [Act.put, List.getElem_toArray, List.getElem_cons_succ, List.getElem_cons_zero, List.setIfInBounds_toArray, List.set_cons_zero, List.set_cons_succ]
                refine wpAnyH_take (i := 31) (v := ?_) rfl (by kernel_rfl) (by kernel_rfl) (by kernel_rfl) (fun _ _ _ h => h) (Or.inl ⟨by rfl, ?_⟩) (by assumption) ?_
                rotate_left
                · intro w hSw
                  (try dsimp only at hSw)
                  go_simp
                  try (with_reducible rfl)
                simp only [Act.put, List.getElem_toArray, List.getElem_cons_succ, List.getElem_cons_zero, List.setIfInBounds_toArray, List.set_cons_zero, List.set_cons_succ]
                refine wpAnyH_take (i := 33) (v := ?_) rfl (by kernel_rfl) (by kernel_rfl) (by kernel_rfl) (fun _ _ _ h => h) (Or.inl ⟨by rfl, ?_⟩) (by assumption) ?_
                rotate_left
                · intro w hSw
                  (try dsimp only at hSw)
                  go_simp
                  try (with_reducible rfl)
                simp only [Act.put, List.getElem_toArray, List.getElem_cons_succ, List.getElem_cons_zero, List.setIfInBounds_toArray, List.set_cons_zero, List.set_cons_succ]
                refine wpAnyH_take (i := 35) (v := ?_) rfl (by kernel_rfl) (by kernel_rfl) (by kernel_rfl) (fun _ _ _ h => h) (Or.inl ⟨by rfl, ?_⟩) (by assumption) ?_
                rotate_left
                · intro w hSw
                  (try dsimp only at hSw)
                  go_simp
                  try (with_reducible rfl)
                simp only [Act.put, List.getElem_toArray, List.getElem_cons_succ, List.getElem_cons_zero, List.setIfInBounds_toArray, List.set_cons_zero, List.set_cons_succ]
                refine wpAnyH_ready (rs := [32]) (by kernel_rfl) (by simp) ?_
                refine AllReadyH.cons rfl (fun K hK => ?_) AllReadyH.nil
                go_simp
                go_at_call 43
                refine (cmp3 ah am al bh bm bl h1 h2 h3 h4 h5 h6 _).mono ?_
                rintro e u1 ⟨rfl, hc1⟩
                have Y1 : Below w5.heap.size w5 u1 := bel_trans (bel_drew (Below.refl _ _)) hc1
                clear hc1
                refine hK.out _ _ ?_ (fun hHeld => ?_)
                · exact KEEP _ (Y1)
                clear hK K
                refine wpAnyH_ready (rs := [34]) (by kernel_rfl) (by simp) ?_
                refine AllReadyH.cons rfl (fun K hK => ?_) AllReadyH.nil
                go_simp
                go_at_call 31
                refine (of3_any ah am al h1 h2 h3 _).mono ?_
                rintro e u2 ⟨xs, X, cx, ⟨hvx, hlx⟩, rfl, hcx, hmx, hrx, hc2⟩
                rw [hlx]
                have HVX := Lib.hid hvx
                have HLX := Lib.hid hlx
                have Y2 : Below w5.heap.size w5 u2 := bel_trans Y1 hc2
                clear hvx hlx hc2
                refine hK.out _ _ ?_ (fun hHeld => ?_)
                · exact KEEP _ (Y2)
                clear hK K
                refine wpAnyH_ready (rs := [36]) (by kernel_rfl) (by simp) ?_
                refine AllReadyH.cons rfl (fun K hK => ?_) AllReadyH.nil
                go_simp
                go_at_call 31
                refine (of3_any bh bm bl h4 h5 h6 _).mono ?_
                rintro e u3 ⟨ys, Y, cy, ⟨hvy, hly⟩, rfl, hcy, hmy, hry, hc3⟩
                rw [hly]
                have HVY := Lib.hid hvy
                have HLY := Lib.hid hly
                have Y3 : Below w5.heap.size w5 u3 := bel_trans Y2 hc3
                have hrx3 := hrx.below hc3 (Nat.le_refl _)
                clear hvy hly hc3 hrx
                refine hK.out _ _ ?_ (fun hHeld => ?_)
                · exact KEEP _ (Y3)
                clear hK K
                refine wpAnyH_ready (rs := [37]) (by kernel_rfl) (by simp) ?_
                refine AllReadyH.cons rfl (fun K hK => ?_) AllReadyH.nil
                go_simp
                go_at_call 20
                refine (rcmp_any X Y 192 192 cx cy xs ys _ HLX.out HLY.out hrx3 hry (by decide) (by decide)).mono ?_
                rw [HVX.out, HVY.out]
                rintro e u4 ⟨rfl, rfl⟩
                clear hrx3 hry HVX HLX HVY HLY
                refine hK.out _ _ ?_ (fun hHeld => ?_)
                · exact KEEP _ (Y3)
                clear hK K
                refine wpAnyH_take (i := 38) (v := ?_) rfl (by kernel_rfl) (by kernel_rfl) (by kernel_rfl) (fun _ _ _ h => h) (Or.inl ⟨by rfl, ?_⟩) (by assumption) ?_
                rotate_left
                · intro w hSw
                  (try dsimp only at hSw)
                  go_simp
                  try (with_reducible rfl)
                simp only [Act.put, List.getElem_toArray, List.getElem_cons_succ, List.getElem_cons_zero, List.setIfInBounds_toArray, List.set_cons_zero, List.set_cons_succ]
                refine wpAnyH_take (i := 39) (v := ?_) rfl (by kernel_rfl) (by kernel_rfl) (by kernel_rfl) (fun _ _ _ h => h) (Or.inl ⟨by rfl, ?_⟩) (by assumption) ?_
                rotate_left
                · intro w hSw
                  (try dsimp only at hSw)
                  go_simp
                  try (with_reducible rfl)
                simp only [Act.put, List.getElem_toArray, List.getElem_cons_succ, List.getElem_cons_zero, List.setIfInBounds_toArray, List.set_cons_zero, List.set_cons_succ]
                refine wpAnyH_take (i := 40) (v := ?_) rfl (by kernel_rfl) (by kernel_rfl) (by kernel_rfl) (fun _ _ _ h => h) (Or.inl ⟨by rfl, ?_⟩) (by assumption) ?_
                rotate_left
                · intro w hSw
                  (try dsimp only at hSw)
                  go_simp
                  try (with_reducible rfl)
                simp only [Act.put, List.getElem_toArray, List.getElem_cons_succ, List.getElem_cons_zero, List.setIfInBounds_toArray, List.set_cons_zero, List.set_cons_succ]
                refine wpAnyH_take (i := 41) (v := ?_) rfl (by kernel_rfl) (by kernel_rfl) (by kernel_rfl) (fun _ _ _ h => h) (Or.inl ⟨by rfl, ?_⟩) (by assumption) ?_
                rotate_left
                · intro w hSw
                  (try dsimp only at hSw)
                  go_simp
                  try (with_reducible rfl)
                simp only [Act.put, List.getElem_toArray, List.getElem_cons_succ, List.getElem_cons_zero, List.setIfInBounds_toArray, List.set_cons_zero, List.set_cons_succ]
                refine wpAnyH_take (i := 43) (v := ?_) rfl (by kernel_rfl) (by kernel_rfl) (by kernel_rfl) (fun _ _ _ h => h) (Or.inl ⟨by rfl, ?_⟩) (by assumption) ?_
                rotate_left
                · intro w hSw
                  (try dsimp only at hSw)
                  go_simp
                  try (with_reducible rfl)
                simp only [Act.put, List.getElem_toArray, List.getElem_cons_succ, List.getElem_cons_zero, List.setIfInBounds_toArray, List.set_cons_zero, List.set_cons_succ]
                refine wpAnyH_ready (rs := [42]) (by kernel_rfl) (by simp) ?_
                refine AllReadyH.cons rfl (fun K hK => ?_) AllReadyH.nil
                go_simp
                go_at_call 44
                refine (len3 ah am al h1 h2 h3 _).mono ?_
                rintro e u5 ⟨rfl, hc5⟩
                have Y5 : Below w5.heap.size w5 u5 := bel_trans Y3 hc5
                clear hc5
                refine hK.out _ _ ?_ (fun hHeld => ?_)
                · exact KEEP _ (Y5)
                clear hK K
                refine wpAnyH_ready (rs := [44]) (by kernel_rfl) (by simp) ?_
                refine AllReadyH.cons rfl (fun K hK => ?_) AllReadyH.nil
                go_simp
                go_at_call 31
                refine (of3_any ah am al h1 h2 h3 _).mono ?_
                rintro e u6 ⟨us, U, cu, ⟨hvu, hlu⟩, rfl, hcu, hmu, hru, hc6⟩
                rw [hlu]
                have HVU := Lib.hid hvu
                have HLU := Lib.hid hlu
                have Y6 : Below w5.heap.size w5 u6 := bel_trans Y5 hc6
                clear hvu hlu hc6
                refine hK.out _ _ ?_ (fun hHeld => ?_)
                · exact KEEP _ (Y6)
                clear hK K
                refine wpAnyH_ready (rs := [45]) (by kernel_rfl) (by simp) ?_
                refine AllReadyH.cons rfl (fun K hK => ?_) AllReadyH.nil
                go_simp
                go_at_call 22
                refine (rlen_any U 192 cu us _ HLU.out hru (by decide)).mono ?_
                rw [HVU.out]
                rintro e u7 ⟨rfl, rfl⟩
                clear hru HVU HLU
                refine hK.out _ _ ?_ (fun hHeld => ?_)
                · exact KEEP _ (Y6)
                clear hK K
                refine wpAnyH_take (i := 46) (v := ?_) rfl (by kernel_rfl) (by kernel_rfl) (by kernel_rfl) (fun _ _ _ h => h) (Or.inl ⟨by rfl, ?_⟩) (by assumption) ?_
                rotate_left
                · intro w hSw
                  (try dsimp only at hSw)
                  go_simp
                  try (with_reducible rfl)
                simp only [Act.put, List.getElem_toArray, List.getElem_cons_succ, List.getElem_cons_zero, List.setIfInBounds_toArray, List.set_cons_zero, List.set_cons_succ]
                refine wpAnyH_take (i := 47) (v := ?_) rfl (by kernel_rfl) (by kernel_rfl) (by kernel_rfl) (fun _ _ _ h => h) (Or.inl ⟨by rfl, ?_⟩) (by assumption) ?_
                rotate_left
                · intro w hSw
                  (try dsimp only at hSw)
                  go_simp
                  try (with_reducible rfl)
                simp only [Act.put, List.getElem_toArray, List.getElem_cons_succ, List.getElem_cons_zero, List.setIfInBounds_toArray, List.set_cons_zero, List.set_cons_succ]
                refine wpAnyH_take (i := 48) (v := ?_) rfl (by kernel_rfl) (by kernel_rfl) (by kernel_rfl) (fun _ _ _ h => h) (Or.inl ⟨by rfl, ?_⟩) (by assumption) ?_
                rotate_left
                · intro w hSw
                  (try dsimp only at hSw)
                  go_simp
                  try (with_reducible rfl)
                simp only [Act.put, List.getElem_toArray, List.getElem_cons_succ, List.getElem_cons_zero, List.setIfInBounds_toArray, List.set_cons_zero, List.set_cons_succ]
                refine wpAnyH_done (by kernel_rfl) ?_ _
                go_wp2_with fail
                go_ret
                exact ⟨rfl, bel_trans HW4.out Y6⟩
end Go.Proofs.Ytbpgallhlfjgjaa
