/-
  The walk of WideDivides: for every numbers of two and three words and every word it answers true. Conditions: the fields are words of 64 bits.
-/
import Derived.Test.YtbpgallhlfjgjaaRdiv
import Derived.Test.YtbpgallhlfjgjaaMuls
import Derived.Test.YtbpgallhlfjgjaaDiv3b
namespace Go.Proofs.Ytbpgallhlfjgjaa
open Go.RowKit

theorem quot_unique {a b q r s t : Int} (h1 : q * b + r = a) (h2 : s * b + t = a) (r0 : 0 ≤ r) (r1 : r < b) (t0 : 0 ≤ t) (t1 : t < b) : q = s ∧ r = t := by
  have e : q = s := by
    rcases Int.lt_trichotomy q s with k | k | k
    · have := Int.mul_le_mul_of_nonneg_right (show q + 1 ≤ s by omega) (show 0 ≤ b by omega)
      rw [Int.add_mul] at this
      omega
    · exact k
    · have := Int.mul_le_mul_of_nonneg_right (show s + 1 ≤ q by omega) (show 0 ≤ b by omega)
      rw [Int.add_mul] at this
      omega
  subst e
  exact ⟨rfl, by omega⟩

set_option maxRecDepth 100000 in
set_option maxHeartbeats 6400000 in
theorem divides_walk (ah al b ch cm cl dh dl : Int) (h1 : Word ah) (h2 : Word al) (h3 : Word b) (h4 : Word ch) (h5 : Word cm) (h6 : Word cl) (h7 : Word dh) (h8 : Word dl) (w : World) :
    Calls Try.prog 6 #[.agg #[.int .u64 ah, .int .u64 al], .int .u64 b, .agg #[.int .u64 ch, .int .u64 cm, .int .u64 cl], .agg #[.int .u64 dh, .int .u64 dl]] w fun e w' => e = .returned (.bool true) ∧ Below w.heap.size w w' := by
  go_enter Try.func6, Try.ntmps6
  go_wp2_with fail
  refine (works1 _).mono ?_
  rintro e w1 ⟨rfl, hb1⟩
  have K0 := ((Blk.new w 24 #[.int .u64 ah, .int .u64 al]).alloc (.cells #[.int .u64 ch, .int .u64 cm, .int .u64 cl] 45)).next hb1
  have K1 : Blk w1 (w.heap.size + 1) 45 #[.int .u64 ch, .int .u64 cm, .int .u64 cl] := by
    have := (Blk.new (w.alloc (.cells #[.int .u64 ah, .int .u64 al] 24)) 45 #[.int .u64 ch, .int .u64 cm, .int .u64 cl]).next hb1
    simpa using this
  have K2 : Blk w1 (w.heap.size + 1 + 1) 24 #[.int .u64 dh, .int .u64 dl] := by have := Blk.made hb1; simpa using this
  have D1 := Lib.hid (bel_trans (bel_alloc (bel_alloc (bel_alloc (Below.refl w.heap.size w) _) _) _) hb1)
  clear hb1
  have a0 : w1.cell? ⟨w.heap.size, 0, none⟩ = some (.int .u64 ah) := K0.cell 0
  have a1 : w1.cell? ⟨w.heap.size, 1, none⟩ = some (.int .u64 al) := K0.cell 1
  go_wp2_with fail
  refine (div2 ah al b h1 h2 h3 _).mono ?_
  rintro e w2 ⟨v, ⟨qh, ql, r, wq1, wq2, wr1, hz, hq, rfl⟩, rfl, hb2⟩
  have HZ := Lib.hid hz
  have HQ := Lib.hid hq
  have A0 := K0.below hb2 K0.lt
  have A1 := K1.below hb2 K1.lt
  have A2 := K2.below hb2 K2.lt
  have D2 := Lib.hid (bel_trans D1.out hb2)
  clear hz hq hb2 K0 K1 K2 D1 a0 a1
  have c0 : ∀ o, (w2.alloc o).cell? ⟨w.heap.size + 1, 0, none⟩ = some (.int .u64 ch) := fun o => (A1.alloc o).cell 0
  have c1 : ∀ o, (w2.alloc o).cell? ⟨w.heap.size + 1, 1, none⟩ = some (.int .u64 cm) := fun o => (A1.alloc o).cell 1
  have c2 : ∀ o, (w2.alloc o).cell? ⟨w.heap.size + 1, 2, none⟩ = some (.int .u64 cl) := fun o => (A1.alloc o).cell 2
  have d0 : ∀ o, (w2.alloc o).cell? ⟨w.heap.size + 1 + 1, 0, none⟩ = some (.int .u64 dh) := fun o => (A2.alloc o).cell 0
  have d1 : ∀ o, (w2.alloc o).cell? ⟨w.heap.size + 1 + 1, 1, none⟩ = some (.int .u64 dl) := fun o => (A2.alloc o).cell 1
  go_wp2_with fail
  refine (div3 ch cm cl dh dl h4 h5 h6 h7 h8 _).mono ?_
  rintro e w3 ⟨v, ⟨ph, pm, pl, sh, sl, wp1, wp2, wp3, ws1, ws2, hz3, hq3, rfl⟩, rfl, hb3⟩
  have HZ3 := Lib.hid hz3
  have HQ3 := Lib.hid hq3
  have B0 := ((A0.next hb3).alloc (.cells #[.int .u64 ph, .int .u64 pm, .int .u64 pl] 45)).alloc (.cells #[.int .u64 sh, .int .u64 sl] 24)
  have B1 := ((A1.next hb3).alloc (.cells #[.int .u64 ph, .int .u64 pm, .int .u64 pl] 45)).alloc (.cells #[.int .u64 sh, .int .u64 sl] 24)
  have B2 := ((A2.next hb3).alloc (.cells #[.int .u64 ph, .int .u64 pm, .int .u64 pl] 45)).alloc (.cells #[.int .u64 sh, .int .u64 sl] 24)
  have B3 := ((Blk.made hb3).alloc (.cells #[.int .u64 ph, .int .u64 pm, .int .u64 pl] 45)).alloc (.cells #[.int .u64 sh, .int .u64 sl] 24)
  have B4 := (Blk.new w3 45 #[.int .u64 ph, .int .u64 pm, .int .u64 pl]).alloc (.cells #[.int .u64 sh, .int .u64 sl] 24)
  have B5 : Blk ((w3.alloc (.cells #[.int .u64 ph, .int .u64 pm, .int .u64 pl] 45)).alloc (.cells #[.int .u64 sh, .int .u64 sl] 24)) (w3.heap.size + 1) 24 #[.int .u64 sh, .int .u64 sl] := by
    have := Blk.new (w3.alloc (.cells #[.int .u64 ph, .int .u64 pm, .int .u64 pl] 45)) 24 #[.int .u64 sh, .int .u64 sl]
    simpa using this
  have D3 := Lib.hid (bel_alloc (bel_alloc (bel_trans (bel_alloc D2.out _) hb3) (.cells #[.int .u64 ph, .int .u64 pm, .int .u64 pl] 45)) (.cells #[.int .u64 sh, .int .u64 sl] 24))
  clear hz3 hq3 hb3 A0 A1 A2 D2 c0 c1 c2 d0 d1
  go_upto_if 37 with fail
  generalize (w3.alloc (.cells #[.int .u64 ph, .int .u64 pm, .int .u64 pl] 45)).alloc (.cells #[.int .u64 sh, .int .u64 sl] 24) = W at *
  have a0 : W.cell? ⟨w.heap.size, 0, none⟩ = some (.int .u64 ah) := B0.cell 0
  have a1 : W.cell? ⟨w.heap.size, 1, none⟩ = some (.int .u64 al) := B0.cell 1
  have q0 : W.cell? ⟨w2.heap.size, 0, none⟩ = some (.int .u64 qh) := B3.cell 0
  have q1 : W.cell? ⟨w2.heap.size, 1, none⟩ = some (.int .u64 ql) := B3.cell 1
  go_cut [] (fun wx => Hid (Below W.heap.size W wx))
  case first =>
    by_cases hb0 : b = 0
    · obtain ⟨rfl, rfl, rfl⟩ := HZ.out hb0
      subst hb0
      go_wp2_with fail
      go_meet
      exact Below.refl _ _
    · have tb : (b == 0) = false := by simp [hb0]
      have hbp : 0 < b := by have := h3.1; omega
      obtain ⟨hr1, hqr⟩ := HQ.out hbp
      have HQR := Lib.hid hqr
      clear hqr hb0
      go_wp2_with fail
      refine (of_any ah al h1 h2 _).mono ?_
      rintro e w4 ⟨xs, X, cx, ⟨hvx, hlx⟩, rfl, hcx, hmx, hrx, hb4⟩
      rw [hlx] at hcx ⊢
      have HVX := Lib.hid hvx
      have HLX := Lib.hid hlx
      clear hvx hlx
      go_wp2_with fail
      refine (rof_any _ 1 1 [b] _ rfl (rdw_one (by simp) (by simp [go_sem])) (one_word h3) (by decide)).mono ?_
      rintro e w5 ⟨ys, Y, cy, ⟨hvy, hly⟩, rfl, hcy, hmy, hry, hb5⟩
      have hly' : ys.length = 64 := hly
      rw [hly']
      rw [wv_one] at hvy
      have HVY := Lib.hid hvy
      have HLY := Lib.hid hly'
      have hrx5 := (hrx.alloc (.cells #[.int .u64 b] 22)).below hb5 (Nat.le_refl _)
      clear hvy hly hly' hrx
      go_wp2_with fail
      refine (rdiv_any X Y 128 64 cx cy xs ys _ HLX.out HLY.out hrx5 hry (by decide) (by decide) (by rw [HVY.out]; exact hbp)).mono ?_
      rw [HVX.out, HVY.out]
      rintro e w6 ⟨us, vs, U, V', cu, cv, ⟨e1, e2, e3, e4, e5⟩, rfl, hcu, hcv, hru, hrv, hb6⟩
      have hX := bel_trans (bel_trans (bel_alloc hb4 _) hb5) hb6
      obtain ⟨eq1, eq2⟩ := quot_unique HQR.out e1 (show 0 ≤ r from wr1.1) hr1 e2 e3
      rw [e4] at hcu
      rw [e4]
      have FU : Hid (decide (V2 qh ql = val us) = true) := by show _ = _; rw [decide_eq_true_eq, eq1]
      have FR := Lib.hid eq2
      have HLU := Lib.hid e4
      have B3' := B3.below hX B3.lt
      have HX := Lib.hid hX
      clear e1 e2 e3 e4 eq1 eq2 hX hb4 hb5 hb6 a0 a1 q0 q1 HQR
      generalize hvz : vs.length = vz at *
      have HVZ := Lib.hid hvz
      clear hvz
      have q0 : w6.cell? ⟨w2.heap.size, 0, none⟩ = some (.int .u64 qh) := B3'.cell 0
      have q1 : w6.cell? ⟨w2.heap.size, 1, none⟩ = some (.int .u64 ql) := B3'.cell 1
      go_wp2_with fail
      refine (is_any qh ql U 128 cu us wq1 wq2 _ HLU.out hru (by decide)).mono ?_
      rw [FU.out]
      rintro e w7 ⟨rfl, hb7⟩
      have hrv7 := hrv.below hb7 (Nat.le_refl _)
      have X7 := Lib.hid (bel_trans HX.out hb7)
      clear q0 q1 B3' hb7 HX hru hrv FU
      go_wp2_with fail
      refine (rof_any _ 1 1 [r] _ rfl (rdw_one (by simp) (by simp [go_sem])) (one_word wr1) (by decide)).mono ?_
      rintro e w8 ⟨zs, Z, cz, ⟨hvz, hlz⟩, rfl, hcz, hmz, hrz, hb8⟩
      have hlz' : zs.length = 64 := hlz
      rw [hlz']
      rw [wv_one] at hvz
      have HVZ2 := Lib.hid hvz
      have HLZ := Lib.hid hlz'
      have hrv8 := (hrv7.alloc (.cells #[.int .u64 r] 22)).below hb8 (Nat.le_refl _)
      have X8 := Lib.hid (bel_trans (bel_alloc X7.out _) hb8)
      clear hvz hlz hlz' hb8 X7 hrv7
      go_wp2_with fail
      refine (rcmp_any Z V' 64 vz cz cv zs vs _ HLZ.out HVZ.out hrz hrv8 (by decide) (by omega)).mono ?_
      rw [HVZ2.out, ← FR.out, cmpI_eq]
      rintro e w9 ⟨rfl, rfl⟩
      go_wp2_with fail
      go_meet
      exact X8
  case rest =>
    have HX : Hid (Below W.heap.size W wc) := hcut
    clear hcut
    have C1 := B1.below HX.out B1.lt
    have C2 := B2.below HX.out B2.lt
    have C4 := B4.below HX.out B4.lt
    have C5 := B5.below HX.out B5.lt
    have D4 := Lib.hid (bel_trans D3.out HX.out)
    clear HX B0 B1 B2 B3 B4 B5 D3 a0 a1 q0 q1 HZ HQ
    have c0 : wc.cell? ⟨w.heap.size + 1, 0, none⟩ = some (.int .u64 ch) := C1.cell 0
    have c1 : wc.cell? ⟨w.heap.size + 1, 1, none⟩ = some (.int .u64 cm) := C1.cell 1
    have c2 : wc.cell? ⟨w.heap.size + 1, 2, none⟩ = some (.int .u64 cl) := C1.cell 2
    have d0 : wc.cell? ⟨w.heap.size + 1 + 1, 0, none⟩ = some (.int .u64 dh) := C2.cell 0
    have d1 : wc.cell? ⟨w.heap.size + 1 + 1, 1, none⟩ = some (.int .u64 dl) := C2.cell 1
    have p0 : wc.cell? ⟨w3.heap.size, 0, none⟩ = some (.int .u64 ph) := C4.cell 0
    have p1 : wc.cell? ⟨w3.heap.size, 1, none⟩ = some (.int .u64 pm) := C4.cell 1
    have p2 : wc.cell? ⟨w3.heap.size, 2, none⟩ = some (.int .u64 pl) := C4.cell 2
    have s0 : wc.cell? ⟨w3.heap.size + 1, 0, none⟩ = some (.int .u64 sh) := C5.cell 0
    have s1 : wc.cell? ⟨w3.heap.size + 1, 1, none⟩ = some (.int .u64 sl) := C5.cell 1
    by_cases hd : dh = 0 ∧ dl = 0
    · obtain ⟨rfl, rfl⟩ := hd
      obtain ⟨rfl, rfl, rfl, rfl, rfl⟩ := HZ3.out (by decide)
      go_wp2_with fail
      go_ret
      exact ⟨rfl, D4.out⟩
    · have hdp : 0 < V2 dh dl := by
        have := h7.1
        have := h8.1
        unfold V2
        omega
      obtain ⟨hs1, hpq⟩ := HQ3.out hdp
      have HPQ := Lib.hid hpq
      have HDP := Lib.hid hdp
      have HS1 := Lib.hid hs1
      have HDN := Lib.hid hd
      clear hpq hdp hs1 hd HQ3 HZ3
      go_upto_region 13 with fail
      go_cut [69] (fun s69 wx => s69 = .bool false ∧ wc = wx)
      case first =>
        by_cases hz : dh = 0
        · subst hz
          have hz2 : ¬ dl = 0 := fun e => HDN.out ⟨rfl, e⟩
          go_wp2_with fail
          go_meet
          exact ⟨rfl, rfl⟩
        · go_wp2_with fail
          go_meet
          exact ⟨rfl, rfl⟩
      case rest =>
        obtain ⟨rfl, rfl⟩ := hcut
        go_upto_region 15 with fail
        go_cut [17, 18] (fun s17 s18 wx => ∃ (us vs : List Bool) (U V' : Option Addr) (cu cv uz vz : Nat), s17 = .slice U uz cu ∧ s18 = .slice V' vz cv ∧ Hid (us.length = uz) ∧ Hid (vs.length = vz) ∧ uz ≤ 192 ∧ vz ≤ 128 ∧ Hid (V3 ph pm pl = val us) ∧ Hid (V2 sh sl = val vs) ∧ Rd wx U us ∧ Rd wx V' vs ∧ Hid (Below wc.heap.size wc wx))
        case first =>
          go_region_held3 (fun w' => w'.cell? ⟨w.heap.size + 1, 0, none⟩ = some (.int .u64 ch) ∧ w'.cell? ⟨w.heap.size + 1, 1, none⟩ = some (.int .u64 cm) ∧ w'.cell? ⟨w.heap.size + 1, 2, none⟩ = some (.int .u64 cl) ∧ w'.cell? ⟨w.heap.size + 1 + 1, 0, none⟩ = some (.int .u64 dh) ∧ w'.cell? ⟨w.heap.size + 1 + 1, 1, none⟩ = some (.int .u64 dl))
            ((refine kp5c (W := wc) ?_ ⟨c0, c1, c2, d0, d1⟩; repeat (first | exact Below.refl _ _ | exact Y3 | exact Y2 | exact Y1 | refine bel_drew ?_)))
            (first
              | (go_at_call 31; refine (of3_any ch cm cl h4 h5 h6 _).mono ?_; rintro e u1 ⟨xs, X, cx, ⟨hvx, hlx⟩, rfl, hcx, hmx, hrx, hc1⟩; rw [hlx]; have HVX := Lib.hid hvx; have HLX := Lib.hid hlx; clear hvx hlx; have Y1 : Below wc.heap.size wc u1 := bel_trans (bel_drew (Below.refl _ _)) hc1)
              | (go_at_call 15; refine (of_any dh dl h7 h8 _).mono ?_; rintro e u2 ⟨ys, Y, cy, ⟨hvy, hly⟩, rfl, hcy, hmy, hry, hc2⟩; rw [hly]; have HVY := Lib.hid hvy; have HLY := Lib.hid hly; clear hvy hly; have Y2 : Below wc.heap.size wc u2 := bel_trans Y1 hc2; have hrx2 := hrx.below hc2 (Nat.le_refl _))
              | (go_at_call 37; refine (rdiv_any X Y 192 128 cx cy xs ys _ HLX.out HLY.out hrx2 hry (by decide) (by decide) (by rw [HVY.out]; exact HDP.out)).mono ?_; rw [HVX.out, HVY.out]; rintro e u3 ⟨us, vs, U, V', cu, cv, hQ, rfl, hcu, hcv, hru, hrv, hc3⟩; have Y3 : Below wc.heap.size wc u3 := bel_trans Y2 hc3))
          all_goals
            obtain ⟨e1, e2, e3, e4, e5⟩ := hQ
            obtain ⟨eq1, eq2⟩ := quot_unique HPQ.out e1 (V2_lt ws1 ws2).1 HS1.out e2 e3
            have FU := Lib.hid eq1
            have FV := Lib.hid eq2
            have l1 : us.length ≤ 192 := by omega
            clear e1 e2 e3 e4 eq1 eq2
            generalize huz : us.length = uz at *
            generalize hvz : vs.length = vz at *
            have HUZ := Lib.hid huz
            have HVZ := Lib.hid hvz
            clear huz hvz
            go_wp2_with fail
            go_meet
            exact ⟨us, vs, U, V', cu, cv, uz, vz, rfl, rfl, HUZ, HVZ, l1, e5, FU, FV, hru, hrv, Y3⟩
        case rest =>
          obtain ⟨us, vs, U, V', cu, cv, uz, vz, rfl, rfl, HUZ, HVZ, l1, l2, FU, FV, hru, hrv, HY⟩ := hcut
          have E4 := C4.below HY.out C4.lt
          have E5 := C5.below HY.out C5.lt
          have D5 := Lib.hid (bel_trans D4.out HY.out)
          clear HY C1 C2 C4 C5 D4 c0 c1 c2 d0 d1 p0 p1 p2 s0 s1
          have p0 : wc.cell? ⟨w3.heap.size, 0, none⟩ = some (.int .u64 ph) := E4.cell 0
          have p1 : wc.cell? ⟨w3.heap.size, 1, none⟩ = some (.int .u64 pm) := E4.cell 1
          have p2 : wc.cell? ⟨w3.heap.size, 2, none⟩ = some (.int .u64 pl) := E4.cell 2
          go_wp2_with fail
          refine (is3_any ph pm pl U uz cu us wp1 wp2 wp3 _ HUZ.out hru (by omega)).mono ?_
          rw [show decide (V3 ph pm pl = val us) = true by rw [decide_eq_true_eq]; exact FU.out]
          rintro e w7 ⟨rfl, hb7⟩
          have F5 := E5.below hb7 E5.lt
          have hrv7 := hrv.below hb7 (Nat.le_refl _)
          have D7 := Lib.hid (bel_trans D5.out hb7)
          clear p0 p1 p2 E4 E5 hb7 D5 hru hrv
          have s0 : w7.cell? ⟨w3.heap.size + 1, 0, none⟩ = some (.int .u64 sh) := F5.cell 0
          have s1 : w7.cell? ⟨w3.heap.size + 1, 1, none⟩ = some (.int .u64 sl) := F5.cell 1
          go_wp2_with fail
          refine (is_any sh sl V' vz cv vs ws1 ws2 _ HVZ.out hrv7 (by omega)).mono ?_
          rw [show decide (V2 sh sl = val vs) = true by rw [decide_eq_true_eq]; exact FV.out]
          rintro e w8 ⟨rfl, hb8⟩
          have D8 := Lib.hid (bel_trans D7.out hb8)
          clear s0 s1 F5 hb8 D7 hrv7
          go_wp2_with fail
          go_ret
          exact ⟨rfl, D8.out⟩
end Go.Proofs.Ytbpgallhlfjgjaa
