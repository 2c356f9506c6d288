/-
  The reference of layer 8: a literal's digits as a row of bits, ten to a power, a fraction's float. Conditions: texts of digits of at most 400 bytes; powers up to 2000.
  The reference of layer 8: ten to a power, and a fraction's float. Conditions: powers up to 2000.
  The reference of layer 8: a literal's parts, and the float of one. Conditions: a literal that is read whole as a number, of at most 200 bytes, with a power below a thousand.
-/
import Derived.Test.YtkhddadhkkffnaaGreatDoorMYd
import Derived.Test.YtkhddadhkkffnaaGreatDoorMXd
import Derived.Test.YtkhddadhkkffnaaGreatDoorMHa
import Derived.Test.YtkhddadhkkffnaaGreatDoorMYw
namespace Go.Proofs.YtkhddadhkkffnaaGreatDoor
open Go.RowKit Go.Maps
set_option maxRecDepth 100000

set_option maxHeartbeats 1600000 in
theorem kRun_any (s : ByteArray) (a : Nat) {l : List UInt8} (hS : s.data.toList.drop a = l) (ha : a ≤ s.size) (hs : s.size ≤ 1048576) (w : World) :
    Calls Tryz.prog 91 #[.string s, .int .i64 (a : Int)] w fun e w' => e = .returned (.int .i64 ((a + dgL l : Nat) : Int)) ∧ w = w' := by
  have SD := Lib.hid fun j h1 h2 => scan_dig (j := j) hS h1 h2
  have lb : l.length = s.size - a := by rw [← hS, List.length_drop, ← Lib.size_eq]
  have dl := dgL_le l
  obtain ⟨b, hb⟩ : ∃ b, b = a + dgL l := ⟨_, rfl⟩
  have BD : Hid (b = a + dgL l ∧ b ≤ s.size ∧ s.size ≤ 1048576) := ⟨hb, by omega, hs⟩
  rw [← hb]
  clear hb lb dl hs ha hS
  go_enter Tryz.func91, Tryz.ntmps91
  go_wp2_with fail
  go_loop [1] (fun s1 => ∃ j : Nat, s1 = .int .i64 (j : Int) ∧ a ≤ j ∧ Hid (j ≤ b)) (fun s1 => b - (intOf s1).toNat)
  case atStart => exact ⟨a, rfl, Nat.le_refl _, by have := BD.out; show _ ≤ _; omega⟩
  case round =>
    obtain ⟨j, rfl, h1, h2⟩ := hrel
    have B := BD.out
    have D := SD.out j h1 (by have := h2.out; omega)
    by_cases hlt : j < b
    · have hj : j < s.size := by omega
      rw [decide_eq_true (by omega), byV_in hj] at D
      unfold dgN at D
      simp only [Bool.and_eq_true, decide_eq_true_eq] at D
      obtain ⟨d1, d2⟩ := D
      have h3 : Hid (j + 1 ≤ b) := hlt
      have z0 : (j : Int) < (s.size : Int) := by omega
      have ov : IntKind.i64.wrap ((j : Int) + 1) = ((j + 1 : Nat) : Int) := by rw [IntKind.wrap_i64]; omega
      clear B hlt
      go_wp2_with fail
      go_round
      case rel => exact ⟨j + 1, by go_num, by omega, h3⟩
      case measure => have := h3.out; simp [intOf]; omega
    · obtain rfl : j = b := by have := h2.out; omega
      rw [decide_eq_false (by omega)] at D
      clear hlt
      by_cases hj : j < s.size
      · rw [byV_in hj] at D
        unfold dgN at D
        simp only [Bool.and_eq_false_iff, decide_eq_false_iff_not] at D
        have z0 : (j : Int) < (s.size : Int) := by omega
        have D' : ¬ (48 : Int) ≤ ((s[j]'hj).toNat : Int) ∨ ((48 : Int) ≤ ((s[j]'hj).toNat : Int) ∧ ¬ ((s[j]'hj).toNat : Int) ≤ 57) := by omega
        clear B D
        rcases D' with d1 | ⟨d1, d2⟩
        · go_wp2_with fail
          go_ret
          exact ⟨rfl, rfl⟩
        · go_wp2_with fail
          go_ret
          exact ⟨rfl, rfl⟩
      · have z0 : ¬ (j : Int) < (s.size : Int) := by omega
        clear B D
        go_wp2_with fail
        go_ret
        exact ⟨rfl, rfl⟩

theorem rdw_new9 (W : World) (d : Int) : RdW (W.alloc (.cells #[.int .u64 d] 31)) (some ⟨W.heap.size, 0, none⟩) [d] := by
  refine .inr ⟨_, 0, rfl, by simp, fun i y hi => ?_⟩
  rcases i with _ | i
  · simp at hi; subst hi; simp [go_sem]
  · simp at hi
theorem RdW.below9 {w w' : World} {A : Option Addr} {xs : List Int} {B : Nat} (h : RdW w A xs) (hb : Below B w w') (hB : w.heap.size ≤ B) : RdW w' A xs := by
  rcases h with h | ⟨g, off, e, hg, hc⟩
  · exact .inl h
  · exact .inr ⟨g, off, e, Nat.lt_of_lt_of_le hg hb.size, fun i b hi => (hb.cell (p := ⟨g, off + i, none⟩) (by show g < B; omega)).trans (hc i b hi)⟩
theorem ten_pow9 (k : Nat) : (10 : Int) ^ k ≤ 2 ^ (4 * k) := by
  have h : 10 ^ k ≤ 16 ^ k := Nat.pow_le_pow_left (by decide) k
  have e : (16 : Nat) ^ k = 2 ^ (4 * k) := by rw [Nat.pow_mul]
  rw [e] at h
  have : ((10 ^ k : Nat) : Int) ≤ ((2 ^ (4 * k) : Nat) : Int) := Int.ofNat_le.2 h
  simpa using this
theorem val_four {xs : List Bool} (h : val xs < 16) : val (xs.take 4) = val xs := val_take_small (by simpa using h)
set_option maxHeartbeats 6400000 in
/-- Digits, as a row of bits. -/
theorem kNumber_any (s : ByteArray) (w : World) (hs : s.size ≤ 200) (hd : s.data.toList.all isDig = true) :
    Calls Tryz.prog 64 #[.string s] w (RetV (fun w v => RowC w v (dval s.data.toList) 800) w) := by
  have HD := Lib.hid hd
  clear hd
  go_enter Tryz.func64, Tryz.ntmps64
  go_wp2_with fail
  refine (rof_any _ 1 1 [10] _ rfl (rdw_new9 _ _) ?hw (by decide)).mono ?_
  case hw =>
    intro y hy
    simp at hy
    subst hy
    exact ⟨by decide, by decide⟩
  rintro e w1 ⟨ts, TA, tc, ⟨v1, l1⟩, rfl, hc1, hm1, rt, hb1⟩
  have HB1 := Lib.hid (bel_trans (bel_alloc (Below.refl w.heap.size w) (.cells #[.int .u64 10] 31)) hb1)
  rw [l1] at hc1 ⊢
  have v10 : val ts = 10 := by rw [v1]; rfl
  have VT : Hid (val (ts.take 4) = 10) := by show _ = _; rw [val_four (by omega), v10]
  have LT : Hid ((ts.take 4).length = 4) := by show _ = _; rw [List.length_take, l1]; rfl
  have rt4 := rt.take 4
  clear v1 v10 l1 hb1 rt
  generalize ts.take 4 = ts4 at *
  have tc4 : (4 : Int) ≤ (tc : Int) := by simp at hc1; omega
  clear hc1 hm1
  go_wp2_with fail
  go_loopg [3, 5] s.size (fun gk s4 s6 wr => ∃ (bs : List Bool) (P : Option Addr) (a ca k : Nat), s4 = .slice P a ca ∧ s6 = .int .i64 (k : Int) ∧ Hid (gk = s.size - k) ∧ k ≤ s.size ∧ Hid (bs.length = a) ∧ a ≤ 800 ∧ a ≤ ca ∧ Hid (val bs = dval (s.data.toList.take k)) ∧ Hid ((a : Int) = blen (val bs)) ∧ Rd wr P bs ∧ Rd wr TA ts4 ∧ Hid (Below w.heap.size w wr))
  case atStart => exact ⟨[], none, 0, 0, 0, rfl, rfl, by show _ = _; omega, Nat.zero_le _, rfl, by omega, Nat.le_refl _, by show _ = _; simp [val, dval_nil], by show _ = _; simp [val]; decide, .inl rfl, rt4, HB1⟩
  case round =>
    clear rt4 HB1
    obtain ⟨bs, P, a, ca, k, rfl, rfl, GK, hk, LB, la, lca, VB, BL, rP, rt, HB⟩ := hrel
    by_cases hlt : k < s.size
    · have hts := take_snoc s k hlt
      have hdk : isDig s[k] = true := by
        have : s[k] ∈ s.data.toList.take (k + 1) := by rw [hts]; simp
        exact List.all_eq_true.1 HD.out _ (List.mem_of_mem_take this)
      have hl1 : (k : Int) < (s.size : Int) := by omega
      unfold isDig at hdk
      simp only [Bool.and_eq_true, decide_eq_true_eq] at hdk
      obtain ⟨d1, d2⟩ := hdk
      have DV : Hid (dval (s.data.toList.take (k + 1)) = val bs * 10 + ((s[k].toNat : Int) - 48)) := by show _ = _; rw [hts, dval_snoc, VB.out]
      have DB : Hid (0 ≤ dval (s.data.toList.take (k + 1)) ∧ dval (s.data.toList.take (k + 1)) < 2 ^ 800) := by
        show _ ∧ _
        have h1 := dval_bd (all_take HD.out (k + 1))
        have h2 := ten_pow9 (s.data.toList.take (k + 1)).length
        have h3 : (s.data.toList.take (k + 1)).length ≤ 200 := by
          rw [List.length_take]
          have : s.data.toList.length = s.size := (Lib.size_eq s).symm
          omega
        have h4 := pow_mono (4 * (s.data.toList.take (k + 1)).length) 800 (by omega)
        exact ⟨h1.1, by omega⟩
      have d3 : (48 : Int) ≤ (s[k].toNat : Int) := by omega
      have d4 : (s[k].toNat : Int) ≤ 57 := by omega
      clear hts VB
      obtain ⟨d, hd⟩ : ∃ d : Int, (s[k].toNat : Int) - 48 = d := ⟨_, rfl⟩
      have d5 : 0 ≤ d := by omega
      have d6 : d ≤ 9 := by omega
      rw [hd] at DV
      have RM : Hid (∀ W, Rd W P bs → Rd W TA ts4 → Calls Tryz.prog 66 #[.slice P a ca, .slice TA 4 tc] W (RetRow (IsProd bs ts4) W)) := fun W h1 h2 => rmul_any P TA a 4 ca tc bs ts4 W LB.out LT.out h1 h2 (by omega) (by omega)
      have RO : Hid (∀ W B, RdW W B [d] → Calls Tryz.prog 92 #[.slice B 1 1] W (RetRow (IsOf [d]) W)) := fun W B h1 => rof_any B 1 1 [d] W rfl h1 (fun y hy => by simp at hy; subst hy; exact ⟨by omega, by omega⟩) (by decide)
      have RA : Hid (∀ W A B n m c e (xs ys : List Bool), xs.length = n → ys.length = m → n ≤ 2000 → m ≤ 2000 → Rd W A xs → Rd W B ys → Calls Tryz.prog 93 #[.slice A n c, .slice B m e] W (RetRow (IsSum xs ys) W)) := fun W A B n m c e xs ys h1 h2 h3 h4 h5 h6 => radd_any A B n m c e xs ys W h1 h2 h5 h6 (by omega) (by omega)
      have hw1 : IntKind.u8.wrap d = d := by rw [IntKind.wrap_u8]; exact Int.emod_eq_of_lt (by omega) (by omega)
      have hw2 : IntKind.u64.wrap d = d := by rw [IntKind.wrap_u64]; exact Int.emod_eq_of_lt (by omega) (by omega)
      go_upto_region 6 with fail
      go_cut [3] (fun s4 wx => ∃ (cs : List Bool) (Q : Option Addr) (m cm : Nat), s4 = .slice Q m cm ∧ m ≤ cm ∧ m ≤ 1000 ∧ Hid (cs.length = m) ∧ Hid (val cs = val bs * 10 + d) ∧ Rd wx Q cs ∧ Rd wx TA ts4 ∧ Hid (Below w.heap.size w wx))
      case first =>
        go_region_with
          (first
            | (go_at_call 66; refine Calls.mono (RM.out _ ?_ ?_) ?_; (first | exact rP.drew | exact rP.drew.alloc _ | exact (rP.drew.alloc _).below hbo (Nat.le_refl _)); (first | exact rt.drew | exact rt.drew.alloc _ | exact (rt.drew.alloc _).below hbo (Nat.le_refl _)); rintro e wm ⟨ms, MA, cm, pm, rfl, hcm, hmm, rM, hbm⟩; have lm : ms.length ≤ 2000 := by (have h := pm.2; rw [LB.out, LT.out] at h; omega))
            | (go_at_call 92; refine Calls.mono (RO.out _ _ ?_) ?_; (first | exact rdw_new9 _ _ | exact RdW.below9 (rdw_new9 wr.drew d) hbm (Nat.le_refl _)); rintro e wo ⟨os, OA, co, po, rfl, hco, hmo, rO, hbo⟩; have lo : os.length = 64 := po.2; have lo4 : (os.take 4).length = 4 := (by rw [List.length_take, lo]; rfl); have vo4 : val (os.take 4) = d := (by rw [val_four (by rw [po.1]; simp [wv]; omega), po.1]; simp [wv]); have rO4 := rO.take 4; have co4 : (4 : Int) ≤ (co : Int) := by omega)
            | (go_at_call 93; refine Calls.mono (RA.out _ MA OA ms.length 4 cm co ms (os.take 4) rfl lo4 lm (by decide) ?_ ?_) ?_; (first | exact rM | exact rM.below hbo (Nat.le_refl _) | exact (rM.alloc _).below hbo (Nat.le_refl _)); (first | exact rO4 | exact rO4.below hbm (Nat.le_refl _)); rintro e wa ⟨cs, QA, cq, pa, rfl, hcq, hmq, rQ, hba⟩))
        all_goals
          go_wp2_with fail
          go_meet
          refine ⟨cs, QA, cs.length, cq, rfl, hcq, ?_, rfl, ?_, rQ, ?_, ?_⟩
          · have h := pa.2.2
            have h1 := pm.2
            rw [LB.out, LT.out] at h1
            rw [lo4] at h
            omega
          · show _ = _
            rw [pa.1, pm.1, vo4, VT.out]
          · refine Rd.below ?_ hba (Nat.le_refl _)
            first
              | exact ((rt.drew.below hbm (Nat.le_refl _)).alloc _).below hbo (Nat.le_refl _)
              | exact ((rt.drew.alloc _).below hbm (Nat.le_refl _)).below hbo (Nat.le_refl _)
              | exact ((rt.drew.alloc _).below hbo (Nat.le_refl _)).below hbm (Nat.le_refl _)
          · first
              | exact bel_trans (bel_trans (bel_alloc (bel_trans (bel_drew HB.out) hbm) _) hbo) hba
              | exact bel_trans (bel_trans (bel_trans (bel_alloc (bel_drew HB.out) _) hbm) hbo) hba
              | exact bel_trans (bel_trans (bel_trans (bel_alloc (bel_drew HB.out) _) hbo) hbm) hba
      case rest =>
        obtain ⟨cs, Q, m, cm, rfl, hmc, lm, LC, VC, rQ, rt2, HB2⟩ := hcut
        clear RM RO RA rP rt HB BL
        generalize wc = w4 at *
        have v0 := val_nonneg cs
        have VC2 : Hid (val cs = dval (s.data.toList.take (k + 1))) := by show _ = _; rw [VC.out, DV.out]
        obtain ⟨K, hK, hKm, hKv⟩ := blen_bound v0 (val_lt cs)
        rw [LC.out] at hKm
        have K8 : K ≤ 800 := by
          have h := (blen_bd (k := 800) v0 (by rw [VC2.out]; exact DB.out.2)).2
          rw [hK] at h
          omega
        have CL := Lib.hid (rlen_any Q m cm cs w4 LC.out rQ (by omega))
        rw [hK] at CL
        have r6 := rQ.take K
        have VK : Hid (val (cs.take K) = dval (s.data.toList.take (k + 1))) := by show _ = _; rw [val_take_small hKv, VC2.out]
        have BK : Hid ((K : Int) = blen (val (cs.take K))) := by show _ = _; rw [val_take_small hKv, hK]
        have LK : Hid ((cs.take K).length = K) := by show _ = _; rw [List.length_take, LC.out]; omega
        have hKc : (K : Int) ≤ (cm : Int) := by omega
        clear hK hKv VC VC2 rQ DB DV v0 hd
        generalize cs.take K = ks at *
        go_wp2_with fail
        refine CL.out.mono ?_
        rintro e w5 ⟨rfl, rfl⟩
        clear CL
        go_wp2_with fail
        go_roundg (s.size - (k + 1))
        case measure => rw [GK.out]; omega
        case rel => exact ⟨ks, Q, K, cm, k + 1, rfl, by go_num, rfl, by omega, LK, K8, by omega, VK, BK, r6, rt2, HB2⟩
    · have ek : k = s.size := by omega
      have ht : s.data.toList.take k = s.data.toList := List.take_of_length_le (by simp; omega)
      rw [ht] at VB
      have hl1 : ¬ (k : Int) < (s.size : Int) := by omega
      clear ht ek hlt GK
      go_wp2_with fail
      go_ret
      exact ⟨_, ⟨P, a, ca, bs, rfl, LB.out, lca, rP, VB.out, by rw [BL.out, VB.out], la⟩, rfl, HB.out⟩
end Go.Proofs.YtkhddadhkkffnaaGreatDoor
namespace Go.Proofs.YtkhddadhkkffnaaGreatDoor
open Go.RowKit Go.Maps
set_option maxRecDepth 100000

set_option maxHeartbeats 1600000 in
/-- Ten to a power. -/
theorem kTen_any (N : Int) (n : Nat) (hN : max N 0 = (n : Int)) (hn : n ≤ 2000) (hb : -9223372036854775808 ≤ N ∧ N ≤ 2000) (w : World) :
    Calls Tryz.prog 67 #[.int .i64 N] w (RetV (fun w v => RowC w v ((10 : Int) ^ n) 8001) w) := by
  have HN : Hid (∀ k : Nat, (k : Int) < N ↔ k < n) := fun k => by omega
  have N2 : Hid (n ≤ 2000) := hn
  clear hN hb hn
  go_enter Tryz.func67, Tryz.ntmps67
  go_wp2_with fail
  refine (rof_any _ 1 1 [10] _ rfl ?hr ?hw (by decide)).mono ?_
  case hr =>
    have := rdw_new9 (w.alloc (.cells #[.bool true] 4)) 10
    rw [size_alloc] at this
    exact this
  case hw =>
    intro y hy
    simp at hy
    subst hy
    exact ⟨by decide, by decide⟩
  rintro e w1 ⟨ts, TA, tc, ⟨v1, l1⟩, rfl, hc1, hm1, rt, hb1⟩
  have HB1 := Lib.hid (bel_trans (bel_alloc (bel_alloc (Below.refl w.heap.size w) (.cells #[.bool true] 4)) (.cells #[.int .u64 10] 31)) hb1)
  rw [l1] at hc1 ⊢
  have v10 : val ts = 10 := by rw [v1]; rfl
  have VT : val (ts.take 4) = 10 := by rw [val_four (by omega), v10]
  have LT : (ts.take 4).length = 4 := by rw [List.length_take, l1]; rfl
  have tc4 : (4 : Int) ≤ (tc : Int) := by simp at hc1; omega
  have T4 : RowV w1 (.slice TA 4 tc) 10 4 := ⟨TA, 4, tc, ts.take 4, rfl, LT, by omega, rt.take 4, VT, Nat.le_refl _⟩
  have O1 : RowC w1 (.slice (some ⟨w.heap.size, 0, none⟩) 1 1) 1 8001 := by
    have k1 : Blk ((w.alloc (.cells #[.bool true] 4)).alloc (.cells #[.int .u64 10] 31)) w.heap.size 4 #[.bool true] := (Blk.new w 4 #[.bool true]).alloc _
    have k2 := k1.below hb1 k1.lt
    refine ⟨_, 1, 1, [true], rfl, rfl, Nat.le_refl _, .inr ⟨_, 0, rfl, k2.typed, fun i b hi => ?_⟩, by decide, by rw [blen_1]; rfl, by decide⟩
    rcases i with _ | i
    · simp at hi
      subst hi
      exact k2.cell 0
    · simp at hi
  clear v1 v10 l1 hb1 rt VT LT hc1 hm1
  go_wp2_with fail
  go_loopg [3, 5] n (fun gk s4 s6 wr => ∃ (v : Value) (k : Nat), s4 = v ∧ s6 = .int .i64 (k : Int) ∧ Hid (gk = n - k) ∧ k ≤ n ∧ RowC wr v ((10 : Int) ^ k) 8001 ∧ RowV wr (.slice TA 4 tc) 10 4 ∧ Hid (Below w.heap.size w wr))
  case atStart => exact ⟨_, 0, rfl, rfl, rfl, Nat.zero_le _, O1, T4, HB1⟩
  case round =>
    clear T4 O1 HB1
    obtain ⟨v, k, rfl, rfl, GK, hk, RC, RT, HB⟩ := hrel
    obtain ⟨A, m, c, rfl⟩ := RC.form
    by_cases hlt : k < n
    · have hl1 : (k : Int) < N := (HN.out k).2 hlt
      have ov : IntKind.i64.wrap ((k : Int) + 1) = ((k + 1 : Nat) : Int) := by rw [IntKind.wrap_i64]; have := N2.out; omega
      have ML := Lib.hid (rmulV RC.v RT (by decide) (by decide))
      go_wp2_with fail
      refine ML.out.mono ?_
      rintro e w2 ⟨v2, h2, rfl, hb2⟩
      have RT2 := RT.below hb2
      have HB2 := Lib.hid (bel_trans HB.out hb2)
      have LN := Lib.hid (rlenV h2 (by decide))
      obtain ⟨B, m2, c2, xs, rfl, hx, hc2, hr2, hv2, hl2⟩ := h2
      have nn : (0 : Int) ≤ 10 ^ (k + 1) := Int.pow_nonneg (by decide)
      have e10 : (10 : Int) ^ k * 10 = 10 ^ (k + 1) := by rw [Int.pow_succ]
      rw [e10] at hv2 LN
      have vl := val_lt xs
      rw [hx, hv2] at vl
      obtain ⟨K, hK, hKm, hKv⟩ := blen_bound nn vl
      rw [hK] at LN
      have K8 : K ≤ 8001 := by
        have h1 := ten_pow9 (k + 1)
        have h2 : (2 : Int) ^ (4 * (k + 1)) < 2 ^ (4 * (k + 1) + 1) := by
          rw [Int.pow_succ]
          have := Int.pow_pos (n := 2) (m := 4 * (k + 1)) (by decide)
          omega
        have h := (blen_bd (k := 4 * (k + 1) + 1) nn (by omega)).2
        rw [hK] at h
        have := N2.out
        omega
      have RC2 : RowC w2 (.slice B K c2) ((10 : Int) ^ (k + 1)) 8001 := ⟨B, K, c2, xs.take K, rfl, by rw [List.length_take, hx]; omega, by omega, hr2.take K, by rw [val_take_small (by rw [hv2]; exact hKv), hv2], by rw [hK], K8⟩
      have hKc : (K : Int) ≤ (c2 : Int) := by omega
      clear hb2 ML hr2 hx hv2 hl2 vl hK hKv nn e10 RC RT HB
      go_wp2_with fail
      refine LN.out.mono ?_
      rintro e w3 ⟨rfl, rfl⟩
      clear LN
      go_wp2_with fail
      go_roundg (n - (k + 1))
      case measure => rw [GK.out]; omega
      case rel => exact ⟨_, k + 1, rfl, by go_num, rfl, by omega, RC2, RT2, HB2⟩
    · have hl1 : ¬ (k : Int) < N := fun h => hlt ((HN.out k).1 h)
      obtain rfl : k = n := by omega
      clear hlt RT
      go_wp2_with fail
      go_ret
      exact ⟨_, RC, rfl, HB.out⟩
set_option maxHeartbeats 1600000 in
/-- A fraction above nought, not in lowest terms. -/
theorem fsign_pos {w : World} {y z : Value} {p : Int} {L : Nat} (hy : RowV w y p L) (hz : ∃ B n d, z = .slice B n d) (hp : 0 < p) (hL : L ≤ 1048576) : Calls Tryz.prog 95 #[.agg #[.bool false, y, z]] w fun e w' => e = .returned (.int .i64 1) ∧ Below w.heap.size w w' := by
  obtain ⟨B, n, d, rfl⟩ := hz
  obtain ⟨A, m, c, rfl⟩ := hy.form
  have C1 := fun o => rlenV (hy.alloc o) hL
  have B := blen_zero hy.nonneg
  rw [decide_eq_false (by omega)] at B
  generalize blen p = b at *
  clear hp hy
  go_enter Tryz.func95, Tryz.ntmps95
  go_wp2_with fail
  refine (C1 _).mono ?_
  rintro e w1 ⟨rfl, rfl⟩
  go_wp2_with fail
  go_ret
  exact ⟨rfl, bel_alloc (Below.refl _ _) _⟩
set_option maxHeartbeats 4000000 in
theorem hexact_pos {w : World} {y z : Value} {p q : Int} {L : Nat} (hy : RowV w y p L) (hz : RowV w z q L) (hL : L ≤ 65536) (hp : 0 < p) (hq : 0 < q) : Calls Tryz.prog 68 #[.agg #[.bool false, y, z], .int .u8 0] w fun e w' => ∃ g, e = .returned (.tuple #[.int .u64 (nrF p q), .int .u8 g]) ∧ Below w.heap.size w w' := by
  obtain ⟨A, m, c, rfl⟩ := hy.form
  obtain ⟨B, n, d, rfl⟩ := hz.form
  have SG := Lib.hid (fun W (hb : Below w.heap.size w W) => fsign_pos (hy.below hb) ⟨B, n, d, rfl⟩ hp (by omega))
  have e1 : nrF p q = rF 0 false (nX p q) (sX p q) := by unfold nrF; rw [if_neg (by omega)]
  have XC : Hid (∀ W : World, Below w.heap.size w W → XV W (.agg #[.slice A m c, .slice B n d, .int .i64 0, .bool false]) (nX p q) (sX p q) L) := fun W hb => ⟨_, _, p, q, 0, false, rfl, hy.below hb, hz.below hb, hq, by decide, by decide, hN_frac.1, hN_frac.2⟩
  rw [e1]
  clear e1 hp hq hy hz
  go_enter Tryz.func68, Tryz.ntmps68
  go_wp2_with fail
  refine (SG.out _ (bel_alloc (Below.refl _ _) _)).mono ?_
  rintro x w1 ⟨rfl, hb1⟩
  have B1 : Below w.heap.size w w1 := bel_trans (bel_alloc (Below.refl _ _) _) hb1
  have c0 := hb1.cell (p := ⟨w.heap.size, 0, none⟩) (by simp)
  have c1 := hb1.cell (p := ⟨w.heap.size, 1, none⟩) (by simp)
  have c2 := hb1.cell (p := ⟨w.heap.size, 2, none⟩) (by simp)
  simp [go_sem] at c0 c1 c2
  go_wp2_with fail
  refine (hsigned_any (XC.out _ B1) hL false 0).mono ?_
  rintro x w2 ⟨rfl, hb2⟩
  go_wp2_with fail
  go_ret2
  exact ⟨_, rfl, bel_trans B1 hb2⟩
end Go.Proofs.YtkhddadhkkffnaaGreatDoor
namespace Go.Proofs.YtkhddadhkkffnaaGreatDoor
open Go.RowKit Go.Maps
set_option maxRecDepth 100000

/-- A letter, perhaps a sign, digits. -/
def ShY (x : List UInt8) : Prop := x = [] ∨ ∃ c s e, x = c :: (s ++ e) ∧ (c = 101 ∨ c = 69) ∧ (s = [] ∨ s = [45] ∨ s = [43]) ∧ digB e = true
def yE (x : List UInt8) : List UInt8 := (x.drop 1).drop (sgL (x.drop 1))
def yN (x : List UInt8) : Bool := (x.drop 1).head? == some 45
def yP (x : List UInt8) : Int := if x = [] then 0 else if yN x then -(min (dval (yE x)) 100000) else min (dval (yE x)) 100000
theorem shy_parts {c : UInt8} {s e : List UInt8} (hs : s = [] ∨ s = [45] ∨ s = [43]) (he : digB e = true) : sgL (s ++ e) = s.length ∧ yE (c :: (s ++ e)) = e ∧ yN (c :: (s ++ e)) = decide (s = [45]) := by
  obtain ⟨d, r, e0, hc⟩ := digB_head he
  obtain ⟨-, -, -, -, n1, n2⟩ := dig_not hc
  have h1 : sgL (s ++ e) = s.length := by
    rcases hs with rfl | rfl | rfl
    · rw [List.nil_append, e0, sgL_cons, if_neg (by simp [n1, n2])]; rfl
    · rfl
    · rfl
  refine ⟨h1, ?_, ?_⟩
  · unfold yE
    rw [List.drop_one, List.tail_cons, h1, List.drop_left]
  · unfold yN
    rw [List.drop_one, List.tail_cons]
    rcases hs with rfl | rfl | rfl
    · rw [List.nil_append, e0]
      simp [n2]
    · rfl
    · rfl
theorem exL_shy {x : List UInt8} (hx : ShY x) : exL x = x.length := by
  rcases hx with rfl | ⟨c, s, e, rfl, hc, hs, he⟩
  · rfl
  · have h2 := digB_pos he
    obtain ⟨hs', -, -⟩ := shy_parts (c := c) hs he
    rw [exL_cons, hs', List.drop_left, dgL_all (digB_all he).1, if_pos ⟨hc, by omega⟩]
    simp only [List.length_cons, List.length_append]
    omega
theorem shy_head {x : List UInt8} (hx : ShY x) : ∀ c, x.head? = some c → isDig c = false ∧ c ≠ 46 := by
  intro c hc
  rcases hx with rfl | ⟨d, s, e, rfl, hd, hs, he⟩
  · simp at hc
  · simp only [List.head?_cons, Option.some.injEq] at hc
    subst hc
    rcases hd with rfl | rfl <;> decide
theorem frL_shy {f x : List UInt8} (hf : ShF f) (hx : ShY x) : frL (f ++ x) = f.length := by
  rcases hf with rfl | ⟨g, rfl, hg⟩
  · rw [List.nil_append]
    cases x with
    | nil => rfl
    | cons c x => rw [frL_cons, if_neg (by rintro ⟨h, -⟩; exact (shy_head hx c rfl).2 h)]; rfl
  · have h2 := digB_pos hg
    have e1 : dgL (g ++ x) = g.length := dgL_app (digB_all hg).1 fun c hc => (shy_head hx c hc).1
    rw [List.cons_append, frL_cons, e1, if_pos ⟨rfl, by omega⟩, List.length_cons]
    omega
/-- A number that is a whole text, in its parts. -/
theorem nu_split {l : List UInt8} (h : nuL l = l.length) (h0 : nuL l ≠ 0) : ∃ D f x, l = D ++ (f ++ x) ∧ digB D = true ∧ ShF f ∧ ShY x := by
  have hd0 : dgL l ≠ 0 := fun h1 => by unfold nuL at h0; rw [if_pos h1] at h0; omega
  have eN : nuL l = nuA l + exL (l.drop (nuA l)) := by unfold nuL; rw [if_neg hd0]
  have dl := dgL_le l
  refine ⟨l.take (dgL l), (l.drop (dgL l)).take (frL (l.drop (dgL l))), l.drop (nuA l), ?_, ?_, ?_, ?_⟩
  · unfold nuA
    rw [← List.drop_drop, List.take_append_drop, List.take_append_drop]
  · refine digB_of ?_ fun e => ?_
    · unfold dgL
      rw [take_tw]
      exact tw_all _ _
    · have := congrArg List.length e
      rw [List.length_take, List.length_nil] at this
      omega
  · rcases fr_cases (l.drop (dgL l)) with ⟨e, -⟩ | ⟨r, ex, hd, e⟩
    · rw [e, List.take_zero]
      exact .inl rfl
    · rw [e, ex]
      refine .inr ⟨r.take (dgL r), ?_, digB_of ?_ fun e => ?_⟩
      · rw [show 1 + dgL r = dgL r + 1 by omega, List.take_succ_cons]
      · unfold dgL
        rw [take_tw]
        exact tw_all _ _
      · have := congrArg List.length e
        have := dgL_le r
        rw [List.length_take, List.length_nil] at *
        omega
  · have hx : exL (l.drop (nuA l)) = (l.drop (nuA l)).length := by rw [List.length_drop]; omega
    generalize l.drop (nuA l) = x at *
    rcases ex_cases x with e | ⟨b, r, rfl, hb, hs, hd, e⟩
    · rw [e] at hx
      exact .inl (List.eq_nil_of_length_eq_zero hx.symm)
    · rw [e] at hx
      simp only [List.length_cons] at hx
      have he : digB (r.drop (sgL r)) = true := by
        have hl : dgL (r.drop (sgL r)) = (r.drop (sgL r)).length := by rw [List.length_drop]; omega
        refine digB_of ?_ fun e => ?_
        · have := take_tw isDig (r.drop (sgL r))
          unfold dgL at hl
          rw [hl, List.take_length] at this
          rw [this]
          exact tw_all _ _
        · rw [e] at hd
          exact hd rfl
      rcases hs with hs | ⟨hs, c, hc, hcc⟩
      · rw [hs, List.drop_zero] at he
        exact .inr ⟨b, [], r, rfl, hb, .inl rfl, he⟩
      · rw [hs] at he
        cases r with
        | nil => simp at hc
        | cons d r =>
          obtain rfl : d = c := by simpa using hc
          refine .inr ⟨b, [d], r, rfl, hb, ?_, he⟩
          rcases hcc with rfl | rfl
          · exact .inr (.inr rfl)
          · exact .inr (.inl rfl)
/-- A letter, whichever. -/
theorem rd_letter9 {c : UInt8} (hc : c = 101 ∨ c = 69) {s x : List UInt8} (hs : ∀ b ∈ s, ([101, 69] : List UInt8).contains b = false) : rdI (s ++ c :: x) = (s.length : Int) ∧ rdS (s ++ c :: x) = s ∧ rdX (s ++ c :: x) = x := by
  have e : rdI (s ++ c :: x) = (s.length : Int) := ixa_at _ c x (by rcases hc with rfl | rfl <;> decide) s hs
  refine ⟨e, ?_, ?_⟩
  · unfold rdS
    rw [e, if_pos (by omega)]
    simp
  · unfold rdX
    rw [e, Int.toNat_natCast, ← List.drop_drop, List.drop_left]
    rfl
theorem rx_plus {l : List UInt8} (h : digB l = true) : rxOk (43 :: l) = true ∧ rxV (43 :: l) = min (dval l) 1000 := by
  have p0 : Lib.hasPrefix (43 :: l) [45] = false := by simp [Lib.hasPrefix, List.isPrefixOf]
  have p1 : Lib.hasPrefix (43 :: l) [43] = true := by simp [Lib.hasPrefix, List.isPrefixOf]
  have e : rxD (43 :: l) = l := by unfold rxD Lib.trimPrefix; rw [p0]; simp [p1]
  have k : rxOk (43 :: l) = true := by unfold rxOk; rw [e]; exact h
  refine ⟨k, ?_⟩
  unfold rxV
  rw [if_pos k, p0, e, clamp_is (digB_all h).1]
  rfl
theorem cut_f {D f : List UInt8} (hd : digB D = true) (hf : ShF f) : Lib.cut (D ++ f) [46] = (D, f.drop 1, decide (f ≠ [])) := by
  obtain ⟨a, b⟩ := digB_all hd
  rcases hf with rfl | ⟨g, rfl, hg⟩
  · rw [List.append_nil, cut_none (dig_ne a (by decide))]
    rfl
  · rw [cut_at (dig_ne a (by decide))]
    rfl
theorem shf_no {D f : List UInt8} (hd : digB D = true) (hf : ShF f) : ∀ b ∈ D ++ f, ([101, 69] : List UInt8).contains b = false := fun b hb => by
  rcases List.mem_append.1 hb with h | h
  · exact dig_no (digB_all hd).1 b h
  · rcases hf with rfl | ⟨g, rfl, hg⟩
    · cases h
    · rcases List.mem_cons.1 h with rfl | h
      · decide
      · exact dig_no (digB_all hg).1 b h
theorem shf_dig {f : List UInt8} (hf : ShF f) : (!decide (f ≠ []) || digB (f.drop 1)) = true := by
  rcases hf with rfl | ⟨g, rfl, hg⟩
  · rfl
  · simp [hg]
/-- The literal's value is the number's. -/
theorem rd_shape {D f x : List UInt8} (hd : digB D = true) (hf : ShF f) (hx : ShY x) (hp : dval (yE x) ≤ 1000) : rdOk (D ++ (f ++ x)) = true ∧ rdD (D ++ (f ++ x)) = D ++ f.drop 1 ∧ rdE (D ++ (f ++ x)) = yP x - ((f.drop 1).length : Int) := by
  have hn := shf_no hd hf
  have hq := shf_dig hf
  rcases hx with rfl | ⟨c, s, e, rfl, hc, hs, he⟩
  · rw [List.append_nil]
    obtain ⟨e1, e2⟩ := rd_plain hn
    have cc : rdC (D ++ f) = (D, f.drop 1, decide (f ≠ [])) := by unfold rdC; rw [e2, cut_f hd hf]
    unfold rdOk rdD rdE rdXk rdP yP
    rw [e1, cc]
    dsimp only
    rw [hd, hq]
    exact ⟨rfl, rfl, by simp⟩
  · obtain ⟨-, p2, p3⟩ := shy_parts (c := c) hs he
    rw [p2] at hp
    rw [← List.append_assoc]
    obtain ⟨e1, e2, e3⟩ := rd_letter9 hc (s := D ++ f) (x := s ++ e) hn
    have cc : rdC ((D ++ f) ++ c :: (s ++ e)) = (D, f.drop 1, decide (f ≠ [])) := by unfold rdC; rw [e2, cut_f hd hf]
    have X : rxOk (s ++ e) = true ∧ rxV (s ++ e) = yP (c :: (s ++ e)) := by
      unfold yP
      rw [if_neg (by simp), p2, p3]
      have m1 : min (dval e) 1000 = min (dval e) 100000 := by omega
      rcases hs with rfl | rfl | rfl
      · obtain ⟨x1, x2⟩ := rx_pos he
        exact ⟨x1, by rw [List.nil_append, x2, m1]; rfl⟩
      · obtain ⟨x1, x2⟩ := rx_neg he
        exact ⟨x1, by rw [List.singleton_append, x2, m1]; rfl⟩
      · obtain ⟨x1, x2⟩ := rx_plus he
        exact ⟨x1, by rw [List.singleton_append, x2, m1]; rfl⟩
    unfold rdOk rdD rdE rdXk rdP
    rw [e1, e3, cc, X.1, X.2, if_pos (by omega)]
    dsimp only
    rw [hd, hq]
    exact ⟨by simp, rfl, rfl⟩
set_option maxHeartbeats 8000000 in
theorem kParts_any (s : ByteArray) {D f x : List UInt8} (hl : s.data.toList = D ++ (f ++ x)) (hd : digB D = true) (hf : ShF f) (hx : ShY x) (hs : s.size ≤ 400) {dd : ByteArray} (hdd : dd = ⟨(D ++ f.drop 1).toArray⟩) {bh : Int} (hbh : ((f.drop 1).length : Int) = bh) {pp : Int} (hpp : yP x = pp) (w : World) :
    Calls Tryz.prog 63 #[.string s] w fun e w' => e = .returned (.tuple #[.string dd, .int .i64 bh, .int .i64 pp, .bool true]) ∧ w = w' := by
  have HDD := Lib.hid hdd
  have HBH := Lib.hid hbh
  have HPP := Lib.hid hpp
  clear hdd hbh hpp
  have l1 := digB_pos hd
  have sz : s.size = D.length + f.length + x.length := by rw [Lib.size_eq, hl, List.length_append, List.length_append, Nat.add_assoc]
  have dD : dgL (D ++ (f ++ x)) = D.length := dgL_app (digB_all hd).1 fun c hc => by
    rcases hf with rfl | ⟨g, rfl, hg⟩
    · exact (shy_head hx c hc).1
    · simp only [List.cons_append, List.head?_cons, Option.some.injEq] at hc
      rw [← hc]
      decide
  have R0 := Lib.hid fun w => kRun_any s 0 (l := D ++ (f ++ x)) (by rw [hl]; rfl) (by omega) (by omega) w
  rw [dD, Nat.zero_add] at R0
  obtain ⟨b, hb⟩ : ∃ b, b = D.length := ⟨_, rfl⟩
  obtain ⟨c, hc⟩ : ∃ c, c = D.length + f.length := ⟨_, rfl⟩
  have hS1 : s.data.toList.drop b = f ++ x := by rw [hl, hb, List.drop_left]
  have hS2 : s.data.toList.drop c = x := by rw [hl, hc, ← List.drop_drop, List.drop_left, List.drop_left]
  rw [← hb] at R0
  have FRE := frL_shy hf hx
  have EXE := exL_shy hx
  obtain ⟨fr, fr1, fr2, fr3⟩ := fr_bool hS1
  rw [FRE] at fr1 fr3
  obtain ⟨ex, ex1, ex2, ex3⟩ := ex_bool hS2
  rw [EXE] at ex2
  have BD : Hid (b ≤ s.size ∧ c ≤ s.size ∧ s.size ≤ 400 ∧ 1 ≤ b ∧ c = b + f.length ∧ s.size = c + x.length) := ⟨by omega, by omega, by omega, by omega, by omega, by omega⟩
  have FD : Hid (fr = false → f = []) := fun h => by
    rw [h] at fr1
    have := of_decide_eq_false fr1.symm
    exact List.eq_nil_of_length_eq_zero (by omega)
  have F2 : Hid ((byV s.data.toList b == 46) = fr) := by
    show _ = _
    rcases fr2 with ⟨h1, h2⟩ | ⟨h1, h2⟩
    · rw [h1, h2]
    · rw [h1]
      cases fr
      · exfalso
        have hf0 := List.eq_nil_of_length_eq_zero (l := f) (by have := of_decide_eq_false fr1.symm; omega)
        rw [hf0, List.nil_append] at hS1
        have e0 := byV_drop hS1 0
        rw [Nat.add_zero] at e0
        rw [e0] at h1
        cases x with
        | nil => exact absurd h1 (by decide)
        | cons q x =>
          have e1 : byV (q :: x) 0 = (q.toNat : Int) := rfl
          rw [e1, beq_iff_eq] at h1
          exact (shy_head hx q rfl).2 ((byte_num (by decide)).1 h1)
      · rfl
  have F3 : Hid (fr = true → ∃ g, f = 46 :: g ∧ digB g = true ∧ s.data.toList.drop (b + 1) = g ++ x) := fun h => by
    rcases hf with e | ⟨g, e, hg⟩
    · rw [e] at fr1
      rw [h] at fr1
      cases fr1
    · refine ⟨g, e, hg, ?_⟩
      rw [e] at hS1
      exact drop_cons hS1
  have E1 := Lib.hid ex1
  have E2 : Hid (ex = false → x = []) := fun h => List.eq_nil_of_length_eq_zero (ex2 h)
  have E3 : Hid (ex = true → ∃ q sg e, x = q :: (sg ++ e) ∧ (sg = [] ∨ sg = [45] ∨ sg = [43]) ∧ digB e = true ∧ s.data.toList.drop (c + 1) = sg ++ e) := fun h => by
    rcases hx with e | ⟨q, sg, e, rfl, hq, hs', he⟩
    · rw [h] at ex1
      rw [e] at hS2
      have e0 := byV_drop hS2 0
      rw [Nat.add_zero] at e0
      have e1 : byV ([] : List UInt8) 0 = 0 := rfl
      rw [e0, e1] at ex1
      simp at ex1
    · exact ⟨q, sg, e, rfl, hs', he, drop_cons hS2⟩
  have HX := Lib.hid hx
  have TB : Hid ((s.extract 0 b).data.toList = D) := by
    show _ = _
    rw [take_str, hl, hb, List.take_left]
  have RU := Lib.hid fun a l hS h w => kRun_any s a (l := l) hS h (by omega) w
  clear fr1 fr2 fr3 ex1 ex2 ex3 hS1 hS2 FRE EXE hb hc sz hl l1 hf hx hd dD hs
  have b0 : ((b : Int) == 0) = false := by rw [beq_eq_false_iff_ne]; have := BD.out; omega
  have b1 : (b : Int) ≤ (s.size : Int) := by have := BD.out; omega
  have b2 : (0 : Int) ≤ (b : Int) := by omega
  go_enter Tryz.func63, Tryz.ntmps63
  go_wp2_with fail
  refine (R0.out _).mono ?_
  rintro e w1 ⟨rfl, rfl⟩
  clear R0
  go_upto_region 6 with fail
  go_cut [30] (fun v wx => v = .bool fr ∧ wx = w)
  case first =>
    by_cases hb : b < s.size
    · have f1 := F2.out
      rw [byV_in hb] at f1
      have z0 : (b : Int) < (s.size : Int) := by omega
      have F4 := Lib.hid f1
      clear f1
      go_wp2_with fail
      go_meet
      exact ⟨by rw [← F4.out], rfl⟩
    · have f1 := F2.out
      rw [byV_out hb] at f1
      have z0 : ¬ (b : Int) < (s.size : Int) := by omega
      have F4 : Hid (false = fr) := f1
      clear f1
      go_wp2_with fail
      go_meet
      exact ⟨by rw [← F4.out], rfl⟩
  case rest =>
    obtain ⟨rfl, rfl⟩ := hcut
    go_upto_if 30 with fail
    go_cut [6, 7, 8] (fun v d bv wx => v = .int .i64 (c : Int) ∧ d = .string dd ∧ bv = .int .i64 bh ∧ wx = wc)
    case first =>
      cases fr
      · have hf := FD.out rfl
        have hcb : c = b := by have := BD.out; rw [hf] at this; simp at this; omega
        have TD : Hid (s.extract 0 b = dd) := by show _ = _; rw [HDD.out, str_of TB.out, hf]; simp
        have HF : Hid (f = []) := hf
        clear hf
        go_wp2_with fail
        go_meet
        exact ⟨by rw [hcb], by rw [← TD.out], by rw [← HBH.out, HF.out]; rfl, rfl⟩
      · obtain ⟨g, hf, hg, hS3⟩ := F3.out rfl
        have hgx : dgL (g ++ x) = g.length := dgL_app (digB_all hg).1 fun q hq => (shy_head HX.out q hq).1
        have lg := digB_pos hg
        have hc1 : c = b + 1 + g.length := by have := BD.out; rw [hf] at this; simp at this; omega
        have R1 := Lib.hid fun w => RU.out (b + 1) (g ++ x) hS3 (by have := BD.out; omega) w
        rw [hgx, ← hc1] at R1
        have ov : IntKind.i64.wrap ((b : Int) + 1) = ((b + 1 : Nat) : Int) := by rw [IntKind.wrap_i64]; have := BD.out; omega
        have ne : ((c : Int) == (b : Int) + 1) = false := by rw [beq_eq_false_iff_ne]; omega
        have z1 : (b : Int) + 1 ≤ (c : Int) := by omega
        have z2 : (c : Int) ≤ (s.size : Int) := by have := BD.out; omega
        have z3 : (0 : Int) ≤ (b : Int) + 1 := by omega
        have ov2 : IntKind.i64.wrap ((c : Int) - (b : Int)) = (g.length : Int) + 1 := by rw [IntKind.wrap_i64]; have := BD.out; omega
        have ov3 : IntKind.i64.wrap (g.length : Int) = (g.length : Int) := by rw [IntKind.wrap_i64]; have := BD.out; omega
        have TG : (s.extract (b + 1) c).data.toList = g := by rw [mid_str, hS3, hc1, show b + 1 + g.length - (b + 1) = g.length by omega, List.take_left]
        have TD : Hid (s.extract 0 b ++ s.extract (b + 1) c = dd) := by
          show _ = _
          rw [HDD.out, hf]
          exact str_of (by rw [ByteArray.data_append, Array.toList_append, TB.out, TG]; rfl)
        have HF : Hid ((f.drop 1).length = g.length) := by show _ = _; rw [hf]; rfl
        have sz1 : (s.extract 0 b).size ≤ 400 := by rw [ByteArray.size_extract]; have := BD.out; omega
        have sz2 : (s.extract (b + 1) c).size ≤ 400 := by rw [ByteArray.size_extract]; have := BD.out; omega
        clear hf hg hS3 hgx lg hc1 TG
        go_wp2_with fail
        refine (R1.out _).mono ?_
        rintro e w1 ⟨rfl, rfl⟩
        go_wp2_with fail
        go_meet
        exact ⟨rfl, by rw [← TD.out], by rw [← HBH.out, HF.out], rfl⟩
    case rest =>
      obtain ⟨rfl, rfl, rfl, rfl⟩ := hcut
      clear F2 F3 FD b0 b1 b2
      go_upto_region 14 with fail
      go_cut [66] (fun v wx => v = .bool ex ∧ wx = wc)
      case first =>
        by_cases hc : c < s.size
        · have f1 := E1.out
          rw [byV_in hc] at f1
          have z0 : (c : Int) < (s.size : Int) := by omega
          rcases f1 with ⟨f1, f2⟩ | ⟨f1, f2⟩
          · subst f2
            go_wp2_with fail
            go_meet
            exact ⟨rfl, rfl⟩
          · have F4 := Lib.hid f2
            clear f2
            go_wp2_with fail
            go_meet
            exact ⟨by rw [← F4.out], rfl⟩
        · have f1 := E1.out
          rw [byV_out hc] at f1
          have z0 : ¬ (c : Int) < (s.size : Int) := by omega
          have F4 : Hid (false = ex) := by
            show _ = _
            rcases f1 with ⟨f1, -⟩ | ⟨-, f1⟩
            · cases f1
            · exact f1
          clear f1
          go_wp2_with fail
          go_meet
          exact ⟨by rw [← F4.out], rfl⟩
      case rest =>
        obtain ⟨rfl, rfl⟩ := hcut
        cases ex
        · have hx0 := E2.out rfl
          have YP : Hid (yP x = 0) := by show _ = _; rw [hx0]; rfl
          have EQ : Hid ((c : Int) = (s.size : Int)) := by have := BD.out; rw [hx0] at this; simp at this; show _ = _; omega
          have EQ2 : ((c : Int) == (s.size : Int)) = true := by rw [beq_iff_eq]; exact EQ.out
          clear hx0
          go_wp2_with fail
          refine bodyPost_ret (by simp [results, Tryz.results63, go_sem]; (try rfl)) rfl ⟨?_, rfl⟩
          rw [← HPP.out, YP.out]
        · obtain ⟨q, sg, E, hx, hsg, hE, hS4⟩ := E3.out rfl
          obtain ⟨p1, p2, p3⟩ := shy_parts (c := q) hsg hE
          have lE := digB_pos hE
          obtain ⟨sb, sb1, sb2⟩ := sg_bool hS4
          rw [p1] at sb2
          have SG := Lib.hid sb1
          have SG2 : Hid (sg.length = if sb then 1 else 0) := sb2
          have hlen : x.length = 1 + sg.length + E.length := by rw [hx]; simp; omega
          obtain ⟨k0, hk0⟩ : ∃ k0, k0 = c + 1 + sg.length := ⟨_, rfl⟩
          have hS5 : s.data.toList.drop k0 = E := by rw [hk0, ← List.drop_drop, hS4, List.drop_left]
          have hks : k0 + E.length = s.size := by have := BD.out; omega
          have R2 := Lib.hid fun w => RU.out k0 E hS5 (by omega) w
          rw [dgL_all (digB_all hE).1, hks] at R2
          have MIN : Hid ((byV s.data.toList (c + 1) == 45) = decide (sg = [45])) := by
            show _ = _
            have e0 := byV_drop hS4 0
            rw [Nat.add_zero] at e0
            rw [e0]
            rcases hsg with rfl | rfl | rfl
            · obtain ⟨d, r, e1, hd⟩ := digB_head hE
              rw [e1, List.nil_append]
              have e2 : byV (d :: r) 0 = (d.toNat : Int) := rfl
              rw [e2]
              have : d ≠ 45 := (dig_not hd).2.2.2.2.2
              rw [show ((d.toNat : Int) == 45) = false from byte_ne (n := 45) this (by decide)]
              rfl
            · rfl
            · rfl
          have YP : Hid (yP x = if decide (sg = [45]) then -(min (dval E) 100000) else min (dval E) 100000) := by
            show _ = _
            rw [hx]
            unfold yP
            rw [if_neg (by simp), p2, p3]
          have MINS : Hid (sb = false → decide (sg = [45]) = false) := fun h => by
            rw [h] at sb2
            have := List.eq_nil_of_length_eq_zero sb2
            rw [this]
            rfl
          have KB : Hid (c + 1 ≤ k0 ∧ k0 = c + 1 + sg.length ∧ k0 + E.length = s.size ∧ 1 ≤ E.length ∧ k0 ≤ s.size ∧ c + 1 < s.size) := ⟨by omega, hk0, hks, lE, by omega, by omega⟩
          have HE := Lib.hid (digB_all hE).1
          have DE : Hid (∀ j : Nat, (h : k0 + j < s.size) → E[j]? = some (s[k0 + j]'h)) := fun j h => by
            rw [← hS5, List.getElem?_drop]
            exact at_byte s _ h
          generalize decide (sg = [45]) = mn at *
          have ovc : IntKind.i64.wrap ((c : Int) + 1) = (c : Int) + 1 := by rw [IntKind.wrap_i64]; have := BD.out; omega
          clear hk0 hS5 hks hx hlen lE sb1 sb2 p1 p2 p3 hE hS4 hsg
          go_upto_region 17 with fail
          go_cut [84] (fun v wx => v = .bool sb ∧ wx = wc)
          case first =>
            have hc : c + 1 < s.size := KB.out.2.2.2.2.2
            have f1 := SG.out
            rw [byV_in hc] at f1
            have z0 : (c : Int) + 1 < (s.size : Int) := by omega
            rcases f1 with ⟨f1, f2⟩ | ⟨f1, f2⟩
            · subst f2
              go_wp2_with fail
              go_meet
              exact ⟨rfl, rfl⟩
            · have F4 := Lib.hid f2
              clear f2
              go_wp2_with fail
              go_meet
              exact ⟨by rw [← F4.out], rfl⟩
          case rest =>
            obtain ⟨rfl, rfl⟩ := hcut
            go_upto_if 84 with fail
            go_cut [6, 11] (fun v m wx => v = .int .i64 (k0 : Int) ∧ m = .bool mn ∧ wx = wc)
            case first =>
              cases sb
              · have hk : k0 = c + 1 := by have := KB.out.2.1; rw [SG2.out] at this; exact this
                have hm := MINS.out rfl
                go_wp2_with fail
                go_meet
                exact ⟨by rw [hk]; go_num, by rw [hm], rfl⟩
              · have hc : c + 1 < s.size := KB.out.2.2.2.2.2
                have hk : (k0 : Int) = (c : Int) + 1 + 1 := by have := KB.out.2.1; rw [SG2.out] at this; simp at this; omega
                have f1 := MIN.out
                rw [byV_in hc] at f1
                have z0 : (c : Int) + 1 < (s.size : Int) := by omega
                have z1 : (0 : Int) ≤ (c : Int) + 1 := by omega
                have ov2 : IntKind.i64.wrap ((c : Int) + 1 + 1) = (k0 : Int) := by rw [IntKind.wrap_i64]; have := BD.out; omega
                have F4 := Lib.hid f1
                clear f1 hk
                go_wp2_with fail
                go_meet
                exact ⟨rfl, by rw [← F4.out], rfl⟩
            case rest =>
              obtain ⟨rfl, rfl, rfl⟩ := hcut
              have KB' := KB.out
              have n1 : ((s.size : Int) == (k0 : Int)) = false := by rw [beq_eq_false_iff_ne]; omega
              have SZ := BD.out.2.2.1
              clear SG SG2 MIN MINS KB'
              go_wp2_with fail
              refine (R2.out _).mono ?_
              rintro e w1 ⟨rfl, rfl⟩
              go_wp2_with fail
              go_loop [10, 13] (fun s10 s13 => ∃ j : Nat, s10 = .int .i64 (min (dval (E.take j)) 100000) ∧ s13 = .int .i64 ((k0 + j : Nat) : Int) ∧ Hid (k0 + j ≤ s.size)) (fun _ s13 => s.size - (intOf s13).toNat)
              case atStart => exact ⟨0, by rw [List.take_zero]; rfl, by rw [Nat.add_zero], KB.out.2.2.2.2.1⟩
              case round =>
                obtain ⟨j, rfl, rfl, hj⟩ := hrel
                have KB' := KB.out
                have hj' := hj.out
                have ovj : IntKind.i64.wrap (((k0 + j : Nat) : Int) + 1) = ((k0 + (j + 1) : Nat) : Int) := by rw [IntKind.wrap_i64]; omega
                by_cases hlt : k0 + j < s.size
                · have e1 := DE.out j hlt
                  have hd : isDig (s[k0 + j]'hlt) = true := List.all_eq_true.1 HE.out _ (List.mem_of_getElem? e1)
                  have tk : E.take (j + 1) = E.take j ++ [s[k0 + j]'hlt] := by
                    have hl : j < E.length := (List.getElem?_eq_some_iff.1 e1).1
                    rw [List.take_succ_eq_append_getElem hl, (List.getElem?_eq_some_iff.1 e1).2]
                  have dv0 := (dval_bd (all_take HE.out j)).1
                  have DV : dval (E.take (j + 1)) = dval (E.take j) * 10 + (((s[k0 + j]'hlt).toNat : Int) - 48) := by rw [tk, dval_snoc]
                  obtain ⟨d1, d2⟩ := dig_bd hd
                  obtain ⟨kj, hkj⟩ : ∃ kj, kj = k0 + j := ⟨_, rfl⟩
                  have hk : kj < s.size := by omega
                  obtain ⟨B, hB⟩ : ∃ B : Int, ((s[kj]'hk).toNat : Int) = B := ⟨_, rfl⟩
                  have hB' : ((s[k0 + j]'hlt).toNat : Int) = B := by subst hkj; exact hB
                  rw [hB'] at d1 d2 DV
                  rw [← hkj] at ovj ⊢
                  generalize dval (E.take j) = V at *
                  have w1 : IntKind.u8.wrap (B - 48) = B - 48 := by rw [IntKind.wrap_u8]; omega
                  have w2 : IntKind.i64.wrap (B - 48) = B - 48 := by rw [IntKind.wrap_i64]; omega
                  have w3 : IntKind.i64.wrap (min V 100000 * 10) = min V 100000 * 10 := by rw [IntKind.wrap_i64]; omega
                  have w4 : IntKind.i64.wrap (min V 100000 * 10 + (B - 48)) = min V 100000 * 10 + (B - 48) := by rw [IntKind.wrap_i64]; omega
                  have MV : Hid (min (min V 100000 * 10 + (B - 48)) 100000 = min (dval (E.take (j + 1))) 100000) := by show _ = _; rw [DV]; omega
                  have z0 : (kj : Int) < (s.size : Int) := by omega
                  have HJ : Hid (k0 + (j + 1) ≤ s.size) := by show _ ≤ _; omega
                  have HKJ : Hid (kj = k0 + j) := hkj
                  clear e1 hd tk dv0 DV hkj hB' hlt KB' hj'
                  go_wp2_with fail
                  refine ⟨⟨j + 1, by rw [MV.out], by go_num, HJ⟩, ?_⟩
                  have := HKJ.out
                  have := HJ.out
                  simp [intOf]
                  omega
                · have hjE : E.take j = E := List.take_of_length_le (by omega)
                  obtain ⟨kj, hkj⟩ : ∃ kj, kj = k0 + j := ⟨_, rfl⟩
                  rw [hjE, ← hkj]
                  have z0 : ¬ (kj : Int) < (s.size : Int) := by omega
                  have dv0 := (dval_bd HE.out).1
                  have YPP : Hid (pp = if mn = true then -(min (dval E) 100000) else min (dval E) 100000) := by show _ = _; rw [← HPP.out, YP.out]
                  obtain ⟨M, hM⟩ : ∃ M, M = min (dval E) 100000 := ⟨_, rfl⟩
                  have w1 : IntKind.i64.wrap (-M) = -M := by rw [IntKind.wrap_i64]; omega
                  rw [← hM] at YPP ⊢
                  clear hM
                  clear hkj hjE hlt KB' hj' ovj dv0
                  cases mn
                  · go_wp2_with fail
                    refine bodyPost_ret (by simp [results, Tryz.results63, go_sem]; (try rfl)) rfl ⟨?_, rfl⟩
                    rw [YPP.out]
                    rfl
                  · go_wp2_with fail
                    refine bodyPost_ret (by simp [results, Tryz.results63, go_sem]; (try rfl)) rfl ⟨?_, rfl⟩
                    rw [YPP.out]
                    rfl
theorem nX_of {L : Nat} {w : World} {v : Value} {p : Int} (h : RowC w v p L) : RowV w v p L := h.v
set_option maxHeartbeats 4000000 in
/-- The reference's float of a number that is a whole text. -/
theorem kParse_any (l : List UInt8) (hn : nuL l = l.length) (h0 : nuL l ≠ 0) (hl : l.length ≤ 100) (hp : ∀ D f x, l = D ++ (f ++ x) → digB D = true → ShF f → ShY x → dval (yE x) ≤ 1000) (w : World) :
    Calls Tryz.prog 38 #[.string ⟨l.toArray⟩] w fun e w' => e = .returned (.tuple #[.int .u64 (psF l), .int .i64 (psE l)]) ∧ Below w.heap.size w w' := by
  obtain ⟨D, f, x, e, hd, hf, hx⟩ := nu_split hn h0
  have hpx := hp D f x e hd hf hx
  obtain ⟨r1, r2, r3⟩ := rd_shape hd hf hx hpx
  rw [← e] at r1 r2 r3
  have hg : (D ++ f.drop 1).all isDig = true := by
    rw [List.all_append, (digB_all hd).1]
    rcases hf with rfl | ⟨g, rfl, hg⟩
    · rfl
    · rw [List.drop_one, List.tail_cons, (digB_all hg).1]
      rfl
  have ll : l.length = D.length + f.length + x.length := by rw [e, List.length_append, List.length_append, Nat.add_assoc]
  have lf : (f.drop 1).length ≤ f.length := by rw [List.length_drop]; omega
  obtain ⟨dd, hdd⟩ : ∃ dd : ByteArray, dd = ⟨(D ++ f.drop 1).toArray⟩ := ⟨_, rfl⟩
  have ddt : dd.data.toList = D ++ f.drop 1 := by rw [hdd]
  have dds : dd.size ≤ 200 := by rw [Lib.size_eq, ddt, List.length_append]; omega
  obtain ⟨bh, hbh⟩ : ∃ bh : Int, ((f.drop 1).length : Int) = bh := ⟨_, rfl⟩
  obtain ⟨pp, hpp⟩ : ∃ pp, yP x = pp := ⟨_, rfl⟩
  have ppb : -1000 ≤ pp ∧ pp ≤ 1000 := by
    rw [← hpp]
    unfold yP
    have d0 : 0 ≤ dval (yE x) ∨ x = [] := by
      rcases hx with rfl | ⟨c, s, e, rfl, hc, hs, he⟩
      · exact .inr rfl
      · rw [(shy_parts (c := c) hs he).2.1]
        exact .inl (dval_bd (digB_all he).1).1
    split
    · decide
    · rename_i hne
      have := d0.resolve_right hne
      split <;> omega
  have bhb : 0 ≤ bh ∧ bh ≤ 100 := by omega
  have PT := Lib.hid fun w => kParts_any ⟨l.toArray⟩ (D := D) (f := f) (x := x) (by rw [str_data]; exact e) hd hf hx (by rw [str_size]; omega) hdd hbh hpp w
  have NU := Lib.hid fun w => kNumber_any dd w dds (by rw [ddt]; exact hg)
  rw [ddt, ← r2] at NU
  have RE : rdE l = pp - bh := by rw [r3, hpp, hbh]
  have dv0 := (dval_bd (digB_all (rdD_dig r1)).1).1
  have T1 := Lib.hid fun w => kTen_any (max (pp - bh) 0) (max (pp - bh) 0).toNat (by omega) (by omega) (by omega) w
  have T2 := Lib.hid fun w => kTen_any (max (bh - pp) 0) (max (bh - pp) 0).toNat (by omega) (by omega) (by omega) w
  have NV : nearV (rdD l) (rdE l) = nrF (dval (rdD l) * 10 ^ (max (pp - bh) 0).toNat) (10 ^ (max (bh - pp) 0).toNat) := by
    unfold nearV
    rw [RE, show max (-(pp - bh)) 0 = max (bh - pp) 0 by omega]
  have nle := near_le (rdD l) (rdE l) (digB_all (rdD_dig r1)).1
  have inf := cls_inf nle.1 nle.2
  have PE : psE l = if nearV (rdD l) (rdE l) = 9218868437227405312 then 82 else 0 := by
    unfold psE
    rw [if_neg (by omega), if_pos r1]
    by_cases h : nearV (rdD l) (rdE l) = 9218868437227405312
    · rw [if_pos h, if_pos (inf.2 h)]
    · rw [if_neg h, if_neg (fun h' => h (inf.1 h'))]
  have PF : psF l = if nearV (rdD l) (rdE l) = 9218868437227405312 then 0 else nearV (rdD l) (rdE l) := by
    unfold psF
    rw [PE]
    by_cases h : nearV (rdD l) (rdE l) = 9218868437227405312
    · rw [if_pos h, if_pos h, if_neg (by decide)]
    · rw [if_neg h, if_neg h, if_pos rfl]
  rw [NV] at PE PF
  have o1 : IntKind.i64.wrap (pp - bh) = pp - bh := by rw [IntKind.wrap_i64]; omega
  have o2 : IntKind.i64.wrap (bh - pp) = bh - pp := by rw [IntKind.wrap_i64]; omega
  have pw1 : (0 : Int) < 10 ^ (max (pp - bh) 0).toNat := Int.pow_pos (by decide)
  have pw2 : (0 : Int) < 10 ^ (max (bh - pp) 0).toNat := Int.pow_pos (by decide)
  generalize (10 : Int) ^ (max (pp - bh) 0).toNat = P1 at *
  generalize (10 : Int) ^ (max (bh - pp) 0).toNat = P2 at *
  generalize dval (rdD l) = V at *
  generalize psF l = RF at *
  generalize psE l = RE' at *
  have sz : ¬ (400 : Int) < ((⟨l.toArray⟩ : ByteArray).size : Int) := by rw [str_size]; omega
  generalize (⟨l.toArray⟩ : ByteArray) = s at *
  clear hp hpx r1 r2 r3 hg ll lf hdd ddt dds hbh hpp ppb bhb RE NV nle inf hd hf hx e hn h0 hl
  by_cases hV : V = 0
  · have N0 : nrF (V * P1) P2 = 0 := by rw [hV, Int.zero_mul]; unfold nrF; rw [if_pos (.inl rfl)]
    rw [N0] at PE PF
    have HPE : Hid (RE' = 0) := PE
    have HPF : Hid (RF = 0) := PF
    have b0 : blen V = 0 := by rw [hV]; decide
    clear PE PF N0 T1 T2 o1 o2
    go_enter Tryz.func38, Tryz.ntmps38
    go_wp2_with fail
    refine (PT.out _).mono ?_
    rintro e w1 ⟨rfl, rfl⟩
    go_wp2_with fail
    refine (NU.out _).mono ?_
    rintro e w2 ⟨v, rc, rfl, hb2⟩
    have HB2 := Lib.hid hb2
    have LN := Lib.hid (rlenV rc.v (by decide))
    rw [b0] at LN
    clear hb2 NU PT
    go_wp2_with fail
    refine LN.out.mono ?_
    rintro e w3 ⟨rfl, rfl⟩
    go_wp2_with fail
    go_ret2
    exact ⟨by rw [HPE.out, HPF.out]; rfl, HB2.out⟩
  · have b1 : (blen V == 0) = false := by rw [blen_zero dv0]; exact decide_eq_false hV
    have vp : 0 < V * P1 := Int.mul_pos (by omega) pw1
    have HPE := Lib.hid PE
    have HPF := Lib.hid PF
    have PW2 := Lib.hid pw2
    clear PE PF dv0 hV pw1 pw2
    go_enter Tryz.func38, Tryz.ntmps38
    go_wp2_with fail
    refine (PT.out _).mono ?_
    rintro e w1 ⟨rfl, rfl⟩
    go_wp2_with fail
    refine (NU.out _).mono ?_
    rintro e w2 ⟨v, rc, rfl, hb2⟩
    have HB2 := Lib.hid hb2
    have LN := Lib.hid (rlenV rc.v (by decide))
    have VP := Lib.hid vp
    obtain ⟨A, m, cp, rfl⟩ := rc.form
    clear hb2 NU PT vp
    generalize blen V = bv at *
    go_wp2_with fail
    refine LN.out.mono ?_
    rintro e w3 ⟨rfl, rfl⟩
    clear LN
    go_wp2_with fail
    refine (T1.out _).mono ?_
    rintro e w3 ⟨v1, rc1, rfl, hb3⟩
    have rc' := rc.below hb3
    have HB3 := Lib.hid (bel_trans HB2.out hb3)
    have ML := Lib.hid (rmulV rc'.v rc1.v (by decide) (by decide))
    obtain ⟨A1, m1, cp1, rfl⟩ := rc1.form
    clear hb3 T1 rc rc' rc1 HB2 b1
    go_wp2_with fail
    refine ML.out.mono ?_
    rintro e w4 ⟨v2, rv2, rfl, hb4⟩
    have HB4 := Lib.hid (bel_trans HB3.out hb4)
    clear hb4 ML HB3
    go_wp2_with fail
    refine (T2.out _).mono ?_
    rintro e w5 ⟨v3, rc3, rfl, hb5⟩
    have rv2' := rv2.below hb5
    have HB5 := Lib.hid (bel_trans HB4.out hb5)
    obtain ⟨A2, m2, cp2, rfl⟩ := rv2'.form
    obtain ⟨A3, m3, cp3, rfl⟩ := rc3.form
    have EX := Lib.hid (fun W (hb : Below w5.heap.size w5 W) => hexact_pos ((rv2'.mono (M := 20000) (by decide)).below hb) ((rc3.v.mono (M := 20000) (by decide)).below hb) (by decide) VP.out PW2.out)
    clear hb5 T2 HB4 rv2 rv2' rc3
    generalize nrF (V * P1) P2 = F at *
    go_wp2_with fail
    refine (EX.out _ (bel_alloc (Below.refl _ _) _)).mono ?_
    rintro e w6 ⟨g, rfl, hb6⟩
    have HB6 := Lib.hid (bel_trans (bel_alloc HB5.out _) hb6)
    clear hb6 EX HB5
    by_cases hF : F = 9218868437227405312
    · have f1 : (F == 9218868437227405312) = true := by rw [beq_iff_eq]; exact hF
      have P1 : Hid (RE' = 82) := by show _ = _; rw [HPE.out, if_pos hF]
      have P2 : Hid (RF = 0) := by show _ = _; rw [HPF.out, if_pos hF]
      clear hF
      go_wp2_with fail
      go_ret2
      exact ⟨by rw [P1.out, P2.out]; rfl, HB6.out⟩
    · have f1 : (F == 9218868437227405312) = false := by rw [beq_eq_false_iff_ne]; exact hF
      have P1 : Hid (RE' = 0) := by show _ = _; rw [HPE.out, if_neg hF]
      have P2 : Hid (RF = F) := by show _ = _; rw [HPF.out, if_neg hF]
      clear hF
      go_wp2_with fail
      go_ret2
      exact ⟨by rw [P1.out, P2.out]; rfl, HB6.out⟩
end Go.Proofs.YtkhddadhkkffnaaGreatDoor
