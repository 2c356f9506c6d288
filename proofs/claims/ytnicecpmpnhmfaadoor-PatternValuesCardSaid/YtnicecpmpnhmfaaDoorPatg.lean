/-
  The contract of the reference's Value: the number that a finite float is, in lowest terms. Conditions: the float is a word, and finite.
-/
import Derived.Test.YtnicecpmpnhmfaaDoorPatf
import Derived.Test.YtnicecpmpnhmfaaDoorMRc
namespace Go.Proofs.YtnicecpmpnhmfaaDoor
open Go.RowKit
set_option maxRecDepth 100000

theorem rdw_one (W : World) (t : TypeId) (d : Int) : RdW (W.alloc (.cells #[.int .u64 d] t)) (some ⟨W.heap.size, 0, none⟩) [d] := by
  refine .inr ⟨_, 0, rfl, by simp, fun j v hj => ?_⟩
  rcases j with _ | j
  · simp at hj; subst hj; simp [go_sem]
  · simp at hj
theorem ofV {A : Option Addr} {w : World} {m : Int} (hr : RdW w A [m]) (hm : Word m) : Calls Tryd.prog 39 #[.slice A 1 1] w (RetV (fun w v => RowV w v m 64) w) := by
  refine (rof_any A 1 1 [m] w rfl hr (fun x hx => by simp at hx; subst hx; exact hm) (by decide)).mono fun e w' r => ?_
  obtain ⟨xs, B, c, ⟨hv, hl⟩, rfl, hc, -, hr, hb⟩ := r
  have hl2 : xs.length = 64 := by rw [hl]; rfl
  exact ⟨_, ⟨B, _, c, xs, rfl, rfl, hc, hr, by rw [hv]; simp [wv], by omega⟩, rfl, hb⟩
theorem shlV {w : World} {x : Value} {p N : Int} {L : Nat} (h : RowV w x p L) (hL : L ≤ 1048576) (h0 : 0 ≤ N) (h1 : N ≤ 1048576) (M : Nat) (hM : L + N.toNat ≤ M) : Calls Tryd.prog 41 #[x, .int .i64 N] w (RetV (fun w v => RowV w v (2 ^ N.toNat * p) M) w) := by
  obtain ⟨A, n, c, xs, rfl, hn, hc, hr, hv, hl⟩ := h
  refine (rshl_any A n c xs N w hn hr (by omega) h0 (by omega)).mono fun e w' r => ?_
  obtain ⟨zs, B, d, hs, rfl, hc2, -, hr2, hb⟩ := r
  obtain ⟨e1, e2⟩ := hs.val
  exact ⟨_, ⟨B, _, d, zs, rfl, rfl, hc2, hr2, by rw [e1, hv], by omega⟩, rfl, hb⟩
theorem row_one (W : World) : Rd (W.alloc (.cells #[.bool true] 4)) (some ⟨W.heap.size, 0, none⟩) [true] := by
  refine .inr ⟨_, 0, rfl, (Blk.new W 4 #[.bool true]).typed, fun i b hi => ?_⟩
  rcases i with _ | i
  · simp at hi
    subst hi
    simp [go_sem]
  · simp at hi
theorem blen_pow (k : Nat) : blen (2 ^ k) = ((k + 1 : Nat) : Int) := by
  refine blen_eq (by omega) (by rw [Nat.add_sub_cancel]; exact Int.le_refl _) ?_
  rw [Int.pow_succ]
  have := pow_pos' k
  omega
theorem shl_one {A : Option Addr} {w : World} {N : Int} (hr : Rd w A [true]) (h0 : 0 ≤ N) (h1 : N ≤ 1048576) (M : Nat) (hM : 1 + N.toNat ≤ M) : Calls Tryd.prog 41 #[.slice A 1 1, .int .i64 N] w (RetV (fun w v => RowC w v (2 ^ N.toNat) M) w) := by
  refine (rshl_any A 1 1 [true] N w rfl hr (by decide) h0 (by omega)).mono fun e w' r => ?_
  obtain ⟨zs, B, d, hs, rfl, hc2, -, hr2, hb⟩ := r
  obtain ⟨e1, e2⟩ := hs.val
  have hlen : zs.length = N.toNat + 1 := by rw [e2]; rfl
  exact ⟨_, ⟨B, _, d, zs, rfl, rfl, hc2, hr2, by rw [e1]; simp [val], by rw [blen_pow, hlen], by omega⟩, rfl, hb⟩

theorem dyR_up (s : Bool) (m e : Int) (h : 0 ≤ e) : rv s (2 ^ e.toNat * m) 1 = dyR s m e := by
  unfold dyR
  rw [show (max e 0).toNat = e.toNat by omega, show (max (-e) 0).toNat = 0 by omega]
  rfl
theorem dyR_half (s : Bool) (m e : Int) (h0 : -1074 ≤ e) (hm : m % 2 = 0) : dyR s (m / 2) (e + 1) = dyR s m e := by
  rw [dyR_over s (m / 2) (e + 1) (by omega), dyR_over s m e h0]
  congr 2
  rw [show (e + 1 + 1074).toNat = (e + 1074).toNat + 1 by omega, Int.pow_succ, Int.mul_comm ((2 : Int) ^ (e + 1074).toNat) 2, ← Int.mul_assoc]
  congr 1
  omega
theorem gcd_odd {m : Int} (h0 : 0 < m) (hm : m % 2 = 1) (k : Nat) : gcdI m (2 ^ k) = 1 := by
  obtain ⟨n, rfl⟩ := Int.eq_ofNat_of_zero_le (Int.le_of_lt h0)
  have hn : n % 2 = 1 := by omega
  have c : Nat.gcd n 2 = 1 := by rw [Nat.gcd_comm, Nat.gcd_rec, hn]; rfl
  have c2 : Nat.gcd n (2 ^ k) = 1 := Nat.Coprime.pow_right k c
  have e : ((2 : Int) ^ k).toNat = 2 ^ k := by
    rw [show (2 : Int) ^ k = ((2 ^ k : Nat) : Int) by simp]
    exact Int.toNat_natCast _
  unfold gcdI
  first
    | (rw [e, Int.toNat_natCast, c2]; rfl)
    | (simp [Int.natAbs_pow, c2])
theorem dyR_low (s : Bool) (m e : Int) (h0 : 0 < m) (hm : m % 2 = 1) (he : e < 0) : rs (dyR s m e) = s ∧ rp (dyR s m e) = m ∧ rq (dyR s m e) = 2 ^ (-e).toNat := by
  unfold dyR
  rw [show (max e 0).toNat = 0 by omega, show (max (-e) 0).toNat = (-e).toNat by omega, Int.pow_zero, Int.one_mul, Int.mul_one]
  obtain ⟨a, b, c⟩ := low_of (s := s) (p := m) (q := 2 ^ (-e).toNat) h0 (pow_pos' _)
  rw [gcd_odd h0 hm, Int.ediv_one] at b
  rw [gcd_odd h0 hm, Int.ediv_one] at c
  exact ⟨a, b, c⟩
theorem fX_pos {f : Int} (h : fY f < 0) : 0 < fX f := by
  have mb := frac_bd (f := f)
  by_cases h2 : fC f = 2
  · have := fXY_norm h2; omega
  · by_cases h1 : fC f = 1
    · have e := fXY_sub h1
      have : fM f ≠ 0 := by
        intro k
        unfold fC at h1
        rw [if_pos k] at h1
        split at h1
        · omega
        · split at h1 <;> omega
      omega
    · have := fXY_else h1 h2; omega

set_option maxHeartbeats 4000000 in
theorem gvalue_any (f : Int) (hf : Word f) (w : World) : Calls Tryd.prog 20 #[.int .u64 f] w (RetQ (fV f) 1200 w) := by
  have yb := fY_bd f
  have wx := fX_word f
  have HP := Lib.hid (fX_pos (f := f))
  have HV : Hid (fV f = dyR (fS f) (fX f) (fY f)) := rfl
  have HU := Lib.hid (dyR_up (fS f))
  have HH := Lib.hid (dyR_half (fS f))
  have HW := Lib.hid (dyR_low (fS f))
  go_enter Tryd.func20, Tryd.ntmps20
  go_wp2_with fail
  have KW := Blk.new w 45 #[.bool false, .slice none 0 0, .slice none 0 0]
  have HB0 := Lib.hid (bel_alloc (Below.refl w.heap.size w) (.cells #[.bool false, .slice none 0 0, .slice none 0 0] 45))
  generalize w.alloc (.cells #[.bool false, .slice none 0 0, .slice none 0 0] 45) = W at *
  refine (gparts_any f hf _).mono ?_
  rintro e w1 ⟨rfl, rfl⟩
  go_wp2_with fail
  refine (gsplit_any f hf _).mono ?_
  rintro e w1 ⟨rfl, rfl⟩
  go_wp2_with fail
  have K0 := KW.alloc (.cells #[.int .u64 (fX f)] 22)
  have H0 := Lib.hid (bel_alloc HB0.out (.cells #[.int .u64 (fX f)] 22))
  clear KW HB0
  refine (ofV (rdw_one _ 22 _) wx).mono ?_
  rintro e w1 ⟨b1, hb1, rfl, bb1⟩
  have K1 := K0.below bb1 K0.lt
  have H1 := Lib.hid (bel_trans H0.out bb1)
  clear K0 H0 bb1
  generalize fS f = s at *
  generalize fX f = m0 at *
  generalize fY f = e0 at *
  go_wp2_with fail
  refine (ofV (rdw_one _ 22 _) ⟨by decide, by decide⟩).mono ?_
  rintro e w2 ⟨b2, hb2, rfl, bb2⟩
  have K2 := (K1.alloc (.cells #[.int .u64 1] 22)).below bb2 (K1.alloc _).lt
  have H2 := Lib.hid (bel_trans (bel_alloc H1.out (.cells #[.int .u64 1] 22)) bb2)
  have hb12 := (hb1.alloc (.cells #[.int .u64 1] 22)).below bb2
  clear K1 H1 bb2 hb1
  by_cases he : 0 ≤ e0
  · have F := Lib.hid ((HU.out m0 e0 he).trans HV.out.symm)
    clear HV HU HH HW HP
    go_wp2_with fail
    refine (shlV hb12 (by decide) he (by omega) 1200 (by omega)).mono ?_
    rintro e w3 ⟨y, hy, rfl, bb3⟩
    have K3 := K2.below bb3 K2.lt
    have H3 := Lib.hid (bel_trans H2.out bb3)
    have hb23 := (hb2.below bb3).mono (M := 1200) (by decide)
    clear K2 H2 bb3 hb12 hb2
    go_wp2_with fail
    refine (low_any s hy hb23 (by decide) (by decide)).mono ?_
    rw [F.out]
    rintro e w4 ⟨x, y4, z4, hq, rfl, bb4⟩
    obtain ⟨s1, A1, n1, k1, B1, m1, l1, rfl, rfl, rfl⟩ := hq.form
    have K4 := K3.below bb4 K3.lt
    have H4 := Lib.hid (bel_trans H3.out bb4)
    clear K3 H3 bb4 hy hb23 F
    obtain ⟨c0, c1, c2, f0, f1, f2⟩ := K4.three
    go_wp2_with fail
    have K5 := K4.put3 (.bool s1) (.slice A1 n1 k1) (.slice B1 m1 l1)
    have y6 := hq.2.1.put3 K4 tQ_ne (.bool s1) (.slice A1 n1 k1) (.slice B1 m1 l1)
    have z6 := hq.2.2.put3 K4 tQ_ne (.bool s1) (.slice A1 n1 k1) (.slice B1 m1 l1)
    have B5 := Lib.hid (bel_put3 H4.out (Nat.le_refl _) (.bool s1) (.slice A1 n1 k1) (.slice B1 m1 l1))
    have q1 := Lib.hid hq.1
    unfold wput at K5 y6 z6 B5
    clear c0 c1 c2 f0 f1 f2 K4 hq H4
    obtain ⟨c0, c1, c2, -, -, -⟩ := K5.three
    try simp only [Exit.inBlock, Exit.then]
    exact bodyPost_ret (v := .agg #[.bool s1, .slice A1 n1 k1, .slice B1 m1 l1]) (by simp [results, Tryd.results20, go_sem, c0, c1, c2]) rfl ⟨_, _, _, ⟨q1.out, y6, z6⟩, rfl, B5.out⟩
  · have hp := HP.out (by omega)
    obtain ⟨A1, n1, k1, rfl⟩ := hb12.form
    obtain ⟨A2, n2, k2, rfl⟩ := hb2.form
    clear hb12 HP
    go_wp2_with fail
    go_loopw [6, 7] (fun s6 s7 wr => ∃ m e : Int, s6 = .int .u64 m ∧ s7 = .int .i64 e ∧ Word m ∧ 0 < m ∧ -1074 ≤ e ∧ e ≤ 0 ∧ Hid (dyR s m e = fV f) ∧ wr = w2) (fun _ s7 _ => (-(intOf s7)).toNat)
    case atStart => exact ⟨m0, e0, rfl, rfl, wx, hp, yb.1, by omega, HV.out.symm, rfl⟩
    case round =>
      obtain ⟨m, e, rfl, rfl, wm, mp, e1, e2, HD, rfl⟩ := hrel
      by_cases hgo : e < 0 ∧ m % 2 = 0
      · obtain ⟨g1, g2⟩ := hgo
        have HD2 : Hid (dyR s (m / 2) (e + 1) = fV f) := (HH.out m e e1 g2).trans HD.out
        obtain ⟨wm0, wm1⟩ := id wm
        have w2' : Word (m / 2) := ⟨by omega, by omega⟩
        clear HV HU HH HW HD K2 H2 hb2
        go_wp2_with fail
        go_roundw
        case rel => exact ⟨m / 2, e + 1, by go_num, by go_num, w2', by omega, by omega, by omega, HD2, by trivial⟩
        case measure => simp [intOf]; omega
      · by_cases h0 : e = 0
        · subst h0
          have F := Lib.hid ((HU.out m 0 (by omega)).trans HD.out)
          clear HV HU HH HW HD
          go_wp2_with fail
          refine (ofV (rdw_one _ 22 _) wm).mono ?_
          rintro e w3 ⟨b3, hb3, rfl, bb3⟩
          have K3 := (K2.alloc (.cells #[.int .u64 m] 22)).below bb3 (K2.alloc _).lt
          have H3 := Lib.hid (bel_trans (bel_alloc H2.out (.cells #[.int .u64 m] 22)) bb3)
          have hb23 := (hb2.alloc (.cells #[.int .u64 m] 22)).below bb3
          clear K2 H2 bb3 hb2
          go_wp2_with fail
          refine (shlV hb3 (by decide) (by decide) (by decide) 1200 (by decide)).mono ?_
          rintro e w4 ⟨y, hy, rfl, bb4⟩
          have K4 := K3.below bb4 K3.lt
          have H4 := Lib.hid (bel_trans H3.out bb4)
          have hb24 := (hb23.below bb4).mono (M := 1200) (by decide)
          clear K3 H3 bb4 hb23 hb3
          go_wp2_with fail
          refine (low_any s hy hb24 (by decide) (by decide)).mono ?_
          rw [F.out]
          rintro e w5 ⟨x, y5, z5, hq, rfl, bb5⟩
          obtain ⟨s6, A6, n6, k6, B6, m6, l6, rfl, rfl, rfl⟩ := hq.form
          have K5 := K4.below bb5 K4.lt
          have H5 := Lib.hid (bel_trans H4.out bb5)
          clear K4 H4 bb5 hy hb24 F
          obtain ⟨c0, c1, c2, f0, f1, f2⟩ := K5.three
          go_wp2_with fail
          have K6 := K5.put3 (.bool s6) (.slice A6 n6 k6) (.slice B6 m6 l6)
          have y6 := hq.2.1.put3 K5 tQ_ne (.bool s6) (.slice A6 n6 k6) (.slice B6 m6 l6)
          have z6 := hq.2.2.put3 K5 tQ_ne (.bool s6) (.slice A6 n6 k6) (.slice B6 m6 l6)
          have H6 := Lib.hid (bel_put3 H5.out (Nat.le_refl _) (.bool s6) (.slice A6 n6 k6) (.slice B6 m6 l6))
          have q1 := Lib.hid hq.1
          unfold wput at K6 y6 z6 H6
          clear c0 c1 c2 f0 f1 f2 K5 hq H5
          obtain ⟨c0, c1, c2, -, -, -⟩ := K6.three
          try simp only [Exit.inBlock, Exit.then]
          exact bodyPost_ret (v := .agg #[.bool s6, .slice A6 n6 k6, .slice B6 m6 l6]) (by simp [results, Tryd.results20, go_sem, c0, c1, c2]) rfl ⟨_, _, _, ⟨q1.out, y6, z6⟩, rfl, H6.out⟩
        · have g1 : e < 0 := by omega
          have g2 : m % 2 = 1 := by omega
          obtain ⟨L1, L2, L3⟩ := HW.out m e mp g2 g1
          rw [HD.out] at L1 L2 L3
          have HL1 := Lib.hid L1
          have HL2 := Lib.hid L2
          have HL3 := Lib.hid L3
          clear HV HU HH HW HD L1 L2 L3
          have hm0 : (m == 0) = false := by simp; omega
          have hN : IntKind.i64.wrap (-e) = -e := wrap_in (by omega) (by omega)
          obtain ⟨N, hNN⟩ : ∃ N : Int, N = -e := ⟨_, rfl⟩
          have HNN := Lib.hid hNN
          have N0 : 0 ≤ N := by omega
          have N1 : N ≤ 1074 := by omega
          clear hNN
          go_wp2_with fail
          refine (ofV (rdw_one _ 22 _) wm).mono ?_
          rintro e w3 ⟨b3, hb3, rfl, bb3⟩
          have K3 := (K2.alloc (.cells #[.int .u64 m] 22)).below bb3 (K2.alloc _).lt
          have H3 := Lib.hid (bel_trans (bel_alloc H2.out (.cells #[.int .u64 m] 22)) bb3)
          have hb23 := (hb2.alloc (.cells #[.int .u64 m] 22)).below bb3
          clear K2 H2 bb3 hb2
          go_wp2_with fail
          rw [← HNN.out]
          refine (shl_one (row_one _) N0 (by omega) 1200 (by omega)).mono ?_
          rw [HNN.out, ← HL3.out]
          rintro e w4 ⟨y, hy, rfl, bb4⟩
          have K4 := (K3.alloc (.cells #[.bool true] 4)).below bb4 (K3.alloc _).lt
          have H4 := Lib.hid (bel_trans (bel_alloc H3.out (.cells #[.bool true] 4)) bb4)
          have hb34 := (hb3.alloc (.cells #[.bool true] 4)).below bb4
          clear K3 H3 bb4 hb23 hb3
          obtain ⟨A, n, c, xs, rfl, hn, hc, hr, hv, hl⟩ := hb34
          have vl := val_lt xs
          rw [hn] at vl
          obtain ⟨K, hK, hKm, hKv⟩ := blen_bound (val_nonneg xs) vl
          have CL := Lib.hid (rlen_any A n c xs w4 hn hr (by omega))
          rw [hK] at CL
          have hb' : Hid (RowC w4 (.slice A K c) (rp (fV f)) 1200) := ⟨A, K, c, xs.take K, rfl, by rw [List.length_take, hn, Nat.min_eq_left hKm], by omega, hr.take K, by rw [val_take_small hKv, hv, HL2.out], by rw [HL2.out, ← hv, hK], by omega⟩
          have hKc : (K : Int) ≤ (c : Int) := by omega
          clear hK hKv vl hr hv hn HL2 HL3
          go_wp2_with fail
          refine CL.out.mono ?_
          rintro e w1 ⟨rfl, rfl⟩
          clear CL
          obtain ⟨B6, m6, l6, rfl⟩ := hy.form
          obtain ⟨c0, c1, c2, f0, f1, f2⟩ := K4.three
          go_wp2_with fail
          have K6 := K4.put3 (.bool s) (.slice A K c) (.slice B6 m6 l6)
          have y6 := hb'.out.put3 K4 tQ_ne (.bool s) (.slice A K c) (.slice B6 m6 l6)
          have z6 := hy.put3 K4 tQ_ne (.bool s) (.slice A K c) (.slice B6 m6 l6)
          have H6 := Lib.hid (bel_put3 H4.out (Nat.le_refl _) (.bool s) (.slice A K c) (.slice B6 m6 l6))
          unfold wput at K6 y6 z6 H6
          clear c0 c1 c2 f0 f1 f2 K4 H4 hb' hy
          obtain ⟨c0, c1, c2, -, -, -⟩ := K6.three
          try simp only [Exit.inBlock, Exit.then]
          exact bodyPost_ret (v := .agg #[.bool s, .slice A K c, .slice B6 m6 l6]) (by simp [results, Tryd.results20, go_sem, c0, c1, c2]) rfl ⟨_, _, _, ⟨by rw [HL1.out], y6, z6⟩, rfl, H6.out⟩
end Go.Proofs.YtnicecpmpnhmfaaDoor
