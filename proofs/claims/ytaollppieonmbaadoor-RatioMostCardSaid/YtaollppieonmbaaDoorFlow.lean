/-
  Contracts of the reference's trim, one, Low, Minus, Over, Sign, Mul, Add, Cmp and Text of fractions. Conditions: the rows are of at most 2^13 bits.
-/
import Derived.Test.YtaollppieonmbaaDoorRmax
namespace Go.Proofs.YtaollppieonmbaaDoor
open Go.RowKit
set_option maxRecDepth 100000

theorem tQ_ne : (30 : TypeId) ≠ 4 := by decide
theorem trim_row {w : World} {x : Value} {p : Int} {L : Nat} (h : RowV w x p L) (hL : L ≤ 1048576) : Calls Tryd.prog 49 #[x] w fun e w' => (∃ v, RowC w v p L ∧ e = .returned v) ∧ w = w' := by
  obtain ⟨A, n, c, xs, rfl, hn, hc, hr, hv, hl⟩ := h
  have vl := val_lt xs
  rw [hn] at vl
  obtain ⟨K, hK, hKm, hKv⟩ := blen_bound (val_nonneg xs) vl
  have CL := Lib.hid (rlen_any A n c xs w hn hr (by omega))
  rw [hK] at CL
  have HL : Hid ((xs.take K).length = K) := by show _ = _; rw [List.length_take, hn, Nat.min_eq_left hKm]
  have HV : Hid (val (xs.take K) = p) := by show _ = _; rw [val_take_small hKv, hv]
  have HK : Hid ((K : Int) = blen p) := by show _ = _; rw [← hv, hK]
  have hrt := hr.take K
  have hKc : (K : Int) ≤ (c : Int) := by omega
  clear hK hKv vl hr hv hn
  generalize xs.take K = ys at *
  go_enter Tryd.func49, Tryd.ntmps49
  go_wp2_with fail
  refine CL.out.mono ?_
  rintro e w1 ⟨rfl, rfl⟩
  clear CL
  go_wp2_with fail
  go_ret
  exact ⟨⟨_, ⟨A, K, c, ys, rfl, HL.out, by omega, hrt, HV.out, HK.out, by omega⟩, rfl⟩, rfl⟩
theorem blen_1 : blen 1 = 1 := by decide
theorem one_row (w : World) : Calls Tryd.prog 50 #[] w (RetV (fun w v => RowC w v 1 1) w) := by
  go_enter Tryd.func50, Tryd.ntmps50
  go_wp2_with fail
  go_ret
  refine ⟨_, ⟨_, 1, 1, [true], rfl, rfl, Nat.le_refl _, .inr ⟨_, 0, rfl, (Blk.new w 4 #[.bool true]).typed, fun i b hi => ?_⟩, by decide, by rw [blen_1]; rfl, Nat.le_refl _⟩, rfl, bel_alloc (Below.refl _ _) _⟩
  rcases i with _ | i
  · simp at hi
    subst hi
    simp [go_sem]
  · simp at hi
theorem RowC.len0 {w : World} {v : Value} {p : Int} {L : Nat} (h : RowC w v p L) : ∃ A n c, v = .slice A n c ∧ ((n : Int) == 0) = decide (p = 0) ∧ n ≤ L := by
  obtain ⟨A, n, c, xs, e, hn, hc, hr, hv, hb, hl⟩ := h
  refine ⟨A, n, c, e, ?_, hl⟩
  rw [hb, blen_zero]
  rw [← hv]
  exact val_nonneg xs
theorem RowC.fit {w : World} {v : Value} {p : Int} {L M : Nat} (h : RowC w v p L) (k : p < 2 ^ M) : RowC w v p M := by
  have h0 := h.nonneg
  obtain ⟨A, n, c, xs, e, hn, hc, hr, hv, hb, hl⟩ := h
  refine ⟨A, n, c, xs, e, hn, hc, hr, hv, hb, ?_⟩
  have := (blen_bd h0 k).2
  omega

theorem q_zero {w : World} {v : Value} {L : Nat} (hL : 1 ≤ L) (h : RowC w v 1 1) : QC w (.bool false) (.slice none 0 0) v L 0 :=
  ⟨rfl, ⟨none, 0, 0, [], rfl, rfl, Nat.le_refl _, .inl rfl, rfl, rfl, Nat.zero_le _⟩, h.mono hL⟩

set_option maxHeartbeats 2000000 in
theorem low_any {w : World} {y z : Value} {p q : Int} {L : Nat} (s : Bool) (hy : RowV w y p L) (hz : RowV w z q L) (hL : L ≤ 1048576) (hL1 : 1 ≤ L) : Calls Tryd.prog 23 #[.bool s, y, z] w (RetQ (rv s p q) L w) := by
  have p0 := hy.nonneg
  have q0 := hz.nonneg
  go_enter Tryd.func23, Tryd.ntmps23
  go_wp2_with fail
  refine (trim_row (hy.alloc _) hL).mono ?_
  rintro e w1 ⟨⟨y1, hy1, rfl⟩, rfl⟩
  go_wp2_with fail
  refine (trim_row (hz.alloc _) hL).mono ?_
  rintro e w1 ⟨⟨z1, hz1, rfl⟩, rfl⟩
  clear hy hz
  have K0 := Blk.new w 30 #[.bool false, .slice none 0 0, .slice none 0 0]
  have H0 := Lib.hid (bel_alloc (Below.refl w.heap.size w) (.cells #[.bool false, .slice none 0 0, .slice none 0 0] 30))
  generalize w.alloc (.cells #[.bool false, .slice none 0 0, .slice none 0 0] 30) = W at *
  obtain ⟨A1, n1, c1, rfl, D1, -⟩ := hy1.len0
  obtain ⟨A2, n2, c2, rfl, D2, -⟩ := hz1.len0
  by_cases h0 : p = 0 ∨ q = 0
  · have F := Lib.hid (rv_zero (s := s) h0)
    by_cases h1 : p = 0
    · rw [decide_eq_true h1] at D1
      clear h0 h1 D2 hy1 hz1
      go_wp2_with fail
      refine (one_row _).mono ?_
      rintro e w2 ⟨v, hv, rfl, hb2⟩
      obtain ⟨A, n, c, rfl⟩ := hv.form
      have K2 := K0.below hb2 K0.lt
      have H2 := Lib.hid (bel_trans H0.out hb2)
      clear hb2 K0 H0
      obtain ⟨c0, c1, c2, f0, f1, f2⟩ := K2.three
      go_wp2_with fail
      have K3 := K2.put3 (.bool false) (.slice none 0 0) (.slice A n c)
      have R3 := hv.put3 K2 tQ_ne (.bool false) (.slice none 0 0) (.slice A n c)
      have B3 := Lib.hid (bel_put3 H2.out (Nat.le_refl _) (.bool false) (.slice none 0 0) (.slice A n c))
      unfold wput at K3 R3 B3
      clear c0 c1 c2 f0 f1 f2 K2 H2 hv
      obtain ⟨c0, c1, c2, -, -, -⟩ := K3.three
      try simp only [Exit.inBlock, Exit.then]
      exact bodyPost_ret (v := .agg #[.bool false, .slice none 0 0, .slice A n c]) (by simp [results, Tryd.results23, go_sem, c0, c1, c2]) rfl ⟨_, _, _, by rw [F.out]; exact q_zero hL1 R3, rfl, B3.out⟩
    · have h2 : q = 0 := by omega
      rw [decide_eq_false h1] at D1
      rw [decide_eq_true h2] at D2
      clear h0 h1 h2 hy1 hz1
      go_wp2_with fail
      refine (one_row _).mono ?_
      rintro e w2 ⟨v, hv, rfl, hb2⟩
      obtain ⟨A, n, c, rfl⟩ := hv.form
      have K2 := K0.below hb2 K0.lt
      have H2 := Lib.hid (bel_trans H0.out hb2)
      clear hb2 K0 H0
      obtain ⟨c0, c1, c2, f0, f1, f2⟩ := K2.three
      go_wp2_with fail
      have K3 := K2.put3 (.bool false) (.slice none 0 0) (.slice A n c)
      have R3 := hv.put3 K2 tQ_ne (.bool false) (.slice none 0 0) (.slice A n c)
      have B3 := Lib.hid (bel_put3 H2.out (Nat.le_refl _) (.bool false) (.slice none 0 0) (.slice A n c))
      unfold wput at K3 R3 B3
      clear c0 c1 c2 f0 f1 f2 K2 H2 hv
      obtain ⟨c0, c1, c2, -, -, -⟩ := K3.three
      try simp only [Exit.inBlock, Exit.then]
      exact bodyPost_ret (v := .agg #[.bool false, .slice none 0 0, .slice A n c]) (by simp [results, Tryd.results23, go_sem, c0, c1, c2]) rfl ⟨_, _, _, by rw [F.out]; exact q_zero hL1 R3, rfl, B3.out⟩
  · obtain ⟨F1, F2, F3⟩ := low_of (s := s) (p := p) (q := q) (by omega) (by omega)
    have HG := gcd_pos (p := p) (q := q) (by omega)
    have H1 := Lib.hid F1
    have H2 := Lib.hid F2
    have H3 := Lib.hid F3
    rw [decide_eq_false (show ¬ p = 0 by omega)] at D1
    rw [decide_eq_false (show ¬ q = 0 by omega)] at D2
    clear F1 F2 F3 h0 p0 q0
    go_wp2_with fail
    refine (rgcdV hy1.v hz1.v hL).mono ?_
    rintro e w2 ⟨g, hg, rfl, hb2⟩
    have K2 := K0.below hb2 K0.lt
    have B2 := Lib.hid (bel_trans H0.out hb2)
    have hy2 := hy1.below hb2
    have hz2 := hz1.below hb2
    clear hy1 hz1 hb2 K0 H0
    go_wp2_with fail
    refine (rdivV hy2.v hg (by omega) (by omega) HG).mono ?_
    rintro e w3 ⟨u, u', hu, -, rfl, hb3⟩
    have K3 := K2.below hb3 K2.lt
    have B3 := Lib.hid (bel_trans B2.out hb3)
    have hz3 := hz2.below hb3
    have hg3 := hg.below hb3
    clear K2 B2 hb3 hy2 hz2 hg
    go_wp2_with fail
    refine (rdivV hz3.v hg3 (by omega) (by omega) HG).mono ?_
    rintro e w4 ⟨v, v', hv, -, rfl, hb4⟩
    have K4 := K3.below hb4 K3.lt
    have B4 := Lib.hid (bel_trans B3.out hb4)
    have hu4 := hu.below hb4
    clear K3 B3 hb4 hz3 hg3 hu
    go_wp2_with fail
    refine (trim_row hu4 hL).mono ?_
    rintro e w1 ⟨⟨y5, hy5, rfl⟩, rfl⟩
    go_wp2_with fail
    refine (trim_row hv hL).mono ?_
    rintro e w1 ⟨⟨z5, hz5, rfl⟩, rfl⟩
    clear hu4 hv
    rw [← H2.out] at hy5
    rw [← H3.out] at hz5
    obtain ⟨A, n, c, rfl⟩ := hy5.form
    obtain ⟨B, m, d, rfl⟩ := hz5.form
    obtain ⟨c0, c1, c2, f0, f1, f2⟩ := K4.three
    clear H2 H3
    go_wp2_with fail
    have K5 := K4.put3 (.bool s) (.slice A n c) (.slice B m d)
    have y6 := hy5.put3 K4 tQ_ne (.bool s) (.slice A n c) (.slice B m d)
    have z6 := hz5.put3 K4 tQ_ne (.bool s) (.slice A n c) (.slice B m d)
    have B5 := Lib.hid (bel_put3 B4.out (Nat.le_refl _) (.bool s) (.slice A n c) (.slice B m d))
    unfold wput at K5 y6 z6 B5
    clear c0 c1 c2 f0 f1 f2 K4 hy5 hz5 B4
    obtain ⟨c0, c1, c2, -, -, -⟩ := K5.three
    try simp only [Exit.inBlock, Exit.then]
    exact bodyPost_ret (v := .agg #[.bool s, .slice A n c, .slice B m d]) (by simp [results, Tryd.results23, go_sem, c0, c1, c2]) rfl ⟨_, _, _, ⟨by rw [H1.out], y6, z6⟩, rfl, B5.out⟩

theorem QC.parts {w : World} {x y z : Value} {L : Nat} {r : Rat} (h : QC w x y z L r) : ∃ s p q, x = .bool s ∧ RowV w y p L ∧ RowV w z q L ∧ rv s p q = r ∧ 0 < q ∧ s = rs r ∧ p = rp r ∧ q = rq r := ⟨_, _, _, h.1, h.2.1.v, h.2.2.v, rv_of r, rq_pos r, rfl, rfl, rfl⟩
set_option maxHeartbeats 1000000 in
theorem minus_any {w : World} {x y z : Value} {L : Nat} {r : Rat} (h : QC w x y z L r) (hL : L ≤ 1048576) (hL1 : 1 ≤ L) : Calls Tryd.prog 16 #[.agg #[x, y, z]] w (RetQ (-r) L w) := by
  obtain ⟨s, p, q, rfl, hy, hz, rfl, -, -, -, -⟩ := h.parts
  clear h
  rw [← rv_not]
  go_enter Tryd.func16, Tryd.ntmps16
  go_wp2_with fail
  refine (low_any (!s) (hy.below (bel_2 _ _ _)) (hz.below (bel_2 _ _ _)) hL hL1).mono ?_
  rintro e w2 ⟨x', y', z', hr, rfl, hb2⟩
  obtain ⟨s1, A1, n1, k1, B1, m1, l1, rfl, rfl, rfl⟩ := hr.form
  have K2 := Blk.in22 hb2
  have HB : Hid (Below w.heap.size w w2) := bel_trans (bel_2 _ _ _) hb2
  clear hb2 hy hz
  obtain ⟨c0, c1, c2, f0, f1, f2⟩ := K2.three
  go_wp2_with fail
  have K3 := K2.put3 (.bool s1) (.slice A1 n1 k1) (.slice B1 m1 l1)
  have R3 := hr.put3 K2 tQ_ne (.bool s1) (.slice A1 n1 k1) (.slice B1 m1 l1)
  have B3 := Lib.hid (bel_put3 HB.out (Nat.le_succ _) (.bool s1) (.slice A1 n1 k1) (.slice B1 m1 l1))
  unfold wput at K3 R3 B3
  clear c0 c1 c2 f0 f1 f2 K2 HB hr
  obtain ⟨c0, c1, c2, -, -, -⟩ := K3.three
  try simp only [Exit.inBlock, Exit.then]
  exact bodyPost_ret (v := .agg #[.bool s1, .slice A1 n1 k1, .slice B1 m1 l1]) (by simp [results, Tryd.results16, go_sem, c0, c1, c2]) rfl ⟨_, _, _, R3, rfl, B3.out⟩
set_option maxHeartbeats 1000000 in
theorem over_any {w : World} {x y z : Value} {L : Nat} {r : Rat} (h : QC w x y z L r) (hL : L ≤ 1048576) (hL1 : 1 ≤ L) (h0 : r ≠ 0) : Calls Tryd.prog 21 #[.agg #[x, y, z]] w (RetQ r⁻¹ L w) := by
  obtain ⟨s, p, q, rfl, hy, hz, rfl, hq, -, -, -⟩ := h.parts
  clear h
  have hp : 0 < p := (sgn_ne hy.nonneg hz.nonneg fun e => h0 (sgn_eq.1 e)).1
  rw [← rv_inv hp hq]
  clear h0 hp hq
  go_enter Tryd.func21, Tryd.ntmps21
  go_wp2_with fail
  refine (low_any s (hz.below (bel_2 _ _ _)) (hy.below (bel_2 _ _ _)) hL hL1).mono ?_
  rintro e w2 ⟨x', y', z', hr, rfl, hb2⟩
  obtain ⟨s1, A1, n1, k1, B1, m1, l1, rfl, rfl, rfl⟩ := hr.form
  have K2 := Blk.in22 hb2
  have HB : Hid (Below w.heap.size w w2) := bel_trans (bel_2 _ _ _) hb2
  clear hb2 hy hz
  obtain ⟨c0, c1, c2, f0, f1, f2⟩ := K2.three
  go_wp2_with fail
  have K3 := K2.put3 (.bool s1) (.slice A1 n1 k1) (.slice B1 m1 l1)
  have R3 := hr.put3 K2 tQ_ne (.bool s1) (.slice A1 n1 k1) (.slice B1 m1 l1)
  have B3 := Lib.hid (bel_put3 HB.out (Nat.le_succ _) (.bool s1) (.slice A1 n1 k1) (.slice B1 m1 l1))
  unfold wput at K3 R3 B3
  clear c0 c1 c2 f0 f1 f2 K2 HB hr
  obtain ⟨c0, c1, c2, -, -, -⟩ := K3.three
  try simp only [Exit.inBlock, Exit.then]
  exact bodyPost_ret (v := .agg #[.bool s1, .slice A1 n1 k1, .slice B1 m1 l1]) (by simp [results, Tryd.results21, go_sem, c0, c1, c2]) rfl ⟨_, _, _, R3, rfl, B3.out⟩
theorem fsign_any {w : World} {x y z : Value} {L : Nat} {r : Rat} (h : QC w x y z L r) (hL : L ≤ 1048576) : Calls Tryd.prog 20 #[.agg #[x, y, z]] w fun e w' => e = .returned (.int .i64 (sgn r)) ∧ Below w.heap.size w w' := by
  obtain ⟨s, p, q, rfl, hy, hz, rfl, hq, -, -, -⟩ := h.parts
  clear h
  have F := Lib.hid (sgn_rv (s := s) hy.nonneg hz.nonneg)
  generalize sgn (rv s p q) = g at *
  have C1 := fun o => rlenV (hy.alloc o) hL
  have B := blen_zero hy.nonneg
  by_cases h1 : p = 0
  · have F2 : Hid (0 = g) := by show _ = _; rw [F.out, if_pos (.inl h1)]
    rw [decide_eq_true h1] at B
    generalize blen p = b at *
    clear h1 F hy hz hq
    go_enter Tryd.func20, Tryd.ntmps20
    go_wp2_with fail
    refine (C1 _).mono ?_
    rintro e w1 ⟨rfl, rfl⟩
    go_wp2_with fail
    go_ret
    exact ⟨ret_int F2.out, bel_alloc (Below.refl _ _) _⟩
  · have F2 : Hid ((if s then -1 else 1) = g) := by show _ = _; rw [F.out, if_neg (show ¬ (p = 0 ∨ q = 0) by omega)]
    rw [decide_eq_false h1] at B
    generalize blen p = b at *
    clear h1 F hy hz hq
    cases s
    · go_enter Tryd.func20, Tryd.ntmps20
      go_wp2_with fail
      refine (C1 _).mono ?_
      rintro e w1 ⟨rfl, rfl⟩
      go_wp2_with fail
      go_ret
      exact ⟨ret_int F2.out, bel_alloc (Below.refl _ _) _⟩
    · go_enter Tryd.func20, Tryd.ntmps20
      go_wp2_with fail
      refine (C1 _).mono ?_
      rintro e w1 ⟨rfl, rfl⟩
      go_wp2_with fail
      go_ret
      exact ⟨ret_int F2.out, bel_alloc (Below.refl _ _) _⟩
end Go.Proofs.YtaollppieonmbaaDoor
namespace Go.Proofs.YtaollppieonmbaaDoor
open Go.RowKit
set_option maxRecDepth 100000

theorem RowV.drew {w : World} {v : Value} {p : Int} {L : Nat} (h : RowV w v p L) : RowV w.drew v p L := h
theorem QC.drew {w : World} {x y z : Value} {L : Nat} {r : Rat} (h : QC w x y z L r) : QC w.drew x y z L r := h

set_option maxHeartbeats 4000000 in
theorem fmul_any {w : World} {x y z x' y' z' : Value} {L M : Nat} {r r' : Rat} (h : QC w x y z L r) (k : QC w x' y' z' M r') (hL : L ≤ 32768) (hM : M ≤ 32768) : Calls Tryd.prog 18 #[.agg #[x, y, z], .agg #[x', y', z']] w (RetQ (r * r') (L + M + 1) w) := by
  obtain ⟨s, p, q, rfl, hy, hz, rfl, hq, -, -, -⟩ := h.parts
  obtain ⟨t, a, b, rfl, hy', hz', rfl, hb, -, -, -⟩ := k.parts
  rw [← rv_mul (Int.le_of_lt hq) (Int.le_of_lt hb)]
  clear h k hq hb
  go_enter Tryd.func18, Tryd.ntmps18
  go_upto_region 1 with fail
  have HB0 := bel_3 w (.cells #[.bool s, y, z] 30) (.cells #[.bool t, y', z'] 30) (.cells #[.bool false, .slice none 0 0, .slice none 0 0] 30)
  have K0 := Blk.in31 (Below.refl (((w.alloc (.cells #[.bool s, y, z] 30)).alloc (.cells #[.bool t, y', z'] 30)).alloc (.cells #[.bool false, .slice none 0 0, .slice none 0 0] 30)).heap.size _)
  have K1 := Blk.in32 (Below.refl (((w.alloc (.cells #[.bool s, y, z] 30)).alloc (.cells #[.bool t, y', z'] 30)).alloc (.cells #[.bool false, .slice none 0 0, .slice none 0 0] 30)).heap.size _)
  have K2 := Blk.in33 (Below.refl (((w.alloc (.cells #[.bool s, y, z] 30)).alloc (.cells #[.bool t, y', z'] 30)).alloc (.cells #[.bool false, .slice none 0 0, .slice none 0 0] 30)).heap.size _)
  generalize ((w.alloc (.cells #[.bool s, y, z] 30)).alloc (.cells #[.bool t, y', z'] 30)).alloc (.cells #[.bool false, .slice none 0 0, .slice none 0 0] 30) = W at *
  have HG2 : w.heap.size ≤ w.heap.size + 1 + 1 := by omega
  have N1 : w.heap.size ≠ w.heap.size + 1 + 1 := by omega
  have N2 : w.heap.size + 1 ≠ w.heap.size + 1 + 1 := by omega
  generalize w.heap.size + 1 + 1 = g2 at *
  generalize w.heap.size + 1 = g1 at *
  have y0 := hy.below HB0
  have z0 := hz.below HB0
  have y1 := hy'.below HB0
  have z1 := hz'.below HB0
  clear hy hz hy' hz'
  have H0 := Lib.hid HB0
  clear HB0
  go_region_held3 (fun w' => w'.cell? ⟨w.heap.size, 0, none⟩ = some (.bool s) ∧ w'.cell? ⟨w.heap.size, 1, none⟩ = some y ∧ w'.cell? ⟨w.heap.size, 2, none⟩ = some z ∧ w'.cell? ⟨g1, 0, none⟩ = some (.bool t) ∧ w'.cell? ⟨g1, 1, none⟩ = some y' ∧ w'.cell? ⟨g1, 2, none⟩ = some z')
    (first | (refine kp_rr (W := W) ?_ K0 K1; (repeat (first | exact Below.refl _ _ | exact X3 | exact X2 | exact X1 | refine bel_drew ?_)); done) | exact kp_rr_put X3 K0 K1 N1 N2)
    (first
      | (go_at_call 45; have _ := X1; refine (rmulV (w := w1) (z0.below X1) (z1.below X1) (by omega) (by omega)).mono ?_; rintro e w2 ⟨v, hv, rfl, hb2⟩; have X2 : Below W.heap.size W w2 := bel_trans X1 hb2)
      | (go_at_call 45; refine (rmulV (w := W.drew) y0.drew y1.drew (by omega) (by omega)).mono ?_; rintro e w1 ⟨u, hu, rfl, hb1⟩; have X1 : Below W.heap.size W w1 := bel_trans (bel_drew (Below.refl _ _)) hb1)
      | (go_at_call 23; refine (low_any (w := w2) (s != t) (hu.below hb2) hv (by omega) (by omega)).mono ?_; rintro e w3 ⟨x3, y3, z3, hr, rfl, hb3⟩; obtain ⟨s1, A1, n1, k1, B1, m1, l1, rfl, rfl, rfl⟩ := hr.form; have X3 : Below W.heap.size W w3 := bel_trans X2 hb3; obtain ⟨c0, c1, c2, f0, f1, f2⟩ := (K2.below X3 K2.lt).three))
  go_wp2_with fail
  have K4 := K2.below X3 K2.lt
  have K5 := K4.put3 (.bool s1) (.slice A1 n1 k1) (.slice B1 m1 l1)
  have R5 := hr.put3 K4 tQ_ne (.bool s1) (.slice A1 n1 k1) (.slice B1 m1 l1)
  have B5 := Lib.hid (bel_put3 (bel_trans H0.out X3) HG2 (.bool s1) (.slice A1 n1 k1) (.slice B1 m1 l1))
  unfold wput at K5 R5 B5
  clear c0 c1 c2 f0 f1 f2 K2 K4 K0 K1 hr
  obtain ⟨c0, c1, c2, -, -, -⟩ := K5.three
  try simp only [Exit.inBlock, Exit.then]
  exact bodyPost_ret (v := .agg #[.bool s1, .slice A1 n1 k1, .slice B1 m1 l1]) (by simp [results, Tryd.results18, go_sem, c0, c1, c2]) rfl ⟨_, _, _, R5, rfl, B5.out⟩

/-- A difference of rows that is no less than nought, and whatever bool. -/
def RetSubR (p : Int) (L : Nat) (w : World) (e : Ending) (w' : World) : Prop := ∃ v b, RowV w' v p L ∧ e = .returned (.tuple #[v, .bool b]) ∧ Below w.heap.size w w'
theorem rsubV {A B : Option Addr} {n m c d : Nat} {w : World} {p q : Int} {L M : Nat} (h : RowV w (.slice A n c) p L) (k : RowV w (.slice B m d) q M) (hL : L ≤ 1048576) (hM : M ≤ 1048576) (N : Int) (hN : N = (max n m : Nat)) (hle : q ≤ p) : Calls Tryd.prog 48 #[.slice A n c, .slice B m d, .int .i64 N] w (RetSubR (p - q) (L + M) w) := by
  obtain ⟨A', n', c', xs, e1, hn, hc, hr, hv, hl⟩ := h
  obtain ⟨B', m', d', ys, e2, hm, hd, hs, hw, hk⟩ := k
  injection e1 with e1 e3 e4
  injection e2 with e2 e5 e6
  subst e1 e2 e3 e4 e5 e6
  refine (rsub_any A B n m c d xs ys N w hn hm hr hs (by omega) (by omega) (by omega) (by omega)).mono fun e w' r => ?_
  obtain ⟨zs, b, A3, c3, pp, e1, hc3, _, hr3, hb3⟩ := r
  have hNn : N.toNat = max n m := by omega
  rw [hNn] at pp
  have e := pp.eq
  have n0 := val_nonneg zs
  have n1 := val_lt zs
  have n2 := val_lt xs
  have lz := pp.len
  rw [lz] at n1
  have px := pow_mono xs.length (max n m) (by omega)
  rw [List.take_of_length_le (by omega), List.take_of_length_le (by omega), hv, hw] at e
  rw [hv] at n2
  refine ⟨_, b, ⟨A3, zs.length, c3, zs, rfl, rfl, hc3, hr3, ?_, by omega⟩, e1, hb3⟩
  cases b
  · simp at e
    omega
  · simp at e
    omega

theorem kp_1 {W w1 : World} {p : Addr} {a : Value} (hb : Below W.heap.size W w1) (h : W.cell? p = some a) : w1.cell? p = some a := kp_c hb h
theorem kp_1_put {W w1 : World} {g k : Nat} {t : TypeId} {a b c x y z : Value} (hb : Below W.heap.size W w1) (hg : Blk W g t #[a, b, c]) (n1 : g ≠ k) : (((w1.setCell ⟨k, 0, none⟩ x).setCell ⟨k, 1, none⟩ y).setCell ⟨k, 2, none⟩ z).cell? ⟨g, 0, none⟩ = some a := by
  have hg1 := (hg.below hb hg.lt).put3_far n1 x y z
  unfold wput at hg1
  exact hg1.cell 0
theorem kp_r_put {W w1 : World} {g k : Nat} {t : TypeId} {a b c x y z : Value} (hb : Below W.heap.size W w1) (hg : Blk W g t #[a, b, c]) (n1 : g ≠ k) : (((w1.setCell ⟨k, 0, none⟩ x).setCell ⟨k, 1, none⟩ y).setCell ⟨k, 2, none⟩ z).cell? ⟨g, 0, none⟩ = some a ∧ (((w1.setCell ⟨k, 0, none⟩ x).setCell ⟨k, 1, none⟩ y).setCell ⟨k, 2, none⟩ z).cell? ⟨g, 1, none⟩ = some b ∧ (((w1.setCell ⟨k, 0, none⟩ x).setCell ⟨k, 1, none⟩ y).setCell ⟨k, 2, none⟩ z).cell? ⟨g, 2, none⟩ = some c := by
  have hg1 := (hg.below hb hg.lt).put3_far n1 x y z
  unfold wput at hg1
  exact ⟨hg1.cell 0, hg1.cell 1, hg1.cell 2⟩
theorem max_cast (n m : Nat) : max (n : Int) (m : Int) = ((max n m : Nat) : Int) := by omega

set_option maxHeartbeats 8000000 in
theorem fadd_any {w : World} {x y z x' y' z' : Value} {L M : Nat} {r r' : Rat} (h : QC w x y z L r) (k : QC w x' y' z' M r') (hL : L ≤ 32768) (hM : M ≤ 32768) : Calls Tryd.prog 14 #[.agg #[x, y, z], .agg #[x', y', z']] w (RetQ (r + r') (2 * (L + M) + 3) w) := by
  obtain ⟨s, p, q, rfl, hy, hz, rfl, hq, -, -, -⟩ := h.parts
  obtain ⟨t, a, b, rfl, hy', hz', rfl, hb, -, -, -⟩ := k.parts
  have FIN0 : Hid (∀ s' n, sv s' n = sv s (p * b) + sv t (a * q) → rv s' n (q * b) = rv s p q + rv t a b) := fun s' n e => sum_rv hq hb e
  generalize rv s p q + rv t a b = sum at *
  clear h k
  go_enter Tryd.func14, Tryd.ntmps14
  go_wp2_with fail
  refine (rmulV (hy.below (bel_3 _ _ _ _)) (hz'.below (bel_3 _ _ _ _)) (by omega) (by omega)).mono ?_
  rintro e w1 ⟨u, hx1, rfl, hb1⟩
  have K01 := Blk.in31 hb1
  have K11 := Blk.in32 hb1
  have K21 := Blk.in33 hb1
  have H1 := Lib.hid (bel_trans (bel_3 _ _ _ _) hb1)
  have HG2 : w.heap.size ≤ w.heap.size + 1 + 1 := by omega
  have N1 : w.heap.size ≠ w.heap.size + 1 + 1 := by omega
  have N2 : w.heap.size + 1 ≠ w.heap.size + 1 + 1 := by omega
  clear hb1
  generalize w.heap.size + 1 + 1 = g2 at *
  generalize w.heap.size + 1 = g1 at *
  have z01 := hz.below H1.out
  have y11 := hy'.below H1.out
  have z11 := hz'.below H1.out
  clear hy hz hy' hz'
  obtain ⟨a0, a1, a2, -, -, -⟩ := K01.three
  obtain ⟨b0, b1, b2, -, -, -⟩ := K11.three
  go_wp2_with fail
  refine (rmulV y11 z01 (by omega) (by omega)).mono ?_
  rintro e w2 ⟨v, hy2, rfl, hb2⟩
  have hx2 := hx1.below hb2
  have z02 := z01.below hb2
  have z12 := z11.below hb2
  have K02 := K01.below hb2 K01.lt
  have K12 := K11.below hb2 K11.lt
  have K22 := K21.below hb2 K21.lt
  have H2 := Lib.hid (bel_trans H1.out hb2)
  clear hb2 hx1 z01 z11 y11 K01 K11 K21 H1 a0 a1 a2 b0 b1 b2
  obtain ⟨a0, a1, a2, -, -, -⟩ := K02.three
  obtain ⟨b0, b1, b2, -, -, -⟩ := K12.three
  go_wp2_with fail
  refine (rmulV z02 z12 (by omega) (by omega)).mono ?_
  rintro e w3 ⟨d, hd3, rfl, hb3⟩
  have hx3 := hx2.below hb3
  have hy3 := hy2.below hb3
  have K03 := K02.below hb3 K02.lt
  have K13 := K12.below hb3 K12.lt
  have K23 := K22.below hb3 K22.lt
  have H3 := Lib.hid (bel_trans H2.out hb3)
  clear hb3 hx2 hy2 z02 z12 K02 K12 K22 H2 a0 a1 a2 b0 b1 b2
  obtain ⟨a0, a1, a2, -, -, -⟩ := K03.three
  obtain ⟨b0, b1, b2, -, -, -⟩ := K13.three
  by_cases hst : s = t
  · subst hst
    have FIN : Hid (rv s (p * b + a * q) (q * b) = sum) := by
      refine FIN0.out _ _ ?_
      cases s <;> simp [sv] <;> omega
    clear FIN0
    go_upto_region 5 with fail
    go_region_held3 (fun w' => w'.cell? ⟨w.heap.size, 0, none⟩ = some (.bool s))
      (first | (refine kp_1 (W := w3) ?_ a0; (repeat (first | exact Below.refl _ _ | exact X2 | exact X1 | refine bel_drew ?_)); done) | exact kp_1_put X2 K03 N1)
      (first
        | (go_at_call 46; refine (raddV (w := w3.drew) hx3.drew hy3.drew (by omega) (by omega)).mono ?_; rintro e w4 ⟨u4, hu4, rfl, hb4⟩; have X1 : Below w3.heap.size w3 w4 := bel_trans (bel_drew (Below.refl _ _)) hb4)
        | (go_at_call 23; refine (low_any (w := w4) s (hu4.mono (show _ ≤ 2 * (L + M) + 3 by omega)) ((hd3.below X1).mono (by omega)) (by omega) (by omega)).mono ?_; rw [FIN.out]; rintro e w5 ⟨x5, y5, z5, hr, rfl, hb5⟩; obtain ⟨s1, A1, n1, k1, B1, m1, l1, rfl, rfl, rfl⟩ := hr.form; have X2 : Below w3.heap.size w3 w5 := bel_trans X1 hb5; obtain ⟨c0, c1, c2, f0, f1, f2⟩ := (K23.below X2 K23.lt).three))
    all_goals
      go_wp2_with fail
      have K4 := K23.below X2 K23.lt
      have H6 := Lib.hid (bel_trans H3.out X2)
      have K5 := K4.put3 (.bool s1) (.slice A1 n1 k1) (.slice B1 m1 l1)
      have R5 := hr.put3 K4 tQ_ne (.bool s1) (.slice A1 n1 k1) (.slice B1 m1 l1)
      have B5 := Lib.hid (bel_put3 H6.out HG2 (.bool s1) (.slice A1 n1 k1) (.slice B1 m1 l1))
      unfold wput at K5 R5 B5
      clear c0 c1 c2 f0 f1 f2 K4 hr H6
      obtain ⟨c0, c1, c2, -, -, -⟩ := K5.three
      try simp only [Exit.inBlock, Exit.then]
      exact bodyPost_ret (v := .agg #[.bool s1, .slice A1 n1 k1, .slice B1 m1 l1]) (by simp [results, Tryd.results14, go_sem, c0, c1, c2]) rfl ⟨_, _, _, R5, rfl, B5.out⟩
  · have e0 : (s == t) = false := by cases s <;> cases t <;> simp at hst ⊢
    obtain ⟨Ax, nx, cx, rfl⟩ := hx3.form
    obtain ⟨Ay, ny, cy, rfl⟩ := hy3.form
    have C := rcmpV hx3 hy3 (by omega) (by omega)
    obtain ⟨cc, hcc⟩ : ∃ cc, cmpI (p * b) (a * q) = cc := ⟨_, rfl⟩
    have hbd := cmpI_bd (p * b) (a * q)
    rw [hcc] at C hbd
    by_cases hle : a * q ≤ p * b
    · have HLE := Lib.hid hle
      have FIN : Hid (rv s (p * b - a * q) (q * b) = sum) := by
        refine FIN0.out _ _ ?_
        cases s <;> cases t <;> simp [sv] at hst ⊢ <;> omega
      have hge : 0 ≤ cc := by
        rw [← hcc]
        unfold cmpI
        split
        · omega
        · split <;> omega
      clear FIN0 hcc hle hst
      go_wp2_with fail
      refine C.mono ?_
      rintro e w4 ⟨rfl, rfl⟩
      clear C
      have hx4 := hx3
      have hy4 := hy3
      have hd4 := hd3
      have K04 := K03
      have K14 := K13
      have K24 := K23
      have H4 := H3
      clear hx3 hy3 hd3 K03 K13 K23 H3
      go_wp2_with fail
      refine (rsubV hx4 hy4 (by omega) (by omega) _ (by first | exact max_cast _ _ | rfl | omega) HLE.out).mono ?_
      rintro e w5 ⟨v5, b5, hv5, rfl, hb5⟩
      have hd5 := hd4.below hb5
      have K05 := K04.below hb5 K04.lt
      have K15 := K14.below hb5 K14.lt
      have K25 := K24.below hb5 K24.lt
      have H5 := Lib.hid (bel_trans H4.out hb5)
      clear hb5 hx4 hy4 hd4 K04 K14 K24 H4 a0 a1 a2 b0 b1 b2
      obtain ⟨a0, a1, a2, -, -, -⟩ := K05.three
      obtain ⟨b0, b1, b2, -, -, -⟩ := K15.three
      go_wp2_with fail
      refine (low_any s (hv5.mono (show _ ≤ 2 * (L + M) + 3 by omega)) (hd5.mono (by omega)) (by omega) (by omega)).mono ?_
      rw [FIN.out]
      rintro e w6 ⟨x6, y6, z6, hr, rfl, hb6⟩
      obtain ⟨s1, A1, n1, k1, B1, m1, l1, rfl, rfl, rfl⟩ := hr.form
      have K4 := K25.below hb6 K25.lt
      have H6 := Lib.hid (bel_trans H5.out hb6)
      clear hb6 hv5 hd5 K05 K15 K25 H5 a0 a1 a2 b0 b1 b2
      obtain ⟨c0, c1, c2, f0, f1, f2⟩ := K4.three
      go_wp2_with fail
      have K5 := K4.put3 (.bool s1) (.slice A1 n1 k1) (.slice B1 m1 l1)
      have R5 := hr.put3 K4 tQ_ne (.bool s1) (.slice A1 n1 k1) (.slice B1 m1 l1)
      have B5 := Lib.hid (bel_put3 H6.out HG2 (.bool s1) (.slice A1 n1 k1) (.slice B1 m1 l1))
      unfold wput at K5 R5 B5
      clear c0 c1 c2 f0 f1 f2 K4 hr H6
      obtain ⟨c0, c1, c2, -, -, -⟩ := K5.three
      try simp only [Exit.inBlock, Exit.then]
      exact bodyPost_ret (v := .agg #[.bool s1, .slice A1 n1 k1, .slice B1 m1 l1]) (by simp [results, Tryd.results14, go_sem, c0, c1, c2]) rfl ⟨_, _, _, R5, rfl, B5.out⟩
    · have HLE : Hid (p * b ≤ a * q) := by show _ ≤ _; omega
      have FIN : Hid (rv t (a * q - p * b) (q * b) = sum) := by
        refine FIN0.out _ _ ?_
        cases s <;> cases t <;> simp [sv] at hst ⊢ <;> omega
      have hge : cc < 0 := by
        rw [← hcc, cmpI_lt (by omega)]
        decide
      clear FIN0 hcc hle hst
      go_wp2_with fail
      refine C.mono ?_
      rintro e w4 ⟨rfl, rfl⟩
      clear C
      have hx4 := hx3
      have hy4 := hy3
      have hd4 := hd3
      have K04 := K03
      have K14 := K13
      have K24 := K23
      have H4 := H3
      clear hx3 hy3 hd3 K03 K13 K23 H3
      go_wp2_with fail
      refine (rsubV hy4 hx4 (by omega) (by omega) _ (by first | omega) HLE.out).mono ?_
      rintro e w5 ⟨v5, b5, hv5, rfl, hb5⟩
      have hd5 := hd4.below hb5
      have K05 := K04.below hb5 K04.lt
      have K15 := K14.below hb5 K14.lt
      have K25 := K24.below hb5 K24.lt
      have H5 := Lib.hid (bel_trans H4.out hb5)
      clear hb5 hx4 hy4 hd4 K04 K14 K24 H4 a0 a1 a2 b0 b1 b2
      obtain ⟨a0, a1, a2, -, -, -⟩ := K05.three
      obtain ⟨b0, b1, b2, -, -, -⟩ := K15.three
      go_wp2_with fail
      refine (low_any t (hv5.mono (show _ ≤ 2 * (L + M) + 3 by omega)) (hd5.mono (by omega)) (by omega) (by omega)).mono ?_
      rw [FIN.out]
      rintro e w6 ⟨x6, y6, z6, hr, rfl, hb6⟩
      obtain ⟨s1, A1, n1, k1, B1, m1, l1, rfl, rfl, rfl⟩ := hr.form
      have K4 := K25.below hb6 K25.lt
      have H6 := Lib.hid (bel_trans H5.out hb6)
      clear hb6 hv5 hd5 K05 K15 K25 H5 a0 a1 a2 b0 b1 b2
      obtain ⟨c0, c1, c2, f0, f1, f2⟩ := K4.three
      go_wp2_with fail
      have K5 := K4.put3 (.bool s1) (.slice A1 n1 k1) (.slice B1 m1 l1)
      have R5 := hr.put3 K4 tQ_ne (.bool s1) (.slice A1 n1 k1) (.slice B1 m1 l1)
      have B5 := Lib.hid (bel_put3 H6.out HG2 (.bool s1) (.slice A1 n1 k1) (.slice B1 m1 l1))
      unfold wput at K5 R5 B5
      clear c0 c1 c2 f0 f1 f2 K4 hr H6
      obtain ⟨c0, c1, c2, -, -, -⟩ := K5.three
      try simp only [Exit.inBlock, Exit.then]
      exact bodyPost_ret (v := .agg #[.bool s1, .slice A1 n1 k1, .slice B1 m1 l1]) (by simp [results, Tryd.results14, go_sem, c0, c1, c2]) rfl ⟨_, _, _, R5, rfl, B5.out⟩
end Go.Proofs.YtaollppieonmbaaDoor
namespace Go.Proofs.YtaollppieonmbaaDoor
open Go.RowKit
set_option maxRecDepth 100000

set_option maxHeartbeats 4000000 in
theorem fcmp_any {w : World} {x y z x' y' z' : Value} {L M : Nat} {r r' : Rat} (h : QC w x y z L r) (k : QC w x' y' z' M r') (hL : L ≤ 8192) (hM : M ≤ 8192) (hM1 : 1 ≤ M) : Calls Tryd.prog 26 #[.agg #[x, y, z], .agg #[x', y', z']] w fun e w' => e = .returned (.int .i64 (cmpR r r')) ∧ Below w.heap.size w w' := by
  have F : Hid (sgn (r + -r') = cmpR r r') := by
    show _ = _
    unfold cmpR
    rw [Rat.sub_eq_add_neg]
  generalize cmpR r r' = cc at *
  go_enter Tryd.func26, Tryd.ntmps26
  go_upto_region 1 with fail
  have HB0 := bel_2 w (.cells #[x, y, z] 30) (.cells #[x', y', z'] 30)
  have K0 := Blk.in21 (Below.refl ((w.alloc (.cells #[x, y, z] 30)).alloc (.cells #[x', y', z'] 30)).heap.size _)
  have K1 := Blk.in22 (Below.refl ((w.alloc (.cells #[x, y, z] 30)).alloc (.cells #[x', y', z'] 30)).heap.size _)
  generalize (w.alloc (.cells #[x, y, z] 30)).alloc (.cells #[x', y', z'] 30) = W at *
  generalize w.heap.size + 1 = g1 at *
  have h0 := h.below HB0
  have k0 := k.below HB0
  have H0 := Lib.hid HB0
  clear h k HB0
  go_region_held3 (fun w' => w'.cell? ⟨w.heap.size, 0, none⟩ = some x ∧ w'.cell? ⟨w.heap.size, 1, none⟩ = some y ∧ w'.cell? ⟨w.heap.size, 2, none⟩ = some z ∧ w'.cell? ⟨g1, 0, none⟩ = some x' ∧ w'.cell? ⟨g1, 1, none⟩ = some y' ∧ w'.cell? ⟨g1, 2, none⟩ = some z')
    ((refine kp_rr (W := W) ?_ K0 K1; (repeat (first | exact Below.refl _ _ | exact X3 | exact X2 | exact X1 | refine bel_drew ?_)); done))
    (first
      | (go_at_call 16; refine (minus_any (w := W.drew) k0.drew (by omega) hM1).mono ?_; rintro e w1 ⟨x1, y1, z1, hr1, rfl, hb1⟩; have X1 : Below W.heap.size W w1 := bel_trans (bel_drew (Below.refl _ _)) hb1)
      | (go_at_call 14; refine (fadd_any (w := w1) (h0.below X1) hr1 (by omega) (by omega)).mono ?_; rintro e w2 ⟨x2, y2, z2, hr2, rfl, hb2⟩; have X2 : Below W.heap.size W w2 := bel_trans X1 hb2)
      | (go_at_call 20; refine (fsign_any (w := w2) hr2 (by omega)).mono ?_; rw [F.out]; rintro e w3 ⟨rfl, hb3⟩; have X3 : Below W.heap.size W w3 := bel_trans X2 hb3))
  all_goals
    go_wp2_with fail
    go_ret
    exact ⟨rfl, bel_trans H0.out X3⟩

set_option maxHeartbeats 4000000 in
theorem ftext_any {w : World} {x y z : Value} {L : Nat} {r : Rat} (h : QC w x y z L r) (hL : L ≤ 8192) : Calls Tryd.prog 31 #[.agg #[x, y, z]] w fun e w' => (∃ s : ByteArray, IsRText r s.data.toList ∧ e = .returned (.string s)) ∧ Below w.heap.size w w' := by
  obtain ⟨rfl, hy, hz⟩ := h
  obtain ⟨s1, hs1⟩ : ∃ s1, rs r = s1 := ⟨_, rfl⟩
  have ES := Lib.hid hs1.symm
  rw [hs1]
  clear hs1
  go_enter Tryd.func31, Tryd.ntmps31
  go_wp2_with fail
  refine (rtextV (hy.alloc _).v (by omega)).mono ?_
  rintro e W ⟨⟨t1, ht1, rfl⟩, hb1⟩
  have S1 := ht1.len hy.v.lt
  rw [← Lib.size_eq] at S1
  have K0 := Blk.made hb1
  have H0 := Lib.hid (bel_trans (bel_alloc (Below.refl _ _) _) hb1)
  have z0 := hz.below H0.out
  clear hb1 hy hz
  obtain ⟨c0, c1, c2, -, -, -⟩ := K0.three
  have Q := rq_pos r
  have CM : Hid ((cmpI (rq r) 1 != 0) = decide (rq r ≠ 1)) := by
    show _ = _
    by_cases h1 : rq r = 1
    · rw [h1]; decide
    · rw [cmpI_gt (by omega)]
      simp [h1]
  obtain ⟨cc, hcc⟩ : ∃ cc, cmpI (rq r) 1 = cc := ⟨_, rfl⟩
  have HCC := Lib.hid hcc
  rw [hcc] at CM
  clear hcc Q
  cases s1
  · go_upto_region 4 with fail
    go_region_held3 (fun w' => w'.cell? ⟨w.heap.size, 2, none⟩ = some z)
      ((refine kp_1 (W := W) ?_ c2; (repeat (first | exact Below.refl _ _ | exact X2 | exact X1 | refine bel_drew ?_)); done))
      (first
        | (go_at_call 50; refine (one_row W.drew).mono ?_; rintro e w1 ⟨v1, hv1, rfl, hb1⟩; have X1 : Below W.heap.size W w1 := bel_trans (bel_drew (Below.refl _ _)) hb1)
        | (go_at_call 47; refine (rcmpV (w := w1) (z0.below X1).v hv1.v (by omega) (by omega)).mono ?_; rw [HCC.out]; rintro e w2 ⟨rfl, rfl⟩; have X2 : Below W.heap.size W w1 := X1))
    all_goals
      have K1 := K0.below X1 K0.lt
      have H1 := Lib.hid (bel_trans H0.out X1)
      have z1 := z0.below X1
      clear c0 c1 c2 K0 H0 z0 hv1 HCC
      obtain ⟨c0, c1, c2, -, -, -⟩ := K1.three
      by_cases hq : rq r = 1
      · have D : (cc != 0) = false := by rw [CM.out]; simpa using hq
        clear CM
        go_wp2_with fail
        go_ret
        refine ⟨⟨_, ⟨_, _, ht1, by rw [hq]; exact isText_one, ?_⟩, rfl⟩, H1.out⟩
        rw [← ES.out, if_pos hq]
        simp
      · have D : (cc != 0) = true := by rw [CM.out]; simpa using hq
        clear CM
        go_wp2_with fail
        refine (rtextV z1.v (by omega)).mono ?_
        rintro e W2 ⟨⟨t2, ht2, rfl⟩, hb2⟩
        have S2 := ht2.len z1.v.lt
        rw [← Lib.size_eq] at S2
        have B7 := Lib.hid (bel_trans H1.out hb2)
        clear hb2 H1 z1 K1 c0 c1 c2
        go_wp2_with fail
        go_ret
        refine ⟨⟨_, ⟨_, _, ht1, ht2, ?_⟩, rfl⟩, B7.out⟩
        rw [← ES.out, if_neg hq]
        simp
  · go_upto_region 4 with fail
    go_region_held3 (fun w' => w'.cell? ⟨w.heap.size, 2, none⟩ = some z)
      ((refine kp_1 (W := W) ?_ c2; (repeat (first | exact Below.refl _ _ | exact X2 | exact X1 | refine bel_drew ?_)); done))
      (first
        | (go_at_call 50; refine (one_row W.drew).mono ?_; rintro e w1 ⟨v1, hv1, rfl, hb1⟩; have X1 : Below W.heap.size W w1 := bel_trans (bel_drew (Below.refl _ _)) hb1)
        | (go_at_call 47; refine (rcmpV (w := w1) (z0.below X1).v hv1.v (by omega) (by omega)).mono ?_; rw [HCC.out]; rintro e w2 ⟨rfl, rfl⟩; have X2 : Below W.heap.size W w1 := X1))
    all_goals
      have K1 := K0.below X1 K0.lt
      have H1 := Lib.hid (bel_trans H0.out X1)
      have z1 := z0.below X1
      clear c0 c1 c2 K0 H0 z0 hv1 HCC
      obtain ⟨c0, c1, c2, -, -, -⟩ := K1.three
      by_cases hq : rq r = 1
      · have D : (cc != 0) = false := by rw [CM.out]; simpa using hq
        clear CM
        go_wp2_with fail
        go_ret
        refine ⟨⟨_, ⟨_, _, ht1, by rw [hq]; exact isText_one, ?_⟩, rfl⟩, H1.out⟩
        rw [← ES.out, if_pos hq]
        simp
      · have D : (cc != 0) = true := by rw [CM.out]; simpa using hq
        clear CM
        go_wp2_with fail
        refine (rtextV z1.v (by omega)).mono ?_
        rintro e W2 ⟨⟨t2, ht2, rfl⟩, hb2⟩
        have S2 := ht2.len z1.v.lt
        rw [← Lib.size_eq] at S2
        have B7 := Lib.hid (bel_trans H1.out hb2)
        clear hb2 H1 z1 K1 c0 c1 c2
        go_wp2_with fail
        go_ret
        refine ⟨⟨_, ⟨_, _, ht1, ht2, ?_⟩, rfl⟩, B7.out⟩
        rw [← ES.out, if_neg hq]
        simp
end Go.Proofs.YtaollppieonmbaaDoor
