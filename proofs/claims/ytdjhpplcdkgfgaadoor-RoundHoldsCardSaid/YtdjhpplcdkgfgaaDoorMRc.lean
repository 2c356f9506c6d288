/-
  Contracts of slices.MaxFunc at fractions by Cmp, and of ratio's Max. Conditions: at most 1000 fractions, their parts of at most 2^16 words; the table of math/bits stands in its variable.
  Contracts of the reference's trim, one, Low, Minus, Over, Sign, Mul, Add, Cmp and Text of fractions. Conditions: the rows are of at most 2^13 bits.
-/
import Derived.Test.YtdjhpplcdkgfgaaDoorMRb
namespace Go.Proofs.YtdjhpplcdkgfgaaDoor
open Go.RowKit
set_option maxRecDepth 100000

/-- The slice's address leads to the fractions vs, three cells each. -/
def RdR (w : World) (A : Option Addr) (vs : List (Value × Value × Value)) : Prop :=
  vs = [] ∨ ∃ g off, A = some ⟨g, off, none⟩ ∧ g < w.heap.size ∧ ∀ i v, vs[i]? = some v → w.cell? ⟨g, off + i * 3, none⟩ = some v.1 ∧ w.cell? ⟨g, off + i * 3 + 1, none⟩ = some v.2.1 ∧ w.cell? ⟨g, off + i * 3 + 2, none⟩ = some v.2.2
/-- Each is a fraction, the i-th one f i. -/
def AllR (w : World) (vs : List (Value × Value × Value)) (L : Nat) (f : Nat → Rat) : Prop := ∀ i v, vs[i]? = some v → RV w v.1 v.2.1 v.2.2 L (f i)
theorem RdR.below {w w' : World} {A : Option Addr} {vs : List (Value × Value × Value)} (h : RdR w A vs) (hb : Below w.heap.size w w') : RdR w' A vs := by
  rcases h with h | ⟨g, off, e, hg, hc⟩
  · exact .inl h
  · refine .inr ⟨g, off, e, Nat.lt_of_lt_of_le hg hb.size, fun i v hi => ?_⟩
    obtain ⟨a, b, c⟩ := hc i v hi
    exact ⟨(hb.cell (p := ⟨g, off + i * 3, none⟩) hg).trans a, (hb.cell (p := ⟨g, off + i * 3 + 1, none⟩) hg).trans b, (hb.cell (p := ⟨g, off + i * 3 + 2, none⟩) hg).trans c⟩
theorem AllR.below {w w' : World} {vs : List (Value × Value × Value)} {L : Nat} {f : Nat → Rat} (h : AllR w vs L f) (hb : Below w.heap.size w w') : AllR w' vs L f := fun i v hi => (h i v hi).below hb
theorem RdR.at_ {w : World} {g off : Nat} {vs : List (Value × Value × Value)} (h : RdR w (some ⟨g, off, none⟩) vs) {i : Nat} {v : Value × Value × Value} (hi : vs[i]? = some v) : w.cell? ⟨g, off + i * 3, none⟩ = some v.1 ∧ w.cell? ⟨g, off + i * 3 + 1, none⟩ = some v.2.1 ∧ w.cell? ⟨g, off + i * 3 + 2, none⟩ = some v.2.2 := by
  rcases h with h | ⟨g', off', e, hg, hc⟩
  · subst h; simp at hi
  · injection e with e
    injection e with e1 e2
    subst e1 e2
    exact hc i v hi

theorem kp_c {W w1 : World} {p : Addr} {a : Value} (hb : Below W.heap.size W w1) (h : W.cell? p = some a) : w1.cell? p = some a := (hb.cell (World.block_lt_of_cell? _ _ h)).trans h
theorem kp6 {W w1 : World} {p q r s t u : Addr} {a b c d e f : Value} (hb : Below W.heap.size W w1) (h1 : W.cell? p = some a) (h2 : W.cell? q = some b) (h3 : W.cell? r = some c) (h4 : W.cell? s = some d) (h5 : W.cell? t = some e) (h6 : W.cell? u = some f) :
    w1.cell? p = some a ∧ w1.cell? q = some b ∧ w1.cell? r = some c ∧ w1.cell? s = some d ∧ w1.cell? t = some e ∧ w1.cell? u = some f :=
  ⟨kp_c hb h1, kp_c hb h2, kp_c hb h3, kp_c hb h4, kp_c hb h5, kp_c hb h6⟩

end Go.Proofs.YtdjhpplcdkgfgaaDoor
namespace Go.Proofs.YtdjhpplcdkgfgaaDoor
open Go.RowKit
set_option maxRecDepth 100000

theorem tQ_ne : (43 : TypeId) ≠ 4 := by decide
theorem trim_row {w : World} {x : Value} {p : Int} {L : Nat} (h : RowV w x p L) (hL : L ≤ 1048576) : Calls Tryd.prog 73 #[x] w fun e w' => (∃ v, RowC w v p L ∧ e = .returned v) ∧ w = w' := by
  obtain ⟨A, n, c, xs, rfl, hn, hc, hr, hv, hl⟩ := h
  have vl := val_lt xs
  rw [hn] at vl
  obtain ⟨K, hK, hKm, hKv⟩ := blen_bound (val_nonneg xs) vl
  have CL := Lib.hid (rlen_any A n c xs w hn hr (by omega))
  rw [hK] at CL
  have HL : Hid ((xs.take K).length = K) := by show _ = _; rw [List.length_take, hn, Nat.min_eq_left hKm]
  have HV : Hid (val (xs.take K) = p) := by show _ = _; rw [val_take_small hKv, hv]
  have HK : Hid ((K : Int) = blen p) := by show _ = _; rw [← hv, hK]
  have hrt := hr.take K
  have hKc : (K : Int) ≤ (c : Int) := by omega
  clear hK hKv vl hr hv hn
  generalize xs.take K = ys at *
  go_enter Tryd.func73, Tryd.ntmps73
  go_wp2_with fail
  refine CL.out.mono ?_
  rintro e w1 ⟨rfl, rfl⟩
  clear CL
  go_wp2_with fail
  go_ret
  exact ⟨⟨_, ⟨A, K, c, ys, rfl, HL.out, by omega, hrt, HV.out, HK.out, by omega⟩, rfl⟩, rfl⟩
theorem blen_1 : blen 1 = 1 := by decide
theorem one_row (w : World) : Calls Tryd.prog 74 #[] w (RetV (fun w v => RowC w v 1 1) w) := by
  go_enter Tryd.func74, Tryd.ntmps74
  go_wp2_with fail
  go_ret
  refine ⟨_, ⟨_, 1, 1, [true], rfl, rfl, Nat.le_refl _, .inr ⟨_, 0, rfl, (Blk.new w 4 #[.bool true]).typed, fun i b hi => ?_⟩, by decide, by rw [blen_1]; rfl, Nat.le_refl _⟩, rfl, bel_alloc (Below.refl _ _) _⟩
  rcases i with _ | i
  · simp at hi
    subst hi
    simp [go_sem]
  · simp at hi
theorem RowC.len0 {w : World} {v : Value} {p : Int} {L : Nat} (h : RowC w v p L) : ∃ A n c, v = .slice A n c ∧ ((n : Int) == 0) = decide (p = 0) ∧ n ≤ L := by
  obtain ⟨A, n, c, xs, e, hn, hc, hr, hv, hb, hl⟩ := h
  refine ⟨A, n, c, e, ?_, hl⟩
  rw [hb, blen_zero]
  rw [← hv]
  exact val_nonneg xs
theorem RowC.fit {w : World} {v : Value} {p : Int} {L M : Nat} (h : RowC w v p L) (k : p < 2 ^ M) : RowC w v p M := by
  have h0 := h.nonneg
  obtain ⟨A, n, c, xs, e, hn, hc, hr, hv, hb, hl⟩ := h
  refine ⟨A, n, c, xs, e, hn, hc, hr, hv, hb, ?_⟩
  have := (blen_bd h0 k).2
  omega

theorem q_zero {w : World} {v : Value} {L : Nat} (hL : 1 ≤ L) (h : RowC w v 1 1) : QC w (.bool false) (.slice none 0 0) v L 0 :=
  ⟨rfl, ⟨none, 0, 0, [], rfl, rfl, Nat.le_refl _, .inl rfl, rfl, rfl, Nat.zero_le _⟩, h.mono hL⟩

set_option maxHeartbeats 2000000 in
theorem low_any {w : World} {y z : Value} {p q : Int} {L : Nat} (s : Bool) (hy : RowV w y p L) (hz : RowV w z q L) (hL : L ≤ 1048576) (hL1 : 1 ≤ L) : Calls Tryd.prog 44 #[.bool s, y, z] w (RetQ (rv s p q) L w) := by
  have p0 := hy.nonneg
  have q0 := hz.nonneg
  go_enter Tryd.func44, Tryd.ntmps44
  go_wp2_with fail
  refine (trim_row (hy.alloc _) hL).mono ?_
  rintro e w1 ⟨⟨y1, hy1, rfl⟩, rfl⟩
  go_wp2_with fail
  refine (trim_row (hz.alloc _) hL).mono ?_
  rintro e w1 ⟨⟨z1, hz1, rfl⟩, rfl⟩
  clear hy hz
  have K0 := Blk.new w 43 #[.bool false, .slice none 0 0, .slice none 0 0]
  have H0 := Lib.hid (bel_alloc (Below.refl w.heap.size w) (.cells #[.bool false, .slice none 0 0, .slice none 0 0] 43))
  generalize w.alloc (.cells #[.bool false, .slice none 0 0, .slice none 0 0] 43) = W at *
  obtain ⟨A1, n1, c1, rfl, D1, -⟩ := hy1.len0
  obtain ⟨A2, n2, c2, rfl, D2, -⟩ := hz1.len0
  by_cases h0 : p = 0 ∨ q = 0
  · have F := Lib.hid (rv_zero (s := s) h0)
    by_cases h1 : p = 0
    · rw [decide_eq_true h1] at D1
      clear h0 h1 D2 hy1 hz1
      go_wp2_with fail
      refine (one_row _).mono ?_
      rintro e w2 ⟨v, hv, rfl, hb2⟩
      obtain ⟨A, n, c, rfl⟩ := hv.form
      have K2 := K0.below hb2 K0.lt
      have H2 := Lib.hid (bel_trans H0.out hb2)
      clear hb2 K0 H0
      obtain ⟨c0, c1, c2, f0, f1, f2⟩ := K2.three
      go_wp2_with fail
      have K3 := K2.put3 (.bool false) (.slice none 0 0) (.slice A n c)
      have R3 := hv.put3 K2 tQ_ne (.bool false) (.slice none 0 0) (.slice A n c)
      have B3 := Lib.hid (bel_put3 H2.out (Nat.le_refl _) (.bool false) (.slice none 0 0) (.slice A n c))
      unfold wput at K3 R3 B3
      clear c0 c1 c2 f0 f1 f2 K2 H2 hv
      obtain ⟨c0, c1, c2, -, -, -⟩ := K3.three
      try simp only [Exit.inBlock, Exit.then]
      exact bodyPost_ret (v := .agg #[.bool false, .slice none 0 0, .slice A n c]) (by simp [results, Tryd.results44, go_sem, c0, c1, c2]) rfl ⟨_, _, _, by rw [F.out]; exact q_zero hL1 R3, rfl, B3.out⟩
    · have h2 : q = 0 := by omega
      rw [decide_eq_false h1] at D1
      rw [decide_eq_true h2] at D2
      clear h0 h1 h2 hy1 hz1
      go_wp2_with fail
      refine (one_row _).mono ?_
      rintro e w2 ⟨v, hv, rfl, hb2⟩
      obtain ⟨A, n, c, rfl⟩ := hv.form
      have K2 := K0.below hb2 K0.lt
      have H2 := Lib.hid (bel_trans H0.out hb2)
      clear hb2 K0 H0
      obtain ⟨c0, c1, c2, f0, f1, f2⟩ := K2.three
      go_wp2_with fail
      have K3 := K2.put3 (.bool false) (.slice none 0 0) (.slice A n c)
      have R3 := hv.put3 K2 tQ_ne (.bool false) (.slice none 0 0) (.slice A n c)
      have B3 := Lib.hid (bel_put3 H2.out (Nat.le_refl _) (.bool false) (.slice none 0 0) (.slice A n c))
      unfold wput at K3 R3 B3
      clear c0 c1 c2 f0 f1 f2 K2 H2 hv
      obtain ⟨c0, c1, c2, -, -, -⟩ := K3.three
      try simp only [Exit.inBlock, Exit.then]
      exact bodyPost_ret (v := .agg #[.bool false, .slice none 0 0, .slice A n c]) (by simp [results, Tryd.results44, go_sem, c0, c1, c2]) rfl ⟨_, _, _, by rw [F.out]; exact q_zero hL1 R3, rfl, B3.out⟩
  · obtain ⟨F1, F2, F3⟩ := low_of (s := s) (p := p) (q := q) (by omega) (by omega)
    have HG := gcd_pos (p := p) (q := q) (by omega)
    have H1 := Lib.hid F1
    have H2 := Lib.hid F2
    have H3 := Lib.hid F3
    rw [decide_eq_false (show ¬ p = 0 by omega)] at D1
    rw [decide_eq_false (show ¬ q = 0 by omega)] at D2
    clear F1 F2 F3 h0 p0 q0
    go_wp2_with fail
    refine (rgcdV hy1.v hz1.v hL).mono ?_
    rintro e w2 ⟨g, hg, rfl, hb2⟩
    have K2 := K0.below hb2 K0.lt
    have B2 := Lib.hid (bel_trans H0.out hb2)
    have hy2 := hy1.below hb2
    have hz2 := hz1.below hb2
    clear hy1 hz1 hb2 K0 H0
    go_wp2_with fail
    refine (rdivV hy2.v hg (by omega) (by omega) HG).mono ?_
    rintro e w3 ⟨u, u', hu, -, rfl, hb3⟩
    have K3 := K2.below hb3 K2.lt
    have B3 := Lib.hid (bel_trans B2.out hb3)
    have hz3 := hz2.below hb3
    have hg3 := hg.below hb3
    clear K2 B2 hb3 hy2 hz2 hg
    go_wp2_with fail
    refine (rdivV hz3.v hg3 (by omega) (by omega) HG).mono ?_
    rintro e w4 ⟨v, v', hv, -, rfl, hb4⟩
    have K4 := K3.below hb4 K3.lt
    have B4 := Lib.hid (bel_trans B3.out hb4)
    have hu4 := hu.below hb4
    clear K3 B3 hb4 hz3 hg3 hu
    go_wp2_with fail
    refine (trim_row hu4 hL).mono ?_
    rintro e w1 ⟨⟨y5, hy5, rfl⟩, rfl⟩
    go_wp2_with fail
    refine (trim_row hv hL).mono ?_
    rintro e w1 ⟨⟨z5, hz5, rfl⟩, rfl⟩
    clear hu4 hv
    rw [← H2.out] at hy5
    rw [← H3.out] at hz5
    obtain ⟨A, n, c, rfl⟩ := hy5.form
    obtain ⟨B, m, d, rfl⟩ := hz5.form
    obtain ⟨c0, c1, c2, f0, f1, f2⟩ := K4.three
    clear H2 H3
    go_wp2_with fail
    have K5 := K4.put3 (.bool s) (.slice A n c) (.slice B m d)
    have y6 := hy5.put3 K4 tQ_ne (.bool s) (.slice A n c) (.slice B m d)
    have z6 := hz5.put3 K4 tQ_ne (.bool s) (.slice A n c) (.slice B m d)
    have B5 := Lib.hid (bel_put3 B4.out (Nat.le_refl _) (.bool s) (.slice A n c) (.slice B m d))
    unfold wput at K5 y6 z6 B5
    clear c0 c1 c2 f0 f1 f2 K4 hy5 hz5 B4
    obtain ⟨c0, c1, c2, -, -, -⟩ := K5.three
    try simp only [Exit.inBlock, Exit.then]
    exact bodyPost_ret (v := .agg #[.bool s, .slice A n c, .slice B m d]) (by simp [results, Tryd.results44, go_sem, c0, c1, c2]) rfl ⟨_, _, _, ⟨by rw [H1.out], y6, z6⟩, rfl, B5.out⟩

theorem QC.parts {w : World} {x y z : Value} {L : Nat} {r : Rat} (h : QC w x y z L r) : ∃ s p q, x = .bool s ∧ RowV w y p L ∧ RowV w z q L ∧ rv s p q = r ∧ 0 < q ∧ s = rs r ∧ p = rp r ∧ q = rq r := ⟨_, _, _, h.1, h.2.1.v, h.2.2.v, rv_of r, rq_pos r, rfl, rfl, rfl⟩
theorem fsign_any {w : World} {x y z : Value} {L : Nat} {r : Rat} (h : QC w x y z L r) (hL : L ≤ 1048576) : Calls Tryd.prog 43 #[.agg #[x, y, z]] w fun e w' => e = .returned (.int .i64 (sgn r)) ∧ Below w.heap.size w w' := by
  obtain ⟨s, p, q, rfl, hy, hz, rfl, hq, -, -, -⟩ := h.parts
  clear h
  have F := Lib.hid (sgn_rv (s := s) hy.nonneg hz.nonneg)
  generalize sgn (rv s p q) = g at *
  have C1 := fun o => rlenV (hy.alloc o) hL
  have B := blen_zero hy.nonneg
  by_cases h1 : p = 0
  · have F2 : Hid (0 = g) := by show _ = _; rw [F.out, if_pos (.inl h1)]
    rw [decide_eq_true h1] at B
    generalize blen p = b at *
    clear h1 F hy hz hq
    go_enter Tryd.func43, Tryd.ntmps43
    go_wp2_with fail
    refine (C1 _).mono ?_
    rintro e w1 ⟨rfl, rfl⟩
    go_wp2_with fail
    go_ret
    exact ⟨ret_int F2.out, bel_alloc (Below.refl _ _) _⟩
  · have F2 : Hid ((if s then -1 else 1) = g) := by show _ = _; rw [F.out, if_neg (show ¬ (p = 0 ∨ q = 0) by omega)]
    rw [decide_eq_false h1] at B
    generalize blen p = b at *
    clear h1 F hy hz hq
    cases s
    · go_enter Tryd.func43, Tryd.ntmps43
      go_wp2_with fail
      refine (C1 _).mono ?_
      rintro e w1 ⟨rfl, rfl⟩
      go_wp2_with fail
      go_ret
      exact ⟨ret_int F2.out, bel_alloc (Below.refl _ _) _⟩
    · go_enter Tryd.func43, Tryd.ntmps43
      go_wp2_with fail
      refine (C1 _).mono ?_
      rintro e w1 ⟨rfl, rfl⟩
      go_wp2_with fail
      go_ret
      exact ⟨ret_int F2.out, bel_alloc (Below.refl _ _) _⟩
end Go.Proofs.YtdjhpplcdkgfgaaDoor
namespace Go.Proofs.YtdjhpplcdkgfgaaDoor
open Go.RowKit
set_option maxRecDepth 100000

theorem RowV.drew {w : World} {v : Value} {p : Int} {L : Nat} (h : RowV w v p L) : RowV w.drew v p L := h
theorem QC.drew {w : World} {x y z : Value} {L : Nat} {r : Rat} (h : QC w x y z L r) : QC w.drew x y z L r := h

/-- A difference of rows that is no less than nought, and whatever bool. -/
def RetSubR (p : Int) (L : Nat) (w : World) (e : Ending) (w' : World) : Prop := ∃ v b, RowV w' v p L ∧ e = .returned (.tuple #[v, .bool b]) ∧ Below w.heap.size w w'
theorem rsubV {A B : Option Addr} {n m c d : Nat} {w : World} {p q : Int} {L M : Nat} (h : RowV w (.slice A n c) p L) (k : RowV w (.slice B m d) q M) (hL : L ≤ 1048576) (hM : M ≤ 1048576) (N : Int) (hN : N = (max n m : Nat)) (hle : q ≤ p) : Calls Tryd.prog 102 #[.slice A n c, .slice B m d, .int .i64 N] w (RetSubR (p - q) (L + M) w) := by
  obtain ⟨A', n', c', xs, e1, hn, hc, hr, hv, hl⟩ := h
  obtain ⟨B', m', d', ys, e2, hm, hd, hs, hw, hk⟩ := k
  injection e1 with e1 e3 e4
  injection e2 with e2 e5 e6
  subst e1 e2 e3 e4 e5 e6
  refine (rsub_any A B n m c d xs ys N w hn hm hr hs (by omega) (by omega) (by omega) (by omega)).mono fun e w' r => ?_
  obtain ⟨zs, b, A3, c3, pp, e1, hc3, _, hr3, hb3⟩ := r
  have hNn : N.toNat = max n m := by omega
  rw [hNn] at pp
  have e := pp.eq
  have n0 := val_nonneg zs
  have n1 := val_lt zs
  have n2 := val_lt xs
  have lz := pp.len
  rw [lz] at n1
  have px := pow_mono xs.length (max n m) (by omega)
  rw [List.take_of_length_le (by omega), List.take_of_length_le (by omega), hv, hw] at e
  rw [hv] at n2
  refine ⟨_, b, ⟨A3, zs.length, c3, zs, rfl, rfl, hc3, hr3, ?_, by omega⟩, e1, hb3⟩
  cases b
  · simp at e
    omega
  · simp at e
    omega

theorem kp_1 {W w1 : World} {p : Addr} {a : Value} (hb : Below W.heap.size W w1) (h : W.cell? p = some a) : w1.cell? p = some a := kp_c hb h
theorem kp_1_put {W w1 : World} {g k : Nat} {t : TypeId} {a b c x y z : Value} (hb : Below W.heap.size W w1) (hg : Blk W g t #[a, b, c]) (n1 : g ≠ k) : (((w1.setCell ⟨k, 0, none⟩ x).setCell ⟨k, 1, none⟩ y).setCell ⟨k, 2, none⟩ z).cell? ⟨g, 0, none⟩ = some a := by
  have hg1 := (hg.below hb hg.lt).put3_far n1 x y z
  unfold wput at hg1
  exact hg1.cell 0
theorem kp_r_put {W w1 : World} {g k : Nat} {t : TypeId} {a b c x y z : Value} (hb : Below W.heap.size W w1) (hg : Blk W g t #[a, b, c]) (n1 : g ≠ k) : (((w1.setCell ⟨k, 0, none⟩ x).setCell ⟨k, 1, none⟩ y).setCell ⟨k, 2, none⟩ z).cell? ⟨g, 0, none⟩ = some a ∧ (((w1.setCell ⟨k, 0, none⟩ x).setCell ⟨k, 1, none⟩ y).setCell ⟨k, 2, none⟩ z).cell? ⟨g, 1, none⟩ = some b ∧ (((w1.setCell ⟨k, 0, none⟩ x).setCell ⟨k, 1, none⟩ y).setCell ⟨k, 2, none⟩ z).cell? ⟨g, 2, none⟩ = some c := by
  have hg1 := (hg.below hb hg.lt).put3_far n1 x y z
  unfold wput at hg1
  exact ⟨hg1.cell 0, hg1.cell 1, hg1.cell 2⟩
theorem max_cast (n m : Nat) : max (n : Int) (m : Int) = ((max n m : Nat) : Int) := by omega

end Go.Proofs.YtdjhpplcdkgfgaaDoor
namespace Go.Proofs.YtdjhpplcdkgfgaaDoor
open Go.RowKit
set_option maxRecDepth 100000

end Go.Proofs.YtdjhpplcdkgfgaaDoor
