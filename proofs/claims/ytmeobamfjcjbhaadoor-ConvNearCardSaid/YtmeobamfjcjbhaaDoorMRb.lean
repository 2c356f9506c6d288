/-
  Contracts of ratio's addSigned, Add, Sub, Mul, Div, Cmp, Len, Text and Dyad over rational numbers. Conditions: the parts are of at most 2^16 words; the table of math/bits stands in its variable.
-/
import Derived.Test.YtmeobamfjcjbhaaDoorMRa
namespace Go.Proofs.YtmeobamfjcjbhaaDoor
open Go.RowKit
set_option maxRecDepth 100000

/-- A sign and a natural number, together the number v. -/
def RetSg (v : Int) (L : Nat) (w : World) (e : Ending) (w' : World) : Prop := ∃ s x n, NatC w' x n L ∧ sv s n = v ∧ e = .returned (.tuple #[.bool s, x]) ∧ Below w.heap.size w w'
set_option maxHeartbeats 1000000 in
theorem addSigned_any {w : World} {x y : Value} {p q : Int} {L : Nat} (s t : Bool) (hx : NatV w x p L) (hy : NatV w y q L) (hL : L ≤ 262144) : Calls Tryd.prog 37 #[.bool s, x, .bool t, y] w (RetSg (sv s p + sv t q) (L + 1) w) := by
  by_cases hst : s = t
  · subst hst
    have F : Hid (sv s (p + q) = sv s p + sv s q) := by show _ = _; cases s <;> simp [sv] <;> omega
    go_enter Tryd.func37, Tryd.ntmps37
    go_wp2_with fail
    refine (naddL hx hy (by omega)).mono ?_
    rintro e w1 ⟨v, hv, rfl, hb⟩
    go_wp2_with fail
    go_ret2
    exact ⟨_, _, _, hv, F.out, rfl, hb⟩
  · have e0 : (s == t) = false := by cases s <;> cases t <;> simp at hst ⊢
    by_cases hle : q ≤ p
    · have F : Hid (sv s (p - q) = sv s p + sv t q) := by show _ = _; cases s <;> cases t <;> simp [sv] at hst ⊢ <;> omega
      have D : decide (q ≤ p) = true := decide_eq_true hle
      have C := nsubV hx hy (by omega) (by omega)
      unfold RetSubV at C
      rw [D, if_pos hle] at C
      clear D hst hle
      go_enter Tryd.func37, Tryd.ntmps37
      go_wp2_with fail
      refine C.mono ?_
      rintro e w1 ⟨v, hv, rfl, hb⟩
      go_wp2_with fail
      go_ret2
      exact ⟨_, _, _, hv.mono (by omega), F.out, rfl, hb⟩
    · have F : Hid (sv t (q - p) = sv s p + sv t q) := by show _ = _; cases s <;> cases t <;> simp [sv] at hst ⊢ <;> omega
      have D : decide (q ≤ p) = false := decide_eq_false hle
      have C := nsubV hx hy (by omega) (by omega)
      unfold RetSubV at C
      rw [D, if_neg hle] at C
      have H2 : Hid (p ≤ q) := by show _ ≤ _; omega
      clear D hst hle
      go_enter Tryd.func37, Tryd.ntmps37
      go_wp2_with fail
      refine C.mono ?_
      rintro e w1 ⟨v, -, rfl, hb⟩
      have hx1 := hx.below hb
      have hy1 := hy.below hb
      clear hx hy C
      go_wp2_with fail
      have C := nsubV hy1 hx1 (by omega) (by omega)
      unfold RetSubV at C
      rw [decide_eq_true H2.out, if_pos H2.out] at C
      refine C.mono ?_
      rintro e w2 ⟨v2, hv, rfl, hb2⟩
      have HB := Lib.hid (bel_trans hb hb2)
      clear hb hb2 hx1 hy1 C
      go_wp2_with fail
      go_ret2
      exact ⟨_, _, _, hv.mono (by omega), F.out, rfl, HB.out⟩

theorem NatV.drew {w : World} {v : Value} {p : Int} {L : Nat} (h : NatV w v p L) : NatV w.drew v p L := h
theorem NatC.drew {w : World} {v : Value} {p : Int} {L : Nat} (h : NatC w v p L) : NatC w.drew v p L := h
theorem TabOk.drew {w : World} (h : TabOk w) : TabOk w.drew := h
/-- What two structs' blocks read as stays behind a call. -/
theorem kp_rr {W w1 : World} {g h : Nat} {t u : TypeId} {a b c d e f : Value} (hb : Below W.heap.size W w1) (hg : Blk W g t #[a, b, c]) (hh : Blk W h u #[d, e, f]) :
    w1.cell? ⟨g, 0, none⟩ = some a ∧ w1.cell? ⟨g, 1, none⟩ = some b ∧ w1.cell? ⟨g, 2, none⟩ = some c ∧ w1.cell? ⟨h, 0, none⟩ = some d ∧ w1.cell? ⟨h, 1, none⟩ = some e ∧ w1.cell? ⟨h, 2, none⟩ = some f := by
  have hg1 := hg.below hb hg.lt
  have hh1 := hh.below hb hh.lt
  exact ⟨hg1.cell 0, hg1.cell 1, hg1.cell 2, hh1.cell 0, hh1.cell 1, hh1.cell 2⟩
/-- And behind a third struct's being written. -/
theorem kp_rr_put {W w1 : World} {g h k : Nat} {t u : TypeId} {a b c d e f x y z : Value} (hb : Below W.heap.size W w1) (hg : Blk W g t #[a, b, c]) (hh : Blk W h u #[d, e, f]) (n1 : g ≠ k) (n2 : h ≠ k) :
    (((w1.setCell ⟨k, 0, none⟩ x).setCell ⟨k, 1, none⟩ y).setCell ⟨k, 2, none⟩ z).cell? ⟨g, 0, none⟩ = some a ∧ (((w1.setCell ⟨k, 0, none⟩ x).setCell ⟨k, 1, none⟩ y).setCell ⟨k, 2, none⟩ z).cell? ⟨g, 1, none⟩ = some b ∧ (((w1.setCell ⟨k, 0, none⟩ x).setCell ⟨k, 1, none⟩ y).setCell ⟨k, 2, none⟩ z).cell? ⟨g, 2, none⟩ = some c ∧
    (((w1.setCell ⟨k, 0, none⟩ x).setCell ⟨k, 1, none⟩ y).setCell ⟨k, 2, none⟩ z).cell? ⟨h, 0, none⟩ = some d ∧ (((w1.setCell ⟨k, 0, none⟩ x).setCell ⟨k, 1, none⟩ y).setCell ⟨k, 2, none⟩ z).cell? ⟨h, 1, none⟩ = some e ∧ (((w1.setCell ⟨k, 0, none⟩ x).setCell ⟨k, 1, none⟩ y).setCell ⟨k, 2, none⟩ z).cell? ⟨h, 2, none⟩ = some f := by
  have hg1 := (hg.below hb hg.lt).put3_far n1 x y z
  have hh1 := (hh.below hb hh.lt).put3_far n2 x y z
  unfold wput at hg1 hh1
  exact ⟨hg1.cell 0, hg1.cell 1, hg1.cell 2, hh1.cell 0, hh1.cell 1, hh1.cell 2⟩

theorem sgn_ne {s : Bool} {p q : Int} (hp : 0 ≤ p) (hq : 0 ≤ q) (h : sgn (rv s p q) ≠ 0) : 0 < p ∧ 0 < q := by
  rw [sgn_rv hp hq] at h
  by_cases h0 : p = 0 ∨ q = 0
  · rw [if_pos h0] at h; exact absurd rfl h
  · omega
end Go.Proofs.YtmeobamfjcjbhaaDoor
namespace Go.Proofs.YtmeobamfjcjbhaaDoor
open Go.RowKit
set_option maxRecDepth 100000

theorem sum_rv {s t s' : Bool} {p q a b n : Int} (hq : 0 < q) (hb : 0 < b) (h : sv s' n = sv s (p * b) + sv t (a * q)) : rv s' n (q * b) = rv s p q + rv t a b := by
  rw [rv_add hq hb]
  unfold rv
  rw [h]
  congr 1
  cases s <;> cases t <;> simp [sv, Int.neg_mul]

set_option maxHeartbeats 4000000 in
theorem qadd_any {w : World} {x y z x' y' z' : Value} {L M : Nat} {r r' : Rat} (h : RV w x y z L r) (k : RV w x' y' z' M r') (hL : L ≤ 65536) (hM : M ≤ 65536) (hL1 : 1 ≤ L) (hM1 : 1 ≤ M) (hT : TabOk w) : Calls Tryd.prog 19 #[.agg #[x, y, z], .agg #[x', y', z']] w (RetR (r + r') (L + M + 1) w) := by
  have C1 := fun o1 o2 o3 => sign_any (h.below (bel_3 w o1 o2 o3)) (show L ≤ 1048576 by omega)
  by_cases h0 : r = 0
  · subst h0
    rw [Rat.zero_add]
    rw [show sgn 0 = 0 by rfl] at C1
    clear h
    go_enter Tryd.func19, Tryd.ntmps19
    go_wp2_with fail
    refine (C1 _ _ _).mono ?_
    rintro e W ⟨rfl, hb1⟩
    clear C1
    have K1 := Blk.in32 hb1
    have K2 := Blk.in33 hb1
    have HB0 : Below w.heap.size w W := bel_trans (bel_3 _ _ _ _) hb1
    have HG2 : w.heap.size ≤ w.heap.size + 1 + 1 := by omega
    clear hb1
    generalize w.heap.size + 1 + 1 = g2 at *
    generalize w.heap.size + 1 = g1 at *
    have k0 := k.below HB0
    have T0 := hT.below HB0
    have H0 := Lib.hid HB0
    clear HB0 k hT
    obtain ⟨c0, c1, c2, -, -, -⟩ := K1.three
    go_wp2_with fail
    refine (reduced_any k0 (by omega) hM1 T0).mono ?_
    rintro e w3 ⟨x3, y3, z3, hr, rfl, hb3⟩
    obtain ⟨s1, A1, n1, k1, B1, m1, l1, rfl, rfl, rfl⟩ := hr.form
    have H3 := Lib.hid (bel_trans H0.out hb3)
    have K4 := K2.below hb3 K2.lt
    clear hb3 H0 K2 K1 k0 T0 c0 c1 c2
    obtain ⟨c0, c1, c2, f0, f1, f2⟩ := K4.three
    go_wp2_with fail
    have K5 := K4.put3 (.bool s1) (.slice A1 n1 k1) (.slice B1 m1 l1)
    have R5 := hr.put3 K4 (.bool s1) (.slice A1 n1 k1) (.slice B1 m1 l1)
    have B5 := Lib.hid (bel_put3 H3.out HG2 (.bool s1) (.slice A1 n1 k1) (.slice B1 m1 l1))
    unfold wput at K5 R5 B5
    clear c0 c1 c2 f0 f1 f2 K4 hr H3
    obtain ⟨c0, c1, c2, -, -, -⟩ := K5.three
    try simp only [Exit.inBlock, Exit.then]
    refine bodyPost_ret (v := .agg #[.bool s1, .slice A1 n1 k1, .slice B1 m1 l1]) (by simp [results, Tryd.results19, go_sem, c0, c1, c2]) rfl ⟨_, _, _, R5.mono (by omega), rfl, B5.out⟩
  · have hs0 : (sgn r == 0) = false := by
      have : sgn r ≠ 0 := fun e => h0 (sgn_eq.1 e)
      simpa using this
    by_cases h1 : r' = 0
    · subst h1
      rw [Rat.add_zero]
      have HS0 := hs0
      generalize sgn r = g at *
      clear h0
      go_enter Tryd.func19, Tryd.ntmps19
      go_wp2_with fail
      refine (C1 _ _ _).mono ?_
      rintro e W ⟨rfl, hb1⟩
      clear C1
      have K0 := Blk.in31 hb1
      have K1 := Blk.in32 hb1
      have K2 := Blk.in33 hb1
      have HB0 : Below w.heap.size w W := bel_trans (bel_3 _ _ _ _) hb1
      have HG2 : w.heap.size ≤ w.heap.size + 1 + 1 := by omega
      clear hb1
      generalize w.heap.size + 1 + 1 = g2 at *
      generalize w.heap.size + 1 = g1 at *
      have h0 := h.below HB0
      have k0 := k.below HB0
      have T0 := hT.below HB0
      have H0 := Lib.hid HB0
      clear HB0 k hT h
      have C2 := sign_any k0 (show M ≤ 1048576 by omega)
      rw [show sgn 0 = 0 by rfl] at C2
      obtain ⟨c0, c1, c2, -, -, -⟩ := K1.three
      go_wp2_with fail
      refine C2.mono ?_
      rintro e W2 ⟨rfl, hb2⟩
      have h2 := h0.below hb2
      have T2 := T0.below hb2
      have K02 := K0.below hb2 K0.lt
      have K22 := K2.below hb2 K2.lt
      have H2 := Lib.hid (bel_trans H0.out hb2)
      clear K0 K1 K2 H0 T0 h0 hb2 C2 c0 c1 c2 k0
      obtain ⟨c0, c1, c2, -, -, -⟩ := K02.three
      go_wp2_with fail
      refine (reduced_any h2 (by omega) hL1 T2).mono ?_
      rintro e w3 ⟨x3, y3, z3, hr, rfl, hb3⟩
      obtain ⟨s1, A1, n1, k1, B1, m1, l1, rfl, rfl, rfl⟩ := hr.form
      have H3 := Lib.hid (bel_trans H2.out hb3)
      have K4 := K22.below hb3 K22.lt
      clear hb3 H2 K22 K02 h2 T2 c0 c1 c2
      obtain ⟨c0, c1, c2, f0, f1, f2⟩ := K4.three
      go_wp2_with fail
      have K5 := K4.put3 (.bool s1) (.slice A1 n1 k1) (.slice B1 m1 l1)
      have R5 := hr.put3 K4 (.bool s1) (.slice A1 n1 k1) (.slice B1 m1 l1)
      have B5 := Lib.hid (bel_put3 H3.out HG2 (.bool s1) (.slice A1 n1 k1) (.slice B1 m1 l1))
      unfold wput at K5 R5 B5
      clear c0 c1 c2 f0 f1 f2 K4 hr H3
      obtain ⟨c0, c1, c2, -, -, -⟩ := K5.three
      try simp only [Exit.inBlock, Exit.then]
      refine bodyPost_ret (v := .agg #[.bool s1, .slice A1 n1 k1, .slice B1 m1 l1]) (by simp [results, Tryd.results19, go_sem, c0, c1, c2]) rfl ⟨_, _, _, R5.mono (by omega), rfl, B5.out⟩
    · have hs1 : sgn r' ≠ 0 := fun e => h1 (sgn_eq.1 e)
      have hs1' : (sgn r' == 0) = false := by simpa using hs1
      have hs0' : sgn r ≠ 0 := fun e => h0 (sgn_eq.1 e)
      have C2 : Hid (∀ W, Below w.heap.size w W → Calls Tryd.prog 21 #[.agg #[x', y', z']] W fun e w' => e = .returned (.int .i64 (sgn r')) ∧ Below W.heap.size W w') := fun W hW => sign_any (k.below hW) (show M ≤ 1048576 by omega)
      obtain ⟨s, p, q, rfl, hy, hz, rfl⟩ := h
      obtain ⟨t, a, b, rfl, hy', hz', rfl⟩ := k
      obtain ⟨-, hq⟩ := sgn_ne hy.nonneg hz.nonneg hs0'
      obtain ⟨-, hb⟩ := sgn_ne hy'.nonneg hz'.nonneg hs1
      have FIN : Hid (∀ s' n, sv s' n = sv s (p * b) + sv t (a * q) → rv s' n (q * b) = rv s p q + rv t a b) := fun s' n e => sum_rv hq hb e
      generalize sgn (rv s p q) = g at *
      generalize sgn (rv t a b) = g' at *
      generalize rv s p q + rv t a b = sum at *
      clear h0 h1 hs1 hs0' hq hb
      go_enter Tryd.func19, Tryd.ntmps19
      go_wp2_with fail
      refine (C1 _ _ _).mono ?_
      rintro e W ⟨rfl, hb1⟩
      clear C1
      have K0 := Blk.in31 hb1
      have K1 := Blk.in32 hb1
      have K2 := Blk.in33 hb1
      have HB0 : Below w.heap.size w W := bel_trans (bel_3 _ _ _ _) hb1
      have HG2 : w.heap.size ≤ w.heap.size + 1 + 1 := by omega
      clear hb1
      generalize w.heap.size + 1 + 1 = g2 at *
      generalize w.heap.size + 1 = g1 at *
      have H0 := Lib.hid HB0
      clear HB0
      have C3 := C2.out W H0.out
      obtain ⟨c0, c1, c2, -, -, -⟩ := K1.three
      go_wp2_with fail
      refine C3.mono ?_
      rintro e W2 ⟨rfl, hb2⟩
      have K02 := K0.below hb2 K0.lt
      have K12 := K1.below hb2 K1.lt
      have K22 := K2.below hb2 K2.lt
      have H2 := Lib.hid (bel_trans H0.out hb2)
      have y0 := hy.below H2.out
      have z0 := hz.below H2.out
      have y1 := hy'.below H2.out
      have z1 := hz'.below H2.out
      have T0 := hT.below H2.out
      clear K0 K1 K2 H0 hb2 C2 C3 c0 c1 c2 hy hz hy' hz' hT
      go_upto_region 5 with fail
      go_cut [5, 6] (fun s5 s6 wx => ∃ s' v n, s5 = .bool s' ∧ s6 = v ∧ NatC wx v n (L + M + 1) ∧ Hid (sv s' n = sv s (p * b) + sv t (a * q)) ∧ Hid (Below W2.heap.size W2 wx))
      case first =>
        go_region_held3 (fun w' => w'.cell? ⟨w.heap.size, 0, none⟩ = some (.bool s) ∧ w'.cell? ⟨w.heap.size, 1, none⟩ = some y ∧ w'.cell? ⟨w.heap.size, 2, none⟩ = some z ∧ w'.cell? ⟨g1, 0, none⟩ = some (.bool t) ∧ w'.cell? ⟨g1, 1, none⟩ = some y' ∧ w'.cell? ⟨g1, 2, none⟩ = some z')
          ((refine kp_rr (W := W2) ?_ K02 K12; (repeat (first | exact Below.refl _ _ | exact X3 | exact X2 | exact X1 | refine bel_drew ?_)); done))
          (first
            | (go_at_call 23; have _ := X1; refine (nmulV (w := w1) (y1.below X1) (z0.below X1) (by omega) (by omega)).mono ?_; rintro e w2 ⟨v, hv, rfl, hb2⟩; have X2 : Below W2.heap.size W2 w2 := bel_trans X1 hb2)
            | (go_at_call 23; refine (nmulV (w := W2.drew) y0.drew z1.drew (by omega) (by omega)).mono ?_; rintro e w1 ⟨u, hu, rfl, hb1⟩; have X1 : Below W2.heap.size W2 w1 := bel_trans (bel_drew (Below.refl _ _)) hb1)
            | (go_at_call 37; refine (addSigned_any (w := w2) s t (hu.below hb2).v (hv.v.mono (show M + L ≤ L + M by omega)) (by omega)).mono ?_; rintro e w3 ⟨s3, v3, n3, hr3, he3, rfl, hb3⟩; have X3 : Below W2.heap.size W2 w3 := bel_trans X2 hb3))
        all_goals
          go_wp2_with fail
          go_meet
          exact ⟨s3, v3, n3, rfl, rfl, hr3, he3, X3⟩
      case rest =>
        obtain ⟨s3, v3, n3, rfl, rfl, hr3, he3, X3⟩ := hcut
        have K03 := K02.below X3.out K02.lt
        have K13 := K12.below X3.out K12.lt
        have K23 := K22.below X3.out K22.lt
        have H3 := Lib.hid (bel_trans H2.out X3.out)
        have z03 := z0.below X3.out
        have z13 := z1.below X3.out
        have T3 := T0.below X3.out
        clear K02 K12 K22 H2 X3 y0 z0 y1 z1 T0
        have SUM := FIN.out _ _ he3.out
        clear FIN he3
        obtain ⟨a0, a1, a2, -, -, -⟩ := K03.three
        obtain ⟨b0, b1, b2, -, -, -⟩ := K13.three
        go_wp2_with fail
        refine (nmulV z03 z13 (by omega) (by omega)).mono ?_
        rintro e w4 ⟨v4, hv4, rfl, hb4⟩
        have K24 := K23.below hb4 K23.lt
        have H4 := Lib.hid (bel_trans H3.out hb4)
        have hr4 := hr3.below hb4
        have T4 := T3.below hb4
        clear hb4 H3 K23 K03 K13 z03 z13 T3 hr3 a0 a1 a2 b0 b1 b2
        go_wp2_with fail
        refine (lowest_any s3 hr4.v (hv4.v.mono (show L + M ≤ L + M + 1 by omega)) (by omega) (by omega) T4).mono ?_
        rw [SUM]
        rintro e w5 ⟨x5, y5, z5, hr, rfl, hb5⟩
        obtain ⟨s1, A1, n1, k1, B1, m1, l1, rfl, rfl, rfl⟩ := hr.form
        have H5 := Lib.hid (bel_trans H4.out hb5)
        have K4 := K24.below hb5 K24.lt
        clear hb5 H4 K24 T4 hr4 hv4 SUM
        obtain ⟨c0, c1, c2, f0, f1, f2⟩ := K4.three
        go_wp2_with fail
        have K5 := K4.put3 (.bool s1) (.slice A1 n1 k1) (.slice B1 m1 l1)
        have R5 := hr.put3 K4 (.bool s1) (.slice A1 n1 k1) (.slice B1 m1 l1)
        have B5 := Lib.hid (bel_put3 H5.out HG2 (.bool s1) (.slice A1 n1 k1) (.slice B1 m1 l1))
        unfold wput at K5 R5 B5
        clear c0 c1 c2 f0 f1 f2 K4 hr H5
        obtain ⟨c0, c1, c2, -, -, -⟩ := K5.three
        try simp only [Exit.inBlock, Exit.then]
        refine bodyPost_ret (v := .agg #[.bool s1, .slice A1 n1 k1, .slice B1 m1 l1]) (by simp [results, Tryd.results19, go_sem, c0, c1, c2]) rfl ⟨_, _, _, R5, rfl, B5.out⟩
end Go.Proofs.YtmeobamfjcjbhaaDoor
namespace Go.Proofs.YtmeobamfjcjbhaaDoor
open Go.RowKit
set_option maxRecDepth 100000

set_option maxHeartbeats 4000000 in
theorem qsub_any {w : World} {x y z x' y' z' : Value} {L M : Nat} {r r' : Rat} (h : RV w x y z L r) (k : RV w x' y' z' M r') (hL : L ≤ 65536) (hM : M ≤ 65536) (hL1 : 1 ≤ L) (hM1 : 1 ≤ M) (hT : TabOk w) : Calls Tryd.prog 8 #[.agg #[x, y, z], .agg #[x', y', z']] w (RetR (r - r') (L + M + 1) w) := by
  obtain ⟨t, a, b, rfl, hy', hz', rfl⟩ := k
  have F := Lib.hid (rv_not t a b)
  go_enter Tryd.func8, Tryd.ntmps8
  go_wp2_with fail
  refine (qadd_any (h.below (bel_3 _ _ _ _)) ⟨!t, a, b, rfl, hy'.below (bel_3 _ _ _ _), hz'.below (bel_3 _ _ _ _), F.out⟩ hL hM hL1 hM1 (hT.below (bel_3 _ _ _ _))).mono ?_
  rintro e w3 ⟨x3, y3, z3, hr, rfl, hb3⟩
  obtain ⟨s1, A1, n1, k1, B1, m1, l1, rfl, rfl, rfl⟩ := hr.form
  have H3 := Lib.hid (bel_trans (bel_3 _ _ _ _) hb3)
  have K4 := Blk.in33 hb3
  have HG2 : w.heap.size ≤ w.heap.size + 1 + 1 := by omega
  rw [← Rat.sub_eq_add_neg] at hr
  clear hb3 h hy' hz' hT F
  generalize w.heap.size + 1 + 1 = g2 at *
  obtain ⟨c0, c1, c2, f0, f1, f2⟩ := K4.three
  go_wp2_with fail
  have K5 := K4.put3 (.bool s1) (.slice A1 n1 k1) (.slice B1 m1 l1)
  have R5 := hr.put3 K4 (.bool s1) (.slice A1 n1 k1) (.slice B1 m1 l1)
  have B5 := Lib.hid (bel_put3 H3.out HG2 (.bool s1) (.slice A1 n1 k1) (.slice B1 m1 l1))
  unfold wput at K5 R5 B5
  clear c0 c1 c2 f0 f1 f2 K4 hr H3
  obtain ⟨c0, c1, c2, -, -, -⟩ := K5.three
  try simp only [Exit.inBlock, Exit.then]
  refine bodyPost_ret (v := .agg #[.bool s1, .slice A1 n1 k1, .slice B1 m1 l1]) (by simp [results, Tryd.results8, go_sem, c0, c1, c2]) rfl ⟨_, _, _, R5, rfl, B5.out⟩

theorem cmpI_zero {a b : Int} (h : cmpI a b = 0) : a = b := by
  unfold cmpI at h
  split at h
  · cases h
  · split at h
    · cases h
    · omega
theorem same_sign {s t : Bool} {p q a b : Int} (hp : 0 < p) (hq : 0 < q) (ha : 0 < a) (hb : 0 < b) (h : sgn (rv s p q) = sgn (rv t a b)) : s = t := by
  rw [sgn_rv (Int.le_of_lt hp) (Int.le_of_lt hq), sgn_rv (Int.le_of_lt ha) (Int.le_of_lt hb), if_neg (by omega), if_neg (show ¬ (a = 0 ∨ b = 0) by omega)] at h
  cases s <;> cases t <;> simp at h ⊢
theorem wrap_sign {g c : Int} (h : g = -1 ∨ g = 1) (h0 : -1 ≤ c) (h1 : c ≤ 1) : IntKind.i64.wrap (g * c) = g * c := by
  rcases h with h | h <;> subst h
  · have : c = -1 ∨ c = 0 ∨ c = 1 := by omega
    rcases this with h | h | h <;> subst h <;> decide
  · have : c = -1 ∨ c = 0 ∨ c = 1 := by omega
    rcases this with h | h | h <;> subst h <;> decide

set_option maxHeartbeats 4000000 in
theorem qcmp_any {w : World} {x y z x' y' z' : Value} {L M : Nat} {r r' : Rat} (h : RV w x y z L r) (k : RV w x' y' z' M r') (hL : L ≤ 65536) (hM : M ≤ 65536) : Calls Tryd.prog 10 #[.agg #[x, y, z], .agg #[x', y', z']] w fun e w' => e = .returned (.int .i64 (cmpR r r')) ∧ Below w.heap.size w w' := by
  have C1 := fun o1 o2 => sign_any (h.below (bel_2 w o1 o2)) (show L ≤ 1048576 by omega)
  have C2 : Hid (∀ W, Below w.heap.size w W → Calls Tryd.prog 21 #[.agg #[x', y', z']] W fun e w' => e = .returned (.int .i64 (sgn r')) ∧ Below W.heap.size W w') := fun W hW => sign_any (k.below hW) (show M ≤ 1048576 by omega)
  have C3 := Lib.hid (cmpInt_any (sgn r) (sgn r'))
  by_cases h0 : cmpI (sgn r) (sgn r') = 0
  · rw [h0] at C3
    have hss := cmpI_zero h0
    by_cases h1 : sgn r = 0
    · have F : Hid (0 = cmpR r r') := by
        show _ = _
        have e1 : r = 0 := sgn_eq.1 h1
        have e2 : r' = 0 := sgn_eq.1 (hss.symm.trans h1)
        rw [e1, e2]
        exact (cmp_self 0).symm
      rw [← hss, h1] at C2
      rw [← hss, h1] at C3
      rw [h1] at C1
      generalize cmpR r r' = cc at *
      clear hss h1 h0 h k
      go_enter Tryd.func10, Tryd.ntmps10
      go_wp2_with fail
      refine (C1 _ _).mono ?_
      rintro e W ⟨rfl, hb1⟩
      clear C1
      have K1 := Blk.in22 hb1
      have H0 : Hid (Below w.heap.size w W) := bel_trans (bel_2 _ _ _) hb1
      clear hb1
      generalize w.heap.size + 1 = g1 at *
      have C4 := C2.out W H0.out
      clear C2
      obtain ⟨c0, c1, c2, -, -, -⟩ := K1.three
      go_wp2_with fail
      refine C4.mono ?_
      rintro e W2 ⟨rfl, hb2⟩
      have H2 := Lib.hid (bel_trans H0.out hb2)
      clear C4 H0 hb2 K1 c0 c1 c2
      go_wp2_with fail
      refine (C3.out _).mono ?_
      rintro e W3 ⟨rfl, rfl⟩
      clear C3
      go_wp2_with fail
      go_ret
      exact ⟨ret_int F.out, H2.out⟩
    · have hs1 : sgn r' ≠ 0 := fun e => h1 (hss.trans e)
      have hs0' : (sgn r == 0) = false := by simpa using h1
      have hsg : sgn r = -1 ∨ sgn r = 1 := by rcases sgn_cases r with h2 | h2 | h2 <;> simp_all
      obtain ⟨s, p, q, rfl, hy, hz, rfl⟩ := h
      obtain ⟨t, a, b, rfl, hy', hz', rfl⟩ := k
      obtain ⟨hp, hq⟩ := sgn_ne hy.nonneg hz.nonneg h1
      obtain ⟨ha, hb⟩ := sgn_ne hy'.nonneg hz'.nonneg hs1
      obtain rfl := same_sign hp hq ha hb hss
      have F : Hid (sgn (rv s p q) * cmpI (p * b) (a * q) = cmpR (rv s p q) (rv s a b)) := by
        show _ = _
        rw [cmp_same hq hb, sgn_rv (Int.le_of_lt hp) (Int.le_of_lt hq), if_neg (by omega)]
      have bd := cmpI_bd (p * b) (a * q)
      have WR := wrap_sign hsg bd.1 bd.2
      generalize hcc : cmpR (rv s p q) (rv s a b) = cc at *
      generalize sgn (rv s p q) = g at *
      generalize sgn (rv s a b) = g' at *
      clear hsg hss h1 hs1 hp hq ha hb hcc h0
      go_enter Tryd.func10, Tryd.ntmps10
      go_wp2_with fail
      refine (C1 _ _).mono ?_
      rintro e W ⟨rfl, hb1⟩
      clear C1
      have K0 := Blk.in21 hb1
      have K1 := Blk.in22 hb1
      have H0 : Hid (Below w.heap.size w W) := bel_trans (bel_2 _ _ _) hb1
      clear hb1
      generalize w.heap.size + 1 = g1 at *
      have C4 := C2.out W H0.out
      clear C2
      obtain ⟨c0, c1, c2, -, -, -⟩ := K1.three
      go_wp2_with fail
      refine C4.mono ?_
      rintro e W2 ⟨rfl, hb2⟩
      have H2 := Lib.hid (bel_trans H0.out hb2)
      have K02 := K0.below hb2 K0.lt
      have K12 := K1.below hb2 K1.lt
      clear C4 H0 hb2 K0 K1 c0 c1 c2
      go_wp2_with fail
      refine (C3.out _).mono ?_
      rintro e W3 ⟨rfl, rfl⟩
      clear C3
      have y0 := hy.below H2.out
      have z0 := hz.below H2.out
      have y1 := hy'.below H2.out
      have z1 := hz'.below H2.out
      clear hy hz hy' hz'
      go_upto_region 7 with fail
      go_region_held3 (fun w' => w'.cell? ⟨w.heap.size, 0, none⟩ = some (.bool s) ∧ w'.cell? ⟨w.heap.size, 1, none⟩ = some y ∧ w'.cell? ⟨w.heap.size, 2, none⟩ = some z ∧ w'.cell? ⟨g1, 0, none⟩ = some (.bool s) ∧ w'.cell? ⟨g1, 1, none⟩ = some y' ∧ w'.cell? ⟨g1, 2, none⟩ = some z')
        ((refine kp_rr (W := W2) ?_ K02 K12; (repeat (first | exact Below.refl _ _ | exact X3 | exact X2 | exact X1 | refine bel_drew ?_)); done))
        (first
          | (go_at_call 23; have _ := X1; refine (nmulV (w := w1) (y1.below X1) (z0.below X1) (by omega) (by omega)).mono ?_; rintro e w2 ⟨v, hv, rfl, hb2⟩; have X2 : Below W2.heap.size W2 w2 := bel_trans X1 hb2)
          | (go_at_call 23; refine (nmulV (w := W2.drew) y0.drew z1.drew (by omega) (by omega)).mono ?_; rintro e w1 ⟨u, hu, rfl, hb1⟩; have X1 : Below W2.heap.size W2 w1 := bel_trans (bel_drew (Below.refl _ _)) hb1)
          | (go_at_call 24; refine (ncmpV (w := w2) (hu.below hb2).v hv.v (by omega) (by omega)).mono ?_; rintro e w3 ⟨rfl, hb3⟩; have X3 : Below W2.heap.size W2 w3 := bel_trans X2 hb3))
      all_goals
        go_wp2_with fail
        go_ret
        exact ⟨ret_int F.out, bel_trans H2.out X3⟩
  · have F := Lib.hid (cmp_sgn h0)
    have h0' : (cmpI (sgn r) (sgn r') != 0) = true := by simpa using h0
    generalize cmpI (sgn r) (sgn r') = c at *
    generalize sgn r = g at *
    generalize sgn r' = g' at *
    clear h k h0
    go_enter Tryd.func10, Tryd.ntmps10
    go_wp2_with fail
    refine (C1 _ _).mono ?_
    rintro e W ⟨rfl, hb1⟩
    clear C1
    have K1 := Blk.in22 hb1
    have H0 : Hid (Below w.heap.size w W) := bel_trans (bel_2 _ _ _) hb1
    clear hb1
    generalize w.heap.size + 1 = g1 at *
    have C4 := C2.out W H0.out
    clear C2
    obtain ⟨c0, c1, c2, -, -, -⟩ := K1.three
    go_wp2_with fail
    refine C4.mono ?_
    rintro e W2 ⟨rfl, hb2⟩
    have H2 := Lib.hid (bel_trans H0.out hb2)
    clear C4 H0 hb2 K1 c0 c1 c2
    go_wp2_with fail
    refine (C3.out _).mono ?_
    rintro e W3 ⟨rfl, rfl⟩
    clear C3
    go_wp2_with fail
    go_ret
    exact ⟨ret_int F.out, H2.out⟩

theorem blen_le {w : World} {v : Value} {p : Int} {L : Nat} (h : NatV w v p L) : 0 ≤ blen p ∧ blen p ≤ 32 * L := by
  have := blen_bd h.nonneg h.lt
  omega
theorem kp_r {W w1 : World} {g : Nat} {t : TypeId} {a b c : Value} (hb : Below W.heap.size W w1) (hg : Blk W g t #[a, b, c]) :
    w1.cell? ⟨g, 0, none⟩ = some a ∧ w1.cell? ⟨g, 1, none⟩ = some b ∧ w1.cell? ⟨g, 2, none⟩ = some c := by
  have hg1 := hg.below hb hg.lt
  exact ⟨hg1.cell 0, hg1.cell 1, hg1.cell 2⟩
theorem wrap_in {a : Int} (h0 : -9223372036854775808 ≤ a) (h1 : a ≤ 9223372036854775807) : IntKind.i64.wrap a = a := IntWalk.i64_in a ⟨h0, h1⟩

end Go.Proofs.YtmeobamfjcjbhaaDoor
namespace Go.Proofs.YtmeobamfjcjbhaaDoor
open Go.RowKit
set_option maxRecDepth 100000

/-- The text of a rational number. -/
def IsRText (r : Rat) (l : List UInt8) : Prop := ∃ l1 l2, IsText (rp r) l1 ∧ IsText (rq r) l2 ∧ l = (if rs r then [45] else []) ++ l1 ++ (if rq r = 1 then [] else 47 :: l2)
theorem IsRText.eq {r : Rat} {l m : List UInt8} (h : IsRText r l) (k : IsRText r m) : l = m := by
  obtain ⟨l1, l2, a, b, rfl⟩ := h
  obtain ⟨m1, m2, c, d, rfl⟩ := k
  rw [a.eq c, b.eq d]
theorem blen_one {q : Int} (h : 0 < q) : decide (1 < blen q) = decide (q ≠ 1) := by
  obtain ⟨k, e, lt, ge, _⟩ := blen_spec (Int.le_of_lt h)
  obtain ⟨ge, k1⟩ := ge h
  rw [e]
  by_cases h1 : q = 1
  · rw [h1] at ge
    have : k = 1 := by
      rcases Nat.lt_or_ge 1 k with h2 | h2
      · have := pow_mono 1 (k - 1) (by omega)
        omega
      · omega
    subst this
    simp [h1]
  · have : 1 < k := by
      rcases Nat.lt_or_ge 1 k with h2 | h2
      · exact h2
      · have : k = 1 := by omega
        subst this
        simp at lt
        omega
    simp [h1]
    omega

theorem IsText.len {v : Int} {l : List UInt8} {b : Nat} (h : IsText v l) (hv : v < 2 ^ b) : l.length ≤ b + 1 := by
  by_cases h0 : v = 0
  · rw [h.zero h0]
    simp
  · rcases l with _ | ⟨c, m⟩
    · simp
    · have h1 := dval_low h.dig (h.head h0 c rfl)
      rw [h.val] at h1
      have h2 := pow2_10 m.length
      rcases Nat.lt_or_ge m.length b with h3 | h3
      · simp; omega
      · have := pow_mono b m.length h3
        omega
theorem IsText.size {v : Int} {s : ByteArray} {L : Nat} (h : IsText v s.data.toList) (hv : v < 2 ^ (32 * L)) (hL : L ≤ 65536) : s.size ≤ 2097153 := by
  have := h.len hv
  rw [Lib.size_eq]
  omega
theorem isText_one : IsText 1 [49] := ⟨by decide, by decide, by simp, fun h => absurd h (by decide), fun _ c hc => by simp at hc; subst hc; decide⟩

/-- A number shifted up, no error. -/
def RetShlV (v : Int) (K : Nat) (w : World) (e : Ending) (w' : World) : Prop := ∃ x, NatC w' x v K ∧ e = .returned (.tuple #[x, .int .i64 0]) ∧ Below w.heap.size w w'
theorem nshlV {w : World} {x : Value} {p : Int} {L : Nat} (h : NatV w x p L) (N : Int) (hL : L ≤ 1048576) (hN : p ≠ 0 → blen p ≤ 65536 - max N 0) (K : Nat) (hK : 2 ^ (max N 0).toNat * p < 2 ^ (32 * K)) : Calls Tryd.prog 29 #[x, .int .i64 N] w (RetShlV (2 ^ (max N 0).toNat * p) K w) := by
  obtain ⟨A, n, c, us, rfl, hn, hc, hr, ha, hv, hl⟩ := h
  by_cases h0 : p = 0
  · refine (nshl_zero A n c us N w hn hc hr ha (by omega) (by rw [hv, h0])).mono fun e w' r => ?_
    obtain ⟨ws, A', n', c', i, hn', e1, hc', hr', hb⟩ := r
    have ez : 2 ^ (max N 0).toNat * p = 0 := by rw [h0, Int.mul_zero]
    rw [ez] at hK ⊢
    exact ⟨_, ⟨A', n', c', ws, rfl, hn', hc', hr', i, by rw [← hn']; exact i.le hK⟩, e1, hb⟩
  · refine (nshl_ok A n c us N w hn hc hr ha (by omega) (by rw [hv]; exact h0) (by rw [hv]; have := hN h0; omega)).mono fun e w' r => ?_
    rw [hv] at r
    obtain ⟨ws, A', n', c', i, hn', e1, hc', hr', hb⟩ := r
    exact ⟨_, ⟨A', n', c', ws, rfl, hn', hc', hr', i, by rw [← hn']; exact i.le hK⟩, e1, hb⟩
/-- m * 2^e, with a sign. -/
def dyR (s : Bool) (m e : Int) : Rat := rv s (2 ^ (max e 0).toNat * m) (2 ^ (max (-e) 0).toNat * 1)
theorem shl_bd {m : Int} (hm : Word m) {k : Nat} (hk : k ≤ 8192) : (2 : Int) ^ k * m < 2 ^ (32 * 258) := by
  have h1 : (2 : Int) ^ k * m ≤ 2 ^ k * 2 ^ 64 := Int.mul_le_mul_of_nonneg_left (by have := hm.2; rw [show (2 : Int) ^ 64 = 18446744073709551616 by decide]; omega) (Int.le_of_lt (pow_pos' k))
  rw [← Int.pow_add] at h1
  have h2 := pow_mono (k + 64) 8256 (by omega)
  have h3 : (2 : Int) ^ k * m < 2 ^ k * 2 ^ 64 := Int.mul_lt_mul_of_pos_left (by have := hm.2; rw [show (2 : Int) ^ 64 = 18446744073709551616 by decide]; omega) (pow_pos' k)
  rw [← Int.pow_add] at h3
  rw [show 32 * 258 = 8256 by decide]
  omega
theorem shl_len {m : Int} (hm : Word m) {N : Int} (hN : N ≤ 8192) : blen m ≤ 65536 - max N 0 := by
  have := (blen_bd (k := 64) hm.1 (by rw [show (2 : Int) ^ 64 = 18446744073709551616 by decide]; exact hm.2)).2
  omega
set_option maxHeartbeats 4000000 in
theorem qdyad_long (s : Bool) (m e : Int) (_hm : Word m) (he : e < -8192 ∨ 8192 < e) (w : World) : Calls Tryd.prog 16 #[.bool s, .int .u64 m, .int .i64 e] w (RetErr 31 w) := by
  by_cases h1 : e < -8192
  · clear he
    go_enter Tryd.func16, Tryd.ntmps16
    go_wp2_with fail
    try simp only [Exit.inBlock, Exit.then]
    exact bodyPost_ret (by simp [results, Tryd.results16, go_sem]) rfl ⟨rfl, bel_alloc (Below.refl _ _) _⟩
  · have h2 : 8192 < e := by omega
    have h1' : decide (e < -8192) = false := decide_eq_false h1
    clear he
    go_enter Tryd.func16, Tryd.ntmps16
    go_wp2_with fail
    try simp only [Exit.inBlock, Exit.then]
    exact bodyPost_ret (by simp [results, Tryd.results16, go_sem]) rfl ⟨rfl, bel_alloc (Below.refl _ _) _⟩
set_option maxHeartbeats 4000000 in
theorem qdyad_any (s : Bool) (m e : Int) (hm : Word m) (he : -8192 ≤ e ∧ e ≤ 8192) (w : World) (hT : TabOk w) : Calls Tryd.prog 16 #[.bool s, .int .u64 m, .int .i64 e] w (RetRE (dyR s m e) 258 0 w) := by
  obtain ⟨e0, e1⟩ := he
  have W1 : Word (1 : Int) := ⟨by decide, by decide⟩
  have B1 := Lib.hid (shl_bd hm (k := (max e 0).toNat) (by omega))
  have B2 := Lib.hid (shl_bd W1 (k := (max (-e) 0).toNat) (by omega))
  have L1 := Lib.hid (shl_len hm e1)
  have L2 := Lib.hid (shl_len W1 (N := -e) (by omega))
  have h1 : decide (e < -8192) = false := decide_eq_false (by omega)
  have h2 : decide (8192 < e) = false := decide_eq_false (by omega)
  have WN : IntKind.i64.wrap (-e) = -e := wrap_in (by omega) (by omega)
  unfold dyR
  go_enter Tryd.func16, Tryd.ntmps16
  go_wp2_with fail
  refine (newV m hm _).mono ?_
  rintro e w1 ⟨x1, hx1, rfl, hb1⟩
  have K1 := Blk.made hb1
  have H1 := Lib.hid (bel_trans (bel_alloc (Below.refl _ _) _) hb1)
  clear hb1
  go_wp2_with fail
  refine (nshlV hx1.v _ (by decide) (fun _ => L1.out) 258 B1.out).mono ?_
  rintro e w2 ⟨x2, hx2, rfl, hb2⟩
  have K2 := K1.below hb2 K1.lt
  have H2 := Lib.hid (bel_trans H1.out hb2)
  clear hb2 hx1 K1 H1
  go_wp2_with fail
  refine (newV 1 W1 _).mono ?_
  rintro e w3 ⟨x3, hx3, rfl, hb3⟩
  have K3 := K2.below hb3 K2.lt
  have H3 := Lib.hid (bel_trans H2.out hb3)
  have hx23 := hx2.below hb3
  clear hb3 hx2 K2 H2
  go_wp2_with fail
  refine (nshlV hx3.v _ (by decide) (fun _ => L2.out) 258 B2.out).mono ?_
  rintro e w4 ⟨x4, hx4, rfl, hb4⟩
  have K4 := K3.below hb4 K3.lt
  have H4 := Lib.hid (bel_trans H3.out hb4)
  have hx24 := hx23.below hb4
  clear hb4 hx3 K3 H3 hx23
  go_wp2_with fail
  refine (lowest_any s hx24.v hx4.v (by decide) (by decide) (hT.below H4.out)).mono ?_
  rintro e w5 ⟨x5, y5, z5, hr, rfl, hb5⟩
  obtain ⟨s1, A1, n1, k1, B1, m1, l1, rfl, rfl, rfl⟩ := hr.form
  have H5 := Lib.hid (bel_trans H4.out hb5)
  have K5 := K4.below hb5 K4.lt
  clear hb5 hx4 K4 H4 hx24
  obtain ⟨c0, c1, c2, f0, f1, f2⟩ := K5.three
  go_wp2_with fail
  have K6 := K5.put3 (.bool s1) (.slice A1 n1 k1) (.slice B1 m1 l1)
  have R6 := hr.put3 K5 (.bool s1) (.slice A1 n1 k1) (.slice B1 m1 l1)
  have B6 := Lib.hid (bel_put3 H5.out (Nat.le_refl _) (.bool s1) (.slice A1 n1 k1) (.slice B1 m1 l1))
  unfold wput at K6 R6 B6
  clear c0 c1 c2 f0 f1 f2 K5 hr H5
  obtain ⟨c0, c1, c2, -, -, -⟩ := K6.three
  try simp only [Exit.inBlock, Exit.then]
  refine bodyPost_ret (v := .tuple #[.agg #[.bool s1, .slice A1 n1 k1, .slice B1 m1 l1], .int .i64 0]) (by simp [results, Tryd.results16, go_sem, c0, c1, c2]) rfl ⟨_, _, _, R6, rfl, B6.out⟩
end Go.Proofs.YtmeobamfjcjbhaaDoor
