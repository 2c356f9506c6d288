/-
  The walks of RoundRounds and RoundExacts: whatever is handed in, the laws answer true. Condition: the table of math/bits stands in its variable.
-/
import Derived.Test.YtdjhpplcdkgfgaaDoorQin5
namespace Go.Proofs.YtdjhpplcdkgfgaaDoor
open Go.RowKit
set_option maxRecDepth 100000

theorem rdw_pair (W : World) (t : TypeId) (a b : Int) : RdW (W.alloc (.cells #[.int .u64 a, .int .u64 b] t)) (some ⟨W.heap.size, 0, none⟩) [a, b] := by
  refine .inr ⟨_, 0, rfl, by simp, fun j v hj => ?_⟩
  rcases j with _ | _ | j
  · simp at hj; subst hj; simp [go_sem]
  · simp at hj; subst hj; simp [go_sem]
  · simp at hj
theorem ofV2 {A : Option Addr} {w : World} {h l : Int} (hr : RdW w A [l, h]) (h1 : Word h) (h2 : Word l) : Calls Tryd.prog 12 #[.slice A 2 2] w (RetV (fun w v => RowV w v (V2 h l) 128) w) := by
  refine (rof_any A 2 2 [l, h] w rfl hr (fun x hx => by simp at hx; rcases hx with rfl | rfl; exact h2; exact h1) (by decide)).mono fun e w' r => ?_
  obtain ⟨xs, B, c, ⟨hv, hl⟩, rfl, hc, -, hr, hb⟩ := r
  have hl2 : xs.length = 128 := by rw [hl]; rfl
  exact ⟨_, ⟨B, _, c, xs, rfl, rfl, hc, hr, by rw [hv]; simp [wv, V2]; omega, by omega⟩, rfl, hb⟩
/-- What both answer. -/
theorem round_both (neg : Bool) (h l e : Int) (r : Bool) (md : Int) (h1 : Word h) (h2 : Word l) : ∃ f g, (∀ w, Calls Tryd.prog 10 #[.bool neg, .agg #[.int .u64 h, .int .u64 l], .int .i64 e, .bool r, .int .u8 md] w (RetF f g w)) ∧
    ∀ w v, RowV w v (V2 h l) 128 → Calls Tryd.prog 11 #[.bool neg, v, .int .i64 e, .bool r, .int .u8 md] w (RetF f g w) := by
  rcases Int.lt_or_eq_of_le (V2_pos h1 h2).1 with hp | hp
  · exact ⟨_, _, fun w => round_pos neg h l e r md h1 h2 hp w _ _ rfl rfl, fun w v hv => hround_pos hv (by decide) hp neg e r md⟩
  · have e1 : h = 0 ∧ l = 0 := by
      obtain ⟨_, _⟩ := h1; obtain ⟨_, _⟩ := h2
      unfold V2 at hp
      omega
    obtain ⟨rfl, rfl⟩ := e1
    exact ⟨_, _, fun w => round_zero neg e r md w, fun w v hv => hround_zero (by rw [← hp] at hv; exact hv) (by decide) neg e r md⟩

set_option maxHeartbeats 4000000 in
theorem lrounds_walk (neg : Bool) (h l e : Int) (r : Bool) (md : Int) (w : World) (h1 : Word h) (h2 : Word l) (_he : -9223372036854775808 ≤ e ∧ e ≤ 9223372036854775807) (hT : TabOk w) :
    Calls Tryd.prog 3 #[.bool neg, .agg #[.int .u64 h, .int .u64 l], .int .i64 e, .bool r, .int .u8 md] w fun x w' => x = .returned (.bool true) ∧ Below w.heap.size w w' := by
  obtain ⟨f, g, C1, C2⟩ := round_both neg h l e r md h1 h2
  have D1 := Lib.hid C1
  have D2 := Lib.hid C2
  clear C1 C2
  go_enter Tryd.func3, Tryd.ntmps3
  go_wp2_with fail
  refine (works5 _ (hT.below (bel_alloc (Below.refl _ _) _))).mono ?_
  rintro x w1 ⟨rfl, hb1⟩
  have K1 := (Blk.new w 24 #[.int .u64 h, .int .u64 l]).below hb1 (Blk.new w 24 #[.int .u64 h, .int .u64 l]).lt
  have HB1 := Lib.hid (bel_trans (bel_alloc (Below.refl _ _) _) hb1)
  clear hb1
  have c0 := K1.cell 0
  have c1 := K1.cell 1
  simp at c0 c1
  go_wp2_with fail
  refine (D1.out _).mono ?_
  rintro x w2 ⟨rfl, hb2⟩
  have K2 := K1.below hb2 K1.lt
  have HB2 := Lib.hid (bel_trans HB1.out hb2)
  clear hb2 K1 HB1 c0 c1
  have c0 := K2.cell 0
  have c1 := K2.cell 1
  simp at c0 c1
  go_wp2_with fail
  refine (ofV2 (rdw_pair w2 _ _ _) h1 h2).mono ?_
  rintro x w3 ⟨v3, r3, rfl, hb3⟩
  obtain ⟨A3, n3, c3, rfl⟩ := r3.form
  have HB3 := Lib.hid (bel_trans (bel_alloc HB2.out _) hb3)
  clear hb3 K2 HB2 c0 c1
  go_wp2_with fail
  refine (D2.out _ _ r3).mono ?_
  rintro x w4 ⟨rfl, hb4⟩
  have HB4 := Lib.hid (bel_trans HB3.out hb4)
  clear hb4 HB3
  go_wp2_with fail
  go_ret
  exact ⟨rfl, HB4.out⟩

set_option maxHeartbeats 4000000 in
theorem lexacts_long (s : Bool) (A E : Option Addr) (n c m d : Nat) (md : Int) (w : World) (hT : TabOk w) (h : 6 < n ∨ 6 < m) :
    Calls Tryd.prog 4 #[.agg #[.bool s, .slice A n c, .slice E m d], .int .u8 md] w fun x w' => x = .returned (.bool true) ∧ Below w.heap.size w w' := by
  by_cases hn : 6 < n
  all_goals
    have z1 : decide ((6 : Int) < (n : Int)) = decide (6 < n) := by rw [Bool.eq_iff_iff]; simp; omega
    have z2 : ¬ 6 < n → decide ((6 : Int) < (m : Int)) = true := fun h2 => by simp; omega
    simp only [hn, decide_true, decide_false] at z1
    first | have z2 := z2 hn | clear z2
    clear h
    go_enter Tryd.func4, Tryd.ntmps4
    go_wp2_with fail
    refine (works5 _ (hT.below (bel_alloc (Below.refl _ _) _))).mono ?_
    rintro x w1 ⟨rfl, hb1⟩
    have K1 := (Blk.new w 39 #[.bool s, .slice A n c, .slice E m d]).below hb1 (Blk.new w 39 #[.bool s, .slice A n c, .slice E m d]).lt
    have HB1 := Lib.hid (bel_trans (bel_alloc (Below.refl _ _) _) hb1)
    clear hb1
    obtain ⟨c0, c1, c2, -, -, -⟩ := K1.three
    go_wp2_with fail
    go_ret
    exact ⟨rfl, HB1.out⟩

set_option maxHeartbeats 4000000 in
theorem lexacts_short (s : Bool) (A E : Option Addr) (n c m d : Nat) (md : Int) (w : World) (hr : ∃ p q, NatV w (.slice A n c) p 6 ∧ NatV w (.slice E m d) q 6) (hT : TabOk w) (h1 : n ≤ 6) (h2 : m ≤ 6) :
    Calls Tryd.prog 4 #[.agg #[.bool s, .slice A n c, .slice E m d], .int .u8 md] w fun x w' => x = .returned (.bool true) ∧ Below w.heap.size w w' := by
  have z1 : decide ((6 : Int) < (n : Int)) = false := by simp; omega
  have z2 : decide ((6 : Int) < (m : Int)) = false := by simp; omega
  obtain ⟨p, q, hp, hq⟩ := hr
  obtain ⟨r, hr⟩ : ∃ r, rv s p q = r := ⟨_, rfl⟩
  have R : RV w (.bool s) (.slice A n c) (.slice E m d) 6 r := ⟨s, p, q, rfl, hp, hq, hr⟩
  clear h1 h2
  have HR := Lib.hid hr
  clear hr
  go_enter Tryd.func4, Tryd.ntmps4
  go_wp2_with fail
  refine (works5 _ (hT.below (bel_alloc (Below.refl _ _) _))).mono ?_
  rintro x w1 ⟨rfl, hb1⟩
  have K1 := (Blk.new w 39 #[.bool s, .slice A n c, .slice E m d]).below hb1 (Blk.new w 39 #[.bool s, .slice A n c, .slice E m d]).lt
  have B1 := bel_trans (bel_alloc (Below.refl _ _) _) hb1
  have R1 := R.below B1
  have p1 := hp.below B1
  have q1 := hq.below B1
  have HB1 := Lib.hid B1
  clear hb1 B1 R hp hq
  obtain ⟨c0, c1, c2, -, -, -⟩ := K1.three
  go_wp2_with fail
  refine (exact_f R1 md (by decide)).mono ?_
  rintro x w2 ⟨rfl, hb2⟩
  have K2 := K1.below hb2 K1.lt
  have R2 := R1.below hb2
  have p2 := p1.below hb2
  have q2 := q1.below hb2
  have HB2 := Lib.hid (bel_trans HB1.out hb2)
  clear hb2 K1 HB1 c0 c1 c2 R1 p1 q1
  obtain ⟨c0, c1, c2, -, -, -⟩ := K2.three
  go_wp2_with fail
  refine (ofq5_any R2 (by decide) (by decide)).mono ?_
  rintro x w3 ⟨x3, y3, z3, r3, rfl, hb3⟩
  obtain ⟨s3, A3, n3, k3, E3, m3, d3, rfl, rfl, rfl⟩ := r3.form
  have K3 := K2.below hb3 K2.lt
  have p3 := p2.below hb3
  have q3 := q2.below hb3
  have HB3 := Lib.hid (bel_trans HB2.out hb3)
  clear hb3 K2 HB2 c0 c1 c2 R2 p2 q2
  go_wp2_with fail
  refine (hexact_any r3 (by decide) md).mono ?_
  rintro x w4 ⟨rfl, hb4⟩
  have K4 := K3.below hb4 K3.lt
  have p4 := p3.below hb4
  have q4 := q3.below hb4
  have HB4 := Lib.hid (bel_trans HB3.out hb4)
  clear hb4 K3 HB3 p3 q3 r3
  obtain ⟨c0, c1, c2, -, -, -⟩ := K4.three
  go_wp2_with fail
  refine (frac_any s p4 q4 md (by decide) r HR.out).mono ?_
  rintro x w5 ⟨rfl, hb5⟩
  have HB5 := Lib.hid (bel_trans HB4.out hb5)
  clear hb5 K4 HB4 p4 q4 c0 c1 c2
  go_wp2_with fail
  go_ret
  exact ⟨rfl, HB5.out⟩
theorem lexacts_walk (s : Bool) (A E : Option Addr) (n c m d : Nat) (md : Int) (w : World) (ha : NatIn w A n c) (hb : NatIn w E m d) (hT : TabOk w) :
    Calls Tryd.prog 4 #[.agg #[.bool s, .slice A n c, .slice E m d], .int .u8 md] w fun x w' => x = .returned (.bool true) ∧ Below w.heap.size w w' := by
  by_cases h : 6 < n ∨ 6 < m
  · exact lexacts_long s A E n c m d md w hT h
  · obtain ⟨p, hp⟩ := ha.v (L := 6) (by omega)
    obtain ⟨q, hq⟩ := hb.v (L := 6) (by omega)
    exact lexacts_short s A E n c m d md w ⟨p, q, hp, hq⟩ hT (by omega) (by omega)
end Go.Proofs.YtdjhpplcdkgfgaaDoor
