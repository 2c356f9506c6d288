/-
  The contract of the examples of layer 5: they hold. Condition: the table of math/bits stands in its variable.
-/
import Derived.Test.YtdjhpplcdkgfgaaDoorHround
namespace Go.Proofs.YtdjhpplcdkgfgaaDoor
open Go.RowKit
set_option maxRecDepth 100000

theorem round_at (neg : Bool) (m e : Int) (md f g : Int) (h1 : Word m) (hm : 0 < m) (hf : rF md neg (rN m (eP (eC e)) (eQ (eC e))) (rS m (eP (eC e)) (eQ (eC e)) false) = f) (hg : rG md neg (rN m (eP (eC e)) (eQ (eC e))) (rS m (eP (eC e)) (eQ (eC e)) false) = g) (w : World) :
    Calls Tryd.prog 10 #[.bool neg, .agg #[.int .u64 0, .int .u64 m], .int .i64 e, .bool false, .int .u8 md] w (RetF f g w) := by
  have RP := round_pos neg 0 m e false md ⟨by decide, by decide⟩ h1 (by rw [V2_low]; exact hm) w _ _ rfl rfl
  rw [V2_low, Bool.false_and, hf, hg] at RP
  exact RP

theorem exact_at {w : World} {x y z : Value} {L : Nat} {r : Rat} (h : RC w x y z L r) (hL : L ≤ 65536) (md f g : Int) (hf : dF md r = f) (hg : dG md r = g) : Calls Tryd.prog 13 #[.agg #[x, y, z], .int .u8 md] w (RetF f g w) := by
  subst hf hg
  exact exact_f h.v md hL

set_option maxHeartbeats 20000000 in
theorem works5 (w : World) (hT : TabOk w) : Calls Tryd.prog 9 #[] w fun e w' => e = .returned (.bool true) ∧ Below w.heap.size w w' := by
  go_enter Tryd.func9, Tryd.ntmps9
  go_wp2_with fail
  refine (round_at false 3 (-1) 0 4609434218613702656 0 ⟨by decide, by decide⟩ (by decide) (by decide +kernel) (by decide +kernel) _).mono ?_
  rintro e w1 ⟨rfl, hb1⟩
  go_wp2_with fail
  refine (newV 1 ⟨by decide, by decide⟩ _).mono ?_
  rintro e w2 ⟨v2, n2, rfl, hb2⟩
  obtain ⟨A2, m2, c2, rfl⟩ := n2.form
  go_wp2_with fail
  refine (newV 3 ⟨by decide, by decide⟩ _).mono ?_
  rintro e w3 ⟨v3, n3, rfl, hb3⟩
  obtain ⟨A3, m3, c3, rfl⟩ := n3.form
  have B3 := bel_trans hb1 (bel_trans hb2 hb3)
  go_wp2_with fail
  refine (qnew_any false (n2.v.below hb3) n3.v (by decide) (by decide) (hT.below B3) (by decide)).mono ?_
  rw [show rv false 1 3 = mkRat 1 3 by decide +kernel]
  rintro e w4 ⟨x4, y4, z4, r4, rfl, hb4⟩
  obtain ⟨s4, A4, n4, c4, E4, m4, d4, rfl, rfl, rfl⟩ := r4.form
  have B4 := bel_trans B3 hb4
  clear hb1 hb2 hb3 hb4 B3
  have b5 := bel_alloc (Below.refl w4.heap.size w4) (.cells #[.bool s4, .slice A4 n4 c4, .slice E4 m4 d4] 39)
  have K5 := Blk.new w4 39 #[.bool s4, .slice A4 n4 c4, .slice E4 m4 d4]
  have r5 := r4.below b5
  have HB5 := Lib.hid (bel_trans B4 b5)
  clear B4 b5 r4
  go_wp2_with fail
  refine (exact_at r5 (by decide) 0 4599676419421066581 1 (by decide +kernel) (by decide +kernel)).mono ?_
  rintro e w6 ⟨rfl, hb6⟩
  have K6 := K5.below hb6 K5.lt
  have r6 := r5.below hb6
  have HB6 := Lib.hid (bel_trans HB5.out hb6)
  clear hb6 K5 r5 HB5
  generalize w4.heap.size = g4 at *
  obtain ⟨c0, c1, c2, -, -, -⟩ := K6.three
  go_wp2_with fail
  refine (exact_at r6 (by decide) 1 4599676419421066582 1 (by decide +kernel) (by decide +kernel)).mono ?_
  rintro e w7 ⟨rfl, hb7⟩
  have HB7 := Lib.hid (bel_trans HB6.out hb7)
  clear hb7 K6 r6 HB6 c0 c1 c2
  go_wp2_with fail
  refine (qdyad_any false 1 (-1075) ⟨by decide, by decide⟩ ⟨by decide, by decide⟩ _ (hT.below HB7.out)).mono ?_
  rintro e w8 ⟨x8, y8, z8, r8, rfl, hb8⟩
  obtain ⟨s8, A8, n8, c8, E8, m8, d8, rfl, rfl, rfl⟩ := r8.form
  have b9 := bel_alloc (Below.refl w8.heap.size w8) (.cells #[.bool s8, .slice A8 n8 c8, .slice E8 m8 d8] 39)
  have K9 := Blk.new w8 39 #[.bool s8, .slice A8 n8 c8, .slice E8 m8 d8]
  have r9 := r8.below b9
  have HB9 := Lib.hid (bel_trans (bel_trans HB7.out hb8) b9)
  clear hb8 b9 r8 HB7
  go_wp2_with fail
  refine (exact_at r9 (by decide) 0 0 3 (by decide +kernel) (by decide +kernel)).mono ?_
  rintro e w10 ⟨rfl, hb10⟩
  have K10 := K9.below hb10 K9.lt
  have r10 := r9.below hb10
  have HB10 := Lib.hid (bel_trans HB9.out hb10)
  clear hb10 K9 r9 HB9
  generalize w8.heap.size = g8 at *
  obtain ⟨c0, c1, c2, -, -, -⟩ := K10.three
  go_wp2_with fail
  refine (exact_at r10 (by decide) 1 1 3 (by decide +kernel) (by decide +kernel)).mono ?_
  rintro e w11 ⟨rfl, hb11⟩
  have HB11 := Lib.hid (bel_trans HB10.out hb11)
  clear hb11 K10 r10 HB10 c0 c1 c2
  go_wp2_with fail
  refine (round_at true 1 1024 0 18442240474082181120 5 ⟨by decide, by decide⟩ (by decide) (by decide +kernel) (by decide +kernel) _).mono ?_
  rintro e w12 ⟨rfl, hb12⟩
  have HB12 := Lib.hid (bel_trans HB11.out hb12)
  clear hb12 HB11
  go_wp2_with fail
  refine (round_at true 1 1024 1 18442240474082181119 5 ⟨by decide, by decide⟩ (by decide) (by decide +kernel) (by decide +kernel) _).mono ?_
  rintro e w13 ⟨rfl, hb13⟩
  have HB13 := Lib.hid (bel_trans HB12.out hb13)
  clear hb13 HB12
  go_wp2_with fail
  refine (inf_f true _).mono ?_
  rw [show 9218868437227405312 + sg true = 18442240474082181120 by decide +kernel]
  rintro e w14 ⟨rfl, rfl⟩
  go_wp2_with fail
  refine (ulp_any 4607182418800017408 ⟨by decide, by decide⟩ _).mono ?_
  rw [show (if fC 4607182418800017408 < 3 then p2F (uE 4607182418800017408) else 9221120237041090560) = 4372995238176751616 by decide +kernel]
  rintro e w15 ⟨rfl, hb15⟩
  have HB15 := Lib.hid (bel_trans HB13.out hb15)
  clear hb15 HB13
  go_wp2_with fail
  go_ret
  exact ⟨rfl, HB15.out⟩
end Go.Proofs.YtdjhpplcdkgfgaaDoor
