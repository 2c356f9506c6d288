/-
  The contract of the examples of layer 4: they hold. Condition: the table of math/bits stands in its variable.
-/
import Derived.Test.YtnicecpmpnhmfabDoorPatd
import Derived.Test.YtnicecpmpnhmfabDoorPate
import Derived.Test.YtnicecpmpnhmfabDoorMRc
import Derived.Test.YtnicecpmpnhmfabDoorPlan
namespace Go.Proofs.YtnicecpmpnhmfabDoor
open Go.RowKit
set_option maxRecDepth 100000

theorem bytes_is {s : ByteArray} {a : Array UInt8} (h : s.data.toList = a.toList) : s = ⟨a⟩ := by
  obtain ⟨⟨d⟩⟩ := s
  obtain ⟨e⟩ := a
  simp at h
  rw [h]
theorem rtext_of {r : Rat} {l1 l2 l : List UInt8} {s : Bool} {a b : Int} (hs : rs r = s) (ha : rp r = a) (hb : rq r = b) (h1 : IsText a l1) (h2 : IsText b l2) (hl : l = (if s then [45] else []) ++ l1 ++ (if b = 1 then [] else 47 :: l2)) : IsRText r l :=
  ⟨l1, l2, by rw [ha]; exact h1, by rw [hb]; exact h2, by rw [hs, hb]; exact hl⟩
theorem digit_text (c : UInt8) (h0 : 48 < c.toNat) (h1 : c.toNat ≤ 57) : IsText ((c.toNat : Int) - 48) [c] :=
  ⟨by simp [isDig]; omega, by rw [dval_one], by simp, fun h => by omega, fun _ d hd => by simp at hd; subst hd; omega⟩
theorem tx_m34 : IsRText (mkRat (-3) 4) [45, 51, 47, 52] := rtext_of (s := true) (a := 3) (b := 4) (by decide +kernel) (by decide +kernel) (by decide +kernel) (digit_text 51 (by decide) (by decide)) (digit_text 52 (by decide) (by decide)) (by decide)
theorem rdw_two (W : World) (t : TypeId) (a b : Int) : RdW (W.alloc (.cells #[.int .u64 a, .int .u64 b] t)) (some ⟨W.heap.size, 0, none⟩) [a, b] := by
  refine .inr ⟨_, 0, rfl, by simp, fun j v hj => ?_⟩
  rcases j with _ | _ | j
  · simp at hj; subst hj; simp [go_sem]
  · simp at hj; subst hj; simp [go_sem]
  · simp at hj
theorem allF_two {a b : Int} (ha : Word a) (hb : Word b) : AllF [a, b] := by
  intro i hi
  rcases i with _ | _ | i
  · exact ha
  · exact hb
  · exact absurd hi (by simp)
theorem max01 {k : Nat} {x : Int} (hk : k < 2) (hx : [0, 4607182418800017408].getD k 0 = x) (hj : ∀ j, j < 2 → fLt x ([0, 4607182418800017408].getD j 0) = false) : x = 4607182418800017408 := by
  rcases k with _ | _ | k
  · have := hj 1 (by decide)
    subst hx
    exact absurd this (by decide +kernel)
  · exact hx.symm
  · omega
theorem min01 {k : Nat} {x : Int} (hk : k < 2) (hx : [0, 4607182418800017408].getD k 0 = x) (hj : ∀ j, j < 2 → fLt ([0, 4607182418800017408].getD j 0) x = false) : x = 0 := by
  rcases k with _ | _ | k
  · exact hx.symm
  · have := hj 0 (by decide)
    subst hx
    exact absurd this (by decide +kernel)
  · omega
theorem kps3 {W w1 : World} {p0 p1 p2 : Addr} {a0 a1 a2 : Value} (hb : Below W.heap.size W w1) (h0 : W.cell? p0 = some a0) (h1 : W.cell? p1 = some a1) (h2 : W.cell? p2 = some a2) :
    w1.cell? p0 = some a0 ∧ w1.cell? p1 = some a1 ∧ w1.cell? p2 = some a2 :=
  ⟨kp_c hb h0, kp_c hb h1, kp_c hb h2⟩
set_option maxHeartbeats 40000000 in
theorem works4 (w : World) (hT : TabOk w) : Calls Tryd.prog 4 #[] w fun e w' => e = .returned (.bool true) ∧ Below w.heap.size w w' := by
  go_enter Tryd.func4, Tryd.ntmps4
  go_wp2_with fail
  refine (make_good false 1023 0 ⟨by decide, by decide⟩ (by decide) _).mono ?_
  rw [show mkF false 1023 0 = 4607182418800017408 by decide +kernel]
  rintro e w1 ⟨rfl, rfl⟩
  go_wp2_with fail
  refine (make_bad false 2048 0 ⟨by decide, by decide⟩ (by decide) _).mono ?_
  rintro e w1 ⟨rfl, rfl⟩
  go_wp2_with fail
  refine (parts_any 4607182418800017408 ⟨by decide, by decide⟩ _).mono ?_
  rw [show fS 4607182418800017408 = false by decide +kernel, show fE 4607182418800017408 = 1023 by decide +kernel, show fM 4607182418800017408 = 0 by decide +kernel]
  rintro e w1 ⟨rfl, rfl⟩
  go_wp2_with fail
  refine (split_any 4607182418800017408 ⟨by decide, by decide⟩ _).mono ?_
  rw [show fX 4607182418800017408 = 4503599627370496 by decide +kernel, show fY 4607182418800017408 = -52 by decide +kernel]
  rintro e w1 ⟨rfl, rfl⟩
  go_wp2_with fail
  refine (value_good 13828302655841107968 ⟨by decide, by decide⟩ (by decide +kernel) _ hT).mono ?_
  rw [show fV 13828302655841107968 = mkRat (-3) 4 by decide +kernel]
  rintro e w1 ⟨x1, y1, z1, r1, rfl, hb1⟩
  obtain ⟨sv, Av, nv, cv, Bv, mv, dv, rfl, rfl, rfl⟩ := r1.form
  have b2 := bel_alloc (Below.refl w1.heap.size w1) (.cells #[.bool sv, .slice Av nv cv, .slice Bv mv dv] 42)
  have Kv := Blk.new w1 42 #[.bool sv, .slice Av nv cv, .slice Bv mv dv]
  obtain ⟨v1, hv1⟩ : ∃ v, v = w1.alloc (.cells #[.bool sv, .slice Av nv cv, .slice Bv mv dv] 42) := ⟨_, rfl⟩
  obtain ⟨gv, hgv⟩ : ∃ g, g = w1.heap.size := ⟨_, rfl⟩
  have G := Lib.hid hgv
  have V := Lib.hid hv1
  rw [← hv1] at b2 Kv
  rw [← hgv] at Kv
  clear hv1 hgv
  have r2 := r1.below b2
  have HB := Lib.hid (bel_trans hb1 b2)
  clear r1 hb1 b2
  go_wp2_with fail
  rw [← G.out, ← V.out]
  clear G V
  refine (cmp_any 0 9223372036854775808 ⟨by decide, by decide⟩ ⟨by decide, by decide⟩ _).mono ?_
  rw [show fCmp 0 9223372036854775808 = 0 by decide +kernel, show fOk 0 9223372036854775808 = true by decide +kernel]
  rintro e w2 ⟨rfl, rfl⟩
  obtain ⟨q0, q1, q2, -, -, -⟩ := Kv.three
  have X0 : Hid (Below v1.heap.size v1 v1) := Below.refl _ _
  go_wp2_with fail
  refine (qtext_any (w := v1) r2.v (by decide) (by decide) (hT.below HB.out)).mono ?_
  rintro e t1 ⟨⟨ts1, hs1, rfl⟩, hb1⟩
  obtain rfl := bytes_is (a := #[45, 51, 47, 52]) (hs1.eq tx_m34)
  have X1 := Lib.hid (bel_trans X0.out hb1)
  clear hb1
  clear q0 q1 q2
  go_wp2_with fail
  refine (next_f 0 ⟨by decide, by decide⟩ t1).mono ?_
  rw [show fNx 0 = 1 by decide +kernel]
  rintro e t2 ⟨rfl, rfl⟩
  go_wp2_with fail
  refine (next_f 9223372036854775809 ⟨by decide, by decide⟩ t1).mono ?_
  rw [show fNx 9223372036854775809 = 9223372036854775808 by decide +kernel]
  rintro e t3 ⟨rfl, rfl⟩
  go_wp2_with fail
  refine (prev_f 1 ⟨by decide, by decide⟩ t1).mono ?_
  rw [show fPv 1 = 0 by decide +kernel]
  rintro e t4 ⟨rfl, rfl⟩
  go_wp2_with fail
  refine (class_any 4607182418800017408 ⟨by decide, by decide⟩ t1).mono ?_
  rw [show fC 4607182418800017408 = 2 by decide +kernel]
  rintro e t5 ⟨rfl, rfl⟩
  go_wp2_with fail
  refine (less_any 0 4607182418800017408 ⟨by decide, by decide⟩ ⟨by decide, by decide⟩ t1).mono ?_
  rw [show fLt 0 4607182418800017408 = true by decide +kernel]
  rintro e t6 ⟨rfl, rfl⟩
  go_wp2_with fail
  refine (neg_f 4607182418800017408 ⟨by decide, by decide⟩ t1).mono ?_
  rw [show fNg 4607182418800017408 = 13830554455654793216 by decide +kernel]
  rintro e t7 ⟨rfl, rfl⟩
  go_wp2_with fail
  refine (abs_f 13830554455654793216 ⟨by decide, by decide⟩ t1).mono ?_
  rw [show fAb 13830554455654793216 = 4607182418800017408 by decide +kernel]
  rintro e t8 ⟨rfl, rfl⟩
  go_wp2_with fail
  refine (inf_f true t1).mono ?_
  rw [show 9218868437227405312 + sg true = 18442240474082181120 by decide +kernel]
  rintro e t9 ⟨rfl, rfl⟩
  go_wp2_with fail
  refine (quiet_f t1).mono ?_
  rintro e t10 ⟨rfl, rfl⟩
  go_wp2_with fail
  refine (max_good _ 2 2 [0, 4607182418800017408] _ rfl (by decide) (rdw_two t1 25 _ _) (allF_two ⟨by decide, by decide⟩ ⟨by decide, by decide⟩) (by decide) (by decide) (by decide +kernel)).mono ?_
  rintro e t11 ⟨⟨k11, m11, hk11, hx11, rfl, hj11⟩, hb11⟩
  obtain rfl : m11 = 4607182418800017408 := max01 hk11 hx11.out hj11.out
  have X11 := Lib.hid (bel_trans (bel_alloc X1.out (.cells #[.int .u64 0, .int .u64 4607182418800017408] 25)) hb11)
  clear hb11
  go_wp2_with fail
  refine (min_good _ 2 2 [0, 4607182418800017408] _ rfl (by decide) (rdw_two t11 25 _ _) (allF_two ⟨by decide, by decide⟩ ⟨by decide, by decide⟩) (by decide) (by decide) (by decide +kernel)).mono ?_
  rintro e t12 ⟨⟨k12, m12, hk12, hx12, rfl, hj12⟩, hb12⟩
  obtain rfl : m12 = 0 := min01 hk12 hx12.out hj12.out
  have X12 := Lib.hid (bel_trans (bel_alloc X11.out (.cells #[.int .u64 0, .int .u64 4607182418800017408] 25)) hb12)
  clear hb12
  go_wp2_with fail
  go_ret
  exact ⟨rfl, bel_trans HB.out X12.out⟩
end Go.Proofs.YtnicecpmpnhmfabDoor
