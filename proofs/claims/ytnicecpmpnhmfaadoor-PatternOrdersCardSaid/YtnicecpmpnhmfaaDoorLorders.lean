/-
  The walk of PatternOrders: whatever is handed in, the law answers true. Condition: the table of math/bits stands in its variable.
-/
import Derived.Test.YtnicecpmpnhmfaaDoorQworks4
import Derived.Test.YtnicecpmpnhmfaaDoorPatf
namespace Go.Proofs.YtnicecpmpnhmfaaDoor
open Go.RowKit
set_option maxRecDepth 100000

set_option maxHeartbeats 4000000 in
theorem lorders_ggt (a b : Int) (w : World) (ha : Word a) (hb : Word b) (hT : TabOk w) (ca : fC a < 3) (cb : fC b < 3) (hok : fOk a b = true) :
    Calls Tryd.prog 5 #[.int .u64 a, .int .u64 b] w fun e w' => e = .returned (.bool true) ∧ Below w.heap.size w w' := by
  have C := fun w => cmp_any a b ha hb w
  have D := fun w => gcmp_any a b ha hb w
  have L := fun w => less_any a b ha hb w
  unfold fLt at L
  rw [hok] at C D L
  have cbd := fCmp_bd a b
  have HV := Lib.hid (fV_cmp ha hb ca cb)
  obtain ⟨c, hc⟩ : ∃ c, fCmp a b = c := ⟨_, rfl⟩
  rw [hc] at C D L cbd
  rw [hc] at HV
  clear hc hok
  rw [Bool.true_and] at L
  by_cases hneg : c < 0
  all_goals
    first | rw [decide_eq_true hneg] at L | rw [decide_eq_false hneg] at L
    go_enter Tryd.func5, Tryd.ntmps5
    go_wp2_with fail
    refine (works4 w hT).mono ?_
    rintro e w1 ⟨rfl, hb1⟩
    have HB := Lib.hid hb1
    clear hb1
    go_wp2_with fail
    refine (C _).mono ?_
    rintro e w2 ⟨rfl, rfl⟩
    go_wp2_with fail
    refine (D _).mono ?_
    rintro e w2 ⟨rfl, rfl⟩
    go_wp2_with fail
    refine (L _).mono ?_
    rintro e w2 ⟨rfl, rfl⟩
    clear C D L
    go_wp2_with fail
    refine (value_good a ha ca _ (hT.below HB.out)).mono ?_
    rintro e w2 ⟨x1, y1, z1, r1, rfl, hb2⟩
    obtain ⟨s1, A1, n1, k1, B1, m1, l1, rfl, rfl, rfl⟩ := r1.form
    have HB2 := Lib.hid (bel_alloc (bel_trans HB.out hb2) (.cells #[.bool s1, .slice A1 n1 k1, .slice B1 m1 l1] 39))
    clear hb2 HB
    have r2 := r1.below (bel_alloc (Below.refl _ _) (.cells #[.bool s1, .slice A1 n1 k1, .slice B1 m1 l1] 39))
    clear r1
    go_wp2_with fail
    refine (value_good b hb cb _ (hT.below HB2.out)).mono ?_
    rintro e w3 ⟨x3, y3, z3, r3, rfl, hb3⟩
    obtain ⟨s3, A3, n3, k3, B3, m3, l3, rfl, rfl, rfl⟩ := r3.form
    have HB3 := Lib.hid (bel_alloc (bel_trans HB2.out hb3) (.cells #[.bool s3, .slice A3 n3 k3, .slice B3 m3 l3] 39))
    have K1 := (Blk.made hb3).alloc (.cells #[.bool s3, .slice A3 n3 k3, .slice B3 m3 l3] 39)
    have K3 := Blk.new w3 39 #[.bool s3, .slice A3 n3 k3, .slice B3 m3 l3]
    have r4 := (r2.below hb3).below (bel_alloc (Below.refl _ _) (.cells #[.bool s3, .slice A3 n3 k3, .slice B3 m3 l3] 39))
    have r5 := r3.below (bel_alloc (Below.refl _ _) (.cells #[.bool s3, .slice A3 n3 k3, .slice B3 m3 l3] 39))
    clear r2 r3
    obtain ⟨c0, c1, c2, -, -, -⟩ := K1.three
    obtain ⟨d0, d1, d2, -, -, -⟩ := K3.three
    clear K1 K3
    clear hb3 HB2
    go_wp2_with fail
    refine (qcmp_any r4.v r5.v (by decide) (by decide)).mono ?_
    rw [HV.out]
    rintro e w4 ⟨rfl, hb4⟩
    have HB4 := Lib.hid (bel_trans HB3.out hb4)
    clear hb4 HB3
    go_wp2_with fail
    go_ret
    exact ⟨rfl, HB4.out⟩
set_option maxHeartbeats 4000000 in
theorem lorders_gbt (a b : Int) (w : World) (ha : Word a) (hb : Word b) (hT : TabOk w) (ca : fC a < 3) (cb : ¬ fC b < 3) (hok : fOk a b = true) :
    Calls Tryd.prog 5 #[.int .u64 a, .int .u64 b] w fun e w' => e = .returned (.bool true) ∧ Below w.heap.size w w' := by
  have C := fun w => cmp_any a b ha hb w
  have D := fun w => gcmp_any a b ha hb w
  have L := fun w => less_any a b ha hb w
  unfold fLt at L
  rw [hok] at C D L
  have cbd := fCmp_bd a b
  obtain ⟨c, hc⟩ : ∃ c, fCmp a b = c := ⟨_, rfl⟩
  rw [hc] at C D L cbd
  clear hc hok
  rw [Bool.true_and] at L
  by_cases hneg : c < 0
  all_goals
    first | rw [decide_eq_true hneg] at L | rw [decide_eq_false hneg] at L
    go_enter Tryd.func5, Tryd.ntmps5
    go_wp2_with fail
    refine (works4 w hT).mono ?_
    rintro e w1 ⟨rfl, hb1⟩
    have HB := Lib.hid hb1
    clear hb1
    go_wp2_with fail
    refine (C _).mono ?_
    rintro e w2 ⟨rfl, rfl⟩
    go_wp2_with fail
    refine (D _).mono ?_
    rintro e w2 ⟨rfl, rfl⟩
    go_wp2_with fail
    refine (L _).mono ?_
    rintro e w2 ⟨rfl, rfl⟩
    clear C D L
    go_wp2_with fail
    refine (value_good a ha ca _ (hT.below HB.out)).mono ?_
    rintro e w2 ⟨x1, y1, z1, r1, rfl, hb2⟩
    obtain ⟨s1, A1, n1, k1, B1, m1, l1, rfl, rfl, rfl⟩ := r1.form
    have HB2 := Lib.hid (bel_alloc (bel_trans HB.out hb2) (.cells #[.bool s1, .slice A1 n1 k1, .slice B1 m1 l1] 39))
    clear hb2 HB
    have r2 := r1.below (bel_alloc (Below.refl _ _) (.cells #[.bool s1, .slice A1 n1 k1, .slice B1 m1 l1] 39))
    clear r1
    go_wp2_with fail
    refine (value_bad b hb (by omega) _).mono ?_
    rintro e w3 ⟨rfl, hb3⟩
    have HB3 := Lib.hid (bel_alloc (bel_trans HB2.out hb3) (.cells #[.bool false, .slice none 0 0, .slice none 0 0] 39))
    clear hb3 HB2
    go_wp2_with fail
    go_ret
    exact ⟨rfl, HB3.out⟩
set_option maxHeartbeats 4000000 in
theorem lorders_gbf (a b : Int) (w : World) (ha : Word a) (hb : Word b) (hT : TabOk w) (ca : fC a < 3) (cb : ¬ fC b < 3) (hok : fOk a b = false) :
    Calls Tryd.prog 5 #[.int .u64 a, .int .u64 b] w fun e w' => e = .returned (.bool true) ∧ Below w.heap.size w w' := by
  have C := fun w => cmp_any a b ha hb w
  have D := fun w => gcmp_any a b ha hb w
  have L := fun w => less_any a b ha hb w
  unfold fLt at L
  rw [hok] at C D L
  have cbd := fCmp_bd a b
  obtain ⟨c, hc⟩ : ∃ c, fCmp a b = c := ⟨_, rfl⟩
  rw [hc] at C D L cbd
  clear hc hok
  rw [Bool.false_and] at L
  go_enter Tryd.func5, Tryd.ntmps5
  go_wp2_with fail
  refine (works4 w hT).mono ?_
  rintro e w1 ⟨rfl, hb1⟩
  have HB := Lib.hid hb1
  clear hb1
  go_wp2_with fail
  refine (C _).mono ?_
  rintro e w2 ⟨rfl, rfl⟩
  go_wp2_with fail
  refine (D _).mono ?_
  rintro e w2 ⟨rfl, rfl⟩
  go_wp2_with fail
  refine (L _).mono ?_
  rintro e w2 ⟨rfl, rfl⟩
  clear C D L
  go_wp2_with fail
  refine (value_good a ha ca _ (hT.below HB.out)).mono ?_
  rintro e w2 ⟨x1, y1, z1, r1, rfl, hb2⟩
  obtain ⟨s1, A1, n1, k1, B1, m1, l1, rfl, rfl, rfl⟩ := r1.form
  have HB2 := Lib.hid (bel_alloc (bel_trans HB.out hb2) (.cells #[.bool s1, .slice A1 n1 k1, .slice B1 m1 l1] 39))
  clear hb2 HB
  have r2 := r1.below (bel_alloc (Below.refl _ _) (.cells #[.bool s1, .slice A1 n1 k1, .slice B1 m1 l1] 39))
  clear r1
  go_wp2_with fail
  refine (value_bad b hb (by omega) _).mono ?_
  rintro e w3 ⟨rfl, hb3⟩
  have HB3 := Lib.hid (bel_alloc (bel_trans HB2.out hb3) (.cells #[.bool false, .slice none 0 0, .slice none 0 0] 39))
  clear hb3 HB2
  go_wp2_with fail
  go_ret
  exact ⟨rfl, HB3.out⟩
set_option maxHeartbeats 4000000 in
theorem lorders_bgt (a b : Int) (w : World) (ha : Word a) (hb : Word b) (hT : TabOk w) (ca : ¬ fC a < 3) (cb : fC b < 3) (hok : fOk a b = true) :
    Calls Tryd.prog 5 #[.int .u64 a, .int .u64 b] w fun e w' => e = .returned (.bool true) ∧ Below w.heap.size w w' := by
  have C := fun w => cmp_any a b ha hb w
  have D := fun w => gcmp_any a b ha hb w
  have L := fun w => less_any a b ha hb w
  unfold fLt at L
  rw [hok] at C D L
  have cbd := fCmp_bd a b
  obtain ⟨c, hc⟩ : ∃ c, fCmp a b = c := ⟨_, rfl⟩
  rw [hc] at C D L cbd
  clear hc hok
  rw [Bool.true_and] at L
  by_cases hneg : c < 0
  all_goals
    first | rw [decide_eq_true hneg] at L | rw [decide_eq_false hneg] at L
    go_enter Tryd.func5, Tryd.ntmps5
    go_wp2_with fail
    refine (works4 w hT).mono ?_
    rintro e w1 ⟨rfl, hb1⟩
    have HB := Lib.hid hb1
    clear hb1
    go_wp2_with fail
    refine (C _).mono ?_
    rintro e w2 ⟨rfl, rfl⟩
    go_wp2_with fail
    refine (D _).mono ?_
    rintro e w2 ⟨rfl, rfl⟩
    go_wp2_with fail
    refine (L _).mono ?_
    rintro e w2 ⟨rfl, rfl⟩
    clear C D L
    go_wp2_with fail
    refine (value_bad a ha (by omega) _).mono ?_
    rintro e w2 ⟨rfl, hb2⟩
    have HB2 := Lib.hid (bel_alloc (bel_trans HB.out hb2) (.cells #[.bool false, .slice none 0 0, .slice none 0 0] 39))
    clear hb2 HB
    go_wp2_with fail
    refine (value_good b hb cb _ (hT.below HB2.out)).mono ?_
    rintro e w3 ⟨x3, y3, z3, r3, rfl, hb3⟩
    obtain ⟨s3, A3, n3, k3, B3, m3, l3, rfl, rfl, rfl⟩ := r3.form
    have HB3 := Lib.hid (bel_alloc (bel_trans HB2.out hb3) (.cells #[.bool s3, .slice A3 n3 k3, .slice B3 m3 l3] 39))
    clear hb3 HB2
    go_wp2_with fail
    go_ret
    exact ⟨rfl, HB3.out⟩
set_option maxHeartbeats 4000000 in
theorem lorders_bgf (a b : Int) (w : World) (ha : Word a) (hb : Word b) (hT : TabOk w) (ca : ¬ fC a < 3) (cb : fC b < 3) (hok : fOk a b = false) :
    Calls Tryd.prog 5 #[.int .u64 a, .int .u64 b] w fun e w' => e = .returned (.bool true) ∧ Below w.heap.size w w' := by
  have C := fun w => cmp_any a b ha hb w
  have D := fun w => gcmp_any a b ha hb w
  have L := fun w => less_any a b ha hb w
  unfold fLt at L
  rw [hok] at C D L
  have cbd := fCmp_bd a b
  obtain ⟨c, hc⟩ : ∃ c, fCmp a b = c := ⟨_, rfl⟩
  rw [hc] at C D L cbd
  clear hc hok
  rw [Bool.false_and] at L
  go_enter Tryd.func5, Tryd.ntmps5
  go_wp2_with fail
  refine (works4 w hT).mono ?_
  rintro e w1 ⟨rfl, hb1⟩
  have HB := Lib.hid hb1
  clear hb1
  go_wp2_with fail
  refine (C _).mono ?_
  rintro e w2 ⟨rfl, rfl⟩
  go_wp2_with fail
  refine (D _).mono ?_
  rintro e w2 ⟨rfl, rfl⟩
  go_wp2_with fail
  refine (L _).mono ?_
  rintro e w2 ⟨rfl, rfl⟩
  clear C D L
  go_wp2_with fail
  refine (value_bad a ha (by omega) _).mono ?_
  rintro e w2 ⟨rfl, hb2⟩
  have HB2 := Lib.hid (bel_alloc (bel_trans HB.out hb2) (.cells #[.bool false, .slice none 0 0, .slice none 0 0] 39))
  clear hb2 HB
  go_wp2_with fail
  refine (value_good b hb cb _ (hT.below HB2.out)).mono ?_
  rintro e w3 ⟨x3, y3, z3, r3, rfl, hb3⟩
  obtain ⟨s3, A3, n3, k3, B3, m3, l3, rfl, rfl, rfl⟩ := r3.form
  have HB3 := Lib.hid (bel_alloc (bel_trans HB2.out hb3) (.cells #[.bool s3, .slice A3 n3 k3, .slice B3 m3 l3] 39))
  clear hb3 HB2
  go_wp2_with fail
  go_ret
  exact ⟨rfl, HB3.out⟩
set_option maxHeartbeats 4000000 in
theorem lorders_bbt (a b : Int) (w : World) (ha : Word a) (hb : Word b) (hT : TabOk w) (ca : ¬ fC a < 3) (cb : ¬ fC b < 3) (hok : fOk a b = true) :
    Calls Tryd.prog 5 #[.int .u64 a, .int .u64 b] w fun e w' => e = .returned (.bool true) ∧ Below w.heap.size w w' := by
  have C := fun w => cmp_any a b ha hb w
  have D := fun w => gcmp_any a b ha hb w
  have L := fun w => less_any a b ha hb w
  unfold fLt at L
  rw [hok] at C D L
  have cbd := fCmp_bd a b
  obtain ⟨c, hc⟩ : ∃ c, fCmp a b = c := ⟨_, rfl⟩
  rw [hc] at C D L cbd
  clear hc hok
  rw [Bool.true_and] at L
  by_cases hneg : c < 0
  all_goals
    first | rw [decide_eq_true hneg] at L | rw [decide_eq_false hneg] at L
    go_enter Tryd.func5, Tryd.ntmps5
    go_wp2_with fail
    refine (works4 w hT).mono ?_
    rintro e w1 ⟨rfl, hb1⟩
    have HB := Lib.hid hb1
    clear hb1
    go_wp2_with fail
    refine (C _).mono ?_
    rintro e w2 ⟨rfl, rfl⟩
    go_wp2_with fail
    refine (D _).mono ?_
    rintro e w2 ⟨rfl, rfl⟩
    go_wp2_with fail
    refine (L _).mono ?_
    rintro e w2 ⟨rfl, rfl⟩
    clear C D L
    go_wp2_with fail
    refine (value_bad a ha (by omega) _).mono ?_
    rintro e w2 ⟨rfl, hb2⟩
    have HB2 := Lib.hid (bel_alloc (bel_trans HB.out hb2) (.cells #[.bool false, .slice none 0 0, .slice none 0 0] 39))
    clear hb2 HB
    go_wp2_with fail
    refine (value_bad b hb (by omega) _).mono ?_
    rintro e w3 ⟨rfl, hb3⟩
    have HB3 := Lib.hid (bel_alloc (bel_trans HB2.out hb3) (.cells #[.bool false, .slice none 0 0, .slice none 0 0] 39))
    clear hb3 HB2
    go_wp2_with fail
    go_ret
    exact ⟨rfl, HB3.out⟩
set_option maxHeartbeats 4000000 in
theorem lorders_bbf (a b : Int) (w : World) (ha : Word a) (hb : Word b) (hT : TabOk w) (ca : ¬ fC a < 3) (cb : ¬ fC b < 3) (hok : fOk a b = false) :
    Calls Tryd.prog 5 #[.int .u64 a, .int .u64 b] w fun e w' => e = .returned (.bool true) ∧ Below w.heap.size w w' := by
  have C := fun w => cmp_any a b ha hb w
  have D := fun w => gcmp_any a b ha hb w
  have L := fun w => less_any a b ha hb w
  unfold fLt at L
  rw [hok] at C D L
  have cbd := fCmp_bd a b
  obtain ⟨c, hc⟩ : ∃ c, fCmp a b = c := ⟨_, rfl⟩
  rw [hc] at C D L cbd
  clear hc hok
  rw [Bool.false_and] at L
  go_enter Tryd.func5, Tryd.ntmps5
  go_wp2_with fail
  refine (works4 w hT).mono ?_
  rintro e w1 ⟨rfl, hb1⟩
  have HB := Lib.hid hb1
  clear hb1
  go_wp2_with fail
  refine (C _).mono ?_
  rintro e w2 ⟨rfl, rfl⟩
  go_wp2_with fail
  refine (D _).mono ?_
  rintro e w2 ⟨rfl, rfl⟩
  go_wp2_with fail
  refine (L _).mono ?_
  rintro e w2 ⟨rfl, rfl⟩
  clear C D L
  go_wp2_with fail
  refine (value_bad a ha (by omega) _).mono ?_
  rintro e w2 ⟨rfl, hb2⟩
  have HB2 := Lib.hid (bel_alloc (bel_trans HB.out hb2) (.cells #[.bool false, .slice none 0 0, .slice none 0 0] 39))
  clear hb2 HB
  go_wp2_with fail
  refine (value_bad b hb (by omega) _).mono ?_
  rintro e w3 ⟨rfl, hb3⟩
  have HB3 := Lib.hid (bel_alloc (bel_trans HB2.out hb3) (.cells #[.bool false, .slice none 0 0, .slice none 0 0] 39))
  clear hb3 HB2
  go_wp2_with fail
  go_ret
  exact ⟨rfl, HB3.out⟩
theorem lorders_walk (a b : Int) (w : World) (ha : Word a) (hb : Word b) (hT : TabOk w) :
    Calls Tryd.prog 5 #[.int .u64 a, .int .u64 b] w fun e w' => e = .returned (.bool true) ∧ Below w.heap.size w w' := by
  by_cases ca : fC a < 3
  · by_cases cb : fC b < 3
    · exact lorders_ggt a b w ha hb hT ca cb (fOk_yes (fin_ok ca) (fin_ok cb)).1
    · cases hok : fOk a b
      · exact lorders_gbf a b w ha hb hT ca cb hok
      · exact lorders_gbt a b w ha hb hT ca cb hok
  · by_cases cb : fC b < 3
    · cases hok : fOk a b
      · exact lorders_bgf a b w ha hb hT ca cb hok
      · exact lorders_bgt a b w ha hb hT ca cb hok
    · cases hok : fOk a b
      · exact lorders_bbf a b w ha hb hT ca cb hok
      · exact lorders_bbt a b w ha hb hT ca cb hok
end Go.Proofs.YtnicecpmpnhmfaaDoor
