/-
  The walk of PatternValues: whatever is handed in, the law answers true. Condition: the table of math/bits stands in its variable.
-/
import Derived.Test.YtnicecpmpnhmfaaDoorQworks4
import Derived.Test.YtnicecpmpnhmfaaDoorPatg
namespace Go.Proofs.YtnicecpmpnhmfaaDoor
open Go.RowKit
set_option maxRecDepth 100000

set_option maxHeartbeats 4000000 in
theorem lvalues_bad (f : Int) (w : World) (hf : Word f) (hT : TabOk w) (hc : ¬ fC f < 3) :
    Calls Tryd.prog 4 #[.int .u64 f] w fun e w' => e = .returned (.bool true) ∧ Below w.heap.size w w' := by
  have hd : decide (fC f < 3) = false := decide_eq_false hc
  have F := fun w => gfinite_any f hf w
  rw [hd] at F
  go_enter Tryd.func4, Tryd.ntmps4
  go_wp2_with fail
  refine (works4 w hT).mono ?_
  rintro e w1 ⟨rfl, hb1⟩
  have HB := Lib.hid hb1
  clear hb1
  go_wp2_with fail
  refine (value_bad f hf (by omega) _).mono ?_
  rintro e w2 ⟨rfl, hb2⟩
  have HB2 := Lib.hid (bel_alloc (bel_trans HB.out hb2) (.cells #[.bool false, .slice none 0 0, .slice none 0 0] 39))
  clear hb2 HB
  go_wp2_with fail
  refine (F _).mono ?_
  rintro e w3 ⟨rfl, rfl⟩
  go_wp2_with fail
  go_ret
  exact ⟨rfl, HB2.out⟩
set_option maxHeartbeats 4000000 in
theorem lvalues_good (f : Int) (w : World) (hf : Word f) (hT : TabOk w) (hc : fC f < 3) :
    Calls Tryd.prog 4 #[.int .u64 f] w fun e w' => e = .returned (.bool true) ∧ Below w.heap.size w w' := by
  have hd : decide (fC f < 3) = true := decide_eq_true hc
  have F := fun w => gfinite_any f hf w
  rw [hd] at F
  go_enter Tryd.func4, Tryd.ntmps4
  go_wp2_with fail
  refine (works4 w hT).mono ?_
  rintro e w1 ⟨rfl, hb1⟩
  have HB := Lib.hid hb1
  clear hb1
  go_wp2_with fail
  refine (value_good f hf hc _ (hT.below HB.out)).mono ?_
  rintro e w2 ⟨x1, y1, z1, r1, rfl, hb2⟩
  obtain ⟨s1, A1, n1, k1, B1, m1, l1, rfl, rfl, rfl⟩ := r1.form
  have HB2 := Lib.hid (bel_alloc (bel_trans HB.out hb2) (.cells #[.bool s1, .slice A1 n1 k1, .slice B1 m1 l1] 39))
  have r2 := r1.below (bel_alloc (Below.refl _ _) (.cells #[.bool s1, .slice A1 n1 k1, .slice B1 m1 l1] 39))
  have K1 := Blk.new w2 39 #[.bool s1, .slice A1 n1 k1, .slice B1 m1 l1]
  clear hb2 HB r1
  go_wp2_with fail
  refine (F _).mono ?_
  rintro e w3 ⟨rfl, rfl⟩
  clear F
  go_wp2_with fail
  refine (gvalue_any f hf _).mono ?_
  rintro e w3 ⟨x3, y3, z3, r3, rfl, hb3⟩
  obtain ⟨s3, A3, n3, k3, B3, m3, l3, rfl, rfl, rfl⟩ := r3.form
  have r4 := (r2.below hb3).below (bel_alloc (Below.refl _ _) (.cells #[.bool s3, .slice A3 n3 k3, .slice B3 m3 l3] 45))
  have r5 := r3.below (bel_alloc (Below.refl _ _) (.cells #[.bool s3, .slice A3 n3 k3, .slice B3 m3 l3] 45))
  have K2 := (K1.below hb3 K1.lt).alloc (.cells #[.bool s3, .slice A3 n3 k3, .slice B3 m3 l3] 45)
  have K3 := Blk.new w3 45 #[.bool s3, .slice A3 n3 k3, .slice B3 m3 l3]
  have HB3 := Lib.hid (bel_alloc (bel_trans HB2.out hb3) (.cells #[.bool s3, .slice A3 n3 k3, .slice B3 m3 l3] 45))
  clear hb3 HB2 r2 r3 K1
  have es : s1 = s3 := by
    have e1 := r4.1
    have e2 := r5.1
    injection e1 with e1
    injection e2 with e2
    rw [e1, e2]
  subst es
  obtain ⟨c0, c1, c2, -, -, -⟩ := K2.three
  obtain ⟨d0, d1, d2, -, -, -⟩ := K3.three
  go_wp2_with fail
  refine (isrV r4.2.1 r5.2.1.v (by decide) (by decide)).mono ?_
  rintro e w4 ⟨rfl, hb4⟩
  have HB4 := Lib.hid (bel_trans HB3.out hb4)
  have K4 := K2.below hb4 K2.lt
  have K5 := K3.below hb4 K3.lt
  have n4 := r4.2.2.below hb4
  have n5 := r5.2.2.below hb4
  clear c0 c1 c2 d0 d1 d2 K2 K3 r4 r5 hb4 HB3
  obtain ⟨c0, c1, c2, -, -, -⟩ := K4.three
  obtain ⟨d0, d1, d2, -, -, -⟩ := K5.three
  go_wp2_with fail
  refine (isrV n4 n5.v (by decide) (by decide)).mono ?_
  rintro e w5 ⟨rfl, hb5⟩
  have HB5 := Lib.hid (bel_trans HB4.out hb5)
  clear c0 c1 c2 d0 d1 d2 K4 K5 n4 n5 hb5 HB4
  go_wp2_with fail
  go_ret
  exact ⟨rfl, HB5.out⟩
theorem lvalues_walk (f : Int) (w : World) (hf : Word f) (hT : TabOk w) :
    Calls Tryd.prog 4 #[.int .u64 f] w fun e w' => e = .returned (.bool true) ∧ Below w.heap.size w w' := by
  by_cases hc : fC f < 3
  · exact lvalues_good f w hf hT hc
  · exact lvalues_bad f w hf hT hc
end Go.Proofs.YtnicecpmpnhmfaaDoor
