/-
  The walk of PatternParts: whatever is handed in, the law answers true. Condition: the table of math/bits stands in its variable.
-/
import Derived.Test.YtnicecpmpnhmfaaDoorQworks4
namespace Go.Proofs.YtnicecpmpnhmfaaDoor
open Go.RowKit
set_option maxRecDepth 100000

set_option maxHeartbeats 4000000 in
theorem lparts_walk (f : Int) (neg : Bool) (exp frac : Int) (w : World) (hf : Word f) (hx : -9223372036854775808 ≤ exp ∧ exp ≤ 9223372036854775807) (hr : Word frac) (hT : TabOk w) :
    Calls Tryd.prog 3 #[.int .u64 f, .bool neg, .int .i64 exp, .int .u64 frac] w fun e w' => e = .returned (.bool true) ∧ Below w.heap.size w w' := by
  obtain ⟨m1, m2⟩ := mkF_parts hf
  have M1 := Lib.hid m1
  have fm : Word (fM f) := by have := frac_bd (f := f); exact ⟨by omega, by omega⟩
  obtain ⟨x0, x1⟩ := hx
  obtain ⟨r0, r1⟩ := id hr
  clear m1
  by_cases h : mkOk exp frac
  · obtain ⟨h1, h2, h3⟩ := id h
    go_enter Tryd.func3, Tryd.ntmps3
    go_wp2_with fail
    refine (works4 w hT).mono ?_
    rintro e w1 ⟨rfl, hb⟩
    have HB := Lib.hid hb
    clear hb
    go_wp2_with fail
    refine (parts_any f hf _).mono ?_
    rintro e w2 ⟨rfl, rfl⟩
    go_wp2_with fail
    refine (gparts_any f hf _).mono ?_
    rintro e w2 ⟨rfl, rfl⟩
    go_wp2_with fail
    refine (split_any f hf _).mono ?_
    rintro e w2 ⟨rfl, rfl⟩
    go_wp2_with fail
    refine (gsplit_any f hf _).mono ?_
    rintro e w2 ⟨rfl, rfl⟩
    go_wp2_with fail
    refine (make_good _ _ _ fm m2 _).mono ?_
    rw [M1.out]
    rintro e w2 ⟨rfl, rfl⟩
    go_wp2_with fail
    refine (make_good neg exp frac hr h _).mono ?_
    rintro e w2 ⟨rfl, rfl⟩
    go_wp2_with fail
    refine (gmake_any neg exp frac hr h _).mono ?_
    rintro e w2 ⟨rfl, rfl⟩
    go_wp2_with fail
    refine (class_any f hf _).mono ?_
    rintro e w2 ⟨rfl, rfl⟩
    go_wp2_with fail
    refine (gclass_any f hf _).mono ?_
    rintro e w2 ⟨rfl, rfl⟩
    go_wp2_with fail
    go_ret
    exact ⟨rfl, HB.out⟩
  · have hmb := make_bad neg exp frac hr h
    unfold mkOk at h
    have h' : exp < 0 ∨ (¬ exp < 0 ∧ ¬ exp < 2048) ∨ (¬ exp < 0 ∧ exp < 2048 ∧ ¬ frac < 4503599627370496) := by omega
    clear h
    rcases h' with h | ⟨h, k⟩ | ⟨h, k, l⟩
    all_goals
      go_enter Tryd.func3, Tryd.ntmps3
      go_wp2_with fail
      refine (works4 w hT).mono ?_
      rintro e w1 ⟨rfl, hb⟩
      have HB := Lib.hid hb
      clear hb
      go_wp2_with fail
      refine (parts_any f hf _).mono ?_
      rintro e w2 ⟨rfl, rfl⟩
      go_wp2_with fail
      refine (gparts_any f hf _).mono ?_
      rintro e w2 ⟨rfl, rfl⟩
      go_wp2_with fail
      refine (split_any f hf _).mono ?_
      rintro e w2 ⟨rfl, rfl⟩
      go_wp2_with fail
      refine (gsplit_any f hf _).mono ?_
      rintro e w2 ⟨rfl, rfl⟩
      go_wp2_with fail
      refine (make_good _ _ _ fm m2 _).mono ?_
      rw [M1.out]
      rintro e w2 ⟨rfl, rfl⟩
      go_wp2_with fail
      refine (hmb _).mono ?_
      rintro e w2 ⟨rfl, rfl⟩
      go_wp2_with fail
      refine (class_any f hf _).mono ?_
      rintro e w2 ⟨rfl, rfl⟩
      go_wp2_with fail
      refine (gclass_any f hf _).mono ?_
      rintro e w2 ⟨rfl, rfl⟩
      go_wp2_with fail
      go_ret
      exact ⟨rfl, HB.out⟩
end Go.Proofs.YtnicecpmpnhmfaaDoor
