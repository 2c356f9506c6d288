/-
  The contract of the examples of layer 7: they hold. Conditions: none.
-/
import Derived.Test.YtmeobamfjcjbhaaDoorConu
namespace Go.Proofs.YtmeobamfjcjbhaaDoor
open Go.RowKit
set_option maxRecDepth 100000

theorem from_at (x md f g : Int) (h0 : -9223372036854775808 ≤ x) (h1 : x ≤ 9223372036854775807) (hf : fiF md x = f) (hg : fiG md x = g) (w : World) : Calls Tryd.prog 12 #[.int .i64 x, .int .u8 md] w (RetF f g w) := by
  subst hf hg
  exact vfrom_any x md h0 h1 w
theorem to32_at (f x g : Int) (hf : Word f) (hx : toX 2147483648 f = x) (hg : toG 2147483648 f = g) (w : World) : Calls Tryd.prog 13 #[.int .u64 f] w (RetI .i32 x g w) := by
  subst hx hg
  exact vto32_any f hf w
theorem to64_at (f x g : Int) (hf : Word f) (hx : toX 9223372036854775808 f = x) (hg : toG 9223372036854775808 f = g) (w : World) : Calls Tryd.prog 7 #[.int .u64 f] w (RetI .i64 x g w) := by
  subst hx hg
  exact vto64_any f hf w
theorem whole_at (f md h g : Int) (hf : Word f) (hh : whF md f = h) (hg : whG f = g) (w : World) : Calls Tryd.prog 11 #[.int .u64 f, .int .u8 md] w (RetF h g w) := by
  subst hh hg
  exact vwhole_any f md hf w

set_option maxHeartbeats 20000000 in
theorem works7 (w : World) : Calls Tryd.prog 4 #[] w fun e w' => e = .returned (.bool true) ∧ Below w.heap.size w w' := by
  go_enter Tryd.func4, Tryd.ntmps4
  go_wp2_with fail
  refine (from_at 9007199254740993 0 4845873199050653696 1 (by decide) (by decide) (by decide +kernel) (by decide +kernel) _).mono ?_
  rintro e w1 ⟨rfl, hb1⟩
  go_wp2_with fail
  refine (from_at 9007199254740993 1 4845873199050653697 1 (by decide) (by decide) (by decide +kernel) (by decide +kernel) _).mono ?_
  rintro e w2 ⟨rfl, hb2⟩
  go_wp2_with fail
  refine (to32_at 13833932155375321088 (-1) 1 ⟨by decide, by decide⟩ (by decide +kernel) (by decide +kernel) _).mono ?_
  rintro e w3 ⟨rfl, hb3⟩
  have HB3 := Lib.hid (bel_trans (bel_trans hb1 hb2) hb3)
  clear hb1 hb2 hb3
  go_wp2_with fail
  refine (to32_at 4746794007248502784 0 16 ⟨by decide, by decide⟩ (by decide +kernel) (by decide +kernel) _).mono ?_
  rintro e w4 ⟨rfl, hb4⟩
  have HB4 := Lib.hid (bel_trans HB3.out hb4)
  clear HB3 hb4
  go_wp2_with fail
  refine (to64_at 4746794007248502784 2147483648 0 ⟨by decide, by decide⟩ (by decide +kernel) (by decide +kernel) _).mono ?_
  rintro e w5 ⟨rfl, hb5⟩
  have HB5 := Lib.hid (bel_trans HB4.out hb5)
  clear HB4 hb5
  go_wp2_with fail
  refine (whole_at 4612811918334230528 0 4611686018427387904 1 ⟨by decide, by decide⟩ (by decide +kernel) (by decide +kernel) _).mono ?_
  rintro e w6 ⟨rfl, hb6⟩
  have HB6 := Lib.hid (bel_trans HB5.out hb6)
  clear HB5 hb6
  go_wp2_with fail
  refine (whole_at 13826050856027422720 1 9223372036854775808 1 ⟨by decide, by decide⟩ (by decide +kernel) (by decide +kernel) _).mono ?_
  rintro e w7 ⟨rfl, hb7⟩
  have HB7 := Lib.hid (bel_trans HB6.out hb7)
  clear HB6 hb7
  go_wp2_with fail
  go_ret
  exact ⟨rfl, HB7.out⟩
end Go.Proofs.YtmeobamfjcjbhaaDoor
