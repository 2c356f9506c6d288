/-
  The walks of ConvFrom, ConvTo and ConvWhole: whatever integers, floats and modes are handed in, the laws answer true. Conditions: integers are of 64 bits, floats are words.
-/
import Derived.Test.YtmeobamfjcjbhaaConx
import Derived.Test.YtmeobamfjcjbhaaWorks7
namespace Go.Proofs.Ytmeobamfjcjbhaa
open Go.RowKit
set_option maxRecDepth 100000

set_option maxHeartbeats 4000000 in
theorem lfrom_walk (x md : Int) (w : World) (hx : -9223372036854775808 ≤ x ∧ x ≤ 9223372036854775807) :
    Calls Try.prog 3 #[.int .i64 x, .int .u8 md] w fun x w' => x = .returned (.bool true) ∧ Below w.heap.size w w' := by
  have J1 := Lib.hid (fun w => vfrom_any x md hx.1 hx.2 w)
  have J2 := Lib.hid (fun w => jfrom_any x md hx.1 hx.2 w)
  generalize fiF md x = F at *
  generalize fiG md x = G at *
  go_enter Try.func3, Try.ntmps3
  go_wp2_with fail
  refine (works7 _).mono ?_
  rintro e w1 ⟨rfl, hb1⟩
  have HB1 := Lib.hid hb1
  clear hb1
  go_wp2_with fail
  refine (J1.out _).mono ?_
  rintro e w2 ⟨rfl, hb2⟩
  have HB2 := Lib.hid (bel_trans HB1.out hb2)
  clear hb2 HB1
  go_wp2_with fail
  refine (J2.out _).mono ?_
  rintro e w3 ⟨rfl, hb3⟩
  have HB3 := Lib.hid (bel_trans HB2.out hb3)
  clear hb3 HB2
  go_wp2_with fail
  go_ret
  exact ⟨rfl, HB3.out⟩

set_option maxHeartbeats 4000000 in
theorem lto_walk (f : Int) (w : World) (hf : Word f) :
    Calls Try.prog 4 #[.int .u64 f] w fun x w' => x = .returned (.bool true) ∧ Below w.heap.size w w' := by
  have J1 := Lib.hid (fun w => vto32_any f hf w)
  have J2 := Lib.hid (fun w => jto_any f 32 2147483648 hf (.inl ⟨rfl, rfl⟩) w)
  have J3 := Lib.hid (fun w => vto64_any f hf w)
  have J4 := Lib.hid (fun w => jto_any f 64 9223372036854775808 hf (.inr ⟨rfl, rfl⟩) w)
  obtain ⟨b0, b1⟩ := toX_bd (c := 2147483648) (f := f) (by decide)
  generalize toX 2147483648 f = X at *
  generalize toG 2147483648 f = G at *
  generalize toX 9223372036854775808 f = Y at *
  generalize toG 9223372036854775808 f = H at *
  have wr : wrap64 X = X := wrap64_in (by omega) (by omega)
  go_enter Try.func4, Try.ntmps4
  go_wp2_with fail
  refine (works7 _).mono ?_
  rintro e w1 ⟨rfl, hb1⟩
  have HB1 := Lib.hid hb1
  clear hb1
  go_wp2_with fail
  refine (J1.out _).mono ?_
  rintro e w2 ⟨rfl, hb2⟩
  have HB2 := Lib.hid (bel_trans HB1.out hb2)
  clear hb2 HB1
  go_wp2_with fail
  refine (J2.out _).mono ?_
  rintro e w3 ⟨rfl, hb3⟩
  have HB3 := Lib.hid (bel_trans HB2.out hb3)
  clear hb3 HB2
  go_wp2_with fail
  refine (J3.out _).mono ?_
  rintro e w4 ⟨rfl, hb4⟩
  have HB4 := Lib.hid (bel_trans HB3.out hb4)
  clear hb4 HB3
  go_wp2_with fail
  refine (J4.out _).mono ?_
  rintro e w5 ⟨rfl, hb5⟩
  have HB5 := Lib.hid (bel_trans HB4.out hb5)
  clear hb5 HB4
  go_wp2_with fail
  go_ret
  exact ⟨rfl, HB5.out⟩

set_option maxHeartbeats 4000000 in
theorem lwhole_walk (f md : Int) (w : World) (hf : Word f) :
    Calls Try.prog 5 #[.int .u64 f, .int .u8 md] w fun x w' => x = .returned (.bool true) ∧ Below w.heap.size w w' := by
  have J1 := Lib.hid (fun w => vwhole_any f md hf w)
  have J2 := Lib.hid (fun w => jwhole_any f md hf w)
  generalize whF md f = F at *
  generalize whG f = G at *
  go_enter Try.func5, Try.ntmps5
  go_wp2_with fail
  refine (works7 _).mono ?_
  rintro e w1 ⟨rfl, hb1⟩
  have HB1 := Lib.hid hb1
  clear hb1
  go_wp2_with fail
  refine (J1.out _).mono ?_
  rintro e w2 ⟨rfl, hb2⟩
  have HB2 := Lib.hid (bel_trans HB1.out hb2)
  clear hb2 HB1
  go_wp2_with fail
  refine (J2.out _).mono ?_
  rintro e w3 ⟨rfl, hb3⟩
  have HB3 := Lib.hid (bel_trans HB2.out hb3)
  clear hb3 HB2
  go_wp2_with fail
  go_ret
  exact ⟨rfl, HB3.out⟩
end Go.Proofs.Ytmeobamfjcjbhaa
