/-
  The walks of SoftAdds, SoftMuls, SoftDivides and SoftRoots: whatever floats and whatever mode are handed in, the laws answer true. Conditions: floats are words.
-/
import Derived.Test.YtkdckclefegocaaSofK
import Derived.Test.YtkdckclefegocaaSofM
import Derived.Test.YtkdckclefegocaaWorks6
namespace Go.Proofs.Ytkdckclefegocaa
open Go.RowKit
set_option maxRecDepth 100000

theorem xor_ng {b : Int} (hb : Word b) (h : fC b ≠ 4) : bits BinOp.xor IntKind.u64 b 9223372036854775808 = fNg b := by
  rw [xor63 hb]
  unfold fNg
  rw [if_neg h]
  by_cases hs : 9223372036854775808 ≤ b
  · rw [if_pos hs, if_pos (sgn_iff.2 hs)]
  · rw [if_neg hs, if_neg (fun k => hs (sgn_iff.1 k))]

set_option maxHeartbeats 4000000 in
theorem ladds_walk (a b md : Int) (w : World) (ha : Word a) (hb : Word b) :
    Calls Try.prog 3 #[.int .u64 a, .int .u64 b, .int .u8 md] w fun x w' => x = .returned (.bool true) ∧ Below w.heap.size w w' := by
  have S1 := Lib.hid (fun w => sadd_any a b md ha hb w)
  have S2 := Lib.hid (fun w => kadd_any a b md ha hb w)
  have S3 := Lib.hid (fun w => ssub_any a b md ha hb w)
  have S4 := Lib.hid (fun w => kadd_any a (fNg b) md ha (fNg_word hb) w)
  generalize saF md a b = F1 at *
  generalize saG md a b = G1 at *
  generalize saF md a (fNg b) = F2 at *
  generalize saG md a (fNg b) = G2 at *
  by_cases h4 : fC b = 4
  · have t0 : (fC b != 4) = false := by simp [h4]
    have t1 : (fC b == 4) = true := by simp [h4]
    have en : fNg b = b := if_pos h4
    rw [en] at S4
    have CB := Lib.hid (class_any b hb)
    clear h4 en
    generalize fC b = cb at *
    go_enter Try.func3, Try.ntmps3
    go_wp2_with fail
    refine (works6 _).mono ?_
    rintro x w1 ⟨rfl, hb1⟩
    have HB1 := Lib.hid hb1
    clear hb1
    go_wp2_with fail
    refine (S1.out _).mono ?_
    rintro x w2 ⟨rfl, hb2⟩
    have HB2 := Lib.hid (bel_trans HB1.out hb2)
    clear hb2 HB1
    go_wp2_with fail
    refine (S2.out _).mono ?_
    rintro x w3 ⟨rfl, hb3⟩
    have HB3 := Lib.hid (bel_trans HB2.out hb3)
    clear hb3 HB2
    go_wp2_with fail
    refine (S3.out _).mono ?_
    rintro x w4 ⟨rfl, hb4⟩
    have HB4 := Lib.hid (bel_trans HB3.out hb4)
    clear hb4 HB3
    go_wp2_with fail
    refine (CB.out _).mono ?_
    rintro x w5 ⟨rfl, rfl⟩
    go_wp2_with fail
    refine (S4.out _).mono ?_
    rintro x w5 ⟨rfl, hb5⟩
    have HB5 := Lib.hid (bel_trans HB4.out hb5)
    clear hb5 HB4
    go_wp2_with fail
    go_ret
    exact ⟨rfl, HB5.out⟩
  · have t0 : (fC b != 4) = true := by simp [h4]
    have t1 : (fC b == 4) = false := by simp [h4]
    have en := xor_ng hb h4
    have CB := Lib.hid (class_any b hb)
    clear h4
    generalize fC b = cb at *
    generalize fNg b = nb at *
    go_enter Try.func3, Try.ntmps3
    go_wp2_with fail
    refine (works6 _).mono ?_
    rintro x w1 ⟨rfl, hb1⟩
    have HB1 := Lib.hid hb1
    clear hb1
    go_wp2_with fail
    refine (S1.out _).mono ?_
    rintro x w2 ⟨rfl, hb2⟩
    have HB2 := Lib.hid (bel_trans HB1.out hb2)
    clear hb2 HB1
    go_wp2_with fail
    refine (S2.out _).mono ?_
    rintro x w3 ⟨rfl, hb3⟩
    have HB3 := Lib.hid (bel_trans HB2.out hb3)
    clear hb3 HB2
    go_wp2_with fail
    refine (S3.out _).mono ?_
    rintro x w4 ⟨rfl, hb4⟩
    have HB4 := Lib.hid (bel_trans HB3.out hb4)
    clear hb4 HB3
    go_wp2_with fail
    refine (CB.out _).mono ?_
    rintro x w5 ⟨rfl, rfl⟩
    go_wp2_with fail
    refine (S4.out _).mono ?_
    rintro x w5 ⟨rfl, hb5⟩
    have HB5 := Lib.hid (bel_trans HB4.out hb5)
    clear hb5 HB4
    go_wp2_with fail
    go_ret
    exact ⟨rfl, HB5.out⟩

set_option maxHeartbeats 4000000 in
theorem lmuls_walk (a b md : Int) (w : World) (ha : Word a) (hb : Word b) :
    Calls Try.prog 4 #[.int .u64 a, .int .u64 b, .int .u8 md] w fun x w' => x = .returned (.bool true) ∧ Below w.heap.size w w' := by
  have S1 := Lib.hid (fun w => smul_any a b md ha hb w)
  have S2 := Lib.hid (fun w => kmul_any a b md ha hb w)
  generalize mlF md a b = F1 at *
  generalize mlG md a b = G1 at *
  go_enter Try.func4, Try.ntmps4
  go_wp2_with fail
  refine (works6 _).mono ?_
  rintro x w1 ⟨rfl, hb1⟩
  have HB1 := Lib.hid hb1
  clear hb1
  go_wp2_with fail
  refine (S1.out _).mono ?_
  rintro x w2 ⟨rfl, hb2⟩
  have HB2 := Lib.hid (bel_trans HB1.out hb2)
  clear hb2 HB1
  go_wp2_with fail
  refine (S2.out _).mono ?_
  rintro x w3 ⟨rfl, hb3⟩
  have HB3 := Lib.hid (bel_trans HB2.out hb3)
  clear hb3 HB2
  go_wp2_with fail
  go_ret
  exact ⟨rfl, HB3.out⟩

set_option maxHeartbeats 4000000 in
theorem ldivides_walk (a b md : Int) (w : World) (ha : Word a) (hb : Word b) :
    Calls Try.prog 5 #[.int .u64 a, .int .u64 b, .int .u8 md] w fun x w' => x = .returned (.bool true) ∧ Below w.heap.size w w' := by
  have S1 := Lib.hid (fun w => sdiv_any a b md ha hb w)
  have S2 := Lib.hid (fun w => kdiv_any a b md ha hb w)
  generalize dvF md a b = F1 at *
  generalize dvG md a b = G1 at *
  go_enter Try.func5, Try.ntmps5
  go_wp2_with fail
  refine (works6 _).mono ?_
  rintro x w1 ⟨rfl, hb1⟩
  have HB1 := Lib.hid hb1
  clear hb1
  go_wp2_with fail
  refine (S1.out _).mono ?_
  rintro x w2 ⟨rfl, hb2⟩
  have HB2 := Lib.hid (bel_trans HB1.out hb2)
  clear hb2 HB1
  go_wp2_with fail
  refine (S2.out _).mono ?_
  rintro x w3 ⟨rfl, hb3⟩
  have HB3 := Lib.hid (bel_trans HB2.out hb3)
  clear hb3 HB2
  go_wp2_with fail
  go_ret
  exact ⟨rfl, HB3.out⟩

set_option maxHeartbeats 4000000 in
theorem lroots_walk (a md : Int) (w : World) (ha : Word a) :
    Calls Try.prog 6 #[.int .u64 a, .int .u8 md] w fun x w' => x = .returned (.bool true) ∧ Below w.heap.size w w' := by
  have S1 := Lib.hid (fun w => ssqrt_any a md ha w)
  have S2 := Lib.hid (fun w => ksqrt_any a md ha w)
  generalize rtF md a = F1 at *
  generalize rtG md a = G1 at *
  go_enter Try.func6, Try.ntmps6
  go_wp2_with fail
  refine (works6 _).mono ?_
  rintro x w1 ⟨rfl, hb1⟩
  have HB1 := Lib.hid hb1
  clear hb1
  go_wp2_with fail
  refine (S1.out _).mono ?_
  rintro x w2 ⟨rfl, hb2⟩
  have HB2 := Lib.hid (bel_trans HB1.out hb2)
  clear hb2 HB1
  go_wp2_with fail
  refine (S2.out _).mono ?_
  rintro x w3 ⟨rfl, hb3⟩
  have HB3 := Lib.hid (bel_trans HB2.out hb3)
  clear hb3 HB2
  go_wp2_with fail
  go_ret
  exact ⟨rfl, HB3.out⟩
end Go.Proofs.Ytkdckclefegocaa
