/-
  The walk of ConvBack: whatever integer of 32 bits and whatever mode are handed in, the law answers true. Conditions: none.
-/
import Derived.Test.YtmeobamfjcjbhaaWorks7
namespace Go.Proofs.Ytmeobamfjcjbhaa
open Go.RowKit
set_option maxRecDepth 100000

theorem back_parts {x : Int} (h0 : -2147483648 ≤ x) (h1 : x ≤ 2147483647) (md : Int) : Word (fiF md x) ∧ fiG md x = 0 ∧ toX 2147483648 (fiF md x) = x ∧ toG 2147483648 (fiF md x) = 0 ∧ toX 9223372036854775808 (fiF md x) = x ∧ toG 9223372036854775808 (fiF md x) = 0 ∧ whF md (fiF md x) = fiF md x ∧ whG (fiF md x) = 0 := by
  have hI : IsI (x.natAbs : Int) := isI_small (by omega) (by omega)
  obtain ⟨e1, e2⟩ := iF_any hI md (decide (x < 0))
  have f1 : fiF md x = iF (decide (x < 0)) (x.natAbs : Int) := e1
  have f2 : fiG md x = 0 := e2
  obtain ⟨w, c, s, m, -⟩ := iF_parts hI (decide (x < 0))
  rw [f1, f2]
  generalize iF (decide (x < 0)) (x.natAbs : Int) = f at *
  have hD := dD_pos
  have hT : vT f = x.natAbs := by unfold vT; rw [m, Int.mul_ediv_cancel _ (Int.ne_of_gt hD)]
  have hR : vR f = 0 := by unfold vR; rw [m, Int.mul_emod_left]
  have hS : sv (fS f) (vT f) = x := by
    rw [hT, s]
    unfold sv
    by_cases h : x < 0
    · rw [decide_eq_true h, if_pos rfl]; omega
    · rw [decide_eq_false h, if_neg (by decide)]; omega
  have hB : ∀ k : Int, 2147483648 ≤ k → tBad k f = false := fun k hk => by
    rw [(tBad_fin c).resolve_right (by omega), hS, decide_eq_false (by omega : ¬ x < -k), decide_eq_true (by omega : x < k)]
    rfl
  have hX : ∀ k : Int, 2147483648 ≤ k → toX k f = x ∧ toG k f = 0 := fun k hk => by
    unfold toX toG
    rw [hB k hk, if_neg (by decide), if_neg (by decide), hS, if_pos hR]
    exact ⟨rfl, rfl⟩
  obtain ⟨-, o2, o3⟩ := own_int w c hR
  refine ⟨w, rfl, (hX _ (by decide)).1, (hX _ (by decide)).2, (hX _ (by decide)).1, (hX _ (by decide)).2, ?_, ?_⟩
  · unfold whF
    rw [if_neg (by omega), if_neg (by omega), o3, o2]
  · unfold whG
    rw [if_neg (by omega), if_pos hR]

set_option maxHeartbeats 8000000 in
theorem lback_walk (x md : Int) (w : World) (hx : -2147483648 ≤ x ∧ x ≤ 2147483647) :
    Calls Try.prog 6 #[.int .i32 x, .int .u8 md] w fun x w' => x = .returned (.bool true) ∧ Below w.heap.size w w' := by
  obtain ⟨b1, b2, b3, b4, b5, b6, b7, b8⟩ := back_parts hx.1 hx.2 md
  have S1 := fun w => vfrom_any x md (by omega) (by omega) w
  rw [b2] at S1
  have S2 := fun w => vto32_any (fiF md x) b1 w
  rw [b3, b4] at S2
  have S3 := fun w => vto64_any (fiF md x) b1 w
  rw [b5, b6] at S3
  have S4 := fun w => vwhole_any (fiF md x) md b1 w
  rw [b7, b8] at S4
  have J1 := Lib.hid S1
  have J2 := Lib.hid S2
  have J3 := Lib.hid S3
  have J4 := Lib.hid S4
  have wr : wrap64 x = x := wrap64_in (by omega) (by omega)
  clear S1 S2 S3 S4 b1 b2 b3 b4 b5 b6 b7 b8
  generalize fiF md x = f at *
  go_enter Try.func6, Try.ntmps6
  go_wp2_with fail
  refine (works7 _).mono ?_
  rintro e w1 ⟨rfl, hb1⟩
  have HB1 := Lib.hid hb1
  clear hb1
  go_wp2_with fail
  refine (J1.out _).mono ?_
  rintro e w2 ⟨rfl, hb2⟩
  have HB2 := Lib.hid (bel_trans HB1.out hb2)
  clear hb2 HB1
  go_wp2_with fail
  refine (J2.out _).mono ?_
  rintro e w3 ⟨rfl, hb3⟩
  have HB3 := Lib.hid (bel_trans HB2.out hb3)
  clear hb3 HB2
  go_wp2_with fail
  refine (J3.out _).mono ?_
  rintro e w4 ⟨rfl, hb4⟩
  have HB4 := Lib.hid (bel_trans HB3.out hb4)
  clear hb4 HB3
  go_wp2_with fail
  refine (J4.out _).mono ?_
  rintro e w5 ⟨rfl, hb5⟩
  have HB5 := Lib.hid (bel_trans HB4.out hb5)
  clear hb5 HB4
  go_wp2_with fail
  go_ret
  exact ⟨rfl, HB5.out⟩
end Go.Proofs.Ytmeobamfjcjbhaa
