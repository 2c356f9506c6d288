/-
  The contract of the examples of layer 6: they hold. Conditions: none.
-/
import Derived.Test.YtkdckclefegocaaGreatDoorSofG
namespace Go.Proofs.YtkdckclefegocaaGreatDoor
open Go.RowKit
set_option maxRecDepth 100000

theorem root_is {a n : Int} (h0 : 0 ≤ n) (h1 : n * n ≤ qA a) (h2 : qA a < (n + 1) * (n + 1)) : qN a = n := by
  obtain ⟨k0, k1, k2⟩ := qN_is a
  rcases Int.lt_trichotomy (qN a) n with h | h | h
  · have := sq_le (show 0 ≤ qN a + 1 by omega) (show qN a + 1 ≤ n by omega)
    omega
  · exact h
  · have := sq_le (show 0 ≤ n + 1 by omega) (show n + 1 ≤ qN a by omega)
    omega
/-- The root of 2, in halves of the least unit. -/
def root2 : Int := 572480023364146617591935668016049966010500686664101791028542233135558011634044476167154580224699125513425804211711046998203352683708491227491632786468799706415734589067383089788359079999380459416863097152964061624558509598001877202689990109228630302967000790712070191351074196812421423264255708859512965672517690402418823120
theorem rt_two : rtF 0 4611686018427387904 = 4609047870845172685 := by
  have e : qN 4611686018427387904 = root2 := root_is (by decide +kernel) (by decide +kernel) (by decide +kernel)
  unfold rtF qS
  rw [e, if_neg (by decide +kernel), if_neg (by decide +kernel), if_neg (by decide +kernel), if_neg (by decide +kernel)]
  decide +kernel
theorem rdw3 (W : World) (t : TypeId) (a b c : Int) : RdW (W.alloc (.cells #[.int .u64 a, .int .u64 b, .int .u64 c] t)) (some ⟨W.heap.size, 0, none⟩) [a, b, c] := by
  refine .inr ⟨_, 0, rfl, by simp, fun j v hj => ?_⟩
  rcases j with _ | _ | _ | j
  · simp at hj; subst hj; simp [go_sem]
  · simp at hj; subst hj; simp [go_sem]
  · simp at hj; subst hj; simp [go_sem]
  · simp at hj
theorem all3 {a b c : Int} (h : Word a) (k : Word b) (l : Word c) : AllF [a, b, c] := fun i hi => by
  rcases i with _ | _ | _ | i
  · exact h
  · exact k
  · exact l
  · simp at hi; omega
theorem sum_ones : smK 0 [4607182418800017408, 4607182418800017408, 4607182418800017408] 3 = 4613937818241073152 := by decide +kernel
theorem add_at (a b md f g : Int) (ha : Word a) (hb : Word b) (hf : saF md a b = f) (hg : saG md a b = g) (w : World) : Calls Tryz.prog 7 #[.int .u64 a, .int .u64 b, .int .u8 md] w (RetF f g w) := by
  subst hf hg
  exact sadd_any a b md ha hb w
theorem sub_at (a b md f g : Int) (ha : Word a) (hb : Word b) (hf : saF md a (fNg b) = f) (hg : saG md a (fNg b) = g) (w : World) : Calls Tryz.prog 18 #[.int .u64 a, .int .u64 b, .int .u8 md] w (RetF f g w) := by
  subst hf hg
  exact ssub_any a b md ha hb w
theorem div_at (a b md f g : Int) (ha : Word a) (hb : Word b) (hf : dvF md a b = f) (hg : dvG md a b = g) (w : World) : Calls Tryz.prog 13 #[.int .u64 a, .int .u64 b, .int .u8 md] w (RetF f g w) := by
  subst hf hg
  exact sdiv_any a b md ha hb w
theorem mul_at (a b md f g : Int) (ha : Word a) (hb : Word b) (hf : mlF md a b = f) (hg : mlG md a b = g) (w : World) : Calls Tryz.prog 8 #[.int .u64 a, .int .u64 b, .int .u8 md] w (RetF f g w) := by
  subst hf hg
  exact smul_any a b md ha hb w

set_option maxHeartbeats 20000000 in
theorem works6 (w : World) : Calls Tryz.prog 5 #[] w fun e w' => e = .returned (.bool true) ∧ Below w.heap.size w w' := by
  go_enter Tryz.func5, Tryz.ntmps5
  go_wp2_with fail
  refine (add_at 4607182418800017408 4368491638549381120 0 4607182418800017408 1 ⟨by decide, by decide⟩ ⟨by decide, by decide⟩ (by decide +kernel) (by decide +kernel) _).mono ?_
  rintro e w1 ⟨rfl, hb1⟩
  go_wp2_with fail
  refine (add_at 4607182418800017408 4368491638549381120 1 4607182418800017409 1 ⟨by decide, by decide⟩ ⟨by decide, by decide⟩ (by decide +kernel) (by decide +kernel) _).mono ?_
  rintro e w2 ⟨rfl, hb2⟩
  go_wp2_with fail
  refine (sub_at 4607182418800017408 4607182418800017408 0 0 0 ⟨by decide, by decide⟩ ⟨by decide, by decide⟩ (by decide +kernel) (by decide +kernel) _).mono ?_
  rintro e w3 ⟨rfl, hb3⟩
  go_wp2_with fail
  refine (sub_at 4607182418800017408 4607182418800017408 2 9223372036854775808 0 ⟨by decide, by decide⟩ ⟨by decide, by decide⟩ (by decide +kernel) (by decide +kernel) _).mono ?_
  rintro e w4 ⟨rfl, hb4⟩
  have HB4 := Lib.hid (bel_trans (bel_trans (bel_trans hb1 hb2) hb3) hb4)
  clear hb1 hb2 hb3 hb4
  go_wp2_with fail
  refine (div_at 13830554455654793216 0 0 18442240474082181120 8 ⟨by decide, by decide⟩ ⟨by decide, by decide⟩ (by decide +kernel) (by decide +kernel) _).mono ?_
  rintro e w5 ⟨rfl, hb5⟩
  have HB5 := Lib.hid (bel_trans HB4.out hb5)
  clear HB4 hb5
  go_wp2_with fail
  refine (ssqrt_any 4611686018427387904 0 ⟨by decide, by decide⟩ _).mono ?_
  rw [rt_two]
  rintro e w6 ⟨rfl, hb6⟩
  have HB6 := Lib.hid (bel_trans HB5.out hb6)
  clear HB5 hb6
  generalize rtG 0 4611686018427387904 = gg
  go_wp2_with fail
  refine (inf_f false _).mono ?_
  rw [show 9218868437227405312 + sg false = 9218868437227405312 by decide +kernel]
  rintro e w7 ⟨rfl, rfl⟩
  go_wp2_with fail
  refine (mul_at 0 9218868437227405312 0 9221120237041090560 16 ⟨by decide, by decide⟩ ⟨by decide, by decide⟩ (by decide +kernel) (by decide +kernel) _).mono ?_
  rintro e w8 ⟨rfl, hb8⟩
  have HB8 := Lib.hid (bel_trans HB6.out hb8)
  clear HB6 hb8
  go_wp2_with fail
  refine (ssum_any _ 3 3 [4607182418800017408, 4607182418800017408, 4607182418800017408] 0 _ rfl (rdw3 _ _ _ _ _) (all3 ⟨by decide, by decide⟩ ⟨by decide, by decide⟩ ⟨by decide, by decide⟩) (by decide)).mono ?_
  rw [sum_ones]
  rintro e w9 ⟨rfl, hb9⟩
  have HB9 := Lib.hid (bel_trans (bel_alloc HB8.out _) hb9)
  clear HB8 hb9
  go_wp2_with fail
  refine (inf_f true _).mono ?_
  rw [show 9218868437227405312 + sg true = 18442240474082181120 by decide +kernel]
  rintro e w10 ⟨rfl, rfl⟩
  go_wp2_with fail
  refine (quiet_f _).mono ?_
  rintro e w11 ⟨rfl, rfl⟩
  go_wp2_with fail
  go_ret
  exact ⟨rfl, HB9.out⟩
end Go.Proofs.YtkdckclefegocaaGreatDoor
