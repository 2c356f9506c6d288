/-
  The walk of ConvNear: whatever float and whatever mode are handed in, the law answers true. Conditions: the float is a word; the table of math/bits stands in its variable.
-/
import Derived.Test.YtmeobamfjcjbhaaDoorMath7n
import Derived.Test.YtmeobamfjcjbhaaDoorWorks7
import Derived.Test.YtmeobamfjcjbhaaDoorIn
namespace Go.Proofs.YtmeobamfjcjbhaaDoor
open Go.RowKit
set_option maxRecDepth 100000

set_option maxHeartbeats 4000000 in
theorem lnear_inf (f md : Int) (w : World) (hf : Word f) (h : ¬ fC f < 3) (hT : TabOk w) :
    Calls Tryd.prog 3 #[.int .u64 f, .int .u8 md] w fun x w' => x = .returned (.bool true) ∧ Below w.heap.size w w' := by
  have VA := Lib.hid fun w hT => value_any f false hf (decide_eq_false h) w hT
  go_enter Tryd.func3, Tryd.ntmps3
  go_wp2_with fail
  refine (works7 _).mono ?_
  rintro x w1 ⟨rfl, hb1⟩
  have HB1 := Lib.hid hb1
  clear hb1
  go_wp2_with fail
  refine (VA.out _ (hT.below HB1.out)).mono ?_
  rintro x w2 ⟨s2, A2, n2, c2, F2, m2, d2, rfl, -, h⟩
  have HB2 := Lib.hid (bel_alloc (bel_trans HB1.out h) (.cells #[.bool s2, .slice A2 n2 c2, .slice F2 m2 d2] 29))
  clear h HB1
  go_wp2_with fail
  go_ret
  exact ⟨rfl, HB2.out⟩

set_option maxHeartbeats 40000000 in
theorem lnear_good (f md : Int) (w : World) (hf : Word f) (h : fC f < 3) (hg : toG 9223372036854775808 f ≠ 16) (hT : TabOk w) :
    Calls Tryd.prog 3 #[.int .u64 f, .int .u8 md] w fun x w' => x = .returned (.bool true) ∧ Below w.heap.size w w' := by
  have VA := Lib.hid fun w hT => value_any f true hf (decide_eq_true h) w hT
  have TI := Lib.hid (fun w => vto64_any f hf w)
  have bX := toX_bd (c := 9223372036854775808) (f := f) (by decide)
  have I1 := Lib.hid (fun w => int_any 1 ⟨by decide, by decide⟩ w)
  have WH := Lib.hid (fun w => vwhole_any f md hf w)
  have NW := near_w hf h md
  have VU := Lib.hid fun w hT => value_any (whF md f) true NW.word (decide_eq_true NW.fin) w hT
  have a1 := NW.near
  have a2 := NW.flag
  have a3 := Lib.hid NW.up
  have a4 := Lib.hid NW.down
  clear NW
  have IX := Lib.hid (fun w => int_any (toX 9223372036854775808 f) ⟨by omega, by omega⟩ w)
  have NT := near_t hf h hg
  have e1 := NT.near
  have e2 := NT.low
  have e3 := NT.flag
  have tg : (toG 9223372036854775808 f == 16) = false := by simp [hg]
  clear NT
  generalize toX 9223372036854775808 f = X at *
  generalize toG 9223372036854775808 f = G at *
  generalize whF md f = U at *
  generalize whG f = H at *
  have B1 := Lib.hid e1
  have B2 := Lib.hid e2
  have B3 := Lib.hid e3
  clear e1 e2 e3
  have C1 := Lib.hid a1
  have C2 := Lib.hid a2
  clear a1 a2
  go_enter Tryd.func3, Tryd.ntmps3
  go_wp2_with fail
  refine (works7 _).mono ?_
  rintro x w1 ⟨rfl, hb1⟩
  have HB1 := Lib.hid hb1
  clear hb1
  go_wp2_with fail
  refine (VA.out _ (hT.below HB1.out)).mono ?_
  rintro x w2 ⟨sv', Av, nv, cv, Fv, mv, dv, rfl, r2, h2⟩
  have al := bel_alloc (Below.refl w2.heap.size w2) (.cells #[.bool sv', .slice Av nv cv, .slice Fv mv dv] 29)
  have rV2 := ((r2 rfl).below al).v
  have KV2 := Blk.new w2 29 #[.bool sv', .slice Av nv cv, .slice Fv mv dv]
  have HB2 := Lib.hid (bel_trans (bel_trans HB1.out h2) al)
  clear h2 HB1 al r2 VA
  go_wp2_with fail
  refine (I1.out _).mono ?_
  rintro x w3 ⟨x3, y3, z3, r3, rfl, h3⟩
  obtain ⟨so, Ao, no, co, Fo, mo, do', rfl, rfl, rfl⟩ := r3.form
  have al := bel_alloc (Below.refl w3.heap.size w3) (.cells #[.bool so, .slice Ao no co, .slice Fo mo do'] 29)
  have rO3 := (r3.below al).v
  have KO3 := Blk.new w3 29 #[.bool so, .slice Ao no co, .slice Fo mo do']
  have rV3 := (rV2.below h3).below al
  have KV3 := (KV2.below h3 KV2.lt).alloc (.cells #[.bool so, .slice Ao no co, .slice Fo mo do'] 29)
  have HB3 := Lib.hid (bel_trans (bel_trans HB2.out h3) al)
  clear h3 HB2 al r3 I1 rV2 KV2
  go_wp2_with fail
  refine (TI.out _).mono ?_
  rintro x w4 ⟨rfl, h4⟩
  have rV4 := rV3.below h4
  have rO4 := rO3.below h4
  have KV4 := KV3.below h4 KV3.lt
  have KO4 := KO3.below h4 KO3.lt
  have HB4 := Lib.hid (bel_trans HB3.out h4)
  clear h4 HB3 rV3 rO3 KV3 KO3 TI
  go_wp2_with fail
  refine (IX.out _).mono ?_
  rintro x w5 ⟨x5, y5, z5, r5, rfl, h5⟩
  obtain ⟨sr, Ar, nr, cr, Fr, mr, dr, rfl, rfl, rfl⟩ := r5.form
  have al := bel_alloc (Below.refl w5.heap.size w5) (.cells #[.bool sr, .slice Ar nr cr, .slice Fr mr dr] 29)
  have rR5 := (r5.below al).v
  have KR5 := Blk.new w5 29 #[.bool sr, .slice Ar nr cr, .slice Fr mr dr]
  have rV5 := (rV4.below h5).below al
  have KV5 := (KV4.below h5 KV4.lt).alloc (.cells #[.bool sr, .slice Ar nr cr, .slice Fr mr dr] 29)
  have rO5 := (rO4.below h5).below al
  have KO5 := (KO4.below h5 KO4.lt).alloc (.cells #[.bool sr, .slice Ar nr cr, .slice Fr mr dr] 29)
  have HB5 := Lib.hid (bel_trans (bel_trans HB4.out h5) al)
  clear h5 HB4 al r5 IX rV4 KV4 rO4 KO4
  obtain ⟨W, hW⟩ : ∃ W, W = w5.alloc (.cells #[.bool sr, .slice Ar nr cr, .slice Fr mr dr] 29) := ⟨_, rfl⟩
  have V5 := Lib.hid hW
  rw [← hW] at rR5 KR5 rV5 KV5 rO5 KO5 HB5
  clear hW
  go_upto_region 11 with fail
  rw [← V5.out]
  clear V5
  generalize w5.heap.size = gr at *
  obtain ⟨gv, hgv⟩ : ∃ g, w2.heap.size = g := ⟨_, rfl⟩
  obtain ⟨go', hgo⟩ : ∃ g, w3.heap.size = g := ⟨_, rfl⟩
  rw [hgv] at KV5 ⊢
  rw [hgo] at KO5 ⊢
  have HGV := Lib.hid hgv
  have HGO := Lib.hid hgo
  clear hgv hgo
  have e1 := B1.out
  have e2 := B2.out
  have e3 := B3.out
  clear B1 B2 B3
  obtain ⟨b, hb⟩ : ∃ b, (cmpR (intR X) (fV f) != 0) = b := ⟨_, rfl⟩
  rw [hb] at e3
  have hbb : (b != b) = false := by simp
  have C1o := C1.out
  have KV := KV5
  have KO := KO5
  have KR := KR5
  obtain ⟨b00, b01, b02, -, -, -⟩ := KR.three
  obtain ⟨b10, b11, b12, -, -, -⟩ := KV.three
  obtain ⟨b20, b21, b22, -, -, -⟩ := KO.three
  have HK : Hid (∀ w', Below W.heap.size W w' → (w'.cell? ⟨gr, 0, none⟩ = some (.bool sr) ∧ w'.cell? ⟨gr, 1, none⟩ = some (.slice Ar nr cr) ∧ w'.cell? ⟨gr, 2, none⟩ = some (.slice Fr mr dr) ∧ w'.cell? ⟨gv, 0, none⟩ = some (.bool sv') ∧ w'.cell? ⟨gv, 1, none⟩ = some (.slice Av nv cv) ∧ w'.cell? ⟨gv, 2, none⟩ = some (.slice Fv mv dv) ∧ w'.cell? ⟨go', 0, none⟩ = some (.bool so) ∧ w'.cell? ⟨go', 1, none⟩ = some (.slice Ao no co) ∧ w'.cell? ⟨go', 2, none⟩ = some (.slice Fo mo do'))) := fun w' hb => kps9 hb b00 b01 b02 b10 b11 b12 b20 b21 b22
  clear b00 b01 b02 b10 b11 b12 b20 b21 b22
  refine region_plan (S := fun w' => w'.cell? ⟨gr, 0, none⟩ = some (.bool sr) ∧ w'.cell? ⟨gr, 1, none⟩ = some (.slice Ar nr cr) ∧ w'.cell? ⟨gr, 2, none⟩ = some (.slice Fr mr dr) ∧ w'.cell? ⟨gv, 0, none⟩ = some (.bool sv') ∧ w'.cell? ⟨gv, 1, none⟩ = some (.slice Av nv cv) ∧ w'.cell? ⟨gv, 2, none⟩ = some (.slice Fv mv dv) ∧ w'.cell? ⟨go', 0, none⟩ = some (.bool so) ∧ w'.cell? ⟨go', 1, none⟩ = some (.slice Ao no co) ∧ w'.cell? ⟨go', 2, none⟩ = some (.slice Fo mo do')) _ [(0, true), (1, true), (4, true), (2, false), (3, false), (5, false), (6, true), (7, true), (8, true), (10, true), (9, false), (11, false), (12, false), (13, true), (14, true), (15, true), (16, true), (17, true), (18, true), (19, true), (20, false), (21, true), (22, true), (23, true)] (by kernel_rfl) (by kernel_rfl) rfl (by kernel_rfl) (by kernel_rfl) (fun _ _ d _ _ h => by cases d <;> exact h) (HK.out _ (bel_drew (Below.refl _ _))) ?_
  refine Walk.take (v := ?_) rfl (by rfl) ?_ ?_
  rotate_left
  · (intro w' hSw; (try dsimp only at hSw); go_simp <;> with_reducible rfl)
  try simp only [Act.put, List.setIfInBounds_toArray, List.set_cons_zero, List.set_cons_succ]
  refine Walk.take (v := ?_) rfl (by rfl) ?_ ?_
  rotate_left
  · (intro w' hSw; (try dsimp only at hSw); go_simp <;> with_reducible rfl)
  try simp only [Act.put, List.setIfInBounds_toArray, List.set_cons_zero, List.set_cons_succ]
  refine Walk.take (v := ?_) rfl (by rfl) ?_ ?_
  rotate_left
  · (intro w' hSw; (try dsimp only at hSw); go_simp <;> with_reducible rfl)
  try simp only [Act.put, List.setIfInBounds_toArray, List.set_cons_zero, List.set_cons_succ]
  refine Walk.act rfl (by rfl) (fun K hK => ?_)
  go_simp
  go_at_call 8
  refine (qsub_any (w := W.drew) (rR5.below (bel_drew (Below.refl W.heap.size W))) (rV5.below (bel_drew (Below.refl W.heap.size W))) (by decide) (by decide) (by decide) (by decide) (hT.below (bel_trans HB5.out (bel_drew (Below.refl W.heap.size W))))).mono ?_
  rintro e y1 ⟨x1', y1', z1', r1, rfl, hh1⟩
  obtain ⟨s1', A1', n1', c1', B1', m1', d1', rfl, rfl, rfl⟩ := r1.form
  have X1 : Below W.heap.size W y1 := bel_trans (bel_drew (Below.refl W.heap.size W)) hh1
  refine hK.out _ _ (HK.out _ X1) ?_
  clear hK K
  try simp only [Act.put, List.setIfInBounds_toArray, List.set_cons_zero, List.set_cons_succ]
  refine Walk.act rfl (by rfl) (fun K hK => ?_)
  go_simp
  go_at_call 9
  refine (abs_any (w := y1) r1.v (by decide) (by decide) (hT.below (bel_trans HB5.out X1))).mono ?_
  rintro e y2 ⟨x2', y2', z2', r2, rfl, hh2⟩
  obtain ⟨s2', A2', n2', c2', B2', m2', d2', rfl, rfl, rfl⟩ := r2.form
  have X2 : Below W.heap.size W y2 := bel_trans X1 hh2
  refine hK.out _ _ (HK.out _ X2) ?_
  clear hK K
  try simp only [Act.put, List.setIfInBounds_toArray, List.set_cons_zero, List.set_cons_succ]
  refine Walk.act rfl (by rfl) (fun K hK => ?_)
  go_simp
  go_at_call 10
  refine (qcmp_any (w := y2) r2.v (rO5.below X2) (by decide) (by decide)).mono ?_
  rintro e y3 ⟨rfl, hh3⟩
  have X3 : Below W.heap.size W y3 := bel_trans X2 hh3
  refine hK.out _ _ (HK.out _ X3) ?_
  clear hK K
  try simp only [Act.put, List.setIfInBounds_toArray, List.set_cons_zero, List.set_cons_succ]
  refine Walk.take (v := ?_) rfl (by rfl) ?_ ?_
  rotate_left
  · (intro w' hSw; (try dsimp only at hSw); go_simp <;> with_reducible rfl)
  try simp only [Act.put, List.setIfInBounds_toArray, List.set_cons_zero, List.set_cons_succ]
  refine Walk.take (v := ?_) rfl (by rfl) ?_ ?_
  rotate_left
  · (intro w' hSw; (try dsimp only at hSw); go_simp <;> with_reducible rfl)
  try simp only [Act.put, List.setIfInBounds_toArray, List.set_cons_zero, List.set_cons_succ]
  refine Walk.take (v := ?_) rfl (by rfl) ?_ ?_
  rotate_left
  · (intro w' hSw; (try dsimp only at hSw); go_simp <;> with_reducible rfl)
  try simp only [Act.put, List.setIfInBounds_toArray, List.set_cons_zero, List.set_cons_succ]
  refine Walk.take (v := ?_) rfl (by rfl) ?_ ?_
  rotate_left
  · (intro w' hSw; (try dsimp only at hSw); go_simp <;> with_reducible rfl)
  try simp only [Act.put, List.setIfInBounds_toArray, List.set_cons_zero, List.set_cons_succ]
  refine Walk.act rfl (by rfl) (fun K hK => ?_)
  go_simp
  go_at_call 9
  refine (abs_any (w := y3) (rR5.below X3) (by decide) (by decide) (hT.below (bel_trans HB5.out X3))).mono ?_
  rintro e y4 ⟨x4', y4', z4', r4, rfl, hh4⟩
  obtain ⟨s4', A4', n4', c4', B4', m4', d4', rfl, rfl, rfl⟩ := r4.form
  have X4 : Below W.heap.size W y4 := bel_trans X3 hh4
  refine hK.out _ _ (HK.out _ X4) ?_
  clear hK K
  try simp only [Act.put, List.setIfInBounds_toArray, List.set_cons_zero, List.set_cons_succ]
  refine Walk.act rfl (by rfl) (fun K hK => ?_)
  go_simp
  go_at_call 9
  refine (abs_any (w := y4) (rV5.below X4) (by decide) (by decide) (hT.below (bel_trans HB5.out X4))).mono ?_
  rintro e y5 ⟨x5', y5', z5', r5, rfl, hh5⟩
  obtain ⟨s5', A5', n5', c5', B5', m5', d5', rfl, rfl, rfl⟩ := r5.form
  have X5 : Below W.heap.size W y5 := bel_trans X4 hh5
  refine hK.out _ _ (HK.out _ X5) ?_
  clear hK K
  try simp only [Act.put, List.setIfInBounds_toArray, List.set_cons_zero, List.set_cons_succ]
  refine Walk.act rfl (by rfl) (fun K hK => ?_)
  go_simp
  go_at_call 10
  refine (qcmp_any (w := y5) (r4.v.below hh5) r5.v (by decide) (by decide)).mono ?_
  rintro e y6 ⟨rfl, hh6⟩
  have X6 : Below W.heap.size W y6 := bel_trans X5 hh6
  refine hK.out _ _ (HK.out _ X6) ?_
  clear hK K
  try simp only [Act.put, List.setIfInBounds_toArray, List.set_cons_zero, List.set_cons_succ]
  refine Walk.take (v := ?_) rfl (by rfl) ?_ ?_
  rotate_left
  · (intro w' hSw; (try dsimp only at hSw); go_simp <;> with_reducible rfl)
  try simp only [Act.put, List.setIfInBounds_toArray, List.set_cons_zero, List.set_cons_succ]
  refine Walk.take (v := ?_) rfl (by rfl) ?_ ?_
  rotate_left
  · (intro w' hSw; (try dsimp only at hSw); go_simp <;> with_reducible rfl)
  try simp only [Act.put, List.setIfInBounds_toArray, List.set_cons_zero, List.set_cons_succ]
  refine Walk.take (v := ?_) rfl (by rfl) ?_ ?_
  rotate_left
  · (intro w' hSw; (try dsimp only at hSw); go_simp <;> with_reducible rfl)
  try simp only [Act.put, List.setIfInBounds_toArray, List.set_cons_zero, List.set_cons_succ]
  refine Walk.take (v := ?_) rfl (by rfl) ?_ ?_
  rotate_left
  · (intro w' hSw; (try dsimp only at hSw); go_simp <;> with_reducible rfl)
  try simp only [Act.put, List.setIfInBounds_toArray, List.set_cons_zero, List.set_cons_succ]
  refine Walk.take (v := ?_) rfl (by rfl) ?_ ?_
  rotate_left
  · (intro w' hSw; (try dsimp only at hSw); go_simp <;> with_reducible rfl)
  try simp only [Act.put, List.setIfInBounds_toArray, List.set_cons_zero, List.set_cons_succ]
  refine Walk.take (v := ?_) rfl (by rfl) ?_ ?_
  rotate_left
  · (intro w' hSw; (try dsimp only at hSw); go_simp <;> with_reducible rfl)
  try simp only [Act.put, List.setIfInBounds_toArray, List.set_cons_zero, List.set_cons_succ]
  refine Walk.take (v := ?_) rfl (by rfl) ?_ ?_
  rotate_left
  · (intro w' hSw; (try dsimp only at hSw); go_simp <;> with_reducible rfl)
  try simp only [Act.put, List.setIfInBounds_toArray, List.set_cons_zero, List.set_cons_succ]
  refine Walk.act rfl (by rfl) (fun K hK => ?_)
  go_simp
  go_at_call 10
  refine (qcmp_any (w := y6) (rR5.below X6) (rV5.below X6) (by decide) (by decide)).mono ?_
  rintro e y7 ⟨rfl, hh7⟩
  have X7 : Below W.heap.size W y7 := bel_trans X6 hh7
  refine hK.out _ _ (HK.out _ X7) ?_
  clear hK K
  try simp only [Act.put, List.setIfInBounds_toArray, List.set_cons_zero, List.set_cons_succ]
  refine Walk.take (v := ?_) rfl (by rfl) ?_ ?_
  rotate_left
  · (intro w' hSw; (try dsimp only at hSw); go_simp <;> with_reducible rfl)
  try simp only [Act.put, List.setIfInBounds_toArray, List.set_cons_zero, List.set_cons_succ]
  refine Walk.take (v := ?_) rfl (by rfl) ?_ ?_
  rotate_left
  · (intro w' hSw; (try dsimp only at hSw); go_simp <;> with_reducible rfl)
  try simp only [Act.put, List.setIfInBounds_toArray, List.set_cons_zero, List.set_cons_succ]
  refine Walk.take (v := ?_) rfl (by rfl) ?_ ?_
  rotate_left
  · (intro w' hSw; (try dsimp only at hSw); go_simp <;> with_reducible rfl)
  try simp only [Act.put, List.setIfInBounds_toArray, List.set_cons_zero, List.set_cons_succ]
  refine Walk.done ?_
  clear HK
  have HB6 := Lib.hid (bel_trans HB5.out X7)
  have rV6 := rV5.below X7
  have rO6 := rO5.below X7
  have KV6 := KV5.below X7 KV5.lt
  have KO6 := KO5.below X7 KO5.lt
  rw [← HGV.out] at KV6
  rw [← HGO.out] at KO6
  clear X7 HB5 rV5 rO5 KV5 KO5 rR5 KR5 KV KO KR e1 e2 C1o
  go_wp2_with fail
  refine (WH.out _).mono ?_
  rintro x w7 ⟨rfl, h7⟩
  have rV7 := rV6.below h7
  have rO7 := rO6.below h7
  have KV7 := KV6.below h7 KV6.lt
  have KO7 := KO6.below h7 KO6.lt
  have HB7 := Lib.hid (bel_trans HB6.out h7)
  clear h7 HB6 rV6 rO6 KV6 KO6 WH
  go_wp2_with fail
  refine (VU.out _ (hT.below HB7.out)).mono ?_
  rintro x w8 ⟨su, Au, nu, cu, Fu, mu, du, rfl, r8, h8⟩
  have al := bel_alloc (Below.refl w8.heap.size w8) (.cells #[.bool su, .slice Au nu cu, .slice Fu mu du] 29)
  have rU8 := ((r8 rfl).below al).v
  have KU8 := Blk.new w8 29 #[.bool su, .slice Au nu cu, .slice Fu mu du]
  have rV8 := (rV7.below h8).below al
  have KV8 := (KV7.below h8 KV7.lt).alloc (.cells #[.bool su, .slice Au nu cu, .slice Fu mu du] 29)
  have rO8 := (rO7.below h8).below al
  have KO8 := (KO7.below h8 KO7.lt).alloc (.cells #[.bool su, .slice Au nu cu, .slice Fu mu du] 29)
  have HB8 := Lib.hid (bel_trans (bel_trans HB7.out h8) al)
  clear h8 HB7 al r8 VU rV7 KV7 rO7 KO7
  obtain ⟨W', hW⟩ : ∃ W, W = w8.alloc (.cells #[.bool su, .slice Au nu cu, .slice Fu mu du] 29) := ⟨_, rfl⟩
  have V8 := Lib.hid hW
  rw [← hW] at rU8 KU8 rV8 KV8 rO8 KO8 HB8
  clear hW
  go_upto_region 15 with fail
  rw [← V8.out]
  clear V8
  generalize w8.heap.size = gu at *
  try rw [HGV.out] at KV8
  try rw [HGO.out] at KO8
  try rw [HGV.out]
  try rw [HGO.out]
  have e1 := C1.out
  have e3 := C2.out
  clear C1 C2
  obtain ⟨b', hb'⟩ : ∃ b, (cmpR (fV U) (fV f) != 0) = b := ⟨_, rfl⟩
  rw [hb'] at e3
  have hbb' : (b' != b') = false := by simp
  have KV := KV8
  have KO := KO8
  have KU := KU8
  skip
  obtain ⟨b00, b01, b02, -, -, -⟩ := KU.three
  obtain ⟨b10, b11, b12, -, -, -⟩ := KV.three
  obtain ⟨b20, b21, b22, -, -, -⟩ := KO.three
  have HK : Hid (∀ w', Below W'.heap.size W' w' → (w'.cell? ⟨gu, 0, none⟩ = some (.bool su) ∧ w'.cell? ⟨gu, 1, none⟩ = some (.slice Au nu cu) ∧ w'.cell? ⟨gu, 2, none⟩ = some (.slice Fu mu du) ∧ w'.cell? ⟨gv, 0, none⟩ = some (.bool sv') ∧ w'.cell? ⟨gv, 1, none⟩ = some (.slice Av nv cv) ∧ w'.cell? ⟨gv, 2, none⟩ = some (.slice Fv mv dv) ∧ w'.cell? ⟨go', 0, none⟩ = some (.bool so) ∧ w'.cell? ⟨go', 1, none⟩ = some (.slice Ao no co) ∧ w'.cell? ⟨go', 2, none⟩ = some (.slice Fo mo do'))) := fun w' hb => kps9 hb b00 b01 b02 b10 b11 b12 b20 b21 b22
  clear b00 b01 b02 b10 b11 b12 b20 b21 b22
  refine region_plan (S := fun w' => w'.cell? ⟨gu, 0, none⟩ = some (.bool su) ∧ w'.cell? ⟨gu, 1, none⟩ = some (.slice Au nu cu) ∧ w'.cell? ⟨gu, 2, none⟩ = some (.slice Fu mu du) ∧ w'.cell? ⟨gv, 0, none⟩ = some (.bool sv') ∧ w'.cell? ⟨gv, 1, none⟩ = some (.slice Av nv cv) ∧ w'.cell? ⟨gv, 2, none⟩ = some (.slice Fv mv dv) ∧ w'.cell? ⟨go', 0, none⟩ = some (.bool so) ∧ w'.cell? ⟨go', 1, none⟩ = some (.slice Ao no co) ∧ w'.cell? ⟨go', 2, none⟩ = some (.slice Fo mo do')) _ [(0, true), (1, true), (2, true), (3, true), (4, true), (7, true), (5, false), (6, false), (8, false), (9, true), (10, true), (11, true), (12, true), (13, true), (14, true), (15, true), (16, false), (17, true), (18, true), (19, true)] (by kernel_rfl) (by kernel_rfl) rfl (by kernel_rfl) (by kernel_rfl) (fun _ _ d _ _ h => by cases d <;> exact h) (HK.out _ (bel_drew (Below.refl _ _))) ?_
  refine Walk.take (v := ?_) rfl (by rfl) ?_ ?_
  rotate_left
  · (intro w' hSw; (try dsimp only at hSw); go_simp <;> with_reducible rfl)
  try simp only [Act.put, List.setIfInBounds_toArray, List.set_cons_zero, List.set_cons_succ]
  refine Walk.take (v := ?_) rfl (by rfl) ?_ ?_
  rotate_left
  · (intro w' hSw; (try dsimp only at hSw); go_simp <;> with_reducible rfl)
  try simp only [Act.put, List.setIfInBounds_toArray, List.set_cons_zero, List.set_cons_succ]
  refine Walk.take (v := ?_) rfl (by rfl) ?_ ?_
  rotate_left
  · (intro w' hSw; (try dsimp only at hSw); go_simp <;> with_reducible rfl)
  try simp only [Act.put, List.setIfInBounds_toArray, List.set_cons_zero, List.set_cons_succ]
  refine Walk.take (v := ?_) rfl (by rfl) ?_ ?_
  rotate_left
  · (intro w' hSw; (try dsimp only at hSw); go_simp <;> with_reducible rfl)
  try simp only [Act.put, List.setIfInBounds_toArray, List.set_cons_zero, List.set_cons_succ]
  refine Walk.take (v := ?_) rfl (by rfl) ?_ ?_
  rotate_left
  · (intro w' hSw; (try dsimp only at hSw); go_simp <;> with_reducible rfl)
  try simp only [Act.put, List.setIfInBounds_toArray, List.set_cons_zero, List.set_cons_succ]
  refine Walk.take (v := ?_) rfl (by rfl) ?_ ?_
  rotate_left
  · (intro w' hSw; (try dsimp only at hSw); go_simp <;> with_reducible rfl)
  try simp only [Act.put, List.setIfInBounds_toArray, List.set_cons_zero, List.set_cons_succ]
  refine Walk.act rfl (by rfl) (fun K hK => ?_)
  go_simp
  go_at_call 8
  refine (qsub_any (w := W'.drew) (rU8.below (bel_drew (Below.refl W'.heap.size W'))) (rV8.below (bel_drew (Below.refl W'.heap.size W'))) (by decide) (by decide) (by decide) (by decide) (hT.below (bel_trans HB8.out (bel_drew (Below.refl W'.heap.size W'))))).mono ?_
  rintro e y11 ⟨x11', y11', z11', r11, rfl, hh11⟩
  obtain ⟨s11', A11', n11', c11', B11', m11', d11', rfl, rfl, rfl⟩ := r11.form
  have X11 : Below W'.heap.size W' y11 := bel_trans (bel_drew (Below.refl W'.heap.size W')) hh11
  refine hK.out _ _ (HK.out _ X11) ?_
  clear hK K
  try simp only [Act.put, List.setIfInBounds_toArray, List.set_cons_zero, List.set_cons_succ]
  refine Walk.act rfl (by rfl) (fun K hK => ?_)
  go_simp
  go_at_call 9
  refine (abs_any (w := y11) r11.v (by decide) (by decide) (hT.below (bel_trans HB8.out X11))).mono ?_
  rintro e y12 ⟨x12', y12', z12', r12, rfl, hh12⟩
  obtain ⟨s12', A12', n12', c12', B12', m12', d12', rfl, rfl, rfl⟩ := r12.form
  have X12 : Below W'.heap.size W' y12 := bel_trans X11 hh12
  refine hK.out _ _ (HK.out _ X12) ?_
  clear hK K
  try simp only [Act.put, List.setIfInBounds_toArray, List.set_cons_zero, List.set_cons_succ]
  refine Walk.act rfl (by rfl) (fun K hK => ?_)
  go_simp
  go_at_call 10
  refine (qcmp_any (w := y12) r12.v (rO8.below X12) (by decide) (by decide)).mono ?_
  rintro e y13 ⟨rfl, hh13⟩
  have X13 : Below W'.heap.size W' y13 := bel_trans X12 hh13
  refine hK.out _ _ (HK.out _ X13) ?_
  clear hK K
  try simp only [Act.put, List.setIfInBounds_toArray, List.set_cons_zero, List.set_cons_succ]
  refine Walk.take (v := ?_) rfl (by rfl) ?_ ?_
  rotate_left
  · (intro w' hSw; (try dsimp only at hSw); go_simp <;> with_reducible rfl)
  try simp only [Act.put, List.setIfInBounds_toArray, List.set_cons_zero, List.set_cons_succ]
  refine Walk.take (v := ?_) rfl (by rfl) ?_ ?_
  rotate_left
  · (intro w' hSw; (try dsimp only at hSw); go_simp <;> with_reducible rfl)
  try simp only [Act.put, List.setIfInBounds_toArray, List.set_cons_zero, List.set_cons_succ]
  refine Walk.take (v := ?_) rfl (by rfl) ?_ ?_
  rotate_left
  · (intro w' hSw; (try dsimp only at hSw); go_simp <;> with_reducible rfl)
  try simp only [Act.put, List.setIfInBounds_toArray, List.set_cons_zero, List.set_cons_succ]
  refine Walk.take (v := ?_) rfl (by rfl) ?_ ?_
  rotate_left
  · (intro w' hSw; (try dsimp only at hSw); go_simp <;> with_reducible rfl)
  try simp only [Act.put, List.setIfInBounds_toArray, List.set_cons_zero, List.set_cons_succ]
  refine Walk.take (v := ?_) rfl (by rfl) ?_ ?_
  rotate_left
  · (intro w' hSw; (try dsimp only at hSw); go_simp <;> with_reducible rfl)
  try simp only [Act.put, List.setIfInBounds_toArray, List.set_cons_zero, List.set_cons_succ]
  refine Walk.take (v := ?_) rfl (by rfl) ?_ ?_
  rotate_left
  · (intro w' hSw; (try dsimp only at hSw); go_simp <;> with_reducible rfl)
  try simp only [Act.put, List.setIfInBounds_toArray, List.set_cons_zero, List.set_cons_succ]
  refine Walk.take (v := ?_) rfl (by rfl) ?_ ?_
  rotate_left
  · (intro w' hSw; (try dsimp only at hSw); go_simp <;> with_reducible rfl)
  try simp only [Act.put, List.setIfInBounds_toArray, List.set_cons_zero, List.set_cons_succ]
  refine Walk.act rfl (by rfl) (fun K hK => ?_)
  go_simp
  go_at_call 10
  refine (qcmp_any (w := y13) (rU8.below X13) (rV8.below X13) (by decide) (by decide)).mono ?_
  rintro e y14 ⟨rfl, hh14⟩
  have X14 : Below W'.heap.size W' y14 := bel_trans X13 hh14
  refine hK.out _ _ (HK.out _ X14) ?_
  clear hK K
  try simp only [Act.put, List.setIfInBounds_toArray, List.set_cons_zero, List.set_cons_succ]
  refine Walk.take (v := ?_) rfl (by rfl) ?_ ?_
  rotate_left
  · (intro w' hSw; (try dsimp only at hSw); go_simp <;> with_reducible rfl)
  try simp only [Act.put, List.setIfInBounds_toArray, List.set_cons_zero, List.set_cons_succ]
  refine Walk.take (v := ?_) rfl (by rfl) ?_ ?_
  rotate_left
  · (intro w' hSw; (try dsimp only at hSw); go_simp <;> with_reducible rfl)
  try simp only [Act.put, List.setIfInBounds_toArray, List.set_cons_zero, List.set_cons_succ]
  refine Walk.take (v := ?_) rfl (by rfl) ?_ ?_
  rotate_left
  · (intro w' hSw; (try dsimp only at hSw); go_simp <;> with_reducible rfl)
  try simp only [Act.put, List.setIfInBounds_toArray, List.set_cons_zero, List.set_cons_succ]
  refine Walk.done ?_
  clear HK
  have HB9 := Lib.hid (bel_trans HB8.out X14)
  have rV9 := rV8.below X14
  have rU9 := rU8.below X14
  have KV9 := KV8.below X14 KV8.lt
  have KU9 := KU8.below X14 KU8.lt
  obtain ⟨c0, c1, c2, -, -, -⟩ := KV9.three
  obtain ⟨f0, f1, f2, -, -, -⟩ := KU9.three
  clear X14 HB8 rV8 rO8 KV8 KO8 rU8 KU8 KV KO KU e1
  go_wp2_with fail
  refine (qcmp_any rU9 rV9 (by decide) (by decide)).mono ?_
  rintro x w10 ⟨rfl, h10⟩
  have HB10 := Lib.hid (bel_trans HB9.out h10)
  clear h10 HB9 rV9 rU9 KV9 KU9 c0 c1 c2 f0 f1 f2
  generalize cmpR (fV U) (fV f) = q at *
  by_cases m1 : md = 1
  · have t := a3.out m1
    subst m1
    clear a3 a4
    go_wp2_with fail
    go_ret
    exact ⟨rfl, HB10.out⟩
  · by_cases m2 : md = 2
    · have t := a4.out m2
      subst m2
      clear a3 a4
      go_wp2_with fail
      go_ret
      exact ⟨rfl, HB10.out⟩
    · have f1 : (md == 1) = false := by simp [m1]
      have f2 : (md == 2) = false := by simp [m2]
      clear a3 a4
      go_wp2_with fail
      go_ret
      exact ⟨rfl, HB10.out⟩

set_option maxHeartbeats 40000000 in
theorem lnear_far (f md : Int) (w : World) (hf : Word f) (h : fC f < 3) (hg : toG 9223372036854775808 f = 16) (hT : TabOk w) :
    Calls Tryd.prog 3 #[.int .u64 f, .int .u8 md] w fun x w' => x = .returned (.bool true) ∧ Below w.heap.size w w' := by
  have VA := Lib.hid fun w hT => value_any f true hf (decide_eq_true h) w hT
  have TI := Lib.hid (fun w => vto64_any f hf w)
  have bX := toX_bd (c := 9223372036854775808) (f := f) (by decide)
  have I1 := Lib.hid (fun w => int_any 1 ⟨by decide, by decide⟩ w)
  have WH := Lib.hid (fun w => vwhole_any f md hf w)
  have NW := near_w hf h md
  have VU := Lib.hid fun w hT => value_any (whF md f) true NW.word (decide_eq_true NW.fin) w hT
  have a1 := NW.near
  have a2 := NW.flag
  have a3 := Lib.hid NW.up
  have a4 := Lib.hid NW.down
  clear NW
  rw [hg] at TI
  generalize toX 9223372036854775808 f = X at *
  generalize toG 9223372036854775808 f = G at *
  generalize whF md f = U at *
  generalize whG f = H at *
  have C1 := Lib.hid a1
  have C2 := Lib.hid a2
  clear a1 a2
  go_enter Tryd.func3, Tryd.ntmps3
  go_wp2_with fail
  refine (works7 _).mono ?_
  rintro x w1 ⟨rfl, hb1⟩
  have HB1 := Lib.hid hb1
  clear hb1
  go_wp2_with fail
  refine (VA.out _ (hT.below HB1.out)).mono ?_
  rintro x w2 ⟨sv', Av, nv, cv, Fv, mv, dv, rfl, r2, h2⟩
  have al := bel_alloc (Below.refl w2.heap.size w2) (.cells #[.bool sv', .slice Av nv cv, .slice Fv mv dv] 29)
  have rV2 := ((r2 rfl).below al).v
  have KV2 := Blk.new w2 29 #[.bool sv', .slice Av nv cv, .slice Fv mv dv]
  have HB2 := Lib.hid (bel_trans (bel_trans HB1.out h2) al)
  clear h2 HB1 al r2 VA
  go_wp2_with fail
  refine (I1.out _).mono ?_
  rintro x w3 ⟨x3, y3, z3, r3, rfl, h3⟩
  obtain ⟨so, Ao, no, co, Fo, mo, do', rfl, rfl, rfl⟩ := r3.form
  have al := bel_alloc (Below.refl w3.heap.size w3) (.cells #[.bool so, .slice Ao no co, .slice Fo mo do'] 29)
  have rO3 := (r3.below al).v
  have KO3 := Blk.new w3 29 #[.bool so, .slice Ao no co, .slice Fo mo do']
  have rV3 := (rV2.below h3).below al
  have KV3 := (KV2.below h3 KV2.lt).alloc (.cells #[.bool so, .slice Ao no co, .slice Fo mo do'] 29)
  have HB3 := Lib.hid (bel_trans (bel_trans HB2.out h3) al)
  clear h3 HB2 al r3 I1 rV2 KV2
  go_wp2_with fail
  refine (TI.out _).mono ?_
  rintro x w4 ⟨rfl, h4⟩
  have rV4 := rV3.below h4
  have rO4 := rO3.below h4
  have KV4 := KV3.below h4 KV3.lt
  have KO4 := KO3.below h4 KO3.lt
  have HB4 := Lib.hid (bel_trans HB3.out h4)
  clear h4 HB3 rV3 rO3 KV3 KO3 TI
  go_wp2_with fail
  refine (WH.out _).mono ?_
  rintro x w7 ⟨rfl, h7⟩
  have rV7 := rV4.below h7
  have rO7 := rO4.below h7
  have KV7 := KV4.below h7 KV4.lt
  have KO7 := KO4.below h7 KO4.lt
  have HB7 := Lib.hid (bel_trans HB4.out h7)
  clear h7 HB4 rV4 rO4 KV4 KO4 WH
  go_wp2_with fail
  refine (VU.out _ (hT.below HB7.out)).mono ?_
  rintro x w8 ⟨su, Au, nu, cu, Fu, mu, du, rfl, r8, h8⟩
  have al := bel_alloc (Below.refl w8.heap.size w8) (.cells #[.bool su, .slice Au nu cu, .slice Fu mu du] 29)
  have rU8 := ((r8 rfl).below al).v
  have KU8 := Blk.new w8 29 #[.bool su, .slice Au nu cu, .slice Fu mu du]
  have rV8 := (rV7.below h8).below al
  have KV8 := (KV7.below h8 KV7.lt).alloc (.cells #[.bool su, .slice Au nu cu, .slice Fu mu du] 29)
  have rO8 := (rO7.below h8).below al
  have KO8 := (KO7.below h8 KO7.lt).alloc (.cells #[.bool su, .slice Au nu cu, .slice Fu mu du] 29)
  have HB8 := Lib.hid (bel_trans (bel_trans HB7.out h8) al)
  clear h8 HB7 al r8 VU rV7 KV7 rO7 KO7
  obtain ⟨W', hW⟩ : ∃ W, W = w8.alloc (.cells #[.bool su, .slice Au nu cu, .slice Fu mu du] 29) := ⟨_, rfl⟩
  have V8 := Lib.hid hW
  rw [← hW] at rU8 KU8 rV8 KV8 rO8 KO8 HB8
  clear hW
  go_upto_region 15 with fail
  rw [← V8.out]
  clear V8
  generalize w8.heap.size = gu at *
  obtain ⟨gv, hgv⟩ : ∃ g, w2.heap.size = g := ⟨_, rfl⟩
  obtain ⟨go', hgo⟩ : ∃ g, w3.heap.size = g := ⟨_, rfl⟩
  rw [hgv] at KV8 ⊢
  rw [hgo] at KO8 ⊢
  have e1 := C1.out
  have e3 := C2.out
  clear C1 C2
  obtain ⟨b', hb'⟩ : ∃ b, (cmpR (fV U) (fV f) != 0) = b := ⟨_, rfl⟩
  rw [hb'] at e3
  have hbb' : (b' != b') = false := by simp
  have KV := KV8
  have KO := KO8
  have KU := KU8
  obtain ⟨b00, b01, b02, -, -, -⟩ := KU.three
  obtain ⟨b10, b11, b12, -, -, -⟩ := KV.three
  obtain ⟨b20, b21, b22, -, -, -⟩ := KO.three
  have HK : Hid (∀ w', Below W'.heap.size W' w' → (w'.cell? ⟨gu, 0, none⟩ = some (.bool su) ∧ w'.cell? ⟨gu, 1, none⟩ = some (.slice Au nu cu) ∧ w'.cell? ⟨gu, 2, none⟩ = some (.slice Fu mu du) ∧ w'.cell? ⟨gv, 0, none⟩ = some (.bool sv') ∧ w'.cell? ⟨gv, 1, none⟩ = some (.slice Av nv cv) ∧ w'.cell? ⟨gv, 2, none⟩ = some (.slice Fv mv dv) ∧ w'.cell? ⟨go', 0, none⟩ = some (.bool so) ∧ w'.cell? ⟨go', 1, none⟩ = some (.slice Ao no co) ∧ w'.cell? ⟨go', 2, none⟩ = some (.slice Fo mo do'))) := fun w' hb => kps9 hb b00 b01 b02 b10 b11 b12 b20 b21 b22
  clear b00 b01 b02 b10 b11 b12 b20 b21 b22
  refine region_plan (S := fun w' => w'.cell? ⟨gu, 0, none⟩ = some (.bool su) ∧ w'.cell? ⟨gu, 1, none⟩ = some (.slice Au nu cu) ∧ w'.cell? ⟨gu, 2, none⟩ = some (.slice Fu mu du) ∧ w'.cell? ⟨gv, 0, none⟩ = some (.bool sv') ∧ w'.cell? ⟨gv, 1, none⟩ = some (.slice Av nv cv) ∧ w'.cell? ⟨gv, 2, none⟩ = some (.slice Fv mv dv) ∧ w'.cell? ⟨go', 0, none⟩ = some (.bool so) ∧ w'.cell? ⟨go', 1, none⟩ = some (.slice Ao no co) ∧ w'.cell? ⟨go', 2, none⟩ = some (.slice Fo mo do')) _ [(0, true), (1, true), (2, true), (3, true), (4, true), (7, true), (5, false), (6, false), (8, false), (9, true), (10, true), (11, true), (12, true), (13, true), (14, true), (15, true), (16, false), (17, true), (18, true), (19, true)] (by kernel_rfl) (by kernel_rfl) rfl (by kernel_rfl) (by kernel_rfl) (fun _ _ d _ _ h => by cases d <;> exact h) (HK.out _ (bel_drew (Below.refl _ _))) ?_
  refine Walk.take (v := ?_) rfl (by rfl) ?_ ?_
  rotate_left
  · (intro w' hSw; (try dsimp only at hSw); go_simp <;> with_reducible rfl)
  try simp only [Act.put, List.setIfInBounds_toArray, List.set_cons_zero, List.set_cons_succ]
  refine Walk.take (v := ?_) rfl (by rfl) ?_ ?_
  rotate_left
  · (intro w' hSw; (try dsimp only at hSw); go_simp <;> with_reducible rfl)
  try simp only [Act.put, List.setIfInBounds_toArray, List.set_cons_zero, List.set_cons_succ]
  refine Walk.take (v := ?_) rfl (by rfl) ?_ ?_
  rotate_left
  · (intro w' hSw; (try dsimp only at hSw); go_simp <;> with_reducible rfl)
  try simp only [Act.put, List.setIfInBounds_toArray, List.set_cons_zero, List.set_cons_succ]
  refine Walk.take (v := ?_) rfl (by rfl) ?_ ?_
  rotate_left
  · (intro w' hSw; (try dsimp only at hSw); go_simp <;> with_reducible rfl)
  try simp only [Act.put, List.setIfInBounds_toArray, List.set_cons_zero, List.set_cons_succ]
  refine Walk.take (v := ?_) rfl (by rfl) ?_ ?_
  rotate_left
  · (intro w' hSw; (try dsimp only at hSw); go_simp <;> with_reducible rfl)
  try simp only [Act.put, List.setIfInBounds_toArray, List.set_cons_zero, List.set_cons_succ]
  refine Walk.take (v := ?_) rfl (by rfl) ?_ ?_
  rotate_left
  · (intro w' hSw; (try dsimp only at hSw); go_simp <;> with_reducible rfl)
  try simp only [Act.put, List.setIfInBounds_toArray, List.set_cons_zero, List.set_cons_succ]
  refine Walk.act rfl (by rfl) (fun K hK => ?_)
  go_simp
  go_at_call 8
  refine (qsub_any (w := W'.drew) (rU8.below (bel_drew (Below.refl W'.heap.size W'))) (rV8.below (bel_drew (Below.refl W'.heap.size W'))) (by decide) (by decide) (by decide) (by decide) (hT.below (bel_trans HB8.out (bel_drew (Below.refl W'.heap.size W'))))).mono ?_
  rintro e y11 ⟨x11', y11', z11', r11, rfl, hh11⟩
  obtain ⟨s11', A11', n11', c11', B11', m11', d11', rfl, rfl, rfl⟩ := r11.form
  have X11 : Below W'.heap.size W' y11 := bel_trans (bel_drew (Below.refl W'.heap.size W')) hh11
  refine hK.out _ _ (HK.out _ X11) ?_
  clear hK K
  try simp only [Act.put, List.setIfInBounds_toArray, List.set_cons_zero, List.set_cons_succ]
  refine Walk.act rfl (by rfl) (fun K hK => ?_)
  go_simp
  go_at_call 9
  refine (abs_any (w := y11) r11.v (by decide) (by decide) (hT.below (bel_trans HB8.out X11))).mono ?_
  rintro e y12 ⟨x12', y12', z12', r12, rfl, hh12⟩
  obtain ⟨s12', A12', n12', c12', B12', m12', d12', rfl, rfl, rfl⟩ := r12.form
  have X12 : Below W'.heap.size W' y12 := bel_trans X11 hh12
  refine hK.out _ _ (HK.out _ X12) ?_
  clear hK K
  try simp only [Act.put, List.setIfInBounds_toArray, List.set_cons_zero, List.set_cons_succ]
  refine Walk.act rfl (by rfl) (fun K hK => ?_)
  go_simp
  go_at_call 10
  refine (qcmp_any (w := y12) r12.v (rO8.below X12) (by decide) (by decide)).mono ?_
  rintro e y13 ⟨rfl, hh13⟩
  have X13 : Below W'.heap.size W' y13 := bel_trans X12 hh13
  refine hK.out _ _ (HK.out _ X13) ?_
  clear hK K
  try simp only [Act.put, List.setIfInBounds_toArray, List.set_cons_zero, List.set_cons_succ]
  refine Walk.take (v := ?_) rfl (by rfl) ?_ ?_
  rotate_left
  · (intro w' hSw; (try dsimp only at hSw); go_simp <;> with_reducible rfl)
  try simp only [Act.put, List.setIfInBounds_toArray, List.set_cons_zero, List.set_cons_succ]
  refine Walk.take (v := ?_) rfl (by rfl) ?_ ?_
  rotate_left
  · (intro w' hSw; (try dsimp only at hSw); go_simp <;> with_reducible rfl)
  try simp only [Act.put, List.setIfInBounds_toArray, List.set_cons_zero, List.set_cons_succ]
  refine Walk.take (v := ?_) rfl (by rfl) ?_ ?_
  rotate_left
  · (intro w' hSw; (try dsimp only at hSw); go_simp <;> with_reducible rfl)
  try simp only [Act.put, List.setIfInBounds_toArray, List.set_cons_zero, List.set_cons_succ]
  refine Walk.take (v := ?_) rfl (by rfl) ?_ ?_
  rotate_left
  · (intro w' hSw; (try dsimp only at hSw); go_simp <;> with_reducible rfl)
  try simp only [Act.put, List.setIfInBounds_toArray, List.set_cons_zero, List.set_cons_succ]
  refine Walk.take (v := ?_) rfl (by rfl) ?_ ?_
  rotate_left
  · (intro w' hSw; (try dsimp only at hSw); go_simp <;> with_reducible rfl)
  try simp only [Act.put, List.setIfInBounds_toArray, List.set_cons_zero, List.set_cons_succ]
  refine Walk.take (v := ?_) rfl (by rfl) ?_ ?_
  rotate_left
  · (intro w' hSw; (try dsimp only at hSw); go_simp <;> with_reducible rfl)
  try simp only [Act.put, List.setIfInBounds_toArray, List.set_cons_zero, List.set_cons_succ]
  refine Walk.take (v := ?_) rfl (by rfl) ?_ ?_
  rotate_left
  · (intro w' hSw; (try dsimp only at hSw); go_simp <;> with_reducible rfl)
  try simp only [Act.put, List.setIfInBounds_toArray, List.set_cons_zero, List.set_cons_succ]
  refine Walk.act rfl (by rfl) (fun K hK => ?_)
  go_simp
  go_at_call 10
  refine (qcmp_any (w := y13) (rU8.below X13) (rV8.below X13) (by decide) (by decide)).mono ?_
  rintro e y14 ⟨rfl, hh14⟩
  have X14 : Below W'.heap.size W' y14 := bel_trans X13 hh14
  refine hK.out _ _ (HK.out _ X14) ?_
  clear hK K
  try simp only [Act.put, List.setIfInBounds_toArray, List.set_cons_zero, List.set_cons_succ]
  refine Walk.take (v := ?_) rfl (by rfl) ?_ ?_
  rotate_left
  · (intro w' hSw; (try dsimp only at hSw); go_simp <;> with_reducible rfl)
  try simp only [Act.put, List.setIfInBounds_toArray, List.set_cons_zero, List.set_cons_succ]
  refine Walk.take (v := ?_) rfl (by rfl) ?_ ?_
  rotate_left
  · (intro w' hSw; (try dsimp only at hSw); go_simp <;> with_reducible rfl)
  try simp only [Act.put, List.setIfInBounds_toArray, List.set_cons_zero, List.set_cons_succ]
  refine Walk.take (v := ?_) rfl (by rfl) ?_ ?_
  rotate_left
  · (intro w' hSw; (try dsimp only at hSw); go_simp <;> with_reducible rfl)
  try simp only [Act.put, List.setIfInBounds_toArray, List.set_cons_zero, List.set_cons_succ]
  refine Walk.done ?_
  clear HK
  have HB9 := Lib.hid (bel_trans HB8.out X14)
  have rV9 := rV8.below X14
  have rU9 := rU8.below X14
  have KV9 := KV8.below X14 KV8.lt
  have KU9 := KU8.below X14 KU8.lt
  obtain ⟨c0, c1, c2, -, -, -⟩ := KV9.three
  obtain ⟨f0, f1, f2, -, -, -⟩ := KU9.three
  clear X14 HB8 rV8 rO8 KV8 KO8 rU8 KU8 KV KO KU e1
  go_wp2_with fail
  refine (qcmp_any rU9 rV9 (by decide) (by decide)).mono ?_
  rintro x w10 ⟨rfl, h10⟩
  have HB10 := Lib.hid (bel_trans HB9.out h10)
  clear h10 HB9 rV9 rU9 KV9 KU9 c0 c1 c2 f0 f1 f2
  generalize cmpR (fV U) (fV f) = q at *
  by_cases m1 : md = 1
  · have t := a3.out m1
    subst m1
    clear a3 a4
    go_wp2_with fail
    go_ret
    exact ⟨rfl, HB10.out⟩
  · by_cases m2 : md = 2
    · have t := a4.out m2
      subst m2
      clear a3 a4
      go_wp2_with fail
      go_ret
      exact ⟨rfl, HB10.out⟩
    · have f1 : (md == 1) = false := by simp [m1]
      have f2 : (md == 2) = false := by simp [m2]
      clear a3 a4
      go_wp2_with fail
      go_ret
      exact ⟨rfl, HB10.out⟩

theorem lnear_walk (f md : Int) (w : World) (hf : Word f) (hT : TabOk w) :
    Calls Tryd.prog 3 #[.int .u64 f, .int .u8 md] w fun x w' => x = .returned (.bool true) ∧ Below w.heap.size w w' := by
  by_cases h : fC f < 3
  · by_cases hg : toG 9223372036854775808 f = 16
    · exact lnear_far f md w hf h hg hT
    · exact lnear_good f md w hf h hg hT
  · exact lnear_inf f md w hf h hT
end Go.Proofs.YtmeobamfjcjbhaaDoor
