/-
  The walk of SoftSquares: whatever float is handed in, the law answers true. Conditions: the float is a word; the table of math/bits stands in its variable.
-/
import Derived.Test.YtkdckclefegocaaGreatDoorMath6e
import Derived.Test.YtkdckclefegocaaGreatDoorWorks6
import Derived.Test.YtkdckclefegocaaGreatDoorIn
namespace Go.Proofs.YtkdckclefegocaaGreatDoor
open Go.RowKit
set_option maxRecDepth 100000

theorem kps12 {W w1 : World} {p0 p1 p2 p3 p4 p5 p6 p7 p8 p9 q0 q1 : Addr} {a0 a1 a2 a3 a4 a5 a6 a7 a8 a9 b0 b1 : Value} (hb : Below W.heap.size W w1) (h0 : W.cell? p0 = some a0) (h1 : W.cell? p1 = some a1) (h2 : W.cell? p2 = some a2) (h3 : W.cell? p3 = some a3) (h4 : W.cell? p4 = some a4) (h5 : W.cell? p5 = some a5) (h6 : W.cell? p6 = some a6) (h7 : W.cell? p7 = some a7) (h8 : W.cell? p8 = some a8) (h9 : W.cell? p9 = some a9) (k0 : W.cell? q0 = some b0) (k1 : W.cell? q1 = some b1) :
    w1.cell? p0 = some a0 ∧ w1.cell? p1 = some a1 ∧ w1.cell? p2 = some a2 ∧ w1.cell? p3 = some a3 ∧ w1.cell? p4 = some a4 ∧ w1.cell? p5 = some a5 ∧ w1.cell? p6 = some a6 ∧ w1.cell? p7 = some a7 ∧ w1.cell? p8 = some a8 ∧ w1.cell? p9 = some a9 ∧ w1.cell? q0 = some b0 ∧ w1.cell? q1 = some b1 :=
  ⟨kp_c hb h0, kp_c hb h1, kp_c hb h2, kp_c hb h3, kp_c hb h4, kp_c hb h5, kp_c hb h6, kp_c hb h7, kp_c hb h8, kp_c hb h9, kp_c hb k0, kp_c hb k1⟩
/-- A number that is above nought. -/
theorem pos_of {a : Int} (ha : Word a) (h : fC a < 3) (k : ¬ sgn (fV a) ≤ 0) : fS a = false ∧ fC a ≠ 0 := by
  have e := sgn_rv (s := fS a) (fMg_nn a) (Int.natCast_nonneg (dB 1074))
  rw [← show fV a = rv (fS a) (fMg a) ((dB 1074 : Nat) : Int) from fV_key ha h] at e
  rw [e] at k
  have m := fMg_zero ha h
  have x := fX_fin h
  by_cases h0 : fMg a = 0 ∨ ((dB 1074 : Nat) : Int) = 0
  · rw [if_pos h0] at k
    exact absurd (Int.le_refl 0) k
  · rw [if_neg h0] at k
    refine ⟨?_, fun hc => h0 (.inl (m.2 (x.2 hc)))⟩
    cases hs : fS a
    · rfl
    · rw [hs] at k
      exact absurd (by decide) k

set_option maxHeartbeats 4000000 in
theorem lsquares_bad (a : Int) (w : World) (ha : Word a) (h : ¬ fC a < 3) (hT : TabOk w) :
    Calls Tryz.prog 4 #[.int .u64 a] w fun x w' => x = .returned (.bool true) ∧ Below w.heap.size w w' := by
  have VA := Lib.hid fun w hT => value_any a false ha (decide_eq_false h) w hT
  go_enter Tryz.func4, Tryz.ntmps4
  go_wp2_with fail
  refine (works6 _).mono ?_
  rintro x w1 ⟨rfl, hb1⟩
  have HB1 := Lib.hid hb1
  clear hb1
  go_wp2_with fail
  refine (VA.out _ (hT.below HB1.out)).mono ?_
  rintro x w2 ⟨s2, A2, n2, c2, F2, m2, d2, rfl, -, h⟩
  have HB2 := Lib.hid (bel_alloc (bel_trans HB1.out h) (.cells #[.bool s2, .slice A2 n2 c2, .slice F2 m2 d2] 29))
  clear h HB1
  go_wp2_with fail
  go_ret
  exact ⟨rfl, HB2.out⟩

set_option maxHeartbeats 4000000 in
theorem lsquares_low (a : Int) (w : World) (ha : Word a) (h : fC a < 3) (k : sgn (fV a) ≤ 0) (hT : TabOk w) :
    Calls Tryz.prog 4 #[.int .u64 a] w fun x w' => x = .returned (.bool true) ∧ Below w.heap.size w w' := by
  have VA := Lib.hid fun w hT => value_any a true ha (decide_eq_true h) w hT
  have tk : decide (sgn (fV a) ≤ 0) = true := decide_eq_true k
  clear k
  go_enter Tryz.func4, Tryz.ntmps4
  go_wp2_with fail
  refine (works6 _).mono ?_
  rintro x w1 ⟨rfl, hb1⟩
  have HB1 := Lib.hid hb1
  clear hb1
  go_wp2_with fail
  refine (VA.out _ (hT.below HB1.out)).mono ?_
  rintro x w2 ⟨s2, A2, n2, c2, F2, m2, d2, rfl, r2, h⟩
  have al := bel_alloc (Below.refl w2.heap.size w2) (.cells #[.bool s2, .slice A2 n2 c2, .slice F2 m2 d2] 29)
  have rX := ((r2 rfl).below al).v
  have HB2 := Lib.hid (bel_trans (bel_trans HB1.out h) al)
  clear h HB1 al r2
  have SG := Lib.hid (sign_any rX (by decide))
  clear rX
  generalize sgn (fV a) = sa at *
  go_wp2_with fail
  refine SG.out.mono ?_
  rintro x w3 ⟨rfl, h⟩
  go_wp2_with fail
  go_ret
  exact ⟨rfl, bel_trans HB2.out h⟩

set_option maxHeartbeats 40000000 in
theorem lsquares_good (a : Int) (w : World) (ha : Word a) (h : fC a < 3) (k : ¬ sgn (fV a) ≤ 0) (hT : TabOk w) :
    Calls Tryz.prog 4 #[.int .u64 a] w fun x w' => x = .returned (.bool true) ∧ Below w.heap.size w w' := by
  have VA := Lib.hid fun w hT => value_any a true ha (decide_eq_true h) w hT
  have tk : decide (sgn (fV a) ≤ 0) = false := decide_eq_false k
  obtain ⟨hs, hc0⟩ := pos_of ha h k
  have S := sq3 ha h hs
  have eF : ∀ md, rtF md a = rF md false (qN a) (qS a) := fun md => by unfold rtF; rw [if_neg (by omega), if_neg hc0, if_neg (by rw [hs]; decide), if_neg (by omega)]
  have R2 := fun w => ssqrt_any a 2 ha w
  have R1 := fun w => ssqrt_any a 1 ha w
  have R0 := fun w => ssqrt_any a 0 ha w
  rw [eF] at R2 R1 R0
  have HR2 := Lib.hid R2
  have HR1 := Lib.hid R1
  have HR0 := Lib.hid R0
  clear R2 R1 R0 eF hs hc0 k
  generalize rF 2 false (qN a) (qS a) = D at *
  generalize rF 1 false (qN a) (qS a) = U at *
  generalize rF 0 false (qN a) (qS a) = Z at *
  generalize rtG 2 a = D' at *
  generalize rtG 1 a = U' at *
  generalize rtG 0 a = Z' at *
  have VD := Lib.hid fun w hT => value_any D true S.d.word (decide_eq_true S.d.fin) w hT
  have VU := Lib.hid fun w hT => value_any U true S.u.word (decide_eq_true S.u.fin) w hT
  have VN := Lib.hid fun w hT => value_any (fNx D) true S.n.word (decide_eq_true S.n.fin) w hT
  have NX := Lib.hid fun w => next_f D S.d.word w
  have HS := Lib.hid S
  clear S
  go_enter Tryz.func4, Tryz.ntmps4
  go_wp2_with fail
  refine (works6 _).mono ?_
  rintro x w1 ⟨rfl, hb1⟩
  have HB1 := Lib.hid hb1
  clear hb1
  go_wp2_with fail
  refine (VA.out _ (hT.below HB1.out)).mono ?_
  rintro x w2 ⟨s2, A2, n2, c2, F2, m2, d2, rfl, r2, h⟩
  have al := bel_alloc (Below.refl w2.heap.size w2) (.cells #[.bool s2, .slice A2 n2 c2, .slice F2 m2 d2] 29)
  have rX2 := ((r2 rfl).below al).v
  have KX2 := Blk.new w2 29 #[.bool s2, .slice A2 n2 c2, .slice F2 m2 d2]
  have HB2 := Lib.hid (bel_trans (bel_trans HB1.out h) al)
  clear h HB1 al r2 VA
  have SG := Lib.hid (sign_any rX2 (by decide))
  obtain ⟨sa, hsa⟩ : ∃ s, sgn (fV a) = s := ⟨_, rfl⟩
  rw [hsa] at SG tk
  clear hsa
  go_wp2_with fail
  refine SG.out.mono ?_
  rintro x w3 ⟨rfl, h⟩
  have rX3 := rX2.below h
  have KX3 := KX2.below h KX2.lt
  have HB3 := Lib.hid (bel_trans HB2.out h)
  clear h HB2 rX2 KX2 SG
  go_wp2_with fail
  refine (HR2.out _).mono ?_
  rintro x w4 ⟨rfl, h⟩
  have rX4 := rX3.below h
  have KX4 := KX3.below h KX3.lt
  have HB4 := Lib.hid (bel_trans HB3.out h)
  clear h HB3 rX3 KX3
  go_wp2_with fail
  refine (HR1.out _).mono ?_
  rintro x w5 ⟨rfl, h⟩
  have rX5 := rX4.below h
  have KX5 := KX4.below h KX4.lt
  have HB5 := Lib.hid (bel_trans HB4.out h)
  clear h HB4 rX4 KX4
  go_wp2_with fail
  refine (HR0.out _).mono ?_
  rintro x w6 ⟨rfl, h⟩
  have rX6 := rX5.below h
  have KX6 := KX5.below h KX5.lt
  have HB6 := Lib.hid (bel_trans HB5.out h)
  clear h HB5 rX5 KX5 HR2 HR1 HR0
  go_wp2_with fail
  refine (VD.out _ (hT.below HB6.out)).mono ?_
  rintro x w7 ⟨s7, A7, n7, c7, F7, m7, d7, rfl, r7, h⟩
  have al := bel_alloc (Below.refl w7.heap.size w7) (.cells #[.bool s7, .slice A7 n7 c7, .slice F7 m7 d7] 29)
  have rP7 := ((r7 rfl).below al).v
  have KP7 := Blk.new w7 29 #[.bool s7, .slice A7 n7 c7, .slice F7 m7 d7]
  have rX7 := (rX6.below h).below al
  have KX7 := (KX6.below h KX6.lt).alloc (.cells #[.bool s7, .slice A7 n7 c7, .slice F7 m7 d7] 29)
  have HB7 := Lib.hid (bel_trans (bel_trans HB6.out h) al)
  clear h HB6 al r7 rX6 KX6 VD
  go_wp2_with fail
  refine (VU.out _ (hT.below HB7.out)).mono ?_
  rintro x w8 ⟨s8, A8, n8, c8, F8, m8, d8, rfl, r8, h⟩
  have al := bel_alloc (Below.refl w8.heap.size w8) (.cells #[.bool s8, .slice A8 n8 c8, .slice F8 m8 d8] 29)
  have rQ8 := ((r8 rfl).below al).v
  have KQ8 := Blk.new w8 29 #[.bool s8, .slice A8 n8 c8, .slice F8 m8 d8]
  have rX8 := (rX7.below h).below al
  have KX8 := (KX7.below h KX7.lt).alloc (.cells #[.bool s8, .slice A8 n8 c8, .slice F8 m8 d8] 29)
  have rP8 := (rP7.below h).below al
  have KP8 := (KP7.below h KP7.lt).alloc (.cells #[.bool s8, .slice A8 n8 c8, .slice F8 m8 d8] 29)
  have HB8 := Lib.hid (bel_trans (bel_trans HB7.out h) al)
  clear h HB7 al r8 rX7 KX7 rP7 KP7 VU
  go_wp2_with fail
  refine (NX.out _).mono ?_
  rintro x w9 ⟨rfl, rfl⟩
  go_wp2_with fail
  refine (VN.out _ (hT.below HB8.out)).mono ?_
  rintro x w9 ⟨s9, A9, n9, c9, F9, m9, d9, rfl, r9, h⟩
  have al := bel_alloc (Below.refl w9.heap.size w9) (.cells #[.bool s9, .slice A9 n9 c9, .slice F9 m9 d9] 29)
  have rR9 := ((r9 rfl).below al).v
  have KR9 := Blk.new w9 29 #[.bool s9, .slice A9 n9 c9, .slice F9 m9 d9]
  have rX9 := (rX8.below h).below al
  have KX9 := (KX8.below h KX8.lt).alloc (.cells #[.bool s9, .slice A9 n9 c9, .slice F9 m9 d9] 29)
  have rP9 := (rP8.below h).below al
  have KP9 := (KP8.below h KP8.lt).alloc (.cells #[.bool s9, .slice A9 n9 c9, .slice F9 m9 d9] 29)
  have rQ9 := (rQ8.below h).below al
  have KQ9 := (KQ8.below h KQ8.lt).alloc (.cells #[.bool s9, .slice A9 n9 c9, .slice F9 m9 d9] 29)
  have HB9 := Lib.hid (bel_trans (bel_trans HB8.out h) al)
  clear h HB8 al r9 rX8 KX8 rP8 KP8 rQ8 KQ8 VN
  obtain ⟨W, hW⟩ : ∃ W, W = w9.alloc (.cells #[.bool s9, .slice A9 n9 c9, .slice F9 m9 d9] 29) := ⟨_, rfl⟩
  have V9 := Lib.hid hW
  rw [← hW] at rR9 KR9 rX9 KX9 rP9 KP9 rQ9 KQ9 HB9
  clear hW
  go_upto_region 13 with fail
  rw [← V9.out]
  clear V9
  have HX := Lib.hid rX9
  have HP := Lib.hid rP9
  have HQ := Lib.hid rQ9
  have HRr := Lib.hid rR9
  clear rX9 rP9 rQ9 rR9
  generalize w9.heap.size = gr at *
  generalize w8.heap.size = gq at *
  generalize w7.heap.size = gp at *
  generalize w2.heap.size = gx at *
  obtain ⟨b0, b1, b2, -, -, -⟩ := KX9.three
  obtain ⟨e0, e1, e2, -, -, -⟩ := KP9.three
  obtain ⟨f0, f1, f2, -, -, -⟩ := KQ9.three
  obtain ⟨h0, h1, h2, -, -, -⟩ := KR9.three
  have HK : Hid (∀ w', Below W.heap.size W w' → (w'.cell? ⟨gx, 0, none⟩ = some (.bool s2) ∧ w'.cell? ⟨gx, 1, none⟩ = some (.slice A2 n2 c2) ∧ w'.cell? ⟨gx, 2, none⟩ = some (.slice F2 m2 d2) ∧ w'.cell? ⟨gp, 0, none⟩ = some (.bool s7) ∧ w'.cell? ⟨gp, 1, none⟩ = some (.slice A7 n7 c7) ∧ w'.cell? ⟨gp, 2, none⟩ = some (.slice F7 m7 d7) ∧ w'.cell? ⟨gq, 0, none⟩ = some (.bool s8) ∧ w'.cell? ⟨gq, 1, none⟩ = some (.slice A8 n8 c8) ∧ w'.cell? ⟨gq, 2, none⟩ = some (.slice F8 m8 d8) ∧ w'.cell? ⟨gr, 0, none⟩ = some (.bool s9) ∧ w'.cell? ⟨gr, 1, none⟩ = some (.slice A9 n9 c9) ∧ w'.cell? ⟨gr, 2, none⟩ = some (.slice F9 m9 d9))) := fun w' hb => kps12 hb b0 b1 b2 e0 e1 e2 f0 f1 f2 h0 h1 h2
  clear b0 b1 b2 e0 e1 e2 f0 f1 f2 h0 h1 h2 KX9 KP9 KQ9 KR9
  have t1 : decide (cmpR (fV D * fV D) (fV a) ≤ 0) = true := decide_eq_true HS.out.low
  have t2 : decide (0 ≤ cmpR (fV U * fV U) (fV a)) = true := decide_eq_true HS.out.high
  have t3 : decide (0 < cmpR (fV (fNx D) * fV (fNx D)) (fV a)) = true := decide_eq_true HS.out.next
  have oneof := HS.out.one
  have step := HS.out.step
  clear HS
  have rX9 := HX.out
  have rP9 := HP.out
  have rQ9 := HQ.out
  have rR9 := HRr.out
  clear HX HP HQ HRr
  generalize fV a = x at *
  generalize fV D = p at *
  generalize fV U = q at *
  generalize fV (fNx D) = r at *
  by_cases zd : Z = D
  · subst zd
    by_cases du : Z = U
    · subst du
      clear oneof step
      refine region_plan (S := fun w' => w'.cell? ⟨gx, 0, none⟩ = some (.bool s2) ∧ w'.cell? ⟨gx, 1, none⟩ = some (.slice A2 n2 c2) ∧ w'.cell? ⟨gx, 2, none⟩ = some (.slice F2 m2 d2) ∧ w'.cell? ⟨gp, 0, none⟩ = some (.bool s7) ∧ w'.cell? ⟨gp, 1, none⟩ = some (.slice A7 n7 c7) ∧ w'.cell? ⟨gp, 2, none⟩ = some (.slice F7 m7 d7) ∧ w'.cell? ⟨gq, 0, none⟩ = some (.bool s8) ∧ w'.cell? ⟨gq, 1, none⟩ = some (.slice A8 n8 c8) ∧ w'.cell? ⟨gq, 2, none⟩ = some (.slice F8 m8 d8) ∧ w'.cell? ⟨gr, 0, none⟩ = some (.bool s9) ∧ w'.cell? ⟨gr, 1, none⟩ = some (.slice A9 n9 c9) ∧ w'.cell? ⟨gr, 2, none⟩ = some (.slice F9 m9 d9)) _ [(0, true), (1, true), (2, true), (3, true), (5, true), (4, false), (6, false), (7, true), (8, true), (9, true), (10, true), (11, true), (13, true), (12, false), (14, false), (15, true), (16, true), (17, true), (18, true), (19, true), (21, true), (20, false), (22, false), (23, true), (24, true), (25, true), (26, true), (27, true), (28, true), (29, true), (30, true), (31, true), (32, true), (33, true), (34, true), (35, true), (36, true), (37, true), (38, true), (39, true), (40, true), (42, true), (41, false), (43, true), (44, true), (45, true), (46, true)] (by kernel_rfl) (by kernel_rfl) rfl (by kernel_rfl) (by kernel_rfl) (fun _ _ d _ _ h => by cases d <;> exact h) (HK.out _ (bel_drew (Below.refl _ _))) ?_
      refine Walk.take (v := ?_) rfl (by rfl) ?_ ?_
      rotate_left
      · (intro w' hSw; (try dsimp only at hSw); go_simp <;> with_reducible rfl)
      try simp only [Act.put, List.setIfInBounds_toArray, List.set_cons_zero, List.set_cons_succ]
      refine Walk.take (v := ?_) rfl (by rfl) ?_ ?_
      rotate_left
      · (intro w' hSw; (try dsimp only at hSw); go_simp <;> with_reducible rfl)
      try simp only [Act.put, List.setIfInBounds_toArray, List.set_cons_zero, List.set_cons_succ]
      refine Walk.take (v := ?_) rfl (by rfl) ?_ ?_
      rotate_left
      · (intro w' hSw; (try dsimp only at hSw); go_simp <;> with_reducible rfl)
      try simp only [Act.put, List.setIfInBounds_toArray, List.set_cons_zero, List.set_cons_succ]
      refine Walk.take (v := ?_) rfl (by rfl) ?_ ?_
      rotate_left
      · (intro w' hSw; (try dsimp only at hSw); go_simp <;> with_reducible rfl)
      try simp only [Act.put, List.setIfInBounds_toArray, List.set_cons_zero, List.set_cons_succ]
      refine Walk.take (v := ?_) rfl (by rfl) ?_ ?_
      rotate_left
      · (intro w' hSw; (try dsimp only at hSw); go_simp <;> with_reducible rfl)
      try simp only [Act.put, List.setIfInBounds_toArray, List.set_cons_zero, List.set_cons_succ]
      refine Walk.act rfl (by rfl) (fun K hK => ?_)
      go_simp
      go_at_call 11
      refine (qmul_any (w := W.drew) (rP9.below (bel_drew (Below.refl W.heap.size W))) (rP9.below (bel_drew (Below.refl W.heap.size W))) (by decide) (by decide) (by decide) (hT.below (bel_trans HB9.out (bel_drew (Below.refl W.heap.size W))))).mono ?_
      rintro e y1 ⟨x1', y1', z1', r1, rfl, hh1⟩
      obtain ⟨s1', A1', n1', c1', B1', m1', d1', rfl, rfl, rfl⟩ := r1.form
      have X1 : Below W.heap.size W y1 := bel_trans (bel_drew (Below.refl W.heap.size W)) hh1
      refine hK.out _ _ (HK.out _ X1) ?_
      clear hK K
      try simp only [Act.put, List.setIfInBounds_toArray, List.set_cons_zero, List.set_cons_succ]
      refine Walk.act rfl (by rfl) (fun K hK => ?_)
      go_simp
      go_at_call 17
      refine (qcmp_any (w := y1) r1.v (rX9.below X1) (by decide) (by decide)).mono ?_
      rintro e y2 ⟨rfl, hh2⟩
      have X2 : Below W.heap.size W y2 := bel_trans X1 hh2
      refine hK.out _ _ (HK.out _ X2) ?_
      clear hK K
      try simp only [Act.put, List.setIfInBounds_toArray, List.set_cons_zero, List.set_cons_succ]
      refine Walk.take (v := ?_) rfl (by rfl) ?_ ?_
      rotate_left
      · (intro w' hSw; (try dsimp only at hSw); go_simp <;> with_reducible rfl)
      try simp only [Act.put, List.setIfInBounds_toArray, List.set_cons_zero, List.set_cons_succ]
      refine Walk.take (v := ?_) rfl (by rfl) ?_ ?_
      rotate_left
      · (intro w' hSw; (try dsimp only at hSw); go_simp <;> with_reducible rfl)
      try simp only [Act.put, List.setIfInBounds_toArray, List.set_cons_zero, List.set_cons_succ]
      refine Walk.take (v := ?_) rfl (by rfl) ?_ ?_
      rotate_left
      · (intro w' hSw; (try dsimp only at hSw); go_simp <;> with_reducible rfl)
      try simp only [Act.put, List.setIfInBounds_toArray, List.set_cons_zero, List.set_cons_succ]
      refine Walk.take (v := ?_) rfl (by rfl) ?_ ?_
      rotate_left
      · (intro w' hSw; (try dsimp only at hSw); go_simp <;> with_reducible rfl)
      try simp only [Act.put, List.setIfInBounds_toArray, List.set_cons_zero, List.set_cons_succ]
      refine Walk.take (v := ?_) rfl (by rfl) ?_ ?_
      rotate_left
      · (intro w' hSw; (try dsimp only at hSw); go_simp <;> with_reducible rfl)
      try simp only [Act.put, List.setIfInBounds_toArray, List.set_cons_zero, List.set_cons_succ]
      refine Walk.take (v := ?_) rfl (by rfl) ?_ ?_
      rotate_left
      · (intro w' hSw; (try dsimp only at hSw); go_simp <;> with_reducible rfl)
      try simp only [Act.put, List.setIfInBounds_toArray, List.set_cons_zero, List.set_cons_succ]
      refine Walk.act rfl (by rfl) (fun K hK => ?_)
      go_simp
      go_at_call 11
      refine (qmul_any (w := y2) (rQ9.below X2) (rQ9.below X2) (by decide) (by decide) (by decide) (hT.below (bel_trans HB9.out X2))).mono ?_
      rintro e y3 ⟨x3', y3', z3', r3, rfl, hh3⟩
      obtain ⟨s3', A3', n3', c3', B3', m3', d3', rfl, rfl, rfl⟩ := r3.form
      have X3 : Below W.heap.size W y3 := bel_trans X2 hh3
      refine hK.out _ _ (HK.out _ X3) ?_
      clear hK K
      try simp only [Act.put, List.setIfInBounds_toArray, List.set_cons_zero, List.set_cons_succ]
      refine Walk.act rfl (by rfl) (fun K hK => ?_)
      go_simp
      go_at_call 17
      refine (qcmp_any (w := y3) r3.v (rX9.below X3) (by decide) (by decide)).mono ?_
      rintro e y4 ⟨rfl, hh4⟩
      have X4 : Below W.heap.size W y4 := bel_trans X3 hh4
      refine hK.out _ _ (HK.out _ X4) ?_
      clear hK K
      try simp only [Act.put, List.setIfInBounds_toArray, List.set_cons_zero, List.set_cons_succ]
      refine Walk.take (v := ?_) rfl (by rfl) ?_ ?_
      rotate_left
      · (intro w' hSw; (try dsimp only at hSw); go_simp <;> with_reducible rfl)
      try simp only [Act.put, List.setIfInBounds_toArray, List.set_cons_zero, List.set_cons_succ]
      refine Walk.take (v := ?_) rfl (by rfl) ?_ ?_
      rotate_left
      · (intro w' hSw; (try dsimp only at hSw); go_simp <;> with_reducible rfl)
      try simp only [Act.put, List.setIfInBounds_toArray, List.set_cons_zero, List.set_cons_succ]
      refine Walk.take (v := ?_) rfl (by rfl) ?_ ?_
      rotate_left
      · (intro w' hSw; (try dsimp only at hSw); go_simp <;> with_reducible rfl)
      try simp only [Act.put, List.setIfInBounds_toArray, List.set_cons_zero, List.set_cons_succ]
      refine Walk.take (v := ?_) rfl (by rfl) ?_ ?_
      rotate_left
      · (intro w' hSw; (try dsimp only at hSw); go_simp <;> with_reducible rfl)
      try simp only [Act.put, List.setIfInBounds_toArray, List.set_cons_zero, List.set_cons_succ]
      refine Walk.take (v := ?_) rfl (by rfl) ?_ ?_
      rotate_left
      · (intro w' hSw; (try dsimp only at hSw); go_simp <;> with_reducible rfl)
      try simp only [Act.put, List.setIfInBounds_toArray, List.set_cons_zero, List.set_cons_succ]
      refine Walk.take (v := ?_) rfl (by rfl) ?_ ?_
      rotate_left
      · (intro w' hSw; (try dsimp only at hSw); go_simp <;> with_reducible rfl)
      try simp only [Act.put, List.setIfInBounds_toArray, List.set_cons_zero, List.set_cons_succ]
      refine Walk.act rfl (by rfl) (fun K hK => ?_)
      go_simp
      go_at_call 11
      refine (qmul_any (w := y4) (rR9.below X4) (rR9.below X4) (by decide) (by decide) (by decide) (hT.below (bel_trans HB9.out X4))).mono ?_
      rintro e y5 ⟨x5', y5', z5', r5, rfl, hh5⟩
      obtain ⟨s5', A5', n5', c5', B5', m5', d5', rfl, rfl, rfl⟩ := r5.form
      have X5 : Below W.heap.size W y5 := bel_trans X4 hh5
      refine hK.out _ _ (HK.out _ X5) ?_
      clear hK K
      try simp only [Act.put, List.setIfInBounds_toArray, List.set_cons_zero, List.set_cons_succ]
      refine Walk.act rfl (by rfl) (fun K hK => ?_)
      go_simp
      go_at_call 17
      refine (qcmp_any (w := y5) r5.v (rX9.below X5) (by decide) (by decide)).mono ?_
      rintro e y6 ⟨rfl, hh6⟩
      have X6 : Below W.heap.size W y6 := bel_trans X5 hh6
      refine hK.out _ _ (HK.out _ X6) ?_
      clear hK K
      try simp only [Act.put, List.setIfInBounds_toArray, List.set_cons_zero, List.set_cons_succ]
      refine Walk.take (v := ?_) rfl (by rfl) ?_ ?_
      rotate_left
      · (intro w' hSw; (try dsimp only at hSw); go_simp <;> with_reducible rfl)
      try simp only [Act.put, List.setIfInBounds_toArray, List.set_cons_zero, List.set_cons_succ]
      refine Walk.take (v := ?_) rfl (by rfl) ?_ ?_
      rotate_left
      · (intro w' hSw; (try dsimp only at hSw); go_simp <;> with_reducible rfl)
      try simp only [Act.put, List.setIfInBounds_toArray, List.set_cons_zero, List.set_cons_succ]
      refine Walk.take (v := ?_) rfl (by rfl) ?_ ?_
      rotate_left
      · (intro w' hSw; (try dsimp only at hSw); go_simp <;> with_reducible rfl)
      try simp only [Act.put, List.setIfInBounds_toArray, List.set_cons_zero, List.set_cons_succ]
      refine Walk.take (v := ?_) rfl (by rfl) ?_ ?_
      rotate_left
      · (intro w' hSw; (try dsimp only at hSw); go_simp <;> with_reducible rfl)
      try simp only [Act.put, List.setIfInBounds_toArray, List.set_cons_zero, List.set_cons_succ]
      refine Walk.take (v := ?_) rfl (by rfl) ?_ ?_
      rotate_left
      · (intro w' hSw; (try dsimp only at hSw); go_simp <;> with_reducible rfl)
      try simp only [Act.put, List.setIfInBounds_toArray, List.set_cons_zero, List.set_cons_succ]
      refine Walk.take (v := ?_) rfl (by rfl) ?_ ?_
      rotate_left
      · (intro w' hSw; (try dsimp only at hSw); go_simp <;> with_reducible rfl)
      try simp only [Act.put, List.setIfInBounds_toArray, List.set_cons_zero, List.set_cons_succ]
      refine Walk.take (v := ?_) rfl (by rfl) ?_ ?_
      rotate_left
      · (intro w' hSw; (try dsimp only at hSw); go_simp <;> with_reducible rfl)
      try simp only [Act.put, List.setIfInBounds_toArray, List.set_cons_zero, List.set_cons_succ]
      refine Walk.skip rfl (by rfl) ?_
      try simp only [Act.put, List.setIfInBounds_toArray, List.set_cons_zero, List.set_cons_succ]
      refine Walk.skip rfl (by rfl) ?_
      try simp only [Act.put, List.setIfInBounds_toArray, List.set_cons_zero, List.set_cons_succ]
      refine Walk.skip rfl (by rfl) ?_
      try simp only [Act.put, List.setIfInBounds_toArray, List.set_cons_zero, List.set_cons_succ]
      refine Walk.take (v := ?_) rfl (by rfl) ?_ ?_
      rotate_left
      · (intro w' hSw; (try dsimp only at hSw); go_simp <;> with_reducible rfl)
      try simp only [Act.put, List.setIfInBounds_toArray, List.set_cons_zero, List.set_cons_succ]
      refine Walk.take (v := ?_) rfl (by rfl) ?_ ?_
      rotate_left
      · (intro w' hSw; (try dsimp only at hSw); go_simp <;> with_reducible rfl)
      try simp only [Act.put, List.setIfInBounds_toArray, List.set_cons_zero, List.set_cons_succ]
      refine Walk.take (v := ?_) rfl (by rfl) ?_ ?_
      rotate_left
      · (intro w' hSw; (try dsimp only at hSw); go_simp <;> with_reducible rfl)
      try simp only [Act.put, List.setIfInBounds_toArray, List.set_cons_zero, List.set_cons_succ]
      refine Walk.take (v := ?_) rfl (by rfl) ?_ ?_
      rotate_left
      · (intro w' hSw; (try dsimp only at hSw); go_simp <;> with_reducible rfl)
      try simp only [Act.put, List.setIfInBounds_toArray, List.set_cons_zero, List.set_cons_succ]
      refine Walk.take (v := ?_) rfl (by rfl) ?_ ?_
      rotate_left
      · (intro w' hSw; (try dsimp only at hSw); go_simp <;> with_reducible rfl)
      try simp only [Act.put, List.setIfInBounds_toArray, List.set_cons_zero, List.set_cons_succ]
      refine Walk.take (v := ?_) rfl (by rfl) ?_ ?_
      rotate_left
      · (intro w' hSw; (try dsimp only at hSw); go_simp <;> with_reducible rfl)
      try simp only [Act.put, List.setIfInBounds_toArray, List.set_cons_zero, List.set_cons_succ]
      refine Walk.take (v := ?_) rfl (by rfl) ?_ ?_
      rotate_left
      · (intro w' hSw; (try dsimp only at hSw); go_simp <;> with_reducible rfl)
      try simp only [Act.put, List.setIfInBounds_toArray, List.set_cons_zero, List.set_cons_succ]
      refine Walk.skip rfl (by rfl) ?_
      try simp only [Act.put, List.setIfInBounds_toArray, List.set_cons_zero, List.set_cons_succ]
      refine Walk.skip rfl (by rfl) ?_
      try simp only [Act.put, List.setIfInBounds_toArray, List.set_cons_zero, List.set_cons_succ]
      refine Walk.pass rfl (by rfl) (HK.out _ X6) ?_
      try simp only [Act.put, List.setIfInBounds_toArray, List.set_cons_zero, List.set_cons_succ]
      refine Walk.skip rfl (by rfl) ?_
      try simp only [Act.put, List.setIfInBounds_toArray, List.set_cons_zero, List.set_cons_succ]
      refine Walk.take (v := ?_) rfl (by rfl) ?_ ?_
      rotate_left
      · (intro w' hSw; (try dsimp only at hSw); go_simp <;> with_reducible rfl)
      try simp only [Act.put, List.setIfInBounds_toArray, List.set_cons_zero, List.set_cons_succ]
      refine Walk.take (v := ?_) rfl (by rfl) ?_ ?_
      rotate_left
      · (intro w' hSw; (try dsimp only at hSw); go_simp <;> with_reducible rfl)
      try simp only [Act.put, List.setIfInBounds_toArray, List.set_cons_zero, List.set_cons_succ]
      refine Walk.take (v := ?_) rfl (by rfl) ?_ ?_
      rotate_left
      · (intro w' hSw; (try dsimp only at hSw); go_simp <;> with_reducible rfl)
      try simp only [Act.put, List.setIfInBounds_toArray, List.set_cons_zero, List.set_cons_succ]
      refine Walk.done ?_
      have HE := Lib.hid (bel_trans HB9.out X6)
      go_wp2_with fail
      go_ret
      exact ⟨rfl, HE.out⟩
    · have hn : fNx Z = U := step.resolve_left du
      have NXU := NX
      rw [hn] at NXU
      have tdu : (Z == U) = false := by simpa using du
      clear oneof step hn du NX
      refine region_plan (S := fun w' => w'.cell? ⟨gx, 0, none⟩ = some (.bool s2) ∧ w'.cell? ⟨gx, 1, none⟩ = some (.slice A2 n2 c2) ∧ w'.cell? ⟨gx, 2, none⟩ = some (.slice F2 m2 d2) ∧ w'.cell? ⟨gp, 0, none⟩ = some (.bool s7) ∧ w'.cell? ⟨gp, 1, none⟩ = some (.slice A7 n7 c7) ∧ w'.cell? ⟨gp, 2, none⟩ = some (.slice F7 m7 d7) ∧ w'.cell? ⟨gq, 0, none⟩ = some (.bool s8) ∧ w'.cell? ⟨gq, 1, none⟩ = some (.slice A8 n8 c8) ∧ w'.cell? ⟨gq, 2, none⟩ = some (.slice F8 m8 d8) ∧ w'.cell? ⟨gr, 0, none⟩ = some (.bool s9) ∧ w'.cell? ⟨gr, 1, none⟩ = some (.slice A9 n9 c9) ∧ w'.cell? ⟨gr, 2, none⟩ = some (.slice F9 m9 d9)) _ [(0, true), (1, true), (2, true), (3, true), (5, true), (4, false), (6, false), (7, true), (8, true), (9, true), (10, true), (11, true), (13, true), (12, false), (14, false), (15, true), (16, true), (17, true), (18, true), (19, true), (21, true), (20, false), (22, false), (23, true), (24, true), (25, true), (26, true), (27, true), (28, true), (29, true), (30, true), (31, true), (32, true), (33, true), (34, true), (35, true), (36, true), (37, true), (38, true), (39, true), (40, true), (42, true), (41, false), (43, true), (44, true), (45, true), (46, true)] (by kernel_rfl) (by kernel_rfl) rfl (by kernel_rfl) (by kernel_rfl) (fun _ _ d _ _ h => by cases d <;> exact h) (HK.out _ (bel_drew (Below.refl _ _))) ?_
      refine Walk.take (v := ?_) rfl (by rfl) ?_ ?_
      rotate_left
      · (intro w' hSw; (try dsimp only at hSw); go_simp <;> with_reducible rfl)
      try simp only [Act.put, List.setIfInBounds_toArray, List.set_cons_zero, List.set_cons_succ]
      refine Walk.take (v := ?_) rfl (by rfl) ?_ ?_
      rotate_left
      · (intro w' hSw; (try dsimp only at hSw); go_simp <;> with_reducible rfl)
      try simp only [Act.put, List.setIfInBounds_toArray, List.set_cons_zero, List.set_cons_succ]
      refine Walk.take (v := ?_) rfl (by rfl) ?_ ?_
      rotate_left
      · (intro w' hSw; (try dsimp only at hSw); go_simp <;> with_reducible rfl)
      try simp only [Act.put, List.setIfInBounds_toArray, List.set_cons_zero, List.set_cons_succ]
      refine Walk.take (v := ?_) rfl (by rfl) ?_ ?_
      rotate_left
      · (intro w' hSw; (try dsimp only at hSw); go_simp <;> with_reducible rfl)
      try simp only [Act.put, List.setIfInBounds_toArray, List.set_cons_zero, List.set_cons_succ]
      refine Walk.take (v := ?_) rfl (by rfl) ?_ ?_
      rotate_left
      · (intro w' hSw; (try dsimp only at hSw); go_simp <;> with_reducible rfl)
      try simp only [Act.put, List.setIfInBounds_toArray, List.set_cons_zero, List.set_cons_succ]
      refine Walk.act rfl (by rfl) (fun K hK => ?_)
      go_simp
      go_at_call 11
      refine (qmul_any (w := W.drew) (rP9.below (bel_drew (Below.refl W.heap.size W))) (rP9.below (bel_drew (Below.refl W.heap.size W))) (by decide) (by decide) (by decide) (hT.below (bel_trans HB9.out (bel_drew (Below.refl W.heap.size W))))).mono ?_
      rintro e y1 ⟨x1', y1', z1', r1, rfl, hh1⟩
      obtain ⟨s1', A1', n1', c1', B1', m1', d1', rfl, rfl, rfl⟩ := r1.form
      have X1 : Below W.heap.size W y1 := bel_trans (bel_drew (Below.refl W.heap.size W)) hh1
      refine hK.out _ _ (HK.out _ X1) ?_
      clear hK K
      try simp only [Act.put, List.setIfInBounds_toArray, List.set_cons_zero, List.set_cons_succ]
      refine Walk.act rfl (by rfl) (fun K hK => ?_)
      go_simp
      go_at_call 17
      refine (qcmp_any (w := y1) r1.v (rX9.below X1) (by decide) (by decide)).mono ?_
      rintro e y2 ⟨rfl, hh2⟩
      have X2 : Below W.heap.size W y2 := bel_trans X1 hh2
      refine hK.out _ _ (HK.out _ X2) ?_
      clear hK K
      try simp only [Act.put, List.setIfInBounds_toArray, List.set_cons_zero, List.set_cons_succ]
      refine Walk.take (v := ?_) rfl (by rfl) ?_ ?_
      rotate_left
      · (intro w' hSw; (try dsimp only at hSw); go_simp <;> with_reducible rfl)
      try simp only [Act.put, List.setIfInBounds_toArray, List.set_cons_zero, List.set_cons_succ]
      refine Walk.take (v := ?_) rfl (by rfl) ?_ ?_
      rotate_left
      · (intro w' hSw; (try dsimp only at hSw); go_simp <;> with_reducible rfl)
      try simp only [Act.put, List.setIfInBounds_toArray, List.set_cons_zero, List.set_cons_succ]
      refine Walk.take (v := ?_) rfl (by rfl) ?_ ?_
      rotate_left
      · (intro w' hSw; (try dsimp only at hSw); go_simp <;> with_reducible rfl)
      try simp only [Act.put, List.setIfInBounds_toArray, List.set_cons_zero, List.set_cons_succ]
      refine Walk.take (v := ?_) rfl (by rfl) ?_ ?_
      rotate_left
      · (intro w' hSw; (try dsimp only at hSw); go_simp <;> with_reducible rfl)
      try simp only [Act.put, List.setIfInBounds_toArray, List.set_cons_zero, List.set_cons_succ]
      refine Walk.take (v := ?_) rfl (by rfl) ?_ ?_
      rotate_left
      · (intro w' hSw; (try dsimp only at hSw); go_simp <;> with_reducible rfl)
      try simp only [Act.put, List.setIfInBounds_toArray, List.set_cons_zero, List.set_cons_succ]
      refine Walk.take (v := ?_) rfl (by rfl) ?_ ?_
      rotate_left
      · (intro w' hSw; (try dsimp only at hSw); go_simp <;> with_reducible rfl)
      try simp only [Act.put, List.setIfInBounds_toArray, List.set_cons_zero, List.set_cons_succ]
      refine Walk.act rfl (by rfl) (fun K hK => ?_)
      go_simp
      go_at_call 11
      refine (qmul_any (w := y2) (rQ9.below X2) (rQ9.below X2) (by decide) (by decide) (by decide) (hT.below (bel_trans HB9.out X2))).mono ?_
      rintro e y3 ⟨x3', y3', z3', r3, rfl, hh3⟩
      obtain ⟨s3', A3', n3', c3', B3', m3', d3', rfl, rfl, rfl⟩ := r3.form
      have X3 : Below W.heap.size W y3 := bel_trans X2 hh3
      refine hK.out _ _ (HK.out _ X3) ?_
      clear hK K
      try simp only [Act.put, List.setIfInBounds_toArray, List.set_cons_zero, List.set_cons_succ]
      refine Walk.act rfl (by rfl) (fun K hK => ?_)
      go_simp
      go_at_call 17
      refine (qcmp_any (w := y3) r3.v (rX9.below X3) (by decide) (by decide)).mono ?_
      rintro e y4 ⟨rfl, hh4⟩
      have X4 : Below W.heap.size W y4 := bel_trans X3 hh4
      refine hK.out _ _ (HK.out _ X4) ?_
      clear hK K
      try simp only [Act.put, List.setIfInBounds_toArray, List.set_cons_zero, List.set_cons_succ]
      refine Walk.take (v := ?_) rfl (by rfl) ?_ ?_
      rotate_left
      · (intro w' hSw; (try dsimp only at hSw); go_simp <;> with_reducible rfl)
      try simp only [Act.put, List.setIfInBounds_toArray, List.set_cons_zero, List.set_cons_succ]
      refine Walk.take (v := ?_) rfl (by rfl) ?_ ?_
      rotate_left
      · (intro w' hSw; (try dsimp only at hSw); go_simp <;> with_reducible rfl)
      try simp only [Act.put, List.setIfInBounds_toArray, List.set_cons_zero, List.set_cons_succ]
      refine Walk.take (v := ?_) rfl (by rfl) ?_ ?_
      rotate_left
      · (intro w' hSw; (try dsimp only at hSw); go_simp <;> with_reducible rfl)
      try simp only [Act.put, List.setIfInBounds_toArray, List.set_cons_zero, List.set_cons_succ]
      refine Walk.take (v := ?_) rfl (by rfl) ?_ ?_
      rotate_left
      · (intro w' hSw; (try dsimp only at hSw); go_simp <;> with_reducible rfl)
      try simp only [Act.put, List.setIfInBounds_toArray, List.set_cons_zero, List.set_cons_succ]
      refine Walk.take (v := ?_) rfl (by rfl) ?_ ?_
      rotate_left
      · (intro w' hSw; (try dsimp only at hSw); go_simp <;> with_reducible rfl)
      try simp only [Act.put, List.setIfInBounds_toArray, List.set_cons_zero, List.set_cons_succ]
      refine Walk.take (v := ?_) rfl (by rfl) ?_ ?_
      rotate_left
      · (intro w' hSw; (try dsimp only at hSw); go_simp <;> with_reducible rfl)
      try simp only [Act.put, List.setIfInBounds_toArray, List.set_cons_zero, List.set_cons_succ]
      refine Walk.act rfl (by rfl) (fun K hK => ?_)
      go_simp
      go_at_call 11
      refine (qmul_any (w := y4) (rR9.below X4) (rR9.below X4) (by decide) (by decide) (by decide) (hT.below (bel_trans HB9.out X4))).mono ?_
      rintro e y5 ⟨x5', y5', z5', r5, rfl, hh5⟩
      obtain ⟨s5', A5', n5', c5', B5', m5', d5', rfl, rfl, rfl⟩ := r5.form
      have X5 : Below W.heap.size W y5 := bel_trans X4 hh5
      refine hK.out _ _ (HK.out _ X5) ?_
      clear hK K
      try simp only [Act.put, List.setIfInBounds_toArray, List.set_cons_zero, List.set_cons_succ]
      refine Walk.act rfl (by rfl) (fun K hK => ?_)
      go_simp
      go_at_call 17
      refine (qcmp_any (w := y5) r5.v (rX9.below X5) (by decide) (by decide)).mono ?_
      rintro e y6 ⟨rfl, hh6⟩
      have X6 : Below W.heap.size W y6 := bel_trans X5 hh6
      refine hK.out _ _ (HK.out _ X6) ?_
      clear hK K
      try simp only [Act.put, List.setIfInBounds_toArray, List.set_cons_zero, List.set_cons_succ]
      refine Walk.take (v := ?_) rfl (by rfl) ?_ ?_
      rotate_left
      · (intro w' hSw; (try dsimp only at hSw); go_simp <;> with_reducible rfl)
      try simp only [Act.put, List.setIfInBounds_toArray, List.set_cons_zero, List.set_cons_succ]
      refine Walk.take (v := ?_) rfl (by rfl) ?_ ?_
      rotate_left
      · (intro w' hSw; (try dsimp only at hSw); go_simp <;> with_reducible rfl)
      try simp only [Act.put, List.setIfInBounds_toArray, List.set_cons_zero, List.set_cons_succ]
      refine Walk.take (v := ?_) rfl (by rfl) ?_ ?_
      rotate_left
      · (intro w' hSw; (try dsimp only at hSw); go_simp <;> with_reducible rfl)
      try simp only [Act.put, List.setIfInBounds_toArray, List.set_cons_zero, List.set_cons_succ]
      refine Walk.take (v := ?_) rfl (by rfl) ?_ ?_
      rotate_left
      · (intro w' hSw; (try dsimp only at hSw); go_simp <;> with_reducible rfl)
      try simp only [Act.put, List.setIfInBounds_toArray, List.set_cons_zero, List.set_cons_succ]
      refine Walk.take (v := ?_) rfl (by rfl) ?_ ?_
      rotate_left
      · (intro w' hSw; (try dsimp only at hSw); go_simp <;> with_reducible rfl)
      try simp only [Act.put, List.setIfInBounds_toArray, List.set_cons_zero, List.set_cons_succ]
      refine Walk.take (v := ?_) rfl (by rfl) ?_ ?_
      rotate_left
      · (intro w' hSw; (try dsimp only at hSw); go_simp <;> with_reducible rfl)
      try simp only [Act.put, List.setIfInBounds_toArray, List.set_cons_zero, List.set_cons_succ]
      refine Walk.take (v := ?_) rfl (by rfl) ?_ ?_
      rotate_left
      · (intro w' hSw; (try dsimp only at hSw); go_simp <;> with_reducible rfl)
      try simp only [Act.put, List.setIfInBounds_toArray, List.set_cons_zero, List.set_cons_succ]
      refine Walk.skip rfl (by rfl) ?_
      try simp only [Act.put, List.setIfInBounds_toArray, List.set_cons_zero, List.set_cons_succ]
      refine Walk.skip rfl (by rfl) ?_
      try simp only [Act.put, List.setIfInBounds_toArray, List.set_cons_zero, List.set_cons_succ]
      refine Walk.skip rfl (by rfl) ?_
      try simp only [Act.put, List.setIfInBounds_toArray, List.set_cons_zero, List.set_cons_succ]
      refine Walk.take (v := ?_) rfl (by rfl) ?_ ?_
      rotate_left
      · (intro w' hSw; (try dsimp only at hSw); go_simp <;> with_reducible rfl)
      try simp only [Act.put, List.setIfInBounds_toArray, List.set_cons_zero, List.set_cons_succ]
      refine Walk.take (v := ?_) rfl (by rfl) ?_ ?_
      rotate_left
      · (intro w' hSw; (try dsimp only at hSw); go_simp <;> with_reducible rfl)
      try simp only [Act.put, List.setIfInBounds_toArray, List.set_cons_zero, List.set_cons_succ]
      refine Walk.take (v := ?_) rfl (by rfl) ?_ ?_
      rotate_left
      · (intro w' hSw; (try dsimp only at hSw); go_simp <;> with_reducible rfl)
      try simp only [Act.put, List.setIfInBounds_toArray, List.set_cons_zero, List.set_cons_succ]
      refine Walk.take (v := ?_) rfl (by rfl) ?_ ?_
      rotate_left
      · (intro w' hSw; (try dsimp only at hSw); go_simp <;> with_reducible rfl)
      try simp only [Act.put, List.setIfInBounds_toArray, List.set_cons_zero, List.set_cons_succ]
      refine Walk.take (v := ?_) rfl (by rfl) ?_ ?_
      rotate_left
      · (intro w' hSw; (try dsimp only at hSw); go_simp <;> with_reducible rfl)
      try simp only [Act.put, List.setIfInBounds_toArray, List.set_cons_zero, List.set_cons_succ]
      refine Walk.take (v := ?_) rfl (by rfl) ?_ ?_
      rotate_left
      · (intro w' hSw; (try dsimp only at hSw); go_simp <;> with_reducible rfl)
      try simp only [Act.put, List.setIfInBounds_toArray, List.set_cons_zero, List.set_cons_succ]
      refine Walk.take (v := ?_) rfl (by rfl) ?_ ?_
      rotate_left
      · (intro w' hSw; (try dsimp only at hSw); go_simp <;> with_reducible rfl)
      try simp only [Act.put, List.setIfInBounds_toArray, List.set_cons_zero, List.set_cons_succ]
      refine Walk.take (v := ?_) rfl (by rfl) ?_ ?_
      rotate_left
      · (intro w' hSw; (try dsimp only at hSw); go_simp <;> with_reducible rfl)
      try simp only [Act.put, List.setIfInBounds_toArray, List.set_cons_zero, List.set_cons_succ]
      refine Walk.take (v := ?_) rfl (by rfl) ?_ ?_
      rotate_left
      · (intro w' hSw; (try dsimp only at hSw); go_simp <;> with_reducible rfl)
      try simp only [Act.put, List.setIfInBounds_toArray, List.set_cons_zero, List.set_cons_succ]
      refine Walk.act rfl (by rfl) (fun K hK => ?_)
      go_simp
      go_at_call 16
      refine (NXU.out _).mono ?_
      rintro e y7 ⟨rfl, rfl⟩
      have X7 : Below W.heap.size W y6 := X6
      refine hK.out _ _ (HK.out _ X7) ?_
      clear hK K
      try simp only [Act.put, List.setIfInBounds_toArray, List.set_cons_zero, List.set_cons_succ]
      refine Walk.take (v := ?_) rfl (by rfl) ?_ ?_
      rotate_left
      · (intro w' hSw; (try dsimp only at hSw); go_simp <;> with_reducible rfl)
      try simp only [Act.put, List.setIfInBounds_toArray, List.set_cons_zero, List.set_cons_succ]
      refine Walk.take (v := ?_) rfl (by rfl) ?_ ?_
      rotate_left
      · (intro w' hSw; (try dsimp only at hSw); go_simp <;> with_reducible rfl)
      try simp only [Act.put, List.setIfInBounds_toArray, List.set_cons_zero, List.set_cons_succ]
      refine Walk.take (v := ?_) rfl (by rfl) ?_ ?_
      rotate_left
      · (intro w' hSw; (try dsimp only at hSw); go_simp <;> with_reducible rfl)
      try simp only [Act.put, List.setIfInBounds_toArray, List.set_cons_zero, List.set_cons_succ]
      refine Walk.take (v := ?_) rfl (by rfl) ?_ ?_
      rotate_left
      · (intro w' hSw; (try dsimp only at hSw); go_simp <;> with_reducible rfl)
      try simp only [Act.put, List.setIfInBounds_toArray, List.set_cons_zero, List.set_cons_succ]
      refine Walk.done ?_
      have HE := Lib.hid (bel_trans HB9.out X7)
      go_wp2_with fail
      go_ret
      exact ⟨rfl, HE.out⟩
  · obtain rfl : Z = U := oneof.resolve_left zd
    have du : ¬ D = Z := fun h => zd h.symm
    have hn : fNx D = Z := step.resolve_left du
    have NXU := NX
    rw [hn] at NXU
    have tzd : (Z == D) = false := by simpa using zd
    have tdu : (D == Z) = false := by simpa using du
    clear oneof step hn du zd NX
    refine region_plan (S := fun w' => w'.cell? ⟨gx, 0, none⟩ = some (.bool s2) ∧ w'.cell? ⟨gx, 1, none⟩ = some (.slice A2 n2 c2) ∧ w'.cell? ⟨gx, 2, none⟩ = some (.slice F2 m2 d2) ∧ w'.cell? ⟨gp, 0, none⟩ = some (.bool s7) ∧ w'.cell? ⟨gp, 1, none⟩ = some (.slice A7 n7 c7) ∧ w'.cell? ⟨gp, 2, none⟩ = some (.slice F7 m7 d7) ∧ w'.cell? ⟨gq, 0, none⟩ = some (.bool s8) ∧ w'.cell? ⟨gq, 1, none⟩ = some (.slice A8 n8 c8) ∧ w'.cell? ⟨gq, 2, none⟩ = some (.slice F8 m8 d8) ∧ w'.cell? ⟨gr, 0, none⟩ = some (.bool s9) ∧ w'.cell? ⟨gr, 1, none⟩ = some (.slice A9 n9 c9) ∧ w'.cell? ⟨gr, 2, none⟩ = some (.slice F9 m9 d9)) _ [(0, true), (1, true), (2, true), (3, true), (5, true), (4, false), (6, false), (7, true), (8, true), (9, true), (10, true), (11, true), (13, true), (12, false), (14, false), (15, true), (16, true), (17, true), (18, true), (19, true), (21, true), (20, false), (22, false), (23, true), (24, true), (25, true), (26, true), (27, true), (28, true), (29, true), (30, true), (31, true), (32, true), (33, true), (34, true), (35, true), (36, true), (37, true), (38, true), (39, true), (40, true), (42, true), (41, false), (43, true), (44, true), (45, true), (46, true)] (by kernel_rfl) (by kernel_rfl) rfl (by kernel_rfl) (by kernel_rfl) (fun _ _ d _ _ h => by cases d <;> exact h) (HK.out _ (bel_drew (Below.refl _ _))) ?_
    refine Walk.take (v := ?_) rfl (by rfl) ?_ ?_
    rotate_left
    · (intro w' hSw; (try dsimp only at hSw); go_simp <;> with_reducible rfl)
    try simp only [Act.put, List.setIfInBounds_toArray, List.set_cons_zero, List.set_cons_succ]
    refine Walk.take (v := ?_) rfl (by rfl) ?_ ?_
    rotate_left
    · (intro w' hSw; (try dsimp only at hSw); go_simp <;> with_reducible rfl)
    try simp only [Act.put, List.setIfInBounds_toArray, List.set_cons_zero, List.set_cons_succ]
    refine Walk.take (v := ?_) rfl (by rfl) ?_ ?_
    rotate_left
    · (intro w' hSw; (try dsimp only at hSw); go_simp <;> with_reducible rfl)
    try simp only [Act.put, List.setIfInBounds_toArray, List.set_cons_zero, List.set_cons_succ]
    refine Walk.take (v := ?_) rfl (by rfl) ?_ ?_
    rotate_left
    · (intro w' hSw; (try dsimp only at hSw); go_simp <;> with_reducible rfl)
    try simp only [Act.put, List.setIfInBounds_toArray, List.set_cons_zero, List.set_cons_succ]
    refine Walk.take (v := ?_) rfl (by rfl) ?_ ?_
    rotate_left
    · (intro w' hSw; (try dsimp only at hSw); go_simp <;> with_reducible rfl)
    try simp only [Act.put, List.setIfInBounds_toArray, List.set_cons_zero, List.set_cons_succ]
    refine Walk.act rfl (by rfl) (fun K hK => ?_)
    go_simp
    go_at_call 11
    refine (qmul_any (w := W.drew) (rP9.below (bel_drew (Below.refl W.heap.size W))) (rP9.below (bel_drew (Below.refl W.heap.size W))) (by decide) (by decide) (by decide) (hT.below (bel_trans HB9.out (bel_drew (Below.refl W.heap.size W))))).mono ?_
    rintro e y1 ⟨x1', y1', z1', r1, rfl, hh1⟩
    obtain ⟨s1', A1', n1', c1', B1', m1', d1', rfl, rfl, rfl⟩ := r1.form
    have X1 : Below W.heap.size W y1 := bel_trans (bel_drew (Below.refl W.heap.size W)) hh1
    refine hK.out _ _ (HK.out _ X1) ?_
    clear hK K
    try simp only [Act.put, List.setIfInBounds_toArray, List.set_cons_zero, List.set_cons_succ]
    refine Walk.act rfl (by rfl) (fun K hK => ?_)
    go_simp
    go_at_call 17
    refine (qcmp_any (w := y1) r1.v (rX9.below X1) (by decide) (by decide)).mono ?_
    rintro e y2 ⟨rfl, hh2⟩
    have X2 : Below W.heap.size W y2 := bel_trans X1 hh2
    refine hK.out _ _ (HK.out _ X2) ?_
    clear hK K
    try simp only [Act.put, List.setIfInBounds_toArray, List.set_cons_zero, List.set_cons_succ]
    refine Walk.take (v := ?_) rfl (by rfl) ?_ ?_
    rotate_left
    · (intro w' hSw; (try dsimp only at hSw); go_simp <;> with_reducible rfl)
    try simp only [Act.put, List.setIfInBounds_toArray, List.set_cons_zero, List.set_cons_succ]
    refine Walk.take (v := ?_) rfl (by rfl) ?_ ?_
    rotate_left
    · (intro w' hSw; (try dsimp only at hSw); go_simp <;> with_reducible rfl)
    try simp only [Act.put, List.setIfInBounds_toArray, List.set_cons_zero, List.set_cons_succ]
    refine Walk.take (v := ?_) rfl (by rfl) ?_ ?_
    rotate_left
    · (intro w' hSw; (try dsimp only at hSw); go_simp <;> with_reducible rfl)
    try simp only [Act.put, List.setIfInBounds_toArray, List.set_cons_zero, List.set_cons_succ]
    refine Walk.take (v := ?_) rfl (by rfl) ?_ ?_
    rotate_left
    · (intro w' hSw; (try dsimp only at hSw); go_simp <;> with_reducible rfl)
    try simp only [Act.put, List.setIfInBounds_toArray, List.set_cons_zero, List.set_cons_succ]
    refine Walk.take (v := ?_) rfl (by rfl) ?_ ?_
    rotate_left
    · (intro w' hSw; (try dsimp only at hSw); go_simp <;> with_reducible rfl)
    try simp only [Act.put, List.setIfInBounds_toArray, List.set_cons_zero, List.set_cons_succ]
    refine Walk.take (v := ?_) rfl (by rfl) ?_ ?_
    rotate_left
    · (intro w' hSw; (try dsimp only at hSw); go_simp <;> with_reducible rfl)
    try simp only [Act.put, List.setIfInBounds_toArray, List.set_cons_zero, List.set_cons_succ]
    refine Walk.act rfl (by rfl) (fun K hK => ?_)
    go_simp
    go_at_call 11
    refine (qmul_any (w := y2) (rQ9.below X2) (rQ9.below X2) (by decide) (by decide) (by decide) (hT.below (bel_trans HB9.out X2))).mono ?_
    rintro e y3 ⟨x3', y3', z3', r3, rfl, hh3⟩
    obtain ⟨s3', A3', n3', c3', B3', m3', d3', rfl, rfl, rfl⟩ := r3.form
    have X3 : Below W.heap.size W y3 := bel_trans X2 hh3
    refine hK.out _ _ (HK.out _ X3) ?_
    clear hK K
    try simp only [Act.put, List.setIfInBounds_toArray, List.set_cons_zero, List.set_cons_succ]
    refine Walk.act rfl (by rfl) (fun K hK => ?_)
    go_simp
    go_at_call 17
    refine (qcmp_any (w := y3) r3.v (rX9.below X3) (by decide) (by decide)).mono ?_
    rintro e y4 ⟨rfl, hh4⟩
    have X4 : Below W.heap.size W y4 := bel_trans X3 hh4
    refine hK.out _ _ (HK.out _ X4) ?_
    clear hK K
    try simp only [Act.put, List.setIfInBounds_toArray, List.set_cons_zero, List.set_cons_succ]
    refine Walk.take (v := ?_) rfl (by rfl) ?_ ?_
    rotate_left
    · (intro w' hSw; (try dsimp only at hSw); go_simp <;> with_reducible rfl)
    try simp only [Act.put, List.setIfInBounds_toArray, List.set_cons_zero, List.set_cons_succ]
    refine Walk.take (v := ?_) rfl (by rfl) ?_ ?_
    rotate_left
    · (intro w' hSw; (try dsimp only at hSw); go_simp <;> with_reducible rfl)
    try simp only [Act.put, List.setIfInBounds_toArray, List.set_cons_zero, List.set_cons_succ]
    refine Walk.take (v := ?_) rfl (by rfl) ?_ ?_
    rotate_left
    · (intro w' hSw; (try dsimp only at hSw); go_simp <;> with_reducible rfl)
    try simp only [Act.put, List.setIfInBounds_toArray, List.set_cons_zero, List.set_cons_succ]
    refine Walk.take (v := ?_) rfl (by rfl) ?_ ?_
    rotate_left
    · (intro w' hSw; (try dsimp only at hSw); go_simp <;> with_reducible rfl)
    try simp only [Act.put, List.setIfInBounds_toArray, List.set_cons_zero, List.set_cons_succ]
    refine Walk.take (v := ?_) rfl (by rfl) ?_ ?_
    rotate_left
    · (intro w' hSw; (try dsimp only at hSw); go_simp <;> with_reducible rfl)
    try simp only [Act.put, List.setIfInBounds_toArray, List.set_cons_zero, List.set_cons_succ]
    refine Walk.take (v := ?_) rfl (by rfl) ?_ ?_
    rotate_left
    · (intro w' hSw; (try dsimp only at hSw); go_simp <;> with_reducible rfl)
    try simp only [Act.put, List.setIfInBounds_toArray, List.set_cons_zero, List.set_cons_succ]
    refine Walk.act rfl (by rfl) (fun K hK => ?_)
    go_simp
    go_at_call 11
    refine (qmul_any (w := y4) (rR9.below X4) (rR9.below X4) (by decide) (by decide) (by decide) (hT.below (bel_trans HB9.out X4))).mono ?_
    rintro e y5 ⟨x5', y5', z5', r5, rfl, hh5⟩
    obtain ⟨s5', A5', n5', c5', B5', m5', d5', rfl, rfl, rfl⟩ := r5.form
    have X5 : Below W.heap.size W y5 := bel_trans X4 hh5
    refine hK.out _ _ (HK.out _ X5) ?_
    clear hK K
    try simp only [Act.put, List.setIfInBounds_toArray, List.set_cons_zero, List.set_cons_succ]
    refine Walk.act rfl (by rfl) (fun K hK => ?_)
    go_simp
    go_at_call 17
    refine (qcmp_any (w := y5) r5.v (rX9.below X5) (by decide) (by decide)).mono ?_
    rintro e y6 ⟨rfl, hh6⟩
    have X6 : Below W.heap.size W y6 := bel_trans X5 hh6
    refine hK.out _ _ (HK.out _ X6) ?_
    clear hK K
    try simp only [Act.put, List.setIfInBounds_toArray, List.set_cons_zero, List.set_cons_succ]
    refine Walk.take (v := ?_) rfl (by rfl) ?_ ?_
    rotate_left
    · (intro w' hSw; (try dsimp only at hSw); go_simp <;> with_reducible rfl)
    try simp only [Act.put, List.setIfInBounds_toArray, List.set_cons_zero, List.set_cons_succ]
    refine Walk.take (v := ?_) rfl (by rfl) ?_ ?_
    rotate_left
    · (intro w' hSw; (try dsimp only at hSw); go_simp <;> with_reducible rfl)
    try simp only [Act.put, List.setIfInBounds_toArray, List.set_cons_zero, List.set_cons_succ]
    refine Walk.take (v := ?_) rfl (by rfl) ?_ ?_
    rotate_left
    · (intro w' hSw; (try dsimp only at hSw); go_simp <;> with_reducible rfl)
    try simp only [Act.put, List.setIfInBounds_toArray, List.set_cons_zero, List.set_cons_succ]
    refine Walk.take (v := ?_) rfl (by rfl) ?_ ?_
    rotate_left
    · (intro w' hSw; (try dsimp only at hSw); go_simp <;> with_reducible rfl)
    try simp only [Act.put, List.setIfInBounds_toArray, List.set_cons_zero, List.set_cons_succ]
    refine Walk.take (v := ?_) rfl (by rfl) ?_ ?_
    rotate_left
    · (intro w' hSw; (try dsimp only at hSw); go_simp <;> with_reducible rfl)
    try simp only [Act.put, List.setIfInBounds_toArray, List.set_cons_zero, List.set_cons_succ]
    refine Walk.take (v := ?_) rfl (by rfl) ?_ ?_
    rotate_left
    · (intro w' hSw; (try dsimp only at hSw); go_simp <;> with_reducible rfl)
    try simp only [Act.put, List.setIfInBounds_toArray, List.set_cons_zero, List.set_cons_succ]
    refine Walk.take (v := ?_) rfl (by rfl) ?_ ?_
    rotate_left
    · (intro w' hSw; (try dsimp only at hSw); go_simp <;> with_reducible rfl)
    try simp only [Act.put, List.setIfInBounds_toArray, List.set_cons_zero, List.set_cons_succ]
    refine Walk.take (v := ?_) rfl (by rfl) ?_ ?_
    rotate_left
    · (intro w' hSw; (try dsimp only at hSw); go_simp <;> with_reducible rfl)
    try simp only [Act.put, List.setIfInBounds_toArray, List.set_cons_zero, List.set_cons_succ]
    refine Walk.take (v := ?_) rfl (by rfl) ?_ ?_
    rotate_left
    · (intro w' hSw; (try dsimp only at hSw); go_simp <;> with_reducible rfl)
    try simp only [Act.put, List.setIfInBounds_toArray, List.set_cons_zero, List.set_cons_succ]
    refine Walk.take (v := ?_) rfl (by rfl) ?_ ?_
    rotate_left
    · (intro w' hSw; (try dsimp only at hSw); go_simp <;> with_reducible rfl)
    try simp only [Act.put, List.setIfInBounds_toArray, List.set_cons_zero, List.set_cons_succ]
    refine Walk.take (v := ?_) rfl (by rfl) ?_ ?_
    rotate_left
    · (intro w' hSw; (try dsimp only at hSw); go_simp <;> with_reducible rfl)
    try simp only [Act.put, List.setIfInBounds_toArray, List.set_cons_zero, List.set_cons_succ]
    refine Walk.take (v := ?_) rfl (by rfl) ?_ ?_
    rotate_left
    · (intro w' hSw; (try dsimp only at hSw); go_simp <;> with_reducible rfl)
    try simp only [Act.put, List.setIfInBounds_toArray, List.set_cons_zero, List.set_cons_succ]
    refine Walk.take (v := ?_) rfl (by rfl) ?_ ?_
    rotate_left
    · (intro w' hSw; (try dsimp only at hSw); go_simp <;> with_reducible rfl)
    try simp only [Act.put, List.setIfInBounds_toArray, List.set_cons_zero, List.set_cons_succ]
    refine Walk.take (v := ?_) rfl (by rfl) ?_ ?_
    rotate_left
    · (intro w' hSw; (try dsimp only at hSw); go_simp <;> with_reducible rfl)
    try simp only [Act.put, List.setIfInBounds_toArray, List.set_cons_zero, List.set_cons_succ]
    refine Walk.take (v := ?_) rfl (by rfl) ?_ ?_
    rotate_left
    · (intro w' hSw; (try dsimp only at hSw); go_simp <;> with_reducible rfl)
    try simp only [Act.put, List.setIfInBounds_toArray, List.set_cons_zero, List.set_cons_succ]
    refine Walk.take (v := ?_) rfl (by rfl) ?_ ?_
    rotate_left
    · (intro w' hSw; (try dsimp only at hSw); go_simp <;> with_reducible rfl)
    try simp only [Act.put, List.setIfInBounds_toArray, List.set_cons_zero, List.set_cons_succ]
    refine Walk.take (v := ?_) rfl (by rfl) ?_ ?_
    rotate_left
    · (intro w' hSw; (try dsimp only at hSw); go_simp <;> with_reducible rfl)
    try simp only [Act.put, List.setIfInBounds_toArray, List.set_cons_zero, List.set_cons_succ]
    refine Walk.take (v := ?_) rfl (by rfl) ?_ ?_
    rotate_left
    · (intro w' hSw; (try dsimp only at hSw); go_simp <;> with_reducible rfl)
    try simp only [Act.put, List.setIfInBounds_toArray, List.set_cons_zero, List.set_cons_succ]
    refine Walk.take (v := ?_) rfl (by rfl) ?_ ?_
    rotate_left
    · (intro w' hSw; (try dsimp only at hSw); go_simp <;> with_reducible rfl)
    try simp only [Act.put, List.setIfInBounds_toArray, List.set_cons_zero, List.set_cons_succ]
    refine Walk.act rfl (by rfl) (fun K hK => ?_)
    go_simp
    go_at_call 16
    refine (NXU.out _).mono ?_
    rintro e y7 ⟨rfl, rfl⟩
    have X7 : Below W.heap.size W y6 := X6
    refine hK.out _ _ (HK.out _ X7) ?_
    clear hK K
    try simp only [Act.put, List.setIfInBounds_toArray, List.set_cons_zero, List.set_cons_succ]
    refine Walk.take (v := ?_) rfl (by rfl) ?_ ?_
    rotate_left
    · (intro w' hSw; (try dsimp only at hSw); go_simp <;> with_reducible rfl)
    try simp only [Act.put, List.setIfInBounds_toArray, List.set_cons_zero, List.set_cons_succ]
    refine Walk.take (v := ?_) rfl (by rfl) ?_ ?_
    rotate_left
    · (intro w' hSw; (try dsimp only at hSw); go_simp <;> with_reducible rfl)
    try simp only [Act.put, List.setIfInBounds_toArray, List.set_cons_zero, List.set_cons_succ]
    refine Walk.take (v := ?_) rfl (by rfl) ?_ ?_
    rotate_left
    · (intro w' hSw; (try dsimp only at hSw); go_simp <;> with_reducible rfl)
    try simp only [Act.put, List.setIfInBounds_toArray, List.set_cons_zero, List.set_cons_succ]
    refine Walk.take (v := ?_) rfl (by rfl) ?_ ?_
    rotate_left
    · (intro w' hSw; (try dsimp only at hSw); go_simp <;> with_reducible rfl)
    try simp only [Act.put, List.setIfInBounds_toArray, List.set_cons_zero, List.set_cons_succ]
    refine Walk.done ?_
    have HE := Lib.hid (bel_trans HB9.out X7)
    go_wp2_with fail
    go_ret
    exact ⟨rfl, HE.out⟩

theorem lsquares_walk (a : Int) (w : World) (ha : Word a) (hT : TabOk w) :
    Calls Tryz.prog 4 #[.int .u64 a] w fun x w' => x = .returned (.bool true) ∧ Below w.heap.size w w' := by
  by_cases h : fC a < 3
  · by_cases k : sgn (fV a) ≤ 0
    · exact lsquares_low a w ha h k hT
    · exact lsquares_good a w ha h k hT
  · exact lsquares_bad a w ha h hT
end Go.Proofs.YtkdckclefegocaaGreatDoor
