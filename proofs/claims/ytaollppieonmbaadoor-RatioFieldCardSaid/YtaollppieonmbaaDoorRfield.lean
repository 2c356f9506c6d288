/-
  The walk of RatioField: for all fractions the law answers true, and nothing that was there has changed. Condition: the table of math/bits stands in its variable.
-/
import Derived.Test.YtaollppieonmbaaDoorQin
namespace Go.Proofs.YtaollppieonmbaaDoor
open Go.RowKit
set_option maxRecDepth 100000

set_option maxHeartbeats 40000000 in
theorem rfield_walk (sa : Bool) (Aa Ba : Option Addr) (na ca ma da : Nat) (sb : Bool) (Ab Bb : Option Addr) (nb cb mb db : Nat) (sc : Bool) (Ac Bc : Option Addr) (nc cc mc dc : Nat) (w : World) (ha1 : NatIn w Aa na ca) (ha2 : NatIn w Ba ma da) (hb1 : NatIn w Ab nb cb) (hb2 : NatIn w Bb mb db) (hc1 : NatIn w Ac nc cc) (hc2 : NatIn w Bc mc dc) (hT : TabOk w) :
    Calls Tryd.prog 7 #[.agg #[.bool sa, .slice Aa na ca, .slice Ba ma da], .agg #[.bool sb, .slice Ab nb cb, .slice Bb mb db], .agg #[.bool sc, .slice Ac nc cc, .slice Bc mc dc]] w fun e w' => e = .returned (.bool true) ∧ Below w.heap.size w w' := by
  go_enter Tryd.func7, Tryd.ntmps7
  go_wp2_with fail
  refine (works3 _ (hT.below (bel_3 _ _ _ _))).mono ?_
  rintro e W1 ⟨rfl, hb1⟩
  have Ka := Blk.in31 hb1
  have Kb := Blk.in32 hb1
  have Kc := Blk.in33 hb1
  have HB1 := Lib.hid (bel_trans (bel_3 _ _ _ _) hb1)
  clear hb1
  generalize w.heap.size + 1 + 1 = gc at *
  generalize w.heap.size + 1 = gb at *
  obtain ⟨q0a, q1a, q2a, -, -, -⟩ := Ka.three
  obtain ⟨q0b, q1b, q2b, -, -, -⟩ := Kb.three
  obtain ⟨q0c, q1c, q2c, -, -, -⟩ := Kc.three
  go_wp2_with fail
  refine (smallR_any _ 3 3 [⟨sa, Aa, na, ca, Ba, ma, da⟩, ⟨sb, Ab, nb, cb, Bb, mb, db⟩, ⟨sc, Ac, nc, cc, Bc, mc, dc⟩] rfl (by decide) _ (rdr_n3 W1 _ _ _ _)).mono ?_
  rintro e W2 ⟨rfl, rfl⟩
  clear q0a q1a q2a
  clear q0b q1b q2b
  clear q0c q1c q2c
  have La := Ka.alloc (.cells #[.bool sa, .slice Aa na ca, .slice Ba ma da, .bool sb, .slice Ab nb cb, .slice Bb mb db, .bool sc, .slice Ac nc cc, .slice Bc mc dc] 25)
  clear Ka
  have Lb := Kb.alloc (.cells #[.bool sa, .slice Aa na ca, .slice Ba ma da, .bool sb, .slice Ab nb cb, .slice Bb mb db, .bool sc, .slice Ac nc cc, .slice Bc mc dc] 25)
  clear Kb
  have Lc := Kc.alloc (.cells #[.bool sa, .slice Aa na ca, .slice Ba ma da, .bool sb, .slice Ab nb cb, .slice Bb mb db, .bool sc, .slice Ac nc cc, .slice Bc mc dc] 25)
  clear Kc
  have HB2 := Lib.hid (bel_alloc HB1.out (.cells #[.bool sa, .slice Aa na ca, .slice Ba ma da, .bool sb, .slice Ab nb cb, .slice Bb mb db, .bool sc, .slice Ac nc cc, .slice Bc mc dc] 25))
  clear HB1
  generalize W1.alloc (.cells #[.bool sa, .slice Aa na ca, .slice Ba ma da, .bool sb, .slice Ab nb cb, .slice Bb mb db, .bool sc, .slice Ac nc cc, .slice Bc mc dc] 25) = W2 at *
  rw [small3]
  by_cases hs : na ≤ 4 ∧ ma ≤ 4 ∧ nb ≤ 4 ∧ mb ≤ 4 ∧ nc ≤ 4 ∧ mc ≤ 4
  · rw [decide_eq_true (by exact hs)]
    obtain ⟨ra, fa⟩ := in_rv (L := 4) sa ha1 ha2 hs.1 hs.2.1
    have ea := fa.below HB2.out
    clear fa ha1 ha2
    obtain ⟨rb, fb⟩ := in_rv (L := 4) sb hb1 hb2 hs.2.2.1 hs.2.2.2.1
    have eb := fb.below HB2.out
    clear fb hb1 hb2
    obtain ⟨rc, fc⟩ := in_rv (L := 4) sc hc1 hc2 hs.2.2.2.2.1 hs.2.2.2.2.2
    have ec := fc.below HB2.out
    clear fc hc1 hc2
    clear hs
    go_upto_region 7 with fail
    obtain ⟨q0a, q1a, q2a, -, -, -⟩ := La.three
    obtain ⟨q0b, q1b, q2b, -, -, -⟩ := Lb.three
    obtain ⟨q0c, q1c, q2c, -, -, -⟩ := Lc.three
    have HK1 : Hid (∀ w', Below W2.heap.size W2 w' → w'.cell? ⟨w.heap.size, 0, none⟩ = some (.bool sa) ∧ w'.cell? ⟨w.heap.size, 1, none⟩ = some (.slice Aa na ca) ∧ w'.cell? ⟨w.heap.size, 2, none⟩ = some (.slice Ba ma da) ∧ w'.cell? ⟨gb, 0, none⟩ = some (.bool sb) ∧ w'.cell? ⟨gb, 1, none⟩ = some (.slice Ab nb cb) ∧ w'.cell? ⟨gb, 2, none⟩ = some (.slice Bb mb db) ∧ w'.cell? ⟨gc, 0, none⟩ = some (.bool sc) ∧ w'.cell? ⟨gc, 1, none⟩ = some (.slice Ac nc cc) ∧ w'.cell? ⟨gc, 2, none⟩ = some (.slice Bc mc dc)) := fun w' hb => kps9 hb q0a q1a q2a q0b q1b q2b q0c q1c q2c
    clear q0a q1a q2a q0b q1b q2b q0c q1c q2c
    refine region_plan (S := fun w' => w'.cell? ⟨w.heap.size, 0, none⟩ = some (.bool sa) ∧ w'.cell? ⟨w.heap.size, 1, none⟩ = some (.slice Aa na ca) ∧ w'.cell? ⟨w.heap.size, 2, none⟩ = some (.slice Ba ma da) ∧ w'.cell? ⟨gb, 0, none⟩ = some (.bool sb) ∧ w'.cell? ⟨gb, 1, none⟩ = some (.slice Ab nb cb) ∧ w'.cell? ⟨gb, 2, none⟩ = some (.slice Bb mb db) ∧ w'.cell? ⟨gc, 0, none⟩ = some (.bool sc) ∧ w'.cell? ⟨gc, 1, none⟩ = some (.slice Ac nc cc) ∧ w'.cell? ⟨gc, 2, none⟩ = some (.slice Bc mc dc)) _ [(0, true), (1, true), (3, true), (4, true), (2, false), (5, false), (6, false), (7, true), (8, true), (9, true), (10, true), (12, true), (13, true), (11, false), (14, false), (15, false), (16, true), (17, true), (18, true)] (by kernel_rfl) (by kernel_rfl) rfl (by kernel_rfl) (by kernel_rfl) (fun _ _ d _ _ h => by cases d <;> exact h) (HK1.out _ (bel_drew (Below.refl _ _))) ?_
    refine Walk.take (v := ?_) rfl (by rfl) ?_ ?_
    rotate_left
    · (intro w' hSw; (try dsimp only at hSw); go_simp <;> with_reducible rfl)
    try simp only [Act.put, List.setIfInBounds_toArray, List.set_cons_zero, List.set_cons_succ]
    refine Walk.take (v := ?_) rfl (by rfl) ?_ ?_
    rotate_left
    · (intro w' hSw; (try dsimp only at hSw); go_simp <;> with_reducible rfl)
    try simp only [Act.put, List.setIfInBounds_toArray, List.set_cons_zero, List.set_cons_succ]
    refine Walk.take (v := ?_) rfl (by rfl) ?_ ?_
    rotate_left
    · (intro w' hSw; (try dsimp only at hSw); go_simp <;> with_reducible rfl)
    try simp only [Act.put, List.setIfInBounds_toArray, List.set_cons_zero, List.set_cons_succ]
    refine Walk.take (v := ?_) rfl (by rfl) ?_ ?_
    rotate_left
    · (intro w' hSw; (try dsimp only at hSw); go_simp <;> with_reducible rfl)
    try simp only [Act.put, List.setIfInBounds_toArray, List.set_cons_zero, List.set_cons_succ]
    refine Walk.act rfl (by rfl) (fun K hK => ?_)
    go_simp
    go_at_call 13
    refine (qadd_any (w := W2.drew) (ea.below (bel_drew (Below.refl W2.heap.size W2))) (eb.below (bel_drew (Below.refl W2.heap.size W2))) (by decide) (by decide) (by decide) (by decide) (hT.below (bel_trans HB2.out (bel_drew (Below.refl W2.heap.size W2))))).mono ?_
    rintro e t2_1 ⟨x2_1, y2_1, z2_1, r2_1, rfl, hb2_1⟩
    have X2_1 : Below W2.heap.size W2 t2_1 := bel_trans (bel_drew (Below.refl W2.heap.size W2)) hb2_1
    refine hK.out _ _ (HK1.out _ X2_1) ?_
    clear hK K
    try simp only [Act.put, List.setIfInBounds_toArray, List.set_cons_zero, List.set_cons_succ]
    refine Walk.act rfl (by rfl) (fun K hK => ?_)
    go_simp
    go_at_call 13
    refine (qadd_any (w := t2_1) (eb.below X2_1) (ea.below X2_1) (by decide) (by decide) (by decide) (by decide) (hT.below (bel_trans HB2.out X2_1))).mono ?_
    rintro e t2_2 ⟨x2_2, y2_2, z2_2, r2_2, rfl, hb2_2⟩
    have X2_2 : Below W2.heap.size W2 t2_2 := bel_trans X2_1 hb2_2
    refine hK.out _ _ (HK1.out _ X2_2) ?_
    clear hK K
    try simp only [Act.put, List.setIfInBounds_toArray, List.set_cons_zero, List.set_cons_succ]
    refine Walk.act rfl (by rfl) (fun K hK => ?_)
    go_simp
    go_at_call 25
    refine (qcmp_any (w := t2_2) (r2_1.below hb2_2).v r2_2.v (by decide) (by decide)).mono ?_
    rw [cmp_eq.2 (Rat.add_comm ra rb)]
    rintro e t2_3 ⟨rfl, hb2_3⟩
    have X2_3 : Below W2.heap.size W2 t2_3 := bel_trans X2_2 hb2_3
    refine hK.out _ _ (HK1.out _ X2_3) ?_
    clear hK K
    try simp only [Act.put, List.setIfInBounds_toArray, List.set_cons_zero, List.set_cons_succ]
    refine Walk.take (v := ?_) rfl (by rfl) ?_ ?_
    rotate_left
    · (intro w' hSw; (try dsimp only at hSw); go_simp <;> with_reducible rfl)
    try simp only [Act.put, List.setIfInBounds_toArray, List.set_cons_zero, List.set_cons_succ]
    refine Walk.take (v := ?_) rfl (by rfl) ?_ ?_
    rotate_left
    · (intro w' hSw; (try dsimp only at hSw); go_simp <;> with_reducible rfl)
    try simp only [Act.put, List.setIfInBounds_toArray, List.set_cons_zero, List.set_cons_succ]
    refine Walk.take (v := ?_) rfl (by rfl) ?_ ?_
    rotate_left
    · (intro w' hSw; (try dsimp only at hSw); go_simp <;> with_reducible rfl)
    try simp only [Act.put, List.setIfInBounds_toArray, List.set_cons_zero, List.set_cons_succ]
    refine Walk.take (v := ?_) rfl (by rfl) ?_ ?_
    rotate_left
    · (intro w' hSw; (try dsimp only at hSw); go_simp <;> with_reducible rfl)
    try simp only [Act.put, List.setIfInBounds_toArray, List.set_cons_zero, List.set_cons_succ]
    refine Walk.take (v := ?_) rfl (by rfl) ?_ ?_
    rotate_left
    · (intro w' hSw; (try dsimp only at hSw); go_simp <;> with_reducible rfl)
    try simp only [Act.put, List.setIfInBounds_toArray, List.set_cons_zero, List.set_cons_succ]
    refine Walk.take (v := ?_) rfl (by rfl) ?_ ?_
    rotate_left
    · (intro w' hSw; (try dsimp only at hSw); go_simp <;> with_reducible rfl)
    try simp only [Act.put, List.setIfInBounds_toArray, List.set_cons_zero, List.set_cons_succ]
    refine Walk.act rfl (by rfl) (fun K hK => ?_)
    go_simp
    go_at_call 17
    refine (qmul_any (w := t2_3) (ea.below X2_3) (eb.below X2_3) (by decide) (by decide) (by decide) (hT.below (bel_trans HB2.out X2_3))).mono ?_
    rintro e t2_4 ⟨x2_4, y2_4, z2_4, r2_4, rfl, hb2_4⟩
    have X2_4 : Below W2.heap.size W2 t2_4 := bel_trans X2_3 hb2_4
    refine hK.out _ _ (HK1.out _ X2_4) ?_
    clear hK K
    try simp only [Act.put, List.setIfInBounds_toArray, List.set_cons_zero, List.set_cons_succ]
    refine Walk.act rfl (by rfl) (fun K hK => ?_)
    go_simp
    go_at_call 17
    refine (qmul_any (w := t2_4) (eb.below X2_4) (ea.below X2_4) (by decide) (by decide) (by decide) (hT.below (bel_trans HB2.out X2_4))).mono ?_
    rintro e t2_5 ⟨x2_5, y2_5, z2_5, r2_5, rfl, hb2_5⟩
    have X2_5 : Below W2.heap.size W2 t2_5 := bel_trans X2_4 hb2_5
    refine hK.out _ _ (HK1.out _ X2_5) ?_
    clear hK K
    try simp only [Act.put, List.setIfInBounds_toArray, List.set_cons_zero, List.set_cons_succ]
    refine Walk.act rfl (by rfl) (fun K hK => ?_)
    go_simp
    go_at_call 25
    refine (qcmp_any (w := t2_5) (r2_4.below hb2_5).v r2_5.v (by decide) (by decide)).mono ?_
    rw [cmp_eq.2 (Rat.mul_comm ra rb)]
    rintro e t2_6 ⟨rfl, hb2_6⟩
    have X2_6 : Below W2.heap.size W2 t2_6 := bel_trans X2_5 hb2_6
    refine hK.out _ _ (HK1.out _ X2_6) ?_
    clear hK K
    try simp only [Act.put, List.setIfInBounds_toArray, List.set_cons_zero, List.set_cons_succ]
    refine Walk.take (v := ?_) rfl (by rfl) ?_ ?_
    rotate_left
    · (intro w' hSw; (try dsimp only at hSw); go_simp <;> with_reducible rfl)
    try simp only [Act.put, List.setIfInBounds_toArray, List.set_cons_zero, List.set_cons_succ]
    refine Walk.take (v := ?_) rfl (by rfl) ?_ ?_
    rotate_left
    · (intro w' hSw; (try dsimp only at hSw); go_simp <;> with_reducible rfl)
    try simp only [Act.put, List.setIfInBounds_toArray, List.set_cons_zero, List.set_cons_succ]
    refine Walk.take (v := ?_) rfl (by rfl) ?_ ?_
    rotate_left
    · (intro w' hSw; (try dsimp only at hSw); go_simp <;> with_reducible rfl)
    try simp only [Act.put, List.setIfInBounds_toArray, List.set_cons_zero, List.set_cons_succ]
    refine Walk.done ?_
    clear HK1
    have eax := ea.below X2_6
    clear ea
    have ebx := eb.below X2_6
    clear eb
    have ecx := ec.below X2_6
    clear ec
    have Lax := La.below X2_6 La.lt
    clear La
    have Lbx := Lb.below X2_6 Lb.lt
    clear Lb
    have Lcx := Lc.below X2_6 Lc.lt
    clear Lc
    have HB103 := Lib.hid (bel_trans HB2.out X2_6)
    clear HB2
    go_upto_region 8 with fail
    obtain ⟨q0a, q1a, q2a, -, -, -⟩ := Lax.three
    obtain ⟨q0b, q1b, q2b, -, -, -⟩ := Lbx.three
    obtain ⟨q0c, q1c, q2c, -, -, -⟩ := Lcx.three
    have HK4 : Hid (∀ w', Below t2_6.heap.size t2_6 w' → w'.cell? ⟨w.heap.size, 0, none⟩ = some (.bool sa) ∧ w'.cell? ⟨w.heap.size, 1, none⟩ = some (.slice Aa na ca) ∧ w'.cell? ⟨w.heap.size, 2, none⟩ = some (.slice Ba ma da) ∧ w'.cell? ⟨gb, 0, none⟩ = some (.bool sb) ∧ w'.cell? ⟨gb, 1, none⟩ = some (.slice Ab nb cb) ∧ w'.cell? ⟨gb, 2, none⟩ = some (.slice Bb mb db) ∧ w'.cell? ⟨gc, 0, none⟩ = some (.bool sc) ∧ w'.cell? ⟨gc, 1, none⟩ = some (.slice Ac nc cc) ∧ w'.cell? ⟨gc, 2, none⟩ = some (.slice Bc mc dc)) := fun w' hb => kps9 hb q0a q1a q2a q0b q1b q2b q0c q1c q2c
    clear q0a q1a q2a q0b q1b q2b q0c q1c q2c
    refine region_plan (S := fun w' => w'.cell? ⟨w.heap.size, 0, none⟩ = some (.bool sa) ∧ w'.cell? ⟨w.heap.size, 1, none⟩ = some (.slice Aa na ca) ∧ w'.cell? ⟨w.heap.size, 2, none⟩ = some (.slice Ba ma da) ∧ w'.cell? ⟨gb, 0, none⟩ = some (.bool sb) ∧ w'.cell? ⟨gb, 1, none⟩ = some (.slice Ab nb cb) ∧ w'.cell? ⟨gb, 2, none⟩ = some (.slice Bb mb db) ∧ w'.cell? ⟨gc, 0, none⟩ = some (.bool sc) ∧ w'.cell? ⟨gc, 1, none⟩ = some (.slice Ac nc cc) ∧ w'.cell? ⟨gc, 2, none⟩ = some (.slice Bc mc dc)) _ [(0, true), (1, true), (3, true), (5, true), (6, true), (7, true), (2, false), (4, false), (8, false), (9, false), (10, false), (11, true), (12, true), (13, true), (14, true), (16, true), (18, true), (19, true), (20, true), (15, false), (17, false), (21, false), (22, false), (23, false), (24, true), (25, true), (26, true)] (by kernel_rfl) (by kernel_rfl) rfl (by kernel_rfl) (by kernel_rfl) (fun _ _ d _ _ h => by cases d <;> exact h) (HK4.out _ (bel_drew (Below.refl _ _))) ?_
    refine Walk.take (v := ?_) rfl (by rfl) ?_ ?_
    rotate_left
    · (intro w' hSw; (try dsimp only at hSw); go_simp <;> with_reducible rfl)
    try simp only [Act.put, List.setIfInBounds_toArray, List.set_cons_zero, List.set_cons_succ]
    refine Walk.take (v := ?_) rfl (by rfl) ?_ ?_
    rotate_left
    · (intro w' hSw; (try dsimp only at hSw); go_simp <;> with_reducible rfl)
    try simp only [Act.put, List.setIfInBounds_toArray, List.set_cons_zero, List.set_cons_succ]
    refine Walk.take (v := ?_) rfl (by rfl) ?_ ?_
    rotate_left
    · (intro w' hSw; (try dsimp only at hSw); go_simp <;> with_reducible rfl)
    try simp only [Act.put, List.setIfInBounds_toArray, List.set_cons_zero, List.set_cons_succ]
    refine Walk.take (v := ?_) rfl (by rfl) ?_ ?_
    rotate_left
    · (intro w' hSw; (try dsimp only at hSw); go_simp <;> with_reducible rfl)
    try simp only [Act.put, List.setIfInBounds_toArray, List.set_cons_zero, List.set_cons_succ]
    refine Walk.take (v := ?_) rfl (by rfl) ?_ ?_
    rotate_left
    · (intro w' hSw; (try dsimp only at hSw); go_simp <;> with_reducible rfl)
    try simp only [Act.put, List.setIfInBounds_toArray, List.set_cons_zero, List.set_cons_succ]
    refine Walk.take (v := ?_) rfl (by rfl) ?_ ?_
    rotate_left
    · (intro w' hSw; (try dsimp only at hSw); go_simp <;> with_reducible rfl)
    try simp only [Act.put, List.setIfInBounds_toArray, List.set_cons_zero, List.set_cons_succ]
    refine Walk.act rfl (by rfl) (fun K hK => ?_)
    go_simp
    go_at_call 13
    refine (qadd_any (w := t2_6.drew) (eax.below (bel_drew (Below.refl t2_6.heap.size t2_6))) (ebx.below (bel_drew (Below.refl t2_6.heap.size t2_6))) (by decide) (by decide) (by decide) (by decide) (hT.below (bel_trans HB103.out (bel_drew (Below.refl t2_6.heap.size t2_6))))).mono ?_
    rintro e t5_1 ⟨x5_1, y5_1, z5_1, r5_1, rfl, hb5_1⟩
    have X5_1 : Below t2_6.heap.size t2_6 t5_1 := bel_trans (bel_drew (Below.refl t2_6.heap.size t2_6)) hb5_1
    refine hK.out _ _ (HK4.out _ X5_1) ?_
    clear hK K
    try simp only [Act.put, List.setIfInBounds_toArray, List.set_cons_zero, List.set_cons_succ]
    refine Walk.act rfl (by rfl) (fun K hK => ?_)
    go_simp
    go_at_call 13
    refine (qadd_any (w := t5_1) r5_1.v (ecx.below X5_1) (by decide) (by decide) (by decide) (by decide) (hT.below (bel_trans HB103.out X5_1))).mono ?_
    rintro e t5_2 ⟨x5_2, y5_2, z5_2, r5_2, rfl, hb5_2⟩
    have X5_2 : Below t2_6.heap.size t2_6 t5_2 := bel_trans X5_1 hb5_2
    refine hK.out _ _ (HK4.out _ X5_2) ?_
    clear hK K
    try simp only [Act.put, List.setIfInBounds_toArray, List.set_cons_zero, List.set_cons_succ]
    refine Walk.act rfl (by rfl) (fun K hK => ?_)
    go_simp
    go_at_call 13
    refine (qadd_any (w := t5_2) (ebx.below X5_2) (ecx.below X5_2) (by decide) (by decide) (by decide) (by decide) (hT.below (bel_trans HB103.out X5_2))).mono ?_
    rintro e t5_3 ⟨x5_3, y5_3, z5_3, r5_3, rfl, hb5_3⟩
    have X5_3 : Below t2_6.heap.size t2_6 t5_3 := bel_trans X5_2 hb5_3
    refine hK.out _ _ (HK4.out _ X5_3) ?_
    clear hK K
    try simp only [Act.put, List.setIfInBounds_toArray, List.set_cons_zero, List.set_cons_succ]
    refine Walk.act rfl (by rfl) (fun K hK => ?_)
    go_simp
    go_at_call 13
    refine (qadd_any (w := t5_3) (eax.below X5_3) r5_3.v (by decide) (by decide) (by decide) (by decide) (hT.below (bel_trans HB103.out X5_3))).mono ?_
    rintro e t5_4 ⟨x5_4, y5_4, z5_4, r5_4, rfl, hb5_4⟩
    have X5_4 : Below t2_6.heap.size t2_6 t5_4 := bel_trans X5_3 hb5_4
    refine hK.out _ _ (HK4.out _ X5_4) ?_
    clear hK K
    try simp only [Act.put, List.setIfInBounds_toArray, List.set_cons_zero, List.set_cons_succ]
    refine Walk.act rfl (by rfl) (fun K hK => ?_)
    go_simp
    go_at_call 25
    refine (qcmp_any (w := t5_4) ((r5_2.below hb5_3).below hb5_4).v r5_4.v (by decide) (by decide)).mono ?_
    rw [cmp_eq.2 (Rat.add_assoc ra rb rc)]
    rintro e t5_5 ⟨rfl, hb5_5⟩
    have X5_5 : Below t2_6.heap.size t2_6 t5_5 := bel_trans X5_4 hb5_5
    refine hK.out _ _ (HK4.out _ X5_5) ?_
    clear hK K
    try simp only [Act.put, List.setIfInBounds_toArray, List.set_cons_zero, List.set_cons_succ]
    refine Walk.take (v := ?_) rfl (by rfl) ?_ ?_
    rotate_left
    · (intro w' hSw; (try dsimp only at hSw); go_simp <;> with_reducible rfl)
    try simp only [Act.put, List.setIfInBounds_toArray, List.set_cons_zero, List.set_cons_succ]
    refine Walk.take (v := ?_) rfl (by rfl) ?_ ?_
    rotate_left
    · (intro w' hSw; (try dsimp only at hSw); go_simp <;> with_reducible rfl)
    try simp only [Act.put, List.setIfInBounds_toArray, List.set_cons_zero, List.set_cons_succ]
    refine Walk.take (v := ?_) rfl (by rfl) ?_ ?_
    rotate_left
    · (intro w' hSw; (try dsimp only at hSw); go_simp <;> with_reducible rfl)
    try simp only [Act.put, List.setIfInBounds_toArray, List.set_cons_zero, List.set_cons_succ]
    refine Walk.take (v := ?_) rfl (by rfl) ?_ ?_
    rotate_left
    · (intro w' hSw; (try dsimp only at hSw); go_simp <;> with_reducible rfl)
    try simp only [Act.put, List.setIfInBounds_toArray, List.set_cons_zero, List.set_cons_succ]
    refine Walk.take (v := ?_) rfl (by rfl) ?_ ?_
    rotate_left
    · (intro w' hSw; (try dsimp only at hSw); go_simp <;> with_reducible rfl)
    try simp only [Act.put, List.setIfInBounds_toArray, List.set_cons_zero, List.set_cons_succ]
    refine Walk.take (v := ?_) rfl (by rfl) ?_ ?_
    rotate_left
    · (intro w' hSw; (try dsimp only at hSw); go_simp <;> with_reducible rfl)
    try simp only [Act.put, List.setIfInBounds_toArray, List.set_cons_zero, List.set_cons_succ]
    refine Walk.take (v := ?_) rfl (by rfl) ?_ ?_
    rotate_left
    · (intro w' hSw; (try dsimp only at hSw); go_simp <;> with_reducible rfl)
    try simp only [Act.put, List.setIfInBounds_toArray, List.set_cons_zero, List.set_cons_succ]
    refine Walk.take (v := ?_) rfl (by rfl) ?_ ?_
    rotate_left
    · (intro w' hSw; (try dsimp only at hSw); go_simp <;> with_reducible rfl)
    try simp only [Act.put, List.setIfInBounds_toArray, List.set_cons_zero, List.set_cons_succ]
    refine Walk.act rfl (by rfl) (fun K hK => ?_)
    go_simp
    go_at_call 17
    refine (qmul_any (w := t5_5) (eax.below X5_5) (ebx.below X5_5) (by decide) (by decide) (by decide) (hT.below (bel_trans HB103.out X5_5))).mono ?_
    rintro e t5_6 ⟨x5_6, y5_6, z5_6, r5_6, rfl, hb5_6⟩
    have X5_6 : Below t2_6.heap.size t2_6 t5_6 := bel_trans X5_5 hb5_6
    refine hK.out _ _ (HK4.out _ X5_6) ?_
    clear hK K
    try simp only [Act.put, List.setIfInBounds_toArray, List.set_cons_zero, List.set_cons_succ]
    refine Walk.act rfl (by rfl) (fun K hK => ?_)
    go_simp
    go_at_call 17
    refine (qmul_any (w := t5_6) r5_6.v (ecx.below X5_6) (by decide) (by decide) (by decide) (hT.below (bel_trans HB103.out X5_6))).mono ?_
    rintro e t5_7 ⟨x5_7, y5_7, z5_7, r5_7, rfl, hb5_7⟩
    have X5_7 : Below t2_6.heap.size t2_6 t5_7 := bel_trans X5_6 hb5_7
    refine hK.out _ _ (HK4.out _ X5_7) ?_
    clear hK K
    try simp only [Act.put, List.setIfInBounds_toArray, List.set_cons_zero, List.set_cons_succ]
    refine Walk.act rfl (by rfl) (fun K hK => ?_)
    go_simp
    go_at_call 17
    refine (qmul_any (w := t5_7) (ebx.below X5_7) (ecx.below X5_7) (by decide) (by decide) (by decide) (hT.below (bel_trans HB103.out X5_7))).mono ?_
    rintro e t5_8 ⟨x5_8, y5_8, z5_8, r5_8, rfl, hb5_8⟩
    have X5_8 : Below t2_6.heap.size t2_6 t5_8 := bel_trans X5_7 hb5_8
    refine hK.out _ _ (HK4.out _ X5_8) ?_
    clear hK K
    try simp only [Act.put, List.setIfInBounds_toArray, List.set_cons_zero, List.set_cons_succ]
    refine Walk.act rfl (by rfl) (fun K hK => ?_)
    go_simp
    go_at_call 17
    refine (qmul_any (w := t5_8) (eax.below X5_8) r5_8.v (by decide) (by decide) (by decide) (hT.below (bel_trans HB103.out X5_8))).mono ?_
    rintro e t5_9 ⟨x5_9, y5_9, z5_9, r5_9, rfl, hb5_9⟩
    have X5_9 : Below t2_6.heap.size t2_6 t5_9 := bel_trans X5_8 hb5_9
    refine hK.out _ _ (HK4.out _ X5_9) ?_
    clear hK K
    try simp only [Act.put, List.setIfInBounds_toArray, List.set_cons_zero, List.set_cons_succ]
    refine Walk.act rfl (by rfl) (fun K hK => ?_)
    go_simp
    go_at_call 25
    refine (qcmp_any (w := t5_9) ((r5_7.below hb5_8).below hb5_9).v r5_9.v (by decide) (by decide)).mono ?_
    rw [cmp_eq.2 (Rat.mul_assoc ra rb rc)]
    rintro e t5_10 ⟨rfl, hb5_10⟩
    have X5_10 : Below t2_6.heap.size t2_6 t5_10 := bel_trans X5_9 hb5_10
    refine hK.out _ _ (HK4.out _ X5_10) ?_
    clear hK K
    try simp only [Act.put, List.setIfInBounds_toArray, List.set_cons_zero, List.set_cons_succ]
    refine Walk.take (v := ?_) rfl (by rfl) ?_ ?_
    rotate_left
    · (intro w' hSw; (try dsimp only at hSw); go_simp <;> with_reducible rfl)
    try simp only [Act.put, List.setIfInBounds_toArray, List.set_cons_zero, List.set_cons_succ]
    refine Walk.take (v := ?_) rfl (by rfl) ?_ ?_
    rotate_left
    · (intro w' hSw; (try dsimp only at hSw); go_simp <;> with_reducible rfl)
    try simp only [Act.put, List.setIfInBounds_toArray, List.set_cons_zero, List.set_cons_succ]
    refine Walk.take (v := ?_) rfl (by rfl) ?_ ?_
    rotate_left
    · (intro w' hSw; (try dsimp only at hSw); go_simp <;> with_reducible rfl)
    try simp only [Act.put, List.setIfInBounds_toArray, List.set_cons_zero, List.set_cons_succ]
    refine Walk.done ?_
    clear HK4
    have eaxx := eax.below X5_10
    clear eax
    have ebxx := ebx.below X5_10
    clear ebx
    have ecxx := ecx.below X5_10
    clear ecx
    have Laxx := Lax.below X5_10 Lax.lt
    clear Lax
    have Lbxx := Lbx.below X5_10 Lbx.lt
    clear Lbx
    have Lcxx := Lcx.below X5_10 Lcx.lt
    clear Lcx
    have HB106 := Lib.hid (bel_trans HB103.out X5_10)
    clear HB103
    go_upto_region 9 with fail
    obtain ⟨q0a, q1a, q2a, -, -, -⟩ := Laxx.three
    obtain ⟨q0b, q1b, q2b, -, -, -⟩ := Lbxx.three
    obtain ⟨q0c, q1c, q2c, -, -, -⟩ := Lcxx.three
    have HK7 : Hid (∀ w', Below t5_10.heap.size t5_10 w' → w'.cell? ⟨w.heap.size, 0, none⟩ = some (.bool sa) ∧ w'.cell? ⟨w.heap.size, 1, none⟩ = some (.slice Aa na ca) ∧ w'.cell? ⟨w.heap.size, 2, none⟩ = some (.slice Ba ma da) ∧ w'.cell? ⟨gb, 0, none⟩ = some (.bool sb) ∧ w'.cell? ⟨gb, 1, none⟩ = some (.slice Ab nb cb) ∧ w'.cell? ⟨gb, 2, none⟩ = some (.slice Bb mb db) ∧ w'.cell? ⟨gc, 0, none⟩ = some (.bool sc) ∧ w'.cell? ⟨gc, 1, none⟩ = some (.slice Ac nc cc) ∧ w'.cell? ⟨gc, 2, none⟩ = some (.slice Bc mc dc)) := fun w' hb => kps9 hb q0a q1a q2a q0b q1b q2b q0c q1c q2c
    clear q0a q1a q2a q0b q1b q2b q0c q1c q2c
    refine region_plan (S := fun w' => w'.cell? ⟨w.heap.size, 0, none⟩ = some (.bool sa) ∧ w'.cell? ⟨w.heap.size, 1, none⟩ = some (.slice Aa na ca) ∧ w'.cell? ⟨w.heap.size, 2, none⟩ = some (.slice Ba ma da) ∧ w'.cell? ⟨gb, 0, none⟩ = some (.bool sb) ∧ w'.cell? ⟨gb, 1, none⟩ = some (.slice Ab nb cb) ∧ w'.cell? ⟨gb, 2, none⟩ = some (.slice Bb mb db) ∧ w'.cell? ⟨gc, 0, none⟩ = some (.bool sc) ∧ w'.cell? ⟨gc, 1, none⟩ = some (.slice Ac nc cc) ∧ w'.cell? ⟨gc, 2, none⟩ = some (.slice Bc mc dc)) _ [(0, true), (1, true), (2, true), (5, true), (6, true), (8, true), (9, true), (3, false), (4, false), (7, false), (10, false), (11, false), (12, false), (13, true), (14, true)] (by kernel_rfl) (by kernel_rfl) rfl (by kernel_rfl) (by kernel_rfl) (fun _ _ d _ _ h => by cases d <;> exact h) (HK7.out _ (bel_drew (Below.refl _ _))) ?_
    refine Walk.take (v := ?_) rfl (by rfl) ?_ ?_
    rotate_left
    · (intro w' hSw; (try dsimp only at hSw); go_simp <;> with_reducible rfl)
    try simp only [Act.put, List.setIfInBounds_toArray, List.set_cons_zero, List.set_cons_succ]
    refine Walk.take (v := ?_) rfl (by rfl) ?_ ?_
    rotate_left
    · (intro w' hSw; (try dsimp only at hSw); go_simp <;> with_reducible rfl)
    try simp only [Act.put, List.setIfInBounds_toArray, List.set_cons_zero, List.set_cons_succ]
    refine Walk.take (v := ?_) rfl (by rfl) ?_ ?_
    rotate_left
    · (intro w' hSw; (try dsimp only at hSw); go_simp <;> with_reducible rfl)
    try simp only [Act.put, List.setIfInBounds_toArray, List.set_cons_zero, List.set_cons_succ]
    refine Walk.take (v := ?_) rfl (by rfl) ?_ ?_
    rotate_left
    · (intro w' hSw; (try dsimp only at hSw); go_simp <;> with_reducible rfl)
    try simp only [Act.put, List.setIfInBounds_toArray, List.set_cons_zero, List.set_cons_succ]
    refine Walk.take (v := ?_) rfl (by rfl) ?_ ?_
    rotate_left
    · (intro w' hSw; (try dsimp only at hSw); go_simp <;> with_reducible rfl)
    try simp only [Act.put, List.setIfInBounds_toArray, List.set_cons_zero, List.set_cons_succ]
    refine Walk.take (v := ?_) rfl (by rfl) ?_ ?_
    rotate_left
    · (intro w' hSw; (try dsimp only at hSw); go_simp <;> with_reducible rfl)
    try simp only [Act.put, List.setIfInBounds_toArray, List.set_cons_zero, List.set_cons_succ]
    refine Walk.take (v := ?_) rfl (by rfl) ?_ ?_
    rotate_left
    · (intro w' hSw; (try dsimp only at hSw); go_simp <;> with_reducible rfl)
    try simp only [Act.put, List.setIfInBounds_toArray, List.set_cons_zero, List.set_cons_succ]
    refine Walk.act rfl (by rfl) (fun K hK => ?_)
    go_simp
    go_at_call 13
    refine (qadd_any (w := t5_10.drew) (ebxx.below (bel_drew (Below.refl t5_10.heap.size t5_10))) (ecxx.below (bel_drew (Below.refl t5_10.heap.size t5_10))) (by decide) (by decide) (by decide) (by decide) (hT.below (bel_trans HB106.out (bel_drew (Below.refl t5_10.heap.size t5_10))))).mono ?_
    rintro e t8_1 ⟨x8_1, y8_1, z8_1, r8_1, rfl, hb8_1⟩
    have X8_1 : Below t5_10.heap.size t5_10 t8_1 := bel_trans (bel_drew (Below.refl t5_10.heap.size t5_10)) hb8_1
    refine hK.out _ _ (HK7.out _ X8_1) ?_
    clear hK K
    try simp only [Act.put, List.setIfInBounds_toArray, List.set_cons_zero, List.set_cons_succ]
    refine Walk.act rfl (by rfl) (fun K hK => ?_)
    go_simp
    go_at_call 17
    refine (qmul_any (w := t8_1) (eaxx.below X8_1) r8_1.v (by decide) (by decide) (by decide) (hT.below (bel_trans HB106.out X8_1))).mono ?_
    rintro e t8_2 ⟨x8_2, y8_2, z8_2, r8_2, rfl, hb8_2⟩
    have X8_2 : Below t5_10.heap.size t5_10 t8_2 := bel_trans X8_1 hb8_2
    refine hK.out _ _ (HK7.out _ X8_2) ?_
    clear hK K
    try simp only [Act.put, List.setIfInBounds_toArray, List.set_cons_zero, List.set_cons_succ]
    refine Walk.act rfl (by rfl) (fun K hK => ?_)
    go_simp
    go_at_call 17
    refine (qmul_any (w := t8_2) (eaxx.below X8_2) (ebxx.below X8_2) (by decide) (by decide) (by decide) (hT.below (bel_trans HB106.out X8_2))).mono ?_
    rintro e t8_3 ⟨x8_3, y8_3, z8_3, r8_3, rfl, hb8_3⟩
    have X8_3 : Below t5_10.heap.size t5_10 t8_3 := bel_trans X8_2 hb8_3
    refine hK.out _ _ (HK7.out _ X8_3) ?_
    clear hK K
    try simp only [Act.put, List.setIfInBounds_toArray, List.set_cons_zero, List.set_cons_succ]
    refine Walk.act rfl (by rfl) (fun K hK => ?_)
    go_simp
    go_at_call 17
    refine (qmul_any (w := t8_3) (eaxx.below X8_3) (ecxx.below X8_3) (by decide) (by decide) (by decide) (hT.below (bel_trans HB106.out X8_3))).mono ?_
    rintro e t8_4 ⟨x8_4, y8_4, z8_4, r8_4, rfl, hb8_4⟩
    have X8_4 : Below t5_10.heap.size t5_10 t8_4 := bel_trans X8_3 hb8_4
    refine hK.out _ _ (HK7.out _ X8_4) ?_
    clear hK K
    try simp only [Act.put, List.setIfInBounds_toArray, List.set_cons_zero, List.set_cons_succ]
    refine Walk.act rfl (by rfl) (fun K hK => ?_)
    go_simp
    go_at_call 13
    refine (qadd_any (w := t8_4) (r8_3.below hb8_4).v r8_4.v (by decide) (by decide) (by decide) (by decide) (hT.below (bel_trans HB106.out X8_4))).mono ?_
    rintro e t8_5 ⟨x8_5, y8_5, z8_5, r8_5, rfl, hb8_5⟩
    have X8_5 : Below t5_10.heap.size t5_10 t8_5 := bel_trans X8_4 hb8_5
    refine hK.out _ _ (HK7.out _ X8_5) ?_
    clear hK K
    try simp only [Act.put, List.setIfInBounds_toArray, List.set_cons_zero, List.set_cons_succ]
    refine Walk.act rfl (by rfl) (fun K hK => ?_)
    go_simp
    go_at_call 25
    refine (qcmp_any (w := t8_5) (((r8_2.below hb8_3).below hb8_4).below hb8_5).v r8_5.v (by decide) (by decide)).mono ?_
    rw [cmp_eq.2 (Rat.mul_add ra rb rc)]
    rintro e t8_6 ⟨rfl, hb8_6⟩
    have X8_6 : Below t5_10.heap.size t5_10 t8_6 := bel_trans X8_5 hb8_6
    refine hK.out _ _ (HK7.out _ X8_6) ?_
    clear hK K
    try simp only [Act.put, List.setIfInBounds_toArray, List.set_cons_zero, List.set_cons_succ]
    refine Walk.take (v := ?_) rfl (by rfl) ?_ ?_
    rotate_left
    · (intro w' hSw; (try dsimp only at hSw); go_simp <;> with_reducible rfl)
    try simp only [Act.put, List.setIfInBounds_toArray, List.set_cons_zero, List.set_cons_succ]
    refine Walk.take (v := ?_) rfl (by rfl) ?_ ?_
    rotate_left
    · (intro w' hSw; (try dsimp only at hSw); go_simp <;> with_reducible rfl)
    try simp only [Act.put, List.setIfInBounds_toArray, List.set_cons_zero, List.set_cons_succ]
    refine Walk.done ?_
    clear HK7
    have eaxxx := eaxx.below X8_6
    clear eaxx
    have ebxxx := ebxx.below X8_6
    clear ebxx
    have ecxxx := ecxx.below X8_6
    clear ecxx
    have Laxxx := Laxx.below X8_6 Laxx.lt
    clear Laxx
    have Lbxxx := Lbxx.below X8_6 Lbxx.lt
    clear Lbxx
    have Lcxxx := Lcxx.below X8_6 Lcxx.lt
    clear Lcxx
    have HB109 := Lib.hid (bel_trans HB106.out X8_6)
    clear HB106
    go_upto_region 10 with fail
    obtain ⟨q0a, q1a, q2a, -, -, -⟩ := Laxxx.three
    obtain ⟨q0b, q1b, q2b, -, -, -⟩ := Lbxxx.three
    obtain ⟨q0c, q1c, q2c, -, -, -⟩ := Lcxxx.three
    have HK10 : Hid (∀ w', Below t8_6.heap.size t8_6 w' → w'.cell? ⟨w.heap.size, 0, none⟩ = some (.bool sa) ∧ w'.cell? ⟨w.heap.size, 1, none⟩ = some (.slice Aa na ca) ∧ w'.cell? ⟨w.heap.size, 2, none⟩ = some (.slice Ba ma da) ∧ w'.cell? ⟨gb, 0, none⟩ = some (.bool sb) ∧ w'.cell? ⟨gb, 1, none⟩ = some (.slice Ab nb cb) ∧ w'.cell? ⟨gb, 2, none⟩ = some (.slice Bb mb db) ∧ w'.cell? ⟨gc, 0, none⟩ = some (.bool sc) ∧ w'.cell? ⟨gc, 1, none⟩ = some (.slice Ac nc cc) ∧ w'.cell? ⟨gc, 2, none⟩ = some (.slice Bc mc dc)) := fun w' hb => kps9 hb q0a q1a q2a q0b q1b q2b q0c q1c q2c
    clear q0a q1a q2a q0b q1b q2b q0c q1c q2c
    refine region_plan (S := fun w' => w'.cell? ⟨w.heap.size, 0, none⟩ = some (.bool sa) ∧ w'.cell? ⟨w.heap.size, 1, none⟩ = some (.slice Aa na ca) ∧ w'.cell? ⟨w.heap.size, 2, none⟩ = some (.slice Ba ma da) ∧ w'.cell? ⟨gb, 0, none⟩ = some (.bool sb) ∧ w'.cell? ⟨gb, 1, none⟩ = some (.slice Ab nb cb) ∧ w'.cell? ⟨gb, 2, none⟩ = some (.slice Bb mb db) ∧ w'.cell? ⟨gc, 0, none⟩ = some (.bool sc) ∧ w'.cell? ⟨gc, 1, none⟩ = some (.slice Ac nc cc) ∧ w'.cell? ⟨gc, 2, none⟩ = some (.slice Bc mc dc)) _ [(0, true), (1, true), (3, true), (5, true), (2, false), (4, false), (6, false), (7, true), (8, true), (9, true), (10, true), (11, false), (12, false), (13, true), (14, true), (15, true)] (by kernel_rfl) (by kernel_rfl) rfl (by kernel_rfl) (by kernel_rfl) (fun _ _ d _ _ h => by cases d <;> exact h) (HK10.out _ (bel_drew (Below.refl _ _))) ?_
    refine Walk.take (v := ?_) rfl (by rfl) ?_ ?_
    rotate_left
    · (intro w' hSw; (try dsimp only at hSw); go_simp <;> with_reducible rfl)
    try simp only [Act.put, List.setIfInBounds_toArray, List.set_cons_zero, List.set_cons_succ]
    refine Walk.take (v := ?_) rfl (by rfl) ?_ ?_
    rotate_left
    · (intro w' hSw; (try dsimp only at hSw); go_simp <;> with_reducible rfl)
    try simp only [Act.put, List.setIfInBounds_toArray, List.set_cons_zero, List.set_cons_succ]
    refine Walk.take (v := ?_) rfl (by rfl) ?_ ?_
    rotate_left
    · (intro w' hSw; (try dsimp only at hSw); go_simp <;> with_reducible rfl)
    try simp only [Act.put, List.setIfInBounds_toArray, List.set_cons_zero, List.set_cons_succ]
    refine Walk.take (v := ?_) rfl (by rfl) ?_ ?_
    rotate_left
    · (intro w' hSw; (try dsimp only at hSw); go_simp <;> with_reducible rfl)
    try simp only [Act.put, List.setIfInBounds_toArray, List.set_cons_zero, List.set_cons_succ]
    refine Walk.act rfl (by rfl) (fun K hK => ?_)
    go_simp
    go_at_call 13
    refine (qadd_any (w := t8_6.drew) (eaxxx.below (bel_drew (Below.refl t8_6.heap.size t8_6))) (ebxxx.below (bel_drew (Below.refl t8_6.heap.size t8_6))) (by decide) (by decide) (by decide) (by decide) (hT.below (bel_trans HB109.out (bel_drew (Below.refl t8_6.heap.size t8_6))))).mono ?_
    rintro e t11_1 ⟨x11_1, y11_1, z11_1, r11_1, rfl, hb11_1⟩
    have X11_1 : Below t8_6.heap.size t8_6 t11_1 := bel_trans (bel_drew (Below.refl t8_6.heap.size t8_6)) hb11_1
    refine hK.out _ _ (HK10.out _ X11_1) ?_
    clear hK K
    try simp only [Act.put, List.setIfInBounds_toArray, List.set_cons_zero, List.set_cons_succ]
    refine Walk.act rfl (by rfl) (fun K hK => ?_)
    go_simp
    go_at_call 15
    refine (qsub_any (w := t11_1) r11_1.v (ebxxx.below X11_1) (by decide) (by decide) (by decide) (by decide) (hT.below (bel_trans HB109.out X11_1))).mono ?_
    rintro e t11_2 ⟨x11_2, y11_2, z11_2, r11_2, rfl, hb11_2⟩
    have X11_2 : Below t8_6.heap.size t8_6 t11_2 := bel_trans X11_1 hb11_2
    refine hK.out _ _ (HK10.out _ X11_2) ?_
    clear hK K
    try simp only [Act.put, List.setIfInBounds_toArray, List.set_cons_zero, List.set_cons_succ]
    refine Walk.act rfl (by rfl) (fun K hK => ?_)
    go_simp
    go_at_call 25
    refine (qcmp_any (w := t11_2) r11_2.v (eaxxx.below X11_2) (by decide) (by decide)).mono ?_
    rw [cmp_eq.2 (Rat.add_sub_cancel (a := ra) (b := rb))]
    rintro e t11_3 ⟨rfl, hb11_3⟩
    have X11_3 : Below t8_6.heap.size t8_6 t11_3 := bel_trans X11_2 hb11_3
    refine hK.out _ _ (HK10.out _ X11_3) ?_
    clear hK K
    try simp only [Act.put, List.setIfInBounds_toArray, List.set_cons_zero, List.set_cons_succ]
    refine Walk.take (v := ?_) rfl (by rfl) ?_ ?_
    rotate_left
    · (intro w' hSw; (try dsimp only at hSw); go_simp <;> with_reducible rfl)
    try simp only [Act.put, List.setIfInBounds_toArray, List.set_cons_zero, List.set_cons_succ]
    refine Walk.take (v := ?_) rfl (by rfl) ?_ ?_
    rotate_left
    · (intro w' hSw; (try dsimp only at hSw); go_simp <;> with_reducible rfl)
    try simp only [Act.put, List.setIfInBounds_toArray, List.set_cons_zero, List.set_cons_succ]
    refine Walk.take (v := ?_) rfl (by rfl) ?_ ?_
    rotate_left
    · (intro w' hSw; (try dsimp only at hSw); go_simp <;> with_reducible rfl)
    try simp only [Act.put, List.setIfInBounds_toArray, List.set_cons_zero, List.set_cons_succ]
    refine Walk.take (v := ?_) rfl (by rfl) ?_ ?_
    rotate_left
    · (intro w' hSw; (try dsimp only at hSw); go_simp <;> with_reducible rfl)
    try simp only [Act.put, List.setIfInBounds_toArray, List.set_cons_zero, List.set_cons_succ]
    refine Walk.act rfl (by rfl) (fun K hK => ?_)
    go_simp
    go_at_call 15
    refine (qsub_any (w := t11_3) (eaxxx.below X11_3) (eaxxx.below X11_3) (by decide) (by decide) (by decide) (by decide) (hT.below (bel_trans HB109.out X11_3))).mono ?_
    rintro e t11_4 ⟨x11_4, y11_4, z11_4, r11_4, rfl, hb11_4⟩
    have X11_4 : Below t8_6.heap.size t8_6 t11_4 := bel_trans X11_3 hb11_4
    refine hK.out _ _ (HK10.out _ X11_4) ?_
    clear hK K
    try simp only [Act.put, List.setIfInBounds_toArray, List.set_cons_zero, List.set_cons_succ]
    refine Walk.act rfl (by rfl) (fun K hK => ?_)
    go_simp
    go_at_call 27
    refine (sign_any (w := t11_4) r11_4.v (by decide)).mono ?_
    rw [Rat.sub_self, show sgn 0 = 0 by rfl]
    rintro e t11_5 ⟨rfl, hb11_5⟩
    have X11_5 : Below t8_6.heap.size t8_6 t11_5 := bel_trans X11_4 hb11_5
    refine hK.out _ _ (HK10.out _ X11_5) ?_
    clear hK K
    try simp only [Act.put, List.setIfInBounds_toArray, List.set_cons_zero, List.set_cons_succ]
    refine Walk.take (v := ?_) rfl (by rfl) ?_ ?_
    rotate_left
    · (intro w' hSw; (try dsimp only at hSw); go_simp <;> with_reducible rfl)
    try simp only [Act.put, List.setIfInBounds_toArray, List.set_cons_zero, List.set_cons_succ]
    refine Walk.take (v := ?_) rfl (by rfl) ?_ ?_
    rotate_left
    · (intro w' hSw; (try dsimp only at hSw); go_simp <;> with_reducible rfl)
    try simp only [Act.put, List.setIfInBounds_toArray, List.set_cons_zero, List.set_cons_succ]
    refine Walk.take (v := ?_) rfl (by rfl) ?_ ?_
    rotate_left
    · (intro w' hSw; (try dsimp only at hSw); go_simp <;> with_reducible rfl)
    try simp only [Act.put, List.setIfInBounds_toArray, List.set_cons_zero, List.set_cons_succ]
    refine Walk.done ?_
    clear HK10
    have eaxxxx := eaxxx.below X11_5
    clear eaxxx
    have ebxxxx := ebxxx.below X11_5
    clear ebxxx
    have ecxxxx := ecxxx.below X11_5
    clear ecxxx
    have Laxxxx := Laxxx.below X11_5 Laxxx.lt
    clear Laxxx
    have Lbxxxx := Lbxxx.below X11_5 Lbxxx.lt
    clear Lbxxx
    have Lcxxxx := Lcxxx.below X11_5 Lcxxx.lt
    clear Lcxxx
    have HB112 := Lib.hid (bel_trans HB109.out X11_5)
    clear HB109
    go_upto_region 11 with fail
    by_cases h0 : rb = 0
    · go_cut [13, 14] (fun s13 s14 wx => ∃ g x y z, s13 = .pointer (some ⟨g, 0, none⟩) ∧ s14 = .int .i64 30 ∧ Blk wx g 25 #[x, y, z] ∧ Hid (Below t11_5.heap.size t11_5 wx))
      case first =>
        go_region_held3 (fun w' => w'.cell? ⟨w.heap.size, 0, none⟩ = some (.bool sa) ∧ w'.cell? ⟨w.heap.size, 1, none⟩ = some (.slice Aa na ca) ∧ w'.cell? ⟨w.heap.size, 2, none⟩ = some (.slice Ba ma da) ∧ w'.cell? ⟨gb, 0, none⟩ = some (.bool sb) ∧ w'.cell? ⟨gb, 1, none⟩ = some (.slice Ab nb cb) ∧ w'.cell? ⟨gb, 2, none⟩ = some (.slice Bb mb db))
          (first | (refine kp_rr (W := t11_5) ?_ Laxxxx Lbxxxx; (repeat (first | exact Below.refl _ _ | exact X2 | exact X1 | refine bel_drew ?_ | refine bel_alloc ?_ _)); done) | exact kp_rr_put X2 Laxxxx Lbxxxx (by have h1 := Laxxxx.lt; have h2 := X1.size; omega) (by have h1 := Lbxxxx.lt; have h2 := X1.size; omega))
          (first
            | (go_at_call 17; first | (refine (qmul_any (w := t11_5.drew) (eaxxxx.below (bel_drew (Below.refl t11_5.heap.size t11_5))) (ebxxxx.below (bel_drew (Below.refl t11_5.heap.size t11_5))) (by decide) (by decide) (by decide) (hT.below (bel_trans HB112.out (bel_drew (Below.refl t11_5.heap.size t11_5))))).mono ?_; rintro e w1 ⟨x1, y1, z1, r1, rfl, hb1⟩; have X1 : Below t11_5.heap.size t11_5 w1 := bel_trans (bel_drew (Below.refl t11_5.heap.size t11_5)) hb1) | (refine (qmul_any (w := t11_5.drew.alloc (.cells #[.bool false, .slice none 0 0, .slice none 0 0] 25)) (eaxxxx.below (bel_alloc (bel_drew (Below.refl t11_5.heap.size t11_5)) (.cells #[.bool false, .slice none 0 0, .slice none 0 0] 25))) (ebxxxx.below (bel_alloc (bel_drew (Below.refl t11_5.heap.size t11_5)) (.cells #[.bool false, .slice none 0 0, .slice none 0 0] 25))) (by decide) (by decide) (by decide) (hT.below (bel_trans HB112.out (bel_alloc (bel_drew (Below.refl t11_5.heap.size t11_5)) (.cells #[.bool false, .slice none 0 0, .slice none 0 0] 25))))).mono ?_; rintro e w1 ⟨x1, y1, z1, r1, rfl, hb1⟩; have X1 : Below t11_5.heap.size t11_5 w1 := bel_trans (bel_alloc (bel_drew (Below.refl t11_5.heap.size t11_5)) (.cells #[.bool false, .slice none 0 0, .slice none 0 0] 25)) hb1; have Kq : Blk w1 t11_5.heap.size 25 #[.bool false, .slice none 0 0, .slice none 0 0] := (by first | exact Blk.made (w := t11_5) hb1 | exact Blk.made (w := t11_5.drew) hb1)) | (refine (qmul_any (w := (t11_5.alloc (.cells #[.bool false, .slice none 0 0, .slice none 0 0] 25)).drew) (eaxxxx.below (bel_drew (bel_alloc (Below.refl t11_5.heap.size t11_5) (.cells #[.bool false, .slice none 0 0, .slice none 0 0] 25)))) (ebxxxx.below (bel_drew (bel_alloc (Below.refl t11_5.heap.size t11_5) (.cells #[.bool false, .slice none 0 0, .slice none 0 0] 25)))) (by decide) (by decide) (by decide) (hT.below (bel_trans HB112.out (bel_drew (bel_alloc (Below.refl t11_5.heap.size t11_5) (.cells #[.bool false, .slice none 0 0, .slice none 0 0] 25)))))).mono ?_; rintro e w1 ⟨x1, y1, z1, r1, rfl, hb1⟩; have X1 : Below t11_5.heap.size t11_5 w1 := bel_trans (bel_drew (bel_alloc (Below.refl t11_5.heap.size t11_5) (.cells #[.bool false, .slice none 0 0, .slice none 0 0] 25))) hb1; have Kq : Blk w1 t11_5.heap.size 25 #[.bool false, .slice none 0 0, .slice none 0 0] := (by first | exact Blk.made (w := t11_5) hb1 | exact Blk.made (w := t11_5.drew) hb1)))
            | (go_at_call 19; first | (have _ := Kq; (refine (qdiv_zero (w := w1) (r1.below (Below.refl w1.heap.size w1)).v (ebxxxx.below (bel_trans X1 (Below.refl w1.heap.size w1))) (by decide) h0).mono ?_; rintro e w2 ⟨rfl, hb2⟩; have X2 : Below t11_5.heap.size t11_5 w2 := bel_trans (bel_trans X1 (Below.refl w1.heap.size w1)) hb2; have Kq2 := Kq.below hb2 Kq.lt; obtain ⟨c0, c1, c2, f0, f1, f2⟩ := Kq2.three)) | (refine (qdiv_zero (w := w1) (r1.below (Below.refl w1.heap.size w1)).v (ebxxxx.below (bel_trans X1 (Below.refl w1.heap.size w1))) (by decide) h0).mono ?_; rintro e w2 ⟨rfl, hb2⟩; have X2 : Below t11_5.heap.size t11_5 w2 := bel_trans (bel_trans X1 (Below.refl w1.heap.size w1)) hb2) | (refine (qdiv_zero (w := w1.alloc (.cells #[.bool false, .slice none 0 0, .slice none 0 0] 25)) (r1.below (bel_alloc (Below.refl w1.heap.size w1) (.cells #[.bool false, .slice none 0 0, .slice none 0 0] 25))).v (ebxxxx.below (bel_trans X1 (bel_alloc (Below.refl w1.heap.size w1) (.cells #[.bool false, .slice none 0 0, .slice none 0 0] 25)))) (by decide) h0).mono ?_; rintro e w2 ⟨rfl, hb2⟩; have X2 : Below t11_5.heap.size t11_5 w2 := bel_trans (bel_trans X1 (bel_alloc (Below.refl w1.heap.size w1) (.cells #[.bool false, .slice none 0 0, .slice none 0 0] 25))) hb2; have Kq2 : Blk w2 w1.heap.size 25 #[.bool false, .slice none 0 0, .slice none 0 0] := Blk.made hb2; obtain ⟨c0, c1, c2, f0, f1, f2⟩ := Kq2.three)))
        all_goals
          go_wp2_with fail
          go_meet
          first
          | (have K5 := Kq2.put3 (.bool false) (.slice none 0 0) (.slice none 0 0); have B5 := bel_put3 (g := t11_5.heap.size) X2 (Nat.le_refl _) (.bool false) (.slice none 0 0) (.slice none 0 0); unfold wput at K5 B5; exact ⟨_, _, _, _, rfl, rfl, K5, B5⟩)
          | (have K5 := Kq2.put3 (.bool false) (.slice none 0 0) (.slice none 0 0); have B5 := bel_put3 (g := w1.heap.size) X2 X1.size (.bool false) (.slice none 0 0) (.slice none 0 0); unfold wput at K5 B5; exact ⟨_, _, _, _, rfl, rfl, K5, B5⟩)
          | exact ⟨_, _, _, _, rfl, rfl, Blk.new _ _ _, bel_alloc X2 _⟩
      case rest =>
        obtain ⟨gq, xq, yq, zq, rfl, rfl, Kq, X3⟩ := hcut
        have Za := Laxxxx.below X3.out Laxxxx.lt
        clear Laxxxx
        have Zb := Lbxxxx.below X3.out Lbxxxx.lt
        clear Lbxxxx
        have Zc := Lcxxxx.below X3.out Lcxxxx.lt
        clear Lcxxxx
        have za := eaxxxx.below X3.out
        clear eaxxxx
        have zb := ebxxxx.below X3.out
        clear ebxxxx
        have zc := ecxxxx.below X3.out
        clear ecxxxx
        have HB9 := Lib.hid (bel_trans HB112.out X3.out)
        clear HB112 X3
        obtain ⟨q0b, q1b, q2b, -, -, -⟩ := Zb.three
        go_wp2_with fail
        clear q0b q1b q2b
        refine (sign_any zb (by decide)).mono ?_
        rw [h0, show sgn 0 = 0 by rfl]
        rintro e w301 ⟨rfl, hb301⟩
        have zax := za.below hb301
        clear za
        have zbx := zb.below hb301
        clear zb
        have zcx := zc.below hb301
        clear zc
        have Zax := Za.below hb301 Za.lt
        clear Za
        have Zbx := Zb.below hb301 Zb.lt
        clear Zb
        have Zcx := Zc.below hb301 Zc.lt
        clear Zc
        have Kqx := Kq.below hb301 Kq.lt
        clear Kq
        have HB402 := Lib.hid (bel_trans HB9.out hb301)
        clear hb301 HB9
        go_wp2_with fail
        go_ret
        exact ⟨rfl, HB402.out⟩
    · have hs0 : (sgn rb == 0) = false := by
        have : sgn rb ≠ 0 := fun e => h0 (sgn_eq.1 e)
        simpa using this
      go_cut [13, 14] (fun s13 s14 wx => ∃ g x y z, s13 = .pointer (some ⟨g, 0, none⟩) ∧ s14 = .int .i64 0 ∧ Blk wx g 25 #[x, y, z] ∧ RC wx x y z 12 ra ∧ Hid (Below t11_5.heap.size t11_5 wx))
      case first =>
        go_region_held3 (fun w' => w'.cell? ⟨w.heap.size, 0, none⟩ = some (.bool sa) ∧ w'.cell? ⟨w.heap.size, 1, none⟩ = some (.slice Aa na ca) ∧ w'.cell? ⟨w.heap.size, 2, none⟩ = some (.slice Ba ma da) ∧ w'.cell? ⟨gb, 0, none⟩ = some (.bool sb) ∧ w'.cell? ⟨gb, 1, none⟩ = some (.slice Ab nb cb) ∧ w'.cell? ⟨gb, 2, none⟩ = some (.slice Bb mb db))
          (first | (refine kp_rr (W := t11_5) ?_ Laxxxx Lbxxxx; (repeat (first | exact Below.refl _ _ | exact X2 | exact X1 | refine bel_drew ?_ | refine bel_alloc ?_ _)); done) | exact kp_rr_put X2 Laxxxx Lbxxxx (by have h1 := Laxxxx.lt; have h2 := X1.size; omega) (by have h1 := Lbxxxx.lt; have h2 := X1.size; omega))
          (first
            | (go_at_call 17; first | (refine (qmul_any (w := t11_5.drew) (eaxxxx.below (bel_drew (Below.refl t11_5.heap.size t11_5))) (ebxxxx.below (bel_drew (Below.refl t11_5.heap.size t11_5))) (by decide) (by decide) (by decide) (hT.below (bel_trans HB112.out (bel_drew (Below.refl t11_5.heap.size t11_5))))).mono ?_; rintro e w1 ⟨x1, y1, z1, r1, rfl, hb1⟩; have X1 : Below t11_5.heap.size t11_5 w1 := bel_trans (bel_drew (Below.refl t11_5.heap.size t11_5)) hb1) | (refine (qmul_any (w := t11_5.drew.alloc (.cells #[.bool false, .slice none 0 0, .slice none 0 0] 25)) (eaxxxx.below (bel_alloc (bel_drew (Below.refl t11_5.heap.size t11_5)) (.cells #[.bool false, .slice none 0 0, .slice none 0 0] 25))) (ebxxxx.below (bel_alloc (bel_drew (Below.refl t11_5.heap.size t11_5)) (.cells #[.bool false, .slice none 0 0, .slice none 0 0] 25))) (by decide) (by decide) (by decide) (hT.below (bel_trans HB112.out (bel_alloc (bel_drew (Below.refl t11_5.heap.size t11_5)) (.cells #[.bool false, .slice none 0 0, .slice none 0 0] 25))))).mono ?_; rintro e w1 ⟨x1, y1, z1, r1, rfl, hb1⟩; have X1 : Below t11_5.heap.size t11_5 w1 := bel_trans (bel_alloc (bel_drew (Below.refl t11_5.heap.size t11_5)) (.cells #[.bool false, .slice none 0 0, .slice none 0 0] 25)) hb1; have Kq : Blk w1 t11_5.heap.size 25 #[.bool false, .slice none 0 0, .slice none 0 0] := (by first | exact Blk.made (w := t11_5) hb1 | exact Blk.made (w := t11_5.drew) hb1)) | (refine (qmul_any (w := (t11_5.alloc (.cells #[.bool false, .slice none 0 0, .slice none 0 0] 25)).drew) (eaxxxx.below (bel_drew (bel_alloc (Below.refl t11_5.heap.size t11_5) (.cells #[.bool false, .slice none 0 0, .slice none 0 0] 25)))) (ebxxxx.below (bel_drew (bel_alloc (Below.refl t11_5.heap.size t11_5) (.cells #[.bool false, .slice none 0 0, .slice none 0 0] 25)))) (by decide) (by decide) (by decide) (hT.below (bel_trans HB112.out (bel_drew (bel_alloc (Below.refl t11_5.heap.size t11_5) (.cells #[.bool false, .slice none 0 0, .slice none 0 0] 25)))))).mono ?_; rintro e w1 ⟨x1, y1, z1, r1, rfl, hb1⟩; have X1 : Below t11_5.heap.size t11_5 w1 := bel_trans (bel_drew (bel_alloc (Below.refl t11_5.heap.size t11_5) (.cells #[.bool false, .slice none 0 0, .slice none 0 0] 25))) hb1; have Kq : Blk w1 t11_5.heap.size 25 #[.bool false, .slice none 0 0, .slice none 0 0] := (by first | exact Blk.made (w := t11_5) hb1 | exact Blk.made (w := t11_5.drew) hb1)))
            | (go_at_call 19; first | (have _ := Kq; (refine (qdiv_any (w := w1) (r1.below (Below.refl w1.heap.size w1)).v (ebxxxx.below (bel_trans X1 (Below.refl w1.heap.size w1))) (by decide) (by decide) (by decide) (hT.below (bel_trans HB112.out (bel_trans X1 (Below.refl w1.heap.size w1)))) h0).mono ?_; rw [Rat.mul_div_cancel h0]; rintro e w2 ⟨x2, y2, z2, r2, rfl, hb2⟩; obtain ⟨s1, A1, n1, k1, B1, m1, l1, rfl, rfl, rfl⟩ := r2.form; have X2 : Below t11_5.heap.size t11_5 w2 := bel_trans (bel_trans X1 (Below.refl w1.heap.size w1)) hb2; have Kq2 := Kq.below hb2 Kq.lt; obtain ⟨c0, c1, c2, f0, f1, f2⟩ := Kq2.three)) | (refine (qdiv_any (w := w1) (r1.below (Below.refl w1.heap.size w1)).v (ebxxxx.below (bel_trans X1 (Below.refl w1.heap.size w1))) (by decide) (by decide) (by decide) (hT.below (bel_trans HB112.out (bel_trans X1 (Below.refl w1.heap.size w1)))) h0).mono ?_; rw [Rat.mul_div_cancel h0]; rintro e w2 ⟨x2, y2, z2, r2, rfl, hb2⟩; obtain ⟨s1, A1, n1, k1, B1, m1, l1, rfl, rfl, rfl⟩ := r2.form; have X2 : Below t11_5.heap.size t11_5 w2 := bel_trans (bel_trans X1 (Below.refl w1.heap.size w1)) hb2) | (refine (qdiv_any (w := w1.alloc (.cells #[.bool false, .slice none 0 0, .slice none 0 0] 25)) (r1.below (bel_alloc (Below.refl w1.heap.size w1) (.cells #[.bool false, .slice none 0 0, .slice none 0 0] 25))).v (ebxxxx.below (bel_trans X1 (bel_alloc (Below.refl w1.heap.size w1) (.cells #[.bool false, .slice none 0 0, .slice none 0 0] 25)))) (by decide) (by decide) (by decide) (hT.below (bel_trans HB112.out (bel_trans X1 (bel_alloc (Below.refl w1.heap.size w1) (.cells #[.bool false, .slice none 0 0, .slice none 0 0] 25))))) h0).mono ?_; rw [Rat.mul_div_cancel h0]; rintro e w2 ⟨x2, y2, z2, r2, rfl, hb2⟩; obtain ⟨s1, A1, n1, k1, B1, m1, l1, rfl, rfl, rfl⟩ := r2.form; have X2 : Below t11_5.heap.size t11_5 w2 := bel_trans (bel_trans X1 (bel_alloc (Below.refl w1.heap.size w1) (.cells #[.bool false, .slice none 0 0, .slice none 0 0] 25))) hb2; have Kq2 : Blk w2 w1.heap.size 25 #[.bool false, .slice none 0 0, .slice none 0 0] := Blk.made hb2; obtain ⟨c0, c1, c2, f0, f1, f2⟩ := Kq2.three)))
        all_goals
          go_wp2_with fail
          go_meet
          first
          | (have K5 := Kq2.put3 (.bool s1) (.slice A1 n1 k1) (.slice B1 m1 l1); have R5 := r2.put3 Kq2 (.bool s1) (.slice A1 n1 k1) (.slice B1 m1 l1); have B5 := bel_put3 (g := t11_5.heap.size) X2 (Nat.le_refl _) (.bool s1) (.slice A1 n1 k1) (.slice B1 m1 l1); unfold wput at K5 B5 R5; exact ⟨_, _, _, _, rfl, rfl, K5, R5, B5⟩)
          | (have K5 := Kq2.put3 (.bool s1) (.slice A1 n1 k1) (.slice B1 m1 l1); have R5 := r2.put3 Kq2 (.bool s1) (.slice A1 n1 k1) (.slice B1 m1 l1); have B5 := bel_put3 (g := w1.heap.size) X2 X1.size (.bool s1) (.slice A1 n1 k1) (.slice B1 m1 l1); unfold wput at K5 B5 R5; exact ⟨_, _, _, _, rfl, rfl, K5, R5, B5⟩)
          | exact ⟨_, _, _, _, rfl, rfl, Blk.new _ _ _, (r2.below (bel_alloc (Below.refl _ _) _)), bel_alloc X2 _⟩
      case rest =>
        obtain ⟨gq, xq, yq, zq, rfl, rfl, Kq, rq', X3⟩ := hcut
        have Za := Laxxxx.below X3.out Laxxxx.lt
        clear Laxxxx
        have Zb := Lbxxxx.below X3.out Lbxxxx.lt
        clear Lbxxxx
        have Zc := Lcxxxx.below X3.out Lcxxxx.lt
        clear Lcxxxx
        have za := eaxxxx.below X3.out
        clear eaxxxx
        have zb := ebxxxx.below X3.out
        clear ebxxxx
        have zc := ecxxxx.below X3.out
        clear ecxxxx
        have HB9 := Lib.hid (bel_trans HB112.out X3.out)
        clear HB112 X3
        obtain ⟨q0b, q1b, q2b, -, -, -⟩ := Zb.three
        go_wp2_with fail
        clear q0b q1b q2b
        refine (sign_any zb (by decide)).mono ?_
        generalize sgn rb = sg at *
        rintro e w501 ⟨rfl, hb501⟩
        have zax := za.below hb501
        clear za
        have zbx := zb.below hb501
        clear zb
        have zcx := zc.below hb501
        clear zc
        have rq'x := rq'.below hb501
        clear rq'
        have Zax := Za.below hb501 Za.lt
        clear Za
        have Zbx := Zb.below hb501 Zb.lt
        clear Zb
        have Zcx := Zc.below hb501 Zc.lt
        clear Zc
        have Kqx := Kq.below hb501 Kq.lt
        clear Kq
        have HB602 := Lib.hid (bel_trans HB9.out hb501)
        clear hb501 HB9
        obtain ⟨q0q, q1q, q2q, -, -, -⟩ := Kqx.three
        obtain ⟨q0a, q1a, q2a, -, -, -⟩ := Zax.three
        go_wp2_with fail
        clear q0q q1q q2q
        clear q0a q1a q2a
        refine (qcmp_any rq'x.v zax (by decide) (by decide)).mono ?_
        rw [cmp_self]
        rintro e w503 ⟨rfl, hb503⟩
        have zaxx := zax.below hb503
        clear zax
        have zbxx := zbx.below hb503
        clear zbx
        have zcxx := zcx.below hb503
        clear zcx
        have rq'xx := rq'x.below hb503
        clear rq'x
        have Zaxx := Zax.below hb503 Zax.lt
        clear Zax
        have Zbxx := Zbx.below hb503 Zbx.lt
        clear Zbx
        have Zcxx := Zcx.below hb503 Zcx.lt
        clear Zcx
        have Kqxx := Kqx.below hb503 Kqx.lt
        clear Kqx
        have HB604 := Lib.hid (bel_trans HB602.out hb503)
        clear hb503 HB602
        go_wp2_with fail
        go_ret
        exact ⟨rfl, HB604.out⟩
  · rw [decide_eq_false (by exact hs)]
    go_wp2_with fail
    go_ret
    exact ⟨rfl, HB2.out⟩
end Go.Proofs.YtaollppieonmbaaDoor
