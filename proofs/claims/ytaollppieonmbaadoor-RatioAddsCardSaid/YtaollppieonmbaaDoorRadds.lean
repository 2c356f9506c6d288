/-
  The walk of RatioAdds: for all fractions the law answers true, and nothing that was there has changed. Condition: the table of math/bits stands in its variable.
-/
import Derived.Test.YtaollppieonmbaaDoorQin
namespace Go.Proofs.YtaollppieonmbaaDoor
open Go.RowKit
set_option maxRecDepth 100000

set_option maxHeartbeats 40000000 in
theorem radds_walk (sa : Bool) (Aa Ba : Option Addr) (na ca ma da : Nat) (sb : Bool) (Ab Bb : Option Addr) (nb cb mb db : Nat) (w : World) (ha1 : NatIn w Aa na ca) (ha2 : NatIn w Ba ma da) (hb1 : NatIn w Ab nb cb) (hb2 : NatIn w Bb mb db) (hT : TabOk w) :
    Calls Tryd.prog 3 #[.agg #[.bool sa, .slice Aa na ca, .slice Ba ma da], .agg #[.bool sb, .slice Ab nb cb, .slice Bb mb db]] w fun e w' => e = .returned (.bool true) ∧ Below w.heap.size w w' := by
  go_enter Tryd.func3, Tryd.ntmps3
  go_wp2_with fail
  refine (works3 _ (hT.below (bel_2 _ _ _))).mono ?_
  rintro e W1 ⟨rfl, hb1⟩
  have Ka := Blk.in21 hb1
  have Kb := Blk.in22 hb1
  have HB1 := Lib.hid (bel_trans (bel_2 _ _ _) hb1)
  clear hb1
  generalize w.heap.size + 1 = gb at *
  obtain ⟨q0a, q1a, q2a, -, -, -⟩ := Ka.three
  obtain ⟨q0b, q1b, q2b, -, -, -⟩ := Kb.three
  go_wp2_with fail
  refine (smallR_any _ 2 2 [⟨sa, Aa, na, ca, Ba, ma, da⟩, ⟨sb, Ab, nb, cb, Bb, mb, db⟩] rfl (by decide) _ (rdr_n2 W1 _ _ _)).mono ?_
  rintro e W2 ⟨rfl, rfl⟩
  clear q0a q1a q2a
  clear q0b q1b q2b
  have La := Ka.alloc (.cells #[.bool sa, .slice Aa na ca, .slice Ba ma da, .bool sb, .slice Ab nb cb, .slice Bb mb db] 25)
  clear Ka
  have Lb := Kb.alloc (.cells #[.bool sa, .slice Aa na ca, .slice Ba ma da, .bool sb, .slice Ab nb cb, .slice Bb mb db] 25)
  clear Kb
  have HB2 := Lib.hid (bel_alloc HB1.out (.cells #[.bool sa, .slice Aa na ca, .slice Ba ma da, .bool sb, .slice Ab nb cb, .slice Bb mb db] 25))
  clear HB1
  generalize W1.alloc (.cells #[.bool sa, .slice Aa na ca, .slice Ba ma da, .bool sb, .slice Ab nb cb, .slice Bb mb db] 25) = W2 at *
  rw [small2]
  by_cases hs : na ≤ 4 ∧ ma ≤ 4 ∧ nb ≤ 4 ∧ mb ≤ 4
  · rw [decide_eq_true (by exact hs)]
    obtain ⟨ra, fa⟩ := in_rv (L := 4) sa ha1 ha2 hs.1 hs.2.1
    have ea := fa.below HB2.out
    clear fa ha1 ha2
    obtain ⟨rb, fb⟩ := in_rv (L := 4) sb hb1 hb2 hs.2.2.1 hs.2.2.2
    have eb := fb.below HB2.out
    clear fb hb1 hb2
    clear hs
    obtain ⟨q0a, q1a, q2a, -, -, -⟩ := La.three
    go_wp2_with fail
    clear q0a q1a q2a
    refine (ofq_any ea (by decide) (by decide)).mono ?_
    rintro e w1 ⟨x1, y1, z1, r1, rfl, hb1⟩
    have eax := ea.below hb1
    clear ea
    have ebx := eb.below hb1
    clear eb
    have Lax := La.below hb1 La.lt
    clear La
    have Lbx := Lb.below hb1 Lb.lt
    clear Lb
    have HB102 := Lib.hid (bel_trans HB2.out hb1)
    clear hb1 HB2
    obtain ⟨sx, Ax, nx, cx, Bx, mx, dx, rfl, rfl, rfl⟩ := r1.form
    have b1 := bel_alloc (Below.refl w1.heap.size w1) (.cells #[.bool sx, .slice Ax nx cx, .slice Bx mx dx] 30)
    have Kx := Blk.new w1 30 #[.bool sx, .slice Ax nx cx, .slice Bx mx dx]
    obtain ⟨v1, hv1⟩ : ∃ v, v = w1.alloc (.cells #[.bool sx, .slice Ax nx cx, .slice Bx mx dx] 30) := ⟨_, rfl⟩
    obtain ⟨gx, hgx⟩ : ∃ g, g = w1.heap.size := ⟨_, rfl⟩
    have Gx := Lib.hid hgx
    have V1 := Lib.hid hv1
    rw [← hv1] at b1 Kx
    rw [← hgx] at Kx
    clear hv1 hgx
    have eaxx := eax.below b1
    clear eax
    have ebxx := ebx.below b1
    clear ebx
    have r1x := r1.below b1
    clear r1
    have Laxx := Lax.below b1 Lax.lt
    clear Lax
    have Lbxx := Lbx.below b1 Lbx.lt
    clear Lbx
    have HB103 := Lib.hid (bel_trans HB102.out b1)
    clear b1 HB102
    obtain ⟨q0b, q1b, q2b, -, -, -⟩ := Lbxx.three
    rw [V1.out] at q0b q1b q2b
    go_wp2_with fail
    rw [← Gx.out, ← V1.out]
    clear Gx V1
    clear q0b q1b q2b
    refine (ofq_any ebxx (by decide) (by decide)).mono ?_
    rintro e w4 ⟨x4, y4, z4, r4, rfl, hb4⟩
    have eaxxx := eaxx.below hb4
    clear eaxx
    have ebxxx := ebxx.below hb4
    clear ebxx
    have r1xx := r1x.below hb4
    clear r1x
    have Laxxx := Laxx.below hb4 Laxx.lt
    clear Laxx
    have Lbxxx := Lbxx.below hb4 Lbxx.lt
    clear Lbxx
    have Kxx := Kx.below hb4 Kx.lt
    clear Kx
    have HB105 := Lib.hid (bel_trans HB103.out hb4)
    clear hb4 HB103
    obtain ⟨sy, Ay, ny, cy, By, my, dy, rfl, rfl, rfl⟩ := r4.form
    have b4 := bel_alloc (Below.refl w4.heap.size w4) (.cells #[.bool sy, .slice Ay ny cy, .slice By my dy] 30)
    have Ky := Blk.new w4 30 #[.bool sy, .slice Ay ny cy, .slice By my dy]
    obtain ⟨v4, hv4⟩ : ∃ v, v = w4.alloc (.cells #[.bool sy, .slice Ay ny cy, .slice By my dy] 30) := ⟨_, rfl⟩
    obtain ⟨gy, hgy⟩ : ∃ g, g = w4.heap.size := ⟨_, rfl⟩
    have Gy := Lib.hid hgy
    have V4 := Lib.hid hv4
    rw [← hv4] at b4 Ky
    rw [← hgy] at Ky
    clear hv4 hgy
    have eaxxxx := eaxxx.below b4
    clear eaxxx
    have ebxxxx := ebxxx.below b4
    clear ebxxx
    have r1xxx := r1xx.below b4
    clear r1xx
    have r4x := r4.below b4
    clear r4
    have Laxxxx := Laxxx.below b4 Laxxx.lt
    clear Laxxx
    have Lbxxxx := Lbxxx.below b4 Lbxxx.lt
    clear Lbxxx
    have Kxxx := Kxx.below b4 Kxx.lt
    clear Kxx
    have HB106 := Lib.hid (bel_trans HB105.out b4)
    clear b4 HB105
    go_upto_region 9 with fail
    rw [← Gy.out, ← V4.out]
    clear Gy V4
    obtain ⟨q0a, q1a, q2a, -, -, -⟩ := Laxxxx.three
    obtain ⟨q0b, q1b, q2b, -, -, -⟩ := Lbxxxx.three
    obtain ⟨q0x, q1x, q2x, -, -, -⟩ := Kxxx.three
    obtain ⟨q0y, q1y, q2y, -, -, -⟩ := Ky.three
    have HK7 : Hid (∀ w', Below v4.heap.size v4 w' → w'.cell? ⟨w.heap.size, 0, none⟩ = some (.bool sa) ∧ w'.cell? ⟨w.heap.size, 1, none⟩ = some (.slice Aa na ca) ∧ w'.cell? ⟨w.heap.size, 2, none⟩ = some (.slice Ba ma da) ∧ w'.cell? ⟨gb, 0, none⟩ = some (.bool sb) ∧ w'.cell? ⟨gb, 1, none⟩ = some (.slice Ab nb cb) ∧ w'.cell? ⟨gb, 2, none⟩ = some (.slice Bb mb db) ∧ w'.cell? ⟨gx, 0, none⟩ = some (.bool sx) ∧ w'.cell? ⟨gx, 1, none⟩ = some (.slice Ax nx cx) ∧ w'.cell? ⟨gx, 2, none⟩ = some (.slice Bx mx dx) ∧ w'.cell? ⟨gy, 0, none⟩ = some (.bool sy) ∧ w'.cell? ⟨gy, 1, none⟩ = some (.slice Ay ny cy) ∧ w'.cell? ⟨gy, 2, none⟩ = some (.slice By my dy)) := fun w' hb => kps12 hb q0a q1a q2a q0b q1b q2b q0x q1x q2x q0y q1y q2y
    clear q0a q1a q2a q0b q1b q2b q0x q1x q2x q0y q1y q2y
    refine region_plan (S := fun w' => w'.cell? ⟨w.heap.size, 0, none⟩ = some (.bool sa) ∧ w'.cell? ⟨w.heap.size, 1, none⟩ = some (.slice Aa na ca) ∧ w'.cell? ⟨w.heap.size, 2, none⟩ = some (.slice Ba ma da) ∧ w'.cell? ⟨gb, 0, none⟩ = some (.bool sb) ∧ w'.cell? ⟨gb, 1, none⟩ = some (.slice Ab nb cb) ∧ w'.cell? ⟨gb, 2, none⟩ = some (.slice Bb mb db) ∧ w'.cell? ⟨gx, 0, none⟩ = some (.bool sx) ∧ w'.cell? ⟨gx, 1, none⟩ = some (.slice Ax nx cx) ∧ w'.cell? ⟨gx, 2, none⟩ = some (.slice Bx mx dx) ∧ w'.cell? ⟨gy, 0, none⟩ = some (.bool sy) ∧ w'.cell? ⟨gy, 1, none⟩ = some (.slice Ay ny cy) ∧ w'.cell? ⟨gy, 2, none⟩ = some (.slice By my dy)) _ [(0, true), (1, true), (3, true), (4, true), (2, false), (5, false), (6, false), (7, true)] (by kernel_rfl) (by kernel_rfl) rfl (by kernel_rfl) (by kernel_rfl) (fun _ _ d _ _ h => by cases d <;> exact h) (HK7.out _ (bel_drew (Below.refl _ _))) ?_
    refine Walk.take (v := ?_) rfl (by rfl) ?_ ?_
    rotate_left
    · (intro w' hSw; (try dsimp only at hSw); go_simp <;> with_reducible rfl)
    try simp only [Act.put, List.setIfInBounds_toArray, List.set_cons_zero, List.set_cons_succ]
    refine Walk.take (v := ?_) rfl (by rfl) ?_ ?_
    rotate_left
    · (intro w' hSw; (try dsimp only at hSw); go_simp <;> with_reducible rfl)
    try simp only [Act.put, List.setIfInBounds_toArray, List.set_cons_zero, List.set_cons_succ]
    refine Walk.take (v := ?_) rfl (by rfl) ?_ ?_
    rotate_left
    · (intro w' hSw; (try dsimp only at hSw); go_simp <;> with_reducible rfl)
    try simp only [Act.put, List.setIfInBounds_toArray, List.set_cons_zero, List.set_cons_succ]
    refine Walk.take (v := ?_) rfl (by rfl) ?_ ?_
    rotate_left
    · (intro w' hSw; (try dsimp only at hSw); go_simp <;> with_reducible rfl)
    try simp only [Act.put, List.setIfInBounds_toArray, List.set_cons_zero, List.set_cons_succ]
    refine Walk.act rfl (by rfl) (fun K hK => ?_)
    go_simp
    go_at_call 13
    refine (qadd_any (w := v4.drew) (eaxxxx.below (bel_drew (Below.refl v4.heap.size v4))) (ebxxxx.below (bel_drew (Below.refl v4.heap.size v4))) (by decide) (by decide) (by decide) (by decide) (hT.below (bel_trans HB106.out (bel_drew (Below.refl v4.heap.size v4))))).mono ?_
    rintro e t8_1 ⟨x8_1, y8_1, z8_1, r8_1, rfl, hb8_1⟩
    have X8_1 : Below v4.heap.size v4 t8_1 := bel_trans (bel_drew (Below.refl v4.heap.size v4)) hb8_1
    refine hK.out _ _ (HK7.out _ X8_1) ?_
    clear hK K
    try simp only [Act.put, List.setIfInBounds_toArray, List.set_cons_zero, List.set_cons_succ]
    refine Walk.act rfl (by rfl) (fun K hK => ?_)
    go_simp
    go_at_call 14
    refine (fadd_any (w := t8_1) (r1xxx.below X8_1) (r4x.below X8_1) (by decide) (by decide)).mono ?_
    rintro e t8_2 ⟨x8_2, y8_2, z8_2, r8_2, rfl, hb8_2⟩
    have X8_2 : Below v4.heap.size v4 t8_2 := bel_trans X8_1 hb8_2
    refine hK.out _ _ (HK7.out _ X8_2) ?_
    clear hK K
    try simp only [Act.put, List.setIfInBounds_toArray, List.set_cons_zero, List.set_cons_succ]
    refine Walk.act rfl (by rfl) (fun K hK => ?_)
    go_simp
    go_at_call 12
    refine (isq_any (w := t8_2) (r8_1.below hb8_2) r8_2 (by decide) (by decide)).mono ?_
    rintro e t8_3 ⟨rfl, hb8_3⟩
    have X8_3 : Below v4.heap.size v4 t8_3 := bel_trans X8_2 hb8_3
    refine hK.out _ _ (HK7.out _ X8_3) ?_
    clear hK K
    try simp only [Act.put, List.setIfInBounds_toArray, List.set_cons_zero, List.set_cons_succ]
    refine Walk.take (v := ?_) rfl (by rfl) ?_ ?_
    rotate_left
    · (intro w' hSw; (try dsimp only at hSw); go_simp <;> with_reducible rfl)
    try simp only [Act.put, List.setIfInBounds_toArray, List.set_cons_zero, List.set_cons_succ]
    refine Walk.done ?_
    clear HK7
    have eaxxxxx := eaxxxx.below X8_3
    clear eaxxxx
    have ebxxxxx := ebxxxx.below X8_3
    clear ebxxxx
    have r1xxxx := r1xxx.below X8_3
    clear r1xxx
    have r4xx := r4x.below X8_3
    clear r4x
    have Laxxxxx := Laxxxx.below X8_3 Laxxxx.lt
    clear Laxxxx
    have Lbxxxxx := Lbxxxx.below X8_3 Lbxxxx.lt
    clear Lbxxxx
    have Kxxxx := Kxxx.below X8_3 Kxxx.lt
    clear Kxxx
    have Kyx := Ky.below X8_3 Ky.lt
    clear Ky
    have HB109 := Lib.hid (bel_trans HB106.out X8_3)
    clear HB106
    go_upto_region 10 with fail
    obtain ⟨q0a, q1a, q2a, -, -, -⟩ := Laxxxxx.three
    obtain ⟨q0b, q1b, q2b, -, -, -⟩ := Lbxxxxx.three
    obtain ⟨q0x, q1x, q2x, -, -, -⟩ := Kxxxx.three
    obtain ⟨q0y, q1y, q2y, -, -, -⟩ := Kyx.three
    have HK10 : Hid (∀ w', Below t8_3.heap.size t8_3 w' → w'.cell? ⟨w.heap.size, 0, none⟩ = some (.bool sa) ∧ w'.cell? ⟨w.heap.size, 1, none⟩ = some (.slice Aa na ca) ∧ w'.cell? ⟨w.heap.size, 2, none⟩ = some (.slice Ba ma da) ∧ w'.cell? ⟨gb, 0, none⟩ = some (.bool sb) ∧ w'.cell? ⟨gb, 1, none⟩ = some (.slice Ab nb cb) ∧ w'.cell? ⟨gb, 2, none⟩ = some (.slice Bb mb db) ∧ w'.cell? ⟨gx, 0, none⟩ = some (.bool sx) ∧ w'.cell? ⟨gx, 1, none⟩ = some (.slice Ax nx cx) ∧ w'.cell? ⟨gx, 2, none⟩ = some (.slice Bx mx dx) ∧ w'.cell? ⟨gy, 0, none⟩ = some (.bool sy) ∧ w'.cell? ⟨gy, 1, none⟩ = some (.slice Ay ny cy) ∧ w'.cell? ⟨gy, 2, none⟩ = some (.slice By my dy)) := fun w' hb => kps12 hb q0a q1a q2a q0b q1b q2b q0x q1x q2x q0y q1y q2y
    clear q0a q1a q2a q0b q1b q2b q0x q1x q2x q0y q1y q2y
    refine region_plan (S := fun w' => w'.cell? ⟨w.heap.size, 0, none⟩ = some (.bool sa) ∧ w'.cell? ⟨w.heap.size, 1, none⟩ = some (.slice Aa na ca) ∧ w'.cell? ⟨w.heap.size, 2, none⟩ = some (.slice Ba ma da) ∧ w'.cell? ⟨gb, 0, none⟩ = some (.bool sb) ∧ w'.cell? ⟨gb, 1, none⟩ = some (.slice Ab nb cb) ∧ w'.cell? ⟨gb, 2, none⟩ = some (.slice Bb mb db) ∧ w'.cell? ⟨gx, 0, none⟩ = some (.bool sx) ∧ w'.cell? ⟨gx, 1, none⟩ = some (.slice Ax nx cx) ∧ w'.cell? ⟨gx, 2, none⟩ = some (.slice Bx mx dx) ∧ w'.cell? ⟨gy, 0, none⟩ = some (.bool sy) ∧ w'.cell? ⟨gy, 1, none⟩ = some (.slice Ay ny cy) ∧ w'.cell? ⟨gy, 2, none⟩ = some (.slice By my dy)) _ [(0, true), (1, true), (3, true), (4, true), (2, false), (5, false), (6, false), (7, false), (8, true)] (by kernel_rfl) (by kernel_rfl) rfl (by kernel_rfl) (by kernel_rfl) (fun _ _ d _ _ h => by cases d <;> exact h) (HK10.out _ (bel_drew (Below.refl _ _))) ?_
    refine Walk.take (v := ?_) rfl (by rfl) ?_ ?_
    rotate_left
    · (intro w' hSw; (try dsimp only at hSw); go_simp <;> with_reducible rfl)
    try simp only [Act.put, List.setIfInBounds_toArray, List.set_cons_zero, List.set_cons_succ]
    refine Walk.take (v := ?_) rfl (by rfl) ?_ ?_
    rotate_left
    · (intro w' hSw; (try dsimp only at hSw); go_simp <;> with_reducible rfl)
    try simp only [Act.put, List.setIfInBounds_toArray, List.set_cons_zero, List.set_cons_succ]
    refine Walk.take (v := ?_) rfl (by rfl) ?_ ?_
    rotate_left
    · (intro w' hSw; (try dsimp only at hSw); go_simp <;> with_reducible rfl)
    try simp only [Act.put, List.setIfInBounds_toArray, List.set_cons_zero, List.set_cons_succ]
    refine Walk.take (v := ?_) rfl (by rfl) ?_ ?_
    rotate_left
    · (intro w' hSw; (try dsimp only at hSw); go_simp <;> with_reducible rfl)
    try simp only [Act.put, List.setIfInBounds_toArray, List.set_cons_zero, List.set_cons_succ]
    refine Walk.act rfl (by rfl) (fun K hK => ?_)
    go_simp
    go_at_call 15
    refine (qsub_any (w := t8_3.drew) (eaxxxxx.below (bel_drew (Below.refl t8_3.heap.size t8_3))) (ebxxxxx.below (bel_drew (Below.refl t8_3.heap.size t8_3))) (by decide) (by decide) (by decide) (by decide) (hT.below (bel_trans HB109.out (bel_drew (Below.refl t8_3.heap.size t8_3))))).mono ?_
    rintro e t11_1 ⟨x11_1, y11_1, z11_1, r11_1, rfl, hb11_1⟩
    have X11_1 : Below t8_3.heap.size t8_3 t11_1 := bel_trans (bel_drew (Below.refl t8_3.heap.size t8_3)) hb11_1
    refine hK.out _ _ (HK10.out _ X11_1) ?_
    clear hK K
    try simp only [Act.put, List.setIfInBounds_toArray, List.set_cons_zero, List.set_cons_succ]
    refine Walk.act rfl (by rfl) (fun K hK => ?_)
    go_simp
    go_at_call 16
    refine (minus_any (w := t11_1) (r4xx.below X11_1) (by decide) (by decide)).mono ?_
    rintro e t11_2 ⟨x11_2, y11_2, z11_2, r11_2, rfl, hb11_2⟩
    have X11_2 : Below t8_3.heap.size t8_3 t11_2 := bel_trans X11_1 hb11_2
    refine hK.out _ _ (HK10.out _ X11_2) ?_
    clear hK K
    try simp only [Act.put, List.setIfInBounds_toArray, List.set_cons_zero, List.set_cons_succ]
    refine Walk.act rfl (by rfl) (fun K hK => ?_)
    go_simp
    go_at_call 14
    refine (fadd_any (w := t11_2) (r1xxxx.below X11_2) r11_2 (by decide) (by decide)).mono ?_
    rw [← Rat.sub_eq_add_neg]
    rintro e t11_3 ⟨x11_3, y11_3, z11_3, r11_3, rfl, hb11_3⟩
    have X11_3 : Below t8_3.heap.size t8_3 t11_3 := bel_trans X11_2 hb11_3
    refine hK.out _ _ (HK10.out _ X11_3) ?_
    clear hK K
    try simp only [Act.put, List.setIfInBounds_toArray, List.set_cons_zero, List.set_cons_succ]
    refine Walk.act rfl (by rfl) (fun K hK => ?_)
    go_simp
    go_at_call 12
    refine (isq_any (w := t11_3) ((r11_1.below hb11_2).below hb11_3) r11_3 (by decide) (by decide)).mono ?_
    rintro e t11_4 ⟨rfl, hb11_4⟩
    have X11_4 : Below t8_3.heap.size t8_3 t11_4 := bel_trans X11_3 hb11_4
    refine hK.out _ _ (HK10.out _ X11_4) ?_
    clear hK K
    try simp only [Act.put, List.setIfInBounds_toArray, List.set_cons_zero, List.set_cons_succ]
    refine Walk.take (v := ?_) rfl (by rfl) ?_ ?_
    rotate_left
    · (intro w' hSw; (try dsimp only at hSw); go_simp <;> with_reducible rfl)
    try simp only [Act.put, List.setIfInBounds_toArray, List.set_cons_zero, List.set_cons_succ]
    refine Walk.done ?_
    clear HK10
    have eaxxxxxx := eaxxxxx.below X11_4
    clear eaxxxxx
    have ebxxxxxx := ebxxxxx.below X11_4
    clear ebxxxxx
    have r1xxxxx := r1xxxx.below X11_4
    clear r1xxxx
    have r4xxx := r4xx.below X11_4
    clear r4xx
    have Laxxxxxx := Laxxxxx.below X11_4 Laxxxxx.lt
    clear Laxxxxx
    have Lbxxxxxx := Lbxxxxx.below X11_4 Lbxxxxx.lt
    clear Lbxxxxx
    have Kxxxxx := Kxxxx.below X11_4 Kxxxx.lt
    clear Kxxxx
    have Kyxx := Kyx.below X11_4 Kyx.lt
    clear Kyx
    have HB112 := Lib.hid (bel_trans HB109.out X11_4)
    clear HB109
    go_wp2_with fail
    go_ret
    exact ⟨rfl, HB112.out⟩
  · rw [decide_eq_false (by exact hs)]
    go_wp2_with fail
    go_ret
    exact ⟨rfl, HB2.out⟩
end Go.Proofs.YtaollppieonmbaaDoor
