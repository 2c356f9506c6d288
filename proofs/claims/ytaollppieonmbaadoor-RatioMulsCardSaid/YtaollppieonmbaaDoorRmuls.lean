/-
  The walk of RatioMuls: for all fractions the law answers true, and nothing that was there has changed. Condition: the table of math/bits stands in its variable.
-/
import Derived.Test.YtaollppieonmbaaDoorQin
namespace Go.Proofs.YtaollppieonmbaaDoor
open Go.RowKit
set_option maxRecDepth 100000

set_option maxHeartbeats 40000000 in
theorem rmuls_walk (sa : Bool) (Aa Ba : Option Addr) (na ca ma da : Nat) (sb : Bool) (Ab Bb : Option Addr) (nb cb mb db : Nat) (w : World) (ha1 : NatIn w Aa na ca) (ha2 : NatIn w Ba ma da) (hb1 : NatIn w Ab nb cb) (hb2 : NatIn w Bb mb db) (hT : TabOk w) :
    Calls Tryd.prog 4 #[.agg #[.bool sa, .slice Aa na ca, .slice Ba ma da], .agg #[.bool sb, .slice Ab nb cb, .slice Bb mb db]] w fun e w' => e = .returned (.bool true) ∧ Below w.heap.size w w' := by
  go_enter Tryd.func4, Tryd.ntmps4
  go_wp2_with fail
  refine (works3 _ (hT.below (bel_2 _ _ _))).mono ?_
  rintro e W1 ⟨rfl, hb1⟩
  have Ka := Blk.in21 hb1
  have Kb := Blk.in22 hb1
  have HB1 := Lib.hid (bel_trans (bel_2 _ _ _) hb1)
  clear hb1
  generalize w.heap.size + 1 = gb at *
  obtain ⟨q0a, q1a, q2a, -, -, -⟩ := Ka.three
  obtain ⟨q0b, q1b, q2b, -, -, -⟩ := Kb.three
  go_wp2_with fail
  refine (smallR_any _ 2 2 [⟨sa, Aa, na, ca, Ba, ma, da⟩, ⟨sb, Ab, nb, cb, Bb, mb, db⟩] rfl (by decide) _ (rdr_n2 W1 _ _ _)).mono ?_
  rintro e W2 ⟨rfl, rfl⟩
  clear q0a q1a q2a
  clear q0b q1b q2b
  have La := Ka.alloc (.cells #[.bool sa, .slice Aa na ca, .slice Ba ma da, .bool sb, .slice Ab nb cb, .slice Bb mb db] 25)
  clear Ka
  have Lb := Kb.alloc (.cells #[.bool sa, .slice Aa na ca, .slice Ba ma da, .bool sb, .slice Ab nb cb, .slice Bb mb db] 25)
  clear Kb
  have HB2 := Lib.hid (bel_alloc HB1.out (.cells #[.bool sa, .slice Aa na ca, .slice Ba ma da, .bool sb, .slice Ab nb cb, .slice Bb mb db] 25))
  clear HB1
  generalize W1.alloc (.cells #[.bool sa, .slice Aa na ca, .slice Ba ma da, .bool sb, .slice Ab nb cb, .slice Bb mb db] 25) = W2 at *
  rw [small2]
  by_cases hs : na ≤ 4 ∧ ma ≤ 4 ∧ nb ≤ 4 ∧ mb ≤ 4
  · rw [decide_eq_true (by exact hs)]
    obtain ⟨ra, fa⟩ := in_rv (L := 4) sa ha1 ha2 hs.1 hs.2.1
    have ea := fa.below HB2.out
    clear fa ha1 ha2
    obtain ⟨rb, fb⟩ := in_rv (L := 4) sb hb1 hb2 hs.2.2.1 hs.2.2.2
    have eb := fb.below HB2.out
    clear fb hb1 hb2
    clear hs
    obtain ⟨q0a, q1a, q2a, -, -, -⟩ := La.three
    go_wp2_with fail
    clear q0a q1a q2a
    refine (ofq_any ea (by decide) (by decide)).mono ?_
    rintro e w1 ⟨x1, y1, z1, r1, rfl, hb1⟩
    have eax := ea.below hb1
    clear ea
    have ebx := eb.below hb1
    clear eb
    have Lax := La.below hb1 La.lt
    clear La
    have Lbx := Lb.below hb1 Lb.lt
    clear Lb
    have HB102 := Lib.hid (bel_trans HB2.out hb1)
    clear hb1 HB2
    obtain ⟨sx, Ax, nx, cx, Bx, mx, dx, rfl, rfl, rfl⟩ := r1.form
    have b1 := bel_alloc (Below.refl w1.heap.size w1) (.cells #[.bool sx, .slice Ax nx cx, .slice Bx mx dx] 30)
    have Kx := Blk.new w1 30 #[.bool sx, .slice Ax nx cx, .slice Bx mx dx]
    obtain ⟨v1, hv1⟩ : ∃ v, v = w1.alloc (.cells #[.bool sx, .slice Ax nx cx, .slice Bx mx dx] 30) := ⟨_, rfl⟩
    obtain ⟨gx, hgx⟩ : ∃ g, g = w1.heap.size := ⟨_, rfl⟩
    have Gx := Lib.hid hgx
    have V1 := Lib.hid hv1
    rw [← hv1] at b1 Kx
    rw [← hgx] at Kx
    clear hv1 hgx
    have eaxx := eax.below b1
    clear eax
    have ebxx := ebx.below b1
    clear ebx
    have r1x := r1.below b1
    clear r1
    have Laxx := Lax.below b1 Lax.lt
    clear Lax
    have Lbxx := Lbx.below b1 Lbx.lt
    clear Lbx
    have HB103 := Lib.hid (bel_trans HB102.out b1)
    clear b1 HB102
    obtain ⟨q0b, q1b, q2b, -, -, -⟩ := Lbxx.three
    rw [V1.out] at q0b q1b q2b
    go_wp2_with fail
    rw [← Gx.out, ← V1.out]
    clear Gx V1
    clear q0b q1b q2b
    refine (ofq_any ebxx (by decide) (by decide)).mono ?_
    rintro e w4 ⟨x4, y4, z4, r4, rfl, hb4⟩
    have eaxxx := eaxx.below hb4
    clear eaxx
    have ebxxx := ebxx.below hb4
    clear ebxx
    have r1xx := r1x.below hb4
    clear r1x
    have Laxxx := Laxx.below hb4 Laxx.lt
    clear Laxx
    have Lbxxx := Lbxx.below hb4 Lbxx.lt
    clear Lbxx
    have Kxx := Kx.below hb4 Kx.lt
    clear Kx
    have HB105 := Lib.hid (bel_trans HB103.out hb4)
    clear hb4 HB103
    obtain ⟨sy, Ay, ny, cy, By, my, dy, rfl, rfl, rfl⟩ := r4.form
    have b4 := bel_alloc (Below.refl w4.heap.size w4) (.cells #[.bool sy, .slice Ay ny cy, .slice By my dy] 30)
    have Ky := Blk.new w4 30 #[.bool sy, .slice Ay ny cy, .slice By my dy]
    obtain ⟨v4, hv4⟩ : ∃ v, v = w4.alloc (.cells #[.bool sy, .slice Ay ny cy, .slice By my dy] 30) := ⟨_, rfl⟩
    obtain ⟨gy, hgy⟩ : ∃ g, g = w4.heap.size := ⟨_, rfl⟩
    have Gy := Lib.hid hgy
    have V4 := Lib.hid hv4
    rw [← hv4] at b4 Ky
    rw [← hgy] at Ky
    clear hv4 hgy
    have eaxxxx := eaxxx.below b4
    clear eaxxx
    have ebxxxx := ebxxx.below b4
    clear ebxxx
    have r1xxx := r1xx.below b4
    clear r1xx
    have r4x := r4.below b4
    clear r4
    have Laxxxx := Laxxx.below b4 Laxxx.lt
    clear Laxxx
    have Lbxxxx := Lbxxx.below b4 Lbxxx.lt
    clear Lbxxx
    have Kxxx := Kxx.below b4 Kxx.lt
    clear Kxx
    have HB106 := Lib.hid (bel_trans HB105.out b4)
    clear b4 HB105
    go_upto_region 9 with fail
    rw [← Gy.out, ← V4.out]
    clear Gy V4
    obtain ⟨q0a, q1a, q2a, -, -, -⟩ := Laxxxx.three
    obtain ⟨q0b, q1b, q2b, -, -, -⟩ := Lbxxxx.three
    obtain ⟨q0x, q1x, q2x, -, -, -⟩ := Kxxx.three
    obtain ⟨q0y, q1y, q2y, -, -, -⟩ := Ky.three
    have HK7 : Hid (∀ w', Below v4.heap.size v4 w' → w'.cell? ⟨w.heap.size, 0, none⟩ = some (.bool sa) ∧ w'.cell? ⟨w.heap.size, 1, none⟩ = some (.slice Aa na ca) ∧ w'.cell? ⟨w.heap.size, 2, none⟩ = some (.slice Ba ma da) ∧ w'.cell? ⟨gb, 0, none⟩ = some (.bool sb) ∧ w'.cell? ⟨gb, 1, none⟩ = some (.slice Ab nb cb) ∧ w'.cell? ⟨gb, 2, none⟩ = some (.slice Bb mb db) ∧ w'.cell? ⟨gx, 0, none⟩ = some (.bool sx) ∧ w'.cell? ⟨gx, 1, none⟩ = some (.slice Ax nx cx) ∧ w'.cell? ⟨gx, 2, none⟩ = some (.slice Bx mx dx) ∧ w'.cell? ⟨gy, 0, none⟩ = some (.bool sy) ∧ w'.cell? ⟨gy, 1, none⟩ = some (.slice Ay ny cy) ∧ w'.cell? ⟨gy, 2, none⟩ = some (.slice By my dy)) := fun w' hb => kps12 hb q0a q1a q2a q0b q1b q2b q0x q1x q2x q0y q1y q2y
    clear q0a q1a q2a q0b q1b q2b q0x q1x q2x q0y q1y q2y
    refine region_plan (S := fun w' => w'.cell? ⟨w.heap.size, 0, none⟩ = some (.bool sa) ∧ w'.cell? ⟨w.heap.size, 1, none⟩ = some (.slice Aa na ca) ∧ w'.cell? ⟨w.heap.size, 2, none⟩ = some (.slice Ba ma da) ∧ w'.cell? ⟨gb, 0, none⟩ = some (.bool sb) ∧ w'.cell? ⟨gb, 1, none⟩ = some (.slice Ab nb cb) ∧ w'.cell? ⟨gb, 2, none⟩ = some (.slice Bb mb db) ∧ w'.cell? ⟨gx, 0, none⟩ = some (.bool sx) ∧ w'.cell? ⟨gx, 1, none⟩ = some (.slice Ax nx cx) ∧ w'.cell? ⟨gx, 2, none⟩ = some (.slice Bx mx dx) ∧ w'.cell? ⟨gy, 0, none⟩ = some (.bool sy) ∧ w'.cell? ⟨gy, 1, none⟩ = some (.slice Ay ny cy) ∧ w'.cell? ⟨gy, 2, none⟩ = some (.slice By my dy)) _ [(0, true), (1, true), (3, true), (4, true), (2, false), (5, false), (6, false), (7, true)] (by kernel_rfl) (by kernel_rfl) rfl (by kernel_rfl) (by kernel_rfl) (fun _ _ d _ _ h => by cases d <;> exact h) (HK7.out _ (bel_drew (Below.refl _ _))) ?_
    refine Walk.take (v := ?_) rfl (by rfl) ?_ ?_
    rotate_left
    · (intro w' hSw; (try dsimp only at hSw); go_simp <;> with_reducible rfl)
    try simp only [Act.put, List.setIfInBounds_toArray, List.set_cons_zero, List.set_cons_succ]
    refine Walk.take (v := ?_) rfl (by rfl) ?_ ?_
    rotate_left
    · (intro w' hSw; (try dsimp only at hSw); go_simp <;> with_reducible rfl)
    try simp only [Act.put, List.setIfInBounds_toArray, List.set_cons_zero, List.set_cons_succ]
    refine Walk.take (v := ?_) rfl (by rfl) ?_ ?_
    rotate_left
    · (intro w' hSw; (try dsimp only at hSw); go_simp <;> with_reducible rfl)
    try simp only [Act.put, List.setIfInBounds_toArray, List.set_cons_zero, List.set_cons_succ]
    refine Walk.take (v := ?_) rfl (by rfl) ?_ ?_
    rotate_left
    · (intro w' hSw; (try dsimp only at hSw); go_simp <;> with_reducible rfl)
    try simp only [Act.put, List.setIfInBounds_toArray, List.set_cons_zero, List.set_cons_succ]
    refine Walk.act rfl (by rfl) (fun K hK => ?_)
    go_simp
    go_at_call 17
    refine (qmul_any (w := v4.drew) (eaxxxx.below (bel_drew (Below.refl v4.heap.size v4))) (ebxxxx.below (bel_drew (Below.refl v4.heap.size v4))) (by decide) (by decide) (by decide) (hT.below (bel_trans HB106.out (bel_drew (Below.refl v4.heap.size v4))))).mono ?_
    rintro e t8_1 ⟨x8_1, y8_1, z8_1, r8_1, rfl, hb8_1⟩
    have X8_1 : Below v4.heap.size v4 t8_1 := bel_trans (bel_drew (Below.refl v4.heap.size v4)) hb8_1
    refine hK.out _ _ (HK7.out _ X8_1) ?_
    clear hK K
    try simp only [Act.put, List.setIfInBounds_toArray, List.set_cons_zero, List.set_cons_succ]
    refine Walk.act rfl (by rfl) (fun K hK => ?_)
    go_simp
    go_at_call 18
    refine (fmul_any (w := t8_1) (r1xxx.below X8_1) (r4x.below X8_1) (by decide) (by decide)).mono ?_
    rintro e t8_2 ⟨x8_2, y8_2, z8_2, r8_2, rfl, hb8_2⟩
    have X8_2 : Below v4.heap.size v4 t8_2 := bel_trans X8_1 hb8_2
    refine hK.out _ _ (HK7.out _ X8_2) ?_
    clear hK K
    try simp only [Act.put, List.setIfInBounds_toArray, List.set_cons_zero, List.set_cons_succ]
    refine Walk.act rfl (by rfl) (fun K hK => ?_)
    go_simp
    go_at_call 12
    refine (isq_any (w := t8_2) (r8_1.below hb8_2) r8_2 (by decide) (by decide)).mono ?_
    rintro e t8_3 ⟨rfl, hb8_3⟩
    have X8_3 : Below v4.heap.size v4 t8_3 := bel_trans X8_2 hb8_3
    refine hK.out _ _ (HK7.out _ X8_3) ?_
    clear hK K
    try simp only [Act.put, List.setIfInBounds_toArray, List.set_cons_zero, List.set_cons_succ]
    refine Walk.take (v := ?_) rfl (by rfl) ?_ ?_
    rotate_left
    · (intro w' hSw; (try dsimp only at hSw); go_simp <;> with_reducible rfl)
    try simp only [Act.put, List.setIfInBounds_toArray, List.set_cons_zero, List.set_cons_succ]
    refine Walk.done ?_
    clear HK7
    have eaxxxxx := eaxxxx.below X8_3
    clear eaxxxx
    have ebxxxxx := ebxxxx.below X8_3
    clear ebxxxx
    have r1xxxx := r1xxx.below X8_3
    clear r1xxx
    have r4xx := r4x.below X8_3
    clear r4x
    have Laxxxxx := Laxxxx.below X8_3 Laxxxx.lt
    clear Laxxxx
    have Lbxxxxx := Lbxxxx.below X8_3 Lbxxxx.lt
    clear Lbxxxx
    have Kxxxx := Kxxx.below X8_3 Kxxx.lt
    clear Kxxx
    have Kyx := Ky.below X8_3 Ky.lt
    clear Ky
    have HB109 := Lib.hid (bel_trans HB106.out X8_3)
    clear HB106
    by_cases h0 : rb = 0
    · obtain ⟨q0a, q1a, q2a, -, -, -⟩ := Laxxxxx.three
      obtain ⟨q0b, q1b, q2b, -, -, -⟩ := Lbxxxxx.three
      go_wp2_with fail
      clear q0a q1a q2a
      clear q0b q1b q2b
      refine (qdiv_zero eaxxxxx ebxxxxx (by decide) h0).mono ?_
      rintro e w301 ⟨rfl, hb301⟩
      have eaxxxxxx := eaxxxxx.below hb301
      clear eaxxxxx
      have ebxxxxxx := ebxxxxx.below hb301
      clear ebxxxxx
      have r1xxxxx := r1xxxx.below hb301
      clear r1xxxx
      have r4xxx := r4xx.below hb301
      clear r4xx
      have Laxxxxxx := Laxxxxx.below hb301 Laxxxxx.lt
      clear Laxxxxx
      have Lbxxxxxx := Lbxxxxx.below hb301 Lbxxxxx.lt
      clear Lbxxxxx
      have Kxxxxx := Kxxxx.below hb301 Kxxxx.lt
      clear Kxxxx
      have Kyxx := Kyx.below hb301 Kyx.lt
      clear Kyx
      have HB402 := Lib.hid (bel_trans HB109.out hb301)
      clear hb301 HB109
      have b301 := bel_alloc (Below.refl w301.heap.size w301) (.cells #[.bool false, .slice none 0 0, .slice none 0 0] 25)
      have Kq := Blk.new w301 25 #[.bool false, .slice none 0 0, .slice none 0 0]
      obtain ⟨v301, hv301⟩ : ∃ v, v = w301.alloc (.cells #[.bool false, .slice none 0 0, .slice none 0 0] 25) := ⟨_, rfl⟩
      obtain ⟨gq, hgq⟩ : ∃ g, g = w301.heap.size := ⟨_, rfl⟩
      have Gq := Lib.hid hgq
      have V301 := Lib.hid hv301
      rw [← hv301] at b301 Kq
      rw [← hgq] at Kq
      clear hv301 hgq
      have eaxxxxxxx := eaxxxxxx.below b301
      clear eaxxxxxx
      have ebxxxxxxx := ebxxxxxx.below b301
      clear ebxxxxxx
      have r1xxxxxx := r1xxxxx.below b301
      clear r1xxxxx
      have r4xxxx := r4xxx.below b301
      clear r4xxx
      have Laxxxxxxx := Laxxxxxx.below b301 Laxxxxxx.lt
      clear Laxxxxxx
      have Lbxxxxxxx := Lbxxxxxx.below b301 Lbxxxxxx.lt
      clear Lbxxxxxx
      have Kxxxxxx := Kxxxxx.below b301 Kxxxxx.lt
      clear Kxxxxx
      have Kyxxx := Kyxx.below b301 Kyxx.lt
      clear Kyxx
      have HB403 := Lib.hid (bel_trans HB402.out b301)
      clear b301 HB402
      obtain ⟨q0y, q1y, q2y, -, -, -⟩ := Kyxxx.three
      rw [V301.out] at q0y q1y q2y
      go_wp2_with fail
      rw [← Gq.out, ← V301.out]
      clear Gq V301
      clear q0y q1y q2y
      refine (fsign_any r4xxxx (by decide)).mono ?_
      rw [h0, show sgn 0 = 0 by rfl]
      rintro e w304 ⟨rfl, hb304⟩
      have eaxxxxxxxx := eaxxxxxxx.below hb304
      clear eaxxxxxxx
      have ebxxxxxxxx := ebxxxxxxx.below hb304
      clear ebxxxxxxx
      have r1xxxxxxx := r1xxxxxx.below hb304
      clear r1xxxxxx
      have r4xxxxx := r4xxxx.below hb304
      clear r4xxxx
      have Laxxxxxxxx := Laxxxxxxx.below hb304 Laxxxxxxx.lt
      clear Laxxxxxxx
      have Lbxxxxxxxx := Lbxxxxxxx.below hb304 Lbxxxxxxx.lt
      clear Lbxxxxxxx
      have Kxxxxxxx := Kxxxxxx.below hb304 Kxxxxxx.lt
      clear Kxxxxxx
      have Kyxxxx := Kyxxx.below hb304 Kyxxx.lt
      clear Kyxxx
      have Kqx := Kq.below hb304 Kq.lt
      clear Kq
      have HB405 := Lib.hid (bel_trans HB403.out hb304)
      clear hb304 HB403
      obtain ⟨q0q, q1q, q2q, -, -, -⟩ := Kqx.three
      go_wp2_with fail
      go_ret
      exact ⟨rfl, HB405.out⟩
    · have hs0 : (sgn rb == 0) = false := by
        have : sgn rb ≠ 0 := fun e => h0 (sgn_eq.1 e)
        simpa using this
      obtain ⟨q0a, q1a, q2a, -, -, -⟩ := Laxxxxx.three
      obtain ⟨q0b, q1b, q2b, -, -, -⟩ := Lbxxxxx.three
      go_wp2_with fail
      clear q0a q1a q2a
      clear q0b q1b q2b
      refine (qdiv_any eaxxxxx ebxxxxx (by decide) (by decide) (by decide) (hT.below HB109.out) h0).mono ?_
      rintro e w501 ⟨x501, y501, z501, r501, rfl, hb501⟩
      have eaxxxxxx := eaxxxxx.below hb501
      clear eaxxxxx
      have ebxxxxxx := ebxxxxx.below hb501
      clear ebxxxxx
      have r1xxxxx := r1xxxx.below hb501
      clear r1xxxx
      have r4xxx := r4xx.below hb501
      clear r4xx
      have Laxxxxxx := Laxxxxx.below hb501 Laxxxxx.lt
      clear Laxxxxx
      have Lbxxxxxx := Lbxxxxx.below hb501 Lbxxxxx.lt
      clear Lbxxxxx
      have Kxxxxx := Kxxxx.below hb501 Kxxxx.lt
      clear Kxxxx
      have Kyxx := Kyx.below hb501 Kyx.lt
      clear Kyx
      have HB602 := Lib.hid (bel_trans HB109.out hb501)
      clear hb501 HB109
      obtain ⟨sq, Aq, nq, cq, Bq, mq, dq, rfl, rfl, rfl⟩ := r501.form
      have b501 := bel_alloc (Below.refl w501.heap.size w501) (.cells #[.bool sq, .slice Aq nq cq, .slice Bq mq dq] 25)
      have Kq := Blk.new w501 25 #[.bool sq, .slice Aq nq cq, .slice Bq mq dq]
      obtain ⟨v501, hv501⟩ : ∃ v, v = w501.alloc (.cells #[.bool sq, .slice Aq nq cq, .slice Bq mq dq] 25) := ⟨_, rfl⟩
      obtain ⟨gq, hgq⟩ : ∃ g, g = w501.heap.size := ⟨_, rfl⟩
      have Gq := Lib.hid hgq
      have V501 := Lib.hid hv501
      rw [← hv501] at b501 Kq
      rw [← hgq] at Kq
      clear hv501 hgq
      have eaxxxxxxx := eaxxxxxx.below b501
      clear eaxxxxxx
      have ebxxxxxxx := ebxxxxxx.below b501
      clear ebxxxxxx
      have r1xxxxxx := r1xxxxx.below b501
      clear r1xxxxx
      have r4xxxx := r4xxx.below b501
      clear r4xxx
      have r501x := r501.below b501
      clear r501
      have Laxxxxxxx := Laxxxxxx.below b501 Laxxxxxx.lt
      clear Laxxxxxx
      have Lbxxxxxxx := Lbxxxxxx.below b501 Lbxxxxxx.lt
      clear Lbxxxxxx
      have Kxxxxxx := Kxxxxx.below b501 Kxxxxx.lt
      clear Kxxxxx
      have Kyxxx := Kyxx.below b501 Kyxx.lt
      clear Kyxx
      have HB603 := Lib.hid (bel_trans HB602.out b501)
      clear b501 HB602
      obtain ⟨q0y, q1y, q2y, -, -, -⟩ := Kyxxx.three
      rw [V501.out] at q0y q1y q2y
      go_wp2_with fail
      rw [← Gq.out, ← V501.out]
      clear Gq V501
      clear q0y q1y q2y
      refine (fsign_any r4xxxx (by decide)).mono ?_
      generalize sgn rb = sg at *
      rintro e w504 ⟨rfl, hb504⟩
      have eaxxxxxxxx := eaxxxxxxx.below hb504
      clear eaxxxxxxx
      have ebxxxxxxxx := ebxxxxxxx.below hb504
      clear ebxxxxxxx
      have r1xxxxxxx := r1xxxxxx.below hb504
      clear r1xxxxxx
      have r4xxxxx := r4xxxx.below hb504
      clear r4xxxx
      have r501xx := r501x.below hb504
      clear r501x
      have Laxxxxxxxx := Laxxxxxxx.below hb504 Laxxxxxxx.lt
      clear Laxxxxxxx
      have Lbxxxxxxxx := Lbxxxxxxx.below hb504 Lbxxxxxxx.lt
      clear Lbxxxxxxx
      have Kxxxxxxx := Kxxxxxx.below hb504 Kxxxxxx.lt
      clear Kxxxxxx
      have Kyxxxx := Kyxxx.below hb504 Kyxxx.lt
      clear Kyxxx
      have Kqx := Kq.below hb504 Kq.lt
      clear Kq
      have HB605 := Lib.hid (bel_trans HB603.out hb504)
      clear hb504 HB603
      go_upto_region 13 with fail
      obtain ⟨q0q, q1q, q2q, -, -, -⟩ := Kqx.three
      obtain ⟨q0x, q1x, q2x, -, -, -⟩ := Kxxxxxxx.three
      obtain ⟨q0y, q1y, q2y, -, -, -⟩ := Kyxxxx.three
      have HK506 : Hid (∀ w', Below w504.heap.size w504 w' → w'.cell? ⟨gq, 0, none⟩ = some (.bool sq) ∧ w'.cell? ⟨gq, 1, none⟩ = some (.slice Aq nq cq) ∧ w'.cell? ⟨gq, 2, none⟩ = some (.slice Bq mq dq) ∧ w'.cell? ⟨gx, 0, none⟩ = some (.bool sx) ∧ w'.cell? ⟨gx, 1, none⟩ = some (.slice Ax nx cx) ∧ w'.cell? ⟨gx, 2, none⟩ = some (.slice Bx mx dx) ∧ w'.cell? ⟨gy, 0, none⟩ = some (.bool sy) ∧ w'.cell? ⟨gy, 1, none⟩ = some (.slice Ay ny cy) ∧ w'.cell? ⟨gy, 2, none⟩ = some (.slice By my dy)) := fun w' hb => kps9 hb q0q q1q q2q q0x q1x q2x q0y q1y q2y
      clear q0q q1q q2q q0x q1x q2x q0y q1y q2y
      refine region_plan (S := fun w' => w'.cell? ⟨gq, 0, none⟩ = some (.bool sq) ∧ w'.cell? ⟨gq, 1, none⟩ = some (.slice Aq nq cq) ∧ w'.cell? ⟨gq, 2, none⟩ = some (.slice Bq mq dq) ∧ w'.cell? ⟨gx, 0, none⟩ = some (.bool sx) ∧ w'.cell? ⟨gx, 1, none⟩ = some (.slice Ax nx cx) ∧ w'.cell? ⟨gx, 2, none⟩ = some (.slice Bx mx dx) ∧ w'.cell? ⟨gy, 0, none⟩ = some (.bool sy) ∧ w'.cell? ⟨gy, 1, none⟩ = some (.slice Ay ny cy) ∧ w'.cell? ⟨gy, 2, none⟩ = some (.slice By my dy)) _ [(0, true), (1, true), (2, true), (3, false), (4, false), (5, false), (6, true)] (by kernel_rfl) (by kernel_rfl) rfl (by kernel_rfl) (by kernel_rfl) (fun _ _ d _ _ h => by cases d <;> exact h) (HK506.out _ (bel_drew (Below.refl _ _))) ?_
      refine Walk.take (v := ?_) rfl (by rfl) ?_ ?_
      rotate_left
      · (intro w' hSw; (try dsimp only at hSw); go_simp <;> with_reducible rfl)
      try simp only [Act.put, List.setIfInBounds_toArray, List.set_cons_zero, List.set_cons_succ]
      refine Walk.take (v := ?_) rfl (by rfl) ?_ ?_
      rotate_left
      · (intro w' hSw; (try dsimp only at hSw); go_simp <;> with_reducible rfl)
      try simp only [Act.put, List.setIfInBounds_toArray, List.set_cons_zero, List.set_cons_succ]
      refine Walk.take (v := ?_) rfl (by rfl) ?_ ?_
      rotate_left
      · (intro w' hSw; (try dsimp only at hSw); go_simp <;> with_reducible rfl)
      try simp only [Act.put, List.setIfInBounds_toArray, List.set_cons_zero, List.set_cons_succ]
      refine Walk.act rfl (by rfl) (fun K hK => ?_)
      go_simp
      go_at_call 21
      refine (over_any (w := w504.drew) (r4xxxxx.below (bel_drew (Below.refl w504.heap.size w504))) (by decide) (by decide) h0).mono ?_
      rintro e t507_1 ⟨x507_1, y507_1, z507_1, r507_1, rfl, hb507_1⟩
      have X507_1 : Below w504.heap.size w504 t507_1 := bel_trans (bel_drew (Below.refl w504.heap.size w504)) hb507_1
      refine hK.out _ _ (HK506.out _ X507_1) ?_
      clear hK K
      try simp only [Act.put, List.setIfInBounds_toArray, List.set_cons_zero, List.set_cons_succ]
      refine Walk.act rfl (by rfl) (fun K hK => ?_)
      go_simp
      go_at_call 18
      refine (fmul_any (w := t507_1) (r1xxxxxxx.below X507_1) r507_1 (by decide) (by decide)).mono ?_
      rw [← Rat.div_def]
      rintro e t507_2 ⟨x507_2, y507_2, z507_2, r507_2, rfl, hb507_2⟩
      have X507_2 : Below w504.heap.size w504 t507_2 := bel_trans X507_1 hb507_2
      refine hK.out _ _ (HK506.out _ X507_2) ?_
      clear hK K
      try simp only [Act.put, List.setIfInBounds_toArray, List.set_cons_zero, List.set_cons_succ]
      refine Walk.act rfl (by rfl) (fun K hK => ?_)
      go_simp
      go_at_call 12
      refine (isq_any (w := t507_2) (r501xx.below X507_2) r507_2 (by decide) (by decide)).mono ?_
      rintro e t507_3 ⟨rfl, hb507_3⟩
      have X507_3 : Below w504.heap.size w504 t507_3 := bel_trans X507_2 hb507_3
      refine hK.out _ _ (HK506.out _ X507_3) ?_
      clear hK K
      try simp only [Act.put, List.setIfInBounds_toArray, List.set_cons_zero, List.set_cons_succ]
      refine Walk.take (v := ?_) rfl (by rfl) ?_ ?_
      rotate_left
      · (intro w' hSw; (try dsimp only at hSw); go_simp <;> with_reducible rfl)
      try simp only [Act.put, List.setIfInBounds_toArray, List.set_cons_zero, List.set_cons_succ]
      refine Walk.done ?_
      clear HK506
      have eaxxxxxxxxx := eaxxxxxxxx.below X507_3
      clear eaxxxxxxxx
      have ebxxxxxxxxx := ebxxxxxxxx.below X507_3
      clear ebxxxxxxxx
      have r1xxxxxxxx := r1xxxxxxx.below X507_3
      clear r1xxxxxxx
      have r4xxxxxx := r4xxxxx.below X507_3
      clear r4xxxxx
      have r501xxx := r501xx.below X507_3
      clear r501xx
      have Laxxxxxxxxx := Laxxxxxxxx.below X507_3 Laxxxxxxxx.lt
      clear Laxxxxxxxx
      have Lbxxxxxxxxx := Lbxxxxxxxx.below X507_3 Lbxxxxxxxx.lt
      clear Lbxxxxxxxx
      have Kxxxxxxxx := Kxxxxxxx.below X507_3 Kxxxxxxx.lt
      clear Kxxxxxxx
      have Kyxxxxx := Kyxxxx.below X507_3 Kyxxxx.lt
      clear Kyxxxx
      have Kqxx := Kqx.below X507_3 Kqx.lt
      clear Kqx
      have HB608 := Lib.hid (bel_trans HB605.out X507_3)
      clear HB605
      go_wp2_with fail
      go_ret
      exact ⟨rfl, HB608.out⟩
  · rw [decide_eq_false (by exact hs)]
    go_wp2_with fail
    go_ret
    exact ⟨rfl, HB2.out⟩
end Go.Proofs.YtaollppieonmbaaDoor
