/-
  The walk of RatioOrders: for all fractions the law answers true, and nothing that was there has changed. Condition: the table of math/bits stands in its variable.
-/
import Derived.Test.YtaollppieonmbaaDoorQin
namespace Go.Proofs.YtaollppieonmbaaDoor
open Go.RowKit
set_option maxRecDepth 100000

theorem text_eq {r : Rat} {s t : ByteArray} (h : IsRText r s.data.toList) (k : IsRText r t.data.toList) : t = s := by
  have e := k.eq h
  obtain ⟨⟨a⟩⟩ := s
  obtain ⟨⟨b⟩⟩ := t
  simp at e
  rw [e]
theorem low_abs (r : Rat) : rv false (rp r) (rq r) = absR r := by
  have h := rv_abs (s := rs r) (rp_nonneg r) (Int.le_of_lt (rq_pos r))
  rw [rv_of] at h
  exact h
theorem blen_row {w : World} {v : Value} {p : Int} {L : Nat} (h : RowC w v p L) : 0 ≤ blen p ∧ blen p ≤ L := blen_bd h.nonneg h.v.lt

set_option maxHeartbeats 40000000 in
theorem rorders_walk (sa : Bool) (Aa Ba : Option Addr) (na ca ma da : Nat) (sb : Bool) (Ab Bb : Option Addr) (nb cb mb db : Nat) (w : World) (ha1 : NatIn w Aa na ca) (ha2 : NatIn w Ba ma da) (hb1 : NatIn w Ab nb cb) (hb2 : NatIn w Bb mb db) (hT : TabOk w) :
    Calls Tryd.prog 5 #[.agg #[.bool sa, .slice Aa na ca, .slice Ba ma da], .agg #[.bool sb, .slice Ab nb cb, .slice Bb mb db]] w fun e w' => e = .returned (.bool true) ∧ Below w.heap.size w w' := by
  go_enter Tryd.func5, Tryd.ntmps5
  go_wp2_with fail
  refine (works3 _ (hT.below (bel_2 _ _ _))).mono ?_
  rintro e W1 ⟨rfl, hb1⟩
  have Ka := Blk.in21 hb1
  have Kb := Blk.in22 hb1
  have HB1 := Lib.hid (bel_trans (bel_2 _ _ _) hb1)
  clear hb1
  generalize w.heap.size + 1 = gb at *
  obtain ⟨q0a, q1a, q2a, -, -, -⟩ := Ka.three
  obtain ⟨q0b, q1b, q2b, -, -, -⟩ := Kb.three
  go_wp2_with fail
  refine (smallR_any _ 2 2 [⟨sa, Aa, na, ca, Ba, ma, da⟩, ⟨sb, Ab, nb, cb, Bb, mb, db⟩] rfl (by decide) _ (rdr_n2 W1 _ _ _)).mono ?_
  rintro e W2 ⟨rfl, rfl⟩
  clear q0a q1a q2a
  clear q0b q1b q2b
  have La := Ka.alloc (.cells #[.bool sa, .slice Aa na ca, .slice Ba ma da, .bool sb, .slice Ab nb cb, .slice Bb mb db] 25)
  clear Ka
  have Lb := Kb.alloc (.cells #[.bool sa, .slice Aa na ca, .slice Ba ma da, .bool sb, .slice Ab nb cb, .slice Bb mb db] 25)
  clear Kb
  have HB2 := Lib.hid (bel_alloc HB1.out (.cells #[.bool sa, .slice Aa na ca, .slice Ba ma da, .bool sb, .slice Ab nb cb, .slice Bb mb db] 25))
  clear HB1
  generalize W1.alloc (.cells #[.bool sa, .slice Aa na ca, .slice Ba ma da, .bool sb, .slice Ab nb cb, .slice Bb mb db] 25) = W2 at *
  rw [small2]
  by_cases hs : na ≤ 4 ∧ ma ≤ 4 ∧ nb ≤ 4 ∧ mb ≤ 4
  · rw [decide_eq_true (by exact hs)]
    obtain ⟨ra, fa⟩ := in_rv (L := 4) sa ha1 ha2 hs.1 hs.2.1
    have ea := fa.below HB2.out
    clear fa ha1 ha2
    obtain ⟨rb, fb⟩ := in_rv (L := 4) sb hb1 hb2 hs.2.2.1 hs.2.2.2
    have eb := fb.below HB2.out
    clear fb hb1 hb2
    clear hs
    obtain ⟨q0a, q1a, q2a, -, -, -⟩ := La.three
    go_wp2_with fail
    clear q0a q1a q2a
    refine (ofq_any ea (by decide) (by decide)).mono ?_
    rintro e w1 ⟨x1, y1, z1, r1, rfl, hb1⟩
    have eax := ea.below hb1
    clear ea
    have ebx := eb.below hb1
    clear eb
    have Lax := La.below hb1 La.lt
    clear La
    have Lbx := Lb.below hb1 Lb.lt
    clear Lb
    have HB102 := Lib.hid (bel_trans HB2.out hb1)
    clear hb1 HB2
    obtain ⟨sx, Ax, nx, cx, Bx, mx, dx, rfl, rfl, rfl⟩ := r1.form
    have b1 := bel_alloc (Below.refl w1.heap.size w1) (.cells #[.bool sx, .slice Ax nx cx, .slice Bx mx dx] 30)
    have Kx := Blk.new w1 30 #[.bool sx, .slice Ax nx cx, .slice Bx mx dx]
    obtain ⟨v1, hv1⟩ : ∃ v, v = w1.alloc (.cells #[.bool sx, .slice Ax nx cx, .slice Bx mx dx] 30) := ⟨_, rfl⟩
    obtain ⟨gx, hgx⟩ : ∃ g, g = w1.heap.size := ⟨_, rfl⟩
    have Gx := Lib.hid hgx
    have V1 := Lib.hid hv1
    rw [← hv1] at b1 Kx
    rw [← hgx] at Kx
    clear hv1 hgx
    have eaxx := eax.below b1
    clear eax
    have ebxx := ebx.below b1
    clear ebx
    have r1x := r1.below b1
    clear r1
    have Laxx := Lax.below b1 Lax.lt
    clear Lax
    have Lbxx := Lbx.below b1 Lbx.lt
    clear Lbx
    have HB103 := Lib.hid (bel_trans HB102.out b1)
    clear b1 HB102
    obtain ⟨q0b, q1b, q2b, -, -, -⟩ := Lbxx.three
    rw [V1.out] at q0b q1b q2b
    go_wp2_with fail
    rw [← Gx.out, ← V1.out]
    clear Gx V1
    clear q0b q1b q2b
    refine (ofq_any ebxx (by decide) (by decide)).mono ?_
    rintro e w4 ⟨x4, y4, z4, r4, rfl, hb4⟩
    have eaxxx := eaxx.below hb4
    clear eaxx
    have ebxxx := ebxx.below hb4
    clear ebxx
    have r1xx := r1x.below hb4
    clear r1x
    have Laxxx := Laxx.below hb4 Laxx.lt
    clear Laxx
    have Lbxxx := Lbxx.below hb4 Lbxx.lt
    clear Lbxx
    have Kxx := Kx.below hb4 Kx.lt
    clear Kx
    have HB105 := Lib.hid (bel_trans HB103.out hb4)
    clear hb4 HB103
    obtain ⟨sy, Ay, ny, cy, By, my, dy, rfl, rfl, rfl⟩ := r4.form
    have b4 := bel_alloc (Below.refl w4.heap.size w4) (.cells #[.bool sy, .slice Ay ny cy, .slice By my dy] 30)
    have Ky := Blk.new w4 30 #[.bool sy, .slice Ay ny cy, .slice By my dy]
    obtain ⟨v4, hv4⟩ : ∃ v, v = w4.alloc (.cells #[.bool sy, .slice Ay ny cy, .slice By my dy] 30) := ⟨_, rfl⟩
    obtain ⟨gy, hgy⟩ : ∃ g, g = w4.heap.size := ⟨_, rfl⟩
    have Gy := Lib.hid hgy
    have V4 := Lib.hid hv4
    rw [← hv4] at b4 Ky
    rw [← hgy] at Ky
    clear hv4 hgy
    have eaxxxx := eaxxx.below b4
    clear eaxxx
    have ebxxxx := ebxxx.below b4
    clear ebxxx
    have r1xxx := r1xx.below b4
    clear r1xx
    have r4x := r4.below b4
    clear r4
    have Laxxxx := Laxxx.below b4 Laxxx.lt
    clear Laxxx
    have Lbxxxx := Lbxxx.below b4 Lbxxx.lt
    clear Lbxxx
    have Kxxx := Kxx.below b4 Kxx.lt
    clear Kxx
    have HB106 := Lib.hid (bel_trans HB105.out b4)
    clear b4 HB105
    go_upto_region 9 with fail
    rw [← Gy.out, ← V4.out]
    clear Gy V4
    obtain ⟨q0a, q1a, q2a, -, -, -⟩ := Laxxxx.three
    obtain ⟨q0b, q1b, q2b, -, -, -⟩ := Lbxxxx.three
    obtain ⟨q0x, q1x, q2x, -, -, -⟩ := Kxxx.three
    obtain ⟨q0y, q1y, q2y, -, -, -⟩ := Ky.three
    have HK7 : Hid (∀ w', Below v4.heap.size v4 w' → w'.cell? ⟨w.heap.size, 0, none⟩ = some (.bool sa) ∧ w'.cell? ⟨w.heap.size, 1, none⟩ = some (.slice Aa na ca) ∧ w'.cell? ⟨w.heap.size, 2, none⟩ = some (.slice Ba ma da) ∧ w'.cell? ⟨gb, 0, none⟩ = some (.bool sb) ∧ w'.cell? ⟨gb, 1, none⟩ = some (.slice Ab nb cb) ∧ w'.cell? ⟨gb, 2, none⟩ = some (.slice Bb mb db) ∧ w'.cell? ⟨gx, 0, none⟩ = some (.bool sx) ∧ w'.cell? ⟨gx, 1, none⟩ = some (.slice Ax nx cx) ∧ w'.cell? ⟨gx, 2, none⟩ = some (.slice Bx mx dx) ∧ w'.cell? ⟨gy, 0, none⟩ = some (.bool sy) ∧ w'.cell? ⟨gy, 1, none⟩ = some (.slice Ay ny cy) ∧ w'.cell? ⟨gy, 2, none⟩ = some (.slice By my dy)) := fun w' hb => kps12 hb q0a q1a q2a q0b q1b q2b q0x q1x q2x q0y q1y q2y
    clear q0a q1a q2a q0b q1b q2b q0x q1x q2x q0y q1y q2y
    refine region_plan (S := fun w' => w'.cell? ⟨w.heap.size, 0, none⟩ = some (.bool sa) ∧ w'.cell? ⟨w.heap.size, 1, none⟩ = some (.slice Aa na ca) ∧ w'.cell? ⟨w.heap.size, 2, none⟩ = some (.slice Ba ma da) ∧ w'.cell? ⟨gb, 0, none⟩ = some (.bool sb) ∧ w'.cell? ⟨gb, 1, none⟩ = some (.slice Ab nb cb) ∧ w'.cell? ⟨gb, 2, none⟩ = some (.slice Bb mb db) ∧ w'.cell? ⟨gx, 0, none⟩ = some (.bool sx) ∧ w'.cell? ⟨gx, 1, none⟩ = some (.slice Ax nx cx) ∧ w'.cell? ⟨gx, 2, none⟩ = some (.slice Bx mx dx) ∧ w'.cell? ⟨gy, 0, none⟩ = some (.bool sy) ∧ w'.cell? ⟨gy, 1, none⟩ = some (.slice Ay ny cy) ∧ w'.cell? ⟨gy, 2, none⟩ = some (.slice By my dy)) _ [(0, true), (2, true), (1, false), (3, false), (4, false), (5, true)] (by kernel_rfl) (by kernel_rfl) rfl (by kernel_rfl) (by kernel_rfl) (fun _ _ d _ _ h => by cases d <;> exact h) (HK7.out _ (bel_drew (Below.refl _ _))) ?_
    refine Walk.take (v := ?_) rfl (by rfl) ?_ ?_
    rotate_left
    · (intro w' hSw; (try dsimp only at hSw); go_simp <;> with_reducible rfl)
    try simp only [Act.put, List.setIfInBounds_toArray, List.set_cons_zero, List.set_cons_succ]
    refine Walk.take (v := ?_) rfl (by rfl) ?_ ?_
    rotate_left
    · (intro w' hSw; (try dsimp only at hSw); go_simp <;> with_reducible rfl)
    try simp only [Act.put, List.setIfInBounds_toArray, List.set_cons_zero, List.set_cons_succ]
    refine Walk.act rfl (by rfl) (fun K hK => ?_)
    go_simp
    go_at_call 22
    refine (neg_any (w := v4.drew) (eaxxxx.below (bel_drew (Below.refl v4.heap.size v4))) (by decide) (by decide) (hT.below (bel_trans HB106.out (bel_drew (Below.refl v4.heap.size v4))))).mono ?_
    rintro e t8_1 ⟨x8_1, y8_1, z8_1, r8_1, rfl, hb8_1⟩
    have X8_1 : Below v4.heap.size v4 t8_1 := bel_trans (bel_drew (Below.refl v4.heap.size v4)) hb8_1
    refine hK.out _ _ (HK7.out _ X8_1) ?_
    clear hK K
    try simp only [Act.put, List.setIfInBounds_toArray, List.set_cons_zero, List.set_cons_succ]
    refine Walk.act rfl (by rfl) (fun K hK => ?_)
    go_simp
    go_at_call 16
    refine (minus_any (w := t8_1) (r1xxx.below X8_1) (by decide) (by decide)).mono ?_
    rintro e t8_2 ⟨x8_2, y8_2, z8_2, r8_2, rfl, hb8_2⟩
    have X8_2 : Below v4.heap.size v4 t8_2 := bel_trans X8_1 hb8_2
    refine hK.out _ _ (HK7.out _ X8_2) ?_
    clear hK K
    try simp only [Act.put, List.setIfInBounds_toArray, List.set_cons_zero, List.set_cons_succ]
    refine Walk.act rfl (by rfl) (fun K hK => ?_)
    go_simp
    go_at_call 12
    refine (isq_any (w := t8_2) (r8_1.below hb8_2) r8_2 (by decide) (by decide)).mono ?_
    rintro e t8_3 ⟨rfl, hb8_3⟩
    have X8_3 : Below v4.heap.size v4 t8_3 := bel_trans X8_2 hb8_3
    refine hK.out _ _ (HK7.out _ X8_3) ?_
    clear hK K
    try simp only [Act.put, List.setIfInBounds_toArray, List.set_cons_zero, List.set_cons_succ]
    refine Walk.take (v := ?_) rfl (by rfl) ?_ ?_
    rotate_left
    · (intro w' hSw; (try dsimp only at hSw); go_simp <;> with_reducible rfl)
    try simp only [Act.put, List.setIfInBounds_toArray, List.set_cons_zero, List.set_cons_succ]
    refine Walk.done ?_
    clear HK7
    have eaxxxxx := eaxxxx.below X8_3
    clear eaxxxx
    have ebxxxxx := ebxxxx.below X8_3
    clear ebxxxx
    have r1xxxx := r1xxx.below X8_3
    clear r1xxx
    have r4xx := r4x.below X8_3
    clear r4x
    have Laxxxxx := Laxxxx.below X8_3 Laxxxx.lt
    clear Laxxxx
    have Lbxxxxx := Lbxxxx.below X8_3 Lbxxxx.lt
    clear Lbxxxx
    have Kxxxx := Kxxx.below X8_3 Kxxx.lt
    clear Kxxx
    have Kyx := Ky.below X8_3 Ky.lt
    clear Ky
    have HB109 := Lib.hid (bel_trans HB106.out X8_3)
    clear HB106
    obtain ⟨q0x, q1x, q2x, -, -, -⟩ := Kxxxx.three
    go_wp2_with fail
    clear q0x q1x q2x
    refine (low_any false r1xxxx.2.1.v r1xxxx.2.2.v (by decide) (by decide)).mono ?_
    rw [low_abs]
    rintro e w10 ⟨x10, y10, z10, r10, rfl, hb10⟩
    have eaxxxxxx := eaxxxxx.below hb10
    clear eaxxxxx
    have ebxxxxxx := ebxxxxx.below hb10
    clear ebxxxxx
    have r1xxxxx := r1xxxx.below hb10
    clear r1xxxx
    have r4xxx := r4xx.below hb10
    clear r4xx
    have Laxxxxxx := Laxxxxx.below hb10 Laxxxxx.lt
    clear Laxxxxx
    have Lbxxxxxx := Lbxxxxx.below hb10 Lbxxxxx.lt
    clear Lbxxxxx
    have Kxxxxx := Kxxxx.below hb10 Kxxxx.lt
    clear Kxxxx
    have Kyxx := Kyx.below hb10 Kyx.lt
    clear Kyx
    have HB111 := Lib.hid (bel_trans HB109.out hb10)
    clear hb10 HB109
    obtain ⟨sp, Ap, np, cp, Bp, mp, dp, rfl, rfl, rfl⟩ := r10.form
    have b10 := bel_alloc (Below.refl w10.heap.size w10) (.cells #[.bool sp, .slice Ap np cp, .slice Bp mp dp] 30)
    have Kp := Blk.new w10 30 #[.bool sp, .slice Ap np cp, .slice Bp mp dp]
    obtain ⟨v10, hv10⟩ : ∃ v, v = w10.alloc (.cells #[.bool sp, .slice Ap np cp, .slice Bp mp dp] 30) := ⟨_, rfl⟩
    obtain ⟨gp, hgp⟩ : ∃ g, g = w10.heap.size := ⟨_, rfl⟩
    have Gp := Lib.hid hgp
    have V10 := Lib.hid hv10
    rw [← hv10] at b10 Kp
    rw [← hgp] at Kp
    clear hv10 hgp
    have eaxxxxxxx := eaxxxxxx.below b10
    clear eaxxxxxx
    have ebxxxxxxx := ebxxxxxx.below b10
    clear ebxxxxxx
    have r1xxxxxx := r1xxxxx.below b10
    clear r1xxxxx
    have r4xxxx := r4xxx.below b10
    clear r4xxx
    have r10x := r10.below b10
    clear r10
    have Laxxxxxxx := Laxxxxxx.below b10 Laxxxxxx.lt
    clear Laxxxxxx
    have Lbxxxxxxx := Lbxxxxxx.below b10 Lbxxxxxx.lt
    clear Lbxxxxxx
    have Kxxxxxx := Kxxxxx.below b10 Kxxxxx.lt
    clear Kxxxxx
    have Kyxxx := Kyxx.below b10 Kyxx.lt
    clear Kyxx
    have HB112 := Lib.hid (bel_trans HB111.out b10)
    clear b10 HB111
    go_upto_region 11 with fail
    rw [← Gp.out, ← V10.out]
    clear Gp V10
    obtain ⟨q0a, q1a, q2a, -, -, -⟩ := Laxxxxxxx.three
    obtain ⟨q0b, q1b, q2b, -, -, -⟩ := Lbxxxxxxx.three
    obtain ⟨q0x, q1x, q2x, -, -, -⟩ := Kxxxxxx.three
    obtain ⟨q0y, q1y, q2y, -, -, -⟩ := Kyxxx.three
    obtain ⟨q0p, q1p, q2p, -, -, -⟩ := Kp.three
    have HK13 : Hid (∀ w', Below v10.heap.size v10 w' → w'.cell? ⟨w.heap.size, 0, none⟩ = some (.bool sa) ∧ w'.cell? ⟨w.heap.size, 1, none⟩ = some (.slice Aa na ca) ∧ w'.cell? ⟨w.heap.size, 2, none⟩ = some (.slice Ba ma da) ∧ w'.cell? ⟨gb, 0, none⟩ = some (.bool sb) ∧ w'.cell? ⟨gb, 1, none⟩ = some (.slice Ab nb cb) ∧ w'.cell? ⟨gb, 2, none⟩ = some (.slice Bb mb db) ∧ w'.cell? ⟨gx, 0, none⟩ = some (.bool sx) ∧ w'.cell? ⟨gx, 1, none⟩ = some (.slice Ax nx cx) ∧ w'.cell? ⟨gx, 2, none⟩ = some (.slice Bx mx dx) ∧ w'.cell? ⟨gy, 0, none⟩ = some (.bool sy) ∧ w'.cell? ⟨gy, 1, none⟩ = some (.slice Ay ny cy) ∧ w'.cell? ⟨gy, 2, none⟩ = some (.slice By my dy) ∧ w'.cell? ⟨gp, 0, none⟩ = some (.bool sp) ∧ w'.cell? ⟨gp, 1, none⟩ = some (.slice Ap np cp) ∧ w'.cell? ⟨gp, 2, none⟩ = some (.slice Bp mp dp)) := fun w' hb => kps15 hb q0a q1a q2a q0b q1b q2b q0x q1x q2x q0y q1y q2y q0p q1p q2p
    clear q0a q1a q2a q0b q1b q2b q0x q1x q2x q0y q1y q2y q0p q1p q2p
    refine region_plan (S := fun w' => w'.cell? ⟨w.heap.size, 0, none⟩ = some (.bool sa) ∧ w'.cell? ⟨w.heap.size, 1, none⟩ = some (.slice Aa na ca) ∧ w'.cell? ⟨w.heap.size, 2, none⟩ = some (.slice Ba ma da) ∧ w'.cell? ⟨gb, 0, none⟩ = some (.bool sb) ∧ w'.cell? ⟨gb, 1, none⟩ = some (.slice Ab nb cb) ∧ w'.cell? ⟨gb, 2, none⟩ = some (.slice Bb mb db) ∧ w'.cell? ⟨gx, 0, none⟩ = some (.bool sx) ∧ w'.cell? ⟨gx, 1, none⟩ = some (.slice Ax nx cx) ∧ w'.cell? ⟨gx, 2, none⟩ = some (.slice Bx mx dx) ∧ w'.cell? ⟨gy, 0, none⟩ = some (.bool sy) ∧ w'.cell? ⟨gy, 1, none⟩ = some (.slice Ay ny cy) ∧ w'.cell? ⟨gy, 2, none⟩ = some (.slice By my dy) ∧ w'.cell? ⟨gp, 0, none⟩ = some (.bool sp) ∧ w'.cell? ⟨gp, 1, none⟩ = some (.slice Ap np cp) ∧ w'.cell? ⟨gp, 2, none⟩ = some (.slice Bp mp dp)) _ [(0, true), (2, true), (1, false), (3, false), (4, true)] (by kernel_rfl) (by kernel_rfl) rfl (by kernel_rfl) (by kernel_rfl) (fun _ _ d _ _ h => by cases d <;> exact h) (HK13.out _ (bel_drew (Below.refl _ _))) ?_
    refine Walk.take (v := ?_) rfl (by rfl) ?_ ?_
    rotate_left
    · (intro w' hSw; (try dsimp only at hSw); go_simp <;> with_reducible rfl)
    try simp only [Act.put, List.setIfInBounds_toArray, List.set_cons_zero, List.set_cons_succ]
    refine Walk.take (v := ?_) rfl (by rfl) ?_ ?_
    rotate_left
    · (intro w' hSw; (try dsimp only at hSw); go_simp <;> with_reducible rfl)
    try simp only [Act.put, List.setIfInBounds_toArray, List.set_cons_zero, List.set_cons_succ]
    refine Walk.act rfl (by rfl) (fun K hK => ?_)
    go_simp
    go_at_call 24
    refine (abs_any (w := v10.drew) (eaxxxxxxx.below (bel_drew (Below.refl v10.heap.size v10))) (by decide) (by decide) (hT.below (bel_trans HB112.out (bel_drew (Below.refl v10.heap.size v10))))).mono ?_
    rintro e t14_1 ⟨x14_1, y14_1, z14_1, r14_1, rfl, hb14_1⟩
    have X14_1 : Below v10.heap.size v10 t14_1 := bel_trans (bel_drew (Below.refl v10.heap.size v10)) hb14_1
    refine hK.out _ _ (HK13.out _ X14_1) ?_
    clear hK K
    try simp only [Act.put, List.setIfInBounds_toArray, List.set_cons_zero, List.set_cons_succ]
    refine Walk.act rfl (by rfl) (fun K hK => ?_)
    go_simp
    go_at_call 12
    refine (isq_any (w := t14_1) r14_1 (r10x.below X14_1) (by decide) (by decide)).mono ?_
    rintro e t14_2 ⟨rfl, hb14_2⟩
    have X14_2 : Below v10.heap.size v10 t14_2 := bel_trans X14_1 hb14_2
    refine hK.out _ _ (HK13.out _ X14_2) ?_
    clear hK K
    try simp only [Act.put, List.setIfInBounds_toArray, List.set_cons_zero, List.set_cons_succ]
    refine Walk.take (v := ?_) rfl (by rfl) ?_ ?_
    rotate_left
    · (intro w' hSw; (try dsimp only at hSw); go_simp <;> with_reducible rfl)
    try simp only [Act.put, List.setIfInBounds_toArray, List.set_cons_zero, List.set_cons_succ]
    refine Walk.done ?_
    clear HK13
    have eaxxxxxxxx := eaxxxxxxx.below X14_2
    clear eaxxxxxxx
    have ebxxxxxxxx := ebxxxxxxx.below X14_2
    clear ebxxxxxxx
    have r1xxxxxxx := r1xxxxxx.below X14_2
    clear r1xxxxxx
    have r4xxxxx := r4xxxx.below X14_2
    clear r4xxxx
    have r10xx := r10x.below X14_2
    clear r10x
    have Laxxxxxxxx := Laxxxxxxx.below X14_2 Laxxxxxxx.lt
    clear Laxxxxxxx
    have Lbxxxxxxxx := Lbxxxxxxx.below X14_2 Lbxxxxxxx.lt
    clear Lbxxxxxxx
    have Kxxxxxxx := Kxxxxxx.below X14_2 Kxxxxxx.lt
    clear Kxxxxxx
    have Kyxxxx := Kyxxx.below X14_2 Kyxxx.lt
    clear Kyxxx
    have Kpx := Kp.below X14_2 Kp.lt
    clear Kp
    have HB115 := Lib.hid (bel_trans HB112.out X14_2)
    clear HB112
    have b1 := blen_row r1xxxxxxx.2.1
    have b2 := blen_row r1xxxxxxx.2.2
    have WR : IntKind.i64.wrap (blen (rp ra) + blen (rq ra)) = blen (rp ra) + blen (rq ra) := wrap_in (by omega) (by omega)
    clear b1 b2
    go_upto_region 12 with fail
    obtain ⟨q0a, q1a, q2a, -, -, -⟩ := Laxxxxxxxx.three
    obtain ⟨q0b, q1b, q2b, -, -, -⟩ := Lbxxxxxxxx.three
    obtain ⟨q0x, q1x, q2x, -, -, -⟩ := Kxxxxxxx.three
    obtain ⟨q0y, q1y, q2y, -, -, -⟩ := Kyxxxx.three
    have HK16 : Hid (∀ w', Below t14_2.heap.size t14_2 w' → w'.cell? ⟨w.heap.size, 0, none⟩ = some (.bool sa) ∧ w'.cell? ⟨w.heap.size, 1, none⟩ = some (.slice Aa na ca) ∧ w'.cell? ⟨w.heap.size, 2, none⟩ = some (.slice Ba ma da) ∧ w'.cell? ⟨gb, 0, none⟩ = some (.bool sb) ∧ w'.cell? ⟨gb, 1, none⟩ = some (.slice Ab nb cb) ∧ w'.cell? ⟨gb, 2, none⟩ = some (.slice Bb mb db) ∧ w'.cell? ⟨gx, 0, none⟩ = some (.bool sx) ∧ w'.cell? ⟨gx, 1, none⟩ = some (.slice Ax nx cx) ∧ w'.cell? ⟨gx, 2, none⟩ = some (.slice Bx mx dx) ∧ w'.cell? ⟨gy, 0, none⟩ = some (.bool sy) ∧ w'.cell? ⟨gy, 1, none⟩ = some (.slice Ay ny cy) ∧ w'.cell? ⟨gy, 2, none⟩ = some (.slice By my dy)) := fun w' hb => kps12 hb q0a q1a q2a q0b q1b q2b q0x q1x q2x q0y q1y q2y
    clear q0a q1a q2a q0b q1b q2b q0x q1x q2x q0y q1y q2y
    refine region_plan (S := fun w' => w'.cell? ⟨w.heap.size, 0, none⟩ = some (.bool sa) ∧ w'.cell? ⟨w.heap.size, 1, none⟩ = some (.slice Aa na ca) ∧ w'.cell? ⟨w.heap.size, 2, none⟩ = some (.slice Ba ma da) ∧ w'.cell? ⟨gb, 0, none⟩ = some (.bool sb) ∧ w'.cell? ⟨gb, 1, none⟩ = some (.slice Ab nb cb) ∧ w'.cell? ⟨gb, 2, none⟩ = some (.slice Bb mb db) ∧ w'.cell? ⟨gx, 0, none⟩ = some (.bool sx) ∧ w'.cell? ⟨gx, 1, none⟩ = some (.slice Ax nx cx) ∧ w'.cell? ⟨gx, 2, none⟩ = some (.slice Bx mx dx) ∧ w'.cell? ⟨gy, 0, none⟩ = some (.bool sy) ∧ w'.cell? ⟨gy, 1, none⟩ = some (.slice Ay ny cy) ∧ w'.cell? ⟨gy, 2, none⟩ = some (.slice By my dy)) _ [(0, true), (1, true), (2, true), (3, true), (4, true), (5, true), (6, true), (7, true), (8, true), (9, true), (11, true), (12, true), (10, false), (13, false), (14, true), (15, true), (16, true), (17, true), (19, true), (18, false), (20, false), (21, true), (22, true), (23, true), (24, true), (26, true), (27, true), (29, true), (30, true), (25, false), (28, false), (31, false), (32, true), (33, true), (34, true), (35, true), (36, true), (38, true), (37, false), (39, false), (40, true), (41, true), (42, true)] (by kernel_rfl) (by kernel_rfl) rfl (by kernel_rfl) (by kernel_rfl) (fun _ _ d _ _ h => by cases d <;> exact h) (HK16.out _ (bel_drew (Below.refl _ _))) ?_
    refine Walk.take (v := ?_) rfl (by rfl) ?_ ?_
    rotate_left
    · (intro w' hSw; (try dsimp only at hSw); go_simp <;> with_reducible rfl)
    try simp only [Act.put, List.setIfInBounds_toArray, List.set_cons_zero, List.set_cons_succ]
    refine Walk.take (v := ?_) rfl (by rfl) ?_ ?_
    rotate_left
    · (intro w' hSw; (try dsimp only at hSw); go_simp <;> with_reducible rfl)
    try simp only [Act.put, List.setIfInBounds_toArray, List.set_cons_zero, List.set_cons_succ]
    refine Walk.take (v := ?_) rfl (by rfl) ?_ ?_
    rotate_left
    · (intro w' hSw; (try dsimp only at hSw); go_simp <;> with_reducible rfl)
    try simp only [Act.put, List.setIfInBounds_toArray, List.set_cons_zero, List.set_cons_succ]
    refine Walk.take (v := ?_) rfl (by rfl) ?_ ?_
    rotate_left
    · (intro w' hSw; (try dsimp only at hSw); go_simp <;> with_reducible rfl)
    try simp only [Act.put, List.setIfInBounds_toArray, List.set_cons_zero, List.set_cons_succ]
    refine Walk.take (v := ?_) rfl (by rfl) ?_ ?_
    rotate_left
    · (intro w' hSw; (try dsimp only at hSw); go_simp <;> with_reducible rfl)
    try simp only [Act.put, List.setIfInBounds_toArray, List.set_cons_zero, List.set_cons_succ]
    refine Walk.take (v := ?_) rfl (by rfl) ?_ ?_
    rotate_left
    · (intro w' hSw; (try dsimp only at hSw); go_simp <;> with_reducible rfl)
    try simp only [Act.put, List.setIfInBounds_toArray, List.set_cons_zero, List.set_cons_succ]
    refine Walk.take (v := ?_) rfl (by rfl) ?_ ?_
    rotate_left
    · (intro w' hSw; (try dsimp only at hSw); go_simp <;> with_reducible rfl)
    try simp only [Act.put, List.setIfInBounds_toArray, List.set_cons_zero, List.set_cons_succ]
    refine Walk.take (v := ?_) rfl (by rfl) ?_ ?_
    rotate_left
    · (intro w' hSw; (try dsimp only at hSw); go_simp <;> with_reducible rfl)
    try simp only [Act.put, List.setIfInBounds_toArray, List.set_cons_zero, List.set_cons_succ]
    refine Walk.take (v := ?_) rfl (by rfl) ?_ ?_
    rotate_left
    · (intro w' hSw; (try dsimp only at hSw); go_simp <;> with_reducible rfl)
    try simp only [Act.put, List.setIfInBounds_toArray, List.set_cons_zero, List.set_cons_succ]
    refine Walk.take (v := ?_) rfl (by rfl) ?_ ?_
    rotate_left
    · (intro w' hSw; (try dsimp only at hSw); go_simp <;> with_reducible rfl)
    try simp only [Act.put, List.setIfInBounds_toArray, List.set_cons_zero, List.set_cons_succ]
    refine Walk.take (v := ?_) rfl (by rfl) ?_ ?_
    rotate_left
    · (intro w' hSw; (try dsimp only at hSw); go_simp <;> with_reducible rfl)
    try simp only [Act.put, List.setIfInBounds_toArray, List.set_cons_zero, List.set_cons_succ]
    refine Walk.take (v := ?_) rfl (by rfl) ?_ ?_
    rotate_left
    · (intro w' hSw; (try dsimp only at hSw); go_simp <;> with_reducible rfl)
    try simp only [Act.put, List.setIfInBounds_toArray, List.set_cons_zero, List.set_cons_succ]
    refine Walk.act rfl (by rfl) (fun K hK => ?_)
    go_simp
    go_at_call 25
    refine (qcmp_any (w := t14_2.drew) (eaxxxxxxxx.below (bel_drew (Below.refl t14_2.heap.size t14_2))) (ebxxxxxxxx.below (bel_drew (Below.refl t14_2.heap.size t14_2))) (by decide) (by decide)).mono ?_
    rintro e t17_1 ⟨rfl, hb17_1⟩
    have X17_1 : Below t14_2.heap.size t14_2 t17_1 := bel_trans (bel_drew (Below.refl t14_2.heap.size t14_2)) hb17_1
    refine hK.out _ _ (HK16.out _ X17_1) ?_
    clear hK K
    try simp only [Act.put, List.setIfInBounds_toArray, List.set_cons_zero, List.set_cons_succ]
    refine Walk.act rfl (by rfl) (fun K hK => ?_)
    go_simp
    go_at_call 26
    refine (fcmp_any (w := t17_1) (r1xxxxxxx.below X17_1) (r4xxxxx.below X17_1) (by decide) (by decide) (by decide)).mono ?_
    rintro e t17_2 ⟨rfl, hb17_2⟩
    have X17_2 : Below t14_2.heap.size t14_2 t17_2 := bel_trans X17_1 hb17_2
    refine hK.out _ _ (HK16.out _ X17_2) ?_
    clear hK K
    try simp only [Act.put, List.setIfInBounds_toArray, List.set_cons_zero, List.set_cons_succ]
    refine Walk.take (v := ?_) rfl (by rfl) ?_ ?_
    rotate_left
    · (intro w' hSw; (try dsimp only at hSw); go_simp <;> with_reducible rfl)
    try simp only [Act.put, List.setIfInBounds_toArray, List.set_cons_zero, List.set_cons_succ]
    refine Walk.take (v := ?_) rfl (by rfl) ?_ ?_
    rotate_left
    · (intro w' hSw; (try dsimp only at hSw); go_simp <;> with_reducible rfl)
    try simp only [Act.put, List.setIfInBounds_toArray, List.set_cons_zero, List.set_cons_succ]
    refine Walk.take (v := ?_) rfl (by rfl) ?_ ?_
    rotate_left
    · (intro w' hSw; (try dsimp only at hSw); go_simp <;> with_reducible rfl)
    try simp only [Act.put, List.setIfInBounds_toArray, List.set_cons_zero, List.set_cons_succ]
    refine Walk.take (v := ?_) rfl (by rfl) ?_ ?_
    rotate_left
    · (intro w' hSw; (try dsimp only at hSw); go_simp <;> with_reducible rfl)
    try simp only [Act.put, List.setIfInBounds_toArray, List.set_cons_zero, List.set_cons_succ]
    refine Walk.take (v := ?_) rfl (by rfl) ?_ ?_
    rotate_left
    · (intro w' hSw; (try dsimp only at hSw); go_simp <;> with_reducible rfl)
    try simp only [Act.put, List.setIfInBounds_toArray, List.set_cons_zero, List.set_cons_succ]
    refine Walk.act rfl (by rfl) (fun K hK => ?_)
    go_simp
    go_at_call 27
    refine (sign_any (w := t17_2) (eaxxxxxxxx.below X17_2) (by decide)).mono ?_
    rintro e t17_3 ⟨rfl, hb17_3⟩
    have X17_3 : Below t14_2.heap.size t14_2 t17_3 := bel_trans X17_2 hb17_3
    refine hK.out _ _ (HK16.out _ X17_3) ?_
    clear hK K
    try simp only [Act.put, List.setIfInBounds_toArray, List.set_cons_zero, List.set_cons_succ]
    refine Walk.act rfl (by rfl) (fun K hK => ?_)
    go_simp
    go_at_call 20
    refine (fsign_any (w := t17_3) (r1xxxxxxx.below X17_3) (by decide)).mono ?_
    rintro e t17_4 ⟨rfl, hb17_4⟩
    have X17_4 : Below t14_2.heap.size t14_2 t17_4 := bel_trans X17_3 hb17_4
    refine hK.out _ _ (HK16.out _ X17_4) ?_
    clear hK K
    try simp only [Act.put, List.setIfInBounds_toArray, List.set_cons_zero, List.set_cons_succ]
    refine Walk.take (v := ?_) rfl (by rfl) ?_ ?_
    rotate_left
    · (intro w' hSw; (try dsimp only at hSw); go_simp <;> with_reducible rfl)
    try simp only [Act.put, List.setIfInBounds_toArray, List.set_cons_zero, List.set_cons_succ]
    refine Walk.take (v := ?_) rfl (by rfl) ?_ ?_
    rotate_left
    · (intro w' hSw; (try dsimp only at hSw); go_simp <;> with_reducible rfl)
    try simp only [Act.put, List.setIfInBounds_toArray, List.set_cons_zero, List.set_cons_succ]
    refine Walk.take (v := ?_) rfl (by rfl) ?_ ?_
    rotate_left
    · (intro w' hSw; (try dsimp only at hSw); go_simp <;> with_reducible rfl)
    try simp only [Act.put, List.setIfInBounds_toArray, List.set_cons_zero, List.set_cons_succ]
    refine Walk.take (v := ?_) rfl (by rfl) ?_ ?_
    rotate_left
    · (intro w' hSw; (try dsimp only at hSw); go_simp <;> with_reducible rfl)
    try simp only [Act.put, List.setIfInBounds_toArray, List.set_cons_zero, List.set_cons_succ]
    refine Walk.take (v := ?_) rfl (by rfl) ?_ ?_
    rotate_left
    · (intro w' hSw; (try dsimp only at hSw); go_simp <;> with_reducible rfl)
    try simp only [Act.put, List.setIfInBounds_toArray, List.set_cons_zero, List.set_cons_succ]
    refine Walk.take (v := ?_) rfl (by rfl) ?_ ?_
    rotate_left
    · (intro w' hSw; (try dsimp only at hSw); go_simp <;> with_reducible rfl)
    try simp only [Act.put, List.setIfInBounds_toArray, List.set_cons_zero, List.set_cons_succ]
    refine Walk.take (v := ?_) rfl (by rfl) ?_ ?_
    rotate_left
    · (intro w' hSw; (try dsimp only at hSw); go_simp <;> with_reducible rfl)
    try simp only [Act.put, List.setIfInBounds_toArray, List.set_cons_zero, List.set_cons_succ]
    refine Walk.take (v := ?_) rfl (by rfl) ?_ ?_
    rotate_left
    · (intro w' hSw; (try dsimp only at hSw); go_simp <;> with_reducible rfl)
    try simp only [Act.put, List.setIfInBounds_toArray, List.set_cons_zero, List.set_cons_succ]
    refine Walk.act rfl (by rfl) (fun K hK => ?_)
    go_simp
    go_at_call 28
    refine (qlen_any (w := t17_4) (eaxxxxxxxx.below X17_4) (by decide) (by decide) (hT.below (bel_trans HB115.out X17_4))).mono ?_
    rintro e t17_5 ⟨rfl, hb17_5⟩
    have X17_5 : Below t14_2.heap.size t14_2 t17_5 := bel_trans X17_4 hb17_5
    refine hK.out _ _ (HK16.out _ X17_5) ?_
    clear hK K
    try simp only [Act.put, List.setIfInBounds_toArray, List.set_cons_zero, List.set_cons_succ]
    refine Walk.act rfl (by rfl) (fun K hK => ?_)
    go_simp
    go_at_call 29
    refine (rlenV (w := t17_5) (r1xxxxxxx.below X17_5).2.1.v (by decide)).mono ?_
    rintro e tq5 ⟨rfl, rfl⟩
    have Xs17_5 : Below t14_2.heap.size t14_2 t17_5 := X17_5
    refine hK.out _ _ (HK16.out _ Xs17_5) ?_
    clear hK K
    try simp only [Act.put, List.setIfInBounds_toArray, List.set_cons_zero, List.set_cons_succ]
    refine Walk.act rfl (by rfl) (fun K hK => ?_)
    go_simp
    go_at_call 29
    refine (rlenV (w := t17_5) (r1xxxxxxx.below X17_5).2.2.v (by decide)).mono ?_
    rintro e tq6 ⟨rfl, rfl⟩
    have Xs17_6 : Below t14_2.heap.size t14_2 t17_5 := X17_5
    refine hK.out _ _ (HK16.out _ Xs17_6) ?_
    clear hK K
    try simp only [Act.put, List.setIfInBounds_toArray, List.set_cons_zero, List.set_cons_succ]
    refine Walk.take (v := ?_) rfl (by rfl) ?_ ?_
    rotate_left
    · (intro w' hSw; (try dsimp only at hSw); go_simp <;> with_reducible rfl)
    try simp only [Act.put, List.setIfInBounds_toArray, List.set_cons_zero, List.set_cons_succ]
    refine Walk.take (v := ?_) rfl (by rfl) ?_ ?_
    rotate_left
    · (intro w' hSw; (try dsimp only at hSw); go_simp <;> with_reducible rfl)
    try simp only [Act.put, List.setIfInBounds_toArray, List.set_cons_zero, List.set_cons_succ]
    refine Walk.take (v := ?_) rfl (by rfl) ?_ ?_
    rotate_left
    · (intro w' hSw; (try dsimp only at hSw); go_simp <;> with_reducible rfl)
    try simp only [Act.put, List.setIfInBounds_toArray, List.set_cons_zero, List.set_cons_succ]
    refine Walk.take (v := ?_) rfl (by rfl) ?_ ?_
    rotate_left
    · (intro w' hSw; (try dsimp only at hSw); go_simp <;> with_reducible rfl)
    try simp only [Act.put, List.setIfInBounds_toArray, List.set_cons_zero, List.set_cons_succ]
    refine Walk.take (v := ?_) rfl (by rfl) ?_ ?_
    rotate_left
    · (intro w' hSw; (try dsimp only at hSw); go_simp <;> with_reducible rfl)
    try simp only [Act.put, List.setIfInBounds_toArray, List.set_cons_zero, List.set_cons_succ]
    refine Walk.take (v := ?_) rfl (by rfl) ?_ ?_
    rotate_left
    · (intro w' hSw; (try dsimp only at hSw); go_simp <;> with_reducible rfl)
    try simp only [Act.put, List.setIfInBounds_toArray, List.set_cons_zero, List.set_cons_succ]
    refine Walk.act rfl (by rfl) (fun K hK => ?_)
    go_simp
    go_at_call 30
    refine (qtext_any (w := t17_5) (eaxxxxxxxx.below X17_5) (by decide) (by decide) (hT.below (bel_trans HB115.out X17_5))).mono ?_
    rintro e t17_6 ⟨⟨sa17_6, ha17_6, rfl⟩, hb17_6⟩
    have X17_6 : Below t14_2.heap.size t14_2 t17_6 := bel_trans X17_5 hb17_6
    refine hK.out _ _ (HK16.out _ X17_6) ?_
    clear hK K
    try simp only [Act.put, List.setIfInBounds_toArray, List.set_cons_zero, List.set_cons_succ]
    refine Walk.act rfl (by rfl) (fun K hK => ?_)
    go_simp
    go_at_call 31
    refine (ftext_any (w := t17_6) (r1xxxxxxx.below X17_6) (by decide)).mono ?_
    rintro e t17_7 ⟨⟨sb17_7, hc17_7, rfl⟩, hb17_7⟩
    obtain rfl := text_eq ha17_6 hc17_7
    have X17_7 : Below t14_2.heap.size t14_2 t17_7 := bel_trans X17_6 hb17_7
    refine hK.out _ _ (HK16.out _ X17_7) ?_
    clear hK K
    try simp only [Act.put, List.setIfInBounds_toArray, List.set_cons_zero, List.set_cons_succ]
    refine Walk.take (v := ?_) rfl (by rfl) ?_ ?_
    rotate_left
    · (intro w' hSw; (try dsimp only at hSw); go_simp <;> with_reducible rfl)
    try simp only [Act.put, List.setIfInBounds_toArray, List.set_cons_zero, List.set_cons_succ]
    refine Walk.take (v := ?_) rfl (by rfl) ?_ ?_
    rotate_left
    · (intro w' hSw; (try dsimp only at hSw); go_simp <;> with_reducible rfl)
    try simp only [Act.put, List.setIfInBounds_toArray, List.set_cons_zero, List.set_cons_succ]
    refine Walk.take (v := ?_) rfl (by rfl) ?_ ?_
    rotate_left
    · (intro w' hSw; (try dsimp only at hSw); go_simp <;> with_reducible rfl)
    try simp only [Act.put, List.setIfInBounds_toArray, List.set_cons_zero, List.set_cons_succ]
    refine Walk.done ?_
    clear HK16
    have eaxxxxxxxxx := eaxxxxxxxx.below X17_7
    clear eaxxxxxxxx
    have ebxxxxxxxxx := ebxxxxxxxx.below X17_7
    clear ebxxxxxxxx
    have r1xxxxxxxx := r1xxxxxxx.below X17_7
    clear r1xxxxxxx
    have r4xxxxxx := r4xxxxx.below X17_7
    clear r4xxxxx
    have r10xxx := r10xx.below X17_7
    clear r10xx
    have Laxxxxxxxxx := Laxxxxxxxx.below X17_7 Laxxxxxxxx.lt
    clear Laxxxxxxxx
    have Lbxxxxxxxxx := Lbxxxxxxxx.below X17_7 Lbxxxxxxxx.lt
    clear Lbxxxxxxxx
    have Kxxxxxxxx := Kxxxxxxx.below X17_7 Kxxxxxxx.lt
    clear Kxxxxxxx
    have Kyxxxxx := Kyxxxx.below X17_7 Kyxxxx.lt
    clear Kyxxxx
    have Kpxx := Kpx.below X17_7 Kpx.lt
    clear Kpx
    have HB118 := Lib.hid (bel_trans HB115.out X17_7)
    clear HB115
    go_wp2_with fail
    go_ret
    exact ⟨rfl, HB118.out⟩
  · rw [decide_eq_false (by exact hs)]
    go_wp2_with fail
    go_ret
    exact ⟨rfl, HB2.out⟩
end Go.Proofs.YtaollppieonmbaaDoor
