/-
  The contract of the examples of layer 3: they hold. Condition: the table of math/bits stands in its variable.
-/
import Derived.Test.YtaollppieonmbaaDoorQlaw
import Derived.Test.YtaollppieonmbaaDoorPlan
namespace Go.Proofs.YtaollppieonmbaaDoor
open Go.RowKit
set_option maxRecDepth 100000

theorem bytes_is {s : ByteArray} {a : Array UInt8} (h : s.data.toList = a.toList) : s = ⟨a⟩ := by
  obtain ⟨⟨d⟩⟩ := s
  obtain ⟨e⟩ := a
  simp at h
  rw [h]
theorem rtext_of {r : Rat} {l1 l2 l : List UInt8} {s : Bool} {a b : Int} (hs : rs r = s) (ha : rp r = a) (hb : rq r = b) (h1 : IsText a l1) (h2 : IsText b l2) (hl : l = (if s then [45] else []) ++ l1 ++ (if b = 1 then [] else 47 :: l2)) : IsRText r l :=
  ⟨l1, l2, by rw [ha]; exact h1, by rw [hb]; exact h2, by rw [hs, hb]; exact hl⟩
theorem digit_text (c : UInt8) (h0 : 48 < c.toNat) (h1 : c.toNat ≤ 57) : IsText ((c.toNat : Int) - 48) [c] :=
  ⟨by simp [isDig]; omega, by rw [dval_one], by simp, fun h => by omega, fun _ d hd => by simp at hd; subst hd; omega⟩
theorem zero_text : IsText 0 [48] := ⟨by decide, by decide, by simp, fun _ => rfl, fun h => absurd rfl h⟩
theorem tx_m32 : IsRText (mkRat (-3) 2) [45, 51, 47, 50] := rtext_of (s := true) (a := 3) (b := 2) (by decide +kernel) (by decide +kernel) (by decide +kernel) (digit_text 51 (by decide) (by decide)) (digit_text 50 (by decide) (by decide)) (by decide)
theorem tx_32 : IsRText (mkRat 3 2) [51, 47, 50] := rtext_of (s := false) (a := 3) (b := 2) (by decide +kernel) (by decide +kernel) (by decide +kernel) (digit_text 51 (by decide) (by decide)) (digit_text 50 (by decide) (by decide)) (by decide)
theorem tx_56 : IsRText (mkRat 5 6) [53, 47, 54] := rtext_of (s := false) (a := 5) (b := 6) (by decide +kernel) (by decide +kernel) (by decide +kernel) (digit_text 53 (by decide) (by decide)) (digit_text 54 (by decide) (by decide)) (by decide)
theorem tx_16 : IsRText (mkRat 1 6) [49, 47, 54] := rtext_of (s := false) (a := 1) (b := 6) (by decide +kernel) (by decide +kernel) (by decide +kernel) (digit_text 49 (by decide) (by decide)) (digit_text 54 (by decide) (by decide)) (by decide)
theorem tx_0 : IsRText 0 [48] := rtext_of (s := false) (a := 0) (b := 1) (by decide +kernel) (by decide +kernel) (by decide +kernel) zero_text isText_one (by decide)
theorem tx_m7 : IsRText (intR (-7)) [45, 55] := rtext_of (s := true) (a := 7) (b := 1) (by decide +kernel) (by decide +kernel) (by decide +kernel) (digit_text 55 (by decide) (by decide)) isText_one (by decide)
theorem rdr_new (W : World) (t : TypeId) (a b c d e f g h i : Value) : RdR (W.alloc (.cells #[a, b, c, d, e, f, g, h, i] t)) (some ⟨W.heap.size, 0, none⟩) [(a, b, c), (d, e, f), (g, h, i)] := by
  refine .inr ⟨_, 0, rfl, by simp, fun j v hj => ?_⟩
  rcases j with _ | _ | _ | j
  · simp at hj; subst hj; simp [go_sem]
  · simp at hj; subst hj; simp [go_sem]
  · simp at hj; subst hj; simp [go_sem]
  · simp at hj
def three (a b c : Rat) : Nat → Rat
  | 0 => a
  | 1 => b
  | _ => c
theorem three_all {w : World} {x y z x1 y1 z1 x2 y2 z2 : Value} {L : Nat} {a b c : Rat} (h0 : RV w x y z L a) (h1 : RV w x1 y1 z1 L b) (h2 : RV w x2 y2 z2 L c) : AllR w [(x, y, z), (x1, y1, z1), (x2, y2, z2)] L (three a b c) := by
  intro i v hi
  rcases i with _ | _ | _ | i
  · simp at hi; subst hi; exact h0
  · simp at hi; subst hi; exact h1
  · simp at hi; subst hi; exact h2
  · simp at hi
/-- The greatest of -3/2, 1/2, 1/3. -/
theorem max_is {k : Nat} (hk : k < 3) (h : ∀ i, i < 3 → three (mkRat (-3) 2) (mkRat 1 2) (mkRat 1 3) i ≤ three (mkRat (-3) 2) (mkRat 1 2) (mkRat 1 3) k) : three (mkRat (-3) 2) (mkRat 1 2) (mkRat 1 3) k = mkRat 1 2 := by
  have h1 := h 1 (by decide)
  rcases k with _ | _ | _ | k
  · exact absurd h1 (by decide +kernel)
  · rfl
  · exact absurd h1 (by decide +kernel)
  · omega
theorem kp_cs : ∀ {W w1 : World} {l : List (Addr × Value)}, Below W.heap.size W w1 → (∀ x ∈ l, W.cell? x.1 = some x.2) → ∀ x ∈ l, w1.cell? x.1 = some x.2 := fun hb h x hx => kp_c hb (h x hx)
theorem kp18 {W w1 : World} {p0 p1 p2 p3 p4 p5 p6 p7 p8 p9 p10 p11 p12 p13 p14 p15 p16 p17 : Addr} {a0 a1 a2 a3 a4 a5 a6 a7 a8 a9 a10 a11 a12 a13 a14 a15 a16 a17 : Value} (hb : Below W.heap.size W w1) (h0 : W.cell? p0 = some a0) (h1 : W.cell? p1 = some a1) (h2 : W.cell? p2 = some a2) (h3 : W.cell? p3 = some a3) (h4 : W.cell? p4 = some a4) (h5 : W.cell? p5 = some a5) (h6 : W.cell? p6 = some a6) (h7 : W.cell? p7 = some a7) (h8 : W.cell? p8 = some a8) (h9 : W.cell? p9 = some a9) (h10 : W.cell? p10 = some a10) (h11 : W.cell? p11 = some a11) (h12 : W.cell? p12 = some a12) (h13 : W.cell? p13 = some a13) (h14 : W.cell? p14 = some a14) (h15 : W.cell? p15 = some a15) (h16 : W.cell? p16 = some a16) (h17 : W.cell? p17 = some a17) :
    w1.cell? p0 = some a0 ∧ w1.cell? p1 = some a1 ∧ w1.cell? p2 = some a2 ∧ w1.cell? p3 = some a3 ∧ w1.cell? p4 = some a4 ∧ w1.cell? p5 = some a5 ∧ w1.cell? p6 = some a6 ∧ w1.cell? p7 = some a7 ∧ w1.cell? p8 = some a8 ∧ w1.cell? p9 = some a9 ∧ w1.cell? p10 = some a10 ∧ w1.cell? p11 = some a11 ∧ w1.cell? p12 = some a12 ∧ w1.cell? p13 = some a13 ∧ w1.cell? p14 = some a14 ∧ w1.cell? p15 = some a15 ∧ w1.cell? p16 = some a16 ∧ w1.cell? p17 = some a17 :=
  ⟨kp_c hb h0, kp_c hb h1, kp_c hb h2, kp_c hb h3, kp_c hb h4, kp_c hb h5, kp_c hb h6, kp_c hb h7, kp_c hb h8, kp_c hb h9, kp_c hb h10, kp_c hb h11, kp_c hb h12, kp_c hb h13, kp_c hb h14, kp_c hb h15, kp_c hb h16, kp_c hb h17⟩
set_option maxHeartbeats 40000000 in
theorem works3 (w : World) (hT : TabOk w) : Calls Tryd.prog 9 #[] w fun e w' => e = .returned (.bool true) ∧ Below w.heap.size w w' := by
  go_enter Tryd.func9, Tryd.ntmps9
  go_wp2_with fail
  refine (newV 6 ⟨by decide, by decide⟩ _).mono ?_
  rintro e w1 ⟨u1, h1, rfl, hb1⟩
  have HB2 := Lib.hid hb1
  clear hb1
  go_wp2_with fail
  refine (newV 4 ⟨by decide, by decide⟩ _).mono ?_
  rintro e w3 ⟨u3, h3, rfl, hb3⟩
  have h1x := h1.below hb3
  clear h1
  have HB4 := Lib.hid (bel_trans HB2.out hb3)
  clear hb3
  go_wp2_with fail
  refine (qnew_any true h1x.v h3.v (by decide) (by decide) (hT.below HB4.out) (by decide)).mono ?_
  rw [show rv true 6 4 = mkRat (-3) 2 by decide +kernel]
  rintro e w5 ⟨x5, y5, z5, r5, rfl, hb5⟩
  have HB6 := Lib.hid (bel_trans HB4.out hb5)
  clear hb5
  obtain ⟨sa, Aa, na, ca, Ba, ma, da, rfl, rfl, rfl⟩ := r5.form
  have b5 := bel_alloc (Below.refl w5.heap.size w5) (.cells #[.bool sa, .slice Aa na ca, .slice Ba ma da] 25)
  have Ka := Blk.new w5 25 #[.bool sa, .slice Aa na ca, .slice Ba ma da]
  obtain ⟨v5, hv5⟩ : ∃ v, v = w5.alloc (.cells #[.bool sa, .slice Aa na ca, .slice Ba ma da] 25) := ⟨_, rfl⟩
  obtain ⟨ga, hga⟩ : ∃ g, g = w5.heap.size := ⟨_, rfl⟩
  have Ga := Lib.hid hga
  have V5 := Lib.hid hv5
  rw [← hv5] at b5 Ka
  rw [← hga] at Ka
  clear hv5 hga
  have r5x := r5.below b5
  clear r5
  have HB7 := Lib.hid (bel_trans HB6.out b5)
  clear b5
  go_wp2_with fail
  rw [← Ga.out, ← V5.out]
  clear Ga V5
  refine (newV 5 ⟨by decide, by decide⟩ _).mono ?_
  rintro e w8 ⟨u8, h8, rfl, hb8⟩
  have r5xx := r5x.below hb8
  clear r5x
  have Kax := Ka.below hb8 Ka.lt
  clear Ka
  have HB9 := Lib.hid (bel_trans HB7.out hb8)
  clear hb8
  go_wp2_with fail
  refine (qnew_any true (nat0 2 w8).1 h8.v (by decide) (by decide) (hT.below HB9.out) (by decide)).mono ?_
  rw [show rv true 0 5 = 0 by decide +kernel]
  rintro e w10 ⟨x10, y10, z10, r10, rfl, hb10⟩
  have r5xxx := r5xx.below hb10
  clear r5xx
  have Kaxx := Kax.below hb10 Kax.lt
  clear Kax
  have HB11 := Lib.hid (bel_trans HB9.out hb10)
  clear hb10
  obtain ⟨sb, Ab, nb, cb, Bb, mb, db, rfl, rfl, rfl⟩ := r10.form
  have b10 := bel_alloc (Below.refl w10.heap.size w10) (.cells #[.bool sb, .slice Ab nb cb, .slice Bb mb db] 25)
  have Kb := Blk.new w10 25 #[.bool sb, .slice Ab nb cb, .slice Bb mb db]
  obtain ⟨v10, hv10⟩ : ∃ v, v = w10.alloc (.cells #[.bool sb, .slice Ab nb cb, .slice Bb mb db] 25) := ⟨_, rfl⟩
  obtain ⟨gb, hgb⟩ : ∃ g, g = w10.heap.size := ⟨_, rfl⟩
  have Gb := Lib.hid hgb
  have V10 := Lib.hid hv10
  rw [← hv10] at b10 Kb
  rw [← hgb] at Kb
  clear hv10 hgb
  have r5xxxx := r5xxx.below b10
  clear r5xxx
  have r10x := r10.below b10
  clear r10
  have Kaxxx := Kaxx.below b10 Kaxx.lt
  clear Kaxx
  have HB12 := Lib.hid (bel_trans HB11.out b10)
  clear b10
  go_wp2_with fail
  rw [← Gb.out, ← V10.out]
  clear Gb V10
  refine (qdyad_any false 3 (-1) ⟨by decide, by decide⟩ ⟨by decide, by decide⟩ _ (hT.below HB12.out)).mono ?_
  rw [show dyR false 3 (-1) = mkRat 3 2 by decide +kernel]
  rintro e w13 ⟨x13, y13, z13, r13, rfl, hb13⟩
  have r5xxxxx := r5xxxx.below hb13
  clear r5xxxx
  have r10xx := r10x.below hb13
  clear r10x
  have Kaxxxx := Kaxxx.below hb13 Kaxxx.lt
  clear Kaxxx
  have Kbx := Kb.below hb13 Kb.lt
  clear Kb
  have HB14 := Lib.hid (bel_trans HB12.out hb13)
  clear hb13
  obtain ⟨sc, Ac, nc, cc, Bc, mc, dc, rfl, rfl, rfl⟩ := r13.form
  have b13 := bel_alloc (Below.refl w13.heap.size w13) (.cells #[.bool sc, .slice Ac nc cc, .slice Bc mc dc] 25)
  have Kc := Blk.new w13 25 #[.bool sc, .slice Ac nc cc, .slice Bc mc dc]
  obtain ⟨v13, hv13⟩ : ∃ v, v = w13.alloc (.cells #[.bool sc, .slice Ac nc cc, .slice Bc mc dc] 25) := ⟨_, rfl⟩
  obtain ⟨gc, hgc⟩ : ∃ g, g = w13.heap.size := ⟨_, rfl⟩
  have Gc := Lib.hid hgc
  have V13 := Lib.hid hv13
  rw [← hv13] at b13 Kc
  rw [← hgc] at Kc
  clear hv13 hgc
  have r5xxxxxx := r5xxxxx.below b13
  clear r5xxxxx
  have r10xxx := r10xx.below b13
  clear r10xx
  have r13x := r13.below b13
  clear r13
  have Kaxxxxx := Kaxxxx.below b13 Kaxxxx.lt
  clear Kaxxxx
  have Kbxx := Kbx.below b13 Kbx.lt
  clear Kbx
  have HB15 := Lib.hid (bel_trans HB14.out b13)
  clear b13
  -- a / b
  obtain ⟨q0a, q1a, q2a, -, -, -⟩ := Kaxxxxx.three
  rw [V13.out] at q0a q1a q2a
  obtain ⟨q0b, q1b, q2b, -, -, -⟩ := Kbxx.three
  rw [V13.out] at q0b q1b q2b
  go_wp2_with fail
  rw [← Gc.out, ← V13.out]
  clear Gc V13
  refine (qdiv_zero r5xxxxxx.v r10xxx.v (by decide) rfl).mono ?_
  rintro e w16 ⟨rfl, hb16⟩
  clear q0a q1a q2a
  clear q0b q1b q2b
  have r5xxxxxxx := r5xxxxxx.below hb16
  clear r5xxxxxx
  have r10xxxx := r10xxx.below hb16
  clear r10xxx
  have r13xx := r13x.below hb16
  clear r13x
  have Kaxxxxxx := Kaxxxxx.below hb16 Kaxxxxx.lt
  clear Kaxxxxx
  have Kbxxx := Kbxx.below hb16 Kbxx.lt
  clear Kbxx
  have Kcx := Kc.below hb16 Kc.lt
  clear Kc
  have HB17 := Lib.hid (bel_trans HB15.out hb16)
  clear hb16
  have b16 := bel_alloc (Below.refl w16.heap.size w16) (.cells #[.bool false, .slice none 0 0, .slice none 0 0] 25)
  obtain ⟨v16, hv16⟩ : ∃ v, v = w16.alloc (.cells #[.bool false, .slice none 0 0, .slice none 0 0] 25) := ⟨_, rfl⟩
  obtain ⟨gz, hgz⟩ : ∃ g, g = w16.heap.size := ⟨_, rfl⟩
  have Gz := Lib.hid hgz
  have V16 := Lib.hid hv16
  rw [← hv16] at b16
  clear hv16 hgz
  have r5xxxxxxxx := r5xxxxxxx.below b16
  clear r5xxxxxxx
  have r10xxxxx := r10xxxx.below b16
  clear r10xxxx
  have r13xxx := r13xx.below b16
  clear r13xx
  have Kaxxxxxxx := Kaxxxxxx.below b16 Kaxxxxxx.lt
  clear Kaxxxxxx
  have Kbxxxx := Kbxxx.below b16 Kbxxx.lt
  clear Kbxxx
  have Kcxx := Kcx.below b16 Kcx.lt
  clear Kcx
  have HB18 := Lib.hid (bel_trans HB17.out b16)
  clear b16
  go_wp2_with fail
  rw [← Gz.out, ← V16.out]
  clear Gz V16
  refine (newV 1 ⟨by decide, by decide⟩ _).mono ?_
  rintro e w19 ⟨u19, h19, rfl, hb19⟩
  have r5xxxxxxxxx := r5xxxxxxxx.below hb19
  clear r5xxxxxxxx
  have r10xxxxxx := r10xxxxx.below hb19
  clear r10xxxxx
  have r13xxxx := r13xxx.below hb19
  clear r13xxx
  have Kaxxxxxxxx := Kaxxxxxxx.below hb19 Kaxxxxxxx.lt
  clear Kaxxxxxxx
  have Kbxxxxx := Kbxxxx.below hb19 Kbxxxx.lt
  clear Kbxxxx
  have Kcxxx := Kcxx.below hb19 Kcxx.lt
  clear Kcxx
  have HB20 := Lib.hid (bel_trans HB18.out hb19)
  clear hb19
  go_wp2_with fail
  refine (newV 2 ⟨by decide, by decide⟩ _).mono ?_
  rintro e w21 ⟨u21, h21, rfl, hb21⟩
  have h19x := h19.below hb21
  clear h19
  have r5xxxxxxxxxx := r5xxxxxxxxx.below hb21
  clear r5xxxxxxxxx
  have r10xxxxxxx := r10xxxxxx.below hb21
  clear r10xxxxxx
  have r13xxxxx := r13xxxx.below hb21
  clear r13xxxx
  have Kaxxxxxxxxx := Kaxxxxxxxx.below hb21 Kaxxxxxxxx.lt
  clear Kaxxxxxxxx
  have Kbxxxxxx := Kbxxxxx.below hb21 Kbxxxxx.lt
  clear Kbxxxxx
  have Kcxxxx := Kcxxx.below hb21 Kcxxx.lt
  clear Kcxxx
  have HB22 := Lib.hid (bel_trans HB20.out hb21)
  clear hb21
  go_wp2_with fail
  refine (qnew_any false h19x.v h21.v (by decide) (by decide) (hT.below HB22.out) (by decide)).mono ?_
  rw [show rv false 1 2 = mkRat 1 2 by decide +kernel]
  rintro e w23 ⟨x23, y23, z23, r23, rfl, hb23⟩
  have r5xxxxxxxxxxx := r5xxxxxxxxxx.below hb23
  clear r5xxxxxxxxxx
  have r10xxxxxxxx := r10xxxxxxx.below hb23
  clear r10xxxxxxx
  have r13xxxxxx := r13xxxxx.below hb23
  clear r13xxxxx
  have Kaxxxxxxxxxx := Kaxxxxxxxxx.below hb23 Kaxxxxxxxxx.lt
  clear Kaxxxxxxxxx
  have Kbxxxxxxx := Kbxxxxxx.below hb23 Kbxxxxxx.lt
  clear Kbxxxxxx
  have Kcxxxxx := Kcxxxx.below hb23 Kcxxxx.lt
  clear Kcxxxx
  have HB24 := Lib.hid (bel_trans HB22.out hb23)
  clear hb23
  obtain ⟨sx, Ax, nx, cx, Bx, mx, dx, rfl, rfl, rfl⟩ := r23.form
  have b23 := bel_alloc (Below.refl w23.heap.size w23) (.cells #[.bool sx, .slice Ax nx cx, .slice Bx mx dx] 25)
  have Kx := Blk.new w23 25 #[.bool sx, .slice Ax nx cx, .slice Bx mx dx]
  obtain ⟨v23, hv23⟩ : ∃ v, v = w23.alloc (.cells #[.bool sx, .slice Ax nx cx, .slice Bx mx dx] 25) := ⟨_, rfl⟩
  obtain ⟨gx, hgx⟩ : ∃ g, g = w23.heap.size := ⟨_, rfl⟩
  have Gx := Lib.hid hgx
  have V23 := Lib.hid hv23
  rw [← hv23] at b23 Kx
  rw [← hgx] at Kx
  clear hv23 hgx
  have r5xxxxxxxxxxxx := r5xxxxxxxxxxx.below b23
  clear r5xxxxxxxxxxx
  have r10xxxxxxxxx := r10xxxxxxxx.below b23
  clear r10xxxxxxxx
  have r13xxxxxxx := r13xxxxxx.below b23
  clear r13xxxxxx
  have r23x := r23.below b23
  clear r23
  have Kaxxxxxxxxxxx := Kaxxxxxxxxxx.below b23 Kaxxxxxxxxxx.lt
  clear Kaxxxxxxxxxx
  have Kbxxxxxxxx := Kbxxxxxxx.below b23 Kbxxxxxxx.lt
  clear Kbxxxxxxx
  have Kcxxxxxx := Kcxxxxx.below b23 Kcxxxxx.lt
  clear Kcxxxxx
  have HB25 := Lib.hid (bel_trans HB24.out b23)
  clear b23
  go_wp2_with fail
  rw [← Gx.out, ← V23.out]
  clear Gx V23
  refine (newV 1 ⟨by decide, by decide⟩ _).mono ?_
  rintro e w26 ⟨u26, h26, rfl, hb26⟩
  have r5xxxxxxxxxxxxx := r5xxxxxxxxxxxx.below hb26
  clear r5xxxxxxxxxxxx
  have r10xxxxxxxxxx := r10xxxxxxxxx.below hb26
  clear r10xxxxxxxxx
  have r13xxxxxxxx := r13xxxxxxx.below hb26
  clear r13xxxxxxx
  have r23xx := r23x.below hb26
  clear r23x
  have Kaxxxxxxxxxxxx := Kaxxxxxxxxxxx.below hb26 Kaxxxxxxxxxxx.lt
  clear Kaxxxxxxxxxxx
  have Kbxxxxxxxxx := Kbxxxxxxxx.below hb26 Kbxxxxxxxx.lt
  clear Kbxxxxxxxx
  have Kcxxxxxxx := Kcxxxxxx.below hb26 Kcxxxxxx.lt
  clear Kcxxxxxx
  have Kxx := Kx.below hb26 Kx.lt
  clear Kx
  have HB27 := Lib.hid (bel_trans HB25.out hb26)
  clear hb26
  go_wp2_with fail
  refine (newV 3 ⟨by decide, by decide⟩ _).mono ?_
  rintro e w28 ⟨u28, h28, rfl, hb28⟩
  have h26x := h26.below hb28
  clear h26
  have r5xxxxxxxxxxxxxx := r5xxxxxxxxxxxxx.below hb28
  clear r5xxxxxxxxxxxxx
  have r10xxxxxxxxxxx := r10xxxxxxxxxx.below hb28
  clear r10xxxxxxxxxx
  have r13xxxxxxxxx := r13xxxxxxxx.below hb28
  clear r13xxxxxxxx
  have r23xxx := r23xx.below hb28
  clear r23xx
  have Kaxxxxxxxxxxxxx := Kaxxxxxxxxxxxx.below hb28 Kaxxxxxxxxxxxx.lt
  clear Kaxxxxxxxxxxxx
  have Kbxxxxxxxxxx := Kbxxxxxxxxx.below hb28 Kbxxxxxxxxx.lt
  clear Kbxxxxxxxxx
  have Kcxxxxxxxx := Kcxxxxxxx.below hb28 Kcxxxxxxx.lt
  clear Kcxxxxxxx
  have Kxxx := Kxx.below hb28 Kxx.lt
  clear Kxx
  have HB29 := Lib.hid (bel_trans HB27.out hb28)
  clear hb28
  go_wp2_with fail
  refine (qnew_any false h26x.v h28.v (by decide) (by decide) (hT.below HB29.out) (by decide)).mono ?_
  rw [show rv false 1 3 = mkRat 1 3 by decide +kernel]
  rintro e w30 ⟨x30, y30, z30, r30, rfl, hb30⟩
  have r5xxxxxxxxxxxxxxx := r5xxxxxxxxxxxxxx.below hb30
  clear r5xxxxxxxxxxxxxx
  have r10xxxxxxxxxxxx := r10xxxxxxxxxxx.below hb30
  clear r10xxxxxxxxxxx
  have r13xxxxxxxxxx := r13xxxxxxxxx.below hb30
  clear r13xxxxxxxxx
  have r23xxxx := r23xxx.below hb30
  clear r23xxx
  have Kaxxxxxxxxxxxxxx := Kaxxxxxxxxxxxxx.below hb30 Kaxxxxxxxxxxxxx.lt
  clear Kaxxxxxxxxxxxxx
  have Kbxxxxxxxxxxx := Kbxxxxxxxxxx.below hb30 Kbxxxxxxxxxx.lt
  clear Kbxxxxxxxxxx
  have Kcxxxxxxxxx := Kcxxxxxxxx.below hb30 Kcxxxxxxxx.lt
  clear Kcxxxxxxxx
  have Kxxxx := Kxxx.below hb30 Kxxx.lt
  clear Kxxx
  have HB31 := Lib.hid (bel_trans HB29.out hb30)
  clear hb30
  obtain ⟨sy, Ay, ny, cy, By, my, dy, rfl, rfl, rfl⟩ := r30.form
  have b30 := bel_alloc (Below.refl w30.heap.size w30) (.cells #[.bool sy, .slice Ay ny cy, .slice By my dy] 25)
  have Ky := Blk.new w30 25 #[.bool sy, .slice Ay ny cy, .slice By my dy]
  obtain ⟨v30, hv30⟩ : ∃ v, v = w30.alloc (.cells #[.bool sy, .slice Ay ny cy, .slice By my dy] 25) := ⟨_, rfl⟩
  obtain ⟨gy, hgy⟩ : ∃ g, g = w30.heap.size := ⟨_, rfl⟩
  have Gy := Lib.hid hgy
  have V30 := Lib.hid hv30
  rw [← hv30] at b30 Ky
  rw [← hgy] at Ky
  clear hv30 hgy
  have r5xxxxxxxxxxxxxxxx := r5xxxxxxxxxxxxxxx.below b30
  clear r5xxxxxxxxxxxxxxx
  have r10xxxxxxxxxxxxx := r10xxxxxxxxxxxx.below b30
  clear r10xxxxxxxxxxxx
  have r13xxxxxxxxxxx := r13xxxxxxxxxx.below b30
  clear r13xxxxxxxxxx
  have r23xxxxx := r23xxxx.below b30
  clear r23xxxx
  have r30x := r30.below b30
  clear r30
  have Kaxxxxxxxxxxxxxxx := Kaxxxxxxxxxxxxxx.below b30 Kaxxxxxxxxxxxxxx.lt
  clear Kaxxxxxxxxxxxxxx
  have Kbxxxxxxxxxxxx := Kbxxxxxxxxxxx.below b30 Kbxxxxxxxxxxx.lt
  clear Kbxxxxxxxxxxx
  have Kcxxxxxxxxxx := Kcxxxxxxxxx.below b30 Kcxxxxxxxxx.lt
  clear Kcxxxxxxxxx
  have Kxxxxx := Kxxxx.below b30 Kxxxx.lt
  clear Kxxxx
  have HB32 := Lib.hid (bel_trans HB31.out b30)
  clear b30
  obtain ⟨q0x, q1x, q2x, -, -, -⟩ := Kxxxxx.three
  rw [V30.out] at q0x q1x q2x
  obtain ⟨q0y, q1y, q2y, -, -, -⟩ := Ky.three
  rw [V30.out] at q0y q1y q2y
  go_wp2_with fail
  rw [← Gy.out, ← V30.out]
  clear Gy V30
  refine (qdiv_any r23xxxxx.v r30x.v (by decide) (by decide) (by decide) (hT.below HB32.out) (by decide +kernel)).mono ?_
  rw [show mkRat 1 2 / mkRat 1 3 = mkRat 3 2 by decide +kernel]
  rintro e w33 ⟨x33, y33, z33, r33, rfl, hb33⟩
  clear q0x q1x q2x
  clear q0y q1y q2y
  have r5xxxxxxxxxxxxxxxxx := r5xxxxxxxxxxxxxxxx.below hb33
  clear r5xxxxxxxxxxxxxxxx
  have r10xxxxxxxxxxxxxx := r10xxxxxxxxxxxxx.below hb33
  clear r10xxxxxxxxxxxxx
  have r13xxxxxxxxxxxx := r13xxxxxxxxxxx.below hb33
  clear r13xxxxxxxxxxx
  have r23xxxxxx := r23xxxxx.below hb33
  clear r23xxxxx
  have r30xx := r30x.below hb33
  clear r30x
  have Kaxxxxxxxxxxxxxxxx := Kaxxxxxxxxxxxxxxx.below hb33 Kaxxxxxxxxxxxxxxx.lt
  clear Kaxxxxxxxxxxxxxxx
  have Kbxxxxxxxxxxxxx := Kbxxxxxxxxxxxx.below hb33 Kbxxxxxxxxxxxx.lt
  clear Kbxxxxxxxxxxxx
  have Kcxxxxxxxxxxx := Kcxxxxxxxxxx.below hb33 Kcxxxxxxxxxx.lt
  clear Kcxxxxxxxxxx
  have Kxxxxxx := Kxxxxx.below hb33 Kxxxxx.lt
  clear Kxxxxx
  have Kyx := Ky.below hb33 Ky.lt
  clear Ky
  have HB34 := Lib.hid (bel_trans HB32.out hb33)
  clear hb33
  obtain ⟨sq, Aq, nq, cq, Bq, mq, dq, rfl, rfl, rfl⟩ := r33.form
  have b33 := bel_alloc (Below.refl w33.heap.size w33) (.cells #[.bool sq, .slice Aq nq cq, .slice Bq mq dq] 25)
  have Kq := Blk.new w33 25 #[.bool sq, .slice Aq nq cq, .slice Bq mq dq]
  obtain ⟨v33, hv33⟩ : ∃ v, v = w33.alloc (.cells #[.bool sq, .slice Aq nq cq, .slice Bq mq dq] 25) := ⟨_, rfl⟩
  obtain ⟨gq, hgq⟩ : ∃ g, g = w33.heap.size := ⟨_, rfl⟩
  have Gq := Lib.hid hgq
  have V33 := Lib.hid hv33
  rw [← hv33] at b33 Kq
  rw [← hgq] at Kq
  clear hv33 hgq
  have r5xxxxxxxxxxxxxxxxxx := r5xxxxxxxxxxxxxxxxx.below b33
  clear r5xxxxxxxxxxxxxxxxx
  have r10xxxxxxxxxxxxxxx := r10xxxxxxxxxxxxxx.below b33
  clear r10xxxxxxxxxxxxxx
  have r13xxxxxxxxxxxxx := r13xxxxxxxxxxxx.below b33
  clear r13xxxxxxxxxxxx
  have r23xxxxxxx := r23xxxxxx.below b33
  clear r23xxxxxx
  have r30xxx := r30xx.below b33
  clear r30xx
  have r33x := r33.below b33
  clear r33
  have Kaxxxxxxxxxxxxxxxxx := Kaxxxxxxxxxxxxxxxx.below b33 Kaxxxxxxxxxxxxxxxx.lt
  clear Kaxxxxxxxxxxxxxxxx
  have Kbxxxxxxxxxxxxxx := Kbxxxxxxxxxxxxx.below b33 Kbxxxxxxxxxxxxx.lt
  clear Kbxxxxxxxxxxxxx
  have Kcxxxxxxxxxxxx := Kcxxxxxxxxxxx.below b33 Kcxxxxxxxxxxx.lt
  clear Kcxxxxxxxxxxx
  have Kxxxxxxx := Kxxxxxx.below b33 Kxxxxxx.lt
  clear Kxxxxxx
  have Kyxx := Kyx.below b33 Kyx.lt
  clear Kyx
  have HB35 := Lib.hid (bel_trans HB34.out b33)
  clear b33
  go_upto_region 8 with fail
  rw [← Gq.out, ← V33.out]
  clear Gq V33
  obtain ⟨q0a, q1a, q2a, -, -, -⟩ := Kaxxxxxxxxxxxxxxxxx.three
  obtain ⟨q0b, q1b, q2b, -, -, -⟩ := Kbxxxxxxxxxxxxxx.three
  obtain ⟨q0c, q1c, q2c, -, -, -⟩ := Kcxxxxxxxxxxxx.three
  obtain ⟨q0x, q1x, q2x, -, -, -⟩ := Kxxxxxxx.three
  obtain ⟨q0y, q1y, q2y, -, -, -⟩ := Kyxx.three
  obtain ⟨q0q, q1q, q2q, -, -, -⟩ := Kq.three
  have HK : Hid (∀ w', Below v33.heap.size v33 w' → w'.cell? ⟨ga, 0, none⟩ = some (.bool sa) ∧ w'.cell? ⟨ga, 1, none⟩ = some (.slice Aa na ca) ∧ w'.cell? ⟨ga, 2, none⟩ = some (.slice Ba ma da) ∧ w'.cell? ⟨gb, 0, none⟩ = some (.bool sb) ∧ w'.cell? ⟨gb, 1, none⟩ = some (.slice Ab nb cb) ∧ w'.cell? ⟨gb, 2, none⟩ = some (.slice Bb mb db) ∧ w'.cell? ⟨gc, 0, none⟩ = some (.bool sc) ∧ w'.cell? ⟨gc, 1, none⟩ = some (.slice Ac nc cc) ∧ w'.cell? ⟨gc, 2, none⟩ = some (.slice Bc mc dc) ∧ w'.cell? ⟨gx, 0, none⟩ = some (.bool sx) ∧ w'.cell? ⟨gx, 1, none⟩ = some (.slice Ax nx cx) ∧ w'.cell? ⟨gx, 2, none⟩ = some (.slice Bx mx dx) ∧ w'.cell? ⟨gy, 0, none⟩ = some (.bool sy) ∧ w'.cell? ⟨gy, 1, none⟩ = some (.slice Ay ny cy) ∧ w'.cell? ⟨gy, 2, none⟩ = some (.slice By my dy) ∧ w'.cell? ⟨gq, 0, none⟩ = some (.bool sq) ∧ w'.cell? ⟨gq, 1, none⟩ = some (.slice Aq nq cq) ∧ w'.cell? ⟨gq, 2, none⟩ = some (.slice Bq mq dq)) := fun w' hb => kp18 hb q0a q1a q2a q0b q1b q2b q0c q1c q2c q0x q1x q2x q0y q1y q2y q0q q1q q2q
  clear q0a q1a q2a q0b q1b q2b q0c q1c q2c q0x q1x q2x q0y q1y q2y q0q q1q q2q
  refine region_plan (S := fun w' => w'.cell? ⟨ga, 0, none⟩ = some (.bool sa) ∧ w'.cell? ⟨ga, 1, none⟩ = some (.slice Aa na ca) ∧ w'.cell? ⟨ga, 2, none⟩ = some (.slice Ba ma da) ∧ w'.cell? ⟨gb, 0, none⟩ = some (.bool sb) ∧ w'.cell? ⟨gb, 1, none⟩ = some (.slice Ab nb cb) ∧ w'.cell? ⟨gb, 2, none⟩ = some (.slice Bb mb db) ∧ w'.cell? ⟨gc, 0, none⟩ = some (.bool sc) ∧ w'.cell? ⟨gc, 1, none⟩ = some (.slice Ac nc cc) ∧ w'.cell? ⟨gc, 2, none⟩ = some (.slice Bc mc dc) ∧ w'.cell? ⟨gx, 0, none⟩ = some (.bool sx) ∧ w'.cell? ⟨gx, 1, none⟩ = some (.slice Ax nx cx) ∧ w'.cell? ⟨gx, 2, none⟩ = some (.slice Bx mx dx) ∧ w'.cell? ⟨gy, 0, none⟩ = some (.bool sy) ∧ w'.cell? ⟨gy, 1, none⟩ = some (.slice Ay ny cy) ∧ w'.cell? ⟨gy, 2, none⟩ = some (.slice By my dy) ∧ w'.cell? ⟨gq, 0, none⟩ = some (.bool sq) ∧ w'.cell? ⟨gq, 1, none⟩ = some (.slice Aq nq cq) ∧ w'.cell? ⟨gq, 2, none⟩ = some (.slice Bq mq dq)) _ [(0, true), (1, false), (2, true), (3, true), (4, true), (5, true), (6, true), (7, true), (8, true), (9, false), (10, true), (11, true), (12, true), (13, true), (14, true), (15, true), (16, true), (17, true), (18, false), (19, true), (20, true), (21, true), (22, true), (23, true), (24, true), (25, true), (26, true), (27, true), (28, true), (29, true), (30, true), (31, true), (32, false), (33, false), (34, true), (35, true), (36, true), (37, true), (38, true), (39, false), (40, false), (41, true), (42, true), (43, true), (44, true), (45, true), (46, false), (47, false), (48, true), (49, true), (50, true), (51, true), (52, false), (53, true), (54, true), (55, true), (56, true), (57, true), (58, true), (59, true), (60, true), (61, true), (62, false), (63, true), (64, true), (65, true), (66, true), (68, true), (67, false), (69, false), (70, true), (71, true), (72, true), (73, true), (75, true), (74, false), (76, false), (77, true), (78, true), (79, true), (80, true), (81, false), (82, true), (83, true), (84, true), (85, true), (86, false), (87, true), (88, true), (89, true), (90, false), (91, false), (92, true), (93, true), (94, true), (95, true), (96, true), (97, true), (100, true), (98, false), (99, false), (101, false), (102, true), (103, true), (104, true)] (by kernel_rfl) (by kernel_rfl) rfl (by kernel_rfl) (by kernel_rfl) (fun _ _ d _ _ h => by cases d <;> exact h) (HK.out _ (bel_drew (Below.refl _ _))) ?_
  refine Walk.take (v := ?_) rfl (by rfl) ?_ ?_
  rotate_left
  · (intro w' hSw; (try dsimp only at hSw); go_simp <;> with_reducible rfl)
  try simp only [Act.put, List.setIfInBounds_toArray, List.set_cons_zero, List.set_cons_succ]
  refine Walk.act rfl (by rfl) (fun K hK => ?_)
  go_simp
  go_at_call 30
  refine (qtext_any (w := v33.drew) (r5xxxxxxxxxxxxxxxxxx.below (bel_drew (Below.refl v33.heap.size v33))).v (by decide) (by decide) (hT.below (bel_trans HB35.out (bel_drew (Below.refl v33.heap.size v33))))).mono ?_
  rintro e t1 ⟨⟨ts1, hs1, rfl⟩, hb901⟩
  obtain rfl := bytes_is (a := #[45, 51, 47, 50]) (hs1.eq tx_m32)
  have X1 : Below v33.heap.size v33 t1 := bel_trans (bel_drew (Below.refl v33.heap.size v33)) hb901
  refine hK.out _ _ (HK.out _ X1) ?_
  clear hK K
  try simp only [Act.put, List.setIfInBounds_toArray, List.set_cons_zero, List.set_cons_succ]
  refine Walk.take (v := ?_) rfl (by rfl) ?_ ?_
  rotate_left
  · (intro w' hSw; (try dsimp only at hSw); go_simp <;> with_reducible rfl)
  try simp only [Act.put, List.setIfInBounds_toArray, List.set_cons_zero, List.set_cons_succ]
  refine Walk.take (v := ?_) rfl (by rfl) ?_ ?_
  rotate_left
  · (intro w' hSw; (try dsimp only at hSw); go_simp <;> with_reducible rfl)
  try simp only [Act.put, List.setIfInBounds_toArray, List.set_cons_zero, List.set_cons_succ]
  refine Walk.take (v := ?_) rfl (by rfl) ?_ ?_
  rotate_left
  · (intro w' hSw; (try dsimp only at hSw); go_simp <;> with_reducible rfl)
  try simp only [Act.put, List.setIfInBounds_toArray, List.set_cons_zero, List.set_cons_succ]
  refine Walk.take (v := ?_) rfl (by rfl) ?_ ?_
  rotate_left
  · (intro w' hSw; (try dsimp only at hSw); go_simp <;> with_reducible rfl)
  try simp only [Act.put, List.setIfInBounds_toArray, List.set_cons_zero, List.set_cons_succ]
  refine Walk.take (v := ?_) rfl (by rfl) ?_ ?_
  rotate_left
  · (intro w' hSw; (try dsimp only at hSw); go_simp <;> with_reducible rfl)
  try simp only [Act.put, List.setIfInBounds_toArray, List.set_cons_zero, List.set_cons_succ]
  refine Walk.take (v := ?_) rfl (by rfl) ?_ ?_
  rotate_left
  · (intro w' hSw; (try dsimp only at hSw); go_simp <;> with_reducible rfl)
  try simp only [Act.put, List.setIfInBounds_toArray, List.set_cons_zero, List.set_cons_succ]
  refine Walk.take (v := ?_) rfl (by rfl) ?_ ?_
  rotate_left
  · (intro w' hSw; (try dsimp only at hSw); go_simp <;> with_reducible rfl)
  try simp only [Act.put, List.setIfInBounds_toArray, List.set_cons_zero, List.set_cons_succ]
  refine Walk.act rfl (by rfl) (fun K hK => ?_)
  go_simp
  have _ := X1
  go_at_call 30
  refine (qtext_any (w := t1) (r10xxxxxxxxxxxxxxx.below X1).v (by decide) (by decide) (hT.below (bel_trans HB35.out X1))).mono ?_
  rintro e t2 ⟨⟨ts2, hs2, rfl⟩, hb902⟩
  obtain rfl := bytes_is (a := #[48]) (hs2.eq tx_0)
  have X2 : Below v33.heap.size v33 t2 := bel_trans X1 hb902
  refine hK.out _ _ (HK.out _ X2) ?_
  clear hK K
  try simp only [Act.put, List.setIfInBounds_toArray, List.set_cons_zero, List.set_cons_succ]
  refine Walk.take (v := ?_) rfl (by rfl) ?_ ?_
  rotate_left
  · (intro w' hSw; (try dsimp only at hSw); go_simp <;> with_reducible rfl)
  try simp only [Act.put, List.setIfInBounds_toArray, List.set_cons_zero, List.set_cons_succ]
  refine Walk.take (v := ?_) rfl (by rfl) ?_ ?_
  rotate_left
  · (intro w' hSw; (try dsimp only at hSw); go_simp <;> with_reducible rfl)
  try simp only [Act.put, List.setIfInBounds_toArray, List.set_cons_zero, List.set_cons_succ]
  refine Walk.take (v := ?_) rfl (by rfl) ?_ ?_
  rotate_left
  · (intro w' hSw; (try dsimp only at hSw); go_simp <;> with_reducible rfl)
  try simp only [Act.put, List.setIfInBounds_toArray, List.set_cons_zero, List.set_cons_succ]
  refine Walk.take (v := ?_) rfl (by rfl) ?_ ?_
  rotate_left
  · (intro w' hSw; (try dsimp only at hSw); go_simp <;> with_reducible rfl)
  try simp only [Act.put, List.setIfInBounds_toArray, List.set_cons_zero, List.set_cons_succ]
  refine Walk.take (v := ?_) rfl (by rfl) ?_ ?_
  rotate_left
  · (intro w' hSw; (try dsimp only at hSw); go_simp <;> with_reducible rfl)
  try simp only [Act.put, List.setIfInBounds_toArray, List.set_cons_zero, List.set_cons_succ]
  refine Walk.take (v := ?_) rfl (by rfl) ?_ ?_
  rotate_left
  · (intro w' hSw; (try dsimp only at hSw); go_simp <;> with_reducible rfl)
  try simp only [Act.put, List.setIfInBounds_toArray, List.set_cons_zero, List.set_cons_succ]
  refine Walk.take (v := ?_) rfl (by rfl) ?_ ?_
  rotate_left
  · (intro w' hSw; (try dsimp only at hSw); go_simp <;> with_reducible rfl)
  try simp only [Act.put, List.setIfInBounds_toArray, List.set_cons_zero, List.set_cons_succ]
  refine Walk.take (v := ?_) rfl (by rfl) ?_ ?_
  rotate_left
  · (intro w' hSw; (try dsimp only at hSw); go_simp <;> with_reducible rfl)
  try simp only [Act.put, List.setIfInBounds_toArray, List.set_cons_zero, List.set_cons_succ]
  refine Walk.act rfl (by rfl) (fun K hK => ?_)
  go_simp
  have _ := X2
  go_at_call 30
  refine (qtext_any (w := t2) (r13xxxxxxxxxxxxx.below X2).v (by decide) (by decide) (hT.below (bel_trans HB35.out X2))).mono ?_
  rintro e t3 ⟨⟨ts3, hs3, rfl⟩, hb903⟩
  obtain rfl := bytes_is (a := #[51, 47, 50]) (hs3.eq tx_32)
  have X3 : Below v33.heap.size v33 t3 := bel_trans X2 hb903
  refine hK.out _ _ (HK.out _ X3) ?_
  clear hK K
  try simp only [Act.put, List.setIfInBounds_toArray, List.set_cons_zero, List.set_cons_succ]
  refine Walk.take (v := ?_) rfl (by rfl) ?_ ?_
  rotate_left
  · (intro w' hSw; (try dsimp only at hSw); go_simp <;> with_reducible rfl)
  try simp only [Act.put, List.setIfInBounds_toArray, List.set_cons_zero, List.set_cons_succ]
  refine Walk.take (v := ?_) rfl (by rfl) ?_ ?_
  rotate_left
  · (intro w' hSw; (try dsimp only at hSw); go_simp <;> with_reducible rfl)
  try simp only [Act.put, List.setIfInBounds_toArray, List.set_cons_zero, List.set_cons_succ]
  refine Walk.take (v := ?_) rfl (by rfl) ?_ ?_
  rotate_left
  · (intro w' hSw; (try dsimp only at hSw); go_simp <;> with_reducible rfl)
  try simp only [Act.put, List.setIfInBounds_toArray, List.set_cons_zero, List.set_cons_succ]
  refine Walk.take (v := ?_) rfl (by rfl) ?_ ?_
  rotate_left
  · (intro w' hSw; (try dsimp only at hSw); go_simp <;> with_reducible rfl)
  try simp only [Act.put, List.setIfInBounds_toArray, List.set_cons_zero, List.set_cons_succ]
  refine Walk.take (v := ?_) rfl (by rfl) ?_ ?_
  rotate_left
  · (intro w' hSw; (try dsimp only at hSw); go_simp <;> with_reducible rfl)
  try simp only [Act.put, List.setIfInBounds_toArray, List.set_cons_zero, List.set_cons_succ]
  refine Walk.take (v := ?_) rfl (by rfl) ?_ ?_
  rotate_left
  · (intro w' hSw; (try dsimp only at hSw); go_simp <;> with_reducible rfl)
  try simp only [Act.put, List.setIfInBounds_toArray, List.set_cons_zero, List.set_cons_succ]
  refine Walk.take (v := ?_) rfl (by rfl) ?_ ?_
  rotate_left
  · (intro w' hSw; (try dsimp only at hSw); go_simp <;> with_reducible rfl)
  try simp only [Act.put, List.setIfInBounds_toArray, List.set_cons_zero, List.set_cons_succ]
  refine Walk.take (v := ?_) rfl (by rfl) ?_ ?_
  rotate_left
  · (intro w' hSw; (try dsimp only at hSw); go_simp <;> with_reducible rfl)
  try simp only [Act.put, List.setIfInBounds_toArray, List.set_cons_zero, List.set_cons_succ]
  refine Walk.take (v := ?_) rfl (by rfl) ?_ ?_
  rotate_left
  · (intro w' hSw; (try dsimp only at hSw); go_simp <;> with_reducible rfl)
  try simp only [Act.put, List.setIfInBounds_toArray, List.set_cons_zero, List.set_cons_succ]
  refine Walk.take (v := ?_) rfl (by rfl) ?_ ?_
  rotate_left
  · (intro w' hSw; (try dsimp only at hSw); go_simp <;> with_reducible rfl)
  try simp only [Act.put, List.setIfInBounds_toArray, List.set_cons_zero, List.set_cons_succ]
  refine Walk.take (v := ?_) rfl (by rfl) ?_ ?_
  rotate_left
  · (intro w' hSw; (try dsimp only at hSw); go_simp <;> with_reducible rfl)
  try simp only [Act.put, List.setIfInBounds_toArray, List.set_cons_zero, List.set_cons_succ]
  refine Walk.take (v := ?_) rfl (by rfl) ?_ ?_
  rotate_left
  · (intro w' hSw; (try dsimp only at hSw); go_simp <;> with_reducible rfl)
  try simp only [Act.put, List.setIfInBounds_toArray, List.set_cons_zero, List.set_cons_succ]
  refine Walk.take (v := ?_) rfl (by rfl) ?_ ?_
  rotate_left
  · (intro w' hSw; (try dsimp only at hSw); go_simp <;> with_reducible rfl)
  try simp only [Act.put, List.setIfInBounds_toArray, List.set_cons_zero, List.set_cons_succ]
  refine Walk.act rfl (by rfl) (fun K hK => ?_)
  go_simp
  have _ := X3
  go_at_call 13
  refine (qadd_any (w := t3) (r23xxxxxxx.below X3).v (r30xxx.below X3).v (by decide) (by decide) (by decide) (by decide) (hT.below (bel_trans HB35.out X3))).mono ?_
  rw [show mkRat 1 2 + mkRat 1 3 = mkRat 5 6 by decide +kernel]
  rintro e t4 ⟨x4, y4, z4, r4, rfl, hb904⟩
  have X4 : Below v33.heap.size v33 t4 := bel_trans X3 hb904
  refine hK.out _ _ (HK.out _ X4) ?_
  clear hK K
  try simp only [Act.put, List.setIfInBounds_toArray, List.set_cons_zero, List.set_cons_succ]
  refine Walk.act rfl (by rfl) (fun K hK => ?_)
  go_simp
  have _ := X4
  go_at_call 30
  refine (qtext_any (w := t4) r4.v (by decide) (by decide) (hT.below (bel_trans HB35.out X4))).mono ?_
  rintro e t5 ⟨⟨ts5, hs5, rfl⟩, hb905⟩
  obtain rfl := bytes_is (a := #[53, 47, 54]) (hs5.eq tx_56)
  have X5 : Below v33.heap.size v33 t5 := bel_trans X4 hb905
  refine hK.out _ _ (HK.out _ X5) ?_
  clear hK K
  try simp only [Act.put, List.setIfInBounds_toArray, List.set_cons_zero, List.set_cons_succ]
  refine Walk.take (v := ?_) rfl (by rfl) ?_ ?_
  rotate_left
  · (intro w' hSw; (try dsimp only at hSw); go_simp <;> with_reducible rfl)
  try simp only [Act.put, List.setIfInBounds_toArray, List.set_cons_zero, List.set_cons_succ]
  refine Walk.take (v := ?_) rfl (by rfl) ?_ ?_
  rotate_left
  · (intro w' hSw; (try dsimp only at hSw); go_simp <;> with_reducible rfl)
  try simp only [Act.put, List.setIfInBounds_toArray, List.set_cons_zero, List.set_cons_succ]
  refine Walk.take (v := ?_) rfl (by rfl) ?_ ?_
  rotate_left
  · (intro w' hSw; (try dsimp only at hSw); go_simp <;> with_reducible rfl)
  try simp only [Act.put, List.setIfInBounds_toArray, List.set_cons_zero, List.set_cons_succ]
  refine Walk.take (v := ?_) rfl (by rfl) ?_ ?_
  rotate_left
  · (intro w' hSw; (try dsimp only at hSw); go_simp <;> with_reducible rfl)
  try simp only [Act.put, List.setIfInBounds_toArray, List.set_cons_zero, List.set_cons_succ]
  refine Walk.take (v := ?_) rfl (by rfl) ?_ ?_
  rotate_left
  · (intro w' hSw; (try dsimp only at hSw); go_simp <;> with_reducible rfl)
  try simp only [Act.put, List.setIfInBounds_toArray, List.set_cons_zero, List.set_cons_succ]
  refine Walk.act rfl (by rfl) (fun K hK => ?_)
  go_simp
  have _ := X5
  go_at_call 15
  refine (qsub_any (w := t5) (r23xxxxxxx.below X5).v (r30xxx.below X5).v (by decide) (by decide) (by decide) (by decide) (hT.below (bel_trans HB35.out X5))).mono ?_
  rw [show mkRat 1 2 - mkRat 1 3 = mkRat 1 6 by decide +kernel]
  rintro e t6 ⟨x6, y6, z6, r6, rfl, hb906⟩
  have X6 : Below v33.heap.size v33 t6 := bel_trans X5 hb906
  refine hK.out _ _ (HK.out _ X6) ?_
  clear hK K
  try simp only [Act.put, List.setIfInBounds_toArray, List.set_cons_zero, List.set_cons_succ]
  refine Walk.act rfl (by rfl) (fun K hK => ?_)
  go_simp
  have _ := X6
  go_at_call 30
  refine (qtext_any (w := t6) r6.v (by decide) (by decide) (hT.below (bel_trans HB35.out X6))).mono ?_
  rintro e t7 ⟨⟨ts7, hs7, rfl⟩, hb907⟩
  obtain rfl := bytes_is (a := #[49, 47, 54]) (hs7.eq tx_16)
  have X7 : Below v33.heap.size v33 t7 := bel_trans X6 hb907
  refine hK.out _ _ (HK.out _ X7) ?_
  clear hK K
  try simp only [Act.put, List.setIfInBounds_toArray, List.set_cons_zero, List.set_cons_succ]
  refine Walk.take (v := ?_) rfl (by rfl) ?_ ?_
  rotate_left
  · (intro w' hSw; (try dsimp only at hSw); go_simp <;> with_reducible rfl)
  try simp only [Act.put, List.setIfInBounds_toArray, List.set_cons_zero, List.set_cons_succ]
  refine Walk.take (v := ?_) rfl (by rfl) ?_ ?_
  rotate_left
  · (intro w' hSw; (try dsimp only at hSw); go_simp <;> with_reducible rfl)
  try simp only [Act.put, List.setIfInBounds_toArray, List.set_cons_zero, List.set_cons_succ]
  refine Walk.take (v := ?_) rfl (by rfl) ?_ ?_
  rotate_left
  · (intro w' hSw; (try dsimp only at hSw); go_simp <;> with_reducible rfl)
  try simp only [Act.put, List.setIfInBounds_toArray, List.set_cons_zero, List.set_cons_succ]
  refine Walk.take (v := ?_) rfl (by rfl) ?_ ?_
  rotate_left
  · (intro w' hSw; (try dsimp only at hSw); go_simp <;> with_reducible rfl)
  try simp only [Act.put, List.setIfInBounds_toArray, List.set_cons_zero, List.set_cons_succ]
  refine Walk.take (v := ?_) rfl (by rfl) ?_ ?_
  rotate_left
  · (intro w' hSw; (try dsimp only at hSw); go_simp <;> with_reducible rfl)
  try simp only [Act.put, List.setIfInBounds_toArray, List.set_cons_zero, List.set_cons_succ]
  refine Walk.act rfl (by rfl) (fun K hK => ?_)
  go_simp
  have _ := X7
  go_at_call 17
  refine (qmul_any (w := t7) (r23xxxxxxx.below X7).v (r30xxx.below X7).v (by decide) (by decide) (by decide) (hT.below (bel_trans HB35.out X7))).mono ?_
  rw [show mkRat 1 2 * mkRat 1 3 = mkRat 1 6 by decide +kernel]
  rintro e t8 ⟨x8, y8, z8, r8, rfl, hb908⟩
  have X8 : Below v33.heap.size v33 t8 := bel_trans X7 hb908
  refine hK.out _ _ (HK.out _ X8) ?_
  clear hK K
  try simp only [Act.put, List.setIfInBounds_toArray, List.set_cons_zero, List.set_cons_succ]
  refine Walk.act rfl (by rfl) (fun K hK => ?_)
  go_simp
  have _ := X8
  go_at_call 30
  refine (qtext_any (w := t8) r8.v (by decide) (by decide) (hT.below (bel_trans HB35.out X8))).mono ?_
  rintro e t9 ⟨⟨ts9, hs9, rfl⟩, hb909⟩
  obtain rfl := bytes_is (a := #[49, 47, 54]) (hs9.eq tx_16)
  have X9 : Below v33.heap.size v33 t9 := bel_trans X8 hb909
  refine hK.out _ _ (HK.out _ X9) ?_
  clear hK K
  try simp only [Act.put, List.setIfInBounds_toArray, List.set_cons_zero, List.set_cons_succ]
  refine Walk.take (v := ?_) rfl (by rfl) ?_ ?_
  rotate_left
  · (intro w' hSw; (try dsimp only at hSw); go_simp <;> with_reducible rfl)
  try simp only [Act.put, List.setIfInBounds_toArray, List.set_cons_zero, List.set_cons_succ]
  refine Walk.take (v := ?_) rfl (by rfl) ?_ ?_
  rotate_left
  · (intro w' hSw; (try dsimp only at hSw); go_simp <;> with_reducible rfl)
  try simp only [Act.put, List.setIfInBounds_toArray, List.set_cons_zero, List.set_cons_succ]
  refine Walk.take (v := ?_) rfl (by rfl) ?_ ?_
  rotate_left
  · (intro w' hSw; (try dsimp only at hSw); go_simp <;> with_reducible rfl)
  try simp only [Act.put, List.setIfInBounds_toArray, List.set_cons_zero, List.set_cons_succ]
  refine Walk.take (v := ?_) rfl (by rfl) ?_ ?_
  rotate_left
  · (intro w' hSw; (try dsimp only at hSw); go_simp <;> with_reducible rfl)
  try simp only [Act.put, List.setIfInBounds_toArray, List.set_cons_zero, List.set_cons_succ]
  refine Walk.act rfl (by rfl) (fun K hK => ?_)
  go_simp
  have _ := X9
  go_at_call 30
  refine (qtext_any (w := t9) (r33x.below X9).v (by decide) (by decide) (hT.below (bel_trans HB35.out X9))).mono ?_
  rintro e t10 ⟨⟨ts10, hs10, rfl⟩, hb910⟩
  obtain rfl := bytes_is (a := #[51, 47, 50]) (hs10.eq tx_32)
  have X10 : Below v33.heap.size v33 t10 := bel_trans X9 hb910
  refine hK.out _ _ (HK.out _ X10) ?_
  clear hK K
  try simp only [Act.put, List.setIfInBounds_toArray, List.set_cons_zero, List.set_cons_succ]
  refine Walk.take (v := ?_) rfl (by rfl) ?_ ?_
  rotate_left
  · (intro w' hSw; (try dsimp only at hSw); go_simp <;> with_reducible rfl)
  try simp only [Act.put, List.setIfInBounds_toArray, List.set_cons_zero, List.set_cons_succ]
  refine Walk.take (v := ?_) rfl (by rfl) ?_ ?_
  rotate_left
  · (intro w' hSw; (try dsimp only at hSw); go_simp <;> with_reducible rfl)
  try simp only [Act.put, List.setIfInBounds_toArray, List.set_cons_zero, List.set_cons_succ]
  refine Walk.take (v := ?_) rfl (by rfl) ?_ ?_
  rotate_left
  · (intro w' hSw; (try dsimp only at hSw); go_simp <;> with_reducible rfl)
  try simp only [Act.put, List.setIfInBounds_toArray, List.set_cons_zero, List.set_cons_succ]
  refine Walk.take (v := ?_) rfl (by rfl) ?_ ?_
  rotate_left
  · (intro w' hSw; (try dsimp only at hSw); go_simp <;> with_reducible rfl)
  try simp only [Act.put, List.setIfInBounds_toArray, List.set_cons_zero, List.set_cons_succ]
  refine Walk.take (v := ?_) rfl (by rfl) ?_ ?_
  rotate_left
  · (intro w' hSw; (try dsimp only at hSw); go_simp <;> with_reducible rfl)
  try simp only [Act.put, List.setIfInBounds_toArray, List.set_cons_zero, List.set_cons_succ]
  refine Walk.take (v := ?_) rfl (by rfl) ?_ ?_
  rotate_left
  · (intro w' hSw; (try dsimp only at hSw); go_simp <;> with_reducible rfl)
  try simp only [Act.put, List.setIfInBounds_toArray, List.set_cons_zero, List.set_cons_succ]
  refine Walk.take (v := ?_) rfl (by rfl) ?_ ?_
  rotate_left
  · (intro w' hSw; (try dsimp only at hSw); go_simp <;> with_reducible rfl)
  try simp only [Act.put, List.setIfInBounds_toArray, List.set_cons_zero, List.set_cons_succ]
  refine Walk.take (v := ?_) rfl (by rfl) ?_ ?_
  rotate_left
  · (intro w' hSw; (try dsimp only at hSw); go_simp <;> with_reducible rfl)
  try simp only [Act.put, List.setIfInBounds_toArray, List.set_cons_zero, List.set_cons_succ]
  refine Walk.take (v := ?_) rfl (by rfl) ?_ ?_
  rotate_left
  · (intro w' hSw; (try dsimp only at hSw); go_simp <;> with_reducible rfl)
  try simp only [Act.put, List.setIfInBounds_toArray, List.set_cons_zero, List.set_cons_succ]
  refine Walk.act rfl (by rfl) (fun K hK => ?_)
  go_simp
  have _ := X10
  go_at_call 25
  refine (qcmp_any (w := t10) (r23xxxxxxx.below X10).v (r30xxx.below X10).v (by decide) (by decide)).mono ?_
  rw [show cmpR (mkRat 1 2) (mkRat 1 3) = 1 by decide +kernel]
  rintro e t11 ⟨rfl, hb911⟩
  have X11 : Below v33.heap.size v33 t11 := bel_trans X10 hb911
  refine hK.out _ _ (HK.out _ X11) ?_
  clear hK K
  try simp only [Act.put, List.setIfInBounds_toArray, List.set_cons_zero, List.set_cons_succ]
  refine Walk.take (v := ?_) rfl (by rfl) ?_ ?_
  rotate_left
  · (intro w' hSw; (try dsimp only at hSw); go_simp <;> with_reducible rfl)
  try simp only [Act.put, List.setIfInBounds_toArray, List.set_cons_zero, List.set_cons_succ]
  refine Walk.take (v := ?_) rfl (by rfl) ?_ ?_
  rotate_left
  · (intro w' hSw; (try dsimp only at hSw); go_simp <;> with_reducible rfl)
  try simp only [Act.put, List.setIfInBounds_toArray, List.set_cons_zero, List.set_cons_succ]
  refine Walk.take (v := ?_) rfl (by rfl) ?_ ?_
  rotate_left
  · (intro w' hSw; (try dsimp only at hSw); go_simp <;> with_reducible rfl)
  try simp only [Act.put, List.setIfInBounds_toArray, List.set_cons_zero, List.set_cons_succ]
  refine Walk.take (v := ?_) rfl (by rfl) ?_ ?_
  rotate_left
  · (intro w' hSw; (try dsimp only at hSw); go_simp <;> with_reducible rfl)
  try simp only [Act.put, List.setIfInBounds_toArray, List.set_cons_zero, List.set_cons_succ]
  refine Walk.take (v := ?_) rfl (by rfl) ?_ ?_
  rotate_left
  · (intro w' hSw; (try dsimp only at hSw); go_simp <;> with_reducible rfl)
  try simp only [Act.put, List.setIfInBounds_toArray, List.set_cons_zero, List.set_cons_succ]
  refine Walk.act rfl (by rfl) (fun K hK => ?_)
  go_simp
  have _ := X11
  go_at_call 22
  refine (neg_any (w := t11) (r5xxxxxxxxxxxxxxxxxx.below X11).v (by decide) (by decide) (hT.below (bel_trans HB35.out X11))).mono ?_
  rw [show -mkRat (-3) 2 = mkRat 3 2 by decide +kernel]
  rintro e t12 ⟨x12, y12, z12, r12, rfl, hb912⟩
  have X12 : Below v33.heap.size v33 t12 := bel_trans X11 hb912
  refine hK.out _ _ (HK.out _ X12) ?_
  clear hK K
  try simp only [Act.put, List.setIfInBounds_toArray, List.set_cons_zero, List.set_cons_succ]
  refine Walk.act rfl (by rfl) (fun K hK => ?_)
  go_simp
  have _ := X12
  go_at_call 25
  refine (qcmp_any (w := t12) r12.v (r13xxxxxxxxxxxxx.below X12).v (by decide) (by decide)).mono ?_
  rw [show cmpR (mkRat 3 2) (mkRat 3 2) = 0 by decide +kernel]
  rintro e t13 ⟨rfl, hb913⟩
  have X13 : Below v33.heap.size v33 t13 := bel_trans X12 hb913
  refine hK.out _ _ (HK.out _ X13) ?_
  clear hK K
  try simp only [Act.put, List.setIfInBounds_toArray, List.set_cons_zero, List.set_cons_succ]
  refine Walk.take (v := ?_) rfl (by rfl) ?_ ?_
  rotate_left
  · (intro w' hSw; (try dsimp only at hSw); go_simp <;> with_reducible rfl)
  try simp only [Act.put, List.setIfInBounds_toArray, List.set_cons_zero, List.set_cons_succ]
  refine Walk.take (v := ?_) rfl (by rfl) ?_ ?_
  rotate_left
  · (intro w' hSw; (try dsimp only at hSw); go_simp <;> with_reducible rfl)
  try simp only [Act.put, List.setIfInBounds_toArray, List.set_cons_zero, List.set_cons_succ]
  refine Walk.take (v := ?_) rfl (by rfl) ?_ ?_
  rotate_left
  · (intro w' hSw; (try dsimp only at hSw); go_simp <;> with_reducible rfl)
  try simp only [Act.put, List.setIfInBounds_toArray, List.set_cons_zero, List.set_cons_succ]
  refine Walk.take (v := ?_) rfl (by rfl) ?_ ?_
  rotate_left
  · (intro w' hSw; (try dsimp only at hSw); go_simp <;> with_reducible rfl)
  try simp only [Act.put, List.setIfInBounds_toArray, List.set_cons_zero, List.set_cons_succ]
  refine Walk.take (v := ?_) rfl (by rfl) ?_ ?_
  rotate_left
  · (intro w' hSw; (try dsimp only at hSw); go_simp <;> with_reducible rfl)
  try simp only [Act.put, List.setIfInBounds_toArray, List.set_cons_zero, List.set_cons_succ]
  refine Walk.act rfl (by rfl) (fun K hK => ?_)
  go_simp
  have _ := X13
  go_at_call 24
  refine (abs_any (w := t13) (r5xxxxxxxxxxxxxxxxxx.below X13).v (by decide) (by decide) (hT.below (bel_trans HB35.out X13))).mono ?_
  rw [show absR (mkRat (-3) 2) = mkRat 3 2 by decide +kernel]
  rintro e t14 ⟨x14, y14, z14, r14, rfl, hb914⟩
  have X14 : Below v33.heap.size v33 t14 := bel_trans X13 hb914
  refine hK.out _ _ (HK.out _ X14) ?_
  clear hK K
  try simp only [Act.put, List.setIfInBounds_toArray, List.set_cons_zero, List.set_cons_succ]
  refine Walk.act rfl (by rfl) (fun K hK => ?_)
  go_simp
  have _ := X14
  go_at_call 25
  refine (qcmp_any (w := t14) r14.v (r13xxxxxxxxxxxxx.below X14).v (by decide) (by decide)).mono ?_
  rw [show cmpR (mkRat 3 2) (mkRat 3 2) = 0 by decide +kernel]
  rintro e t15 ⟨rfl, hb915⟩
  have X15 : Below v33.heap.size v33 t15 := bel_trans X14 hb915
  refine hK.out _ _ (HK.out _ X15) ?_
  clear hK K
  try simp only [Act.put, List.setIfInBounds_toArray, List.set_cons_zero, List.set_cons_succ]
  refine Walk.take (v := ?_) rfl (by rfl) ?_ ?_
  rotate_left
  · (intro w' hSw; (try dsimp only at hSw); go_simp <;> with_reducible rfl)
  try simp only [Act.put, List.setIfInBounds_toArray, List.set_cons_zero, List.set_cons_succ]
  refine Walk.take (v := ?_) rfl (by rfl) ?_ ?_
  rotate_left
  · (intro w' hSw; (try dsimp only at hSw); go_simp <;> with_reducible rfl)
  try simp only [Act.put, List.setIfInBounds_toArray, List.set_cons_zero, List.set_cons_succ]
  refine Walk.take (v := ?_) rfl (by rfl) ?_ ?_
  rotate_left
  · (intro w' hSw; (try dsimp only at hSw); go_simp <;> with_reducible rfl)
  try simp only [Act.put, List.setIfInBounds_toArray, List.set_cons_zero, List.set_cons_succ]
  refine Walk.take (v := ?_) rfl (by rfl) ?_ ?_
  rotate_left
  · (intro w' hSw; (try dsimp only at hSw); go_simp <;> with_reducible rfl)
  try simp only [Act.put, List.setIfInBounds_toArray, List.set_cons_zero, List.set_cons_succ]
  refine Walk.act rfl (by rfl) (fun K hK => ?_)
  go_simp
  have _ := X15
  go_at_call 27
  refine (sign_any (w := t15) (r5xxxxxxxxxxxxxxxxxx.below X15).v (by decide)).mono ?_
  rw [show sgn (mkRat (-3) 2) = -1 by decide +kernel]
  rintro e t16 ⟨rfl, hb916⟩
  have X16 : Below v33.heap.size v33 t16 := bel_trans X15 hb916
  refine hK.out _ _ (HK.out _ X16) ?_
  clear hK K
  try simp only [Act.put, List.setIfInBounds_toArray, List.set_cons_zero, List.set_cons_succ]
  refine Walk.take (v := ?_) rfl (by rfl) ?_ ?_
  rotate_left
  · (intro w' hSw; (try dsimp only at hSw); go_simp <;> with_reducible rfl)
  try simp only [Act.put, List.setIfInBounds_toArray, List.set_cons_zero, List.set_cons_succ]
  refine Walk.take (v := ?_) rfl (by rfl) ?_ ?_
  rotate_left
  · (intro w' hSw; (try dsimp only at hSw); go_simp <;> with_reducible rfl)
  try simp only [Act.put, List.setIfInBounds_toArray, List.set_cons_zero, List.set_cons_succ]
  refine Walk.take (v := ?_) rfl (by rfl) ?_ ?_
  rotate_left
  · (intro w' hSw; (try dsimp only at hSw); go_simp <;> with_reducible rfl)
  try simp only [Act.put, List.setIfInBounds_toArray, List.set_cons_zero, List.set_cons_succ]
  refine Walk.take (v := ?_) rfl (by rfl) ?_ ?_
  rotate_left
  · (intro w' hSw; (try dsimp only at hSw); go_simp <;> with_reducible rfl)
  try simp only [Act.put, List.setIfInBounds_toArray, List.set_cons_zero, List.set_cons_succ]
  refine Walk.act rfl (by rfl) (fun K hK => ?_)
  go_simp
  have _ := X16
  go_at_call 28
  refine (qlen_any (w := t16) (r13xxxxxxxxxxxxx.below X16).v (by decide) (by decide) (hT.below (bel_trans HB35.out X16))).mono ?_
  rw [show blen (rp (mkRat 3 2)) + blen (rq (mkRat 3 2)) = 4 by decide +kernel]
  rintro e t17 ⟨rfl, hb917⟩
  have X17 : Below v33.heap.size v33 t17 := bel_trans X16 hb917
  refine hK.out _ _ (HK.out _ X17) ?_
  clear hK K
  try simp only [Act.put, List.setIfInBounds_toArray, List.set_cons_zero, List.set_cons_succ]
  refine Walk.take (v := ?_) rfl (by rfl) ?_ ?_
  rotate_left
  · (intro w' hSw; (try dsimp only at hSw); go_simp <;> with_reducible rfl)
  try simp only [Act.put, List.setIfInBounds_toArray, List.set_cons_zero, List.set_cons_succ]
  refine Walk.take (v := ?_) rfl (by rfl) ?_ ?_
  rotate_left
  · (intro w' hSw; (try dsimp only at hSw); go_simp <;> with_reducible rfl)
  try simp only [Act.put, List.setIfInBounds_toArray, List.set_cons_zero, List.set_cons_succ]
  refine Walk.take (v := ?_) rfl (by rfl) ?_ ?_
  rotate_left
  · (intro w' hSw; (try dsimp only at hSw); go_simp <;> with_reducible rfl)
  try simp only [Act.put, List.setIfInBounds_toArray, List.set_cons_zero, List.set_cons_succ]
  refine Walk.act rfl (by rfl) (fun K hK => ?_)
  go_simp
  have _ := X17
  go_at_call 35
  refine (int_any (-7) (by decide) t17).mono ?_
  rintro e t18 ⟨x18, y18, z18, r18, rfl, hb918⟩
  have X18 : Below v33.heap.size v33 t18 := bel_trans X17 hb918
  refine hK.out _ _ (HK.out _ X18) ?_
  clear hK K
  try simp only [Act.put, List.setIfInBounds_toArray, List.set_cons_zero, List.set_cons_succ]
  refine Walk.act rfl (by rfl) (fun K hK => ?_)
  go_simp
  have _ := X18
  go_at_call 30
  refine (qtext_any (w := t18) r18.v (by decide) (by decide) (hT.below (bel_trans HB35.out X18))).mono ?_
  rintro e t19 ⟨⟨ts19, hs19, rfl⟩, hb919⟩
  obtain rfl := bytes_is (a := #[45, 55]) (hs19.eq tx_m7)
  have X19 : Below v33.heap.size v33 t19 := bel_trans X18 hb919
  refine hK.out _ _ (HK.out _ X19) ?_
  clear hK K
  try simp only [Act.put, List.setIfInBounds_toArray, List.set_cons_zero, List.set_cons_succ]
  refine Walk.take (v := ?_) rfl (by rfl) ?_ ?_
  rotate_left
  · (intro w' hSw; (try dsimp only at hSw); go_simp <;> with_reducible rfl)
  try simp only [Act.put, List.setIfInBounds_toArray, List.set_cons_zero, List.set_cons_succ]
  refine Walk.take (v := ?_) rfl (by rfl) ?_ ?_
  rotate_left
  · (intro w' hSw; (try dsimp only at hSw); go_simp <;> with_reducible rfl)
  try simp only [Act.put, List.setIfInBounds_toArray, List.set_cons_zero, List.set_cons_succ]
  refine Walk.take (v := ?_) rfl (by rfl) ?_ ?_
  rotate_left
  · (intro w' hSw; (try dsimp only at hSw); go_simp <;> with_reducible rfl)
  try simp only [Act.put, List.setIfInBounds_toArray, List.set_cons_zero, List.set_cons_succ]
  refine Walk.take (v := ?_) rfl (by rfl) ?_ ?_
  rotate_left
  · (intro w' hSw; (try dsimp only at hSw); go_simp <;> with_reducible rfl)
  try simp only [Act.put, List.setIfInBounds_toArray, List.set_cons_zero, List.set_cons_succ]
  refine Walk.take (v := ?_) rfl (by rfl) ?_ ?_
  rotate_left
  · (intro w' hSw; (try dsimp only at hSw); go_simp <;> with_reducible rfl)
  try simp only [Act.put, List.setIfInBounds_toArray, List.set_cons_zero, List.set_cons_succ]
  refine Walk.take (v := ?_) rfl (by rfl) ?_ ?_
  rotate_left
  · (intro w' hSw; (try dsimp only at hSw); go_simp <;> with_reducible rfl)
  try simp only [Act.put, List.setIfInBounds_toArray, List.set_cons_zero, List.set_cons_succ]
  refine Walk.take (v := ?_) rfl (by rfl) ?_ ?_
  rotate_left
  · (intro w' hSw; (try dsimp only at hSw); go_simp <;> with_reducible rfl)
  try simp only [Act.put, List.setIfInBounds_toArray, List.set_cons_zero, List.set_cons_succ]
  refine Walk.act rfl (by rfl) (fun K hK => ?_)
  go_simp
  refine hK.out _ _ (HK.out _ (bel_alloc X19 _)) ?_
  clear hK K
  try simp only [Act.put, List.setIfInBounds_toArray, List.set_cons_zero, List.set_cons_succ]
  refine Walk.act rfl (by rfl) (fun K hK => ?_)
  go_simp
  have _ := X19
  go_at_call 38
  refine (max_any (w := t19.alloc (.cells #[.bool sa, .slice Aa na ca, .slice Ba ma da, .bool sx, .slice Ax nx cx, .slice Bx mx dx, .bool sy, .slice Ay ny cy, .slice By my dy] 25)) (n := 3) (c := 3) rfl (by decide) (by decide) (by decide) (rdr_new t19 25 _ _ _ _ _ _ _ _ _) (three_all (r5xxxxxxxxxxxxxxxxxx.below (bel_alloc X19 (.cells #[.bool sa, .slice Aa na ca, .slice Ba ma da, .bool sx, .slice Ax nx cx, .slice Bx mx dx, .bool sy, .slice Ay ny cy, .slice By my dy] 25))).v (r23xxxxxxx.below (bel_alloc X19 (.cells #[.bool sa, .slice Aa na ca, .slice Ba ma da, .bool sx, .slice Ax nx cx, .slice Bx mx dx, .bool sy, .slice Ay ny cy, .slice By my dy] 25))).v (r30xxx.below (bel_alloc X19 (.cells #[.bool sa, .slice Aa na ca, .slice Ba ma da, .bool sx, .slice Ax nx cx, .slice Bx mx dx, .bool sy, .slice Ay ny cy, .slice By my dy] 25))).v) (by decide) (by decide) (hT.below (bel_trans HB35.out (bel_alloc X19 (.cells #[.bool sa, .slice Aa na ca, .slice Ba ma da, .bool sx, .slice Ax nx cx, .slice Bx mx dx, .bool sy, .slice Ay ny cy, .slice By my dy] 25))))).mono ?_
  rintro e t20 ⟨km, hkm, ⟨x20, y20, z20, r20, rfl, hb920⟩, hmx⟩
  have X20 : Below v33.heap.size v33 t20 := bel_trans (bel_alloc X19 (.cells #[.bool sa, .slice Aa na ca, .slice Ba ma da, .bool sx, .slice Ax nx cx, .slice Bx mx dx, .bool sy, .slice Ay ny cy, .slice By my dy] 25)) hb920
  refine hK.out _ _ (HK.out _ X20) ?_
  clear hK K
  try simp only [Act.put, List.setIfInBounds_toArray, List.set_cons_zero, List.set_cons_succ]
  refine Walk.act rfl (by rfl) (fun K hK => ?_)
  go_simp
  have _ := X20
  go_at_call 25
  refine (qcmp_any (w := t20) r20.v (r23xxxxxxx.below X20).v (by decide) (by decide)).mono ?_
  rw [max_is hkm hmx, show cmpR (mkRat 1 2) (mkRat 1 2) = 0 by decide +kernel]
  rintro e t21 ⟨rfl, hb921⟩
  have X21 : Below v33.heap.size v33 t21 := bel_trans X20 hb921
  refine hK.out _ _ (HK.out _ X21) ?_
  clear hK K
  try simp only [Act.put, List.setIfInBounds_toArray, List.set_cons_zero, List.set_cons_succ]
  refine Walk.take (v := ?_) rfl (by rfl) ?_ ?_
  rotate_left
  · (intro w' hSw; (try dsimp only at hSw); go_simp <;> with_reducible rfl)
  try simp only [Act.put, List.setIfInBounds_toArray, List.set_cons_zero, List.set_cons_succ]
  refine Walk.take (v := ?_) rfl (by rfl) ?_ ?_
  rotate_left
  · (intro w' hSw; (try dsimp only at hSw); go_simp <;> with_reducible rfl)
  try simp only [Act.put, List.setIfInBounds_toArray, List.set_cons_zero, List.set_cons_succ]
  refine Walk.take (v := ?_) rfl (by rfl) ?_ ?_
  rotate_left
  · (intro w' hSw; (try dsimp only at hSw); go_simp <;> with_reducible rfl)
  try simp only [Act.put, List.setIfInBounds_toArray, List.set_cons_zero]
  refine Walk.done ?_
  go_wp2_with fail
  go_ret
  exact ⟨rfl, bel_trans HB35.out X21⟩
end Go.Proofs.YtaollppieonmbaaDoor
