/-
  The contract of the examples of layer 2: they hold. Condition: the table of math/bits stands in its variable.
-/
import Derived.Test.YtckeajjlkpjgjaaDoorQwords
namespace Go.Proofs.YtckeajjlkpjgjaaDoor
open Go.RowKit

theorem isNat_of (v : Int) (ws : List Int) (h1 : nv ws = v) (h2 : ws.all (fun x => decide (0 ≤ x) && decide (x < 4294967296)) = true) (h3 : tlen ws = ws.length) : IsNat v ws := by
  refine ⟨h1, fun x hx => ?_, h3⟩
  have := List.all_eq_true.1 h2 x hx
  simp only [Bool.and_eq_true, decide_eq_true_eq] at this
  exact this
theorem bytes_eq {s : ByteArray} {l : List UInt8} (h : s.data.toList = l) : s = ⟨l.toArray⟩ := by
  obtain ⟨⟨d⟩⟩ := s
  simp at h
  rw [h]

set_option maxRecDepth 100000 in
set_option maxHeartbeats 20000000 in
theorem works2 (w : World) (hT : TabOk w) : Calls Tryd.prog 10 #[] w fun e w' => e = .returned (.bool true) ∧ Below w.heap.size w w' := by
  have HT := Lib.hid hT
  clear hT
  have HB0 := Lib.hid (Below.refl w.heap.size w)
  go_enter Tryd.func10, Tryd.ntmps10
  go_wp2_with fail
  refine (new_any 4294967296 ⟨by decide, by decide⟩ _).mono ?_
  rintro e w1 ⟨u1, A1, n1, c1, hn1, hl1, rfl, hc1, r1, -, hb1⟩
  obtain rfl := hn1.eq (isNat_of 4294967296 [0, 1] (by decide) (by decide) (by decide))
  obtain rfl : 2 = n1 := hl1
  clear hn1
  have HB1 := Lib.hid (bel_trans HB0.out hb1)
  clear hb1
  go_wp2_with fail
  refine (new_any 7 ⟨by decide, by decide⟩ _).mono ?_
  rintro e w2 ⟨u2, A2, n2, c2, hn2, hl2, rfl, hc2, r2, -, hb2⟩
  obtain rfl := hn2.eq (isNat_of 7 [7] (by decide) (by decide) (by decide))
  obtain rfl : 1 = n2 := hl2
  clear hn2
  have r1x := r1.below hb2 (Nat.le_refl _)
  clear r1
  have HB2 := Lib.hid (bel_trans HB1.out hb2)
  clear hb2
  go_wp2_with fail
  refine (new_any 9 ⟨by decide, by decide⟩ _).mono ?_
  rintro e w3 ⟨u3, A3, n3, c3, hn3, hl3, rfl, hc3, r3, -, hb3⟩
  obtain rfl := hn3.eq (isNat_of 9 [9] (by decide) (by decide) (by decide))
  obtain rfl : 1 = n3 := hl3
  clear hn3
  have r1xx := r1x.below hb3 (Nat.le_refl _)
  clear r1x
  have r2x := r2.below hb3 (Nat.le_refl _)
  clear r2
  have HB3 := Lib.hid (bel_trans HB2.out hb3)
  clear hb3
  go_wp2_with fail
  refine (nsub_any A2 A3 1 1 c2 c3 [7] [9] _ rfl rfl hc2 hc3 r2x r3 (isNat_of 7 [7] (by decide) (by decide) (by decide)).all (isNat_of 9 [9] (by decide) (by decide) (by decide)).all (by decide) (by decide)).mono ?_
  rintro e w4 ⟨u4, A4, n4, c4, ok, hok, hn4, hl4, rfl, hc4, r4, -, hb4⟩
  obtain rfl : ok = false := hok.trans (by decide)
  clear hok hn4 hl4 hc4 r4
  clear r2x hc2
  clear r3 hc3
  have r1xxx := r1xx.below hb4 (Nat.le_refl _)
  clear r1xx
  have HB4 := Lib.hid (bel_trans HB3.out hb4)
  clear hb4
  go_wp2_with fail
  refine (nparse_any _ _ (by decide)).mono ?_
  rintro e w5 ⟨u5, A5, n5, c5, hn5, hl5, rfl, hc5, r5, hb5⟩
  rw [show parV _ = 340282366920938463463374607431768211456 from by decide +kernel] at hn5
  obtain rfl := hn5.eq (isNat_of 340282366920938463463374607431768211456 [0, 0, 0, 0, 1] (by decide) (by decide) (by decide))
  obtain rfl : 5 = n5 := hl5
  clear hn5
  rw [show parE _ = 0 from by decide +kernel]
  have r1xxxx := r1xxx.below hb5 (Nat.le_refl _)
  clear r1xxx
  have HB5 := Lib.hid (bel_trans HB4.out hb5)
  clear hb5
  go_wp2_with fail
  refine (npow_main 10 3 10 3 4 rfl (by decide) (by decide) (by decide) (by decide +kernel) (.inr ⟨by decide, by decide⟩) _).mono ?_
  rw [show powV (10 ^ 3) = 1000 from by decide +kernel, show powE (10 ^ 3) = 0 from by decide +kernel]
  rintro e w6 ⟨u6, A6, n6, c6, hn6, hl6, rfl, hc6, r6, hb6⟩
  obtain rfl := hn6.eq (isNat_of 1000 [1000] (by decide) (by decide) (by decide))
  obtain rfl : 1 = n6 := hl6
  clear hn6
  have r1xxxxx := r1xxxx.below hb6 (Nat.le_refl _)
  clear r1xxxx
  have r5x := r5.below hb6 (Nat.le_refl _)
  clear r5
  have HB6 := Lib.hid (bel_trans HB5.out hb6)
  clear hb6
  go_wp2_with fail
  refine (npow_early 2 65536 2 65536 2 rfl (by decide) (by decide) (by decide) (by decide) (by decide +kernel) (by decide) _).mono ?_
  rintro e w7 ⟨u7, A7, n7, c7, hn7, hl7, rfl, hc7, r7, hb7⟩
  clear hn7 hl7 hc7 r7
  have r1xxxxxx := r1xxxxx.below hb7 (Nat.le_refl _)
  clear r1xxxxx
  have r5xx := r5x.below hb7 (Nat.le_refl _)
  clear r5x
  have r6x := r6.below hb7 (Nat.le_refl _)
  clear r6
  have HB7 := Lib.hid (bel_trans HB6.out hb7)
  clear hb7
  go_wp2_with fail
  refine (new_any 12 ⟨by decide, by decide⟩ _).mono ?_
  rintro e w8 ⟨u8, A8, n8, c8, hn8, hl8, rfl, hc8, r8, -, hb8⟩
  obtain rfl := hn8.eq (isNat_of 12 [12] (by decide) (by decide) (by decide))
  obtain rfl : 1 = n8 := hl8
  clear hn8
  have r1xxxxxxx := r1xxxxxx.below hb8 (Nat.le_refl _)
  clear r1xxxxxx
  have r5xxx := r5xx.below hb8 (Nat.le_refl _)
  clear r5xx
  have r6xx := r6x.below hb8 (Nat.le_refl _)
  clear r6x
  have HB8 := Lib.hid (bel_trans HB7.out hb8)
  clear hb8
  go_wp2_with fail
  refine (new_any 18 ⟨by decide, by decide⟩ _).mono ?_
  rintro e w9 ⟨u9, A9, n9, c9, hn9, hl9, rfl, hc9, r9, -, hb9⟩
  obtain rfl := hn9.eq (isNat_of 18 [18] (by decide) (by decide) (by decide))
  obtain rfl : 1 = n9 := hl9
  clear hn9
  have r1xxxxxxxx := r1xxxxxxx.below hb9 (Nat.le_refl _)
  clear r1xxxxxxx
  have r5xxxx := r5xxx.below hb9 (Nat.le_refl _)
  clear r5xxx
  have r6xxx := r6xx.below hb9 (Nat.le_refl _)
  clear r6xx
  have r8x := r8.below hb9 (Nat.le_refl _)
  clear r8
  have HB9 := Lib.hid (bel_trans HB8.out hb9)
  clear hb9
  go_wp2_with fail
  refine (ngcd_any A8 A9 1 1 c8 c9 [12] [18] _ rfl rfl hc8 hc9 r8x r9 (isNat_of 12 [12] (by decide) (by decide) (by decide)).all (isNat_of 18 [18] (by decide) (by decide) (by decide)).all (by decide) (by decide) (HT.out.below HB9.out)).mono ?_
  rw [show gcdI (nv [12]) (nv [18]) = 6 from by decide +kernel]
  rintro e w10 ⟨u10, A10, n10, c10, hn10, hl10, rfl, hc10, r10, -, hb10⟩
  obtain rfl := hn10.eq (isNat_of 6 [6] (by decide) (by decide) (by decide))
  obtain rfl : 1 = n10 := hl10
  clear hn10
  clear r8x hc8
  clear r9 hc9
  have r1xxxxxxxxx := r1xxxxxxxx.below hb10 (Nat.le_refl _)
  clear r1xxxxxxxx
  have r5xxxxx := r5xxxx.below hb10 (Nat.le_refl _)
  clear r5xxxx
  have r6xxxx := r6xxx.below hb10 (Nat.le_refl _)
  clear r6xxx
  have HB10 := Lib.hid (bel_trans HB9.out hb10)
  clear hb10
  go_wp2_with fail
  refine (nuint_any A10 1 c10 [6] _ rfl hc10 r10 (isNat_of 6 [6] (by decide) (by decide) (by decide)).all (by decide)).mono ?_
  rw [show uintV (nv [6]) = 6 from by decide, show decide (nv [6] < 18446744073709551616) = true from by decide]
  rintro e wz ⟨rfl, rfl⟩
  clear r10 hc10
  go_wp2_with fail
  refine (new_any 17 ⟨by decide, by decide⟩ _).mono ?_
  rintro e w11 ⟨u11, A11, n11, c11, hn11, hl11, rfl, hc11, r11, -, hb11⟩
  obtain rfl := hn11.eq (isNat_of 17 [17] (by decide) (by decide) (by decide))
  obtain rfl : 1 = n11 := hl11
  clear hn11
  have r1xxxxxxxxxx := r1xxxxxxxxx.below hb11 (Nat.le_refl _)
  clear r1xxxxxxxxx
  have r5xxxxxx := r5xxxxx.below hb11 (Nat.le_refl _)
  clear r5xxxxx
  have r6xxxxx := r6xxxx.below hb11 (Nat.le_refl _)
  clear r6xxxx
  have HB11 := Lib.hid (bel_trans HB10.out hb11)
  clear hb11
  go_wp2_with fail
  refine (new_any 5 ⟨by decide, by decide⟩ _).mono ?_
  rintro e w12 ⟨u12, A12, n12, c12, hn12, hl12, rfl, hc12, r12, -, hb12⟩
  obtain rfl := hn12.eq (isNat_of 5 [5] (by decide) (by decide) (by decide))
  obtain rfl : 1 = n12 := hl12
  clear hn12
  have r1xxxxxxxxxxx := r1xxxxxxxxxx.below hb12 (Nat.le_refl _)
  clear r1xxxxxxxxxx
  have r5xxxxxxx := r5xxxxxx.below hb12 (Nat.le_refl _)
  clear r5xxxxxx
  have r6xxxxxx := r6xxxxx.below hb12 (Nat.le_refl _)
  clear r6xxxxx
  have r11x := r11.below hb12 (Nat.le_refl _)
  clear r11
  have HB12 := Lib.hid (bel_trans HB11.out hb12)
  clear hb12
  go_wp2_with fail
  refine (ndiv_pos A11 A12 1 1 c11 c12 [17] [5] _ rfl rfl hc11 hc12 r11x r12 (isNat_of 17 [17] (by decide) (by decide) (by decide)).all (isNat_of 5 [5] (by decide) (by decide) (by decide)).all (by decide) (by decide) (by decide)).mono ?_
  rw [show nv [17] / nv [5] = 3 from by decide, show nv [17] % nv [5] = 2 from by decide]
  rintro e w13 ⟨u13, v13, A13, B13, n13, m13, c13, d13, hn13, hm13, hl13, hk13, rfl, hc13, hd13, r13, s13, -, -, hb13⟩
  obtain rfl := hn13.eq (isNat_of 3 [3] (by decide) (by decide) (by decide))
  obtain rfl : 1 = n13 := hl13
  clear hn13
  obtain rfl := hm13.eq (isNat_of 2 [2] (by decide) (by decide) (by decide))
  obtain rfl : 1 = m13 := hk13
  clear hm13
  clear r11x hc11
  clear r12 hc12
  have r1xxxxxxxxxxxx := r1xxxxxxxxxxx.below hb13 (Nat.le_refl _)
  clear r1xxxxxxxxxxx
  have r5xxxxxxxx := r5xxxxxxx.below hb13 (Nat.le_refl _)
  clear r5xxxxxxx
  have r6xxxxxxx := r6xxxxxx.below hb13 (Nat.le_refl _)
  clear r6xxxxxx
  have HB13 := Lib.hid (bel_trans HB12.out hb13)
  clear hb13
  go_wp2_with fail
  refine (new_any 1 ⟨by decide, by decide⟩ _).mono ?_
  rintro e w14 ⟨u14, A14, n14, c14, hn14, hl14, rfl, hc14, r14, -, hb14⟩
  obtain rfl := hn14.eq (isNat_of 1 [1] (by decide) (by decide) (by decide))
  obtain rfl : 1 = n14 := hl14
  clear hn14
  have r1xxxxxxxxxxxxx := r1xxxxxxxxxxxx.below hb14 (Nat.le_refl _)
  clear r1xxxxxxxxxxxx
  have r5xxxxxxxxx := r5xxxxxxxx.below hb14 (Nat.le_refl _)
  clear r5xxxxxxxx
  have r6xxxxxxxx := r6xxxxxxx.below hb14 (Nat.le_refl _)
  clear r6xxxxxxx
  have r13x := r13.below hb14 (Nat.le_refl _)
  clear r13
  have s13x := s13.below hb14 (Nat.le_refl _)
  clear s13
  have HB14 := Lib.hid (bel_trans HB13.out hb14)
  clear hb14
  go_wp2_with fail
  refine (nshl_ok A14 1 c14 [1] 40 _ rfl hc14 r14 (isNat_of 1 [1] (by decide) (by decide) (by decide)).all (by decide) (by decide) (by decide +kernel)).mono ?_
  rw [show 2 ^ (max (40 : Int) 0).toNat * nv [1] = 1099511627776 from by decide +kernel]
  rintro e w15 ⟨u15, A15, n15, c15, hn15, hl15, rfl, hc15, r15, hb15⟩
  obtain rfl := hn15.eq (isNat_of 1099511627776 [0, 256] (by decide) (by decide) (by decide))
  obtain rfl : 2 = n15 := hl15
  clear hn15
  clear r14 hc14
  have r1xxxxxxxxxxxxxx := r1xxxxxxxxxxxxx.below hb15 (Nat.le_refl _)
  clear r1xxxxxxxxxxxxx
  have r5xxxxxxxxxx := r5xxxxxxxxx.below hb15 (Nat.le_refl _)
  clear r5xxxxxxxxx
  have r6xxxxxxxxx := r6xxxxxxxx.below hb15 (Nat.le_refl _)
  clear r6xxxxxxxx
  have r13xx := r13x.below hb15 (Nat.le_refl _)
  clear r13x
  have s13xx := s13x.below hb15 (Nat.le_refl _)
  clear s13x
  have HB15 := Lib.hid (bel_trans HB14.out hb15)
  clear hb15
  obtain ⟨ga, oa, rfl, ga1, ca0⟩ := r1xxxxxxxxxxxxxx.at_ (i := 0) (by decide)
  have ca1 := r1xxxxxxxxxxxxxx.cell (i := 1) (by decide)
  obtain ⟨gp, op, rfl, gp1, cp4⟩ := r5xxxxxxxxxx.at_ (i := 4) (by decide)
  have ca0' : w15.cell? ⟨ga, oa, none⟩ = some (.int .u32 0) := ca0
  have ca1' : w15.cell? ⟨ga, oa + 1, none⟩ = some (.int .u32 1) := ca1
  have cp4' : w15.cell? ⟨gp, op + 4, none⟩ = some (.int .u32 1) := cp4
  clear ca0 ca1 cp4
  go_wp2_with fail
  refine (ntext_any A6 1 c6 [1000] _ rfl hc6 r6xxxxxxxxx (isNat_of 1000 [1000] (by decide) (by decide) (by decide)).all (by decide)).mono ?_
  rintro e w16 ⟨⟨tx, htx, rfl⟩, hb16⟩
  obtain rfl := bytes_eq (htx.eq (⟨by decide, by decide, by decide, fun h => absurd h (by decide), fun _ c hc => by simp at hc; rw [← hc]; decide⟩ : IsText (nv [1000]) [49, 48, 48, 48]))
  clear htx ca0' ca1' cp4' ga1 gp1
  clear r6xxxxxxxxx hc6
  clear r5xxxxxxxxxx hc5
  have r1xxxxxxxxxxxxxxx := r1xxxxxxxxxxxxxx.below hb16 (Nat.le_refl _)
  clear r1xxxxxxxxxxxxxx
  have r13xxx := r13xx.below hb16 (Nat.le_refl _)
  clear r13xx
  have s13xxx := s13xx.below hb16 (Nat.le_refl _)
  clear s13xx
  have r15x := r15.below hb16 (Nat.le_refl _)
  clear r15
  have HB16 := Lib.hid (bel_trans HB15.out hb16)
  clear hb16
  go_wp2_with fail
  refine (new_any 3 ⟨by decide, by decide⟩ _).mono ?_
  rintro e w17 ⟨u17, A17, n17, c17, hn17, hl17, rfl, hc17, r17, -, hb17⟩
  obtain rfl := hn17.eq (isNat_of 3 [3] (by decide) (by decide) (by decide))
  obtain rfl : 1 = n17 := hl17
  clear hn17
  have r1xxxxxxxxxxxxxxxx := r1xxxxxxxxxxxxxxx.below hb17 (Nat.le_refl _)
  clear r1xxxxxxxxxxxxxxx
  have r13xxxx := r13xxx.below hb17 (Nat.le_refl _)
  clear r13xxx
  have s13xxxx := s13xxx.below hb17 (Nat.le_refl _)
  clear s13xxx
  have r15xx := r15x.below hb17 (Nat.le_refl _)
  clear r15x
  have HB17 := Lib.hid (bel_trans HB16.out hb17)
  clear hb17
  go_wp2_with fail
  refine (ncmp_any A13 A17 1 1 c13 c17 [3] [3] _ rfl rfl hc13 hc17 r13xxxx r17 (isNat_of 3 [3] (by decide) (by decide) (by decide)).all (isNat_of 3 [3] (by decide) (by decide) (by decide)).all (by decide) (by decide)).mono ?_
  rw [show cmpI (nv [3]) (nv [3]) = 0 from by decide]
  rintro e w18 ⟨rfl, hb18⟩
  clear r13xxxx hc13
  clear r17 hc17
  have r1xxxxxxxxxxxxxxxxx := r1xxxxxxxxxxxxxxxx.below hb18 (Nat.le_refl _)
  clear r1xxxxxxxxxxxxxxxx
  have s13xxxxx := s13xxxx.below hb18 (Nat.le_refl _)
  clear s13xxxx
  have r15xxx := r15xx.below hb18 (Nat.le_refl _)
  clear r15xx
  have HB18 := Lib.hid (bel_trans HB17.out hb18)
  clear hb18
  go_wp2_with fail
  refine (new_any 2 ⟨by decide, by decide⟩ _).mono ?_
  rintro e w19 ⟨u19, A19, n19, c19, hn19, hl19, rfl, hc19, r19, -, hb19⟩
  obtain rfl := hn19.eq (isNat_of 2 [2] (by decide) (by decide) (by decide))
  obtain rfl : 1 = n19 := hl19
  clear hn19
  have r1xxxxxxxxxxxxxxxxxx := r1xxxxxxxxxxxxxxxxx.below hb19 (Nat.le_refl _)
  clear r1xxxxxxxxxxxxxxxxx
  have s13xxxxxx := s13xxxxx.below hb19 (Nat.le_refl _)
  clear s13xxxxx
  have r15xxxx := r15xxx.below hb19 (Nat.le_refl _)
  clear r15xxx
  have HB19 := Lib.hid (bel_trans HB18.out hb19)
  clear hb19
  go_wp2_with fail
  refine (ncmp_any B13 A19 1 1 d13 c19 [2] [2] _ rfl rfl hd13 hc19 s13xxxxxx r19 (isNat_of 2 [2] (by decide) (by decide) (by decide)).all (isNat_of 2 [2] (by decide) (by decide) (by decide)).all (by decide) (by decide)).mono ?_
  rw [show cmpI (nv [2]) (nv [2]) = 0 from by decide]
  rintro e w20 ⟨rfl, hb20⟩
  clear s13xxxxxx hd13
  clear r19 hc19
  have r1xxxxxxxxxxxxxxxxxxx := r1xxxxxxxxxxxxxxxxxx.below hb20 (Nat.le_refl _)
  clear r1xxxxxxxxxxxxxxxxxx
  have r15xxxxx := r15xxxx.below hb20 (Nat.le_refl _)
  clear r15xxxx
  have HB20 := Lib.hid (bel_trans HB19.out hb20)
  clear hb20
  go_wp2_with fail
  refine (nbit_any A15 2 c15 [0, 256] 40 _ rfl r15xxxxx (isNat_of 1099511627776 [0, 256] (by decide) (by decide) (by decide)).all (by decide) (by decide)).mono ?_
  rw [show bitN (nv [0, 256]) 40 = 1 from by decide +kernel]
  rintro e wz ⟨rfl, rfl⟩
  go_wp2_with fail
  refine (nshr_any A15 2 c15 [0, 256] 40 _ rfl hc15 r15xxxxx (isNat_of 1099511627776 [0, 256] (by decide) (by decide) (by decide)).all (by decide) (by decide)).mono ?_
  rw [show nv [0, 256] / 2 ^ (max (40 : Int) 0).toNat = 1 from by decide +kernel]
  rintro e w21 ⟨u21, A21, n21, c21, hn21, hl21, rfl, hc21, r21, -, hb21⟩
  obtain rfl := hn21.eq (isNat_of 1 [1] (by decide) (by decide) (by decide))
  obtain rfl : 1 = n21 := hl21
  clear hn21
  clear r15xxxxx hc15
  have r1xxxxxxxxxxxxxxxxxxxx := r1xxxxxxxxxxxxxxxxxxx.below hb21 (Nat.le_refl _)
  clear r1xxxxxxxxxxxxxxxxxxx
  have HB21 := Lib.hid (bel_trans HB20.out hb21)
  clear hb21
  go_wp2_with fail
  refine (nlen_any A21 1 c21 [1] _ rfl hc21 r21 (isNat_of 1 [1] (by decide) (by decide) (by decide)).all (by decide)).mono ?_
  rw [show blen (nv [1]) = 1 from by decide +kernel]
  rintro e wz ⟨rfl, rfl⟩
  clear r21 hc21
  go_wp2_with fail
  refine (nmul_any (some ⟨ga, oa, none⟩) (some ⟨ga, oa, none⟩) 2 2 c1 c1 [0, 1] [0, 1] _ rfl rfl hc1 hc1 r1xxxxxxxxxxxxxxxxxxxx r1xxxxxxxxxxxxxxxxxxxx (isNat_of 4294967296 [0, 1] (by decide) (by decide) (by decide)).all (isNat_of 4294967296 [0, 1] (by decide) (by decide) (by decide)).all (by decide) (by decide)).mono ?_
  rw [show nv [0, 1] * nv [0, 1] = 18446744073709551616 from by decide]
  rintro e w22 ⟨u22, A22, n22, c22, hn22, hl22, rfl, hc22, r22, -, hb22⟩
  obtain rfl := hn22.eq (isNat_of 18446744073709551616 [0, 0, 1] (by decide) (by decide) (by decide))
  obtain rfl : 3 = n22 := hl22
  clear hn22
  have r1xxxxxxxxxxxxxxxxxxxxx := r1xxxxxxxxxxxxxxxxxxxx.below hb22 (Nat.le_refl _)
  clear r1xxxxxxxxxxxxxxxxxxxx
  have HB22 := Lib.hid (bel_trans HB21.out hb22)
  clear hb22
  go_wp2_with fail
  refine (nlen_any A22 3 c22 [0, 0, 1] _ rfl hc22 r22 (isNat_of 18446744073709551616 [0, 0, 1] (by decide) (by decide) (by decide)).all (by decide)).mono ?_
  rw [show blen (nv [0, 0, 1]) = 65 from by decide +kernel]
  rintro e wz ⟨rfl, rfl⟩
  clear r22 hc22
  go_wp2_with fail
  refine (nadd_any (some ⟨ga, oa, none⟩) (some ⟨ga, oa, none⟩) 2 2 c1 c1 [0, 1] [0, 1] _ rfl rfl r1xxxxxxxxxxxxxxxxxxxxx r1xxxxxxxxxxxxxxxxxxxxx (isNat_of 4294967296 [0, 1] (by decide) (by decide) (by decide)).all (isNat_of 4294967296 [0, 1] (by decide) (by decide) (by decide)).all (by decide) (by decide)).mono ?_
  rw [show nv [0, 1] + nv [0, 1] = 8589934592 from by decide]
  rintro e w23 ⟨u23, A23, n23, c23, hn23, hl23, rfl, hc23, r23, -, hb23⟩
  obtain rfl := hn23.eq (isNat_of 8589934592 [0, 2] (by decide) (by decide) (by decide))
  obtain rfl : 2 = n23 := hl23
  clear hn23
  clear r1xxxxxxxxxxxxxxxxxxxxx hc1
  have HB23 := Lib.hid (bel_trans HB22.out hb23)
  clear hb23
  go_wp2_with fail
  refine (nlen_any A23 2 c23 [0, 2] _ rfl hc23 r23 (isNat_of 8589934592 [0, 2] (by decide) (by decide) (by decide)).all (by decide)).mono ?_
  rw [show blen (nv [0, 2]) = 34 from by decide +kernel]
  rintro e wz ⟨rfl, rfl⟩
  clear r23 hc23
  go_wp2_with fail
  go_ret
  exact ⟨rfl, HB23.out⟩
end Go.Proofs.YtckeajjlkpjgjaaDoor
