/-
  Contracts of deci.expand and of the closure of Digits. Conditions: the float is greater than 0 and finite; the listed tables stand.
-/
import Derived.Test.YthofjlgngandoaaGreatDoorDecn
import Derived.Test.YthofjlgngandoaaGreatDoorPlan
namespace Go.Proofs.YthofjlgngandoaaGreatDoor
open Go.RowKit
set_option maxRecDepth 100000

theorem blen_zero_iff {x : Int} (h : 0 ≤ x) : decide (0 < blen x) = decide (x ≠ 0) := by
  rcases Int.lt_or_eq_of_le h with c | c
  · obtain ⟨j, hj, -, -⟩ := blen_at c
    rw [hj, decide_eq_true (by omega), decide_eq_true (by omega)]
  · subst c
    rfl
set_option maxHeartbeats 8000000 in
theorem expand_any (f : Int) (hf : Word f) (hx : 0 < fX f) (hy : fY f ≤ 971) (w : World) :
    Calls Tryz.prog 40 #[.int .u64 f] w (RetV (fun _ v => v = .agg #[.int .u64 (exW (fX f) (fY f)), .int .i64 (exE (fX f) (fY f)), .bool (exR (fX f) (fY f))]) w) := by
  have SP := Lib.hid fun w => split_any f hf w
  have yb := fY_bd f
  have xb := fX_bd (f := f)
  obtain ⟨w0, w1⟩ := exW_bd hx xb.2 yb.1 hy
  have wi := exW_int (e := fY f) hx
  have t := ex_t hx xb.2 yb.1 hy
  have lb := lg_bd t.1 t.2
  have dp := exD_pos (m := fX f) (e := fY f)
  have ET : blen (fX f) - 1 + fY f = exT (fX f) (fY f) := rfl
  have EE : exT (fX f) (fY f) * 78913 / 262144 - 17 = exE (fX f) (fY f) := rfl
  have EL : exE (fX f) (fY f) = lg (exT (fX f) (fY f)) - 17 := rfl
  have eb : -341 ≤ exE (fX f) (fY f) ∧ exE (fX f) (fY f) ≤ 292 := by rw [EL]; omega
  have RR : Hid (exR (fX f) (fY f) = decide (exN (fX f) (fY f) % exD (fX f) (fY f) ≠ 0)) := rfl
  have ND : Hid (exN (fX f) (fY f) = fX f * ((2 : Nat) : Int) ^ (max (fY f) 0).toNat * ((10 : Nat) : Int) ^ (max (-exE (fX f) (fY f)) 0).toNat) := rfl
  have DD : Hid (exD (fX f) (fY f) = ((2 : Nat) : Int) ^ (max (-fY f) 0).toNat * ((10 : Nat) : Int) ^ (max (exE (fX f) (fY f)) 0).toNat) := rfl
  have L64 := Lib.hid fun w => len64w (fX f) ⟨by omega, by omega⟩ w
  have NW := Lib.hid fun w => newV (fX f) ⟨by omega, by omega⟩ w
  have P2 := Lib.hid fun w => epower_any 2 (fY f) (by decide) (by decide) (by omega) w
  have P10 := Lib.hid fun w => epower_any 10 (-exE (fX f) (fY f)) (by decide) (by decide) (by omega) w
  have Q2 := Lib.hid fun w => epower_any 2 (-fY f) (by decide) (by decide) (by omega) w
  have Q10 := Lib.hid fun w => epower_any 10 (exE (fX f) (fY f)) (by decide) (by decide) (by omega) w
  have b0 : 1 ≤ blen (fX f) := by
    obtain ⟨jb, hjb, -, -⟩ := blen_at hx
    omega
  have bb := blen_le2 (k := 53) xb.1 (by rw [show (2 : Int) ^ 53 = 9007199254740992 by decide]; exact xb.2)
  have MR := Lib.hid (Int.emod_nonneg (exN (fX f) (fY f)) (Int.ne_of_gt dp))
  have UV : uintV (exN (fX f) (fY f) / exD (fX f) (fY f)) = exW (fX f) (fY f) ∧ decide (exN (fX f) (fY f) / exD (fX f) (fY f) < 18446744073709551616) = true := by
    rw [← wi]
    have h : ((exW (fX f) (fY f) : Nat) : Int) < 18446744073709551616 := by omega
    exact ⟨if_pos h, decide_eq_true h⟩
  have HUV := Lib.hid UV
  have DP := Lib.hid dp
  clear UV dp EL lb w0 w1 wi
  generalize exW (fX f) (fY f) = W at *
  generalize exR (fX f) (fY f) = R at *
  generalize exN (fX f) (fY f) = NN at *
  generalize exD (fX f) (fY f) = D at *
  generalize exE (fX f) (fY f) = E at *
  generalize exT (fX f) (fY f) = T at *
  generalize fX f = m at *
  generalize fY f = e at *
  generalize blen m = B at *
  have o1 : IntKind.i64.wrap (B - 1) = B - 1 := by rw [IntKind.wrap_i64]; omega
  have o2 : IntKind.i64.wrap (B - 1 + e) = B - 1 + e := by rw [IntKind.wrap_i64]; omega
  rw [ET] at o2
  have o3 : IntKind.i64.wrap (T * 78913) = T * 78913 := by rw [IntKind.wrap_i64]; omega
  have o4 : IntKind.i64.wrap (-E) = -E := by rw [IntKind.wrap_i64]; omega
  have o5 : IntKind.i64.wrap (-e) = -e := by rw [IntKind.wrap_i64]; omega
  obtain ⟨eb0, eb1⟩ := eb
  obtain ⟨yb0, yb1⟩ := yb
  go_enter Tryz.func40, Tryz.ntmps40
  go_wp2_with fail
  refine (SP.out _).mono ?_
  rintro x w1 ⟨rfl, rfl⟩
  go_wp2_with fail
  refine (L64.out _).mono ?_
  rintro x w2 ⟨rfl, rfl⟩
  go_wp2_with fail
  refine (NW.out _).mono ?_
  clear L64 SP o1 o2 o3 ET EE t b0 bb
  rintro x w3 ⟨v1, n1, rfl, hb3⟩
  have K3 := Blk.made hb3
  have HB3 := Lib.hid (bel_trans (bel_alloc (Below.refl w.heap.size w) _) hb3)
  obtain ⟨A1, l1, c1, rfl⟩ := n1.v.form
  clear hb3 NW
  go_wp2_with fail
  refine (P2.out _).mono ?_
  rintro x w4 ⟨v2, n2, rfl, hb4⟩
  have n1' := n1.v.below hb4
  have K4 := K3.below hb4 K3.lt
  have HB4 := Lib.hid (bel_trans HB3.out hb4)
  obtain ⟨A2, l2, c2, rfl⟩ := n2.v.form
  clear hb4 P2 n1 K3 HB3
  go_wp2_with fail
  refine (nmulV n1' n2.v (by decide) (by decide)).mono ?_
  rintro x w5 ⟨v3, n3, rfl, hb5⟩
  have K5 := K4.below hb5 K4.lt
  have HB5 := Lib.hid (bel_trans HB4.out hb5)
  obtain ⟨A3, l3, c3, rfl⟩ := n3.v.form
  clear hb5 n1' n2 K4 HB4
  go_wp2_with fail
  refine (P10.out _).mono ?_
  rintro x w6 ⟨v4, n4, rfl, hb6⟩
  have n3' := n3.v.below hb6
  have K6 := K5.below hb6 K5.lt
  have HB6 := Lib.hid (bel_trans HB5.out hb6)
  obtain ⟨A4, l4, c4, rfl⟩ := n4.v.form
  clear hb6 P10 n3 K5 HB5
  go_wp2_with fail
  refine (nmulV n3' n4.v (by decide) (by decide)).mono ?_
  rintro x w7 ⟨v5, n5, rfl, hb7⟩
  have K7 := K6.below hb7 K6.lt
  have HB7 := Lib.hid (bel_trans HB6.out hb7)
  rw [← ND.out] at n5
  obtain ⟨A5, l5, c5, rfl⟩ := n5.v.form
  clear hb7 n3' n4 K6 HB6 ND
  go_wp2_with fail
  refine (Q2.out _).mono ?_
  rintro x w8 ⟨v6, n6, rfl, hb8⟩
  have n5' := n5.v.below hb8
  have K8 := K7.below hb8 K7.lt
  have HB8 := Lib.hid (bel_trans HB7.out hb8)
  obtain ⟨A6, l6, c6, rfl⟩ := n6.v.form
  clear hb8 Q2 n5 K7 HB7
  go_wp2_with fail
  refine (Q10.out _).mono ?_
  rintro x w9 ⟨v7, n7, rfl, hb9⟩
  have n5'' := n5'.below hb9
  have n6' := n6.v.below hb9
  have K9 := K8.below hb9 K8.lt
  have HB9 := Lib.hid (bel_trans HB8.out hb9)
  obtain ⟨A7, l7, c7, rfl⟩ := n7.v.form
  clear hb9 Q10 n6 n5' K8 HB8
  go_wp2_with fail
  refine (nmulV n6' n7.v (by decide) (by decide)).mono ?_
  rintro x w10 ⟨v8, n8, rfl, hb10⟩
  have n5 := n5''.below hb10
  have K10 := K9.below hb10 K9.lt
  have HB10 := Lib.hid (bel_trans HB9.out hb10)
  rw [← DD.out] at n8
  obtain ⟨A8, l8, c8, rfl⟩ := n8.v.form
  clear hb10 n6' n7 n5'' K9 HB9 DD
  go_wp2_with fail
  refine (ndivV n5 n8.v (by decide) (by decide) (by have := DP.out; omega)).mono ?_
  rintro x w11 ⟨v9, u9, n9, m9, rfl, hb11⟩
  have K11 := K10.below hb11 K10.lt
  have HB11 := Lib.hid (bel_trans HB10.out hb11)
  obtain ⟨A9, l9, c9, rfl⟩ := n9.v.form
  obtain ⟨A10, l10, c10, rfl⟩ := m9.v.form
  clear hb11 n5 n8 K10 HB10
  have UI := nuintV n9.v (by decide)
  rw [HUV.out.1, HUV.out.2] at UI
  have LI := nlenV m9.v (by decide)
  have BZ := blen_zero_iff MR.out
  rw [← RR.out] at BZ
  have UI' := Lib.hid UI
  have LI' := Lib.hid LI
  clear UI LI HUV MR DP RR n9 m9
  generalize blen (NN % D) = BL at *
  go_wp2_with fail
  refine UI'.out.mono ?_
  rintro x w12 ⟨rfl, rfl⟩
  go_wp2_with fail
  refine LI'.out.mono ?_
  rintro x w12 ⟨rfl, rfl⟩
  clear UI' LI'
  obtain ⟨c0, c1, c2, f0, f1, f2⟩ := K11.three
  go_wp2_with fail
  have K12 := K11.put3 (.int .u64 (W : Int)) (.int .i64 E) (.bool R)
  have HB12 := Lib.hid (bel_put3 HB11.out (Nat.le_refl _) (.int .u64 (W : Int)) (.int .i64 E) (.bool R))
  unfold wput at K12 HB12
  obtain ⟨q0, q1, q2, -, -, -⟩ := K12.three
  refine bodyPost_ret (by simp [results, Tryz.results40, go_sem, q0, q1, q2]; (try rfl)) rfl ⟨_, rfl, rfl, HB12.out⟩
theorem kpd3 {W w1 : World} {p0 p1 p2 : Addr} {a0 a1 a2 : Value} (hb : Below W.heap.size W w1) (h0 : W.cell? p0 = some a0) (h1 : W.cell? p1 = some a1) (h2 : W.cell? p2 = some a2) :
    w1.cell? p0 = some a0 ∧ w1.cell? p1 = some a1 ∧ w1.cell? p2 = some a2 :=
  ⟨(hb.cell (World.block_lt_of_cell? _ _ h0)).trans h0, (hb.cell (World.block_lt_of_cell? _ _ h1)).trans h1, (hb.cell (World.block_lt_of_cell? _ _ h2)).trans h2⟩
set_option maxHeartbeats 4000000 in
theorem pass_any (s : ByteArray) (e f : Int) (g : Nat) (w : World) (hs : s.size ≤ 2000) (hd : digB s.data.toList = true) (he : -3000 ≤ e) (he' : e ≤ 3000) (hc : w.cell? ⟨g, 0, none⟩ = some (.int .u64 f)) :
    Calls Tryz.prog 42 #[.agg #[.string s, .int .i64 e], .pointer (some ⟨g, 0, none⟩)] w fun x w' => x = .returned (.bool (nearV s.data.toList e == f)) ∧ Below w.heap.size w w' := by
  have NR := Lib.hid fun w => nearest_any s e w hs hd he he'
  generalize nearV s.data.toList e = r at *
  have K0 := Blk.new w 70 #[.string s, .int .i64 e]
  have lt := World.block_lt_of_cell? _ _ hc
  have c2 : (w.alloc (.cells #[.string s, .int .i64 e] 70)).cell? ⟨g, 0, none⟩ = some (.int .u64 f) := by
    rw [World.cell?_alloc_past _ _ _ lt]
    exact hc
  obtain ⟨c0, c1, -, -⟩ := K0.two
  have HB1 := Lib.hid (bel_alloc (Below.refl w.heap.size w) (.cells #[.string s, .int .i64 e] 70))
  clear hc lt K0
  go_enter Tryz.func42, Tryz.ntmps42
  go_upto_region 1 with fail
  obtain ⟨w1, hw1⟩ : ∃ v, v = w.alloc (.cells #[.string s, .int .i64 e] 70) := ⟨_, rfl⟩
  rw [← hw1] at c0 c1 c2 HB1 ⊢
  clear hw1
  obtain ⟨b, hb⟩ : ∃ b, w.heap.size = b := ⟨_, rfl⟩
  rw [hb] at c0 c1 ⊢
  clear hb
  have HK : Hid (∀ w', Below w1.heap.size w1 w' → (w'.cell? ⟨b, 0, none⟩ = some (.string s) ∧ w'.cell? ⟨b, 1, none⟩ = some (.int .i64 e) ∧ w'.cell? ⟨g, 0, none⟩ = some (.int .u64 f))) := fun w' hb => kpd3 hb c0 c1 c2
  clear c0 c1 c2
  refine region_plan (S := fun w' => w'.cell? ⟨b, 0, none⟩ = some (.string s) ∧ w'.cell? ⟨b, 1, none⟩ = some (.int .i64 e) ∧ w'.cell? ⟨g, 0, none⟩ = some (.int .u64 f)) _ [(0, true), (2, true), (1, false), (3, true), (4, true)] (by kernel_rfl) (by kernel_rfl) rfl (by kernel_rfl) (by kernel_rfl) (fun _ _ d _ _ h => by cases d <;> exact h) (HK.out _ (bel_drew (Below.refl _ _))) ?_
  refine Walk.take (v := ?_) rfl (by rfl) ?_ ?_
  rotate_left
  · (intro w' hSw; (try dsimp only at hSw); go_simp <;> with_reducible rfl)
  try simp only [Act.put, List.setIfInBounds_toArray, List.set_cons_zero, List.set_cons_succ]
  refine Walk.take (v := ?_) rfl (by rfl) ?_ ?_
  rotate_left
  · (intro w' hSw; (try dsimp only at hSw); go_simp <;> with_reducible rfl)
  try simp only [Act.put, List.setIfInBounds_toArray, List.set_cons_zero, List.set_cons_succ]
  refine Walk.act rfl (by rfl) (fun K hK => ?_)
  go_simp
  go_at_call 36
  refine (NR.out w1.drew).mono ?_
  rintro x t1 ⟨rfl, hh1⟩
  have X1 : Below w1.heap.size w1 t1 := bel_trans (bel_drew (Below.refl w1.heap.size w1)) hh1
  refine hK.out _ _ (HK.out _ X1) ?_
  clear hK K
  try simp only [Act.put, List.setIfInBounds_toArray, List.set_cons_zero, List.set_cons_succ]
  refine Walk.take (v := ?_) rfl (by rfl) ?_ ?_
  rotate_left
  · (intro w' hSw; (try dsimp only at hSw); go_simp <;> with_reducible rfl)
  try simp only [Act.put, List.setIfInBounds_toArray, List.set_cons_zero, List.set_cons_succ]
  refine Walk.take (v := ?_) rfl (by rfl) ?_ ?_
  rotate_left
  · (intro w' hSw; (try dsimp only at hSw); go_simp <;> with_reducible rfl)
  try simp only [Act.put, List.setIfInBounds_toArray, List.set_cons_zero, List.set_cons_succ]
  refine Walk.done ?_
  clear HK
  have HB9 := Lib.hid (bel_trans HB1.out X1)
  clear X1 HB1
  go_wp2_with fail
  go_ret
  exact ⟨rfl, HB9.out⟩
end Go.Proofs.YthofjlgngandoaaGreatDoor
