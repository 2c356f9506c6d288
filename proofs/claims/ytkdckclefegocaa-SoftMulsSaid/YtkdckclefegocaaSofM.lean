/-
  The contract of the reference's Sqrt of floats: it answers what soft's does. Condition: the float is a word.
-/
import Derived.Test.YtkdckclefegocaaSofL
namespace Go.Proofs.Ytkdckclefegocaa
open Go.RowKit
set_option maxRecDepth 100000

def RetSq (p : Int) (w : World) (e : Ending) (w' : World) : Prop := ∃ r x y, 0 ≤ r ∧ r * r ≤ p ∧ p < (r + 1) * (r + 1) ∧ RowV w' x r 64 ∧ RowV w' y (p - r * r) 128 ∧ e = .returned (.tuple #[x, y]) ∧ Below w.heap.size w w'
theorem rsqrtV {w : World} {x : Value} {p : Int} {L : Nat} (h : RowV w x p L) (hL : L ≤ 128) : Calls Try.prog 58 #[x] w (RetSq p w) := by
  obtain ⟨A, n, c, xs, rfl, hn, hc, hr, hv, hl⟩ := h
  refine (rsqrt_any A n c xs w hn hr (by omega)).mono fun e w' r => ?_
  obtain ⟨rs, zs, B, C, k, l, ⟨⟨h0, h1, h2, h3, h4⟩, h5⟩, e1, hk, hl2, r1, r2, hb⟩ := r
  rw [hv] at h1 h2 h4
  exact ⟨val rs, _, _, h0, h1, h2, ⟨B, _, k, rs, rfl, rfl, hk, r1, rfl, by omega⟩, ⟨C, _, l, zs, rfl, rfl, hl2, r2, h4, by omega⟩, e1, hb⟩
theorem ksq_any {a M r E : Int} {j : Nat} (hx : 0 < fX a) (hM : M = fX a * 2 ^ j) (hE : fY a - j = 2 * E) (hE0 : -1000 ≤ E) (hE1 : E ≤ 1000) (hb : 126 ≤ blen M) (hr0 : 0 ≤ r) (h1 : r * r ≤ M) (h2 : M < (r + 1) * (r + 1)) (rest : Bool) (hrest : rest = decide (r * r ≠ M)) (md : Int) (w : World) (v : Value) (hv : RowV w v r 64) :
    Calls Try.prog 43 #[.bool false, v, .int .i64 E, .bool rest, .int .u8 md] w (RetF (rF md false (qN a) (qS a)) (rG md false (qN a) (qS a)) w) := by
  obtain ⟨r0, f, g⟩ := sq_any hx hM hE hE0 hE1 hb hr0 h1 h2 rest hrest md
  have C := hround_pos hv (by decide) r0 false E rest md
  rw [f, g] at C
  exact C

set_option maxHeartbeats 4000000 in
theorem ksqrt_any (a md : Int) (ha : Word a) (w : World) :
    Calls Try.prog 20 #[.int .u64 a, .int .u8 md] w (RetF (rtF md a) (rtG md a) w) := by
  have la := cls_bd a
  by_cases h4 : fC a = 4
  · have na : decide (fC a = 4) = true := decide_eq_true h4
    have e1 : rtF md a = 9221120237041090560 := if_pos h4
    have e2 : rtG md a = 0 := if_pos h4
    rw [e1, e2]
    clear e1 e2
    go_enter Try.func20, Try.ntmps20
    go_wp2_with fail
    refine (kis_any a 4 ha _).mono ?_
    rw [na]
    rintro e w2 ⟨rfl, rfl⟩
    go_wp2_with fail
    go_ret2
    exact ⟨rfl, Below.refl _ _⟩
  · have na : decide (fC a = 4) = false := decide_eq_false h4
    by_cases h0 : fC a = 0
    · have za : decide (fC a = 0) = true := decide_eq_true h0
      have e1 : rtF md a = a := by unfold rtF; rw [if_neg h4, if_pos h0]
      have e2 : rtG md a = 0 := by unfold rtG; rw [if_neg h4, if_pos h0]
      rw [e1, e2]
      clear e1 e2
      go_enter Try.func20, Try.ntmps20
      go_wp2_with fail
      refine (kis_any a 4 ha _).mono ?_
      rw [na]
      rintro e w2 ⟨rfl, rfl⟩
      go_wp2_with fail
      refine (kis_any a 0 ha _).mono ?_
      rw [za]
      rintro e w2 ⟨rfl, rfl⟩
      go_wp2_with fail
      go_ret2
      exact ⟨rfl, Below.refl _ _⟩
    · have za : decide (fC a = 0) = false := decide_eq_false h0
      by_cases hs : fS a = true
      · have e1 : rtF md a = 9221120237041090560 := by unfold rtF; rw [if_neg h4, if_neg h0, if_pos hs]
        have e2 : rtG md a = 16 := by unfold rtG; rw [if_neg h4, if_neg h0, if_pos hs]
        rw [e1, e2]
        clear e1 e2
        go_enter Try.func20, Try.ntmps20
        go_wp2_with fail
        refine (kis_any a 4 ha _).mono ?_
        rw [na]
        rintro e w2 ⟨rfl, rfl⟩
        go_wp2_with fail
        refine (kis_any a 0 ha _).mono ?_
        rw [za]
        rintro e w2 ⟨rfl, rfl⟩
        go_wp2_with fail
        refine (kneg_any a ha _).mono ?_
        rw [hs]
        rintro e w2 ⟨rfl, rfl⟩
        go_wp2_with fail
        go_ret2
        exact ⟨rfl, Below.refl _ _⟩
      · have hs0 : fS a = false := by simpa using hs
        by_cases h3 : fC a = 3
        · have ia : decide (fC a = 3) = true := decide_eq_true h3
          have e1 : rtF md a = a := by unfold rtF; rw [if_neg h4, if_neg h0, if_neg hs, if_pos h3]
          have e2 : rtG md a = 0 := by unfold rtG; rw [if_neg h4, if_neg h0, if_neg hs, if_pos h3]
          rw [e1, e2]
          clear e1 e2
          go_enter Try.func20, Try.ntmps20
          go_wp2_with fail
          refine (kis_any a 4 ha _).mono ?_
          rw [na]
          rintro e w2 ⟨rfl, rfl⟩
          go_wp2_with fail
          refine (kis_any a 0 ha _).mono ?_
          rw [za]
          rintro e w2 ⟨rfl, rfl⟩
          go_wp2_with fail
          refine (kneg_any a ha _).mono ?_
          rw [hs0]
          rintro e w2 ⟨rfl, rfl⟩
          go_wp2_with fail
          refine (kis_any a 3 ha _).mono ?_
          rw [ia]
          rintro e w2 ⟨rfl, rfl⟩
          go_wp2_with fail
          go_ret2
          exact ⟨rfl, Below.refl _ _⟩
        · have ia : decide (fC a = 3) = false := decide_eq_false h3
          have e1 : rtF md a = rF md false (qN a) (qS a) := by unfold rtF; rw [if_neg h4, if_neg h0, if_neg hs, if_neg h3]
          have e2 : rtG md a = rG md false (qN a) (qS a) := by unfold rtG; rw [if_neg h4, if_neg h0, if_neg hs, if_neg h3]
          rw [e1, e2]
          clear e1 e2
          have l3 : fC a < 3 := by omega
          have pa : 0 < fX a := by
            have h1 := (fX_bd (f := a)).1
            have h2 := fX_fin l3
            omega
          have ya := fY_bd a
          have xa := fX_word a
          have SA := Lib.hid (fun w => gsplit_any a ha w)
          have ba := fX_blen a
          obtain ⟨L, hL⟩ : ∃ L : Nat, blen (fX a) = (L : Int) := ⟨(blen (fX a)).toNat, by omega⟩
          have HLx := Lib.hid hL
          have HXL : Hid (fX a < 2 ^ L) := blen_lt xa.1 (by omega)
          have SQ := Lib.hid (fun (M r E : Int) (j : Nat) (hM : M = fX a * 2 ^ j) (hE : fY a - j = 2 * E) (hE0 : -1000 ≤ E) (hE1 : E ≤ 1000) (hb : 126 ≤ blen M) (hr0 : 0 ≤ r) (h1 : r * r ≤ M) (h2 : M < (r + 1) * (r + 1)) (rest : Bool) (hrest : rest = decide (r * r ≠ M)) (w : World) (v : Value) (hv : RowV w v r 64) => ksq_any pa hM hE hE0 hE1 hb hr0 h1 h2 rest hrest md w v hv)
          have lb : 1 ≤ L ∧ L ≤ 64 := by
            obtain ⟨i, e, -, -⟩ := blen_at pa
            omega
          clear ba hL
          generalize rF md false (qN a) (qS a) = F at *
          generalize rG md false (qN a) (qS a) = G at *
          clear la h4 h0 h3 l3
          have two : (fY a - (126 - (L : Int))) % 2 = 0 ∨ (fY a - (126 - (L : Int))) % 2 = 1 := by omega
          rcases two with hp | hp
          · have t0 : (fY a - (126 - (L : Int))).tmod 2 = 0 := by rw [Int.tmod_eq_emod]; split <;> omega
            have t1 : (fY a - (126 - (L : Int))).tdiv 2 = (fY a - (126 - (L : Int))) / 2 := by rw [Int.tdiv_eq_ediv]; split <;> omega
            go_enter Try.func20, Try.ntmps20
            go_wp2_with fail
            refine (kis_any a 4 ha _).mono ?_
            rw [na]
            rintro e w2 ⟨rfl, rfl⟩
            go_wp2_with fail
            refine (kis_any a 0 ha _).mono ?_
            rw [za]
            rintro e w2 ⟨rfl, rfl⟩
            go_wp2_with fail
            refine (kneg_any a ha _).mono ?_
            rw [hs0]
            rintro e w2 ⟨rfl, rfl⟩
            go_wp2_with fail
            refine (kis_any a 3 ha _).mono ?_
            rw [ia]
            rintro e w2 ⟨rfl, rfl⟩
            go_wp2_with fail
            refine (SA.out _).mono ?_
            rintro e w2 ⟨rfl, rfl⟩
            go_wp2_with fail
            refine (kbits_any _ xa _).mono ?_
            rintro e w3 ⟨v3, r3, rfl, hb3⟩
            have HB3 := Lib.hid hb3
            clear hb3
            go_wp2_with fail
            refine (rlenV r3.v (by decide)).mono ?_
            rw [HLx.out]
            rintro e w4 ⟨rfl, rfl⟩
            clear r3
            go_wp2_with fail
            refine (kbits_any _ xa _).mono ?_
            rintro e w5 ⟨v5, r5, rfl, hb5⟩
            have r6 := r5.fit HXL.out
            have HB5 := Lib.hid (bel_trans HB3.out hb5)
            clear hb5 HB3 r5
            go_wp2_with fail
            refine (shlV r6.v (by omega) (by omega) (by omega) 128 (by omega)).mono ?_
            rintro e w6 ⟨v6, r7, rfl, hb6⟩
            have HB6 := Lib.hid (bel_trans HB5.out hb6)
            clear hb6 HB5 r6
            obtain ⟨j, hj⟩ : ∃ j : Nat, ((126 - (L : Int)) : Int).toNat = j := ⟨_, rfl⟩
            rw [hj] at r7
            have hj2 : (j : Int) = (126 - (L : Int)) := by omega
            go_wp2_with fail
            refine (rsqrtV r7 (Nat.le_refl _)).mono ?_
            rintro e w7 ⟨r, vr, vl, h0, h1, h2, rr, rl, rfl, hb7⟩
            have HB7 := Lib.hid (bel_trans HB6.out hb7)
            have MM : Hid (126 ≤ blen (2 ^ j * fX a)) := by
              show _ ≤ _
              rw [Int.mul_comm, blen_mul pa]
              have := HLx.out
              omega
            have l0 := rl.nonneg
            have hrest : decide (0 < blen (2 ^ j * fX a - r * r)) = decide (r * r ≠ 2 ^ j * fX a) := by
              rw [blen_gt l0]
              exact dec_iff ⟨fun h k => h (by omega), fun h k => h (by omega)⟩
            have CC := Lib.hid (SQ.out (2 ^ j * fX a) r ((fY a - (126 - (L : Int))) / 2) j (Int.mul_comm _ _) (by omega) (by omega) (by omega) MM.out h0 h1 h2 (decide (0 < blen (2 ^ j * fX a - r * r))) hrest)
            have LL := Lib.hid (rlenV rl (by decide))
            clear h0 h1 h2 hrest l0 MM HB6 hb7 SQ hj hj2 r7 rl HXL
            generalize blen (2 ^ j * fX a - r * r) = bl at *
            go_wp2_with fail
            refine LL.out.mono ?_
            rintro e w8 ⟨rfl, rfl⟩
            go_wp2_with fail
            refine (CC.out _ _ rr).mono ?_
            rintro e w9 ⟨rfl, hb9⟩
            go_wp2_with fail
            go_ret2
            exact ⟨rfl, bel_trans HB7.out hb9⟩
          · have t2 : ((fY a - (126 - (L : Int))).tmod 2 != 0) = true := by
              have : (fY a - (126 - (L : Int))).tmod 2 ≠ 0 := by rw [Int.tmod_eq_emod]; split <;> omega
              simp [this]
            have t0 : ((fY a - (126 - (L : Int))).tmod 2 == 0) = false := by
              have : (fY a - (126 - (L : Int))).tmod 2 ≠ 0 := by rw [Int.tmod_eq_emod]; split <;> omega
              simp [this]
            have t1 : (fY a - (126 - (L : Int) + 1)).tdiv 2 = (fY a - (126 - (L : Int) + 1)) / 2 := by rw [Int.tdiv_eq_ediv]; split <;> omega
            go_enter Try.func20, Try.ntmps20
            go_wp2_with fail
            refine (kis_any a 4 ha _).mono ?_
            rw [na]
            rintro e w2 ⟨rfl, rfl⟩
            go_wp2_with fail
            refine (kis_any a 0 ha _).mono ?_
            rw [za]
            rintro e w2 ⟨rfl, rfl⟩
            go_wp2_with fail
            refine (kneg_any a ha _).mono ?_
            rw [hs0]
            rintro e w2 ⟨rfl, rfl⟩
            go_wp2_with fail
            refine (kis_any a 3 ha _).mono ?_
            rw [ia]
            rintro e w2 ⟨rfl, rfl⟩
            go_wp2_with fail
            refine (SA.out _).mono ?_
            rintro e w2 ⟨rfl, rfl⟩
            go_wp2_with fail
            refine (kbits_any _ xa _).mono ?_
            rintro e w3 ⟨v3, r3, rfl, hb3⟩
            have HB3 := Lib.hid hb3
            clear hb3
            go_wp2_with fail
            refine (rlenV r3.v (by decide)).mono ?_
            rw [HLx.out]
            rintro e w4 ⟨rfl, rfl⟩
            clear r3
            go_wp2_with fail
            refine (kbits_any _ xa _).mono ?_
            rintro e w5 ⟨v5, r5, rfl, hb5⟩
            have r6 := r5.fit HXL.out
            have HB5 := Lib.hid (bel_trans HB3.out hb5)
            clear hb5 HB3 r5
            go_wp2_with fail
            refine (shlV r6.v (by omega) (by omega) (by omega) 128 (by omega)).mono ?_
            rintro e w6 ⟨v6, r7, rfl, hb6⟩
            have HB6 := Lib.hid (bel_trans HB5.out hb6)
            clear hb6 HB5 r6
            obtain ⟨j, hj⟩ : ∃ j : Nat, ((126 - (L : Int) + 1) : Int).toNat = j := ⟨_, rfl⟩
            rw [hj] at r7
            have hj2 : (j : Int) = (126 - (L : Int) + 1) := by omega
            go_wp2_with fail
            refine (rsqrtV r7 (Nat.le_refl _)).mono ?_
            rintro e w7 ⟨r, vr, vl, h0, h1, h2, rr, rl, rfl, hb7⟩
            have HB7 := Lib.hid (bel_trans HB6.out hb7)
            have MM : Hid (126 ≤ blen (2 ^ j * fX a)) := by
              show _ ≤ _
              rw [Int.mul_comm, blen_mul pa]
              have := HLx.out
              omega
            have l0 := rl.nonneg
            have hrest : decide (0 < blen (2 ^ j * fX a - r * r)) = decide (r * r ≠ 2 ^ j * fX a) := by
              rw [blen_gt l0]
              exact dec_iff ⟨fun h k => h (by omega), fun h k => h (by omega)⟩
            have CC := Lib.hid (SQ.out (2 ^ j * fX a) r ((fY a - (126 - (L : Int) + 1)) / 2) j (Int.mul_comm _ _) (by omega) (by omega) (by omega) MM.out h0 h1 h2 (decide (0 < blen (2 ^ j * fX a - r * r))) hrest)
            have LL := Lib.hid (rlenV rl (by decide))
            clear h0 h1 h2 hrest l0 MM HB6 hb7 SQ hj hj2 r7 rl HXL
            generalize blen (2 ^ j * fX a - r * r) = bl at *
            go_wp2_with fail
            refine LL.out.mono ?_
            rintro e w8 ⟨rfl, rfl⟩
            go_wp2_with fail
            refine (CC.out _ _ rr).mono ?_
            rintro e w9 ⟨rfl, hb9⟩
            go_wp2_with fail
            go_ret2
            exact ⟨rfl, bel_trans HB7.out hb9⟩
end Go.Proofs.Ytkdckclefegocaa
