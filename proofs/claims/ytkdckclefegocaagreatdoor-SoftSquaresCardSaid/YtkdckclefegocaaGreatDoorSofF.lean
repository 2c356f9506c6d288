/-
  The contract of soft's Sqrt, of any float. Conditions: the float is a word.
-/
import Derived.Test.YtkdckclefegocaaGreatDoorSofE
namespace Go.Proofs.YtkdckclefegocaaGreatDoor
open Go.RowKit
set_option maxRecDepth 100000

/-- The root of any float, and its flags. -/
def rtF (md a : Int) : Int := if fC a = 4 then 9221120237041090560 else if fC a = 0 then a else if fS a = true then 9221120237041090560 else if fC a = 3 then a else rF md false (qN a) (qS a)
def rtG (md a : Int) : Int := if fC a = 4 then 0 else if fC a = 0 then 0 else if fS a = true then 16 else if fC a = 3 then 0 else rG md false (qN a) (qS a)

theorem tw (a : Int) (n : Nat) : a * (2 ^ n * 2 ^ n) = a * 2 ^ (n + n) := by rw [Int.pow_add]
/-- A root of an integer of 126 bits or more, rounded. -/
theorem sq_any {a M r E : Int} {j : Nat} (hx : 0 < fX a) (hM : M = fX a * 2 ^ j) (hE : fY a - j = 2 * E) (hE0 : -1000 ≤ E) (hE1 : E ≤ 1000) (hb : 126 ≤ blen M) (hr0 : 0 ≤ r) (h1 : r * r ≤ M) (h2 : M < (r + 1) * (r + 1)) (rest : Bool) (hrest : rest = decide (r * r ≠ M)) (md : Int) :
    0 < r ∧ rF md false (rN r (eP (eC E)) (eQ (eC E))) (rS r (eP (eC E)) (eQ (eC E)) (rest && decide (54 ≤ blen r))) = rF md false (qN a) (qS a) ∧
      rG md false (rN r (eP (eC E)) (eQ (eC E))) (rS r (eP (eC E)) (eQ (eC E)) (rest && decide (54 ≤ blen r))) = rG md false (qN a) (qS a) := by
  rw [eC_small (by omega) (by omega)]
  have hQ : eQ E = 0 := by unfold eQ; omega
  rw [hQ]
  have hA : qA a = M * (2 ^ eP E * 2 ^ eP E) := by
    unfold qA
    rw [hM, tw, Int.mul_assoc, ← Int.pow_add]
    congr 2
    unfold eP
    omega
  have hbig : 9007199254740992 ≤ r := by
    have hM0 : 0 < M := by rw [hM]; exact Int.mul_pos hx (pow_pos' j)
    obtain ⟨i, e1, e2, e3⟩ := blen_at hM0
    have e4 := pow_mono 125 i (by omega)
    rcases Int.lt_or_le r 9007199254740992 with h | h
    · exfalso
      have s := sq_le (show 0 ≤ r + 1 by omega) (show r + 1 ≤ 9007199254740992 by omega)
      have e5 : (9007199254740992 : Int) * 9007199254740992 ≤ 2 ^ 125 := by decide
      omega
    · exact h
  obtain ⟨n0, n1, n2⟩ := qN_is a
  obtain ⟨f, g⟩ := root_round hA hr0 h1 h2 n0 n1 n2 (blen_big hbig) rest hrest md false
  exact ⟨by omega, f, g⟩
theorem sqr_any {a M r E : Int} {j : Nat} (hx : 0 < fX a) (hM : M = fX a * 2 ^ j) (hE : fY a - j = 2 * E) (hE0 : -1000 ≤ E) (hE1 : E ≤ 1000) (hb : 126 ≤ blen M) (wr : Word r) (h1 : r * r ≤ M) (h2 : M < (r + 1) * (r + 1)) (rest : Bool) (hrest : rest = decide (r * r ≠ M)) (md : Int) (w : World) :
    Calls Tryz.prog 33 #[.bool false, .agg #[.int .u64 0, .int .u64 r], .int .i64 E, .bool rest, .int .u8 md] w (RetF (rF md false (qN a) (qS a)) (rG md false (qN a) (qS a)) w) := by
  obtain ⟨r0, f, g⟩ := sq_any hx hM hE hE0 hE1 hb wr.1 h1 h2 rest hrest md
  have C := round_pos false 0 r E rest md ⟨by decide, by decide⟩ wr (by rw [V2_low]; exact r0) w _ _ rfl rfl
  rw [V2_low, f, g] at C
  exact C
theorem blen_gt {x : Int} (h : 0 ≤ x) : decide (0 < blen x) = decide (x ≠ 0) := by
  refine dec_iff ?_
  rcases Int.lt_or_eq_of_le h with k | k
  · obtain ⟨j, e, -, -⟩ := blen_at k
    omega
  · rw [← k, blen_nought]
    omega

set_option maxHeartbeats 4000000 in
theorem ssqrt_any (a md : Int) (ha : Word a) (w : World) :
    Calls Tryz.prog 15 #[.int .u64 a, .int .u8 md] w (RetF (rtF md a) (rtG md a) w) := by
  have la := cls_bd a
  by_cases h4 : fC a = 4
  · have nn : decide (fC a = 4) = true := decide_eq_true h4
    have e1 : rtF md a = 9221120237041090560 := if_pos h4
    have e2 : rtG md a = 0 := if_pos h4
    rw [e1, e2]
    clear e1 e2
    go_enter Tryz.func15, Tryz.ntmps15
    go_wp2_with fail
    refine (nan1 ha _ _ _).mono ?_
    rw [nn]
    rintro e w1 ⟨rfl, hb1⟩
    have HB := Lib.hid (bel_trans (bel_alloc (Below.refl _ _) _) hb1)
    clear hb1
    go_wp2_with fail
    refine (quiet_f _).mono ?_
    rintro e w2 ⟨rfl, rfl⟩
    go_wp2_with fail
    go_ret2
    exact ⟨rfl, HB.out⟩
  · have nn : decide (fC a = 4) = false := decide_eq_false h4
    by_cases h0 : fC a = 0
    · have za : decide (fC a = 0) = true := decide_eq_true h0
      have e1 : rtF md a = a := by unfold rtF; rw [if_neg h4, if_pos h0]
      have e2 : rtG md a = 0 := by unfold rtG; rw [if_neg h4, if_pos h0]
      rw [e1, e2]
      clear e1 e2
      go_enter Tryz.func15, Tryz.ntmps15
      go_wp2_with fail
      refine (nan1 ha _ _ _).mono ?_
      rw [nn]
      rintro e w1 ⟨rfl, hb1⟩
      have HB := Lib.hid (bel_trans (bel_alloc (Below.refl _ _) _) hb1)
      clear hb1
      go_wp2_with fail
      refine (szero_any a ha _).mono ?_
      rw [za]
      rintro e w2 ⟨rfl, rfl⟩
      go_wp2_with fail
      go_ret2
      exact ⟨rfl, HB.out⟩
    · have za : decide (fC a = 0) = false := decide_eq_false h0
      by_cases hs : fS a = true
      · have e1 : rtF md a = 9221120237041090560 := by unfold rtF; rw [if_neg h4, if_neg h0, if_pos hs]
        have e2 : rtG md a = 16 := by unfold rtG; rw [if_neg h4, if_neg h0, if_pos hs]
        rw [e1, e2]
        clear e1 e2
        go_enter Tryz.func15, Tryz.ntmps15
        go_wp2_with fail
        refine (nan1 ha _ _ _).mono ?_
        rw [nn]
        rintro e w1 ⟨rfl, hb1⟩
        have HB := Lib.hid (bel_trans (bel_alloc (Below.refl _ _) _) hb1)
        clear hb1
        go_wp2_with fail
        refine (szero_any a ha _).mono ?_
        rw [za]
        rintro e w2 ⟨rfl, rfl⟩
        go_wp2_with fail
        refine (sneg_any a ha _).mono ?_
        rw [hs]
        rintro e w2 ⟨rfl, rfl⟩
        go_wp2_with fail
        refine (invalid_any _).mono ?_
        rintro e w2 ⟨rfl, rfl⟩
        go_wp2_with fail
        go_ret2
        exact ⟨rfl, HB.out⟩
      · have hs0 : fS a = false := by simpa using hs
        by_cases h3 : fC a = 3
        · have ia : decide (fC a = 3) = true := decide_eq_true h3
          have e1 : rtF md a = a := by unfold rtF; rw [if_neg h4, if_neg h0, if_neg hs, if_pos h3]
          have e2 : rtG md a = 0 := by unfold rtG; rw [if_neg h4, if_neg h0, if_neg hs, if_pos h3]
          rw [e1, e2]
          clear e1 e2
          go_enter Tryz.func15, Tryz.ntmps15
          go_wp2_with fail
          refine (nan1 ha _ _ _).mono ?_
          rw [nn]
          rintro e w1 ⟨rfl, hb1⟩
          have HB := Lib.hid (bel_trans (bel_alloc (Below.refl _ _) _) hb1)
          clear hb1
          go_wp2_with fail
          refine (szero_any a ha _).mono ?_
          rw [za]
          rintro e w2 ⟨rfl, rfl⟩
          go_wp2_with fail
          refine (sneg_any a ha _).mono ?_
          rw [hs0]
          rintro e w2 ⟨rfl, rfl⟩
          go_wp2_with fail
          refine (sinf_any a ha _).mono ?_
          rw [ia]
          rintro e w2 ⟨rfl, rfl⟩
          go_wp2_with fail
          go_ret2
          exact ⟨rfl, HB.out⟩
        · have ia : decide (fC a = 3) = false := decide_eq_false h3
          have e1 : rtF md a = rF md false (qN a) (qS a) := by unfold rtF; rw [if_neg h4, if_neg h0, if_neg hs, if_neg h3]
          have e2 : rtG md a = rG md false (qN a) (qS a) := by unfold rtG; rw [if_neg h4, if_neg h0, if_neg hs, if_neg h3]
          rw [e1, e2]
          clear e1 e2
          have l3 : fC a < 3 := by omega
          have pa : 0 < fX a := by
            have h1 := (fX_bd (f := a)).1
            have h2 := fX_fin l3
            omega
          have ya := fY_bd a
          have ba := fX_blen a
          have bm := blen_pow_mul pa ba.2
          obtain ⟨j, hj⟩ : ∃ j : Nat, (128 - blen (fX a)).toNat = j := ⟨_, rfl⟩
          have hj2 : 128 - blen (fX a) = (j : Int) := by omega
          have WA := widest_any a ha
          unfold IsWidest at WA
          rw [hj, hj2] at WA
          rw [hj] at bm
          have HWA := Lib.hid WA
          have SQ := Lib.hid (fun (M r E : Int) (j : Nat) (hM : M = fX a * 2 ^ j) (hE : fY a - j = 2 * E) (hE0 : -1000 ≤ E) (hE1 : E ≤ 1000) (hb : 126 ≤ blen M) (wr : Word r) (h1 : r * r ≤ M) (h2 : M < (r + 1) * (r + 1)) (rest : Bool) (hrest : rest = decide (r * r ≠ M)) (w : World) => sqr_any pa hM hE hE0 hE1 hb wr h1 h2 rest hrest md w)
          have HBM := Lib.hid bm
          clear WA bm
          generalize rF md false (qN a) (qS a) = F at *
          generalize rG md false (qN a) (qS a) = G at *
          obtain ⟨eA, heA⟩ : ∃ e, fY a - (j : Int) = e := ⟨_, rfl⟩
          rw [heA] at HWA
          have ebd : -1300 ≤ eA ∧ eA ≤ 1000 := by omega
          have hj1 : 64 ≤ j := by omega
          clear ba hj hj2
          have two : eA % 2 = 0 ∨ eA % 2 = 1 := by omega
          rcases two with hp | hp
          · have t0 : eA.tmod 2 = 0 := by rw [Int.tmod_eq_emod]; split <;> omega
            have t1 : eA.tdiv 2 = eA / 2 := by rw [Int.tdiv_eq_ediv]; split <;> omega
            go_enter Tryz.func15, Tryz.ntmps15
            go_wp2_with fail
            refine (nan1 ha _ _ _).mono ?_
            rw [nn]
            rintro e w1 ⟨rfl, hb1⟩
            have HB := Lib.hid (bel_trans (bel_alloc (Below.refl _ _) _) hb1)
            clear hb1
            go_wp2_with fail
            refine (szero_any a ha _).mono ?_
            rw [za]
            rintro e w2 ⟨rfl, rfl⟩
            go_wp2_with fail
            refine (sneg_any a ha _).mono ?_
            rw [hs0]
            rintro e w2 ⟨rfl, rfl⟩
            go_wp2_with fail
            refine (sinf_any a ha _).mono ?_
            rw [ia]
            rintro e w2 ⟨rfl, rfl⟩
            go_wp2_with fail
            refine (HWA.out _).mono ?_
            rintro e w3 ⟨v, ⟨h3, l3, wh3, wl3, hv3, rfl⟩, rfl, hb3⟩
            have HV := Lib.hid hv3
            have HBX := Lib.hid (bel_alloc (bel_trans HB.out hb3) (.cells #[.int .u64 h3, .int .u64 l3] 58))
            have K3 := Blk.new w3 58 #[.int .u64 h3, .int .u64 l3]
            obtain ⟨c0, c1, f0, f1⟩ := K3.two
            simp at c0 c1 f0 f1
            clear hv3 hb3 HB K3
            go_wp2_with fail
            refine (sqrt2 h3 l3 wh3 wl3 _).mono ?_
            rintro e w5 ⟨v, ⟨r, hr, lr, wr, whr, wlr, r1, r2, r3, rfl⟩, rfl, hb5⟩
            have HB5 := Lib.hid (bel_alloc (bel_trans HBX.out hb5) (.cells #[.int .u64 hr, .int .u64 lr] 58))
            have K5 := Blk.new w5 58 #[.int .u64 hr, .int .u64 lr]
            have nn0 := (V2_pos whr wlr).1
            have LN := fun (w : World) => len2 hr lr whr wlr w
            have hrest : decide (0 < blen (V2 hr lr)) = decide (r * r ≠ V2 h3 l3) := by
              rw [blen_gt nn0, r3]
              exact dec_iff ⟨fun h k => h (by omega), fun h k => h (by omega)⟩
            have CC := Lib.hid (SQ.out (V2 h3 l3) r (eA / 2) j HV.out (by omega) (by omega) (by omega) (by rw [HV.out, HBM.out]; decide) wr r1 r2 (decide (0 < blen (V2 hr lr))) hrest)
            clear r1 r2 r3 hb5 hrest SQ HV HBM HBX
            generalize blen (V2 hr lr) = bl at *
            have HLN := Lib.hid LN
            clear LN
            obtain ⟨d0, d1, -, -⟩ := K5.two
            simp at d0 d1
            clear K5
            go_wp2_with fail
            refine (HLN.out _).mono ?_
            rintro e w6 ⟨rfl, hb6⟩
            have HB6 := Lib.hid (bel_trans HB5.out hb6)
            go_wp2_with fail
            refine (CC.out _).mono ?_
            rintro e w7 ⟨rfl, hb7⟩
            go_wp2_with fail
            go_ret2
            exact ⟨rfl, bel_trans HB6.out hb7⟩
          · obtain ⟨i, rfl⟩ : ∃ i, j = i + 1 := ⟨j - 1, by omega⟩
            have t0 : (eA.tmod 2 == 0) = false := by
              have : eA.tmod 2 ≠ 0 := by rw [Int.tmod_eq_emod]; split <;> omega
              simp [this]
            have t2 : (eA.tmod 2 != 0) = true := by
              have : eA.tmod 2 ≠ 0 := by rw [Int.tmod_eq_emod]; split <;> omega
              simp [this]
            have t1 : (eA + 1).tdiv 2 = (eA + 1) / 2 := by rw [Int.tdiv_eq_ediv]; split <;> omega
            go_enter Tryz.func15, Tryz.ntmps15
            go_wp2_with fail
            refine (nan1 ha _ _ _).mono ?_
            rw [nn]
            rintro e w1 ⟨rfl, hb1⟩
            have HB := Lib.hid (bel_trans (bel_alloc (Below.refl _ _) _) hb1)
            clear hb1
            go_wp2_with fail
            refine (szero_any a ha _).mono ?_
            rw [za]
            rintro e w2 ⟨rfl, rfl⟩
            go_wp2_with fail
            refine (sneg_any a ha _).mono ?_
            rw [hs0]
            rintro e w2 ⟨rfl, rfl⟩
            go_wp2_with fail
            refine (sinf_any a ha _).mono ?_
            rw [ia]
            rintro e w2 ⟨rfl, rfl⟩
            go_wp2_with fail
            refine (HWA.out _).mono ?_
            rintro e w3 ⟨v, ⟨h3, l3, wh3, wl3, hv3, rfl⟩, rfl, hb3⟩
            have g3 : w.heap.size ≤ w3.heap.size := Nat.le_trans HB.out.size hb3.size
            have HV3 := Lib.hid hv3
            have HB3 := Lib.hid (bel_alloc (bel_trans HB.out hb3) (.cells #[.int .u64 h3, .int .u64 l3] 58))
            have K3 := Blk.new w3 58 #[.int .u64 h3, .int .u64 l3]
            obtain ⟨c0, c1, f0, f1⟩ := K3.two
            simp at c0 c1 f0 f1
            clear hv3 hb3 HB
            go_wp2_with fail
            refine (shr2 h3 l3 1 wh3 wl3 (by decide) _).mono ?_
            rintro e w4 ⟨v, ⟨h4', l4, wh4, wl4, hv4, rfl⟩, rfl, hb4⟩
            have K4 := K3.below hb4 K3.lt
            have HB4 := Lib.hid (bel_trans HB3.out hb4)
            have K4' := K4.put2 (.int .u64 h4') (.int .u64 l4)
            have HBX := Lib.hid (bel_put2 HB4.out (g := w3.heap.size) g3 (.int .u64 h4') (.int .u64 l4))
            have HV : Hid (V2 h4' l4 = fX a * 2 ^ i) := by
              show _ = _
              rw [hv4, HV3.out, Int.pow_succ, ← Int.mul_assoc, show (2 : Int) ^ (1 : Int).toNat = 2 by decide]
              exact Int.mul_ediv_cancel _ (by decide)
            have HBM2 : Hid (126 ≤ blen (V2 h4' l4)) := by
              have e1 := HBM.out
              show _ ≤ _
              rw [HV.out]
              rw [Int.pow_succ, ← Int.mul_assoc, show fX a * 2 ^ i * 2 = fX a * 2 ^ i * 2 ^ 1 by rfl, blen_mul (Int.mul_pos pa (pow_pos' i))] at e1
              omega
            clear c0 c1 f0 f1 hv4 hb4
            obtain ⟨c0, c1, f0, f1⟩ := K4.two
            obtain ⟨c2, c3, f2, f3⟩ := K4'.two
            clear HV3 HB3 K3 K4 K4' HB4
            go_wp2_with fail
            unfold wput2 at c2 c3 HBX
            generalize ((w4.setCell _ _).setCell _ _ : World) = wx at *
            clear c0 c1 f0 f1
            go_wp2_with fail
            refine (sqrt2 h4' l4 wh4 wl4 _).mono ?_
            rintro e w5 ⟨v, ⟨r, hr, lr, wr, whr, wlr, r1, r2, r3, rfl⟩, rfl, hb5⟩
            have HB5 := Lib.hid (bel_alloc (bel_trans HBX.out hb5) (.cells #[.int .u64 hr, .int .u64 lr] 58))
            have K5 := Blk.new w5 58 #[.int .u64 hr, .int .u64 lr]
            have nn0 := (V2_pos whr wlr).1
            have LN := fun (w : World) => len2 hr lr whr wlr w
            have hrest : decide (0 < blen (V2 hr lr)) = decide (r * r ≠ V2 h4' l4) := by
              rw [blen_gt nn0, r3]
              exact dec_iff ⟨fun h k => h (by omega), fun h k => h (by omega)⟩
            have CC := Lib.hid (SQ.out (V2 h4' l4) r ((eA + 1) / 2) i HV.out (by omega) (by omega) (by omega) HBM2.out wr r1 r2 (decide (0 < blen (V2 hr lr))) hrest)
            clear r1 r2 r3 hb5 hrest SQ HV HBM HBX
            generalize blen (V2 hr lr) = bl at *
            have HLN := Lib.hid LN
            clear LN
            obtain ⟨d0, d1, -, -⟩ := K5.two
            simp at d0 d1
            clear K5
            go_wp2_with fail
            refine (HLN.out _).mono ?_
            rintro e w6 ⟨rfl, hb6⟩
            have HB6 := Lib.hid (bel_trans HB5.out hb6)
            go_wp2_with fail
            refine (CC.out _).mono ?_
            rintro e w7 ⟨rfl, hb7⟩
            go_wp2_with fail
            go_ret2
            exact ⟨rfl, bel_trans HB6.out hb7⟩
end Go.Proofs.YtkdckclefegocaaGreatDoor
