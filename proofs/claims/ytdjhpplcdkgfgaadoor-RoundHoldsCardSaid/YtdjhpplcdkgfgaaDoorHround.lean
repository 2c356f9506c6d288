/-
  The reference of layer 5: contracts of Signed, Round and Exact. Conditions: rows of not too many bits.
-/
import Derived.Test.YtdjhpplcdkgfgaaDoorHmagw
namespace Go.Proofs.YtdjhpplcdkgfgaaDoor
open Go.RowKit
set_option maxRecDepth 100000

theorem away_turn1 (n : Int) (s : Bool) : rAway 2 false n s = rAway 1 true n s := by simp [rAway]
theorem away_turn2 (n : Int) (s : Bool) : rAway 1 false n s = rAway 2 true n s := by simp [rAway]
theorem away_neg {md n : Int} {s : Bool} (h1 : ¬ md = 1) (h2 : ¬ md = 2) : rAway md false n s = rAway md true n s := by simp [rAway, h1, h2]
theorem bey_turn1 : rBey 2 false = rBey 1 true := by decide
theorem bey_turn2 : rBey 1 false = rBey 2 true := by decide
theorem bey_neg {md : Int} (h1 : ¬ md = 1) (h2 : ¬ md = 2) : rBey md false = rBey md true := by simp [rBey, h1, h2]
theorem turn {md md' n : Int} {s : Bool} (h1 : rAway md' false n s = rAway md true n s) (h2 : rBey md' false = rBey md true) : rMag md' false n s = rMag md true n s ∧ rG md' false n s = rG md true n s := by
  have hk : rKey md' false n s = rKey md true n s := by unfold rKey; rw [h1]
  unfold rMag rG
  rw [hk, h2]
  exact ⟨rfl, rfl⟩
theorem of_pos {k : Int} (h : 0 ≤ k) : fOf k false = k + sg false := by
  unfold fOf sg
  rw [if_neg (by intro h2; rcases h2 with h2 | h2; omega; exact absurd h2.2 (by decide))]
  simp
theorem of_min {k : Int} (h : 0 ≤ k) : fOf (-k) true = k + sg true := by
  unfold fOf sg
  rw [if_pos (by rcases Int.lt_or_eq_of_le h with h2 | h2; exact .inl (by omega); exact .inr ⟨by omega, rfl⟩)]
  simp

set_option maxHeartbeats 4000000 in
theorem hsigned_any {w : World} {v : Value} {n : Int} {s : Bool} {L : Nat} (hx : XV w v n s L) (hL : L ≤ 65536) (neg : Bool) (md : Int) : Calls Tryd.prog 42 #[.bool neg, v, .int .u8 md] w (RetF (rF md neg n s) (rG md neg n s) w) := by
  have hn := hx.nonneg
  have hx' := hx
  obtain ⟨ya, yb, a, b, E, r, rfl, h2, h3, h4⟩ := hx'
  obtain ⟨A, na, ca, rfl⟩ := h2.form
  obtain ⟨B, nb, cb, rfl⟩ := h3.form
  clear h2 h3 h4
  cases neg
  · have bd := rMag_bd (md := md) (neg := false) (s := s) hn
    have e1 := Lib.hid (of_pos bd.1)
    have MC := Lib.hid (fun W (h : XV W (.agg #[.slice A na ca, .slice B nb cb, .int .i64 E, .bool r]) n s L) => hmag_any h hL md)
    go_enter Tryd.func42, Tryd.ntmps42
    go_wp2_with fail
    refine (MC.out _ (hx.below (bel_alloc (Below.refl _ _) _))).mono ?_
    rintro x w1 ⟨rfl, hb1⟩
    go_wp2_with fail
    refine (gof_any (rMag md false n s) false (by omega) (by omega) _).mono ?_
    rintro x w2 ⟨rfl, rfl⟩
    go_wp2_with fail
    go_ret2
    exact ⟨ret_two e1.out rfl, bel_trans (bel_alloc (Below.refl _ _) _) hb1⟩
  · by_cases hm1 : md = 1
    · subst hm1
      obtain ⟨t1, t2⟩ := turn (away_turn1 n s) bey_turn1
      have MC := fun W (h : XV W (.agg #[.slice A na ca, .slice B nb cb, .int .i64 E, .bool r]) n s L) => hmag_any h hL 2
      rw [t1, t2] at MC
      have MC' := Lib.hid MC
      clear MC t1 t2
      have bd := rMag_bd (md := 1) (neg := true) (s := s) hn
      have e1 := Lib.hid (of_min bd.1)
      go_enter Tryd.func42, Tryd.ntmps42
      go_wp2_with fail
      refine (MC'.out _ (hx.below (bel_alloc (Below.refl _ _) _))).mono ?_
      rintro x w1 ⟨rfl, hb1⟩
      go_wp2_with fail
      refine (gof_any (-rMag 1 true n s) true (by omega) (by omega) _).mono ?_
      rintro x w2 ⟨rfl, rfl⟩
      go_wp2_with fail
      go_ret2
      exact ⟨ret_two e1.out rfl, bel_trans (bel_alloc (Below.refl _ _) _) hb1⟩
    · by_cases hm2 : md = 2
      · subst hm2
        obtain ⟨t1, t2⟩ := turn (away_turn2 n s) bey_turn2
        have MC := fun W (h : XV W (.agg #[.slice A na ca, .slice B nb cb, .int .i64 E, .bool r]) n s L) => hmag_any h hL 1
        rw [t1, t2] at MC
        have MC' := Lib.hid MC
        clear MC t1 t2
        have bd := rMag_bd (md := 2) (neg := true) (s := s) hn
        have e1 := Lib.hid (of_min bd.1)
        go_enter Tryd.func42, Tryd.ntmps42
        go_wp2_with fail
        refine (MC'.out _ (hx.below (bel_alloc (Below.refl _ _) _))).mono ?_
        rintro x w1 ⟨rfl, hb1⟩
        go_wp2_with fail
        refine (gof_any (-rMag 2 true n s) true (by omega) (by omega) _).mono ?_
        rintro x w2 ⟨rfl, rfl⟩
        go_wp2_with fail
        go_ret2
        exact ⟨ret_two e1.out rfl, bel_trans (bel_alloc (Below.refl _ _) _) hb1⟩
      · obtain ⟨t1, t2⟩ := turn (away_neg (n := n) (s := s) hm1 hm2) (bey_neg hm1 hm2)
        have MC := fun W (h : XV W (.agg #[.slice A na ca, .slice B nb cb, .int .i64 E, .bool r]) n s L) => hmag_any h hL md
        rw [t1, t2] at MC
        have MC' := Lib.hid MC
        clear MC t1 t2
        have bd := rMag_bd (md := md) (neg := true) (s := s) hn
        have e1 := Lib.hid (of_min bd.1)
        have z1 : (md == 1) = false := by simp [hm1]
        have z2 : (md == 2) = false := by simp [hm2]
        go_enter Tryd.func42, Tryd.ntmps42
        go_wp2_with fail
        refine (MC'.out _ (hx.below (bel_alloc (Below.refl _ _) _))).mono ?_
        rintro x w1 ⟨rfl, hb1⟩
        go_wp2_with fail
        refine (gof_any (-rMag md true n s) true (by omega) (by omega) _).mono ?_
        rintro x w2 ⟨rfl, rfl⟩
        go_wp2_with fail
        go_ret2
        exact ⟨ret_two e1.out rfl, bel_trans (bel_alloc (Below.refl _ _) _) hb1⟩

/-- A fraction of the reference. -/
theorem hN_frac {p q : Int} : hN p q 0 = nX p q ∧ hS p q 0 false = sX p q := by
  have h1 : eP 0 = 1075 := by decide
  have h2 : eQ 0 = 0 := by decide
  unfold hN hS nX sX q2
  rw [h1, h2, Int.pow_zero, Int.mul_one, Bool.or_false]
  exact ⟨rfl, rfl⟩

set_option maxHeartbeats 4000000 in
theorem hexact_any {w : World} {x y z : Value} {L : Nat} {r : Rat} (h : QC w x y z L r) (hL : L ≤ 65536) (md : Int) : Calls Tryd.prog 14 #[.agg #[x, y, z], .int .u8 md] w (RetF (dF md r) (dG md r) w) := by
  have hq := h
  obtain ⟨rfl, hy, hz⟩ := h
  obtain ⟨A, m, c, rfl⟩ := hy.v.form
  obtain ⟨B, n, d, rfl⟩ := hz.v.form
  have SG := Lib.hid (fun W (h : QC W (.bool (rs r)) (.slice A m c) (.slice B n d) L r) => fsign_any h (by omega))
  by_cases h0 : r = 0
  · have s0 : sgn r = 0 := sgn_eq.2 h0
    have e1 : dF md r = 0 := by unfold dF; rw [if_pos h0]
    have e2 : dG md r = 0 := by unfold dG; rw [if_pos h0]
    rw [e1, e2]
    have S0 := Lib.hid s0
    clear h0 s0 e1 e2
    go_enter Tryd.func14, Tryd.ntmps14
    go_wp2_with fail
    refine (SG.out _ (hq.below (bel_alloc (Below.refl _ _) _))).mono ?_
    rintro x w1 ⟨rfl, hb1⟩
    rw [S0.out]
    go_wp2_with fail
    go_ret2
    exact ⟨rfl, bel_trans (bel_alloc (Below.refl _ _) _) hb1⟩
  · have s0 : (sgn r == 0) = false := by
      have : sgn r ≠ 0 := fun h => h0 (sgn_eq.1 h)
      simp [this]
    have e1 : dF md r = rF md (rs r) (nX (rp r) (rq r)) (sX (rp r) (rq r)) := by unfold dF; rw [if_neg h0]
    have e2 : dG md r = rG md (rs r) (nX (rp r) (rq r)) (sX (rp r) (rq r)) := by unfold dG; rw [if_neg h0]
    rw [e1, e2]
    have XC : Hid (∀ W : World, Below w.heap.size w W → XV W (.agg #[.slice A m c, .slice B n d, .int .i64 0, .bool false]) (nX (rp r) (rq r)) (sX (rp r) (rq r)) L) := fun W hb => ⟨_, _, rp r, rq r, 0, false, rfl, hy.v.below hb, hz.v.below hb, rq_pos r, by decide, by decide, hN_frac.1, hN_frac.2⟩
    clear e1 e2 h0
    go_enter Tryd.func14, Tryd.ntmps14
    go_wp2_with fail
    refine (SG.out _ (hq.below (bel_alloc (Below.refl _ _) _))).mono ?_
    rintro x w1 ⟨rfl, hb1⟩
    have B1 : Below w.heap.size w w1 := bel_trans (bel_alloc (Below.refl _ _) _) hb1
    have c0 := hb1.cell (p := ⟨w.heap.size, 0, none⟩) (by simp)
    have c1 := hb1.cell (p := ⟨w.heap.size, 1, none⟩) (by simp)
    have c2 := hb1.cell (p := ⟨w.heap.size, 2, none⟩) (by simp)
    simp [go_sem] at c0 c1 c2
    go_wp2_with fail
    refine (hsigned_any (XC.out _ B1) hL (rs r) md).mono ?_
    rintro x w2 ⟨rfl, hb2⟩
    go_wp2_with fail
    go_ret2
    exact ⟨rfl, bel_trans B1 hb2⟩

theorem hN_int {m E : Int} {r : Bool} : hN m 1 E = rN m (eP E) (eQ E) ∧ hS m 1 E r = rS m (eP E) (eQ E) r := by
  unfold hN hS rN rS
  rw [Int.one_mul]
  exact ⟨rfl, rfl⟩
set_option maxHeartbeats 4000000 in
theorem hround_zero {w : World} {x : Value} {L : Nat} (h : RowV w x 0 L) (hL : L ≤ 65536) (neg : Bool) (e : Int) (r : Bool) (md : Int) : Calls Tryd.prog 11 #[.bool neg, x, .int .i64 e, .bool r, .int .u8 md] w (RetF (sg neg) 0 w) := by
  have RL := rlenV h (by omega)
  rw [blen_nought] at RL
  obtain ⟨A, m, c, rfl⟩ := h.form
  go_enter Tryd.func11, Tryd.ntmps11
  go_wp2_with fail
  refine RL.mono ?_
  rintro x w1 ⟨rfl, rfl⟩
  go_wp2_with fail
  refine (gof_any 0 neg (by decide) (by decide) _).mono ?_
  rintro x w2 ⟨rfl, rfl⟩
  go_wp2_with fail
  go_ret2
  exact ⟨ret_two (by cases neg <;> decide) rfl, Below.refl _ _⟩
set_option maxHeartbeats 4000000 in
theorem hround_pos {w : World} {x : Value} {p : Int} {L : Nat} (h : RowV w x p L) (hL : L ≤ 65536) (hp : 0 < p) (neg : Bool) (e : Int) (r : Bool) (md : Int) : Calls Tryd.prog 11 #[.bool neg, x, .int .i64 e, .bool r, .int .u8 md] w (RetF (rF md neg (rN p (eP (eC e)) (eQ (eC e))) (rS p (eP (eC e)) (eQ (eC e)) (r && decide (54 ≤ blen p)))) (rG md neg (rN p (eP (eC e)) (eQ (eC e))) (rS p (eP (eC e)) (eQ (eC e)) (r && decide (54 ≤ blen p)))) w) := by
  obtain ⟨A, n, c, xs, rfl, hn, hc, hr, hv, hl⟩ := h
  have vl := val_lt xs
  rw [hn] at vl
  obtain ⟨K, hK, hKm, hKv⟩ := blen_bound (val_nonneg xs) vl
  have CL := Lib.hid (rlen_any A n c xs w hn hr (by omega))
  rw [hK] at CL
  have HL : Hid ((xs.take K).length = K) := by show _ = _; rw [List.length_take, hn, Nat.min_eq_left hKm]
  have HV : Hid (val (xs.take K) = p) := by show _ = _; rw [val_take_small hKv, hv]
  have hKp : blen p = (K : Int) := by rw [← hv, hK]
  have hK1 : 1 ≤ K := by obtain ⟨j, e1, _, _⟩ := blen_at hp; omega
  have z0 : ((K : Int) == 0) = false := by simp; omega
  rw [hKp]
  have hrt := hr.take K
  have hKc : (K : Int) ≤ (c : Int) := by omega
  clear hK hKv vl hr hv hn hKp
  generalize xs.take K = ys at *
  have hC := eC_bd e
  have e0 : min (max e (-5000)) 5000 = eC e := rfl
  generalize eC e = E at *
  have ROW : RowV w (.slice A K c) p L := ⟨A, K, c, ys, rfl, HL.out, by omega, hrt, HV.out, by omega⟩
  have XC : Hid (∀ rr : Bool, XV (w.alloc (.cells #[.bool true] 4)) (.agg #[.slice A K c, .slice (some ⟨w.heap.size, 0, none⟩) 1 1, .int .i64 E, .bool rr]) (rN p (eP E) (eQ E)) (rS p (eP E) (eQ E) rr) (max L 1)) :=
    fun rr => ⟨_, _, p, 1, E, rr, rfl, (ROW.alloc _).mono (by omega), ⟨_, 1, 1, [true], rfl, rfl, Nat.le_refl _, row_one w, by decide, by omega⟩, by decide, hC.1, hC.2, (hN_int (r := rr)).1, hN_int.2⟩
  cases r
  · go_enter Tryd.func11, Tryd.ntmps11
    go_wp2_with fail
    refine CL.out.mono ?_
    rintro x w1 ⟨rfl, rfl⟩
    clear CL
    go_wp2_with fail
    refine (hsigned_any (XC.out false) (by omega) neg md).mono ?_
    rintro x w2 ⟨rfl, hb2⟩
    go_wp2_with fail
    go_ret2
    exact ⟨rfl, bel_trans (bel_alloc (Below.refl _ _) _) hb2⟩
  · go_enter Tryd.func11, Tryd.ntmps11
    go_wp2_with fail
    refine CL.out.mono ?_
    rintro x w1 ⟨rfl, rfl⟩
    clear CL
    go_wp2_with fail
    refine (hsigned_any (XC.out _) (by omega) neg md).mono ?_
    rintro x w2 ⟨rfl, hb2⟩
    go_wp2_with fail
    go_ret2
    exact ⟨rfl, bel_trans (bel_alloc (Below.refl _ _) _) hb2⟩
end Go.Proofs.YtdjhpplcdkgfgaaDoor
