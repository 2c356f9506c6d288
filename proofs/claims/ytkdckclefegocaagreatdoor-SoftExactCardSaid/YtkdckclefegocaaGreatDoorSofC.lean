/-
  The contract of soft's addFinite: the rounded sum of two finite floats that are not opposite to each other. Conditions: both are finite.
-/
import Derived.Test.YtkdckclefegocaaGreatDoorSofB
import Derived.Test.YtkdckclefegocaaGreatDoorMath6b
import Derived.Test.YtkdckclefegocaaGreatDoorMDa
namespace Go.Proofs.YtkdckclefegocaaGreatDoor
open Go.RowKit
set_option maxRecDepth 100000

theorem shiftA (Y d : Int) (h2 : Word Y) (hn : -100000 ≤ d) (hn' : d ≤ 100000) (w : World) :
    Calls Tryz.prog 59 #[.agg #[.int .u64 0, .int .u64 Y], .int .i64 d] w (Ret (fun v => ∃ h l : Int, Word h ∧ Word l ∧ V2 h l = pA Y d ∧ v = .tuple #[.agg #[.int .u64 h, .int .u64 l], .bool (lA Y d)]) w) := by
  have h := shift_any 0 Y d ⟨by decide, by decide⟩ h2 hn hn' w
  rw [V2_low] at h
  exact h
/-- What the program rounds: the greater operand's integer, shifted up, and what is left of the lesser one's. -/
def sA (a b : Int) : Int := if fS a = fS b then fX a * 18446744073709551616 + pA (fX b) (fY b - (fY a - 64)) else fX a * 18446744073709551616 - pA (fX b) (fY b - (fY a - 64)) - b2i (lA (fX b) (fY b - (fY a - 64)))
theorem V2_nil {h l : Int} (h1 : Word h) (h2 : Word l) (e : V2 h l = 0) : h = 0 ∧ l = 0 := by
  obtain ⟨_, _⟩ := h1
  obtain ⟨_, _⟩ := h2
  unfold V2 at e
  omega
theorem sA_nil {a b : Int} (hB : Big a b) (hx : fX a = 0) : sA a b = 0 := by
  unfold sA
  rw [hB.non hx, hx, (pA_nought _).1, (pA_nought _).2]
  simp [b2i]
theorem sA_round {a b : Int} (ha : Word a) (hb : Word b) (h1 : fC a < 3) (h2 : fC b < 3) (hB : Big a b) (hx : 0 < fX a) (md : Int) :
    0 ≤ sA a b ∧ sA a b < 340282366920938463463374607431768211456 ∧ (zA a b = 0 → sA a b = 0) ∧ (0 < zA a b → 0 < sA a b ∧
      rF md (fS a) (rN (sA a b) (eP (fY a - 64)) (eQ (fY a - 64))) (rS (sA a b) (eP (fY a - 64)) (eQ (fY a - 64)) (lA (fX b) (fY b - (fY a - 64)) && decide (54 ≤ blen (sA a b)))) = rF md (fS a) (2 * zA a b) false ∧
      rG md (fS a) (rN (sA a b) (eP (fY a - 64)) (eQ (fY a - 64))) (rS (sA a b) (eP (fY a - 64)) (eQ (fY a - 64)) (lA (fX b) (fY b - (fY a - 64)) && decide (54 ≤ blen (sA a b)))) = rG md (fS a) (2 * zA a b) false) := by
  have e1 := fMg_is ha h1
  have e2 := fMg_is hb h2
  have hle := hB.le
  refine add_round md (fS a) (decide (fS a = fS b)) (X := fX a) (Y := fX b) (e := fY a) (f := fY b) hx fX_bd.2 fX_bd.1 fX_bd.2 (fY_bd a).1 (fY_bd a).2 (fY_bd b).1 (fY_bd b).2 hB.ord hB.far (by rw [e1, e2]; exact hle) ?_ ?_
  · unfold sA
    simp only [decide_eq_true_eq]
  · unfold zA
    rw [e1, e2]
    simp only [decide_eq_true_eq]
theorem sA_bd {a b : Int} (ha : Word a) (hb : Word b) (h1 : fC a < 3) (h2 : fC b < 3) (hB : Big a b) : 0 ≤ sA a b ∧ sA a b < 340282366920938463463374607431768211456 := by
  by_cases hx : fX a = 0
  · rw [sA_nil hB hx]
    decide
  · have := (fX_bd (f := a)).1
    have h := sA_round ha hb h1 h2 hB (by omega) 0
    exact ⟨h.1, h.2.1⟩
theorem round_sum {a b : Int} (ha : Word a) (hb : Word b) (h1 : fC a < 3) (h2 : fC b < 3) (hn : b ≠ fNg a) (hB : Big a b) (md h l : Int) (wh : Word h) (wl : Word l) (hv : V2 h l = sA a b) (w : World) :
    Calls Tryz.prog 33 #[.bool (fS a), .agg #[.int .u64 h, .int .u64 l], .int .i64 (fY a - 64), .bool (lA (fX b) (fY b - (fY a - 64))), .int .u8 md] w (RetF (smF md a b) (smG md a b) w) := by
  by_cases hz : zA a b = 0
  · obtain ⟨x1, x2, hs, f, g⟩ := sm_zero ha hb h1 h2 md hz hn hB
    rw [sA_nil hB x1] at hv
    obtain ⟨rfl, rfl⟩ := V2_nil wh wl hv
    rw [f, g]
    exact round_zero _ _ _ md w
  · have z0 := zA_nn hB
    have hx : 0 < fX a := by
      have := (fX_bd (f := a)).1
      rcases Int.lt_or_eq_of_le this with k | k
      · exact k
      · exfalso
        have k2 := hB.non k.symm
        have m1 := (fMg_zero ha h1).2 k.symm
        have m2 := (fMg_zero hb h2).2 k2
        refine hz ?_
        unfold zA
        rw [m1, m2]
        simp
    obtain ⟨-, -, -, r⟩ := sA_round ha hb h1 h2 hB hx md
    obtain ⟨r0, r1, r2⟩ := r (by omega)
    obtain ⟨f, g⟩ := sm_pos ha hb h1 h2 md (by omega)
    rw [f, g, ← r1, ← r2]
    have hy := fY_bd a
    have R := round_pos (fS a) h l (fY a - 64) (lA (fX b) (fY b - (fY a - 64))) md wh wl (by rw [hv]; exact r0) w _ _ rfl rfl
    rw [hv, eC_small (by omega) (by omega)] at R
    exact R
theorem kpr2 {W w1 : World} {p0 p1 : Addr} {a0 a1 : Value} (hb : Below W.heap.size W w1) (h0 : W.cell? p0 = some a0) (h1 : W.cell? p1 = some a1) :
    w1.cell? p0 = some a0 ∧ w1.cell? p1 = some a1 := ⟨kp_c hb h0, kp_c hb h1⟩

set_option maxHeartbeats 8000000 in
theorem addFin_ge (a b md : Int) (ha : Word a) (hb : Word b) (h1 : fC a < 3) (h2 : fC b < 3) (hn : b ≠ fNg a) (hge : geA a b) (w : World) :
    Calls Tryz.prog 30 #[.int .u64 a, .int .u64 b, .int .u8 md] w (RetF (smF md a b) (smG md a b) w) := by
  obtain ⟨fw, fw'⟩ : Word (fAb a) ∧ Word (fAb b) := by
    unfold fAb
    rw [if_neg (by omega), if_neg (by omega)]
    exact ⟨⟨by omega, by omega⟩, ⟨by omega, by omega⟩⟩
  have HL := abs_less ha hb h1 h2
  have hlt : fLt (fAb a) (fAb b) = false := by
    rw [HL]
    unfold geA at hge
    exact decide_eq_false (by omega)
  have hB := big_of ha hb h1 h2 hge
  have RS := fun (h l : Int) (wh : Word h) (wl : Word l) (hv : V2 h l = sA a b) (w : World) => round_sum ha hb h1 h2 hn hB md h l wh wl hv w
  have bd := sA_bd ha hb h1 h2 hB
  have hX := fX_bd (f := a)
  have hY := fX_bd (f := b)
  have hxw := fX_word a
  have hyw := fX_word b
  have hea := fY_bd a
  have hfb := fY_bd b
  have SA := Lib.hid (split_any a ha)
  have SB := Lib.hid (split_any b hb)
  have HRS := Lib.hid RS
  have HSD : Hid (sA a b = if fS a = fS b then fX a * 18446744073709551616 + pA (fX b) (fY b - (fY a - 64)) else fX a * 18446744073709551616 - pA (fX b) (fY b - (fY a - 64)) - b2i (lA (fX b) (fY b - (fY a - 64)))) := rfl
  clear HL hge RS hB
  go_enter Tryz.func30, Tryz.ntmps30
  go_wp2_with fail
  refine (abs_f a ha _).mono ?_
  rintro e w1 ⟨rfl, rfl⟩
  go_wp2_with fail
  refine (abs_f b hb _).mono ?_
  rintro e w1 ⟨rfl, rfl⟩
  go_wp2_with fail
  refine (less_any _ _ fw fw' _).mono ?_
  rw [hlt]
  rintro e w1 ⟨rfl, rfl⟩
  clear fw fw'
  go_wp2_with fail
  refine (SA.out _).mono ?_
  rintro e w1 ⟨rfl, rfl⟩
  go_wp2_with fail
  refine (shl2 0 (fX a) 64 ⟨by decide, by decide⟩ hxw (by decide) _).mono ?_
  rw [V2_low, shl_in (k := (64 : Int).toNat) hX.1 hX.2 (by decide), show (2 : Int) ^ (64 : Int).toNat = 18446744073709551616 by decide]
  rintro e w2 ⟨v, ⟨h', l', wh, wl, hv, rfl⟩, rfl, hb2⟩
  have KS := Blk.new w2 58 #[.int .u64 h', .int .u64 l']
  have HB2 := Lib.hid (bel_alloc hb2 (.cells #[.int .u64 h', .int .u64 l'] 58))
  have HV := Lib.hid hv
  clear hv
  go_wp2_with fail
  refine (SB.out _).mono ?_
  rintro e w3 ⟨rfl, rfl⟩
  go_wp2_with fail
  refine (shiftA (fX b) (fY b - (fY a - 64)) hyw (by omega) (by omega) _).mono ?_
  rintro e w4 ⟨v, ⟨h'', l'', wh', wl', hv', rfl⟩, rfl, hb4⟩
  have KS4 := KS.below hb4 KS.lt
  have g2 : w2.heap.size < w4.heap.size := Nat.lt_of_lt_of_le (by simp) hb4.size
  have HB4 := Lib.hid (bel_alloc (bel_trans HB2.out hb4) (.cells #[.int .u64 h'', .int .u64 l''] 58))
  have gw : w.heap.size ≤ w2.heap.size := hb2.size
  have HV' := Lib.hid hv'
  have bp := pA_bd (d := fY b - (fY a - 64)) hY.1 hY.2
  clear hv' hb4 hb2 HB2 KS SB
  have KP := Blk.new w4 58 #[.int .u64 h'', .int .u64 l'']
  have KS5 := KS4.alloc (.cells #[.int .u64 h'', .int .u64 l''] 58)
  generalize lA (fX b) (fY b - (fY a - 64)) = lo at *
  generalize pA (fX b) (fY b - (fY a - 64)) = P at *
  clear KS4
  by_cases hs : fS a = fS b
  · rw [if_pos hs] at HSD
    have t0 : (fS a == fS b) = true := by rw [hs]; simp
    have v1 := V2_pos wh wl
    have v2 := V2_pos wh' wl'
    obtain ⟨c0, c1, f0, f1⟩ := KS5.two
    obtain ⟨d0, d1, -, -⟩ := KP.two
    simp at d0 d1
    go_wp2_with fail
    refine (sneg_any a ha _).mono ?_
    rintro e w1 ⟨rfl, rfl⟩
    go_wp2_with fail
    refine (sneg_any b hb _).mono ?_
    rintro e w1 ⟨rfl, rfl⟩
    go_wp2_with fail
    refine (add2 h' l' h'' l'' wh wl wh' wl' _).mono ?_
    rintro e w6 ⟨v, ⟨h6, l6, c, wh6, wl6, c0', c1', hv6, rfl⟩, rfl, hb6⟩
    have KS6 := KS5.below hb6 KS5.lt
    have HB6 := Lib.hid (bel_trans HB4.out hb6)
    have v6 := V2_pos wh6 wl6
    have HV6 : Hid (V2 h6 l6 = sA a b) := by
      have a1 := HV.out
      have a2 := HV'.out
      have a3 := HSD.out
      show _ = _
      omega
    have KS7 := KS6.put2 (.int .u64 h6) (.int .u64 l6)
    have HB7 := Lib.hid (bel_put2 HB6.out (g := w2.heap.size) (by omega) (.int .u64 h6) (.int .u64 l6))
    clear c0 c1 f0 f1 d0 d1 hb6
    obtain ⟨c0, c1, f0, f1⟩ := KS6.two
    clear KS5 KP HB4 HV HV' HSD hv6 bp
    obtain ⟨d0, d1, -, -⟩ := KS7.two
    go_upto_region 11 with fail
    unfold wput2 at d0 d1 HB7 KS7
    generalize ((w6.setCell _ _).setCell _ _ : World) = w7 at *
    clear hs t0 KS6 HB6 KS7 c0 c1 f0 f1 v1 v2 g2
    go_region_held3 (fun w' => w'.cell? ⟨w2.heap.size, 0, none⟩ = some (.int .u64 h6) ∧ w'.cell? ⟨w2.heap.size, 1, none⟩ = some (.int .u64 l6))
      ((refine kpr2 (W := w7) ?_ d0 d1; repeat (first | exact Below.refl _ _ | exact X9 | refine bel_drew ?_)))
      (first
        | (go_at_call 31; refine (sneg_any a ha _).mono ?_; rintro x w8 ⟨rfl, rfl⟩)
        | (go_at_call 33; refine (HRS.out h6 l6 wh6 wl6 HV6.out _).mono ?_; rintro x w9 ⟨rfl, hb9⟩; have X9 : Below w7.heap.size w7 w9 := bel_trans (bel_drew (Below.refl _ _)) hb9))
    go_wp2_with fail
    go_ret2
    exact ⟨rfl, bel_trans HB7.out X9⟩
  · rw [if_neg hs] at HSD
    have t0 : (fS a == fS b) = false := by
      cases h : fS a <;> cases h' : fS b <;> rw [h, h'] at hs <;> simp at hs ⊢
    have v1 := V2_pos wh wl
    have v2 := V2_pos wh' wl'
    obtain ⟨c0, c1, f0, f1⟩ := KS5.two
    obtain ⟨d0, d1, -, -⟩ := KP.two
    simp at d0 d1
    go_wp2_with fail
    refine (sneg_any a ha _).mono ?_
    rintro e w1 ⟨rfl, rfl⟩
    go_wp2_with fail
    refine (sneg_any b hb _).mono ?_
    rintro e w1 ⟨rfl, rfl⟩
    go_wp2_with fail
    refine (take_any h' l' h'' l'' lo wh wl wh' wl' (by
      have a1 := HV.out
      have a2 := HV'.out
      have a3 := HSD.out
      omega) _).mono ?_
    rintro e w6 ⟨v, ⟨h6, l6, wh6, wl6, hv6, rfl⟩, rfl, hb6⟩
    have KS6 := KS5.below hb6 KS5.lt
    have HB6 := Lib.hid (bel_trans HB4.out hb6)
    have HV6 : Hid (V2 h6 l6 = sA a b) := by
      have a1 := HV.out
      have a2 := HV'.out
      have a3 := HSD.out
      show _ = _
      omega
    have KS7 := KS6.put2 (.int .u64 h6) (.int .u64 l6)
    have HB7 := Lib.hid (bel_put2 HB6.out (g := w2.heap.size) (by omega) (.int .u64 h6) (.int .u64 l6))
    clear c0 c1 f0 f1 d0 d1 hb6
    obtain ⟨c0, c1, f0, f1⟩ := KS6.two
    clear KS5 KP HB4 HV HV' HSD hv6 bp
    obtain ⟨d0, d1, -, -⟩ := KS7.two
    go_upto_region 11 with fail
    unfold wput2 at d0 d1 HB7 KS7
    generalize ((w6.setCell _ _).setCell _ _ : World) = w7 at *
    clear hs t0 KS6 HB6 KS7 c0 c1 f0 f1 v1 v2 g2
    go_region_held3 (fun w' => w'.cell? ⟨w2.heap.size, 0, none⟩ = some (.int .u64 h6) ∧ w'.cell? ⟨w2.heap.size, 1, none⟩ = some (.int .u64 l6))
      ((refine kpr2 (W := w7) ?_ d0 d1; repeat (first | exact Below.refl _ _ | exact X9 | refine bel_drew ?_)))
      (first
        | (go_at_call 31; refine (sneg_any a ha _).mono ?_; rintro x w8 ⟨rfl, rfl⟩)
        | (go_at_call 33; refine (HRS.out h6 l6 wh6 wl6 HV6.out _).mono ?_; rintro x w9 ⟨rfl, hb9⟩; have X9 : Below w7.heap.size w7 w9 := bel_trans (bel_drew (Below.refl _ _)) hb9))
    go_wp2_with fail
    go_ret2
    exact ⟨rfl, bel_trans HB7.out X9⟩
set_option maxHeartbeats 8000000 in
theorem addFin_lt (a b md : Int) (ha : Word a) (hb : Word b) (h1 : fC a < 3) (h2 : fC b < 3) (hn : b ≠ fNg a) (hge : ¬ geA a b) (w : World) :
    Calls Tryz.prog 30 #[.int .u64 a, .int .u64 b, .int .u8 md] w (RetF (smF md a b) (smG md a b) w) := by
  obtain ⟨fw, fw'⟩ : Word (fAb a) ∧ Word (fAb b) := by
    unfold fAb
    rw [if_neg (by omega), if_neg (by omega)]
    exact ⟨⟨by omega, by omega⟩, ⟨by omega, by omega⟩⟩
  have HL := abs_less ha hb h1 h2
  have hge' : geA b a := by unfold geA at hge ⊢; omega
  have hlt : fLt (fAb a) (fAb b) = true := by
    rw [HL]
    unfold geA at hge
    exact decide_eq_true (by omega)
  have hn' : a ≠ fNg b := by
    intro h
    refine hn ?_
    rw [h]
    exact (fNg_key hb (by omega)).2.2.2.symm
  rw [(smF_comm md a b).1, (smF_comm md a b).2]
  have hB := big_of hb ha h2 h1 hge'
  have RS := fun (h l : Int) (wh : Word h) (wl : Word l) (hv : V2 h l = sA b a) (w : World) => round_sum hb ha h2 h1 hn' hB md h l wh wl hv w
  have bd := sA_bd hb ha h2 h1 hB
  have hX := fX_bd (f := b)
  have hY := fX_bd (f := a)
  have hxw := fX_word b
  have hyw := fX_word a
  have hea := fY_bd b
  have hfb := fY_bd a
  have SA := Lib.hid (split_any b hb)
  have SB := Lib.hid (split_any a ha)
  have HRS := Lib.hid RS
  have HSD : Hid (sA b a = if fS b = fS a then fX b * 18446744073709551616 + pA (fX a) (fY a - (fY b - 64)) else fX b * 18446744073709551616 - pA (fX a) (fY a - (fY b - 64)) - b2i (lA (fX a) (fY a - (fY b - 64)))) := rfl
  clear HL hge RS hB
  go_enter Tryz.func30, Tryz.ntmps30
  go_wp2_with fail
  refine (abs_f a ha _).mono ?_
  rintro e w1 ⟨rfl, rfl⟩
  go_wp2_with fail
  refine (abs_f b hb _).mono ?_
  rintro e w1 ⟨rfl, rfl⟩
  go_wp2_with fail
  refine (less_any _ _ fw fw' _).mono ?_
  rw [hlt]
  rintro e w1 ⟨rfl, rfl⟩
  clear fw fw'
  go_wp2_with fail
  refine (SA.out _).mono ?_
  rintro e w1 ⟨rfl, rfl⟩
  go_wp2_with fail
  refine (shl2 0 (fX b) 64 ⟨by decide, by decide⟩ hxw (by decide) _).mono ?_
  rw [V2_low, shl_in (k := (64 : Int).toNat) hX.1 hX.2 (by decide), show (2 : Int) ^ (64 : Int).toNat = 18446744073709551616 by decide]
  rintro e w2 ⟨v, ⟨h', l', wh, wl, hv, rfl⟩, rfl, hb2⟩
  have KS := Blk.new w2 58 #[.int .u64 h', .int .u64 l']
  have HB2 := Lib.hid (bel_alloc hb2 (.cells #[.int .u64 h', .int .u64 l'] 58))
  have HV := Lib.hid hv
  clear hv
  go_wp2_with fail
  refine (SB.out _).mono ?_
  rintro e w3 ⟨rfl, rfl⟩
  go_wp2_with fail
  refine (shiftA (fX a) (fY a - (fY b - 64)) hyw (by omega) (by omega) _).mono ?_
  rintro e w4 ⟨v, ⟨h'', l'', wh', wl', hv', rfl⟩, rfl, hb4⟩
  have KS4 := KS.below hb4 KS.lt
  have g2 : w2.heap.size < w4.heap.size := Nat.lt_of_lt_of_le (by simp) hb4.size
  have HB4 := Lib.hid (bel_alloc (bel_trans HB2.out hb4) (.cells #[.int .u64 h'', .int .u64 l''] 58))
  have gw : w.heap.size ≤ w2.heap.size := hb2.size
  have HV' := Lib.hid hv'
  have bp := pA_bd (d := fY a - (fY b - 64)) hY.1 hY.2
  clear hv' hb4 hb2 HB2 KS SB
  have KP := Blk.new w4 58 #[.int .u64 h'', .int .u64 l'']
  have KS5 := KS4.alloc (.cells #[.int .u64 h'', .int .u64 l''] 58)
  generalize lA (fX a) (fY a - (fY b - 64)) = lo at *
  generalize pA (fX a) (fY a - (fY b - 64)) = P at *
  clear KS4
  by_cases hs : fS b = fS a
  · rw [if_pos hs] at HSD
    have t0 : (fS b == fS a) = true := by rw [hs]; simp
    have v1 := V2_pos wh wl
    have v2 := V2_pos wh' wl'
    obtain ⟨c0, c1, f0, f1⟩ := KS5.two
    obtain ⟨d0, d1, -, -⟩ := KP.two
    simp at d0 d1
    go_wp2_with fail
    refine (sneg_any b hb _).mono ?_
    rintro e w1 ⟨rfl, rfl⟩
    go_wp2_with fail
    refine (sneg_any a ha _).mono ?_
    rintro e w1 ⟨rfl, rfl⟩
    go_wp2_with fail
    refine (add2 h' l' h'' l'' wh wl wh' wl' _).mono ?_
    rintro e w6 ⟨v, ⟨h6, l6, c, wh6, wl6, c0', c1', hv6, rfl⟩, rfl, hb6⟩
    have KS6 := KS5.below hb6 KS5.lt
    have HB6 := Lib.hid (bel_trans HB4.out hb6)
    have v6 := V2_pos wh6 wl6
    have HV6 : Hid (V2 h6 l6 = sA b a) := by
      have a1 := HV.out
      have a2 := HV'.out
      have a3 := HSD.out
      show _ = _
      omega
    have KS7 := KS6.put2 (.int .u64 h6) (.int .u64 l6)
    have HB7 := Lib.hid (bel_put2 HB6.out (g := w2.heap.size) (by omega) (.int .u64 h6) (.int .u64 l6))
    clear c0 c1 f0 f1 d0 d1 hb6
    obtain ⟨c0, c1, f0, f1⟩ := KS6.two
    clear KS5 KP HB4 HV HV' HSD hv6 bp
    obtain ⟨d0, d1, -, -⟩ := KS7.two
    go_upto_region 11 with fail
    unfold wput2 at d0 d1 HB7 KS7
    generalize ((w6.setCell _ _).setCell _ _ : World) = w7 at *
    clear hs t0 KS6 HB6 KS7 c0 c1 f0 f1 v1 v2 g2
    go_region_held3 (fun w' => w'.cell? ⟨w2.heap.size, 0, none⟩ = some (.int .u64 h6) ∧ w'.cell? ⟨w2.heap.size, 1, none⟩ = some (.int .u64 l6))
      ((refine kpr2 (W := w7) ?_ d0 d1; repeat (first | exact Below.refl _ _ | exact X9 | refine bel_drew ?_)))
      (first
        | (go_at_call 31; refine (sneg_any b hb _).mono ?_; rintro x w8 ⟨rfl, rfl⟩)
        | (go_at_call 33; refine (HRS.out h6 l6 wh6 wl6 HV6.out _).mono ?_; rintro x w9 ⟨rfl, hb9⟩; have X9 : Below w7.heap.size w7 w9 := bel_trans (bel_drew (Below.refl _ _)) hb9))
    go_wp2_with fail
    go_ret2
    exact ⟨rfl, bel_trans HB7.out X9⟩
  · rw [if_neg hs] at HSD
    have t0 : (fS b == fS a) = false := by
      cases h : fS b <;> cases h' : fS a <;> rw [h, h'] at hs <;> simp at hs ⊢
    have v1 := V2_pos wh wl
    have v2 := V2_pos wh' wl'
    obtain ⟨c0, c1, f0, f1⟩ := KS5.two
    obtain ⟨d0, d1, -, -⟩ := KP.two
    simp at d0 d1
    go_wp2_with fail
    refine (sneg_any b hb _).mono ?_
    rintro e w1 ⟨rfl, rfl⟩
    go_wp2_with fail
    refine (sneg_any a ha _).mono ?_
    rintro e w1 ⟨rfl, rfl⟩
    go_wp2_with fail
    refine (take_any h' l' h'' l'' lo wh wl wh' wl' (by
      have a1 := HV.out
      have a2 := HV'.out
      have a3 := HSD.out
      omega) _).mono ?_
    rintro e w6 ⟨v, ⟨h6, l6, wh6, wl6, hv6, rfl⟩, rfl, hb6⟩
    have KS6 := KS5.below hb6 KS5.lt
    have HB6 := Lib.hid (bel_trans HB4.out hb6)
    have HV6 : Hid (V2 h6 l6 = sA b a) := by
      have a1 := HV.out
      have a2 := HV'.out
      have a3 := HSD.out
      show _ = _
      omega
    have KS7 := KS6.put2 (.int .u64 h6) (.int .u64 l6)
    have HB7 := Lib.hid (bel_put2 HB6.out (g := w2.heap.size) (by omega) (.int .u64 h6) (.int .u64 l6))
    clear c0 c1 f0 f1 d0 d1 hb6
    obtain ⟨c0, c1, f0, f1⟩ := KS6.two
    clear KS5 KP HB4 HV HV' HSD hv6 bp
    obtain ⟨d0, d1, -, -⟩ := KS7.two
    go_upto_region 11 with fail
    unfold wput2 at d0 d1 HB7 KS7
    generalize ((w6.setCell _ _).setCell _ _ : World) = w7 at *
    clear hs t0 KS6 HB6 KS7 c0 c1 f0 f1 v1 v2 g2
    go_region_held3 (fun w' => w'.cell? ⟨w2.heap.size, 0, none⟩ = some (.int .u64 h6) ∧ w'.cell? ⟨w2.heap.size, 1, none⟩ = some (.int .u64 l6))
      ((refine kpr2 (W := w7) ?_ d0 d1; repeat (first | exact Below.refl _ _ | exact X9 | refine bel_drew ?_)))
      (first
        | (go_at_call 31; refine (sneg_any b hb _).mono ?_; rintro x w8 ⟨rfl, rfl⟩)
        | (go_at_call 33; refine (HRS.out h6 l6 wh6 wl6 HV6.out _).mono ?_; rintro x w9 ⟨rfl, hb9⟩; have X9 : Below w7.heap.size w7 w9 := bel_trans (bel_drew (Below.refl _ _)) hb9))
    go_wp2_with fail
    go_ret2
    exact ⟨rfl, bel_trans HB7.out X9⟩
theorem addFin_any (a b md : Int) (ha : Word a) (hb : Word b) (h1 : fC a < 3) (h2 : fC b < 3) (hn : b ≠ fNg a) (w : World) :
    Calls Tryz.prog 30 #[.int .u64 a, .int .u64 b, .int .u8 md] w (RetF (smF md a b) (smG md a b) w) := by
  by_cases h : geA a b
  · exact addFin_ge a b md ha hb h1 h2 hn h w
  · exact addFin_lt a b md ha hb h1 h2 hn h w
end Go.Proofs.YtkdckclefegocaaGreatDoor
