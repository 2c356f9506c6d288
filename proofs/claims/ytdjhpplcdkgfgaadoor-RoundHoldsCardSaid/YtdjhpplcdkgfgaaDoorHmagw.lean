/-
  The reference of layer 5: the walk of Magnitude. Conditions: rows of not too many bits.
-/
import Derived.Test.YtdjhpplcdkgfgaaDoorHmag
namespace Go.Proofs.YtdjhpplcdkgfgaaDoor
open Go.RowKit
set_option maxRecDepth 100000

/-- The cells of a number of the reference in its block. -/
structure At4 (w : World) (g : Nat) (A B : Option Addr) (na ca nb cb : Nat) (E : Int) (r : Bool) : Prop where
  c0 : w.cell? ⟨g, 0, none⟩ = some (.slice A na ca)
  c1 : w.cell? ⟨g, 1, none⟩ = some (.slice B nb cb)
  c2 : w.cell? ⟨g, 2, none⟩ = some (.int .i64 E)
  c3 : w.cell? ⟨g, 3, none⟩ = some (.bool r)
theorem At4.below {w w' : World} {g : Nat} {A B : Option Addr} {na ca nb cb : Nat} {E : Int} {r : Bool} (h : At4 w g A B na ca nb cb E r) (hb : Below w.heap.size w w') : At4 w' g A B na ca nb cb E r :=
  ⟨kp_c hb h.c0, kp_c hb h.c1, kp_c hb h.c2, kp_c hb h.c3⟩
theorem At4.new (w : World) (t : TypeId) (A B : Option Addr) (na ca nb cb : Nat) (E : Int) (r : Bool) : At4 (w.alloc (.cells #[.slice A na ca, .slice B nb cb, .int .i64 E, .bool r] t)) w.heap.size A B na ca nb cb E r := by
  constructor <;> simp [go_sem]

theorem away_up {n : Int} {s : Bool} : rAway 1 false n s = !rX n s := by simp [rAway]
theorem away_down {n : Int} {s : Bool} : rAway 2 false n s = false := by simp [rAway]
theorem away_near {md n : Int} {s : Bool} {neg : Bool} (h1 : ¬ md = 1) (h2 : ¬ md = 2) : rAway md neg n s = (rH n && (rB n s || decide (rW n % 2 = 1))) := by simp [rAway, h1, h2]
theorem fin_no {md n : Int} {s : Bool} (_hn : 0 ≤ n) (ht : K0 n ≤ 9218868437227405311) (hA : rAway md false n s = false) : rMag md false n s = K0 n ∧ rG md false n s = if rX n s = true then 0 else if rW n < 4503599627370496 then 3 else 1 := by
  have e := key_of md false n s
  rw [hA, show b2i false = 0 by rfl, Int.add_zero] at e
  unfold rMag rG
  rw [if_pos (by omega), if_pos (by omega)]
  exact ⟨e, rfl⟩
theorem fin_up {md n : Int} {s : Bool} (_hn : 0 ≤ n) (hA : rAway md false n s = true) (ht : K0 n < 9218868437227405311) : rMag md false n s = K0 n + 1 ∧ rG md false n s = if rX n s = true then 0 else if rW n < 4503599627370496 then 3 else 1 := by
  have e := key_of md false n s
  rw [hA, show b2i true = 1 by rfl] at e
  unfold rMag rG
  rw [if_pos (by omega), if_pos (by omega)]
  exact ⟨e, rfl⟩
theorem fin_over {md n : Int} {s : Bool} (hA : rAway md false n s = true) (ht : 9218868437227405311 ≤ K0 n) : rMag md false n s = rBey md false ∧ rG md false n s = 5 := by
  have e := key_of md false n s
  rw [hA, show b2i true = 1 by rfl] at e
  unfold rMag rG
  rw [if_neg (by omega), if_neg (by omega)]
  exact ⟨rfl, rfl⟩
theorem fin_beyond {md n : Int} {s : Bool} (ht : 9218868437227405311 < K0 n) : rMag md false n s = rBey md false ∧ rG md false n s = 5 := by
  have e := key_of md false n s
  have := b2i_bd (rAway md false n s)
  unfold rMag rG
  rw [if_neg (by omega), if_neg (by omega)]
  exact ⟨rfl, rfl⟩
def RetK (k f : Int) (w : World) (e : Ending) (w' : World) : Prop := e = .returned (.tuple #[.int .i64 k, .int .u8 f]) ∧ Below w.heap.size w w'

set_option maxHeartbeats 4000000 in
theorem hmag_any {w : World} {v : Value} {n : Int} {s : Bool} {L : Nat} (hx : XV w v n s L) (hL : L ≤ 65536) (md : Int) : Calls Tryd.prog 72 #[v, .int .u8 md] w (RetK (rMag md false n s) (rG md false n s) w) := by
  have hn := hx.nonneg
  have hx' := hx
  obtain ⟨ya, yb, a, b, E, r, rfl, h2, h3, h4⟩ := hx'
  obtain ⟨A, na, ca, rfl⟩ := h2.form
  obtain ⟨B, nb, cb, rfl⟩ := h3.form
  clear h2 h3 h4
  go_enter Tryd.func72, Tryd.ntmps72
  go_wp2_with fail
  refine (hfloor_any (hx.below (bel_alloc (Below.refl _ _) _)) hL).mono ?_
  rintro x w1 ⟨k, hk, rfl, hb1⟩
  have HKEY := Lib.hid (floor_key hn hk)
  have hk0 : 0 ≤ k ∧ k ≤ 9218868437227405312 := ⟨hk.1, hk.2.1⟩
  clear hk
  have a1 := (At4.new w 83 A B na ca nb cb E r).below hb1
  have B1 : Below w.heap.size w w1 := bel_trans (bel_alloc (Below.refl _ _) _) hb1
  clear hb1
  have ey := gy_bd hk0.1 hk0.2
  obtain ⟨d0, d1, d2, d3⟩ := a1
  go_wp2_with fail
  refine (hsplit_any k hk0.1 hk0.2 _).mono ?_
  rintro x w2 ⟨v1, n1, rfl, hb2⟩
  obtain ⟨A1, m1, l1, rfl⟩ := n1.form
  have a2 := At4.below ⟨d0, d1, d2, d3⟩ hb2
  have B2 := bel_trans B1 hb2
  clear d0 d1 d2 d3 B1 hb2
  obtain ⟨d0, d1, d2, d3⟩ := a2
  go_wp2_with fail
  refine (hcmp_any (hx.below B2) n1 hL (by decide) ⟨by omega, by omega⟩).mono ?_
  rintro x w3 ⟨rfl, hb3⟩
  rw [gK_is hk0.1]
  have a3 := At4.below ⟨d0, d1, d2, d3⟩ hb3
  have B3 := bel_trans B2 hb3
  have n3 := n1.below hb3
  clear d0 d1 d2 d3 B2 hb3 n1
  go_wp2_with fail
  refine (ofV (rdw_one w3 _ _) (m := 1) ⟨by decide, by decide⟩).mono ?_
  rintro x w4 ⟨v4, n4, rfl, hb4⟩
  obtain ⟨A4, m4, l4, rfl⟩ := n4.form
  have hb4' := bel_trans (bel_alloc (Below.refl w3.heap.size w3) _) hb4
  have a4 := a3.below hb4'
  have B4 := bel_trans B3 hb4'
  clear a3 B3 hb4 hb4' n3
  obtain ⟨d0, d1, d2, d3⟩ := a4
  generalize hc1 : cmpS n s (2 * gK k) = c1
  by_cases htop : K0 n ≤ 9218868437227405311
  · have hkK : k = K0 n := by have := HKEY.out; omega
    have htop' : k ≤ 9218868437227405311 := by omega
    clear HKEY
    have HKEY := Lib.hid hkK
    have HODD : Hid (k.tmod 2 = rW n % 2) := by show _ = _; rw [hkK]; exact K0_odd hn
    have HMID : Hid ((2 * gm k + 1) * 2 ^ (gy k - 1 + 1075).toNat = (2 * rW n + 1) * 2 ^ rU n) := by show _ = _; rw [hkK]; exact mid_is hn
    have hX := ask_exact (s := s) hn
    rw [← hkK, hc1] at hX
    have htopH := Lib.hid htop
    clear hkK hc1
    cases hXX : rX n s
    · rw [hXX] at hX
      have HX := Lib.hid hXX
      clear hXX
      go_wp2_with fail
      refine (hcmp_any (hx.below B4) n4 hL (by decide) ⟨by decide, by decide⟩).mono ?_
      rintro x w5 ⟨rfl, hb5⟩
      rw [show (1 : Int) * 2 ^ ((-1022 : Int) + 1075).toNat = 9007199254740992 by decide]
      have a5 := At4.below ⟨d0, d1, d2, d3⟩ hb5
      have B5 := bel_trans B4 hb5
      have n4 := n4.below hb5
      clear d0 d1 d2 d3 hb5
      obtain ⟨d0, d1, d2, d3⟩ := a5
      have hU := ask_under (s := s) hn
      have hbd2 := cmpS_bd n s 9007199254740992
      generalize cmpS n s 9007199254740992 = c2 at *
      by_cases hUN : rW n < 4503599627370496
      · rw [decide_eq_true hUN] at hU
        have HUN := Lib.hid hUN
        clear hUN
        by_cases hm1 : md = 1
        · subst hm1
          have HA : rAway 1 false n s = true := by rw [away_up, HX.out]; rfl
          by_cases hlast : k = 9218868437227405311
          · have G := Lib.hid (fin_over (md := 1) (n := n) HA (by rw [← HKEY.out, hlast]; decide))
            exfalso
            have := HUN.out
            have h9 := HKEY.out
            have h8 := (rW_bd hn).2.2
            unfold K0 at h9
            omega
          · have G := Lib.hid (fin_up (md := 1) hn HA (by have := HKEY.out; omega))
            rw [HX.out, if_neg (by decide), if_pos HUN.out, ← HKEY.out] at G
            have hlast' : k < 9218868437227405311 := by omega
            go_wp2_with fail
            go_ret2
            exact ⟨ret_two G.out.1.symm G.out.2.symm, B5⟩
        · by_cases hm2 : md = 2
          · subst hm2
            have HA : rAway 2 false n s = false := away_down
            have G := Lib.hid (fin_no (md := 2) hn htop HA)
            rw [HX.out, if_neg (by decide), if_pos HUN.out, ← HKEY.out] at G
            go_wp2_with fail
            go_ret2
            exact ⟨ret_two G.out.1.symm G.out.2.symm, B5⟩
          · have z1 : (md == 1) = false := by simp [hm1]
            have z2 : (md == 2) = false := by simp [hm2]
            have ey' := ey
            go_wp2_with fail
            refine (hsplit_any k hk0.1 hk0.2 _).mono ?_
            rintro x w6 ⟨v6, n6, rfl, hb6⟩
            obtain ⟨A6, m6, l6, rfl⟩ := n6.form
            have a6 := At4.below ⟨d0, d1, d2, d3⟩ hb6
            have B6 := bel_trans B5 hb6
            have n4 := n4.below hb6
            clear d0 d1 d2 d3 hb6
            obtain ⟨d0, d1, d2, d3⟩ := a6
            go_wp2_with fail
            refine (shlV n6 (N := 1) (by decide) (by decide) (by decide) 65 (by decide)).mono ?_
            rintro x w7 ⟨v7, n7, rfl, hb7⟩
            obtain ⟨A7, m7, l7, rfl⟩ := n7.form
            have a7 := At4.below ⟨d0, d1, d2, d3⟩ hb7
            have B7 := bel_trans B6 hb7
            have n4 := n4.below hb7
            clear d0 d1 d2 d3 hb7
            obtain ⟨d0, d1, d2, d3⟩ := a7
            go_wp2_with fail
            refine (raddV n7 n4 (by decide) (by decide)).mono ?_
            rintro x w8 ⟨v8, n8, rfl, hb8⟩
            obtain ⟨A8, m8, l8, rfl⟩ := n8.form
            have a8 := At4.below ⟨d0, d1, d2, d3⟩ hb8
            have B8 := bel_trans B7 hb8
            clear d0 d1 d2 d3 hb8
            obtain ⟨d0, d1, d2, d3⟩ := a8
            rw [show (2 : Int) ^ (1 : Int).toNat * gm k + 1 = 2 * gm k + 1 by rw [show (1 : Int).toNat = 1 by decide, Int.pow_one]] at n8
            go_wp2_with fail
            refine (hcmp_any (hx.below B8) n8 hL (by decide) ⟨by omega, by omega⟩).mono ?_
            rintro x w9 ⟨rfl, hb9⟩
            rw [HMID.out]
            have B9 := bel_trans B8 hb9
            have hM := ask_mid (n := n) (s := s)
            have hbd3 := cmpS_bd n s ((2 * rW n + 1) * 2 ^ rU n)
            generalize cmpS n s ((2 * rW n + 1) * 2 ^ rU n) = c3 at *
            clear hb9 HMID
            cases hH : rH n
            · rw [hH] at hM
              have hM1 : decide (0 < c3) = false := hM.1
              have hM2 : (c3 == 0) = false := hM.2
              have HA : rAway md false n s = false := by rw [away_near hm1 hm2, hH]; rfl
              clear hM
              have G := Lib.hid (fin_no (md := md) hn htop HA)
              rw [HX.out, if_neg (by decide), if_pos HUN.out, ← HKEY.out] at G
              go_wp2_with fail
              go_ret2
              exact ⟨ret_two G.out.1.symm G.out.2.symm, B9⟩
            · rw [hH] at hM
              cases hB : rB n s
              · rw [hB] at hM
                have hM1 : decide (0 < c3) = false := hM.1
                have hM2 : (c3 == 0) = true := hM.2
                clear hM
                by_cases hO : rW n % 2 = 1
                · have HA : rAway md false n s = true := by rw [away_near hm1 hm2, hH, hB, decide_eq_true hO]; rfl
                  have hodd : (k.tmod 2 == 1) = true := by rw [HODD.out, hO]; rfl
                  have hodd2 : (k % 2 == 1) = true := by rw [← Int.tmod_eq_emod_of_nonneg hk0.1]; exact hodd
                  clear hO HODD
                  by_cases hlast : k = 9218868437227405311
                  · have G := Lib.hid (fin_over (md := md) (n := n) HA (by rw [← HKEY.out, hlast]; decide))
                    exfalso
                    have := HUN.out
                    have h9 := HKEY.out
                    have h8 := (rW_bd hn).2.2
                    unfold K0 at h9
                    omega
                  · have G := Lib.hid (fin_up (md := md) hn HA (by have := HKEY.out; omega))
                    rw [HX.out, if_neg (by decide), if_pos HUN.out, ← HKEY.out] at G
                    have hlast' : k < 9218868437227405311 := by omega
                    go_wp2_with fail
                    go_ret2
                    exact ⟨ret_two G.out.1.symm G.out.2.symm, B9⟩
                · have HA : rAway md false n s = false := by rw [away_near hm1 hm2, hH, hB, decide_eq_false hO]; rfl
                  have hodd : (k.tmod 2 == 1) = false := by rw [HODD.out]; simp; omega
                  have hodd2 : (k % 2 == 1) = false := by rw [← Int.tmod_eq_emod_of_nonneg hk0.1]; exact hodd
                  clear hO HODD
                  have G := Lib.hid (fin_no (md := md) hn htop HA)
                  rw [HX.out, if_neg (by decide), if_pos HUN.out, ← HKEY.out] at G
                  go_wp2_with fail
                  go_ret2
                  exact ⟨ret_two G.out.1.symm G.out.2.symm, B9⟩
              · rw [hB] at hM
                have hM1 : decide (0 < c3) = true := hM.1
                have hM2 : (c3 == 0) = false := hM.2
                have HA : rAway md false n s = true := by rw [away_near hm1 hm2, hH, hB]; rfl
                clear hM
                by_cases hlast : k = 9218868437227405311
                · have G := Lib.hid (fin_over (md := md) (n := n) HA (by rw [← HKEY.out, hlast]; decide))
                  exfalso
                  have := HUN.out
                  have h9 := HKEY.out
                  have h8 := (rW_bd hn).2.2
                  unfold K0 at h9
                  omega
                · have G := Lib.hid (fin_up (md := md) hn HA (by have := HKEY.out; omega))
                  rw [HX.out, if_neg (by decide), if_pos HUN.out, ← HKEY.out] at G
                  have hlast' : k < 9218868437227405311 := by omega
                  go_wp2_with fail
                  go_ret2
                  exact ⟨ret_two G.out.1.symm G.out.2.symm, B9⟩
      · rw [decide_eq_false hUN] at hU
        have HUN := Lib.hid hUN
        clear hUN
        by_cases hm1 : md = 1
        · subst hm1
          have HA : rAway 1 false n s = true := by rw [away_up, HX.out]; rfl
          by_cases hlast : k = 9218868437227405311
          · have G := Lib.hid (fin_over (md := 1) (n := n) HA (by rw [← HKEY.out, hlast]; decide))
            subst hlast
            rw [show rBey 1 false = 9218868437227405312 by decide] at G
            go_wp2_with fail
            go_ret2
            exact ⟨ret_two G.out.1.symm G.out.2.symm, B5⟩
          · have G := Lib.hid (fin_up (md := 1) hn HA (by have := HKEY.out; omega))
            rw [HX.out, if_neg (by decide), if_neg (show ¬ rW n < 4503599627370496 by have := HUN.out; omega), ← HKEY.out] at G
            have hlast' : k < 9218868437227405311 := by omega
            go_wp2_with fail
            go_ret2
            exact ⟨ret_two G.out.1.symm G.out.2.symm, B5⟩
        · by_cases hm2 : md = 2
          · subst hm2
            have HA : rAway 2 false n s = false := away_down
            have G := Lib.hid (fin_no (md := 2) hn htop HA)
            rw [HX.out, if_neg (by decide), if_neg (show ¬ rW n < 4503599627370496 by have := HUN.out; omega), ← HKEY.out] at G
            go_wp2_with fail
            go_ret2
            exact ⟨ret_two G.out.1.symm G.out.2.symm, B5⟩
          · have z1 : (md == 1) = false := by simp [hm1]
            have z2 : (md == 2) = false := by simp [hm2]
            have ey' := ey
            go_wp2_with fail
            refine (hsplit_any k hk0.1 hk0.2 _).mono ?_
            rintro x w6 ⟨v6, n6, rfl, hb6⟩
            obtain ⟨A6, m6, l6, rfl⟩ := n6.form
            have a6 := At4.below ⟨d0, d1, d2, d3⟩ hb6
            have B6 := bel_trans B5 hb6
            have n4 := n4.below hb6
            clear d0 d1 d2 d3 hb6
            obtain ⟨d0, d1, d2, d3⟩ := a6
            go_wp2_with fail
            refine (shlV n6 (N := 1) (by decide) (by decide) (by decide) 65 (by decide)).mono ?_
            rintro x w7 ⟨v7, n7, rfl, hb7⟩
            obtain ⟨A7, m7, l7, rfl⟩ := n7.form
            have a7 := At4.below ⟨d0, d1, d2, d3⟩ hb7
            have B7 := bel_trans B6 hb7
            have n4 := n4.below hb7
            clear d0 d1 d2 d3 hb7
            obtain ⟨d0, d1, d2, d3⟩ := a7
            go_wp2_with fail
            refine (raddV n7 n4 (by decide) (by decide)).mono ?_
            rintro x w8 ⟨v8, n8, rfl, hb8⟩
            obtain ⟨A8, m8, l8, rfl⟩ := n8.form
            have a8 := At4.below ⟨d0, d1, d2, d3⟩ hb8
            have B8 := bel_trans B7 hb8
            clear d0 d1 d2 d3 hb8
            obtain ⟨d0, d1, d2, d3⟩ := a8
            rw [show (2 : Int) ^ (1 : Int).toNat * gm k + 1 = 2 * gm k + 1 by rw [show (1 : Int).toNat = 1 by decide, Int.pow_one]] at n8
            go_wp2_with fail
            refine (hcmp_any (hx.below B8) n8 hL (by decide) ⟨by omega, by omega⟩).mono ?_
            rintro x w9 ⟨rfl, hb9⟩
            rw [HMID.out]
            have B9 := bel_trans B8 hb9
            have hM := ask_mid (n := n) (s := s)
            have hbd3 := cmpS_bd n s ((2 * rW n + 1) * 2 ^ rU n)
            generalize cmpS n s ((2 * rW n + 1) * 2 ^ rU n) = c3 at *
            clear hb9 HMID
            cases hH : rH n
            · rw [hH] at hM
              have hM1 : decide (0 < c3) = false := hM.1
              have hM2 : (c3 == 0) = false := hM.2
              have HA : rAway md false n s = false := by rw [away_near hm1 hm2, hH]; rfl
              clear hM
              have G := Lib.hid (fin_no (md := md) hn htop HA)
              rw [HX.out, if_neg (by decide), if_neg (show ¬ rW n < 4503599627370496 by have := HUN.out; omega), ← HKEY.out] at G
              go_wp2_with fail
              go_ret2
              exact ⟨ret_two G.out.1.symm G.out.2.symm, B9⟩
            · rw [hH] at hM
              cases hB : rB n s
              · rw [hB] at hM
                have hM1 : decide (0 < c3) = false := hM.1
                have hM2 : (c3 == 0) = true := hM.2
                clear hM
                by_cases hO : rW n % 2 = 1
                · have HA : rAway md false n s = true := by rw [away_near hm1 hm2, hH, hB, decide_eq_true hO]; rfl
                  have hodd : (k.tmod 2 == 1) = true := by rw [HODD.out, hO]; rfl
                  have hodd2 : (k % 2 == 1) = true := by rw [← Int.tmod_eq_emod_of_nonneg hk0.1]; exact hodd
                  clear hO HODD
                  by_cases hlast : k = 9218868437227405311
                  · have G := Lib.hid (fin_over (md := md) (n := n) HA (by rw [← HKEY.out, hlast]; decide))
                    subst hlast
                    rw [show rBey md false = 9218868437227405312 by unfold rBey; rw [if_neg (by intro h; rcases h with h | h; exact absurd h.1 (by decide); exact hm2 h.2)]] at G
                    go_wp2_with fail
                    go_ret2
                    exact ⟨ret_two G.out.1.symm G.out.2.symm, B9⟩
                  · have G := Lib.hid (fin_up (md := md) hn HA (by have := HKEY.out; omega))
                    rw [HX.out, if_neg (by decide), if_neg (show ¬ rW n < 4503599627370496 by have := HUN.out; omega), ← HKEY.out] at G
                    have hlast' : k < 9218868437227405311 := by omega
                    go_wp2_with fail
                    go_ret2
                    exact ⟨ret_two G.out.1.symm G.out.2.symm, B9⟩
                · have HA : rAway md false n s = false := by rw [away_near hm1 hm2, hH, hB, decide_eq_false hO]; rfl
                  have hodd : (k.tmod 2 == 1) = false := by rw [HODD.out]; simp; omega
                  have hodd2 : (k % 2 == 1) = false := by rw [← Int.tmod_eq_emod_of_nonneg hk0.1]; exact hodd
                  clear hO HODD
                  have G := Lib.hid (fin_no (md := md) hn htop HA)
                  rw [HX.out, if_neg (by decide), if_neg (show ¬ rW n < 4503599627370496 by have := HUN.out; omega), ← HKEY.out] at G
                  go_wp2_with fail
                  go_ret2
                  exact ⟨ret_two G.out.1.symm G.out.2.symm, B9⟩
              · rw [hB] at hM
                have hM1 : decide (0 < c3) = true := hM.1
                have hM2 : (c3 == 0) = false := hM.2
                have HA : rAway md false n s = true := by rw [away_near hm1 hm2, hH, hB]; rfl
                clear hM
                by_cases hlast : k = 9218868437227405311
                · have G := Lib.hid (fin_over (md := md) (n := n) HA (by rw [← HKEY.out, hlast]; decide))
                  subst hlast
                  rw [show rBey md false = 9218868437227405312 by unfold rBey; rw [if_neg (by intro h; rcases h with h | h; exact absurd h.1 (by decide); exact hm2 h.2)]] at G
                  go_wp2_with fail
                  go_ret2
                  exact ⟨ret_two G.out.1.symm G.out.2.symm, B9⟩
                · have G := Lib.hid (fin_up (md := md) hn HA (by have := HKEY.out; omega))
                  rw [HX.out, if_neg (by decide), if_neg (show ¬ rW n < 4503599627370496 by have := HUN.out; omega), ← HKEY.out] at G
                  have hlast' : k < 9218868437227405311 := by omega
                  go_wp2_with fail
                  go_ret2
                  exact ⟨ret_two G.out.1.symm G.out.2.symm, B9⟩
    · rw [hXX] at hX
      have HX := Lib.hid hXX
      clear hXX
      by_cases hm1 : md = 1
      · subst hm1
        have HA : rAway 1 false n s = false := by rw [away_up, HX.out]; rfl
        have G := Lib.hid (fin_no (md := 1) hn htop HA)
        rw [HX.out, if_pos rfl, ← HKEY.out] at G
        go_wp2_with fail
        go_ret2
        exact ⟨ret_two G.out.1.symm G.out.2.symm, B4⟩
      · by_cases hm2 : md = 2
        · subst hm2
          have HA : rAway 2 false n s = false := away_down
          have G := Lib.hid (fin_no (md := 2) hn htop HA)
          rw [HX.out, if_pos rfl, ← HKEY.out] at G
          go_wp2_with fail
          go_ret2
          exact ⟨ret_two G.out.1.symm G.out.2.symm, B4⟩
        · have z1 : (md == 1) = false := by simp [hm1]
          have z2 : (md == 2) = false := by simp [hm2]
          have ey' := ey
          go_wp2_with fail
          refine (hsplit_any k hk0.1 hk0.2 _).mono ?_
          rintro x w6 ⟨v6, n6, rfl, hb6⟩
          obtain ⟨A6, m6, l6, rfl⟩ := n6.form
          have a6 := At4.below ⟨d0, d1, d2, d3⟩ hb6
          have B6 := bel_trans B4 hb6
          have n4 := n4.below hb6
          clear d0 d1 d2 d3 hb6
          obtain ⟨d0, d1, d2, d3⟩ := a6
          go_wp2_with fail
          refine (shlV n6 (N := 1) (by decide) (by decide) (by decide) 65 (by decide)).mono ?_
          rintro x w7 ⟨v7, n7, rfl, hb7⟩
          obtain ⟨A7, m7, l7, rfl⟩ := n7.form
          have a7 := At4.below ⟨d0, d1, d2, d3⟩ hb7
          have B7 := bel_trans B6 hb7
          have n4 := n4.below hb7
          clear d0 d1 d2 d3 hb7
          obtain ⟨d0, d1, d2, d3⟩ := a7
          go_wp2_with fail
          refine (raddV n7 n4 (by decide) (by decide)).mono ?_
          rintro x w8 ⟨v8, n8, rfl, hb8⟩
          obtain ⟨A8, m8, l8, rfl⟩ := n8.form
          have a8 := At4.below ⟨d0, d1, d2, d3⟩ hb8
          have B8 := bel_trans B7 hb8
          clear d0 d1 d2 d3 hb8
          obtain ⟨d0, d1, d2, d3⟩ := a8
          rw [show (2 : Int) ^ (1 : Int).toNat * gm k + 1 = 2 * gm k + 1 by rw [show (1 : Int).toNat = 1 by decide, Int.pow_one]] at n8
          go_wp2_with fail
          refine (hcmp_any (hx.below B8) n8 hL (by decide) ⟨by omega, by omega⟩).mono ?_
          rintro x w9 ⟨rfl, hb9⟩
          rw [HMID.out]
          have B9 := bel_trans B8 hb9
          have hM := ask_mid (n := n) (s := s)
          have hbd3 := cmpS_bd n s ((2 * rW n + 1) * 2 ^ rU n)
          generalize cmpS n s ((2 * rW n + 1) * 2 ^ rU n) = c3 at *
          clear hb9 HMID
          cases hH : rH n
          · rw [hH] at hM
            have hM1 : decide (0 < c3) = false := hM.1
            have hM2 : (c3 == 0) = false := hM.2
            have HA : rAway md false n s = false := by rw [away_near hm1 hm2, hH]; rfl
            clear hM
            have G := Lib.hid (fin_no (md := md) hn htop HA)
            rw [HX.out, if_pos rfl, ← HKEY.out] at G
            go_wp2_with fail
            go_ret2
            exact ⟨ret_two G.out.1.symm G.out.2.symm, B9⟩
          · rw [hH] at hM
            exfalso
            have h9 := HX.out
            unfold rX at h9
            rw [hH] at h9
            simp at h9
  · have hkK : k = 9218868437227405312 := by have := HKEY.out; omega
    have G := Lib.hid (fin_beyond (md := md) (s := s) (n := n) (by omega))
    have hbig : ¬ rW n < 4503599627370496 := by have h8 := (rW_bd hn).2.2; have h7 := (rW_bd hn).2.1; unfold K0 at htop; omega
    have hU := ask_under (s := s) hn
    rw [decide_eq_false hbig] at hU
    clear HKEY htop hbig hc1
    subst hkK
    by_cases hX : c1 = 0
    · subst hX
      by_cases hm1 : md = 1
      · subst hm1
        rw [show rBey 1 false = 9218868437227405312 by decide] at G
        go_wp2_with fail
        go_ret2
        exact ⟨ret_two G.out.1.symm G.out.2.symm, B4⟩
      · by_cases hm2 : md = 2
        · subst hm2
          rw [show rBey 2 false = 9218868437227405311 by decide] at G
          go_wp2_with fail
          go_ret2
          exact ⟨ret_two G.out.1.symm G.out.2.symm, B4⟩
        · have z1 : (md == 1) = false := by simp [hm1]
          have z2 : (md == 2) = false := by simp [hm2]
          rw [show rBey md false = 9218868437227405312 by unfold rBey; rw [if_neg (by intro h; rcases h with h | h; exact absurd h.1 (by decide); exact hm2 h.2)]] at G
          go_wp2_with fail
          refine (hsplit_any 9218868437227405312 (by decide) (by decide) _).mono ?_
          rintro x w6 ⟨v6, n6, rfl, hb6⟩
          obtain ⟨A6, m6, l6, rfl⟩ := n6.form
          have a6 := At4.below ⟨d0, d1, d2, d3⟩ hb6
          have B6 := bel_trans B4 hb6
          have n4 := n4.below hb6
          clear d0 d1 d2 d3 hb6
          obtain ⟨d0, d1, d2, d3⟩ := a6
          go_wp2_with fail
          refine (hsplit_any 9218868437227405311 (by decide) (by decide) _).mono ?_
          rintro x w7 ⟨v7, n7, rfl, hb7⟩
          obtain ⟨A7, m7, l7, rfl⟩ := n7.form
          have a7 := At4.below ⟨d0, d1, d2, d3⟩ hb7
          have B7 := bel_trans B6 hb7
          have n4 := n4.below hb7
          clear d0 d1 d2 d3 hb7
          obtain ⟨d0, d1, d2, d3⟩ := a7
          rw [show gy 9218868437227405311 = 971 by decide]
          go_wp2_with fail
          refine (raddV n7 n4 (by decide) (by decide)).mono ?_
          rintro x w8 ⟨v8, n8, rfl, hb8⟩
          obtain ⟨A8, m8, l8, rfl⟩ := n8.form
          have a8 := At4.below ⟨d0, d1, d2, d3⟩ hb8
          have B8 := bel_trans B7 hb8
          have n4 := n4.below hb8
          clear d0 d1 d2 d3 hb8
          obtain ⟨d0, d1, d2, d3⟩ := a8
          go_wp2_with fail
          refine (shlV n8 (N := 1) (by decide) (by decide) (by decide) 200 (by decide)).mono ?_
          rintro x w9 ⟨v9, n9, rfl, hb9⟩
          obtain ⟨A9, m9, l9, rfl⟩ := n9.form
          have a9 := At4.below ⟨d0, d1, d2, d3⟩ hb9
          have B9 := bel_trans B8 hb9
          have n4 := n4.below hb9
          clear d0 d1 d2 d3 hb9
          obtain ⟨d0, d1, d2, d3⟩ := a9
          go_wp2_with fail
          refine (raddV n9 n4 (by decide) (by decide)).mono ?_
          rintro x w10 ⟨v10, n10, rfl, hb10⟩
          obtain ⟨A10, m10, l10, rfl⟩ := n10.form
          have a10 := At4.below ⟨d0, d1, d2, d3⟩ hb10
          have B10 := bel_trans B9 hb10
          clear d0 d1 d2 d3 hb10
          obtain ⟨d0, d1, d2, d3⟩ := a10
          go_wp2_with fail
          refine (hcmp_any (hx.below B10) n10 hL (by decide) ⟨by decide, by decide⟩).mono ?_
          rintro x w11 ⟨rfl, hb11⟩
          have B11 := bel_trans B10 hb11
          generalize hc3 : cmpS n s _ = c3
          clear hc3 hb11
          by_cases hM1 : 0 < c3
          · have hM2 : decide (0 < c3) = true := decide_eq_true hM1
            go_wp2_with fail
            go_ret2
            exact ⟨ret_two G.out.1.symm G.out.2.symm, B11⟩
          · have hM2 : decide (0 < c3) = false := decide_eq_false hM1
            by_cases hM3 : c3 = 0
            · subst hM3
              go_wp2_with fail
              go_ret2
              exact ⟨ret_two G.out.1.symm G.out.2.symm, B11⟩
            · have hM4 : (c3 == 0) = false := by simp [hM3]
              go_wp2_with fail
              go_ret2
              exact ⟨ret_two G.out.1.symm G.out.2.symm, B11⟩
    · have hX' : (c1 == 0) = false := by simp [hX]
      go_wp2_with fail
      refine (hcmp_any (hx.below B4) n4 hL (by decide) ⟨by decide, by decide⟩).mono ?_
      rintro x w5 ⟨rfl, hb5⟩
      rw [show (1 : Int) * 2 ^ ((-1022 : Int) + 1075).toNat = 9007199254740992 by decide]
      have a5 := At4.below ⟨d0, d1, d2, d3⟩ hb5
      have B5 := bel_trans B4 hb5
      have n4 := n4.below hb5
      clear d0 d1 d2 d3 hb5
      obtain ⟨d0, d1, d2, d3⟩ := a5
      have hbd2 := cmpS_bd n s 9007199254740992
      generalize cmpS n s 9007199254740992 = c2 at *
      by_cases hm1 : md = 1
      · subst hm1
        rw [show rBey 1 false = 9218868437227405312 by decide] at G
        go_wp2_with fail
        go_ret2
        exact ⟨ret_two G.out.1.symm G.out.2.symm, B5⟩
      · by_cases hm2 : md = 2
        · subst hm2
          rw [show rBey 2 false = 9218868437227405311 by decide] at G
          go_wp2_with fail
          go_ret2
          exact ⟨ret_two G.out.1.symm G.out.2.symm, B5⟩
        · have z1 : (md == 1) = false := by simp [hm1]
          have z2 : (md == 2) = false := by simp [hm2]
          rw [show rBey md false = 9218868437227405312 by unfold rBey; rw [if_neg (by intro h; rcases h with h | h; exact absurd h.1 (by decide); exact hm2 h.2)]] at G
          go_wp2_with fail
          refine (hsplit_any 9218868437227405312 (by decide) (by decide) _).mono ?_
          rintro x w6 ⟨v6, n6, rfl, hb6⟩
          obtain ⟨A6, m6, l6, rfl⟩ := n6.form
          have a6 := At4.below ⟨d0, d1, d2, d3⟩ hb6
          have B6 := bel_trans B5 hb6
          have n4 := n4.below hb6
          clear d0 d1 d2 d3 hb6
          obtain ⟨d0, d1, d2, d3⟩ := a6
          go_wp2_with fail
          refine (hsplit_any 9218868437227405311 (by decide) (by decide) _).mono ?_
          rintro x w7 ⟨v7, n7, rfl, hb7⟩
          obtain ⟨A7, m7, l7, rfl⟩ := n7.form
          have a7 := At4.below ⟨d0, d1, d2, d3⟩ hb7
          have B7 := bel_trans B6 hb7
          have n4 := n4.below hb7
          clear d0 d1 d2 d3 hb7
          obtain ⟨d0, d1, d2, d3⟩ := a7
          rw [show gy 9218868437227405311 = 971 by decide]
          go_wp2_with fail
          refine (raddV n7 n4 (by decide) (by decide)).mono ?_
          rintro x w8 ⟨v8, n8, rfl, hb8⟩
          obtain ⟨A8, m8, l8, rfl⟩ := n8.form
          have a8 := At4.below ⟨d0, d1, d2, d3⟩ hb8
          have B8 := bel_trans B7 hb8
          have n4 := n4.below hb8
          clear d0 d1 d2 d3 hb8
          obtain ⟨d0, d1, d2, d3⟩ := a8
          go_wp2_with fail
          refine (shlV n8 (N := 1) (by decide) (by decide) (by decide) 200 (by decide)).mono ?_
          rintro x w9 ⟨v9, n9, rfl, hb9⟩
          obtain ⟨A9, m9, l9, rfl⟩ := n9.form
          have a9 := At4.below ⟨d0, d1, d2, d3⟩ hb9
          have B9 := bel_trans B8 hb9
          have n4 := n4.below hb9
          clear d0 d1 d2 d3 hb9
          obtain ⟨d0, d1, d2, d3⟩ := a9
          go_wp2_with fail
          refine (raddV n9 n4 (by decide) (by decide)).mono ?_
          rintro x w10 ⟨v10, n10, rfl, hb10⟩
          obtain ⟨A10, m10, l10, rfl⟩ := n10.form
          have a10 := At4.below ⟨d0, d1, d2, d3⟩ hb10
          have B10 := bel_trans B9 hb10
          clear d0 d1 d2 d3 hb10
          obtain ⟨d0, d1, d2, d3⟩ := a10
          go_wp2_with fail
          refine (hcmp_any (hx.below B10) n10 hL (by decide) ⟨by decide, by decide⟩).mono ?_
          rintro x w11 ⟨rfl, hb11⟩
          have B11 := bel_trans B10 hb11
          generalize hc3 : cmpS n s _ = c3
          clear hc3 hb11
          by_cases hM1 : 0 < c3
          · have hM2 : decide (0 < c3) = true := decide_eq_true hM1
            go_wp2_with fail
            go_ret2
            exact ⟨ret_two G.out.1.symm G.out.2.symm, B11⟩
          · have hM2 : decide (0 < c3) = false := decide_eq_false hM1
            by_cases hM3 : c3 = 0
            · subst hM3
              go_wp2_with fail
              go_ret2
              exact ⟨ret_two G.out.1.symm G.out.2.symm, B11⟩
            · have hM4 : (c3 == 0) = false := by simp [hM3]
              go_wp2_with fail
              go_ret2
              exact ⟨ret_two G.out.1.symm G.out.2.symm, B11⟩
end Go.Proofs.YtdjhpplcdkgfgaaDoor
