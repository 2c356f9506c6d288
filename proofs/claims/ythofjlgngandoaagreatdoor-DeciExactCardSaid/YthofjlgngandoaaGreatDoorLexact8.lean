/-
  The walk of DeciExact: whatever digits and whatever power are handed in, the law answers true. Conditions: the power is an int; the listed tables stand.
-/
import Derived.Test.YthofjlgngandoaaGreatDoorLback8
namespace Go.Proofs.YthofjlgngandoaaGreatDoor
open Go.RowKit
set_option maxRecDepth 100000

set_option maxHeartbeats 4000000 in
/-- A text that is too long is no number. -/
theorem nparse_long (s : ByteArray) (w : World) (hs : 20000 < s.size) : Calls Tryz.prog 7 #[.string s] w fun e w' => e = .returned (.tuple #[.slice none 0 0, .int .i64 20]) ∧ w = w' := by
  have h1 : (20000 : Int) < (s.size : Int) := by omega
  go_enter Tryz.func7, Tryz.ntmps7
  go_wp2_with fail
  go_ret2
  exact ⟨rfl, rfl⟩
theorem tpow_any (n : Int) (hn : n ≤ 3000) (w : World) :
    Calls Tryz.prog 8 #[.int .u64 10, .int .i64 n] w (RetShlV (((10 : Nat) : Int) ^ (max n 0).toNat) 375 w) := by
  have hk : blen (((10 : Nat)) : Int) = ((4 : Nat) : Int) := by decide +kernel
  have lt : ((10 : Nat) : Int) ^ (max n 0).toNat < 2 ^ 12000 := pow_fits (by decide) (by omega)
  have nn : 0 ≤ ((10 : Nat) : Int) ^ (max n 0).toNat := Int.pow_nonneg (by omega)
  have bl : blen (((10 : Nat) : Int) ^ (max n 0).toNat) ≤ 12000 := blen_le2 nn lt
  have P := npow_main ((10 : Nat) : Int) n 10 (max n 0).toNat 4 rfl (by omega) (by omega) (by omega) hk (by
    rcases Nat.eq_zero_or_pos (max n 0).toNat with h | h
    · exact .inl h
    · refine .inr ⟨h, ?_⟩
      have : 4 ≤ 65535 / (max n 0).toNat := (Nat.le_div_iff_mul_le h).2 (by omega)
      omega) w
  rw [powV, powE, if_pos (by omega), if_pos (by omega)] at P
  refine P.mono fun e w1 r => ?_
  obtain ⟨ws, A, m, c, i, hn', rfl, hc, hr, hb⟩ := r
  exact ⟨_, ⟨A, m, c, ws, rfl, hn', hc, hr, i, by rw [← hn']; exact i.le lt⟩, rfl, hb⟩
theorem dF_nr {p q : Int} (hp : 0 ≤ p) (hq : 0 < q) : dF 0 (rv false p q) = nrF p q := by
  rcases Int.lt_or_eq_of_le hp with c | c
  · obtain ⟨e1, e2, e3⟩ := nX_low (s := false) c hq
    have hne : ¬ rv false p q = 0 := by rw [rv_eq_zero hp (Int.le_of_lt hq)]; omega
    unfold dF nrF
    rw [if_neg hne, if_neg (by omega), e1, e2, e3]
  · subst c
    unfold dF nrF
    rw [if_pos (rv_zero (.inl rfl)), if_pos (.inl rfl)]
theorem near_le (l : List UInt8) (e : Int) (h : l.all isDig = true) : 0 ≤ nearV l e ∧ nearV l e ≤ 9218868437227405312 := by
  unfold nearV nrF
  split
  · decide
  · have := rMag_bd (md := 0) (neg := false) (s := sX (dval l * 10 ^ (max e 0).toNat) (10 ^ (max (-e) 0).toNat)) (nX_nn (p := dval l * 10 ^ (max e 0).toNat) (q := 10 ^ (max (-e) 0).toNat) (Int.mul_nonneg (dval_bd h).1 (Int.pow_nonneg (by decide))) (Int.pow_pos (by decide)))
    unfold rF
    show 0 ≤ rMag _ _ _ _ + 0 ∧ rMag _ _ _ _ + 0 ≤ _
    omega
theorem cls_inf {f : Int} (h0 : 0 ≤ f) (h1 : f ≤ 9218868437227405312) : fC f = 3 ↔ f = 9218868437227405312 := by
  constructor
  · intro h
    unfold fC at h
    split at h
    · rename_i he
      unfold fE at he
      omega
    · split at h
      · split at h <;> omega
      · omega
  · rintro rfl
    decide +kernel
/-- The text of a power. -/
theorem ptext {p : Int} {l : List UInt8} (h : IsRText (intR p) l) (hp : -400 ≤ p) (hp' : p ≤ 400) : rxOk l = true ∧ rxV l = p ∧ l.length ≤ 4 ∧ asc l = true := by
  obtain ⟨l1, l2, a, -, e⟩ := h
  obtain ⟨i1, i2, i3⟩ := intR_parts p
  rw [i1, i3, if_pos rfl, List.append_nil] at e
  rw [i2] at a
  have dg : digB l1 = true := digB_of a.dig a.ne
  have len : l1.length ≤ 3 := by
    by_cases h0 : ((p.natAbs : Nat) : Int) = 0
    · rw [a.zero h0]; decide
    · cases hl : l1 with
      | nil => simp
      | cons c m =>
        have hd := a.head h0 c (by rw [hl]; rfl)
        have d := dval_low (c := c) (m := m) (by rw [← hl]; exact a.dig) hd
        rw [← hl, a.val] at d
        have : m.length ≤ 2 := by
          rcases Nat.lt_or_ge m.length 3 with x | x
          · omega
          · exfalso
            have := pow10_mono 3 m.length x
            rw [show (10 : Int) ^ 3 = 1000 by decide] at this
            omega
        simp only [List.length_cons]
        omega
  by_cases hn : p < 0
  · rw [decide_eq_true hn, if_pos rfl] at e
    subst e
    obtain ⟨r1, r2⟩ := rx_neg dg
    refine ⟨r1, ?_, ?_, asc_cons (by decide) (asc_dig a.dig)⟩
    · show rxV (45 :: l1) = p
      rw [r2, a.val]
      omega
    · show (45 :: l1).length ≤ 4
      simp only [List.length_cons]
      omega
  · rw [decide_eq_false hn, if_neg (by decide), List.nil_append] at e
    subst e
    obtain ⟨r1, r2⟩ := rx_pos dg
    refine ⟨r1, ?_, by omega, asc_dig a.dig⟩
    rw [r2, a.val]
    omega
set_option maxHeartbeats 16000000 in
theorem lexact8_early (s : ByteArray) (p : Int) (w : World) (hE : EnvOk w) (h : ¬ (digB s.data.toList = true ∧ s.size ≤ 300 ∧ -400 ≤ p ∧ p ≤ 400)) :
    Calls Tryz.prog 3 #[.string s, .int .i64 p] w fun x w' => x = .returned (.bool true) ∧ Below w.heap.size w w' := by
  have WK := Lib.hid fun w hE => works8 w hE
  by_cases h1 : 20000 < s.size
  · have PL := Lib.hid fun w => nparse_long s w h1
    clear h h1
    go_enter Tryz.func3, Tryz.ntmps3
    go_wp2_with fail
    refine (WK.out _ hE).mono ?_
    rintro x w1 ⟨rfl, hb1⟩
    have HB1 := Lib.hid hb1
    clear hb1
    go_wp2_with fail
    refine (PL.out _).mono ?_
    rintro x w2 ⟨rfl, rfl⟩
    go_wp2_with fail
    go_ret
    exact ⟨rfl, HB1.out⟩
  · have PN := Lib.hid fun w => nparse_any s w (by omega)
    by_cases h2 : digB s.data.toList = true
    · have PN' : Hid (∀ w, Calls Tryz.prog 7 #[.string s] w (RetShl (dval s.data.toList) 0 w)) := by
        intro w
        have := PN.out w
        rw [parV, parE, if_pos h2, if_pos h2] at this
        exact this
      have h3 : (300 : Int) < (s.size : Int) ∨ (¬ (300 : Int) < (s.size : Int) ∧ (400 < p ∨ ¬ 400 < p ∧ p < -400)) := by
        have := not_and.1 h h2
        omega
      clear PN h h1 h2
      rcases h3 with h3 | ⟨h3, h4 | ⟨h4, h5⟩⟩
      all_goals
        go_enter Tryz.func3, Tryz.ntmps3
        go_wp2_with fail
        refine (WK.out _ hE).mono ?_
        rintro x w1 ⟨rfl, hb1⟩
        have HB1 := Lib.hid hb1
        clear hb1
        go_wp2_with fail
        refine (PN'.out _).mono ?_
        rintro x w2 ⟨ws, A, n, c, i, hn, rfl, hc, hr, hb2⟩
        have HB2 := Lib.hid (bel_trans HB1.out hb2)
        clear hb2 i hn hc hr
        go_wp2_with fail
        go_ret
        exact ⟨rfl, HB2.out⟩
    · have PN' : Hid (∀ w, Calls Tryz.prog 7 #[.string s] w (RetShl 0 22 w)) := by
        intro w
        have := PN.out w
        rw [parV, parE, if_neg h2, if_neg h2] at this
        exact this
      clear PN h h1 h2
      go_enter Tryz.func3, Tryz.ntmps3
      go_wp2_with fail
      refine (WK.out _ hE).mono ?_
      rintro x w1 ⟨rfl, hb1⟩
      have HB1 := Lib.hid hb1
      clear hb1
      go_wp2_with fail
      refine (PN'.out _).mono ?_
      rintro x w2 ⟨ws, A, n, c, i, hn, rfl, hc, hr, hb2⟩
      have HB2 := Lib.hid (bel_trans HB1.out hb2)
      clear hb2 i hn hc hr
      go_wp2_with fail
      go_ret
      exact ⟨rfl, HB2.out⟩
set_option maxHeartbeats 16000000 in
theorem lexact8_main (s : ByteArray) (p : Int) (w : World) (hE : EnvOk w) (hd : digB s.data.toList = true) (hs : s.size ≤ 300) (hp : -400 ≤ p) (hp' : p ≤ 400) :
    Calls Tryz.prog 3 #[.string s, .int .i64 p] w fun x w' => x = .returned (.bool true) ∧ Below w.heap.size w w' := by
  have WK := Lib.hid fun w hE => works8 w hE
  have PN : Hid (∀ w, Calls Tryz.prog 7 #[.string s] w (RetShl (dval s.data.toList) 0 w)) := by
    intro w
    have := nparse_any s w (by omega)
    rw [parV, parE, if_pos hd, if_pos hd] at this
    exact this
  have TX := Lib.hid fun w hE => text8 p ⟨by omega, by omega⟩ w hE
  have al := (digB_all hd).1
  have vb := dval_bd al
  have vlt : dval s.data.toList < 2 ^ (32 * 250) := by
    have h1 : (10 : Int) ^ s.data.toList.length ≤ 10 ^ 2000 := pow10_mono _ _ (by rw [← Lib.size_eq]; omega)
    have h2 : (10 : Int) ^ 2000 < 2 ^ (32 * 250) := by decide +kernel
    omega
  have VL := Lib.hid vlt
  have V0 := Lib.hid vb.1
  have NL := near_le s.data.toList p al
  have NW : Word (nearV s.data.toList p) := ⟨NL.1, by omega⟩
  have IC := Lib.hid (cls_inf NL.1 NL.2)
  have IN : Hid (∀ w : World, Calls Tryz.prog 15 #[.bool false] w fun x w' => x = .returned (.int .u64 9218868437227405312) ∧ w = w') := fun w => inf_f false w
  -- what is read of the text
  have PS : Hid (∀ (t : ByteArray) (w : World), IsRText (intR p) t.data.toList → EnvOk w → t.size ≤ 4 ∧ Calls Tryz.prog 14 #[.string (s ++ ⟨#[101]⟩ ++ t)] w fun x w' => x = .returned (.tuple #[.int .u64 (if nearV s.data.toList p = 9218868437227405312 then 0 else nearV s.data.toList p), .int .i64 (if nearV s.data.toList p = 9218868437227405312 then 82 else 0)]) ∧ Below w.heap.size w w') := by
    intro t w ht hE
    obtain ⟨r1, r2, r3, r4⟩ := ptext ht hp hp'
    obtain ⟨q1, q2, q3⟩ := rd_exp hd r1 r2
    have e : (s ++ ⟨#[101]⟩ ++ t).data.toList = s.data.toList ++ 101 :: t.data.toList := by simp
    have ts : t.size ≤ 4 := by rw [Lib.size_eq]; exact r3
    have len : (s.data.toList ++ 101 :: t.data.toList).length ≤ 400 := by
      rw [List.length_append, List.length_cons, ← Lib.size_eq, ← Lib.size_eq]
      omega
    have pe : psE (s.data.toList ++ 101 :: t.data.toList) = if nearV s.data.toList p = 9218868437227405312 then 82 else 0 := by
      unfold psE
      rw [if_neg (by omega), if_pos q1, q2, q3]
      by_cases c : nearV s.data.toList p = 9218868437227405312
      · rw [if_pos (IC.out.2 c), if_pos c]
      · rw [if_neg (fun k => c (IC.out.1 k)), if_neg c]
    have pf : psF (s.data.toList ++ 101 :: t.data.toList) = if nearV s.data.toList p = 9218868437227405312 then 0 else nearV s.data.toList p := by
      unfold psF
      rw [pe, q2, q3]
      by_cases c : nearV s.data.toList p = 9218868437227405312
      · rw [if_pos c, if_pos c, if_neg (by decide)]
      · rw [if_neg c, if_neg c, if_pos rfl]
    refine ⟨ts, ?_⟩
    have := ps_call (s.data.toList ++ 101 :: t.data.toList) _ _ len (asc_app (asc_dig al) (asc_cons (by decide) r4)) pf pe w hE
    rw [← str_of e] at this
    exact this
  have DF : Hid (dF 0 (if p < 0 then rv false (dval s.data.toList) (((10 : Nat) : Int) ^ (max (-p) 0).toNat) else rv false (dval s.data.toList * ((10 : Nat) : Int) ^ (max p 0).toNat) 1) = nearV s.data.toList p) := by
    show _ = nrF (dval s.data.toList * p10 p) (p10 (-p))
    by_cases c : p < 0
    · rw [if_pos c, p10_one (show p ≤ 0 by omega), Int.mul_one]
      exact dF_nr vb.1 (p10_pos _)
    · rw [if_neg c, p10_one (show -p ≤ 0 by omega)]
      exact dF_nr (Int.mul_nonneg vb.1 (Int.le_of_lt (p10_pos p))) (by decide)
  have TP := Lib.hid fun n (hn : n ≤ 3000) w => tpow_any n hn w
  have hs1 : ¬ (300 : Int) < (s.size : Int) := by omega
  have hp1 : ¬ 400 < p := by omega
  have hp2 : ¬ p < -400 := by omega
  have hs2 : (s ++ ⟨#[101]⟩ : ByteArray).size ≤ 301 := by rw [ByteArray.size_append, show (⟨#[101]⟩ : ByteArray).size = 1 from rfl]; omega
  have opn : IntKind.i64.wrap (-p) = -p := by rw [IntKind.wrap_i64]; omega
  clear hd al vb vlt NL IC
  generalize nearV s.data.toList p = v at *
  generalize dval s.data.toList = D at *
  obtain ⟨mx, hmx⟩ : ∃ m : Int, max p (-p) = m := ⟨_, rfl⟩
  have TPm := Lib.hid fun w => TP.out mx (by omega) w
  have MX : Hid ((max mx 0).toNat = (max p 0).toNat + (max (-p) 0).toNat) := by show _ = _; omega
  go_enter Tryz.func3, Tryz.ntmps3
  go_wp2_with fail
  refine (WK.out _ hE).mono ?_
  rintro x w1 ⟨rfl, hb1⟩
  have HB1 := Lib.hid hb1
  clear hb1
  go_wp2_with fail
  refine (PN.out _).mono ?_
  rintro x w2 ⟨ws, A, n, c, i, hn, rfl, hc, hr, hb2⟩
  have n2 : NatV w2 (.slice A n c) D 250 := (show NatC w2 (.slice A n c) D 250 from ⟨A, n, c, ws, rfl, hn, hc, hr, i, by rw [← hn]; exact i.le VL.out⟩).v
  have HB2 := Lib.hid (bel_trans HB1.out hb2)
  clear hb2 i hn hc hr VL HB1
  go_wp2_with fail
  refine (TPm.out _).mono ?_
  rintro x w3 ⟨v3, n3, rfl, hb3⟩
  have n2' := n2.below hb3
  have HB3 := Lib.hid (bel_trans HB2.out hb3)
  obtain ⟨A3, l3, c3, rfl⟩ := n3.v.form
  clear hb3 n2 HB2
  go_wp2_with fail
  refine (TX.out _ (hE.below HB3.out)).mono ?_
  rintro x w4 ⟨⟨t, ht, rfl⟩, hb4⟩
  have ts := (PS.out t w ht hE).1
  have PQ : ∃ a b : Int, Hid (∀ w, EnvOk w → Calls Tryz.prog 14 #[.string (s ++ ⟨#[101]⟩ ++ t)] w fun x w' => x = .returned (.tuple #[.int .u64 a, .int .i64 b]) ∧ Below w.heap.size w w') ∧ Hid (v = 9218868437227405312 ∧ a = 0 ∧ b = 82 ∨ v ≠ 9218868437227405312 ∧ a = v ∧ b = 0) := by
    by_cases hv : v = 9218868437227405312
    · refine ⟨0, 82, fun w hE => ?_, .inl ⟨hv, rfl, rfl⟩⟩
      have := (PS.out t w ht hE).2
      rw [if_pos hv, if_pos hv] at this
      exact this
    · refine ⟨v, 0, fun w hE => ?_, .inr ⟨hv, rfl, rfl⟩⟩
      have := (PS.out t w ht hE).2
      rw [if_neg hv, if_neg hv] at this
      exact this
  obtain ⟨ra, rb, PS', HQ⟩ := PQ
  have n2'' := n2'.below hb4
  have n3' := n3.v.below hb4
  have HB4 := Lib.hid (bel_trans HB3.out hb4)
  clear hb4 n2' n3 HB3 PS ht TX
  go_wp2_with fail
  refine (newV 1 ⟨by decide, by decide⟩ _).mono ?_
  rintro x w5 ⟨v5, n5, rfl, hb5⟩
  have n2' := n2''.below hb5
  have n3 := n3'.below hb5
  have HB5 := Lib.hid (bel_trans HB4.out hb5)
  obtain ⟨A5, l5, c5, rfl⟩ := n5.v.form
  clear hb5 n2'' n3' HB4
  go_wp2_with fail
  refine (nmulV n2' n3 (by decide) (by decide)).mono ?_
  rintro x w6 ⟨v6, n6, rfl, hb6⟩
  have n2 := n2'.below hb6
  have n3' := n3.below hb6
  have n5' := n5.v.below hb6
  have HB6 := Lib.hid (bel_trans HB5.out hb6)
  obtain ⟨A6, l6, c6, rfl⟩ := n6.v.form
  clear hb6 n2' n3 n5 HB5
  go_wp2_with fail
  refine (qnew_any false n6.v (n5'.mono (show 2 ≤ 250 + 375 by decide)) (by decide) (by decide) (hE.tab.below HB6.out) (by decide)).mono ?_
  rintro x w7 ⟨x7, y7, z7, r7, rfl, hb7⟩
  obtain ⟨s7, A7, m7, k7, B7, j7, d7, rfl, rfl, rfl⟩ := r7.form
  have al7 := bel_alloc (Below.refl w7.heap.size w7) (.cells #[.bool s7, .slice A7 m7 k7, .slice B7 j7 d7] 33)
  have n2' := (n2.below hb7).below al7
  have n3 := (n3'.below hb7).below al7
  have r7' := r7.below al7
  have K7 := Blk.new w7 33 #[.bool s7, .slice A7 m7 k7, .slice B7 j7 d7]
  have GL := Lib.hid (bel_trans HB6.out hb7).size
  have HB7 := Lib.hid (bel_trans (bel_trans HB6.out hb7) al7)
  clear hb7 al7 n2 n3' n5' n6 HB6 r7
  obtain ⟨w8, hw8⟩ : ∃ v, v = w7.alloc (.cells #[.bool s7, .slice A7 m7 k7, .slice B7 j7 d7] 33) := ⟨_, rfl⟩
  rw [← hw8] at n2' n3 r7' K7 HB7
  have W8 := Lib.hid hw8
  clear hw8
  have DF' := DF.out
  by_cases hneg : p < 0
  · rw [if_pos hneg] at DF'
    have eM : (max mx 0).toNat = (max (-p) 0).toNat := by rw [MX.out]; omega
    rw [eM] at n3
    have DFF := Lib.hid DF'
    have tz := Lib.hid (show ((10 : Nat) : Int) ^ (max (-p) 0).toNat ≠ 0 from Int.ne_of_gt (p10_pos (-p)))
    clear DF DF' eM MX TP TPm hmx
    generalize ((10 : Nat) : Int) ^ (max (-p) 0).toNat = T at *
    obtain ⟨b0, b1, b2, f0, f1, f2⟩ := K7.three
    rw [W8.out] at b0 b1 b2 f0 f1 f2
    clear b0 b1 b2 f0 f1 f2
    go_wp2_with fail
    rw [← W8.out]
    refine (qnew_any false (n2'.mono (show 250 ≤ 375 by decide)) n3 (by decide) (by decide) (hE.tab.below HB7.out) tz.out).mono ?_
    rintro x w9 ⟨x9, y9, z9, r9, rfl, hb9⟩
    obtain ⟨s9, A9, m9, k9, B9, j9, d9, rfl, rfl, rfl⟩ := r9.form
    have K9 := K7.below hb9 K7.lt
    have HB9 := Lib.hid (bel_trans HB7.out hb9)
    clear hb9 n2' n3 r7' K7 HB7 tz
    obtain ⟨c0, c1, c2, f0, f1, f2⟩ := K9.three
    go_wp2_with fail
    have r9' := r9.put3 K9 (.bool s9) (.slice A9 m9 k9) (.slice B9 j9 d9)
    have HB9' := Lib.hid (bel_put3 HB9.out GL.out (.bool s9) (.slice A9 m9 k9) (.slice B9 j9 d9))
    unfold wput at r9' HB9'
    clear r9 HB9 K9 c0 c1 c2 f0 f1 f2
    refine (exact_f r9'.v 0 (by decide)).mono ?_
    rw [DFF.out]
    rintro x w10 ⟨rfl, hb10⟩
    have HB10 := Lib.hid (bel_trans HB9'.out hb10)
    clear hb10 r9' HB9' DFF W8
    go_wp2_with fail
    refine (PS'.out _ (hE.below HB10.out)).mono ?_
    rintro x w12 ⟨rfl, hb12⟩
    have HB12 := Lib.hid (bel_trans HB10.out hb12)
    clear hb12 HB10 PS'
    go_wp2_with fail
    refine (IN.out _).mono ?_
    rintro x w13 ⟨rfl, rfl⟩
    obtain ⟨rfl, rfl, rfl⟩ | ⟨hv, rfl, rfl⟩ := HQ.out
    · go_wp2_with fail
      go_ret
      exact ⟨rfl, HB12.out⟩
    · have hv' : (ra == 9218868437227405312) = false := by simp [hv]
      go_wp2_with fail
      go_ret
      exact ⟨rfl, HB12.out⟩
  · rw [if_neg hneg] at DF'
    have eM : (max mx 0).toNat = (max p 0).toNat := by rw [MX.out]; omega
    rw [eM] at r7'
    have DFF := Lib.hid DF'
    clear DF DF' eM MX TP TPm hmx K7
    go_wp2_with fail
    rw [← W8.out]
    refine (exact_f r7'.v 0 (by decide)).mono ?_
    rw [DFF.out]
    rintro x w10 ⟨rfl, hb10⟩
    have HB10 := Lib.hid (bel_trans HB7.out hb10)
    clear hb10 r7' HB7 n2' n3 DFF W8
    go_wp2_with fail
    refine (PS'.out _ (hE.below HB10.out)).mono ?_
    rintro x w12 ⟨rfl, hb12⟩
    have HB12 := Lib.hid (bel_trans HB10.out hb12)
    clear hb12 HB10 PS'
    go_wp2_with fail
    refine (IN.out _).mono ?_
    rintro x w13 ⟨rfl, rfl⟩
    obtain ⟨rfl, rfl, rfl⟩ | ⟨hv, rfl, rfl⟩ := HQ.out
    · go_wp2_with fail
      go_ret
      exact ⟨rfl, HB12.out⟩
    · have hv' : (ra == 9218868437227405312) = false := by simp [hv]
      go_wp2_with fail
      go_ret
      exact ⟨rfl, HB12.out⟩
theorem lexact8_walk (s : ByteArray) (p : Int) (w : World) (_hp : -9223372036854775808 ≤ p ∧ p ≤ 9223372036854775807) (hE : EnvOk w) :
    Calls Tryz.prog 3 #[.string s, .int .i64 p] w fun x w' => x = .returned (.bool true) ∧ Below w.heap.size w w' := by
  by_cases h : digB s.data.toList = true ∧ s.size ≤ 300 ∧ -400 ≤ p ∧ p ≤ 400
  · exact lexact8_main s p w hE h.1 h.2.1 h.2.2.1 h.2.2.2
  · exact lexact8_early s p w hE h
end Go.Proofs.YthofjlgngandoaaGreatDoor
