/-
  The walk of LexLexes: whatever text is handed in, the law answers true. Conditions: the listed tables stand.
-/
import Derived.Test.YtkhddadhkkffnaaGreatDoorMYf
namespace Go.Proofs.YtkhddadhkkffnaaGreatDoor
open Go.RowKit Go.Maps
set_option maxRecDepth 100000

theorem nB_dig {b : UInt8} (h : isDig b = true) : nBn (b.toNat : Int) = true := by
  obtain ⟨h1, h2⟩ := dig_bd h
  unfold nBn
  rw [decide_eq_true h1, decide_eq_true h2]
  rfl
theorem num_run {S l : List UInt8} {a : Nat} (hS : S.drop a = l) : RunB S a (nuL l) := fun j hj => by
  obtain ⟨b, e, h⟩ := num_in l j hj
  refine ⟨b, by rw [← byte_of hS]; exact e, ?_⟩
  rcases h with h | ⟨h, -⟩ | ⟨-, h | ⟨h, -⟩⟩
  · exact nB_dig h
  · rw [h]; decide
  · rcases h with h | h <;> (rw [h]; decide)
  · rcases h with h | h <;> (rw [h]; decide)
theorem byV_dig {E : List UInt8} (h : E.all isDig = true) {j : Nat} (hj : j < E.length) : dgN (byV E j) = true := by
  unfold byV
  rw [List.getElem?_eq_getElem hj]
  exact (dgN_byte _).trans (List.all_eq_true.1 h _ (List.getElem_mem hj))
theorem pow_short {S l : List UInt8} {a : Nat} (hS : S.drop a = l) (hP : PowOk S) {D f x : List UInt8} (hm : l.take (nuL l) = D ++ (f ++ x)) (hx : ShY x) : dval (yE x) ≤ 1000 := by
  rcases hx with rfl | ⟨c, sg, E, rfl, hc, hsg, hE⟩
  · decide
  · have hE1 := (digB_all hE).1
    rw [(shy_parts (c := c) hsg hE).2.1]
    have ls : sg.length ≤ 1 := by rcases hsg with rfl | rfl | rfl <;> simp
    have hl : l = (D ++ (f ++ c :: (sg ++ E))) ++ l.drop (nuL l) := by rw [← hm, List.take_append_drop]
    obtain ⟨p, hp⟩ : ∃ p, p = D.length + f.length := ⟨_, rfl⟩
    have e0 : l.drop p = c :: (sg ++ E ++ l.drop (nuL l)) := by
      conv => lhs; rw [hl]
      rw [hp, ← List.drop_drop, List.append_assoc, List.drop_left, List.append_assoc, List.drop_left]
      simp
    have S0 : S.drop (a + p) = c :: (sg ++ E ++ l.drop (nuL l)) := by rw [← List.drop_drop, hS, e0]
    have S1 := drop_cons S0
    by_cases h : (sg ++ E).length ≤ 3
    · have le : E.length ≤ 3 := by rw [List.length_append] at h; omega
      have := (dval_bd hE1).2
      have h10 : (10 : Int) ^ E.length ≤ 10 ^ 3 := by
        have := Nat.pow_le_pow_right (n := 10) (by decide) le
        have h' : ((10 ^ E.length : Nat) : Int) ≤ ((10 ^ 3 : Nat) : Int) := Int.ofNat_le.2 this
        simpa using h'
      have : (10 : Int) ^ 3 = 1000 := by decide
      omega
    · exfalso
      have B0 := byV_drop S0 0
      rw [Nat.add_zero] at B0
      have B0' : byV S (a + p) = (c.toNat : Int) := B0
      have B : ∀ j, sg.length ≤ j → j < (sg ++ E).length → dgN (byV S (a + p + 1 + j)) = true := fun j h1 h2 => by
        rw [byV_drop S1]
        have e : (sg ++ E ++ l.drop (nuL l))[j]? = E[j - sg.length]? := by
          rw [List.getElem?_append_left h2, List.getElem?_append_right h1]
        have e2 : byV (sg ++ E ++ l.drop (nuL l)) j = byV E (j - sg.length) := by unfold byV; rw [e]
        rw [e2]
        refine byV_dig hE1 ?_
        rw [List.length_append] at h2
        omega
      have hlen : a + p + 4 < S.length := by
        have := congrArg List.length S0
        rw [List.length_drop, List.length_cons, List.length_append] at this
        omega
      refine hP (a + p) hlen ?_ ?_ ?_ ?_
      · rw [B0']
        rcases hc with rfl | rfl
        · exact .inl rfl
        · exact .inr rfl
      · exact B 1 (by omega) (by omega)
      · exact B 2 (by omega) (by omega)
      · exact B 3 (by omega) (by omega)
theorem parse_ok {S : List UInt8} (hF : FarOk S) (hP : PowOk S) (a : Nat) (l : List UInt8) (hS : S.drop a = l) (hn : nuF l = true) (_h4 : nuL l ≤ 400) (w : World) :
    Calls Tryz.prog 38 #[.string ⟨(l.take (nuL l)).toArray⟩] w fun e w' => e = .returned (.tuple #[.int .u64 (psF (l.take (nuL l))), .int .i64 (psE (l.take (nuL l)))]) ∧ Below w.heap.size w w' := by
  have n0 : nuL l ≠ 0 := fun h => by
    unfold nuF at hn
    rw [decide_eq_true_eq] at hn
    omega
  have h45 := hF a (nuL l) (num_run hS)
  have lm : (l.take (nuL l)).length = nuL l := by rw [List.length_take]; have := nuL_le l; omega
  have hm := (nuL_take l (nuL l) (Nat.le_refl _)).1
  exact kParse_any _ (by rw [hm, lm]) (by rw [hm]; exact n0) (by rw [lm]; omega) (fun D f x e _ _ hx => pow_short hS hP e hx) w
/-- Tokens in a row, or none. -/
def SlT (w : World) (v : Value) (ts : List Tk) : Prop := ∃ A c, v = .slice A ts.length c ∧ ts.length ≤ c ∧ c ≤ maxLen ∧ (ts ≠ [] → ∃ g, A = some ⟨g, 0, none⟩ ∧ TkR w g ts)
theorem slT_own {w : World} {B : Nat} {v : Value} {ts : List Tk} (h : w.ownsRow B 34 5 v ts.length (tksC ts)) : SlT w v ts := by
  by_cases hn : ts = []
  · subst hn
    rcases h.2 with ⟨rfl, -⟩ | ⟨g, cap, cur, e, hB, hh, hc, hm, hs, ht⟩
    · exact ⟨none, 0, rfl, Nat.le_refl _, by unfold maxLen; omega, fun h => absurd rfl h⟩
    · exact ⟨_, cap, e, hc, hm, fun h => absurd rfl h⟩
  · obtain ⟨g, c, e, h1, h2, -, T⟩ := own_five h hn
    exact ⟨_, c, e, h1, h2, fun _ => ⟨g, rfl, T⟩⟩
theorem SlT.below {w w' : World} {v : Value} {ts : List Tk} (h : SlT w v ts) (hb : Below w.heap.size w w') : SlT w' v ts := by
  obtain ⟨A, c, e, h1, h2, h3⟩ := h
  refine ⟨A, c, e, h1, h2, fun hn => ?_⟩
  obtain ⟨g, e1, T⟩ := h3 hn
  exact ⟨g, e1, T.below hb T.1⟩
set_option maxHeartbeats 4000000 in
theorem same9_any (va vb : Value) (ts : List Tk) (w : World) (ha : SlT w va ts) (hb : SlT w vb ts) (hl : ts.length ≤ 20000) : Calls Tryz.prog 11 #[va, vb] w fun e w' => e = .returned (.bool true) ∧ Below w.heap.size w w' := by
  obtain ⟨A, c, rfl, hc, hm, hA⟩ := ha
  obtain ⟨A', c', rfl, hc', hm', hA'⟩ := hb
  have HL := Lib.hid hl
  obtain ⟨n, hn⟩ : ∃ n, ts.length = n := ⟨_, rfl⟩
  rw [hn] at hc hc' ⊢
  have HN := Lib.hid hn
  have HA := Lib.hid hA
  have HA' := Lib.hid hA'
  clear hA hA' hn hl
  go_enter Tryz.func11, Tryz.ntmps11
  go_wp2_with fail
  go_loopg [5] n (fun gk s5 wr => ∃ i : Nat, s5 = .int .i64 (i : Int) ∧ Hid (gk = n - i ∧ i ≤ n) ∧ Hid (Below w.heap.size w wr))
  case atStart => exact ⟨0, rfl, ⟨rfl, Nat.zero_le _⟩, Below.refl _ _⟩
  case round =>
    obtain ⟨i, rfl, HI, HB⟩ := hrel
    have HL' := HL.out
    have HN' := HN.out
    by_cases hlt : i < n
    · have z0 : (i : Int) < (n : Int) := by omega
      have ovi : IntKind.i64.wrap ((i : Int) + 1) = ((i + 1 : Nat) : Int) := by rw [IntKind.wrap_i64]; omega
      obtain ⟨t, ht⟩ : ∃ t, ts[i]? = some t := ⟨_, List.getElem?_eq_getElem (by rw [HN']; exact hlt)⟩
      have hne : ts ≠ [] := fun e => by rw [e] at ht; simp at ht
      obtain ⟨g, rfl, T⟩ := HA.out hne
      obtain ⟨g', rfl, T'⟩ := HA'.out hne
      obtain ⟨q0, q1, q2, q3, q4⟩ := (T.below HB.out T.1).tok ht
      obtain ⟨r0, r1, r2, r3, r4⟩ := (T'.below HB.out T'.1).tok ht
      clear ht hne T T' HL' HN'
      go_upto_region 6 with fail
      go_quiet (fail)
      clear q0 q1 q2 q3 q4 r0 r1 r2 r3 r4
      go_wp2_with fail
      go_roundg (n - (i + 1))
      case measure => have := HI.out; omega
      case rel => exact ⟨i + 1, by go_num, ⟨rfl, hlt⟩, by first | exact bel_drewN HB.out _ | exact HB.out⟩
    · obtain rfl : i = n := by have := HI.out; omega
      clear hlt HL' HN'
      go_wp2_with fail
      go_ret
      exact ⟨rfl, HB.out⟩
set_option maxHeartbeats 16000000 in
theorem llexes_walk (s : ByteArray) (w : World) (hE : Env9 w) :
    Calls Tryz.prog 3 #[.string s] w fun x w' => x = .returned (.bool true) ∧ Below w.heap.size w w' := by
  have WK := Lib.hid (works9 w hE)
  have HE := Lib.hid hE
  have LX := Lib.hid fun w hE => xLex_any s w hE
  clear hE
  by_cases hbig : 1024 < s.size
  · have h' : (1024 : Int) < (s.size : Int) := by omega
    by_cases h16 : 16384 < s.size
    · have e : lexV s.data.toList = ([], 91, 0) := by unfold lexV; rw [if_pos (by rw [← Lib.size_eq]; exact h16)]
      have h16' : ¬ (s.size : Int) ≤ 16384 := by omega
      rw [e] at LX
      clear e hbig h16
      go_enter Tryz.func3, Tryz.ntmps3
      go_wp2_with fail
      refine WK.out.mono ?_
      rintro e w1 ⟨rfl, b1⟩
      have B1 := Lib.hid b1
      clear b1 WK
      go_wp2_with fail
      refine (LX.out _ (HE.out.below B1.out)).mono ?_
      rintro e w2 ⟨v, rfl, o2, b2⟩
      obtain ⟨A, c, rfl, -, -, -⟩ := slT_own o2
      have B2 := Lib.hid (bel_trans B1.out b2)
      clear b2 o2 LX B1
      dsimp only [List.length_nil]
      go_wp2_with fail
      go_ret
      exact ⟨rfl, B2.out⟩
    · have h16' : (s.size : Int) ≤ 16384 := by omega
      generalize lexV s.data.toList = R at *
      obtain ⟨ts, e0, p0⟩ := R
      clear hbig h16
      go_enter Tryz.func3, Tryz.ntmps3
      go_wp2_with fail
      refine WK.out.mono ?_
      rintro e w1 ⟨rfl, b1⟩
      have B1 := Lib.hid b1
      clear b1 WK
      go_wp2_with fail
      refine (LX.out _ (HE.out.below B1.out)).mono ?_
      rintro e w2 ⟨v, rfl, o2, b2⟩
      have B2 := Lib.hid (bel_trans B1.out b2)
      clear b2 o2 LX B1
      dsimp only
      go_wp2_with fail
      go_ret
      exact ⟨rfl, B2.out⟩
  · have h' : ¬ (1024 : Int) < (s.size : Int) := by omega
    have FA := Lib.hid fun w => far9_any s w (by omega)
    have PO := Lib.hid fun w => powers9_any s w (by omega)
    have YL := Lib.hid fun hF hP w => yLex_any s (by omega) (parse_ok (S := s.data.toList) hF hP) w
    have W1 := Lib.hid fun w hE => xIsWord_any s w (by omega) hE
    have W2 := Lib.hid fun w => yIsWord_any s w
    have N1 := Lib.hid fun w hE => xIsName_any s w (by omega) hE
    have N2 := Lib.hid fun w => yIsName_any s w (by omega)
    have TL : Hid ((lexV s.data.toList).1.length ≤ 20000) := by
      show _ ≤ _
      have hg := gpN_add s.data.toList
      have sl := Lib.size_eq s
      by_cases hb : (lexV s.data.toList).2.1 = 0
      · have := run_len (lexV_good (s := s.data.toList) (by omega) hb).1
        omega
      · rw [(lexV_bad (s := s.data.toList) (by omega) hb).1]
        simp
    generalize lexV s.data.toList = R at *
    obtain ⟨ts, e0, p0⟩ := R
    dsimp only at TL
    generalize kwS.contains s.data.toList = KW at *
    generalize isnV s.data.toList = KN at *
    clear hbig
    go_enter Tryz.func3, Tryz.ntmps3
    go_wp2_with fail
    refine WK.out.mono ?_
    rintro e w1 ⟨rfl, b1⟩
    have B1 := Lib.hid b1
    clear b1 WK
    go_wp2_with fail
    refine (FA.out _).mono ?_
    rintro e w2 ⟨⟨F, rfl, hF⟩, rfl⟩
    have HF := Lib.hid hF
    clear hF FA
    go_wp2_with fail
    refine (PO.out _).mono ?_
    rintro e w2 ⟨⟨P, rfl, hP⟩, rfl⟩
    have HP := Lib.hid hP
    clear hP PO
    cases F
    · cases P
      · have fo := HF.out rfl
        have po := HP.out rfl
        have Y := Lib.hid fun w => YL.out fo po w
        clear fo po YL HF HP
        go_wp2_with fail
        refine (LX.out _ (HE.out.below B1.out)).mono ?_
        rintro e w2 ⟨v, rfl, o2, b2⟩
        have S2 := Lib.hid (slT_own o2)
        have B2 := Lib.hid (bel_trans B1.out b2)
        clear b2 o2 LX
        dsimp only
        go_wp2_with fail
        refine (Y.out _).mono ?_
        rintro e w3 ⟨v', rfl, o3, b3⟩
        have S3 := Lib.hid (slT_own o3)
        have S2' := Lib.hid (S2.out.below b3)
        have B3 := Lib.hid (bel_trans B2.out b3)
        clear b3 o3 Y S2 B2
        dsimp only
        go_wp2_with fail
        refine (same9_any v v' ts _ S2'.out S3.out TL.out).mono ?_
        rintro e w4 ⟨rfl, b4⟩
        have B4 := Lib.hid (bel_trans B3.out b4)
        clear b4 S2' S3 B3
        go_wp2_with fail
        refine (W1.out _ (HE.out.below B4.out)).mono ?_
        rintro e w5 ⟨rfl, b5⟩
        have B5 := Lib.hid (bel_trans B4.out b5)
        clear b5 W1 B4
        go_wp2_with fail
        refine (W2.out _).mono ?_
        rintro e w6 ⟨rfl, rfl⟩
        go_wp2_with fail
        refine (N1.out _ (HE.out.below B5.out)).mono ?_
        rintro e w7 ⟨rfl, b7⟩
        have B7 := Lib.hid (bel_trans B5.out b7)
        clear b7 N1 B5
        go_wp2_with fail
        refine (N2.out _).mono ?_
        rintro e w8 ⟨rfl, rfl⟩
        go_wp2_with fail
        go_ret
        exact ⟨rfl, B7.out⟩
      · go_wp2_with fail
        go_ret
        exact ⟨rfl, B1.out⟩
    · go_wp2_with fail
      go_ret
      exact ⟨rfl, B1.out⟩
end Go.Proofs.YtkhddadhkkffnaaGreatDoor
