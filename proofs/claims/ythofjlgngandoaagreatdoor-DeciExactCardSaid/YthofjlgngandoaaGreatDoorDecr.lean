/-
  Contracts of deci.read and Parse: what is read of a literal. Conditions: a text of ASCII bytes (at most 400 for read); the listed tables stand.
-/
import Derived.Test.YthofjlgngandoaaGreatDoorDec9
import Derived.Test.YthofjlgngandoaaGreatDoorPatd
import Derived.Test.YthofjlgngandoaaGreatDoorMSa
namespace Go.Proofs.YthofjlgngandoaaGreatDoor
open Go.RowKit
set_option maxRecDepth 100000

def Ascii (s : ByteArray) : Prop := ∀ (j : Nat) (b : UInt8), s.data.toList[j]? = some b → b.toNat < 128
theorem ixa_lt (cs : List UInt8) : ∀ l : List UInt8, Lib.indexAny l cs < l.length
  | [] => by unfold Lib.indexAny; simp
  | b :: l => by
    have := ixa_lt cs l
    unfold Lib.indexAny
    split
    · simp only [List.length_cons]; omega
    · split
      · simp only [List.length_cons]; omega
      · simp only [List.length_cons]; omega
theorem rdI_bd (l : List UInt8) : -1 ≤ rdI l ∧ rdI l < l.length := ⟨Lib.indexAny_ge _ _, ixa_lt _ _⟩
theorem ext_front (s : ByteArray) (k : Nat) : (s.extract 0 k).data.toList = s.data.toList.take k := by
  have := Lib.extract_toList s 0 k
  rw [Lib.toList_data] at this
  rw [this]
  simp
theorem ext_back (s : ByteArray) (k : Nat) : (s.extract k s.size).data.toList = s.data.toList.drop k := by
  have := Lib.extract_toList s k s.size
  rw [Lib.toList_data] at this
  rw [this, List.take_of_length_le (by rw [List.length_drop, Lib.size_eq]; exact Nat.le_refl _)]
theorem cut_len (l p : List UInt8) : (Lib.cut l p).1.length ≤ l.length ∧ (Lib.cut l p).2.1.length ≤ l.length := by
  unfold Lib.cut
  split
  · simp only [List.length_take, List.length_drop]; omega
  · simp
set_option maxHeartbeats 8000000 in
theorem read_any (s : ByteArray) (w : World) (hs : s.size ≤ 400) (ha : Ascii s) (hE : EnvOk w) :
    Calls Tryz.prog 35 #[.string s] w fun x w' => x = .returned (.tuple #[.agg #[.string ⟨(if rdOk s.data.toList then rdD s.data.toList else []).toArray⟩, .int .i64 (if rdOk s.data.toList then rdE s.data.toList else 0)], .bool (rdOk s.data.toList)]) ∧ Below w.heap.size w w' := by
  have CI := Lib.hid fun w => sh_strings_IndexAny_laid s ⟨#[101, 69]⟩ w (by omega) (by decide) ha (fun j b h => by
    have : b ∈ ([101, 69] : List UInt8) := List.mem_of_getElem? h
    simp at this
    rcases this with rfl | rfl <;> decide)
  obtain ⟨i0, i1⟩ := rdI_bd s.data.toList
  rw [← Lib.size_eq] at i1
  obtain ⟨t, ht⟩ : ∃ t : ByteArray, t = ⟨(rdS s.data.toList).toArray⟩ := ⟨_, rfl⟩
  obtain ⟨W, hW⟩ : ∃ t : ByteArray, t = ⟨(rdC s.data.toList).1.toArray⟩ := ⟨_, rfl⟩
  obtain ⟨F, hF⟩ : ∃ t : ByteArray, t = ⟨(rdC s.data.toList).2.1.toArray⟩ := ⟨_, rfl⟩
  have dW : W.data.toList = (rdC s.data.toList).1 := by rw [hW]
  have dF : F.data.toList = (rdC s.data.toList).2.1 := by rw [hF]
  have ls : (rdS s.data.toList).length ≤ s.size := by
    rw [Lib.size_eq]
    unfold rdS
    split
    · rw [List.length_take]; omega
    · omega
  have lc := cut_len (rdS s.data.toList) [46]
  have lt : t.size ≤ 400 := by rw [ht, str_size]; omega
  have lW : W.size ≤ 400 := by rw [Lib.size_eq, dW]; unfold rdC; omega
  have lF : F.size ≤ 400 := by rw [Lib.size_eq, dF]; unfold rdC; omega
  have CC : Hid (∀ (w : World) m, w.cell? ⟨2, 0, none⟩ = some (.int .i64 m) → Calls Tryz.prog 57 #[.string t, .string ⟨#[46]⟩] w fun e w' => e = .returned (.tuple #[.string W, .string F, .bool (rdC s.data.toList).2.2]) ∧ ∃ n, w' = w.drewN n) := by
    intro w m hm
    have := sh_strings_Cut t ⟨#[46]⟩ m w (by omega) hm
    rw [ht, str_data] at this
    rw [ht, hW, hF]
    exact this
  have D1 : Hid (∀ w, Calls Tryz.prog 58 #[.string W] w fun e w' => e = .returned (.bool (digB (rdC s.data.toList).1)) ∧ w = w') := by
    intro w
    rw [← dW]
    exact eIsDigits_any W w (by omega)
  have D2 : Hid (∀ w, Calls Tryz.prog 58 #[.string F] w fun e w' => e = .returned (.bool (digB (rdC s.data.toList).2.1)) ∧ w = w') := by
    intro w
    rw [← dF]
    exact eIsDigits_any F w (by omega)
  have OK : Hid (rdOk s.data.toList = (rdXk s.data.toList && (digB (rdC s.data.toList).1 && (!(rdC s.data.toList).2.2 || digB (rdC s.data.toList).2.1)))) := rfl
  have RD : Hid ((⟨(rdD s.data.toList).toArray⟩ : ByteArray) = W ++ F) := by
    show _ = _
    refine (str_of ?_).symm
    unfold rdD
    rw [← dW, ← dF]
    simp
  have RE : Hid (rdE s.data.toList = rdP s.data.toList - F.size) := by
    show _ = _
    rw [Lib.size_eq, dF]
    rfl
  have PB := rdP_bd s.data.toList
  have T0 : Hid (∀ k : Nat, rdI s.data.toList = (k : Int) → s.extract 0 k = t) := by
    intro k hk
    rw [ht]
    refine str_of ?_
    rw [ext_front]
    unfold rdS
    rw [hk, if_pos (by omega)]
    rfl
  have T1 : Hid (rdI s.data.toList < 0 → s = t ∧ rdP s.data.toList = 0 ∧ rdXk s.data.toList = true) := by
    intro h
    refine ⟨?_, ?_, ?_⟩
    · rw [ht]
      refine str_of ?_
      unfold rdS
      rw [if_neg (by omega)]
    · unfold rdP
      rw [if_neg (by omega)]
    · unfold rdXk
      rw [decide_eq_true h]
      rfl
  have XP : Hid (∀ k : Nat, rdI s.data.toList = (k : Int) → ∀ w, Calls Tryz.prog 56 #[.string (s.extract (k + 1) s.size)] w fun e w' => e = .returned (.tuple #[.int .i64 (rdP s.data.toList), .bool (rdXk s.data.toList)]) ∧ w = w') := by
    intro k hk w
    have e1 : (s.extract (k + 1) s.size).data.toList = rdX s.data.toList := by
      rw [ext_back]
      unfold rdX
      rw [hk]
      rfl
    have := readExp_any (s.extract (k + 1) s.size) w (by rw [Lib.size_eq, ext_back, List.length_drop, ← Lib.size_eq]; omega)
    rw [e1] at this
    have e2 : rdP s.data.toList = rxV (rdX s.data.toList) := by unfold rdP; rw [hk, if_pos (by omega)]
    have e3 : rdXk s.data.toList = rxOk (rdX s.data.toList) := by unfold rdXk; rw [hk, decide_eq_false (by omega)]; rfl
    rw [e2, e3]
    exact this
  have CI' : Hid (∀ w, Calls Tryz.prog 55 #[.string s, .string ⟨#[101, 69]⟩] w fun e w' => e = .returned (.int .i64 (rdI s.data.toList)) ∧ Below w.heap.size w w') := CI.out
  clear CI ht hW hF dW dF ls lc ha
  generalize rdI s.data.toList = i at *
  generalize rdP s.data.toList = p at *
  generalize rdXk s.data.toList = xk at *
  generalize digB (rdC s.data.toList).1 = d1 at *
  generalize digB (rdC s.data.toList).2.1 = d2 at *
  generalize (rdC s.data.toList).2.2 = pt at *
  generalize rdE s.data.toList = re at *
  generalize rdD s.data.toList = rd at *
  generalize rdOk s.data.toList = ok at *
  go_enter Tryz.func35, Tryz.ntmps35
  go_wp2_with fail
  refine (CI'.out _).mono ?_
  rintro x w1 ⟨rfl, hb1⟩
  have K1 := Blk.made hb1
  have HE1 := Lib.hid (hE.below (bel_trans (bel_alloc (Below.refl _ _) _) hb1))
  have HB1 := Lib.hid (bel_trans (bel_alloc (Below.refl _ _) _) hb1)
  clear hb1 CI' hE
  by_cases h0 : 0 ≤ i
  · obtain ⟨k, rfl⟩ : ∃ k : Nat, i = (k : Int) := ⟨i.toNat, by omega⟩
    have X := Lib.hid (XP.out k rfl)
    have T := T0.out k rfl
    clear XP T0 T1
    go_wp2_with fail
    refine (X.out _).mono ?_
    rintro x w2 ⟨rfl, rfl⟩
    clear X
    cases xk
    · obtain rfl : ok = false := OK.out.trans rfl
      obtain ⟨c0, c1, f0, f1⟩ := K1.two
      go_wp2_with fail
      have K2 := K1.put2 (.string ⟨#[]⟩) (.int .i64 0)
      have HB2 := Lib.hid (bel_put2 HB1.out (Nat.le_refl _) (.string ⟨#[]⟩) (.int .i64 0))
      unfold wput2 at K2 HB2
      obtain ⟨q0, q1, -, -⟩ := K2.two
      exact bodyPost_ret (by simp [results, Tryz.results35, go_sem, q0, q1]; (try rfl)) rfl ⟨rfl, HB2.out⟩
    · go_wp2_with fail
      obtain ⟨m, hm⟩ := HE1.out.len
      refine (CC.out _ m hm).mono ?_
      rintro x w3 ⟨rfl, nd, hw3⟩
      have hb3 : Below w1.heap.size w1 w3 := by rw [hw3]; exact below_drewN w1 nd
      have K3 := K1.below hb3 K1.lt
      have HB3 := Lib.hid (bel_trans HB1.out hb3)
      clear hw3 hb3 K1 HB1 hm CC
      obtain ⟨c0, c1, f0, f1⟩ := K3.two
      have o := OK.out
      cases d1
      · obtain rfl : ok = false := o.trans rfl
        clear o OK
        go_wp2_with fail
        refine (D1.out _).mono ?_
        rintro x w4 ⟨rfl, rfl⟩
        go_wp2_with fail
        have K4 := K3.put2 (.string ⟨#[]⟩) (.int .i64 0)
        have HB4 := Lib.hid (bel_put2 HB3.out (Nat.le_refl _) (.string ⟨#[]⟩) (.int .i64 0))
        unfold wput2 at K4 HB4
        obtain ⟨q0, q1, -, -⟩ := K4.two
        exact bodyPost_ret (by simp [results, Tryz.results35, go_sem, q0, q1]; (try rfl)) rfl ⟨rfl, HB4.out⟩
      · cases pt
        · obtain rfl : ok = true := o.trans rfl
          clear o OK
          have ov : IntKind.i64.wrap (p - (F.size : Int)) = p - F.size := by rw [IntKind.wrap_i64]; omega
          go_wp2_with fail
          refine (D1.out _).mono ?_
          rintro x w4 ⟨rfl, rfl⟩
          go_wp2_with fail
          have K4 := K3.put2 (.string (W ++ F)) (.int .i64 (p - F.size))
          have HB4 := Lib.hid (bel_put2 HB3.out (Nat.le_refl _) (.string (W ++ F)) (.int .i64 (p - F.size)))
          unfold wput2 at K4 HB4
          obtain ⟨q0, q1, -, -⟩ := K4.two
          refine bodyPost_ret (by simp [results, Tryz.results35, go_sem, q0, q1]; (try rfl)) rfl ⟨?_, HB4.out⟩
          rw [RD.out, RE.out]
        · cases d2
          · obtain rfl : ok = false := o.trans rfl
            clear o OK
            go_wp2_with fail
            refine (D1.out _).mono ?_
            rintro x w4 ⟨rfl, rfl⟩
            go_wp2_with fail
            refine (D2.out _).mono ?_
            rintro x w4 ⟨rfl, rfl⟩
            go_wp2_with fail
            have K4 := K3.put2 (.string ⟨#[]⟩) (.int .i64 0)
            have HB4 := Lib.hid (bel_put2 HB3.out (Nat.le_refl _) (.string ⟨#[]⟩) (.int .i64 0))
            unfold wput2 at K4 HB4
            obtain ⟨q0, q1, -, -⟩ := K4.two
            exact bodyPost_ret (by simp [results, Tryz.results35, go_sem, q0, q1]; (try rfl)) rfl ⟨rfl, HB4.out⟩
          · obtain rfl : ok = true := o.trans rfl
            clear o OK
            have ov : IntKind.i64.wrap (p - (F.size : Int)) = p - F.size := by rw [IntKind.wrap_i64]; omega
            go_wp2_with fail
            refine (D1.out _).mono ?_
            rintro x w4 ⟨rfl, rfl⟩
            go_wp2_with fail
            refine (D2.out _).mono ?_
            rintro x w4 ⟨rfl, rfl⟩
            go_wp2_with fail
            have K4 := K3.put2 (.string (W ++ F)) (.int .i64 (p - F.size))
            have HB4 := Lib.hid (bel_put2 HB3.out (Nat.le_refl _) (.string (W ++ F)) (.int .i64 (p - F.size)))
            unfold wput2 at K4 HB4
            obtain ⟨q0, q1, -, -⟩ := K4.two
            refine bodyPost_ret (by simp [results, Tryz.results35, go_sem, q0, q1]; (try rfl)) rfl ⟨?_, HB4.out⟩
            rw [RD.out, RE.out]
  · obtain ⟨rfl, rfl, rfl⟩ := T1.out (by omega)
    clear XP T0 T1
    go_wp2_with fail
    obtain ⟨m, hm⟩ := HE1.out.len
    refine (CC.out _ m hm).mono ?_
    rintro x w3 ⟨rfl, nd, hw3⟩
    have hb3 : Below w1.heap.size w1 w3 := by rw [hw3]; exact below_drewN w1 nd
    have K3 := K1.below hb3 K1.lt
    have HB3 := Lib.hid (bel_trans HB1.out hb3)
    clear hw3 hb3 K1 HB1 hm CC
    obtain ⟨c0, c1, f0, f1⟩ := K3.two
    have o := OK.out
    cases d1
    · obtain rfl : ok = false := o.trans rfl
      clear o OK
      go_wp2_with fail
      refine (D1.out _).mono ?_
      rintro x w4 ⟨rfl, rfl⟩
      go_wp2_with fail
      have K4 := K3.put2 (.string ⟨#[]⟩) (.int .i64 0)
      have HB4 := Lib.hid (bel_put2 HB3.out (Nat.le_refl _) (.string ⟨#[]⟩) (.int .i64 0))
      unfold wput2 at K4 HB4
      obtain ⟨q0, q1, -, -⟩ := K4.two
      exact bodyPost_ret (by simp [results, Tryz.results35, go_sem, q0, q1]; (try rfl)) rfl ⟨rfl, HB4.out⟩
    · cases pt
      · obtain rfl : ok = true := o.trans rfl
        clear o OK
        have ov : IntKind.i64.wrap (0 - (F.size : Int)) = 0 - F.size := by rw [IntKind.wrap_i64]; omega
        go_wp2_with fail
        refine (D1.out _).mono ?_
        rintro x w4 ⟨rfl, rfl⟩
        go_wp2_with fail
        have K4 := K3.put2 (.string (W ++ F)) (.int .i64 (-F.size))
        have HB4 := Lib.hid (bel_put2 HB3.out (Nat.le_refl _) (.string (W ++ F)) (.int .i64 (-F.size)))
        unfold wput2 at K4 HB4
        obtain ⟨q0, q1, -, -⟩ := K4.two
        refine bodyPost_ret (by simp [results, Tryz.results35, go_sem, q0, q1]; (try rfl)) rfl ⟨?_, HB4.out⟩
        rw [RD.out, RE.out, Int.zero_sub]
      · cases d2
        · obtain rfl : ok = false := o.trans rfl
          clear o OK
          go_wp2_with fail
          refine (D1.out _).mono ?_
          rintro x w4 ⟨rfl, rfl⟩
          go_wp2_with fail
          refine (D2.out _).mono ?_
          rintro x w4 ⟨rfl, rfl⟩
          go_wp2_with fail
          have K4 := K3.put2 (.string ⟨#[]⟩) (.int .i64 0)
          have HB4 := Lib.hid (bel_put2 HB3.out (Nat.le_refl _) (.string ⟨#[]⟩) (.int .i64 0))
          unfold wput2 at K4 HB4
          obtain ⟨q0, q1, -, -⟩ := K4.two
          exact bodyPost_ret (by simp [results, Tryz.results35, go_sem, q0, q1]; (try rfl)) rfl ⟨rfl, HB4.out⟩
        · obtain rfl : ok = true := o.trans rfl
          clear o OK
          have ov : IntKind.i64.wrap (0 - (F.size : Int)) = 0 - F.size := by rw [IntKind.wrap_i64]; omega
          go_wp2_with fail
          refine (D1.out _).mono ?_
          rintro x w4 ⟨rfl, rfl⟩
          go_wp2_with fail
          refine (D2.out _).mono ?_
          rintro x w4 ⟨rfl, rfl⟩
          go_wp2_with fail
          have K4 := K3.put2 (.string (W ++ F)) (.int .i64 (-F.size))
          have HB4 := Lib.hid (bel_put2 HB3.out (Nat.le_refl _) (.string (W ++ F)) (.int .i64 (-F.size)))
          unfold wput2 at K4 HB4
          obtain ⟨q0, q1, -, -⟩ := K4.two
          refine bodyPost_ret (by simp [results, Tryz.results35, go_sem, q0, q1]; (try rfl)) rfl ⟨?_, HB4.out⟩
          rw [RD.out, RE.out, Int.zero_sub]
end Go.Proofs.YthofjlgngandoaaGreatDoor
