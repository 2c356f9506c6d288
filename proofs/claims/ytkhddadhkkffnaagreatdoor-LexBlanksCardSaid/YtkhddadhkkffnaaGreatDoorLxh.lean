/-
  Contract of lex.first: the token that a text begins with. Conditions: the listed tables stand; texts of at most 1048576 bytes.
-/
import Derived.Test.YtkhddadhkkffnaaGreatDoorLxg
namespace Go.Proofs.YtkhddadhkkffnaaGreatDoor
open Go.RowKit Go.Maps
set_option maxRecDepth 100000

/-- What a text begins with came back: its error, its length, its token. -/
def RetFst (l : List UInt8) (w : World) (e : Ending) (w' : World) : Prop := ∃ (t : Tk) (n : Int), e = .returned (.tuple #[tkA t, .int .i64 n, .int .i64 (fiE l)]) ∧ (fiE l = 0 → t = fiT l 0 ∧ n = (fiN l : Int)) ∧ Below w.heap.size w w'
theorem num_asc (l : List UInt8) : ∀ (j : Nat) (b : UInt8), (l.take (nuL l))[j]? = some b → b.toNat < 128 := by
  intro j b hb
  by_cases hj : j < nuL l
  · rw [List.getElem?_take, if_pos hj] at hb
    obtain ⟨c, e, h⟩ := num_in l j hj
    rw [hb] at e
    obtain rfl := Option.some.inj e
    rcases h with h | ⟨rfl, -⟩ | ⟨-, (rfl | rfl) | ⟨rfl | rfl, -⟩⟩
    · unfold isDig at h
      simp only [Bool.and_eq_true, decide_eq_true_eq] at h
      omega
    all_goals decide
  · rw [List.getElem?_take, if_neg hj] at hb
    cases hb
theorem num_dig {l : List UInt8} (h0 : nuL l ≠ 0) (hF : nuF l = false) : digB (l.take (nuL l)) = true := by
  have hd : dgL l ≠ 0 := fun h => h0 (by unfold nuL; rw [if_pos h])
  have he : nuL l ≤ dgL l := by
    unfold nuF at hF
    simpa using hF
  refine digB_of (List.all_eq_true.2 fun b hb => ?_) ?_
  · obtain ⟨j, hj⟩ := List.getElem?_of_mem hb
    by_cases hl : j < nuL l
    · rw [List.getElem?_take, if_pos hl] at hj
      obtain ⟨c, e1, e2⟩ := dg_in l j (by omega)
      rw [hj] at e1
      obtain rfl := Option.some.inj e1
      exact e2
    · rw [List.getElem?_take, if_neg hl] at hj
      cases hj
  · intro e
    have := congrArg List.length e
    have h1 := nuL_le l
    rw [List.length_take, List.length_nil] at this
    omega
theorem take_str (s : ByteArray) (k : Nat) : (s.extract 0 k).data.toList = s.data.toList.take k := ext_front s k
set_option maxHeartbeats 1600000 in
theorem xFirst_any (s : ByteArray) (g : Nat) (w : World) (hs : s.size ≤ 1048576) (hE : Env9 w) (hK : KwOk w g) :
    Calls Tryz.prog 19 #[.string s, .map (some g)] w (RetFst s.data.toList w) := by
  have N := Lib.hid fun w => xName_any s w
  have nb := nmL_le s.data.toList
  rw [← Lib.size_eq] at nb
  by_cases h1 : nmL s.data.toList = 0
  · have U := Lib.hid fun w => xNumber_any s w hs
    have ub := nuL_le s.data.toList
    rw [← Lib.size_eq] at ub
    rw [h1] at N
    clear nb
    by_cases h2 : nuL s.data.toList = 0
    · have S := Lib.hid fun w => xSign_any s w
      have sb := (siL_le s.data.toList).1
      rw [← Lib.size_eq] at sb
      rw [h2] at U
      clear ub
      generalize nuF s.data.toList = fl at *
      by_cases h3 : siL s.data.toList = 0
      · have hE' : fiE s.data.toList = 90 := by unfold fiE; rw [if_neg (by omega), if_neg (by omega), if_neg (by omega)]
        rw [h3] at S
        unfold RetFst
        rw [hE']
        clear hE' h1 h2 h3 sb
        go_enter Tryz.func19, Tryz.ntmps19
        go_wp2_with fail
        refine (N.out _).mono ?_
        rintro e w1 ⟨rfl, hb1⟩
        have K1 := Blk.made hb1
        have HB1 := Lib.hid (bel_trans (bel_alloc (Below.refl _ _) _) hb1)
        clear hb1 N hE hK
        go_wp2_with fail
        refine (U.out _).mono ?_
        rintro e w2 ⟨rfl, hb2⟩
        have K2 := K1.below hb2 K1.lt
        have HB2 := Lib.hid (bel_trans HB1.out hb2)
        clear hb2 K1 HB1 U
        go_wp2_with fail
        refine (S.out _).mono ?_
        rintro e w3 ⟨rfl, rfl⟩
        obtain ⟨⟨c0, c1, c2, c3, c4⟩, f0, f1, f2, f3, f4⟩ := K2.five
        clear S
        go_wp2_with fail
        have K3 := K2.put5 (.int .u8 0) (.int .i64 0) (.string ⟨#[]⟩) (.int .i32 0) (.int .u64 0)
        have HB3 := Lib.hid (bel_put5 HB2.out (Nat.le_refl _) (.int .u8 0) (.int .i64 0) (.string ⟨#[]⟩) (.int .i32 0) (.int .u64 0))
        unfold wput5 at K3 HB3
        obtain ⟨⟨q0, q1, q2, q3, q4⟩, -⟩ := K3.five
        exact bodyPost_ret (by simp [results, Tryz.results19, go_sem, q0, q1, q2, q3, q4]; (try rfl)) rfl ⟨noT, 0, rfl, fun he => by omega, HB3.out⟩
      · have hE' : fiE s.data.toList = 0 := by unfold fiE; rw [if_neg (by omega), if_neg (by omega), if_pos h3]
        have hT' : Hid ((⟨5, 0, s.data.toList.take (siL s.data.toList), 0, 0⟩ : Tk) = fiT s.data.toList 0) := by
          show _ = _
          unfold fiT
          rw [if_neg (by omega), if_neg (by omega)]
        have hN' : Hid ((siL s.data.toList : Int) = (fiN s.data.toList : Int)) := by show _ = _; unfold fiN; rw [if_neg (by omega), if_neg (by omega)]
        unfold RetFst
        rw [hE']
        have h0 : (0 : Int) < (siL s.data.toList : Int) := by omega
        have hl : (siL s.data.toList : Int) ≤ (s.size : Int) := by omega
        have hx := take_str s (siL s.data.toList)
        rw [← hx] at hT'
        generalize fiT s.data.toList 0 = T0 at *
        generalize fiN s.data.toList = N0 at *
        generalize siL s.data.toList = n at *
        clear hE' h1 h2 h3 sb hx
        go_enter Tryz.func19, Tryz.ntmps19
        go_wp2_with fail
        refine (N.out _).mono ?_
        rintro e w1 ⟨rfl, hb1⟩
        have K1 := Blk.made hb1
        have HB1 := Lib.hid (bel_trans (bel_alloc (Below.refl _ _) _) hb1)
        clear hb1 N hE hK
        go_wp2_with fail
        refine (U.out _).mono ?_
        rintro e w2 ⟨rfl, hb2⟩
        have K2 := K1.below hb2 K1.lt
        have HB2 := Lib.hid (bel_trans HB1.out hb2)
        clear hb2 K1 HB1 U
        go_wp2_with fail
        refine (S.out _).mono ?_
        rintro e w3 ⟨rfl, rfl⟩
        obtain ⟨⟨c0, c1, c2, c3, c4⟩, f0, f1, f2, f3, f4⟩ := K2.five
        clear S
        go_wp2_with fail
        have K3 := K2.put5 (.int .u8 5) (.int .i64 0) (.string (s.extract 0 n)) (.int .i32 0) (.int .u64 0)
        have HB3 := Lib.hid (bel_put5 HB2.out (Nat.le_refl _) (.int .u8 5) (.int .i64 0) (.string (s.extract 0 n)) (.int .i32 0) (.int .u64 0))
        unfold wput5 at K3 HB3
        obtain ⟨⟨q0, q1, q2, q3, q4⟩, -⟩ := K3.five
        refine bodyPost_ret (by simp [results, Tryz.results19, go_sem, q0, q1, q2, q3, q4]; (try rfl)) rfl ⟨⟨5, 0, (s.extract 0 n).data.toList, 0, 0⟩, n, ?_, fun _ => ⟨hT'.out, hN'.out⟩, HB3.out⟩
        rw [tkA_of]
    · have hE' : fiE s.data.toList = nmE (s.data.toList.take (nuL s.data.toList)) (nuF s.data.toList) := by
        unfold fiE nmE flE
        rw [if_neg (by omega), if_pos h2, List.length_take, ← Lib.size_eq, Nat.min_eq_left ub]
      have hT' : Hid (nmT (s.data.toList.take (nuL s.data.toList)) (nuF s.data.toList) = fiT s.data.toList 0) := by
        show _ = _
        unfold nmT fiT flT
        cases nuF s.data.toList <;> simp [h1, h2]
      have hN' : Hid ((nuL s.data.toList : Int) = (fiN s.data.toList : Int)) := by show _ = _; unfold fiN; rw [if_neg (by omega), if_pos h2]
      have C := Lib.hid fun w hE => xNumT_any (s.extract 0 (nuL s.data.toList)) (nuF s.data.toList) w (by rw [Lib.size_eq, take_str, List.length_take, ← Lib.size_eq]; omega) (fun j b hb => num_asc s.data.toList j b (by rw [← take_str]; exact hb)) (fun hf => by rw [take_str]; exact num_dig h2 hf) hE
      rw [take_str] at C
      unfold RetFst
      rw [hE']
      clear hE'
      have h0 : (0 : Int) < (nuL s.data.toList : Int) := by omega
      have hl : (nuL s.data.toList : Int) ≤ (s.size : Int) := by omega
      generalize nmE (s.data.toList.take (nuL s.data.toList)) (nuF s.data.toList) = E at *
      generalize nmT (s.data.toList.take (nuL s.data.toList)) (nuF s.data.toList) = T at *
      generalize fiT s.data.toList 0 = T0 at *
      generalize fiN s.data.toList = N0 at *
      generalize nuL s.data.toList = n at *
      generalize nuF s.data.toList = fl at *
      clear ub h1 h2
      go_enter Tryz.func19, Tryz.ntmps19
      go_wp2_with fail
      refine (N.out _).mono ?_
      rintro e w1 ⟨rfl, hb1⟩
      have K1 := Blk.made hb1
      have HB1 := Lib.hid (bel_trans (bel_alloc (Below.refl _ _) _) hb1)
      clear hb1 N hK
      go_wp2_with fail
      refine (U.out _).mono ?_
      rintro e w2 ⟨rfl, hb2⟩
      have K2 := K1.below hb2 K1.lt
      have HB2 := Lib.hid (bel_trans HB1.out hb2)
      have HE2 := Lib.hid (hE.below HB2.out)
      clear hb2 K1 HB1 U hE
      go_wp2_with fail
      refine (C.out _ HE2.out).mono ?_
      rintro e w3 ⟨⟨k, a, x, m, f⟩, rfl, hT, hb3⟩
      have HT := Lib.hid hT
      have K3 := K2.below hb3 K2.lt
      have HB3 := Lib.hid (bel_trans HB2.out hb3)
      obtain ⟨⟨c0, c1, c2, c3, c4⟩, f0, f1, f2, f3, f4⟩ := K3.five
      have lt3 := K3.lt
      clear hb3 C hT K2 HB2 HE2
      unfold tkA
      dsimp only
      go_wp2_with fail
      have K4 := (K3.put5 (.int .u8 k) (.int .i64 a) (.string ⟨x.toArray⟩) (.int .i32 m) (.int .u64 f)).alloc (.cells #[.int .u8 k, .int .i64 a, .string ⟨x.toArray⟩, .int .i32 m, .int .u64 f] 34)
      have HB4 := Lib.hid (bel_alloc (bel_put5 HB3.out (Nat.le_refl _) (.int .u8 k) (.int .i64 a) (.string ⟨x.toArray⟩) (.int .i32 m) (.int .u64 f)) (.cells #[.int .u8 k, .int .i64 a, .string ⟨x.toArray⟩, .int .i32 m, .int .u64 f] 34))
      unfold wput5 at K4 HB4
      obtain ⟨⟨q0, q1, q2, q3, q4⟩, -⟩ := K4.five
      refine bodyPost_ret (by simp [results, Tryz.results19, go_sem, q0, q1, q2, q3, q4]; (try rfl)) rfl ⟨⟨k, a, x, m, f⟩, n, rfl, fun he => ⟨?_, hN'.out⟩, HB4.out⟩
      rw [HT.out he]
      exact hT'.out
  · have hE' : fiE s.data.toList = wdE (s.data.toList.take (nmL s.data.toList)) := by
      unfold fiE wdE
      rw [if_pos h1, List.length_take, ← Lib.size_eq, Nat.min_eq_left nb]
    have hT' : Hid (wdT (s.data.toList.take (nmL s.data.toList)) = fiT s.data.toList 0) := by
      show _ = _
      unfold wdT fiT
      rw [if_pos h1]
    have hN' : Hid ((nmL s.data.toList : Int) = (fiN s.data.toList : Int)) := by show _ = _; unfold fiN; rw [if_pos h1]
    have C := Lib.hid fun w hK => xWordT_any (s.extract 0 (nmL s.data.toList)) g w (by rw [Lib.size_eq, take_str, List.length_take, ← Lib.size_eq]; omega) hK
    rw [take_str] at C
    unfold RetFst
    rw [hE']
    clear hE'
    have h0 : (0 : Int) < (nmL s.data.toList : Int) := by omega
    have hl : (nmL s.data.toList : Int) ≤ (s.size : Int) := by omega
    generalize wdE (s.data.toList.take (nmL s.data.toList)) = E at *
    generalize wdT (s.data.toList.take (nmL s.data.toList)) = T at *
    generalize fiT s.data.toList 0 = T0 at *
    generalize fiN s.data.toList = N0 at *
    generalize nmL s.data.toList = n at *
    clear nb h1
    go_enter Tryz.func19, Tryz.ntmps19
    go_wp2_with fail
    refine (N.out _).mono ?_
    rintro e w1 ⟨rfl, hb1⟩
    have K1 := Blk.made hb1
    have HB1 := Lib.hid (bel_trans (bel_alloc (Below.refl _ _) _) hb1)
    have HK1 := Lib.hid (hK.below HB1.out hK.lt)
    clear hb1 N hE hK
    go_wp2_with fail
    refine (C.out _ HK1.out).mono ?_
    rintro e w2 ⟨⟨k, a, x, m, f⟩, rfl, hT, hb2⟩
    have HT := Lib.hid hT
    have K2 := K1.below hb2 K1.lt
    have HB2 := Lib.hid (bel_trans HB1.out hb2)
    obtain ⟨⟨c0, c1, c2, c3, c4⟩, f0, f1, f2, f3, f4⟩ := K2.five
    have lt2 := K2.lt
    clear hb2 C hT K1 HK1 HB1
    unfold tkA
    dsimp only
    go_wp2_with fail
    have K3 := (K2.put5 (.int .u8 k) (.int .i64 a) (.string ⟨x.toArray⟩) (.int .i32 m) (.int .u64 f)).alloc (.cells #[.int .u8 k, .int .i64 a, .string ⟨x.toArray⟩, .int .i32 m, .int .u64 f] 34)
    have HB3 := Lib.hid (bel_alloc (bel_put5 HB2.out (Nat.le_refl _) (.int .u8 k) (.int .i64 a) (.string ⟨x.toArray⟩) (.int .i32 m) (.int .u64 f)) (.cells #[.int .u8 k, .int .i64 a, .string ⟨x.toArray⟩, .int .i32 m, .int .u64 f] 34))
    unfold wput5 at K3 HB3
    obtain ⟨⟨q0, q1, q2, q3, q4⟩, -⟩ := K3.five
    refine bodyPost_ret (by simp [results, Tryz.results19, go_sem, q0, q1, q2, q3, q4]; (try rfl)) rfl ⟨⟨k, a, x, m, f⟩, n, rfl, fun he => ⟨?_, hN'.out⟩, HB3.out⟩
    rw [HT.out he]
    exact hT'.out
end Go.Proofs.YtkhddadhkkffnaaGreatDoor
