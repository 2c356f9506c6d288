/-
  Contracts of lex's lengths of exponents and numbers. Conditions: texts of at most 1048576 bytes.
-/
import Derived.Test.YtkhddadhkkffnaaGreatDoorLxb
namespace Go.Proofs.YtkhddadhkkffnaaGreatDoor
open Go.RowKit
set_option maxRecDepth 100000

/-- A string from a place on. -/
theorem drop_str (s : ByteArray) (k : Nat) : (s.extract k s.size).data.toList = s.data.toList.drop k := ext_back s k
set_option maxHeartbeats 1600000 in
theorem xExponent_any (s : ByteArray) (w : World) (hs : s.size ≤ 1048576) :
    Calls Tryz.prog 59 #[.string s] w fun e w' => e = .returned (.int .i64 (exL s.data.toList)) ∧ Below w.heap.size w w' := by
  have C := Lib.hid fun w => xStarts_any s ⟨#[101, 69]⟩ w
  cases hl : s.data.toList with
  | nil =>
    rw [hl] at C
    have C' : Hid (∀ w, Calls Tryz.prog 62 #[.string s, .string ⟨#[101, 69]⟩] w fun e w' => e = .returned (.bool false) ∧ w = w') := C.out
    clear C hl
    go_enter Tryz.func59, Tryz.ntmps59
    go_wp2_with fail
    refine (C'.out _).mono ?_
    rintro e w1 ⟨rfl, rfl⟩
    go_wp2_with fail
    go_ret
    exact ⟨rfl, Below.refl _ _⟩
  | cons b r =>
    have hb : stB (b :: r) [101, 69] = decide (b = 101 ∨ b = 69) := by
      show ([101, 69] : List UInt8).contains b = _
      rw [Bool.eq_iff_iff]
      simp
    rw [hl] at C
    change Hid (∀ w, Calls Tryz.prog 62 #[.string s, .string ⟨#[101, 69]⟩] w fun e w' => e = .returned (.bool (stB (b :: r) [101, 69])) ∧ w = w') at C
    rw [hb] at C
    have sz : s.size = r.length + 1 := by rw [Lib.size_eq, hl]; rfl
    by_cases hE : b = 101 ∨ b = 69
    · rw [decide_eq_true hE] at C
      have hs1 : (1 : Int) ≤ (s.size : Int) := by omega
      have d1 : (s.extract 1 s.size).data.toList = r := by rw [drop_str, hl]; rfl
      have d2 : (s.extract 2 s.size).data.toList = r.drop 1 := by rw [drop_str, hl]; rfl
      have S := Lib.hid fun w => xStarts_any (s.extract 1 s.size) ⟨#[43, 45]⟩ w
      have D1 := Lib.hid fun w => xDigits_any (s.extract 1 s.size) w
      have D2 := Lib.hid fun w => xDigits_any (s.extract 2 s.size) w
      rw [d1] at S D1
      rw [d2] at D2
      change Hid (∀ w, Calls Tryz.prog 62 #[.string (s.extract 1 s.size), .string ⟨#[43, 45]⟩] w fun e w' => e = .returned (.bool (stB r [43, 45])) ∧ w = w') at S
      have hsg : stB r [43, 45] = decide (sgL r = 1) := by
        cases r with
        | nil => rfl
        | cons c r =>
          show ([43, 45] : List UInt8).contains c = _
          rw [sgL_cons, Bool.eq_iff_iff]
          by_cases h : c = 43 ∨ c = 45
          · rw [if_pos h]; simpa using h
          · rw [if_neg h]; simpa using h
      have sb := sgL_le r
      by_cases h1 : sgL r = 1
      · rw [hsg, decide_eq_true h1] at S
        have hs2 : (2 : Int) ≤ (s.size : Int) := by omega
        have bd := dgL_le (r.drop 1)
        rw [List.length_drop] at bd
        have ov : IntKind.i64.wrap (2 + (dgL (r.drop 1) : Int)) = 2 + dgL (r.drop 1) := by rw [IntKind.wrap_i64]; omega
        have F : Hid ((if dgL (r.drop 1) = 0 then 0 else 2 + (dgL (r.drop 1) : Int)) = (exL (b :: r) : Int)) := by
          show _ = _
          rw [exL_cons, h1]
          by_cases h : dgL (r.drop 1) = 0
          · rw [if_pos h, if_neg (fun k => k.2 h)]
            rfl
          · rw [if_neg h, if_pos ⟨hE, h⟩]
            omega
        clear d1 d2 hb hl hE D1 hsg sz
        generalize dgL (r.drop 1) = n at *
        by_cases h : n = 0
        · subst h
          go_enter Tryz.func59, Tryz.ntmps59
          go_wp2_with fail
          refine (C.out _).mono ?_
          rintro e w1 ⟨rfl, rfl⟩
          go_wp2_with fail
          refine (S.out _).mono ?_
          rintro e w1 ⟨rfl, rfl⟩
          go_wp2_with fail
          refine (D2.out _).mono ?_
          rintro e w2 ⟨rfl, hb⟩
          have HB := Lib.hid hb
          clear hb
          go_wp2_with fail
          go_ret
          exact ⟨ret_int F.out, HB.out⟩
        · have h' : ((n : Int) == 0) = false := by rw [beq_eq_false_iff_ne]; omega
          rw [if_neg h] at F
          go_enter Tryz.func59, Tryz.ntmps59
          go_wp2_with fail
          refine (C.out _).mono ?_
          rintro e w1 ⟨rfl, rfl⟩
          go_wp2_with fail
          refine (S.out _).mono ?_
          rintro e w1 ⟨rfl, rfl⟩
          go_wp2_with fail
          refine (D2.out _).mono ?_
          rintro e w2 ⟨rfl, hb⟩
          have HB := Lib.hid hb
          clear hb
          go_wp2_with fail
          go_ret
          exact ⟨ret_int F.out, HB.out⟩
      · have h0 : sgL r = 0 := by omega
        rw [hsg, decide_eq_false h1] at S
        have bd := dgL_le r
        have ov : IntKind.i64.wrap (1 + (dgL r : Int)) = 1 + dgL r := by rw [IntKind.wrap_i64]; omega
        have F : Hid ((if dgL r = 0 then 0 else 1 + (dgL r : Int)) = (exL (b :: r) : Int)) := by
          show _ = _
          rw [exL_cons, h0, List.drop_zero]
          by_cases h : dgL r = 0
          · rw [if_pos h, if_neg (fun k => k.2 h)]
            rfl
          · rw [if_neg h, if_pos ⟨hE, h⟩]
            omega
        clear d1 d2 hb hl hE D2 hsg sz
        generalize dgL r = n at *
        by_cases h : n = 0
        · subst h
          go_enter Tryz.func59, Tryz.ntmps59
          go_wp2_with fail
          refine (C.out _).mono ?_
          rintro e w1 ⟨rfl, rfl⟩
          go_wp2_with fail
          refine (S.out _).mono ?_
          rintro e w1 ⟨rfl, rfl⟩
          go_wp2_with fail
          refine (D1.out _).mono ?_
          rintro e w2 ⟨rfl, hb⟩
          have HB := Lib.hid hb
          clear hb
          go_wp2_with fail
          go_ret
          exact ⟨ret_int F.out, HB.out⟩
        · have h' : ((n : Int) == 0) = false := by rw [beq_eq_false_iff_ne]; omega
          rw [if_neg h] at F
          go_enter Tryz.func59, Tryz.ntmps59
          go_wp2_with fail
          refine (C.out _).mono ?_
          rintro e w1 ⟨rfl, rfl⟩
          go_wp2_with fail
          refine (S.out _).mono ?_
          rintro e w1 ⟨rfl, rfl⟩
          go_wp2_with fail
          refine (D1.out _).mono ?_
          rintro e w2 ⟨rfl, hb⟩
          have HB := Lib.hid hb
          clear hb
          go_wp2_with fail
          go_ret
          exact ⟨ret_int F.out, HB.out⟩
    · rw [decide_eq_false hE] at C
      have F : Hid ((0 : Int) = (exL (b :: r) : Int)) := by
        show _ = _
        rw [exL_cons, if_neg (by simp [hE])]
        rfl
      clear hb hl hE sz
      go_enter Tryz.func59, Tryz.ntmps59
      go_wp2_with fail
      refine (C.out _).mono ?_
      rintro e w1 ⟨rfl, rfl⟩
      go_wp2_with fail
      go_ret
      exact ⟨ret_int F.out, Below.refl _ _⟩

set_option maxHeartbeats 800000 in
theorem xNumber_any (s : ByteArray) (w : World) (hs : s.size ≤ 1048576) :
    Calls Tryz.prog 34 #[.string s] w fun e w' => e = .returned (.tuple #[.int .i64 (nuL s.data.toList), .bool (nuF s.data.toList)]) ∧ Below w.heap.size w w' := by
  have D := Lib.hid fun w => xDigits_any s w
  have b1 := dgL_le s.data.toList
  rw [← Lib.size_eq] at b1
  by_cases h : dgL s.data.toList = 0
  · rw [h] at D
    have F1 : Hid ((0 : Int) = (nuL s.data.toList : Int)) := by show _ = _; unfold nuL; rw [if_pos h]; rfl
    have F2 : Hid (false = nuF s.data.toList) := by show _ = _; unfold nuF nuL; rw [if_pos h, decide_eq_false (by omega)]
    clear h b1
    go_enter Tryz.func34, Tryz.ntmps34
    go_wp2_with fail
    refine (D.out _).mono ?_
    rintro e w1 ⟨rfl, hb⟩
    have HB := Lib.hid hb
    clear hb
    go_wp2_with fail
    exact bodyPost_ret (by simp [results, Tryz.results34, go_sem]; (try rfl)) rfl ⟨by rw [← F1.out, ← F2.out], HB.out⟩
  · have h' : ((dgL s.data.toList : Int) == 0) = false := by rw [beq_eq_false_iff_ne]; omega
    have X1 := Lib.hid fun w => xFraction_any (s.extract (dgL s.data.toList) s.size) w (by rw [Lib.size_eq, drop_str, List.length_drop, ← Lib.size_eq]; omega)
    rw [drop_str] at X1
    have b2 := frL_le (s.data.toList.drop (dgL s.data.toList))
    rw [List.length_drop, ← Lib.size_eq] at b2
    have X2 := Lib.hid fun w => xExponent_any (s.extract (nuA s.data.toList) s.size) w (by rw [Lib.size_eq, drop_str, List.length_drop, ← Lib.size_eq]; omega)
    rw [drop_str] at X2
    have b3 := exL_le (s.data.toList.drop (nuA s.data.toList))
    rw [List.length_drop, ← Lib.size_eq] at b3
    have b4 := nuA_le s.data.toList
    rw [← Lib.size_eq] at b4
    have eA : nuA s.data.toList = dgL s.data.toList + frL (s.data.toList.drop (dgL s.data.toList)) := rfl
    have F1 : Hid ((nuA s.data.toList : Int) + exL (s.data.toList.drop (nuA s.data.toList)) = (nuL s.data.toList : Int)) := by show _ = _; unfold nuL; rw [if_neg h]; omega
    have F2 : Hid (decide ((dgL s.data.toList : Int) < (nuA s.data.toList : Int) + exL (s.data.toList.drop (nuA s.data.toList))) = nuF s.data.toList) := by
      show _ = _
      unfold nuF nuL
      rw [if_neg h, decide_eq_decide]
      omega
    generalize exL (s.data.toList.drop (nuA s.data.toList)) = x at *
    generalize nuA s.data.toList = a at *
    generalize frL (s.data.toList.drop (dgL s.data.toList)) = f at *
    generalize dgL s.data.toList = d at *
    have ov1 : IntKind.i64.wrap ((d : Int) + f) = a := by rw [IntKind.wrap_i64]; omega
    have ov2 : IntKind.i64.wrap ((a : Int) + x) = a + x := by rw [IntKind.wrap_i64]; omega
    have l1 : (d : Int) ≤ (s.size : Int) := by omega
    have l2 : (a : Int) ≤ (s.size : Int) := by omega
    clear eA h b1 b2 b3 b4
    go_enter Tryz.func34, Tryz.ntmps34
    go_wp2_with fail
    refine (D.out _).mono ?_
    rintro e w1 ⟨rfl, hb⟩
    have HB := Lib.hid hb
    clear hb
    go_wp2_with fail
    refine (X1.out _).mono ?_
    rintro e w2 ⟨rfl, hb⟩
    have HB2 := Lib.hid (bel_trans HB.out hb)
    clear hb HB
    go_wp2_with fail
    refine (X2.out _).mono ?_
    rintro e w3 ⟨rfl, hb⟩
    have HB3 := Lib.hid (bel_trans HB2.out hb)
    clear hb HB2
    go_wp2_with fail
    exact bodyPost_ret (by simp [results, Tryz.results34, go_sem]; (try rfl)) rfl ⟨by rw [← F1.out, ← F2.out], HB3.out⟩
end Go.Proofs.YtkhddadhkkffnaaGreatDoor
