/-
  Contracts of lex's lengths of points, exponents, numbers, signs and gaps. Conditions: texts of at most 1048576 bytes; for gaps: a variable of the library holds some integer.
-/
import Derived.Test.YtkhddadhkkffnaaGreatDoorLxa
import Derived.Test.YtkhddadhkkffnaaGreatDoorShelf
import Derived.Test.YtkhddadhkkffnaaGreatDoorMXa
import Derived.Shelf.Strings.SlTrimAscii
namespace Go.Proofs.YtkhddadhkkffnaaGreatDoor
open Go.RowKit
set_option maxRecDepth 100000

def stB (l set : List UInt8) : Bool := match l with
  | [] => false
  | b :: _ => set.contains b
theorem ixb_ge (c : UInt8) : ∀ l : List UInt8, decide (0 ≤ Lib.indexByte l c) = l.contains c
  | [] => rfl
  | b :: l => by
    have ih := ixb_ge c l
    have g := Lib.indexByte_ge l c
    unfold Lib.indexByte
    rw [List.contains_cons]
    by_cases h : b = c
    · subst h
      simp
    · have h1 : (b == c) = false := by simpa using h
      have h2 : (c == b) = false := by simpa using fun e => h e.symm
      rw [h1, h2, Bool.false_or, ← ih]
      by_cases h3 : Lib.indexByte l c = -1
      · rw [h3]
        decide
      · have h4 : (Lib.indexByte l c == -1) = false := by simpa using h3
        rw [h4]
        simp only [Bool.false_eq_true, if_false]
        rw [decide_eq_decide]
        omega
theorem bytes_split (s : ByteArray) (h : s.size ≠ 0) : ∃ (b : UInt8) (r : List UInt8), s.data.toList = b :: r ∧ ∀ h0 : 0 < s.size, s[0]'h0 = b := by
  cases hl : s.data.toList with
  | nil => exact absurd (by rw [Lib.size_eq, hl]; rfl) h
  | cons b r =>
    refine ⟨b, r, rfl, fun h0 => ?_⟩
    have := at_byte s 0 h0
    rw [hl] at this
    exact (Option.some.inj this).symm
theorem nil_of (s : ByteArray) (h : s.size = 0) : s.data.toList = [] := List.eq_nil_of_length_eq_zero (by rw [← Lib.size_eq]; exact h)
theorem emp_of (s : ByteArray) : s.toList.isEmpty = decide (s.size = 0) := by
  rw [Lib.toList_data, Lib.size_eq]
  cases s.data.toList <;> simp
theorem xStarts_any (s t : ByteArray) (w : World) :
    Calls Tryz.prog 62 #[.string s, .string t] w fun e w' => e = .returned (.bool (stB s.data.toList t.data.toList)) ∧ w = w' := by
  by_cases h0 : s.size = 0
  · have e : s.toList.isEmpty = true := by rw [emp_of, decide_eq_true h0]
    have F : Hid (false = stB s.data.toList t.data.toList) := by show _ = _; rw [nil_of s h0]; rfl
    go_enter Tryz.func62, Tryz.ntmps62
    go_wp2_with fail
    go_ret
    exact ⟨ret_bool F.out, rfl⟩
  · have e : s.toList.isEmpty = false := by rw [emp_of, decide_eq_false h0]
    obtain ⟨b, r, hl, hb⟩ := bytes_split s h0
    have hs0 : 0 < s.size := by omega
    have hs1 : (1 : Int) ≤ (s.size : Int) := by omega
    have S := hb hs0
    have C := Lib.hid fun w => sh_strings_IndexByte t (b.toNat : Int) w
    have hbb : ((b.toNat : Int).toNat.toUInt8) = b := by simp
    rw [hbb] at C
    have F : Hid (decide (0 ≤ Lib.indexByte t.data.toList b) = stB s.data.toList t.data.toList) := by
      show _ = _
      rw [ixb_ge, hl]
      rfl
    clear hl hb hbb
    generalize Lib.indexByte t.data.toList b = i at *
    go_enter Tryz.func62, Tryz.ntmps62
    go_wp2_with fail
    refine (C.out _).mono ?_
    rintro e w' ⟨rfl, rfl⟩
    go_wp2_with fail
    go_ret
    exact ⟨ret_bool F.out, rfl⟩

theorem pre_one (l : List UInt8) (c : UInt8) : Lib.hasPrefix l [c] = true ∧ (∃ r, l = c :: r ∧ Lib.trimPrefix l [c] = r) ∨ Lib.hasPrefix l [c] = false ∧ Lib.trimPrefix l [c] = l ∧ ∀ r, l ≠ c :: r := by
  cases l with
  | nil => exact .inr ⟨rfl, rfl, fun r h => by cases h⟩
  | cons b r =>
    by_cases h : c = b
    · subst h
      have e : Lib.hasPrefix (c :: r) [c] = true := by simp [Lib.hasPrefix]
      refine .inl ⟨e, r, rfl, ?_⟩
      unfold Lib.trimPrefix
      rw [e]
      rfl
    · have e : Lib.hasPrefix (b :: r) [c] = false := by simp [Lib.hasPrefix, List.isPrefixOf, h]
      refine .inr ⟨e, ?_, fun x hx => by injection hx with h1 _; exact h h1.symm⟩
      unfold Lib.trimPrefix
      rw [e]
      rfl
theorem xFraction_any (s : ByteArray) (w : World) (hs : s.size ≤ 1048576) :
    Calls Tryz.prog 58 #[.string s] w fun e w' => e = .returned (.int .i64 (frL s.data.toList)) ∧ Below w.heap.size w w' := by
  have C := Lib.hid fun w => sh_strings_CutPrefix s ⟨#[46]⟩ w
  obtain ⟨t, ht⟩ : ∃ t : ByteArray, t = ⟨(Lib.trimPrefix s.data.toList [46]).toArray⟩ := ⟨_, rfl⟩
  have dt : t.data.toList = Lib.trimPrefix s.data.toList [46] := by rw [ht]
  have D := Lib.hid fun w => xDigits_any t w
  rw [dt] at D
  change Hid (∀ w, Calls Tryz.prog 86 #[.string s, .string ⟨#[46]⟩] w fun e w' => e = .returned (.tuple #[.string ⟨(Lib.trimPrefix s.data.toList [46]).toArray⟩, .bool (Lib.hasPrefix s.data.toList [46])]) ∧ w' = w) at C
  rw [← ht] at C
  rcases pre_one s.data.toList 46 with ⟨e1, r, e2, e3⟩ | ⟨e1, e2, e3⟩
  · rw [e1] at C
    rw [e3] at D
    have bd := dgL_le r
    have : s.size = r.length + 1 := by rw [Lib.size_eq, e2]; rfl
    have ov : IntKind.i64.wrap (1 + (dgL r : Int)) = 1 + dgL r := by rw [IntKind.wrap_i64]; omega
    have F : Hid ((if dgL r = 0 then 0 else 1 + (dgL r : Int)) = (frL s.data.toList : Int)) := by
      show _ = _
      rw [e2, frL_cons]
      by_cases h : dgL r = 0
      · rw [if_pos h, if_neg (fun k => k.2 h)]
        rfl
      · rw [if_neg h, if_pos ⟨rfl, h⟩]
        omega
    clear e1 e2 e3 ht dt
    generalize dgL r = n at *
    by_cases h : n = 0
    · subst h
      go_enter Tryz.func58, Tryz.ntmps58
      go_wp2_with fail
      refine (C.out _).mono ?_
      rintro e w1 ⟨rfl, rfl⟩
      go_wp2_with fail
      refine (D.out _).mono ?_
      rintro e w2 ⟨rfl, hb⟩
      have HB := Lib.hid hb
      clear hb
      go_wp2_with fail
      go_ret
      exact ⟨ret_int F.out, HB.out⟩
    · have h' : ((n : Int) == 0) = false := by rw [beq_eq_false_iff_ne]; omega
      rw [if_neg h] at F
      go_enter Tryz.func58, Tryz.ntmps58
      go_wp2_with fail
      refine (C.out _).mono ?_
      rintro e w1 ⟨rfl, rfl⟩
      go_wp2_with fail
      refine (D.out _).mono ?_
      rintro e w2 ⟨rfl, hb⟩
      have HB := Lib.hid hb
      clear hb
      go_wp2_with fail
      go_ret
      exact ⟨ret_int F.out, HB.out⟩
  · rw [e1] at C
    rw [e2] at D
    have F : Hid ((0 : Int) = (frL s.data.toList : Int)) := by
      show _ = _
      cases hl : s.data.toList with
      | nil => rfl
      | cons b r =>
        rw [frL_cons, if_neg]
        · rfl
        · rintro ⟨h, -⟩
          exact e3 r (by rw [hl, h])
    clear e1 e2 e3 ht dt
    generalize dgL s.data.toList = n at *
    go_enter Tryz.func58, Tryz.ntmps58
    go_wp2_with fail
    refine (C.out _).mono ?_
    rintro e w1 ⟨rfl, rfl⟩
    go_wp2_with fail
    refine (D.out _).mono ?_
    rintro e w2 ⟨rfl, hb⟩
    have HB := Lib.hid hb
    clear hb
    go_wp2_with fail
    go_ret
    exact ⟨ret_int F.out, HB.out⟩

end Go.Proofs.YtkhddadhkkffnaaGreatDoor
