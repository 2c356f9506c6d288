/-
  The reference of layer 9: letters, digits, a text's bytes, words and names. Conditions: texts of at most 1048576 bytes.
  The reference of layer 9: where a number ends, and whether it is a float. Conditions: texts of at most 1048576 bytes; the text begins with a digit there.
-/
import Derived.Test.YtkhddadhkkffnaaGreatDoorMYc
namespace Go.Proofs.YtkhddadhkkffnaaGreatDoor
open Go.RowKit Go.Maps
set_option maxRecDepth 100000

theorem yDigit_any (n : Int) (w : World) : Calls Tryz.prog 25 #[.int .u8 n] w fun e w' => e = .returned (.bool (dgN n)) ∧ w = w' := by
  by_cases h1 : 48 ≤ n
  · have F : Hid (decide (n ≤ 57) = dgN n) := by show _ = _; unfold dgN; rw [decide_eq_true h1]; rfl
    go_enter Tryz.func25, Tryz.ntmps25
    go_wp2_with fail
    go_ret
    exact ⟨ret_bool F.out, rfl⟩
  · have F : Hid (false = dgN n) := by show _ = _; unfold dgN; rw [decide_eq_false h1]; rfl
    go_enter Tryz.func25, Tryz.ntmps25
    go_wp2_with fail
    go_ret
    exact ⟨ret_bool F.out, rfl⟩
theorem yLetter_any (n : Int) (w : World) : Calls Tryz.prog 24 #[.int .u8 n] w fun e w' => e = .returned (.bool (alN n)) ∧ w = w' := by
  by_cases h1 : 65 ≤ n
  · by_cases h2 : n ≤ 90
    · have F : Hid (true = alN n) := by show _ = _; unfold alN; rw [decide_eq_true h1, decide_eq_true h2, Bool.and_self, Bool.or_true, Bool.true_or]
      go_enter Tryz.func24, Tryz.ntmps24
      go_wp2_with fail
      go_ret
      exact ⟨ret_bool F.out, rfl⟩
    · by_cases h3 : 97 ≤ n
      · by_cases h4 : n ≤ 122
        · have F : Hid (true = alN n) := by show _ = _; unfold alN; rw [decide_eq_true h3, decide_eq_true h4]; rfl
          go_enter Tryz.func24, Tryz.ntmps24
          go_wp2_with fail
          go_ret
          exact ⟨ret_bool F.out, rfl⟩
        · have F : Hid ((n == 95) = alN n) := by show _ = _; unfold alN; rw [decide_eq_false h2, decide_eq_false h4, Bool.and_false, Bool.and_false, Bool.eq_iff_iff]; simp
          go_enter Tryz.func24, Tryz.ntmps24
          go_wp2_with fail
          go_ret
          exact ⟨ret_bool F.out, rfl⟩
      · have F : Hid ((n == 95) = alN n) := by show _ = _; unfold alN; rw [decide_eq_false h2, decide_eq_false h3, Bool.and_false, Bool.false_and, Bool.eq_iff_iff]; simp
        go_enter Tryz.func24, Tryz.ntmps24
        go_wp2_with fail
        go_ret
        exact ⟨ret_bool F.out, rfl⟩
  · have h3 : ¬ 97 ≤ n := by omega
    have F : Hid ((n == 95) = alN n) := by show _ = _; unfold alN; rw [decide_eq_false h1, decide_eq_false h3, Bool.false_and, Bool.false_and, Bool.eq_iff_iff]; simp
    go_enter Tryz.func24, Tryz.ntmps24
    go_wp2_with fail
    go_ret
    exact ⟨ret_bool F.out, rfl⟩
/-- The byte at a place, 0 behind the end. -/
def byV (l : List UInt8) (k : Nat) : Int := match l[k]? with
  | some b => b.toNat
  | none => 0
theorem byV_in {s : ByteArray} {k : Nat} (h : k < s.size) : byV s.data.toList k = (s[k].toNat : Int) := by
  unfold byV
  rw [at_byte s k h]
theorem byV_out {s : ByteArray} {k : Nat} (h : ¬ k < s.size) : byV s.data.toList k = 0 := by
  unfold byV
  rw [List.getElem?_eq_none (by rw [← Lib.size_eq]; omega)]
theorem yAt_any (s : ByteArray) (k : Nat) (w : World) : Calls Tryz.prog 20 #[.string s, .int .i64 (k : Int)] w fun e w' => e = .returned (.int .u8 (byV s.data.toList k)) ∧ w = w' := by
  by_cases h : k < s.size
  · have h' : (k : Int) < (s.size : Int) := by omega
    have F := Lib.hid (byV_in h)
    go_enter Tryz.func20, Tryz.ntmps20
    go_wp2_with fail
    go_ret
    exact ⟨ret_int F.out.symm, rfl⟩
  · have h' : ¬ (k : Int) < (s.size : Int) := by omega
    have F := Lib.hid (byV_out h)
    go_enter Tryz.func20, Tryz.ntmps20
    go_wp2_with fail
    go_ret
    exact ⟨ret_int F.out.symm, rfl⟩

/-- Words, a blank behind each. -/
def amW : List UInt8 → List UInt8 → List (List UInt8)
  | _, [] => []
  | acc, b :: r => if b = 32 then acc :: amW [] r else amW (acc ++ [b]) r
theorem drop_at (s : ByteArray) (k : Nat) (h : k < s.size) : s.data.toList.drop k = s[k] :: s.data.toList.drop (k + 1) := by
  have hl : k < s.data.toList.length := by rw [← Lib.size_eq]; exact h
  rw [List.drop_eq_getElem_cons hl]
  rfl
theorem take_next {s : ByteArray} {f k : Nat} (h : k < s.size) (hf : f ≤ k) : (s.data.toList.drop f).take (k + 1 - f) = (s.data.toList.drop f).take (k - f) ++ [s[k]] := by
  have hl : k - f < (s.data.toList.drop f).length := by rw [List.length_drop, ← Lib.size_eq]; omega
  rw [show k + 1 - f = (k - f) + 1 by omega, List.take_succ_eq_append_getElem hl]
  congr 2
  rw [List.getElem_drop]
  have : f + (k - f) = k := by omega
  simp only [this]
  rfl
set_option maxHeartbeats 1600000 in
theorem yAmong_any (s t : ByteArray) (w : World) (ht : t.size ≤ 1000) :
    Calls Tryz.prog 22 #[.string s, .string t] w fun e w' => e = .returned (.bool ((amW [] t.data.toList).contains s.data.toList)) ∧ w = w' := by
  have HT := Lib.hid ht
  clear ht
  generalize hR : (amW [] t.data.toList).contains s.data.toList = R
  have HR := Lib.hid hR
  clear hR
  go_enter Tryz.func22, Tryz.ntmps22
  go_wp2_with fail
  go_loop [5, 6] (fun s5 s6 => ∃ f k : Nat, s5 = .int .i64 (f : Int) ∧ s6 = .int .i64 (k : Int) ∧ f ≤ k ∧ k ≤ t.size ∧ Hid ((amW ((t.data.toList.drop f).take (k - f)) (t.data.toList.drop k)).contains s.data.toList = R)) (fun _ s6 => t.size - (intOf s6).toNat)
  case atStart => exact ⟨0, 0, rfl, rfl, Nat.le_refl _, Nat.zero_le _, HR.out⟩
  case round =>
    obtain ⟨f, k, rfl, rfl, hf, hk, H⟩ := hrel
    have HT' := HT.out
    by_cases hlt : k < t.size
    · have h1 : (k : Int) < (t.size : Int) := by omega
      have DA := drop_at t k hlt
      have TN := take_next hlt hf
      have H' := H.out
      rw [DA] at H'
      have ov : IntKind.i64.wrap ((k : Int) + 1) = ((k + 1 : Nat) : Int) := by rw [IntKind.wrap_i64]; omega
      by_cases hb : t[k] = 32
      · have e : ((t[k]'hlt).toNat : Int) = 32 := byte_eq hb (by decide)
        have f1 : (f : Int) ≤ (k : Int) := by omega
        have f2 : (k : Int) ≤ (t.size : Int) := by omega
        have ME : (t.extract f k).toList = (t.data.toList.drop f).take (k - f) := by rw [Lib.toList_data]; exact mid_str t f k
        have MS : s.toList = s.data.toList := Lib.toList_data s
        have A : amW ((t.data.toList.drop f).take (k - f)) (t[k] :: t.data.toList.drop (k + 1)) = (t.data.toList.drop f).take (k - f) :: amW [] (t.data.toList.drop (k + 1)) := by rw [amW, if_pos hb]
        rw [A, List.contains_cons] at H'
        by_cases hs : (t.data.toList.drop f).take (k - f) = s.data.toList
        · have q : ((t.extract f k).toList == s.toList) = true := by rw [ME, MS, hs]; simp
          have FR : Hid (true = R) := by
            show _ = _
            rw [← H', hs]
            simp
          clear H H' A DA TN hb ME MS hs HT' HR
          go_wp2_with fail
          go_ret
          exact ⟨ret_bool FR.out, rfl⟩
        · have q : ((t.extract f k).toList == s.toList) = false := by rw [ME, MS]; simpa using hs
          have q' : (s.data.toList == (t.data.toList.drop f).take (k - f)) = false := by simpa using fun e => hs e.symm
          rw [q', Bool.false_or] at H'
          have H2 : Hid ((amW ((t.data.toList.drop (k + 1)).take (k + 1 - (k + 1))) (t.data.toList.drop (k + 1))).contains s.data.toList = R) := by
            show _ = _
            rw [Nat.sub_self, List.take_zero]
            exact H'
          clear H H' A DA TN hb ME MS hs q' HR
          go_wp2_with fail
          go_round
          case rel => exact ⟨k + 1, k + 1, by go_num, by go_num, Nat.le_refl _, by omega, H2⟩
          case measure => simp [intOf]; omega
      · have e : (((t[k]'hlt).toNat : Int) == 32) = false := byte_ne hb (by decide)
        rw [amW, if_neg hb, ← TN] at H'
        have H2 : Hid ((amW ((t.data.toList.drop f).take (k + 1 - f)) (t.data.toList.drop (k + 1))).contains s.data.toList = R) := H'
        clear H H' DA TN hb HR
        go_wp2_with fail
        go_round
        case rel => exact ⟨f, k + 1, rfl, by go_num, by omega, by omega, H2⟩
        case measure => simp [intOf]; omega
    · obtain rfl : k = t.size := by omega
      have FR : Hid (false = R) := by
        show _ = _
        rw [← H.out, show t.data.toList.drop t.size = [] from List.drop_eq_nil_of_le (by rw [← Lib.size_eq]; exact Nat.le_refl _)]
        simp [amW]
      clear H HR
      go_wp2_with fail
      go_ret
      exact ⟨ret_bool FR.out, rfl⟩
def kwT2 : List UInt8 := kwText.data.toList ++ [32]
theorem am_kw : amW [] [116, 105, 99, 107, 115, 32, 105, 110, 112, 117, 116, 32, 118, 97, 114, 32, 105, 110, 105, 116, 32, 115, 116, 101, 112, 32, 105, 102, 32, 101, 108, 115, 101, 32, 102, 111, 114, 32, 116, 114, 117, 101, 32, 102, 97, 108, 115, 101, 32, 105, 110, 116, 32, 102, 108, 111, 97, 116, 32, 98, 111, 111, 108, 32, 97, 98, 115, 32, 105, 110, 32] = kwS := by decide +kernel
theorem am_two : amW [] [61, 61, 32, 33, 61, 32, 60, 61, 32, 62, 61, 32, 38, 38, 32, 124, 124, 32, 46, 46, 32] = twoS := by decide +kernel
def oneW : List (List UInt8) := oneS.map fun b => [b]
theorem am_one : amW [] [40, 32, 41, 32, 91, 32, 93, 32, 123, 32, 125, 32, 44, 32, 59, 32, 58, 32, 61, 32, 60, 32, 62, 32, 43, 32, 45, 32, 42, 32, 47, 32, 33, 32] = oneW := by decide +kernel
theorem one_has (b : UInt8) : oneW.contains [b] = oneS.contains b := by
  unfold oneW
  rw [Bool.eq_iff_iff]
  simp
theorem yIsWord_any (s : ByteArray) (w : World) : Calls Tryz.prog 13 #[.string s] w fun e w' => e = .returned (.bool (kwS.contains s.data.toList)) ∧ w = w' := by
  have A := Lib.hid fun w => yAmong_any s ⟨#[116, 105, 99, 107, 115, 32, 105, 110, 112, 117, 116, 32, 118, 97, 114, 32, 105, 110, 105, 116, 32, 115, 116, 101, 112, 32, 105, 102, 32, 101, 108, 115, 101, 32, 102, 111, 114, 32, 116, 114, 117, 101, 32, 102, 97, 108, 115, 101, 32, 105, 110, 116, 32, 102, 108, 111, 97, 116, 32, 98, 111, 111, 108, 32, 97, 98, 115, 32, 105, 110, 32]⟩ w (by decide)
  have e := am_kw
  change Hid (∀ w, Calls Tryz.prog 22 #[.string s, .string ⟨#[116, 105, 99, 107, 115, 32, 105, 110, 112, 117, 116, 32, 118, 97, 114, 32, 105, 110, 105, 116, 32, 115, 116, 101, 112, 32, 105, 102, 32, 101, 108, 115, 101, 32, 102, 111, 114, 32, 116, 114, 117, 101, 32, 102, 97, 108, 115, 101, 32, 105, 110, 116, 32, 102, 108, 111, 97, 116, 32, 98, 111, 111, 108, 32, 97, 98, 115, 32, 105, 110, 32]⟩] w fun e w' => e = .returned (.bool ((amW [] [116, 105, 99, 107, 115, 32, 105, 110, 112, 117, 116, 32, 118, 97, 114, 32, 105, 110, 105, 116, 32, 115, 116, 101, 112, 32, 105, 102, 32, 101, 108, 115, 101, 32, 102, 111, 114, 32, 116, 114, 117, 101, 32, 102, 97, 108, 115, 101, 32, 105, 110, 116, 32, 102, 108, 111, 97, 116, 32, 98, 111, 111, 108, 32, 97, 98, 115, 32, 105, 110, 32]).contains s.data.toList)) ∧ w = w') at A
  rw [e] at A
  clear e
  generalize kwS.contains s.data.toList = R at *
  go_enter Tryz.func13, Tryz.ntmps13
  go_wp2_with fail
  refine (A.out _).mono ?_
  rintro e w1 ⟨rfl, rfl⟩
  go_wp2_with fail
  go_ret
  exact ⟨rfl, rfl⟩
/-- All of a name's bytes. -/
theorem isn_all {l : List UInt8} {b : UInt8} {r : List UInt8} (h : l = b :: r) : decide (nmL l = l.length) = (isAl b && r.all isAn) := by
  subst h
  rw [nmL_cons, List.length_cons]
  have key : ∀ r : List UInt8, decide ((r.takeWhile isAn).length = r.length) = r.all isAn := by
    intro r
    induction r with
    | nil => rfl
    | cons c r ih =>
      rw [List.takeWhile_cons, List.all_cons]
      cases hc : isAn c
      · simp
      · rw [if_pos rfl, List.length_cons, List.length_cons, Bool.true_and, ← ih, decide_eq_decide]
        omega
  cases isAl b
  · simp
  · rw [if_pos rfl, Bool.true_and, ← key, decide_eq_decide]
    omega
theorem an_parts (b : UInt8) : isAn b = (alN (b.toNat : Int) || dgN (b.toNat : Int)) := by
  rw [alN_byte, dgN_byte]
  rfl
set_option maxHeartbeats 1600000 in
theorem yIsName_any (s : ByteArray) (w : World) (hs : s.size ≤ 1048576) : Calls Tryz.prog 15 #[.string s] w fun e w' => e = .returned (.bool (isnV s.data.toList)) ∧ w = w' := by
  have V : isnV s.data.toList = (!s.data.toList.isEmpty && (decide (s.data.toList.length ≤ 32) && (decide (nmL s.data.toList = s.data.toList.length) && !kwS.contains s.data.toList))) := rfl
  have W := Lib.hid fun w => yIsWord_any s w
  have HS := Lib.hid hs
  clear hs
  generalize isnV s.data.toList = R at *
  generalize kwS.contains s.data.toList = K at *
  by_cases h0 : s.size = 0
  · have e : s.toList.isEmpty = true := by rw [emp_of, decide_eq_true h0]
    have FR : Hid (false = R) := by show _ = _; rw [V, nil_of s h0]; rfl
    clear V W
    go_enter Tryz.func15, Tryz.ntmps15
    go_wp2_with fail
    go_ret
    exact ⟨ret_bool FR.out, rfl⟩
  · have e : s.toList.isEmpty = false := by rw [emp_of, decide_eq_false h0]
    obtain ⟨b, r, hl, hb⟩ := bytes_split s h0
    have hs0 : 0 < s.size := by omega
    have hb0 := hb hs0
    have hs1 : (0 : Int) < (s.size : Int) := by omega
    have V2 : R = (decide (s.size ≤ 32) && ((isAl b && r.all isAn) && !K)) := by
      rw [V, isn_all hl, ← Lib.size_eq, hl]
      rfl
    clear V hb
    by_cases h32 : s.size ≤ 32
    · have h32' : ¬ (32 : Int) < (s.size : Int) := by omega
      rw [decide_eq_true h32, Bool.true_and] at V2
      have L0 := Lib.hid fun w => yLetter_any ((s[0]'hs0).toNat : Int) w
      have hab : isAl (s[0]'hs0) = isAl b := by rw [hb0]
      rw [alN_byte, hab] at L0
      clear hab
      by_cases ha : isAl b = true
      · rw [ha] at L0 V2
        rw [Bool.true_and] at V2
        have V3 : Hid (R = (s.data.toList.all isAn && !K)) := by
          show _ = _
          rw [V2, hl, List.all_cons]
          unfold isAn
          rw [ha]
          rfl
        clear V2 hl hb0 ha
        go_enter Tryz.func15, Tryz.ntmps15
        go_wp2_with fail
        refine (L0.out _).mono ?_
        rintro e w1 ⟨rfl, rfl⟩
        go_wp2_with fail
        clear L0
        go_loop [3] (fun s3 => ∃ k : Nat, s3 = .int .i64 (k : Int) ∧ k ≤ s.size ∧ Hid ((s.data.toList.take k).all isAn = true)) (fun s3 => s.size - (intOf s3).toNat)
        case atStart => exact ⟨0, rfl, Nat.zero_le _, by show _ = _; simp⟩
        case round =>
          obtain ⟨k, rfl, hk, H⟩ := hrel
          by_cases hlt : k < s.size
          · have h1 : (k : Int) < (s.size : Int) := by omega
            have L := Lib.hid fun w => yLetter_any ((s[k]'hlt).toNat : Int) w
            have D := Lib.hid fun w => yDigit_any ((s[k]'hlt).toNat : Int) w
            have AP := an_parts (s[k]'hlt)
            have hts := take_snoc s k hlt
            have HS' := HS.out
            have bad : isAn (s[k]'hlt) = false → Hid (false = R) := fun hx => by
              show _ = _
              rw [V3.out]
              have : s.data.toList.all isAn = false := by
                rw [Bool.eq_false_iff]
                intro h
                have := List.all_eq_true.1 h (s[k]'hlt) (List.mem_of_getElem? (at_byte s k hlt))
                rw [hx] at this
                cases this
              rw [this]
              rfl
            have good : isAn (s[k]'hlt) = true → Hid ((s.data.toList.take (k + 1)).all isAn = true) := fun hx => by
              show _ = _
              rw [hts, List.all_append, H.out]
              simp [hx]
            generalize hA : alN ((s[k]'hlt).toNat : Int) = A at *
            generalize hD : dgN ((s[k]'hlt).toNat : Int) = B at *
            clear hA hD hts H
            cases A
            · cases B
              · have FR := bad (by rw [AP]; rfl)
                clear bad good AP HS'
                go_wp2_with fail
                refine (L.out _).mono ?_
                rintro e w1 ⟨rfl, rfl⟩
                go_wp2_with fail
                refine (D.out _).mono ?_
                rintro e w1 ⟨rfl, rfl⟩
                go_wp2_with fail
                go_ret
                exact ⟨ret_bool FR.out, rfl⟩
              · have H2 := good (by rw [AP]; rfl)
                clear bad good AP
                go_wp2_with fail
                refine (L.out _).mono ?_
                rintro e w1 ⟨rfl, rfl⟩
                go_wp2_with fail
                refine (D.out _).mono ?_
                rintro e w1 ⟨rfl, rfl⟩
                go_wp2_with fail
                go_round
                case rel => exact ⟨k + 1, by go_num, by omega, H2⟩
                case measure => simp [intOf]; omega
            · have H2 := good (by rw [AP]; rfl)
              clear bad good AP
              go_wp2_with fail
              refine (L.out _).mono ?_
              rintro e w1 ⟨rfl, rfl⟩
              go_wp2_with fail
              go_round
              case rel => exact ⟨k + 1, by go_num, by omega, H2⟩
              case measure => simp [intOf]; omega
          · obtain rfl : k = s.size := by omega
            have FR : Hid ((!K) = R) := by
              show _ = _
              have := H.out
              rw [List.take_of_length_le (by rw [← Lib.size_eq]; exact Nat.le_refl _)] at this
              rw [V3.out, this, Bool.true_and]
            clear H V3
            go_wp2_with fail
            refine (W.out _).mono ?_
            rintro e w1 ⟨rfl, rfl⟩
            go_wp2_with fail
            go_ret
            exact ⟨ret_bool FR.out, rfl⟩
      · have ha' : isAl b = false := by simpa using ha
        rw [ha'] at L0 V2
        have FR : Hid (false = R) := by show _ = _; rw [V2]; rfl
        clear V2 hl hb0 ha ha'
        go_enter Tryz.func15, Tryz.ntmps15
        go_wp2_with fail
        refine (L0.out _).mono ?_
        rintro e w1 ⟨rfl, rfl⟩
        go_wp2_with fail
        go_ret
        exact ⟨ret_bool FR.out, rfl⟩
    · have h32' : (32 : Int) < (s.size : Int) := by omega
      rw [decide_eq_false h32] at V2
      have FR : Hid (false = R) := by show _ = _; rw [V2]; rfl
      clear V2 hl hb0
      go_enter Tryz.func15, Tryz.ntmps15
      go_wp2_with fail
      go_ret
      exact ⟨ret_bool FR.out, rfl⟩
end Go.Proofs.YtkhddadhkkffnaaGreatDoor
namespace Go.Proofs.YtkhddadhkkffnaaGreatDoor
open Go.RowKit Go.Maps
set_option maxRecDepth 100000

theorem byV_drop {S l : List UInt8} {a : Nat} (hS : S.drop a = l) (j : Nat) : byV S (a + j) = byV l j := by
  unfold byV
  rw [← hS, List.getElem?_drop]
theorem dgN_zero : dgN 0 = false := by decide
theorem scan_dig {S l : List UInt8} {a j : Nat} (hS : S.drop a = l) (h1 : a ≤ j) (h2 : j ≤ a + dgL l) : dgN (byV S j) = decide (j < a + dgL l) := by
  obtain ⟨k, rfl⟩ : ∃ k, j = a + k := ⟨j - a, by omega⟩
  rw [byV_drop hS]
  by_cases h : k < dgL l
  · obtain ⟨b, e, d⟩ := dg_in l k h
    unfold byV
    rw [e, decide_eq_true (by omega)]
    exact (dgN_byte b).trans d
  · have hk : k = dgL l := by omega
    rw [decide_eq_false (by omega)]
    unfold byV
    cases e : l[k]? with
    | none => exact dgN_zero
    | some b => exact (dgN_byte b).trans (dg_out l b (by rw [← hk]; exact e))
theorem drop_cons {S r : List UInt8} {a : Nat} {b : UInt8} (h : S.drop a = b :: r) : S.drop (a + 1) = r := by
  rw [← List.drop_drop, h]
  rfl
theorem byte_num {b : UInt8} {n : Nat} (hn : n < 256) : (b.toNat : Int) = n ↔ b = UInt8.ofNat n := by
  constructor
  · intro h
    refine UInt8.toNat_inj.1 ?_
    rw [UInt8.toNat_ofNat']
    omega
  · intro h
    exact byte_eq h hn
/-- A point with digits behind it. -/
theorem scan_fr {S l : List UInt8} {a : Nat} (hS : S.drop a = l) : (byV S a ≠ 46 ∧ frL l = 0) ∨ (byV S a = 46 ∧ dgN (byV S (a + 1)) = decide (frL l ≠ 0) ∧ (frL l ≠ 0 → ∃ r, S.drop (a + 1) = r ∧ frL l = 1 + dgL r)) := by
  have e := byV_drop hS 0
  rw [Nat.add_zero] at e
  rw [e]
  cases l with
  | nil => exact .inl ⟨by decide, rfl⟩
  | cons b r =>
    have hr := drop_cons hS
    have e1 : byV (b :: r) 0 = (b.toNat : Int) := rfl
    have sd := scan_dig hr (j := a + 1) (Nat.le_refl _) (by omega)
    rw [e1, frL_cons]
    by_cases hb : b = 46
    · refine .inr ⟨(byte_num (by decide)).2 hb, ?_, fun h => ⟨r, hr, ?_⟩⟩
      · rw [sd]
        by_cases hd : dgL r = 0
        · rw [if_neg (by simp [hd]), decide_eq_false (by omega), decide_eq_false (by simp)]
        · rw [if_pos ⟨hb, hd⟩, decide_eq_true (by omega), decide_eq_true (by omega)]
      · by_cases hd : dgL r = 0
        · rw [if_neg (by simp [hd])] at h
          exact absurd rfl h
        · rw [if_pos ⟨hb, hd⟩]
    · refine .inl ⟨fun h => hb ((byte_num (by decide)).1 h), ?_⟩
      rw [if_neg (fun h => hb h.1)]
/-- A letter of a power. -/
theorem scan_ex {S l : List UInt8} {a : Nat} (hS : S.drop a = l) : (byV S a ≠ 101 ∧ byV S a ≠ 69 ∧ exL l = 0) ∨ ((byV S a = 101 ∨ byV S a = 69) ∧ ∃ r, S.drop (a + 1) = r ∧ exL l = if dgL (r.drop (sgL r)) ≠ 0 then 1 + sgL r + dgL (r.drop (sgL r)) else 0) := by
  have e := byV_drop hS 0
  rw [Nat.add_zero] at e
  rw [e]
  cases l with
  | nil => exact .inl ⟨by decide, by decide, rfl⟩
  | cons b r =>
    have hr := drop_cons hS
    have e1 : byV (b :: r) 0 = (b.toNat : Int) := rfl
    rw [e1, exL_cons]
    by_cases hb : b = 101 ∨ b = 69
    · refine .inr ⟨?_, r, hr, ?_⟩
      · rcases hb with h | h
        · exact .inl ((byte_num (by decide)).2 h)
        · exact .inr ((byte_num (by decide)).2 h)
      · by_cases hd : dgL (r.drop (sgL r)) ≠ 0
        · rw [if_pos ⟨hb, hd⟩, if_pos hd]
        · rw [if_neg (fun h => hd h.2), if_neg hd]
    · refine .inl ⟨fun h => hb (.inl ((byte_num (by decide)).1 h)), fun h => hb (.inr ((byte_num (by decide)).1 h)), ?_⟩
      rw [if_neg (fun h => hb h.1)]
theorem scan_sg {S l : List UInt8} {a : Nat} (hS : S.drop a = l) : (byV S a ≠ 43 ∧ byV S a ≠ 45 ∧ sgL l = 0) ∨ ((byV S a = 43 ∨ byV S a = 45) ∧ sgL l = 1) := by
  have e := byV_drop hS 0
  rw [Nat.add_zero] at e
  rw [e]
  cases l with
  | nil => exact .inl ⟨by decide, by decide, rfl⟩
  | cons b r =>
    have e1 : byV (b :: r) 0 = (b.toNat : Int) := rfl
    rw [e1, sgL_cons]
    by_cases hb : b = 43 ∨ b = 45
    · refine .inr ⟨?_, by rw [if_pos hb]⟩
      rcases hb with h | h
      · exact .inl ((byte_num (by decide)).2 h)
      · exact .inr ((byte_num (by decide)).2 h)
    · refine .inl ⟨fun h => hb (.inl ((byte_num (by decide)).1 h)), fun h => hb (.inr ((byte_num (by decide)).1 h)), ?_⟩
      rw [if_neg hb]
theorem fr_bool {S l : List UInt8} {a : Nat} (hS : S.drop a = l) : ∃ fr : Bool, (fr = decide (frL l ≠ 0)) ∧ (((byV S a == 46) = false ∧ fr = false) ∨ ((byV S a == 46) = true ∧ dgN (byV S (a + 1)) = fr)) ∧ (fr = true → ∃ r, S.drop (a + 1) = r ∧ frL l = 1 + dgL r) := by
  refine ⟨_, rfl, ?_, fun h => ?_⟩
  · rcases scan_fr hS with ⟨h1, h2⟩ | ⟨h1, h2, -⟩
    · exact .inl ⟨by rw [beq_eq_false_iff_ne]; exact h1, by rw [h2]; rfl⟩
    · exact .inr ⟨by rw [beq_iff_eq]; exact h1, h2⟩
  · rw [decide_eq_true_eq] at h
    rcases scan_fr hS with ⟨h1, h2⟩ | ⟨h1, h2, h3⟩
    · exact absurd h2 h
    · exact h3 h
theorem ex_bool {S l : List UInt8} {a : Nat} (hS : S.drop a = l) : ∃ ex : Bool, (((byV S a == 101) = true ∧ ex = true) ∨ ((byV S a == 101) = false ∧ (byV S a == 69) = ex)) ∧ (ex = false → exL l = 0) ∧ (ex = true → ∃ r, S.drop (a + 1) = r ∧ exL l = if dgL (r.drop (sgL r)) ≠ 0 then 1 + sgL r + dgL (r.drop (sgL r)) else 0) := by
  rcases scan_ex hS with ⟨h1, h2, h3⟩ | ⟨h1, h2⟩
  · exact ⟨false, .inr ⟨by rw [beq_eq_false_iff_ne]; exact h1, by rw [beq_eq_false_iff_ne]; exact h2⟩, fun _ => h3, (fun h => by cases h)⟩
  · refine ⟨true, ?_, (fun h => by cases h), fun _ => h2⟩
    by_cases h : byV S a = 101
    · exact .inl ⟨by rw [beq_iff_eq]; exact h, rfl⟩
    · exact .inr ⟨by rw [beq_eq_false_iff_ne]; exact h, by rw [beq_iff_eq]; exact h1.resolve_left h⟩
theorem sg_bool {S l : List UInt8} {a : Nat} (hS : S.drop a = l) : ∃ sb : Bool, (((byV S a == 43) = true ∧ sb = true) ∨ ((byV S a == 43) = false ∧ (byV S a == 45) = sb)) ∧ sgL l = if sb then 1 else 0 := by
  rcases scan_sg hS with ⟨h1, h2, h3⟩ | ⟨h1, h2⟩
  · exact ⟨false, .inr ⟨by rw [beq_eq_false_iff_ne]; exact h1, by rw [beq_eq_false_iff_ne]; exact h2⟩, h3⟩
  · refine ⟨true, ?_, h2⟩
    by_cases h : byV S a = 43
    · exact .inl ⟨by rw [beq_iff_eq]; exact h, rfl⟩
    · exact .inr ⟨by rw [beq_eq_false_iff_ne]; exact h, by rw [beq_iff_eq]; exact h1.resolve_left h⟩
set_option maxHeartbeats 4000000 in
theorem yNumber_any (s : ByteArray) (a : Nat) {l : List UInt8} (hS : s.data.toList.drop a = l) (hs : s.size ≤ 1048576) (h0 : dgL l ≠ 0) (w : World) :
    Calls Tryz.prog 37 #[.string s, .int .i64 (a : Int)] w fun e w' => e = .returned (.tuple #[.int .i64 ((a + nuL l : Nat) : Int), .bool (nuF l)]) ∧ w = w' := by
  have AT := Lib.hid fun (j : Nat) w => yAt_any s j w
  have DG := Lib.hid yDigit_any
  obtain ⟨b, hb⟩ : ∃ b, b = a + dgL l := ⟨_, rfl⟩
  obtain ⟨l1, hl1⟩ : ∃ l1, s.data.toList.drop b = l1 := ⟨_, rfl⟩
  have el1 : l.drop (dgL l) = l1 := by rw [← hl1, hb, ← List.drop_drop, hS]
  obtain ⟨c, hc⟩ : ∃ c, c = b + frL l1 := ⟨_, rfl⟩
  obtain ⟨l2, hl2⟩ : ∃ l2, s.data.toList.drop c = l2 := ⟨_, rfl⟩
  have eA : nuA l = dgL l + frL l1 := by unfold nuA; rw [el1]
  have el2 : l.drop (nuA l) = l2 := by rw [← hl2, hc, hb, eA, ← hS, List.drop_drop, Nat.add_assoc]
  have eN : nuL l = nuA l + exL l2 := by unfold nuL; rw [if_neg h0, el2]
  have eE : a + nuL l = c + exL l2 := by omega
  have SD0 := Lib.hid fun j h1 h2 => scan_dig (j := j) hS h1 h2
  obtain ⟨fr, fr1, fr2, fr3⟩ := fr_bool hl1
  have eF : nuF l = (fr || decide (exL l2 ≠ 0)) := by
    have h1 : nuF l = decide (dgL l < nuL l) := rfl
    clear fr2 fr3
    rw [h1, fr1, Bool.eq_iff_iff]
    simp only [Bool.or_eq_true, decide_eq_true_eq]
    omega
  have F1 : Hid (fr = decide (frL l1 ≠ 0)) := fr1
  have F2 := Lib.hid fr2
  have F3 := Lib.hid fr3
  clear fr1 fr2 fr3
  obtain ⟨ex, ex1, ex2, ex3⟩ := ex_bool hl2
  have E1 := Lib.hid ex1
  have E2 : Hid (ex = false → exL l2 = 0) := ex2
  have E3 := Lib.hid ex3
  clear ex1 ex2 ex3
  have lb : l.length = s.size - a := by rw [← hS, List.length_drop, ← Lib.size_eq]
  have nb := nuL_le l
  have bound : Hid (a + nuL l ≤ 1048576 + a) := by show _ ≤ _; omega
  have ha : Hid (a ≤ s.size) := by
    show _ ≤ _
    refine Classical.byContradiction fun h => ?_
    have : dgL l ≤ l.length := dgL_le l
    omega
  have bd : Hid (b ≤ s.size ∧ c ≤ s.size ∧ c + exL l2 ≤ s.size ∧ s.size ≤ 1048576 ∧ b = a + dgL l ∧ c = b + frL l1) := by
    have := ha.out
    exact ⟨by omega, by omega, by omega, hs, hb, hc⟩
  rw [eE, eF]
  clear eE eF eN el2 eA el1 lb nb hs h0
  generalize exL l2 = X at *
  obtain ⟨RB, hRB⟩ : ∃ RB, RB = (fr || decide (X ≠ 0)) := ⟨_, rfl⟩
  rw [← hRB]
  have RB0 : Hid (X = 0 → RB = fr) := fun h => by rw [hRB, h]; simp
  have RB1 : Hid (X ≠ 0 → RB = true) := fun h => by rw [hRB, decide_eq_true h, Bool.or_true]
  clear hRB
  go_enter Tryz.func37, Tryz.ntmps37
  go_wp2_with fail
  go_loop [1] (fun s1 => ∃ j : Nat, s1 = .int .i64 (j : Int) ∧ a ≤ j ∧ Hid (j ≤ b)) (fun s1 => b - (intOf s1).toNat)
  case atStart => exact ⟨a, rfl, Nat.le_refl _, by have := bd.out; show _ ≤ _; omega⟩
  case round =>
    obtain ⟨j, rfl, h1, h2⟩ := hrel
    have D := SD0.out j h1 (by have := bd.out; have := h2.out; omega)
    rw [← bd.out.2.2.2.2.1] at D
    have B := bd.out
    by_cases hlt : j < b
    · rw [decide_eq_true hlt] at D
      have ov : IntKind.i64.wrap ((j : Int) + 1) = ((j + 1 : Nat) : Int) := by rw [IntKind.wrap_i64]; omega
      have h3 : Hid (j + 1 ≤ b) := hlt
      clear B hb hc
      go_wp2_with fail
      refine (AT.out j _).mono ?_
      rintro e w1 ⟨rfl, rfl⟩
      go_wp2_with fail
      refine (DG.out _ _).mono ?_
      rintro e w1 ⟨rfl, rfl⟩
      rw [D]
      go_wp2_with fail
      go_round
      case rel => exact ⟨j + 1, by go_num, by omega, h3⟩
      case measure => simp [intOf]; omega
    · rw [decide_eq_false hlt] at D
      obtain rfl : j = b := by have := h2.out; omega
      clear B hb hc SD0 hlt
      go_wp2_with fail
      refine (AT.out j _).mono ?_
      rintro e w1 ⟨rfl, rfl⟩
      go_wp2_with fail
      refine (DG.out _ _).mono ?_
      rintro e w1 ⟨rfl, rfl⟩
      rw [D]
      clear D
      go_upto_region 4 with fail
      go_cut [24] (fun v wx => v = .bool fr ∧ wx = w)
      case first =>
        rcases F2.out with ⟨f1, f2⟩ | ⟨f1, f2⟩
        · subst f2
          go_wp2_with fail
          refine (AT.out j _).mono ?_
          rintro e w1 ⟨rfl, rfl⟩
          go_wp2_with fail
          go_meet
          exact ⟨rfl, rfl⟩
        · have ov : IntKind.i64.wrap ((j : Int) + 1) = ((j + 1 : Nat) : Int) := by rw [IntKind.wrap_i64]; have := bd.out; omega
          have F4 := Lib.hid f2
          clear f2
          go_wp2_with fail
          refine (AT.out j _).mono ?_
          rintro e w1 ⟨rfl, rfl⟩
          go_wp2_with fail
          refine (AT.out (j + 1) _).mono ?_
          rintro e w1 ⟨rfl, rfl⟩
          go_wp2_with fail
          refine (DG.out _ _).mono ?_
          rintro e w1 ⟨rfl, rfl⟩
          rw [F4.out]
          go_wp2_with fail
          go_meet
          exact ⟨rfl, rfl⟩
      case rest =>
        obtain ⟨rfl, rfl⟩ := hcut
        go_upto_if 24 with fail
        go_cut [1, 6] (fun v f wx => v = .int .i64 (c : Int) ∧ f = .bool fr ∧ wx = wc)
        case first =>
          cases fr
          · have hcj : c = j := by have := bd.out; have := F1.out; simp at this; omega
            go_wp2_with fail
            go_meet
            exact ⟨by rw [hcj], rfl, rfl⟩
          · obtain ⟨r, hr, er⟩ := F3.out rfl
            have SD := Lib.hid fun k h1 h2 => scan_dig (j := k) hr h1 h2
            have ER : Hid (c = j + 1 + dgL r) := by have := bd.out; show _ = _; omega
            have ov : IntKind.i64.wrap ((j : Int) + 1) = ((j + 1 : Nat) : Int) := by rw [IntKind.wrap_i64]; have := bd.out; omega
            clear er hr
            go_wp2_with fail
            go_loop [1] (fun s1 => ∃ k : Nat, s1 = .int .i64 (k : Int) ∧ j + 1 ≤ k ∧ Hid (k ≤ c)) (fun s1 => c - (intOf s1).toNat)
            case atStart => exact ⟨j + 1, by go_num, Nat.le_refl _, by have := ER.out; show _ ≤ _; omega⟩
            case round =>
              obtain ⟨k, rfl, k1, k2⟩ := hrel
              have D := SD.out k k1 (by have := ER.out; have := k2.out; omega)
              rw [← ER.out] at D
              by_cases hlt : k < c
              · rw [decide_eq_true hlt] at D
                have ov : IntKind.i64.wrap ((k : Int) + 1) = ((k + 1 : Nat) : Int) := by rw [IntKind.wrap_i64]; have := bd.out; omega
                have h3 : Hid (k + 1 ≤ c) := hlt
                go_wp2_with fail
                refine (AT.out k _).mono ?_
                rintro e w1 ⟨rfl, rfl⟩
                go_wp2_with fail
                refine (DG.out _ _).mono ?_
                rintro e w1 ⟨rfl, rfl⟩
                rw [D]
                go_wp2_with fail
                go_round
                case rel => exact ⟨k + 1, by go_num, by omega, h3⟩
                case measure => simp [intOf]; omega
              · rw [decide_eq_false hlt] at D
                obtain rfl : k = c := by have := k2.out; omega
                clear hlt
                go_wp2_with fail
                refine (AT.out k _).mono ?_
                rintro e w1 ⟨rfl, rfl⟩
                go_wp2_with fail
                refine (DG.out _ _).mono ?_
                rintro e w1 ⟨rfl, rfl⟩
                rw [D]
                go_wp2_with fail
                go_meet
                exact ⟨rfl, rfl, rfl⟩
        case rest =>
          obtain ⟨rfl, rfl, rfl⟩ := hcut
          go_upto_region 9 with fail
          go_cut [42] (fun v wx => v = .bool ex ∧ wx = wc)
          case first =>
            rcases E1.out with ⟨f1, f2⟩ | ⟨f1, f2⟩
            · subst f2
              go_wp2_with fail
              refine (AT.out c _).mono ?_
              rintro e w1 ⟨rfl, rfl⟩
              go_wp2_with fail
              go_meet
              exact ⟨rfl, rfl⟩
            · have F4 := Lib.hid f2
              clear f2
              go_wp2_with fail
              refine (AT.out c _).mono ?_
              rintro e w1 ⟨rfl, rfl⟩
              go_wp2_with fail
              refine (AT.out c _).mono ?_
              rintro e w1 ⟨rfl, rfl⟩
              go_wp2_with fail
              go_meet
              exact ⟨by rw [← F4.out], rfl⟩
          case rest =>
            obtain ⟨rfl, rfl⟩ := hcut
            cases ex
            · obtain rfl : X = 0 := E2.out rfl
              go_wp2_with fail
              go_ret2
              exact ⟨by rw [RB0.out trivial]; rfl, rfl⟩
            · obtain ⟨r, hr, hX⟩ := E3.out rfl
              obtain ⟨sb, sb1, sb2⟩ := sg_bool hr
              have SG := Lib.hid sb1
              have SG2 : Hid (sgL r = if sb then 1 else 0) := sb2
              clear sb1 sb2
              have sg1 := (sgL_le r).1
              obtain ⟨k0, hk0⟩ : ∃ k0, k0 = c + 1 + sgL r := ⟨_, rfl⟩
              have hr2 : s.data.toList.drop k0 = r.drop (sgL r) := by rw [hk0, ← List.drop_drop, hr]
              have SD := Lib.hid fun k h1 h2 => scan_dig (j := k) hr2 h1 h2
              have HX := Lib.hid hX
              have K0 := Lib.hid hk0
              have ovc : IntKind.i64.wrap ((c : Int) + 1) = ((c + 1 : Nat) : Int) := by rw [IntKind.wrap_i64]; have := bd.out; omega
              generalize dgL (r.drop (sgL r)) = D2 at *
              clear hX hr2 hr hk0
              go_upto_region 11 with fail
              go_cut [54] (fun v wx => v = .bool sb ∧ wx = wc)
              case first =>
                rcases SG.out with ⟨f1, f2⟩ | ⟨f1, f2⟩
                · subst f2
                  go_wp2_with fail
                  refine (AT.out (c + 1) _).mono ?_
                  rintro e w1 ⟨rfl, rfl⟩
                  go_wp2_with fail
                  go_meet
                  exact ⟨rfl, rfl⟩
                · have F4 := Lib.hid f2
                  clear f2
                  go_wp2_with fail
                  refine (AT.out (c + 1) _).mono ?_
                  rintro e w1 ⟨rfl, rfl⟩
                  go_wp2_with fail
                  refine (AT.out (c + 1) _).mono ?_
                  rintro e w1 ⟨rfl, rfl⟩
                  go_wp2_with fail
                  go_meet
                  exact ⟨by rw [← F4.out], rfl⟩
              case rest =>
                obtain ⟨rfl, rfl⟩ := hcut
                clear SG
                go_upto_if 54 with fail
                go_cut [7] (fun v wx => v = .int .i64 (k0 : Int) ∧ wx = wc)
                case first =>
                  cases sb
                  · have hk : k0 = c + 1 := by rw [K0.out, SG2.out]; rfl
                    clear SD HX
                    go_wp2_with fail
                    go_meet
                    exact ⟨by rw [hk]; go_num, rfl⟩
                  · have hk : k0 = c + 1 + 1 := by rw [K0.out, SG2.out]; rfl
                    have ov2 : IntKind.i64.wrap ((c : Int) + 1 + 1) = (k0 : Int) := by rw [IntKind.wrap_i64]; have := bd.out; omega
                    clear hk SD HX
                    go_wp2_with fail
                    go_meet
                    exact ⟨rfl, rfl⟩
                case rest =>
                  obtain ⟨rfl, rfl⟩ := hcut
                  have D := SD.out k0 (Nat.le_refl _) (by omega)
                  by_cases hD : D2 = 0
                  · rw [decide_eq_false (by omega)] at D
                    have X0 : X = 0 := by rw [HX.out, if_neg (by omega)]
                    subst X0
                    clear hD SD HX K0 sg1
                    go_wp2_with fail
                    refine (AT.out k0 _).mono ?_
                    rintro e w1 ⟨rfl, rfl⟩
                    go_wp2_with fail
                    refine (DG.out _ _).mono ?_
                    rintro e w1 ⟨rfl, rfl⟩
                    rw [D]
                    go_wp2_with fail
                    go_ret2
                    exact ⟨by rw [RB0.out trivial]; rfl, rfl⟩
                  · rw [decide_eq_true (by omega)] at D
                    have XE : Hid (c + X = k0 + D2 ∧ X ≠ 0) := by
                      have h1 := HX.out
                      have h2 := K0.out
                      rw [if_pos hD] at h1
                      exact ⟨by omega, by omega⟩
                    clear hD HX K0 sg1
                    go_wp2_with fail
                    refine (AT.out k0 _).mono ?_
                    rintro e w1 ⟨rfl, rfl⟩
                    go_wp2_with fail
                    refine (DG.out _ _).mono ?_
                    rintro e w1 ⟨rfl, rfl⟩
                    rw [D]
                    clear D
                    go_wp2_with fail
                    go_loop [7] (fun s7 => ∃ k : Nat, s7 = .int .i64 (k : Int) ∧ k0 ≤ k ∧ Hid (k ≤ k0 + D2)) (fun s7 => k0 + D2 - (intOf s7).toNat)
                    case atStart => exact ⟨k0, rfl, Nat.le_refl _, Nat.le_add_right _ _⟩
                    case round =>
                      obtain ⟨k, rfl, k1, k2⟩ := hrel
                      have D := SD.out k k1 k2.out
                      by_cases hlt : k < k0 + D2
                      · rw [decide_eq_true hlt] at D
                        have ov : IntKind.i64.wrap ((k : Int) + 1) = ((k + 1 : Nat) : Int) := by rw [IntKind.wrap_i64]; have := bd.out; have := XE.out; omega
                        have h3 : Hid (k + 1 ≤ k0 + D2) := hlt
                        go_wp2_with fail
                        refine (AT.out k _).mono ?_
                        rintro e w1 ⟨rfl, rfl⟩
                        go_wp2_with fail
                        refine (DG.out _ _).mono ?_
                        rintro e w1 ⟨rfl, rfl⟩
                        rw [D]
                        go_wp2_with fail
                        go_round
                        case rel => exact ⟨k + 1, by go_num, by omega, h3⟩
                        case measure => simp [intOf]; omega
                      · rw [decide_eq_false hlt] at D
                        have hk : k = c + X := by have := k2.out; have := XE.out; omega
                        have HK := Lib.hid hk
                        clear hlt hk
                        go_wp2_with fail
                        refine (AT.out k _).mono ?_
                        rintro e w1 ⟨rfl, rfl⟩
                        go_wp2_with fail
                        refine (DG.out _ _).mono ?_
                        rintro e w1 ⟨rfl, rfl⟩
                        rw [D]
                        go_wp2_with fail
                        go_ret2
                        exact ⟨by rw [HK.out, RB1.out XE.out.2]; rfl, rfl⟩
end Go.Proofs.YtkhddadhkkffnaaGreatDoor
