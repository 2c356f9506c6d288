/-
  Contracts of lex's lengths: letters, digits, names, digits at a text's beginning, its point, its exponent. Conditions: none.
-/
import Derived.Test.YtkhddadhkkffnaaGreatDoorMath9
import Derived.Test.YtkhddadhkkffnaaGreatDoorBase
import Derived.Laws.RangeAny
namespace Go.Proofs.YtkhddadhkkffnaaGreatDoor
open Go.RowKit
set_option maxRecDepth 100000

def alN (n : Int) : Bool := (decide (97 ≤ n) && decide (n ≤ 122)) || (decide (65 ≤ n) && decide (n ≤ 90)) || decide (n = 95)
def dgN (n : Int) : Bool := decide (48 ≤ n) && decide (n ≤ 57)
theorem alN_byte (b : UInt8) : alN (b.toNat : Int) = isAl b := by
  unfold alN isAl
  rw [Bool.eq_iff_iff]
  simp only [Bool.or_eq_true, Bool.and_eq_true, decide_eq_true_eq]
  omega
theorem dgN_byte (b : UInt8) : dgN (b.toNat : Int) = isDig b := by
  unfold dgN isDig
  rw [Bool.eq_iff_iff]
  simp only [Bool.and_eq_true, decide_eq_true_eq]
  omega
theorem alN_high {n : Nat} (h : 128 ≤ n) : alN (n : Int) = false := by
  unfold alN
  rw [Bool.eq_false_iff]
  simp only [ne_eq, Bool.or_eq_true, Bool.and_eq_true, decide_eq_true_eq]
  omega
theorem dgN_high {n : Nat} (h : 128 ≤ n) : dgN (n : Int) = false := by
  unfold dgN
  rw [Bool.eq_false_iff]
  simp only [ne_eq, Bool.and_eq_true, decide_eq_true_eq]
  omega
theorem xIsDigit_any (n : Int) (w : World) : Calls Tryz.prog 40 #[.int .i32 n] w fun e w' => e = .returned (.bool (dgN n)) ∧ w = w' := by
  by_cases h1 : 48 ≤ n
  · have F : Hid (decide (n ≤ 57) = dgN n) := by show _ = _; unfold dgN; rw [decide_eq_true h1]; rfl
    go_enter Tryz.func40, Tryz.ntmps40
    go_wp2_with fail
    go_ret
    exact ⟨ret_bool F.out, rfl⟩
  · have F : Hid (false = dgN n) := by show _ = _; unfold dgN; rw [decide_eq_false h1]; rfl
    go_enter Tryz.func40, Tryz.ntmps40
    go_wp2_with fail
    go_ret
    exact ⟨ret_bool F.out, rfl⟩
theorem xIsLetter_any (n : Int) (w : World) : Calls Tryz.prog 39 #[.int .i32 n] w fun e w' => e = .returned (.bool (alN n)) ∧ w = w' := by
  by_cases h1 : 97 ≤ n
  · by_cases h2 : n ≤ 122
    · have F : Hid (true = alN n) := by show _ = _; unfold alN; rw [decide_eq_true h1, decide_eq_true h2]; rfl
      go_enter Tryz.func39, Tryz.ntmps39
      go_wp2_with fail
      go_ret
      exact ⟨ret_bool F.out, rfl⟩
    · have h3 : 65 ≤ n := by omega
      have h4 : ¬ n ≤ 90 := by omega
      have h5 : (n == 95) = false := by rw [beq_eq_false_iff_ne]; omega
      have F : Hid (false = alN n) := by show _ = _; unfold alN; rw [decide_eq_true h1, decide_eq_false h2, decide_eq_true h3, decide_eq_false h4, decide_eq_false (by omega)]; rfl
      go_enter Tryz.func39, Tryz.ntmps39
      go_wp2_with fail
      go_ret
      exact ⟨ret_bool F.out, rfl⟩
  · by_cases h3 : 65 ≤ n
    · by_cases h4 : n ≤ 90
      · have F : Hid (true = alN n) := by show _ = _; unfold alN; rw [decide_eq_false h1, decide_eq_true h3, decide_eq_true h4]; rfl
        go_enter Tryz.func39, Tryz.ntmps39
        go_wp2_with fail
        go_ret
        exact ⟨ret_bool F.out, rfl⟩
      · have F : Hid ((n == 95) = alN n) := by show _ = _; unfold alN; rw [decide_eq_false h1, decide_eq_true h3, decide_eq_false h4]; rw [Bool.eq_iff_iff]; simp
        go_enter Tryz.func39, Tryz.ntmps39
        go_wp2_with fail
        go_ret
        exact ⟨ret_bool F.out, rfl⟩
    · have F : Hid ((n == 95) = alN n) := by show _ = _; unfold alN; rw [decide_eq_false h1, decide_eq_false h3]; rw [Bool.eq_iff_iff]; simp
      go_enter Tryz.func39, Tryz.ntmps39
      go_wp2_with fail
      go_ret
      exact ⟨ret_bool F.out, rfl⟩

theorem tw_at (p : UInt8 → Bool) : ∀ (l : List UInt8) (k : Nat), (l.take k).all p = true → k ≤ l.length → (∀ b, l[k]? = some b → p b = false) → (l.takeWhile p).length = k
  | [], k, _, h, _ => by simp at h; simp [h]
  | b :: r, 0, _, _, h => by rw [List.takeWhile_cons, if_neg (by rw [h b rfl]; decide)]; rfl
  | b :: r, k + 1, h1, h2, h3 => by
    rw [List.take_succ_cons, List.all_cons, Bool.and_eq_true] at h1
    rw [List.takeWhile_cons, if_pos h1.1, List.length_cons, tw_at p r k h1.2 (by simpa using h2) (fun c hc => h3 c hc)]
theorem at_byte (s : ByteArray) (k : Nat) (h : k < s.size) : s.data.toList[k]? = some s[k] := by
  have : k < s.data.toList.length := by rw [← Lib.size_eq]; exact h
  rw [List.getElem?_eq_getElem this]
  rfl
theorem at_end (s : ByteArray) (k : Nat) (h : ¬ k < s.size) (b : UInt8) : s.data.toList[k]? = some b → False := by
  rw [List.getElem?_eq_none (by rw [← Lib.size_eq]; omega)]
  exact fun h => by cases h
theorem xDigits_any (s : ByteArray) (w : World) :
    Calls Tryz.prog 57 #[.string s] w fun e w' => e = .returned (.int .i64 (dgL s.data.toList)) ∧ Below w.heap.size w w' := by
  go_enter Tryz.func57, Tryz.ntmps57
  go_wp2_with fail
  go_loopw [3] (fun _ wr => ∃ k : Nat, wr = w.iter s k ∧ k ≤ s.size ∧ Hid ((s.data.toList.take k).all isDig = true)) (fun _ wr => s.size - wr.iterPos w.heap.size)
  case atStart => exact ⟨0, rfl, Nat.zero_le _, by show _ = _; simp⟩
  case round =>
    obtain ⟨k, rfl, hk, H⟩ := hrel
    by_cases hlt : k < s.size
    · have B := at_byte s k hlt
      by_cases ha : (s[k]'hlt).toNat < 128
      · have hnx : ∀ ty, (Instr.next (.pointer (some ⟨w.heap.size, 0, none⟩)) true ty).run Tryz.prog (w.iter s k) = _ := fun ty => run_next_ascii w s k ty hlt ha
        have C := Lib.hid fun w => xIsDigit_any ((s[k]'hlt).toNat : Int) w
        rw [dgN_byte] at C
        have hts := take_snoc s k hlt
        by_cases hd : isDig (s[k]'hlt) = true
        · have H2 : Hid ((s.data.toList.take (k + 1)).all isDig = true) := by
            show _ = _
            rw [hts, List.all_append, H.out]
            simp [hd]
          rw [hd] at C
          clear B ha hts hd H
          go_wp2_with fail
          refine (C.out _).mono ?_
          rintro e w' ⟨rfl, rfl⟩
          go_wp2_with fail
          go_roundw
          case rel => exact ⟨k + 1, rfl, by omega, H2⟩
          case measure => simp; omega
        · have hd' : isDig (s[k]'hlt) = false := by simpa using hd
          have F : Hid ((k : Int) = (dgL s.data.toList : Int)) := by
            show _ = _
            unfold dgL
            rw [tw_at isDig _ k H.out (by rw [← Lib.size_eq]; omega) (fun b hb => by rw [B] at hb; obtain rfl := Option.some.inj hb; exact hd')]
          rw [hd'] at C
          clear B ha hts hd hd' H
          go_wp2_with fail
          refine (C.out _).mono ?_
          rintro e w' ⟨rfl, rfl⟩
          go_wp2_with fail
          go_ret
          exact ⟨ret_int F.out, bel_alloc (Below.refl _ _) _⟩
      · have hnx : ∀ ty, (Instr.next (.pointer (some ⟨w.heap.size, 0, none⟩)) true ty).run Tryz.prog (w.iter s k) = _ := fun ty => run_next_any w s k ty hlt
        have hi := decode_high s k hlt (by omega)
        have C := Lib.hid fun w => xIsDigit_any ((Utf8.decode s k).1 : Int) w
        rw [dgN_high hi.1] at C
        have F : Hid ((k : Int) = (dgL s.data.toList : Int)) := by
          show _ = _
          unfold dgL
          rw [tw_at isDig _ k H.out (by rw [← Lib.size_eq]; omega) (fun b hb => by rw [B] at hb; obtain rfl := Option.some.inj hb; unfold isDig; rw [decide_eq_false (p := _ ≤ 57) (by omega), Bool.and_false])]
        clear B ha hi H
        go_wp2_with fail
        refine (C.out _).mono ?_
        rintro e w' ⟨rfl, rfl⟩
        go_wp2_with fail
        go_ret
        exact ⟨ret_int F.out, bel_alloc (Below.refl _ _) _⟩
    · have hnx : ∀ ty, (Instr.next (.pointer (some ⟨w.heap.size, 0, none⟩)) true ty).run Tryz.prog (w.iter s k) = _ := fun ty => run_next_end w s k ty hlt
      have F : Hid ((s.size : Int) = (dgL s.data.toList : Int)) := by
        show _ = _
        unfold dgL
        rw [tw_at isDig _ k H.out (by rw [← Lib.size_eq]; omega) (fun b hb => (at_end s k hlt b hb).elim)]
        omega
      clear H
      go_wp2_with fail
      go_ret
      exact ⟨ret_int F.out, bel_alloc (Below.refl _ _) _⟩
theorem nm_at {l : List UInt8} {k : Nat} (h1 : ∀ b, l[0]? = some b → isAl b = true) (h2 : (l.take k).all isAn = true) (h3 : k ≤ l.length) (h4 : ∀ b, l[k]? = some b → isAn b = false) (h5 : 1 ≤ l.length) : nmL l = k := by
  cases l with
  | nil => simp at h5
  | cons b r =>
    have hb := h1 b rfl
    rw [nmL_cons, if_pos hb]
    cases k with
    | zero => have := h4 b rfl; unfold isAn at this; rw [hb] at this; cases this
    | succ k =>
      rw [List.take_succ_cons, List.all_cons, Bool.and_eq_true] at h2
      rw [tw_at isAn r k h2.2 (by simpa using h3) (fun c hc => h4 c hc)]
      omega
theorem nm_no {l : List UInt8} (h1 : ∀ b, l[0]? = some b → isAl b = false) : nmL l = 0 := by
  cases l with
  | nil => rfl
  | cons b r => rw [nmL_cons, if_neg (by rw [h1 b rfl]; decide)]
set_option maxHeartbeats 800000 in
theorem xName_any (s : ByteArray) (w : World) :
    Calls Tryz.prog 23 #[.string s] w fun e w' => e = .returned (.int .i64 (nmL s.data.toList)) ∧ Below w.heap.size w w' := by
  go_enter Tryz.func23, Tryz.ntmps23
  go_wp2_with fail
  go_loopw [3] (fun _ wr => ∃ k : Nat, wr = w.iter s k ∧ k ≤ s.size ∧ Hid ((s.data.toList.take k).all isAn = true ∧ (1 ≤ k → ∀ b, s.data.toList[0]? = some b → isAl b = true))) (fun _ wr => s.size - wr.iterPos w.heap.size)
  case atStart => exact ⟨0, rfl, Nat.zero_le _, ⟨by simp, fun h => by omega⟩⟩
  case round =>
    obtain ⟨k, rfl, hk, H⟩ := hrel
    have kl : k ≤ s.data.toList.length := by rw [← Lib.size_eq]; omega
    by_cases hlt : k < s.size
    · have B := at_byte s k hlt
      have ll : 1 ≤ s.data.toList.length := by rw [← Lib.size_eq]; omega
      by_cases ha : (s[k]'hlt).toNat < 128
      · have hnx : ∀ ty, (Instr.next (.pointer (some ⟨w.heap.size, 0, none⟩)) true ty).run Tryz.prog (w.iter s k) = _ := fun ty => run_next_ascii w s k ty hlt ha
        have C := Lib.hid fun w => xIsDigit_any ((s[k]'hlt).toNat : Int) w
        have L := Lib.hid fun w => xIsLetter_any ((s[k]'hlt).toNat : Int) w
        rw [dgN_byte] at C
        rw [alN_byte] at L
        have hts := take_snoc s k hlt
        cases hl : isAl (s[k]'hlt)
        · rw [hl] at L
          by_cases h0 : k = 0
          · subst h0
            have F : Hid ((0 : Int) = (nmL s.data.toList : Int)) := by
              show _ = _
              rw [nm_no (fun b hb => by rw [B] at hb; obtain rfl := Option.some.inj hb; exact hl)]
              rfl
            clear B ha hts H C hl
            go_wp2_with fail
            refine (L.out _).mono ?_
            rintro e w' ⟨rfl, rfl⟩
            go_wp2_with fail
            go_ret
            exact ⟨ret_int F.out, bel_alloc (Below.refl _ _) _⟩
          · have hk0 : ((k : Int) == 0) = false := by rw [beq_eq_false_iff_ne]; omega
            cases hd : isDig (s[k]'hlt)
            · have F : Hid ((k : Int) = (nmL s.data.toList : Int)) := by
                show _ = _
                rw [nm_at (H.out.2 (by omega)) H.out.1 kl (fun b hb => by rw [B] at hb; obtain rfl := Option.some.inj hb; unfold isAn; rw [hl, hd]; rfl) ll]
              rw [hd] at C
              clear B ha hts H hl hd
              go_wp2_with fail
              refine (L.out _).mono ?_
              rintro e w' ⟨rfl, rfl⟩
              go_wp2_with fail
              refine (C.out _).mono ?_
              rintro e w' ⟨rfl, rfl⟩
              go_wp2_with fail
              go_ret
              exact ⟨ret_int F.out, bel_alloc (Below.refl _ _) _⟩
            · have H2 : Hid ((s.data.toList.take (k + 1)).all isAn = true ∧ (1 ≤ k + 1 → ∀ b, s.data.toList[0]? = some b → isAl b = true)) := by
                refine ⟨?_, fun _ => H.out.2 (by omega)⟩
                rw [hts, List.all_append, H.out.1]
                simp [isAn, hd]
              rw [hd] at C
              clear B ha hts H hl hd
              go_wp2_with fail
              refine (L.out _).mono ?_
              rintro e w' ⟨rfl, rfl⟩
              go_wp2_with fail
              refine (C.out _).mono ?_
              rintro e w' ⟨rfl, rfl⟩
              go_wp2_with fail
              go_roundw
              case rel => exact ⟨k + 1, rfl, by omega, H2⟩
              case measure => simp; omega
        · rw [hl] at L
          have H2 : Hid ((s.data.toList.take (k + 1)).all isAn = true ∧ (1 ≤ k + 1 → ∀ b, s.data.toList[0]? = some b → isAl b = true)) := by
            refine ⟨?_, fun _ => ?_⟩
            · rw [hts, List.all_append, H.out.1]
              simp [isAn, hl]
            · by_cases h0 : k = 0
              · intro b hb
                rw [← h0, B] at hb
                obtain rfl := Option.some.inj hb
                exact hl
              · exact H.out.2 (by omega)
          clear B ha hts H hl C
          go_wp2_with fail
          refine (L.out _).mono ?_
          rintro e w' ⟨rfl, rfl⟩
          go_wp2_with fail
          go_roundw
          case rel => exact ⟨k + 1, rfl, by omega, H2⟩
          case measure => simp; omega
      · have hnx : ∀ ty, (Instr.next (.pointer (some ⟨w.heap.size, 0, none⟩)) true ty).run Tryz.prog (w.iter s k) = _ := fun ty => run_next_any w s k ty hlt
        have hi := decode_high s k hlt (by omega)
        have C := Lib.hid fun w => xIsDigit_any ((Utf8.decode s k).1 : Int) w
        have L := Lib.hid fun w => xIsLetter_any ((Utf8.decode s k).1 : Int) w
        rw [dgN_high hi.1] at C
        rw [alN_high hi.1] at L
        have nal : isAl (s[k]'hlt) = false := by rw [← alN_byte]; exact alN_high (by omega)
        have ndg : isDig (s[k]'hlt) = false := by rw [← dgN_byte]; exact dgN_high (by omega)
        have F : Hid ((k : Int) = (nmL s.data.toList : Int)) := by
          show _ = _
          by_cases h0 : k = 0
          · rw [nm_no (fun b hb => by rw [← h0, B] at hb; obtain rfl := Option.some.inj hb; exact nal), h0]
          · rw [nm_at (H.out.2 (by omega)) H.out.1 kl (fun b hb => by rw [B] at hb; obtain rfl := Option.some.inj hb; unfold isAn; rw [nal, ndg]; rfl) ll]
        clear B ha hi H nal ndg
        by_cases h0 : k = 0
        · subst h0
          clear C
          go_wp2_with fail
          refine (L.out _).mono ?_
          rintro e w' ⟨rfl, rfl⟩
          go_wp2_with fail
          go_ret
          exact ⟨ret_int (by simpa using F.out), bel_alloc (Below.refl _ _) _⟩
        · have hk0 : ((k : Int) == 0) = false := by rw [beq_eq_false_iff_ne]; omega
          go_wp2_with fail
          refine (L.out _).mono ?_
          rintro e w' ⟨rfl, rfl⟩
          go_wp2_with fail
          refine (C.out _).mono ?_
          rintro e w' ⟨rfl, rfl⟩
          go_wp2_with fail
          go_ret
          exact ⟨ret_int F.out, bel_alloc (Below.refl _ _) _⟩
    · have hnx : ∀ ty, (Instr.next (.pointer (some ⟨w.heap.size, 0, none⟩)) true ty).run Tryz.prog (w.iter s k) = _ := fun ty => run_next_end w s k ty hlt
      have F : Hid ((s.size : Int) = (nmL s.data.toList : Int)) := by
        show _ = _
        by_cases h0 : k = 0
        · have : s.data.toList = [] := List.eq_nil_of_length_eq_zero (by rw [← Lib.size_eq]; omega)
          rw [this, Lib.size_eq, this]
          rfl
        · rw [nm_at (H.out.2 (by omega)) H.out.1 kl (fun b hb => (at_end s k hlt b hb).elim) (by omega)]
          omega
      clear H
      go_wp2_with fail
      go_ret
      exact ⟨ret_int F.out, bel_alloc (Below.refl _ _) _⟩
end Go.Proofs.YtkhddadhkkffnaaGreatDoor
