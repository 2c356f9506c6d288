/-
  Contracts of nat's isDigits, group and Parse: digits as a number. Conditions: the text has at most 20000 bytes (a longer one is told to be too long).
-/
import Derived.Test.YtckeajjlkpjgjaaDoorNma
namespace Go.Proofs.YtckeajjlkpjgjaaDoor
open Go.RowKit

/-- A byte that is a digit. -/
def isDig (c : UInt8) : Bool := decide (48 ≤ c.toNat) && decide (c.toNat ≤ 57)
/-- There is a byte, and all are digits. -/
def digB (l : List UInt8) : Bool := !l.isEmpty && l.all isDig
/-- The number of digits. -/
def dval (l : List UInt8) : Int := l.foldl (fun a c => a * 10 + ((c.toNat : Int) - 48)) 0
theorem dval_snoc (l : List UInt8) (c : UInt8) : dval (l ++ [c]) = dval l * 10 + ((c.toNat : Int) - 48) := by unfold dval; rw [List.foldl_append]; rfl
theorem dval_nil : dval [] = 0 := rfl
theorem dval_one (c : UInt8) : dval [c] = (c.toNat : Int) - 48 := by have := dval_snoc [] c; rw [dval_nil, List.nil_append] at this; omega
theorem dval_append : ∀ (l m : List UInt8), dval (l ++ m) = dval l * 10 ^ m.length + dval m
  | l, [] => by simp [dval_nil]
  | l, c :: m => by
    have h1 := dval_append (l ++ [c]) m
    have h2 := dval_append [c] m
    rw [List.append_assoc, dval_snoc] at h1
    simp only [List.singleton_append] at h1 h2
    rw [h1, h2, dval_one, List.length_cons, Int.pow_succ, Int.add_mul, Int.mul_assoc, Int.mul_comm 10]
    omega
theorem dval_cons (c : UInt8) (m : List UInt8) : dval (c :: m) = ((c.toNat : Int) - 48) * 10 ^ m.length + dval m := by
  have h2 := dval_append [c] m
  rw [dval_one] at h2
  exact h2
theorem dval_bd : ∀ {l : List UInt8}, l.all isDig = true → 0 ≤ dval l ∧ dval l < 10 ^ l.length
  | [], _ => by simp [dval_nil]
  | c :: m, h => by
    simp only [List.all_cons, Bool.and_eq_true] at h
    obtain ⟨h1, h2⟩ := dval_bd h.2
    have h3 := h.1
    unfold isDig at h3
    simp only [Bool.and_eq_true, decide_eq_true_eq] at h3
    have hp : (0 : Int) < 10 ^ m.length := Int.pow_pos (by decide)
    have h4 : 0 ≤ ((c.toNat : Int) - 48) * 10 ^ m.length := Int.mul_nonneg (by omega) (Int.le_of_lt hp)
    have h5 : ((c.toNat : Int) - 48) * 10 ^ m.length ≤ 9 * 10 ^ m.length := Int.mul_le_mul_of_nonneg_right (by omega) (Int.le_of_lt hp)
    rw [dval_cons, List.length_cons, Int.pow_succ]
    omega
theorem take_snoc (s : ByteArray) (k : Nat) (h : k < s.size) : s.data.toList.take (k + 1) = s.data.toList.take k ++ [s[k]] := by
  rw [List.take_succ_eq_append_getElem (by simpa using h)]; rfl

set_option maxHeartbeats 1600000 in
theorem isDigits_any (s : ByteArray) (w : World) (hs : s.size ≤ 1048576) :
    Calls Tryd.prog 58 #[.string s] w fun e w' => e = .returned (.bool (digB s.data.toList)) ∧ w = w' := by
  go_enter Tryd.func58, Tryd.ntmps58
  go_wp2_with fail
  go_loop [6] (fun s6 => ∃ k : Nat, s6 = .int .i64 (k : Int) ∧ k ≤ s.size ∧ Hid ((s.data.toList.take k).all isDig = true)) (fun s6 => s.size - (intOf s6).toNat)
  case atStart => exact ⟨0, rfl, Nat.zero_le _, by show _ = _; simp⟩
  case round =>
    obtain ⟨k, rfl, hk, H⟩ := hrel
    by_cases hlt : k < s.size
    · have hts := take_snoc s k hlt
      have hmem : s[k] ∈ s.data.toList := by
        have : s[k] ∈ s.data.toList.take (k + 1) := by rw [hts]; simp
        exact List.mem_of_mem_take this
      have hl1 : (k : Int) < (s.size : Int) := by omega
      by_cases hd : isDig s[k] = true
      · have H2 : Hid ((s.data.toList.take (k + 1)).all isDig = true) := by
          show _ = _
          rw [hts, List.all_append, H.out]
          simp [hd]
        unfold isDig at hd
        simp only [Bool.and_eq_true, decide_eq_true_eq] at hd
        obtain ⟨d1, d2⟩ := hd
        clear hts H hmem
        go_wp2_with fail
        go_round
        case rel => exact ⟨k + 1, by go_num, by omega, H2⟩
        case measure => simp [intOf]; omega
      · have F : Hid (false = digB s.data.toList) := by
          show _ = _
          unfold digB
          have : s.data.toList.all isDig = false := by
            rw [List.all_eq_false]
            exact ⟨_, hmem, hd⟩
          rw [this, Bool.and_false]
        unfold isDig at hd
        simp only [Bool.and_eq_true, decide_eq_true_eq] at hd
        clear hts H hmem
        by_cases d1 : 48 ≤ s[k].toNat
        · have d2 : 57 < s[k].toNat := by omega
          have d3 : (57 : Int) < (s[k].toNat : Int) := by omega
          have d4 : ¬ (s[k].toNat : Int) < 48 := by omega
          clear hd
          go_wp2_with fail
          go_ret
          exact ⟨ret_bool F.out, rfl⟩
        · have d3 : (s[k].toNat : Int) < 48 := by omega
          clear hd
          go_wp2_with fail
          go_ret
          exact ⟨ret_bool F.out, rfl⟩
    · have ek : k = s.size := by omega
      have ht : s.data.toList.take k = s.data.toList := List.take_of_length_le (by simp; omega)
      have F : Hid ((!s.toList.isEmpty) = digB s.data.toList) := by
        show _ = _
        rw [Lib.toList_data]
        unfold digB
        have := H.out
        rw [ht] at this
        rw [this, Bool.and_true]
      clear ht H
      go_wp2_with fail
      go_ret
      exact ⟨ret_bool F.out, rfl⟩

set_option maxHeartbeats 1600000 in
theorem group_any (s : ByteArray) (w : World) (hs : s.size ≤ 9) (hd : s.data.toList.all isDig = true) :
    Calls Tryd.prog 60 #[.string s] w fun e w' => e = .returned (.int .u32 (dval s.data.toList)) ∧ w = w' := by
  have HD := Lib.hid hd
  clear hd
  go_enter Tryd.func60, Tryd.ntmps60
  go_wp2_with fail
  go_loop [3, 7] (fun s3 s7 => ∃ k : Nat, s7 = .int .i64 (k : Int) ∧ k ≤ s.size ∧ s3 = .int .u32 (dval (s.data.toList.take k))) (fun _ s7 => s.size - (intOf s7).toNat)
  case atStart => exact ⟨0, rfl, Nat.zero_le _, rfl⟩
  case round =>
    obtain ⟨k, rfl, hk, rfl⟩ := hrel
    have hall : (s.data.toList.take k).all isDig = true := by
      rw [List.all_eq_true]
      exact fun c hc => List.all_eq_true.1 HD.out c (List.mem_of_mem_take hc)
    obtain ⟨b0, b1⟩ := dval_bd hall
    by_cases hlt : k < s.size
    · have hts := take_snoc s k hlt
      have hmem : s[k] ∈ s.data.toList := by
        have : s[k] ∈ s.data.toList.take (k + 1) := by rw [hts]; simp
        exact List.mem_of_mem_take this
      have hdk := List.all_eq_true.1 HD.out _ hmem
      unfold isDig at hdk
      simp only [Bool.and_eq_true, decide_eq_true_eq] at hdk
      obtain ⟨d1, d2⟩ := hdk
      have hl1 : (k : Int) < (s.size : Int) := by omega
      have b2 : dval (s.data.toList.take k) < 100000000 := by
        have hlen : (s.data.toList.take k).length ≤ 8 := by rw [List.length_take]; omega
        have h3 : (10 : Int) ^ (s.data.toList.take k).length ≤ 10 ^ 8 := by
          have h4 : 10 ^ (s.data.toList.take k).length ≤ 10 ^ 8 := Nat.pow_le_pow_right (by decide) hlen
          have h5 : ((10 ^ (s.data.toList.take k).length : Nat) : Int) ≤ ((10 ^ 8 : Nat) : Int) := Int.ofNat_le.2 h4
          simpa using h5
        rw [show (10 : Int) ^ 8 = 100000000 by decide] at h3
        omega
      have HS : Hid (dval (s.data.toList.take (k + 1)) = dval (s.data.toList.take k) * 10 + ((s[k].toNat : Int) - 48)) := by show _ = _; rw [hts, dval_snoc]
      generalize dval (s.data.toList.take k) = x at *
      have d3 : (48 : Int) ≤ (s[k].toNat : Int) := by omega
      have d4 : (s[k].toNat : Int) ≤ 57 := by omega
      clear hts hmem hall b1 d1 d2
      go_wp2_with fail
      go_round
      case rel => exact ⟨k + 1, by go_num, by omega, by rw [HS.out]⟩
      case measure => simp [intOf]; omega
    · have ek : k = s.size := by omega
      have ht : s.data.toList.take k = s.data.toList := List.take_of_length_le (by simp; omega)
      have F : Hid (dval (s.data.toList.take k) = dval s.data.toList) := by show _ = _; rw [ht]
      clear ht hall b1
      generalize dval (s.data.toList.take k) = x at *
      go_wp2_with fail
      go_ret
      exact ⟨ret_int F.out, rfl⟩

/-- What Parse hands back. -/
def parV (l : List UInt8) : Int := if digB l then dval l else 0
def parE (l : List UInt8) : Int := if digB l then 0 else 22
set_option maxHeartbeats 1600000 in
theorem nparse_any (s : ByteArray) (w : World) (hs : s.size ≤ 20000) :
    Calls Tryd.prog 34 #[.string s] w (RetShl (parV s.data.toList) (parE s.data.toList) w) := by
  have D := isDigits_any s
  obtain ⟨pv, hpv⟩ : ∃ pv, parV s.data.toList = pv := ⟨_, rfl⟩
  obtain ⟨pe, hpe⟩ : ∃ pe, parE s.data.toList = pe := ⟨_, rfl⟩
  rw [hpv, hpe]
  have HPV := Lib.hid hpv
  have HPE := Lib.hid hpe
  clear hpv hpe
  cases hd : digB s.data.toList
  · have FV : Hid (pv = 0) := by show _ = _; rw [← HPV.out, parV, hd]; rfl
    have FE : Hid (pe = 22) := by show _ = _; rw [← HPE.out, parE, hd]; rfl
    rw [hd] at D
    have DD := Lib.hid D
    clear D hd
    go_enter Tryd.func34, Tryd.ntmps34
    go_wp2_with fail
    refine (DD.out _ (by omega)).mono ?_
    rintro e w1 ⟨rfl, rfl⟩
    clear DD
    go_wp2_with fail
    go_ret2
    refine ⟨[], none, 0, 0, by rw [FV.out]; exact IsNat.nil, rfl, ?_, Nat.le_refl _, .inl rfl, Below.refl _ _⟩
    rw [FE.out]
    rfl
  · have FV : Hid (pv = dval s.data.toList) := by show _ = _; rw [← HPV.out, parV, hd]; rfl
    have FE : Hid (pe = 0) := by show _ = _; rw [← HPE.out, parE, hd]; rfl
    have HALL : Hid (s.data.toList.all isDig = true) := by
      unfold digB at hd
      simp only [Bool.and_eq_true] at hd
      exact hd.2
    rw [hd] at D
    have DD := Lib.hid D
    clear D hd
    go_enter Tryd.func34, Tryd.ntmps34
    go_wp2_with fail
    refine (DD.out _ (by omega)).mono ?_
    rintro e w1 ⟨rfl, rfl⟩
    clear DD
    go_wp2_with fail
    go_loopg [0, 4] s.size (fun gk s0 s4 wr => ∃ (k n c : Nat) (t : ByteArray) (ws : List Int) (A : Option Addr), s0 = .string t ∧ s4 = .slice A n c ∧ gk = t.size ∧ k ≤ s.size ∧ Hid (t.data.toList = s.data.toList.drop k) ∧ Hid (t.size = s.size - k) ∧ (k = 0 ∨ t.size % 9 = 0) ∧ Hid (nv ws = dval (s.data.toList.take k)) ∧ AllW ws ∧ n ≤ k ∧ wr.ownsRow w.heap.size 67 1 (.slice A n c) n (ws.map (Value.int .u32)) ∧ Hid (Below w.heap.size w wr))
    case atStart => exact ⟨0, 0, 0, s, [], none, rfl, rfl, rfl, Nat.zero_le _, by show _ = _; simp, by show _ = _; simp, .inl rfl, rfl, AllW.nil, Nat.le_refl _, ⟨rfl, .inl ⟨rfl, rfl⟩⟩, Below.refl _ _⟩
    case round =>
      obtain ⟨k, n, c, t, ws, A, rfl, rfl, hgk, hk, HT, HS, h9, HV, aw, hnk, own, HB⟩ := hrel
      have hts := HS.out
      by_cases h0 : t.size = 0
      · have ek : k = s.size := by omega
        have ht : s.data.toList.take k = s.data.toList := List.take_of_length_le (by simp; omega)
        have FIN : Hid (nv ws = pv) := by show _ = _; rw [HV.out, ht, FV.out]
        obtain ⟨hl, A', c', e, hc', hr', hf'⟩ := own_words own
        injection e with e1 e2 e3
        subst e1 e3
        have HL := Lib.hid hl
        have hd0 : decide ((0 : Int) < (t.size : Int)) = false := decide_eq_false (by omega)
        have hd1 : decide (0 < t.size) = false := decide_eq_false (by omega)
        clear ht HV hl own hgk HT HS h9 hts ek h0
        go_wp2_with fail
        refine (trim_any A n c ws wr HL.out hc' hr' (by omega)).mono ?_
        rintro e w1 ⟨ts, A2, m2, c2, T, rfl, hmc, hra, -, rfl⟩
        have fin2 : IsNat pv ts := by have := T.nat aw; rw [FIN.out] at this; exact this
        have HTL := Lib.hid T.len
        clear T
        go_wp2_with fail
        go_ret2
        refine ⟨ts, A2, m2, c2, fin2, HTL.out, ?_, hmc, hra, HB.out⟩
        rw [FE.out]
        rfl
      · obtain ⟨q, hq⟩ : ∃ q, (t.size - 1) % 9 + 1 = q := ⟨_, rfl⟩
        have hq1 : ((t.size : Int) - 1) % 9 + 1 = (q : Int) := by omega
        have hq2 : q ≤ t.size := by omega
        have hq3 : q ≤ 9 := by omega
        have hq4 : 1 ≤ q := by omega
        have ht0 : (0 : Int) < (t.size : Int) := by omega
        have htm : t.size ≤ 20000 := by omega
        have hq9 : k = 0 ∨ q = 9 := by omega
        have hr9 : (t.size - q) % 9 = 0 := by omega
        have hkq : k + q ≤ s.size := by omega
        have htl : t.data.toList.length = t.size := by simp
        have e1 : (t.extract 0 q).data.toList = t.data.toList.take q := by rw [Lib.extract_data]; simp
        have e2 : (t.extract q t.size).data.toList = t.data.toList.drop q := by rw [Lib.extract_data, List.take_of_length_le (by rw [List.length_drop, htl]; exact Nat.le_refl _)]
        have s1 : (t.extract 0 q).size = q := by
          have : (t.extract 0 q).data.toList.length = q := by rw [e1, List.length_take, htl]; omega
          simpa using this
        have s2 : (t.extract q t.size).size = t.size - q := by
          rw [Lib.size_eq, e2, List.length_drop, htl]
        have hallt : (t.extract 0 q).data.toList.all isDig = true := by
          rw [e1, List.all_eq_true]
          intro ch hch
          have h1 := List.mem_of_mem_take hch
          rw [HT.out] at h1
          exact List.all_eq_true.1 HALL.out ch (List.mem_of_mem_drop h1)
        have GC := Lib.hid (fun w => group_any (t.extract 0 q) w (by omega) hallt)
        have gb := dval_bd hallt
        have HV2 : Hid (nv ws * 1000000000 + dval (t.extract 0 q).data.toList = dval (s.data.toList.take (k + q))) := by
          show _ = _
          have h1 : s.data.toList.take (k + q) = s.data.toList.take k ++ (t.extract 0 q).data.toList := by
            rw [e1, HT.out, ← List.take_add]
          rw [h1, dval_append, HV.out]
          have hlen : (t.extract 0 q).data.toList.length = q := by simpa using s1
          rw [hlen]
          rcases hq9 with h | h
          · subst h; simp [dval_nil]
          · subst h; rfl
        have HT2 : Hid ((t.extract q t.size).data.toList = s.data.toList.drop (k + q)) := by
          show _ = _
          rw [e2, HT.out, List.drop_drop]
        have HS2 : Hid ((t.extract q t.size).size = s.size - (k + q)) := by show _ = _; rw [s2]; omega
        have gb9 : dval (t.extract 0 q).data.toList < 4294967296 := by
          have hlen : (t.extract 0 q).data.toList.length = q := by simpa using s1
          rw [hlen] at gb
          have h4 : 10 ^ q ≤ 10 ^ 9 := Nat.pow_le_pow_right (by decide) hq3
          have h5 : ((10 ^ q : Nat) : Int) ≤ ((10 ^ 9 : Nat) : Int) := Int.ofNat_le.2 h4
          have h6 : ((10 ^ q : Nat) : Int) = (10 : Int) ^ q := by simp
          have h7 : ((10 ^ 9 : Nat) : Int) = 1000000000 := by decide
          have := gb.2
          omega
        have gb0 := gb.1
        have S2 := Lib.hid s2
        have h9' : (t.extract q t.size).size % 9 = 0 := by rw [s2]; exact hr9
        have GK := Lib.hid hgk
        clear hgk hq hts h0 e1 e2 s1 s2 hallt gb HV HT HS htl h9 hq9
        generalize dval (t.extract 0 q).data.toList = gv at *
        go_wp2_with fail
        refine (GC.out _).mono ?_
        rintro e w1 ⟨rfl, rfl⟩
        clear GC
        go_wp2_with fail
        refine (mulAdd_any A n c w.heap.size ws 1000000000 gv wr own HB.out.size aw ⟨by decide, by decide⟩ ⟨gb0, gb9⟩ (by omega)).mono ?_
        rintro e w1 ⟨zs, m, u, hv, az, hm, rfl, own2, hb2, hsz2⟩
        obtain ⟨-, A2, c2, rfl, -, -, -⟩ := own_words own2
        have HV3 := Lib.hid (hv.trans HV2.out)
        have HB2 := Lib.hid (HB.out.trans hb2)
        clear hv hb2 HB own HV2
        go_wp2_with fail
        go_roundg (t.extract q t.size).size
        case measure => rw [GK.out, S2.out]; omega
        case rel => exact ⟨k + q, m, c2, t.extract q t.size, zs, A2, rfl, rfl, rfl, hkq, HT2, HS2, .inr h9', HV3, az, by omega, own2, HB2⟩
end Go.Proofs.YtckeajjlkpjgjaaDoor
