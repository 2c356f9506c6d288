/-
  Contracts of deci.isDigits, readExp, power and nearest. Conditions: a text of at most 2000 bytes, a power of at most 3000, either way.
-/
import Derived.Test.YthofjlgngandoaaGreatDoorEnv8
import Derived.Test.YthofjlgngandoaaGreatDoorMDa
import Derived.Test.YthofjlgngandoaaGreatDoorPlan
namespace Go.Proofs.YthofjlgngandoaaGreatDoor
open Go.RowKit
set_option maxRecDepth 100000

set_option maxHeartbeats 1600000 in
theorem eIsDigits_any (s : ByteArray) (w : World) (hs : s.size ≤ 1048576) :
    Calls Tryz.prog 58 #[.string s] w fun e w' => e = .returned (.bool (digB s.data.toList)) ∧ w = w' := by
  go_enter Tryz.func58, Tryz.ntmps58
  go_wp2_with fail
  go_loop [6] (fun s6 => ∃ k : Nat, s6 = .int .i64 (k : Int) ∧ k ≤ s.size ∧ Hid ((s.data.toList.take k).all isDig = true)) (fun s6 => s.size - (intOf s6).toNat)
  case atStart => exact ⟨0, rfl, Nat.zero_le _, by show _ = _; simp⟩
  case round =>
    obtain ⟨k, rfl, hk, H⟩ := hrel
    by_cases hlt : k < s.size
    · have hts := take_snoc s k hlt
      have hmem : s[k] ∈ s.data.toList := by
        have : s[k] ∈ s.data.toList.take (k + 1) := by rw [hts]; simp
        exact List.mem_of_mem_take this
      have hl1 : (k : Int) < (s.size : Int) := by omega
      by_cases hd : isDig s[k] = true
      · have H2 : Hid ((s.data.toList.take (k + 1)).all isDig = true) := by
          show _ = _
          rw [hts, List.all_append, H.out]
          simp [hd]
        unfold isDig at hd
        simp only [Bool.and_eq_true, decide_eq_true_eq] at hd
        obtain ⟨d1, d2⟩ := hd
        clear hts H hmem
        go_wp2_with fail
        go_round
        case rel => exact ⟨k + 1, by go_num, by omega, H2⟩
        case measure => simp [intOf]; omega
      · have F : Hid (false = digB s.data.toList) := by
          show _ = _
          unfold digB
          have : s.data.toList.all isDig = false := by
            rw [List.all_eq_false]
            exact ⟨_, hmem, hd⟩
          rw [this, Bool.and_false]
        unfold isDig at hd
        simp only [Bool.and_eq_true, decide_eq_true_eq] at hd
        clear hts H hmem
        by_cases d1 : 48 ≤ s[k].toNat
        · have d2 : 57 < s[k].toNat := by omega
          have d3 : (57 : Int) < (s[k].toNat : Int) := by omega
          have d4 : ¬ (s[k].toNat : Int) < 48 := by omega
          clear hd
          go_wp2_with fail
          go_ret
          exact ⟨ret_bool F.out, rfl⟩
        · have d3 : (s[k].toNat : Int) < 48 := by omega
          clear hd
          go_wp2_with fail
          go_ret
          exact ⟨ret_bool F.out, rfl⟩
    · have ek : k = s.size := by omega
      have ht : s.data.toList.take k = s.data.toList := List.take_of_length_le (by simp; omega)
      have F : Hid ((!s.toList.isEmpty) = digB s.data.toList) := by
        show _ = _
        rw [Lib.toList_data]
        unfold digB
        have := H.out
        rw [ht] at this
        rw [this, Bool.and_true]
      clear ht H
      go_wp2_with fail
      go_ret
      exact ⟨ret_bool F.out, rfl⟩



set_option maxHeartbeats 4000000 in
theorem readExp_any (s : ByteArray) (w : World) (hs : s.size ≤ 1048576) :
    Calls Tryz.prog 56 #[.string s] w fun e w' => e = .returned (.tuple #[.int .i64 (rxV s.data.toList), .bool (rxOk s.data.toList)]) ∧ w = w' := by
  have C1 := Lib.hid (fun w => sh_strings_CutPrefix s ⟨#[45]⟩ w)
  have C2 := Lib.hid (fun w => sh_strings_TrimPrefix s ⟨#[43]⟩ w)
  obtain ⟨t, ht⟩ : ∃ t : ByteArray, t = ⟨(rxD s.data.toList).toArray⟩ := ⟨_, rfl⟩
  have htd : t.data.toList = rxD s.data.toList := by rw [ht]
  have hts : t.size ≤ s.size := by
    rw [Lib.size_eq, Lib.size_eq, htd]
    have tp : ∀ p, (Lib.trimPrefix s.data.toList p).length ≤ s.data.toList.length := fun p => by
      unfold Lib.trimPrefix
      split
      · rw [List.length_drop]; omega
      · omega
    unfold rxD
    split
    · exact tp _
    · exact tp _
  have D := Lib.hid (fun w => eIsDigits_any t w (by omega))
  have VO : Hid (rxOk s.data.toList = digB t.data.toList) := by show _ = _; rw [htd]; rfl
  have VN : Hid (rxOk s.data.toList = false → rxV s.data.toList = 0) := fun h => by unfold rxV; rw [h]; rfl
  have V0 : Hid (rxOk s.data.toList = true → Lib.hasPrefix s.data.toList [45] = false → rxV s.data.toList = clampE t.data.toList) := fun h k => by unfold rxV; rw [h, k, htd]; rfl
  have V1 : Hid (rxOk s.data.toList = true → Lib.hasPrefix s.data.toList [45] = true → rxV s.data.toList = -clampE t.data.toList) := fun h k => by unfold rxV; rw [h, k, htd]; rfl
  have T0 : Hid (Lib.hasPrefix s.data.toList [45] = false → (⟨(Lib.trimPrefix s.data.toList [43]).toArray⟩ : ByteArray) = t) := fun h => by rw [ht]; unfold rxD; rw [h]; rfl
  have T1 : Hid (Lib.hasPrefix s.data.toList [45] = true → (⟨(Lib.trimPrefix s.data.toList [45]).toArray⟩ : ByteArray) = t) := fun h => by rw [ht]; unfold rxD; rw [h]; rfl
  clear ht htd
  generalize rxV s.data.toList = rv at *
  generalize rxOk s.data.toList = ok at *
  have C1' := C1.out
  have C2' := C2.out
  clear C1 C2
  simp only at C1' C2'
  -- the loop's number
  have LOOP : Hid (∀ k, k < t.size → digB t.data.toList = true → 0 ≤ clampE (t.data.toList.take k) ∧ clampE (t.data.toList.take k) ≤ 1000 ∧ clampE (t.data.toList.take (k + 1)) = min (clampE (t.data.toList.take k) * 10 + ((t[k]!.toNat : Int) - 48)) 1000 ∧ 48 ≤ t[k]!.toNat ∧ t[k]!.toNat ≤ 57) := by
    intro k hk hd
    have al := (digB_all hd).1
    have b := clamp_bd _ (all_take al k)
    have ts := take_snoc t k hk
    have gk : t[k]! = t[k] := getElem!_pos t k hk
    have mem : t[k] ∈ t.data.toList := by
      have : t[k] ∈ t.data.toList.take (k + 1) := by rw [ts]; simp
      exact List.mem_of_mem_take this
    have dk := List.all_eq_true.1 al _ mem
    unfold isDig at dk
    simp only [Bool.and_eq_true, decide_eq_true_eq] at dk
    refine ⟨b.1, b.2, ?_, by rw [gk]; exact dk.1, by rw [gk]; exact dk.2⟩
    rw [ts, gk]
    unfold clampE
    rw [List.foldl_append]
    rfl
  have CT : Hid (clampE t.data.toList = clampE (t.data.toList.take t.size)) := by
    show _ = _
    rw [List.take_of_length_le (by rw [Lib.size_eq]; omega)]
  have LS : t.size ≤ 1048576 := by omega
  clear hts
  obtain ⟨t0, ht0⟩ : ∃ t0 : ByteArray, (⟨(Lib.trimPrefix s.data.toList [45]).toArray⟩ : ByteArray) = t0 := ⟨_, rfl⟩
  obtain ⟨t1, ht1⟩ : ∃ t1 : ByteArray, (⟨(Lib.trimPrefix s.data.toList [43]).toArray⟩ : ByteArray) = t1 := ⟨_, rfl⟩
  rw [ht0] at C1' T1
  rw [ht1] at C2' T0
  clear ht0 ht1
  have D' := D.out
  clear D
  have CC1 := Lib.hid C1'
  have CC2 := Lib.hid C2'
  have DD := Lib.hid D'
  clear C1' C2' D'
  generalize Lib.hasPrefix s.data.toList [45] = neg at *
  have NIL : rxOk s.data.toList = rxOk s.data.toList := rfl
  clear NIL
  cases ok
  · obtain rfl := VN.out rfl
    have HD := VO.out
    rw [← HD] at DD
    clear LOOP CT V0 V1 VN VO HD
    cases neg
    · obtain rfl := T0.out rfl
      clear T0 T1
      go_enter Tryz.func56, Tryz.ntmps56
      go_wp2_with fail
      refine (CC1.out _).mono ?_
      rintro e w1 ⟨rfl, rfl⟩
      go_wp2_with fail
      refine (CC2.out _).mono ?_
      rintro e w1 ⟨rfl, rfl⟩
      go_wp2_with fail
      refine (DD.out _).mono ?_
      rintro e w1 ⟨rfl, rfl⟩
      go_wp2_with fail
      go_ret2
      exact ⟨rfl, rfl⟩
    · obtain rfl := T1.out rfl
      clear T0 T1
      go_enter Tryz.func56, Tryz.ntmps56
      go_wp2_with fail
      refine (CC1.out _).mono ?_
      rintro e w1 ⟨rfl, rfl⟩
      go_wp2_with fail
      refine (DD.out _).mono ?_
      rintro e w1 ⟨rfl, rfl⟩
      go_wp2_with fail
      go_ret2
      exact ⟨rfl, rfl⟩
  · have HD := VO.out
    rw [← HD] at DD
    have LO := Lib.hid (fun k hk => LOOP.out k hk HD.symm)
    clear LOOP VO HD VN
    cases neg
    · obtain rfl := T0.out rfl
      obtain rfl := V0.out rfl rfl
      clear T0 T1 V0 V1
      go_enter Tryz.func56, Tryz.ntmps56
      go_wp2_with fail
      refine (CC1.out _).mono ?_
      rintro e w1 ⟨rfl, rfl⟩
      go_wp2_with fail
      refine (CC2.out _).mono ?_
      rintro e w1 ⟨rfl, rfl⟩
      go_wp2_with fail
      refine (DD.out _).mono ?_
      rintro e w1 ⟨rfl, rfl⟩
      clear CC1 CC2 DD
      go_wp2_with fail
      go_loop [6, 22] (fun s6 s22 => ∃ k : Nat, s22 = .int .i64 (k : Int) ∧ k ≤ t1.size ∧ s6 = .int .i64 (clampE (t1.data.toList.take k)) ∧ Hid (0 ≤ clampE (t1.data.toList.take k) ∧ clampE (t1.data.toList.take k) ≤ 1000)) (fun _ s22 => t1.size - (intOf s22).toNat)
      case atStart => exact ⟨0, rfl, Nat.zero_le _, rfl, by show _ ∧ _; rw [List.take_zero]; decide⟩
      obtain ⟨k, rfl, hk, rfl, CB⟩ := hrel
      by_cases hlt : k < t1.size
      · obtain ⟨b0, b1, b2, b3, b4⟩ := LO.out k hlt
        obtain ⟨x', hx'⟩ : ∃ x', clampE (t1.data.toList.take (k + 1)) = x' := ⟨_, rfl⟩
        rw [hx'] at b2
        have B2 := Lib.hid b2
        have HX := Lib.hid hx'
        clear hx'
        have gk : t1[k] = t1[k]! := (getElem!_pos t1 k hlt).symm
        have B3 : Hid (0 ≤ x' ∧ x' ≤ 1000) := by show _ ∧ _; rw [b2]; omega
        clear b2 CB
        have hl1 : (k : Int) < (t1.size : Int) := by omega
        generalize clampE (t1.data.toList.take k) = x at *
        generalize t1[k]! = c at *
        have d3 : (48 : Int) ≤ (c.toNat : Int) := by omega
        have d4 : (c.toNat : Int) ≤ 57 := by omega
        have e1 : IntKind.u8.wrap ((c.toNat : Int) - 48) = (c.toNat : Int) - 48 := by rw [IntKind.wrap_u8]; omega
        have e2 : IntKind.i64.wrap ((c.toNat : Int) - 48) = (c.toNat : Int) - 48 := by rw [IntKind.wrap_i64]; omega
        clear LO CT b3 b4
        go_wp2_with fail
        go_round
        case rel => exact ⟨k + 1, by go_num, by omega, by rw [HX.out, B2.out], by rw [HX.out]; exact B3⟩
        case measure => simp [intOf]; omega
      · obtain rfl : k = t1.size := by omega
        have ce := CT.out
        clear LO CT
        go_wp2_with fail
        go_ret2
        exact ⟨rfl, rfl⟩
    · obtain rfl := T1.out rfl
      obtain rfl := V1.out rfl rfl
      clear T0 T1 V0 V1
      go_enter Tryz.func56, Tryz.ntmps56
      go_wp2_with fail
      refine (CC1.out _).mono ?_
      rintro e w1 ⟨rfl, rfl⟩
      go_wp2_with fail
      refine (DD.out _).mono ?_
      rintro e w1 ⟨rfl, rfl⟩
      clear CC1 CC2 DD
      go_wp2_with fail
      go_loop [6, 22] (fun s6 s22 => ∃ k : Nat, s22 = .int .i64 (k : Int) ∧ k ≤ t0.size ∧ s6 = .int .i64 (clampE (t0.data.toList.take k)) ∧ Hid (0 ≤ clampE (t0.data.toList.take k) ∧ clampE (t0.data.toList.take k) ≤ 1000)) (fun _ s22 => t0.size - (intOf s22).toNat)
      case atStart => exact ⟨0, rfl, Nat.zero_le _, rfl, by show _ ∧ _; rw [List.take_zero]; decide⟩
      obtain ⟨k, rfl, hk, rfl, CB⟩ := hrel
      by_cases hlt : k < t0.size
      · obtain ⟨b0, b1, b2, b3, b4⟩ := LO.out k hlt
        obtain ⟨x', hx'⟩ : ∃ x', clampE (t0.data.toList.take (k + 1)) = x' := ⟨_, rfl⟩
        rw [hx'] at b2
        have B2 := Lib.hid b2
        have HX := Lib.hid hx'
        clear hx'
        have gk : t0[k] = t0[k]! := (getElem!_pos t0 k hlt).symm
        have B3 : Hid (0 ≤ x' ∧ x' ≤ 1000) := by show _ ∧ _; rw [b2]; omega
        clear b2 CB
        have hl1 : (k : Int) < (t0.size : Int) := by omega
        generalize clampE (t0.data.toList.take k) = x at *
        generalize t0[k]! = c at *
        have d3 : (48 : Int) ≤ (c.toNat : Int) := by omega
        have d4 : (c.toNat : Int) ≤ 57 := by omega
        have e1 : IntKind.u8.wrap ((c.toNat : Int) - 48) = (c.toNat : Int) - 48 := by rw [IntKind.wrap_u8]; omega
        have e2 : IntKind.i64.wrap ((c.toNat : Int) - 48) = (c.toNat : Int) - 48 := by rw [IntKind.wrap_i64]; omega
        clear LO CT b3 b4
        go_wp2_with fail
        go_round
        case rel => exact ⟨k + 1, by go_num, by omega, by rw [HX.out, B2.out], by rw [HX.out]; exact B3⟩
        case measure => simp [intOf]; omega
      · obtain rfl : k = t0.size := by omega
        have ce := CT.out
        have cb : 0 ≤ clampE (t0.data.toList.take t0.size) ∧ clampE (t0.data.toList.take t0.size) ≤ 1000 := CB.out
        have CE := Lib.hid ce
        clear LO CT ce CB
        generalize clampE (t0.data.toList.take t0.size) = x at *
        go_wp2_with fail
        go_ret2
        exact ⟨by rw [CE.out]; rfl, rfl⟩


theorem pow_fits0 {b n k K : Nat} (hb : b ≤ 10) (hn : n ≤ 3 * k) (hk : 10 * k < K) : ((b : Int)) ^ n < 2 ^ K := by
  have h1 : b ^ n ≤ 10 ^ n := Nat.pow_le_pow_left hb n
  have h2 : 10 ^ n ≤ 10 ^ (3 * k) := Nat.pow_le_pow_right (by decide) hn
  have h3 : 10 ^ (3 * k) ≤ 2 ^ (10 * k) := by
    rw [Nat.pow_mul, Nat.pow_mul]
    exact Nat.pow_le_pow_left (by decide) k
  have h4 : 2 ^ (10 * k) < 2 ^ K := Nat.pow_lt_pow_right (by decide) hk
  have h5 : ((b ^ n : Nat) : Int) < ((2 ^ K : Nat) : Int) := Int.ofNat_lt.2 (by omega)
  rw [Int.natCast_pow, Int.natCast_pow] at h5
  exact h5
theorem pow_fits {b n : Nat} (hb : b ≤ 10) (hn : n ≤ 3000) : ((b : Int)) ^ n < 2 ^ 12000 := pow_fits0 (k := 1000) hb (by omega) (by decide)
set_option maxHeartbeats 1000000 in
theorem epower_any (b : Nat) (n : Int) (hb : 2 ≤ b) (hb' : b ≤ 10) (hn : n ≤ 3000) (w : World) :
    Calls Tryz.prog 59 #[.int .u64 (b : Int), .int .i64 n] w (RetV (fun w v => NatC w v ((b : Int) ^ (max n 0).toNat) 375) w) := by
  have B4 : ∃ k : Nat, blen (b : Int) = (k : Int) ∧ k ≤ 4 := by
    have : ∀ b : Fin 11, ∃ k : Nat, blen ((b.val : Nat) : Int) = (k : Int) ∧ k ≤ 4 := by
      intro b
      refine ⟨(blen ((b.val : Nat) : Int)).toNat, ?_, ?_⟩
      · rw [Int.toNat_of_nonneg (blen_nn _)]
      · revert b; decide +kernel
    exact this ⟨b, by omega⟩
  obtain ⟨k, hk, hk4⟩ := B4
  have lt : (b : Int) ^ (max n 0).toNat < 2 ^ 12000 := pow_fits hb' (by omega)
  have nn : 0 ≤ (b : Int) ^ (max n 0).toNat := Int.pow_nonneg (by omega)
  have bl : blen ((b : Int) ^ (max n 0).toNat) ≤ 12000 := blen_le2 nn lt
  have P := npow_main (b : Int) n b (max n 0).toNat k rfl (by omega) (by omega) (by omega) hk (by
    rcases Nat.eq_zero_or_pos (max n 0).toNat with h | h
    · exact .inl h
    · refine .inr ⟨h, ?_⟩
      have : 3 ≤ 65535 / (max n 0).toNat := (Nat.le_div_iff_mul_le h).2 (by omega)
      omega) w
  rw [powV, powE, if_pos (by omega), if_pos (by omega)] at P
  have PP := Lib.hid P
  clear P hk
  generalize (b : Int) ^ (max n 0).toNat = v at *
  go_enter Tryz.func59, Tryz.ntmps59
  go_wp2_with fail
  refine PP.out.mono ?_
  rintro e w1 ⟨ws, A, m, c, i, hn', rfl, hc, hr, hb⟩
  go_wp2_with fail
  go_ret
  exact ⟨_, ⟨A, m, c, ws, rfl, hn', hc, hr, i, by rw [← hn']; exact i.le lt⟩, rfl, hb⟩

/-- The rounding of a number that is a quotient. -/
def nrF (p q : Int) : Int := if p = 0 ∨ q = 0 then 0 else rF 0 false (nX p q) (sX p q)
/-- The rounding of digits times a power of ten. -/
def nearV (l : List UInt8) (e : Int) : Int := nrF (dval l * 10 ^ (max e 0).toNat) (10 ^ (max (-e) 0).toNat)
theorem nrF_word {p q : Int} (hp : 0 ≤ p) (hq : 0 ≤ q) : Word (nrF p q) := by
  unfold nrF
  split
  · exact ⟨by decide, by decide⟩
  · exact rF_word (nX_nn hp (by omega))
theorem efrac_any {w : World} {x y : Value} {p q : Int} {L M : Nat} (h : NatV w x p L) (k : NatV w y q M) (hL : L ≤ 65536) (hM : M ≤ 65536) : Calls Tryz.prog 34 #[.bool false, x, y, .int .u8 0] w fun e w' => ∃ g, e = .returned (.tuple #[.int .u64 (nrF p q), .int .u8 g]) ∧ Below w.heap.size w w' := by
  by_cases h0 : p = 0 ∨ q = 0
  · unfold nrF
    rw [if_pos h0]
    exact (frac_zero h k false 0 hL hM h0).mono fun _ _ r => ⟨0, r⟩
  · unfold nrF
    rw [if_neg h0]
    have := h.nonneg
    have := k.nonneg
    exact (frac_pos h k false 0 hL hM (by omega) (by omega)).mono fun _ _ r => ⟨_, r⟩

theorem kpd2 {W w1 : World} {p0 p1 : Addr} {a0 a1 : Value} (hb : Below W.heap.size W w1) (h0 : W.cell? p0 = some a0) (h1 : W.cell? p1 = some a1) :
    w1.cell? p0 = some a0 ∧ w1.cell? p1 = some a1 :=
  ⟨(hb.cell (World.block_lt_of_cell? _ _ h0)).trans h0, (hb.cell (World.block_lt_of_cell? _ _ h1)).trans h1⟩
set_option maxHeartbeats 4000000 in
theorem nearest_any (s : ByteArray) (e : Int) (w : World) (hs : s.size ≤ 2000) (hd : digB s.data.toList = true) (he : -3000 ≤ e) (he' : e ≤ 3000) :
    Calls Tryz.prog 36 #[.agg #[.string s, .int .i64 e]] w fun x w' => x = .returned (.int .u64 (nearV s.data.toList e)) ∧ Below w.heap.size w w' := by
  have P := nparse_any s (w.alloc (.cells #[.string s, .int .i64 e] 70)) (by omega)
  rw [parV, parE, if_pos hd, if_pos hd] at P
  have vb := dval_bd (digB_all hd).1
  have vlt : dval s.data.toList < 2 ^ (32 * 250) := by
    have h1 : (10 : Int) ^ s.data.toList.length ≤ 10 ^ 2000 := pow10_mono _ _ (by rw [← Lib.size_eq]; omega)
    have h2 : (10 : Int) ^ 2000 < 2 ^ (32 * 250) := by decide +kernel
    omega
  have N : Hid (nearV s.data.toList e = nrF (dval s.data.toList * (10 : Nat) ^ (max e 0).toNat) ((10 : Nat) ^ (max (-e) 0).toNat)) := rfl
  have VL := Lib.hid vlt
  have PP := Lib.hid P
  clear P hd vb vlt
  generalize nearV s.data.toList e = r at *
  generalize dval s.data.toList = d at *
  go_enter Tryz.func36, Tryz.ntmps36
  go_wp2_with fail
  refine PP.out.mono ?_
  rintro x w1 ⟨ws, A, m, c, i, hn', rfl, hc, hr, hb1⟩
  have n1 : NatV w1 (.slice A m c) d 250 := (show NatC w1 (.slice A m c) d 250 from ⟨A, m, c, ws, rfl, hn', hc, hr, i, by rw [← hn']; exact i.le VL.out⟩).v
  have c0 : w1.cell? ⟨w.heap.size, 0, none⟩ = some (.string s) := by
    refine (hb1.cell (by simp)).trans ?_
    rw [World.cell?_alloc_new]; rfl
  have c1 : w1.cell? ⟨w.heap.size, 1, none⟩ = some (.int .i64 e) := by
    refine (hb1.cell (by simp)).trans ?_
    rw [World.cell?_alloc_new]; rfl
  have HB1 := Lib.hid (bel_trans (bel_alloc (Below.refl _ _) _) hb1)
  clear hb1 hn' hc hr i ws PP VL
  go_upto_region 2 with fail
  have NEG : IntKind.i64.wrap (-e) = -e := by rw [IntKind.wrap_i64]; omega
  obtain ⟨g, hg⟩ : ∃ g, w.heap.size = g := ⟨_, rfl⟩
  rw [hg] at c0 c1 ⊢
  clear hg
  have HK : Hid (∀ w', Below w1.heap.size w1 w' → (w'.cell? ⟨g, 0, none⟩ = some (.string s) ∧ w'.cell? ⟨g, 1, none⟩ = some (.int .i64 e))) := fun w' hb => kpd2 hb c0 c1
  clear c0 c1
  refine region_plan (S := fun w' => w'.cell? ⟨g, 0, none⟩ = some (.string s) ∧ w'.cell? ⟨g, 1, none⟩ = some (.int .i64 e)) _ [(0, true), (1, true), (2, true), (5, true), (6, true), (7, true), (3, false), (4, false), (8, false), (9, false), (10, true), (11, true), (12, true), (13, true), (14, true)] (by kernel_rfl) (by kernel_rfl) rfl (by kernel_rfl) (by kernel_rfl) (fun _ _ d _ _ h => by cases d <;> exact h) (HK.out _ (bel_drew (Below.refl _ _))) ?_
  refine Walk.take (v := ?_) rfl (by rfl) ?_ ?_
  rotate_left
  · (intro w' hSw; (try dsimp only at hSw); go_simp <;> with_reducible rfl)
  try simp only [Act.put, List.setIfInBounds_toArray, List.set_cons_zero, List.set_cons_succ]
  refine Walk.take (v := ?_) rfl (by rfl) ?_ ?_
  rotate_left
  · (intro w' hSw; (try dsimp only at hSw); go_simp <;> with_reducible rfl)
  try simp only [Act.put, List.setIfInBounds_toArray, List.set_cons_zero, List.set_cons_succ]
  refine Walk.take (v := ?_) rfl (by rfl) ?_ ?_
  rotate_left
  · (intro w' hSw; (try dsimp only at hSw); go_simp <;> with_reducible rfl)
  try simp only [Act.put, List.setIfInBounds_toArray, List.set_cons_zero, List.set_cons_succ]
  refine Walk.take (v := ?_) rfl (by rfl) ?_ ?_
  rotate_left
  · (intro w' hSw; (try dsimp only at hSw); go_simp <;> with_reducible rfl)
  try simp only [Act.put, List.setIfInBounds_toArray, List.set_cons_zero, List.set_cons_succ]
  refine Walk.take (v := ?_) rfl (by rfl) ?_ ?_
  rotate_left
  · (intro w' hSw; (try dsimp only at hSw); go_simp <;> with_reducible rfl)
  try simp only [Act.put, List.setIfInBounds_toArray, List.set_cons_zero, List.set_cons_succ]
  refine Walk.take (v := ?_) rfl (by rfl) ?_ ?_
  rotate_left
  · (intro w' hSw; (try dsimp only at hSw); go_simp <;> with_reducible rfl)
  try simp only [Act.put, List.setIfInBounds_toArray, List.set_cons_zero, List.set_cons_succ]
  refine Walk.act rfl (by rfl) (fun K hK => ?_)
  go_simp
  go_at_call 59
  refine (epower_any 10 e (by decide) (by decide) he' w1.drew).mono ?_
  rintro x t1 ⟨y1, m1, rfl, hh1⟩
  have X1 : Below w1.heap.size w1 t1 := bel_trans (bel_drew (Below.refl w1.heap.size w1)) hh1
  obtain ⟨A1, n1', c1', rfl⟩ := m1.v.form
  refine hK.out _ _ (HK.out _ X1) ?_
  clear hK K
  try simp only [Act.put, List.setIfInBounds_toArray, List.set_cons_zero, List.set_cons_succ]
  refine Walk.act rfl (by rfl) (fun K hK => ?_)
  go_simp
  go_at_call 12
  refine (nmulV (w := t1) (n1.below X1) m1.v (by decide) (by decide)).mono ?_
  rintro x t2 ⟨y2, m2, rfl, hh2⟩
  have X2 : Below w1.heap.size w1 t2 := bel_trans X1 hh2
  obtain ⟨A2, n2', c2', rfl⟩ := m2.v.form
  refine hK.out _ _ (HK.out _ X2) ?_
  clear hK K
  try simp only [Act.put, List.setIfInBounds_toArray, List.set_cons_zero, List.set_cons_succ]
  refine Walk.act rfl (by rfl) (fun K hK => ?_)
  go_simp
  go_at_call 59
  refine (epower_any 10 (-e) (by decide) (by decide) (by omega) t2).mono ?_
  rintro x t3 ⟨y3, m3, rfl, hh3⟩
  have X3 : Below w1.heap.size w1 t3 := bel_trans X2 hh3
  obtain ⟨A3, n3', c3', rfl⟩ := m3.v.form
  refine hK.out _ _ (HK.out _ X3) ?_
  clear hK K
  try simp only [Act.put, List.setIfInBounds_toArray, List.set_cons_zero, List.set_cons_succ]
  refine Walk.act rfl (by rfl) (fun K hK => ?_)
  go_simp
  go_at_call 34
  refine (efrac_any (w := t3) (m2.v.below hh3) m3.v (by decide) (by decide)).mono ?_
  rintro x t4 ⟨g4, rfl, hh4⟩
  have X4 : Below w1.heap.size w1 t4 := bel_trans X3 hh4
  refine hK.out _ _ (HK.out _ X4) ?_
  clear hK K
  try simp only [Act.put, List.setIfInBounds_toArray, List.set_cons_zero, List.set_cons_succ]
  refine Walk.take (v := ?_) rfl (by rfl) ?_ ?_
  rotate_left
  · (intro w' hSw; (try dsimp only at hSw); go_simp <;> with_reducible rfl)
  try simp only [Act.put, List.setIfInBounds_toArray, List.set_cons_zero, List.set_cons_succ]
  refine Walk.take (v := ?_) rfl (by rfl) ?_ ?_
  rotate_left
  · (intro w' hSw; (try dsimp only at hSw); go_simp <;> with_reducible rfl)
  try simp only [Act.put, List.setIfInBounds_toArray, List.set_cons_zero, List.set_cons_succ]
  refine Walk.take (v := ?_) rfl (by rfl) ?_ ?_
  rotate_left
  · (intro w' hSw; (try dsimp only at hSw); go_simp <;> with_reducible rfl)
  try simp only [Act.put, List.setIfInBounds_toArray, List.set_cons_zero, List.set_cons_succ]
  refine Walk.take (v := ?_) rfl (by rfl) ?_ ?_
  rotate_left
  · (intro w' hSw; (try dsimp only at hSw); go_simp <;> with_reducible rfl)
  try simp only [Act.put, List.setIfInBounds_toArray, List.set_cons_zero, List.set_cons_succ]
  refine Walk.take (v := ?_) rfl (by rfl) ?_ ?_
  rotate_left
  · (intro w' hSw; (try dsimp only at hSw); go_simp <;> with_reducible rfl)
  try simp only [Act.put, List.setIfInBounds_toArray, List.set_cons_zero, List.set_cons_succ]
  refine Walk.done ?_
  clear HK
  have HB9 := Lib.hid (bel_trans HB1.out X4)
  clear X1 X2 X3 X4 HB1
  go_wp2_with fail
  go_ret
  exact ⟨by rw [N.out]; rfl, HB9.out⟩
end Go.Proofs.YthofjlgngandoaaGreatDoor
