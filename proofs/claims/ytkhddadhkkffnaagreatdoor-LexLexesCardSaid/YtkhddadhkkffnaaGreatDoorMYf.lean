/-
  The reference of layer 9: the token at a place. Conditions: texts of at most 1048576 bytes; the number that stands there, if it is a float, is read by the reference of layer 8.
  The reference of layer 9: a number at a place, a sign at a place. Conditions: texts of at most 1048576 bytes; a float that stands there is read by the reference of layer 8.
  The reference of layer 9: a sign at a place, and the token at a place. Conditions: texts of at most 1048576 bytes; a float that stands there is read by the reference of layer 8.
  The reference of layer 9: a source's tokens. Conditions: texts of at most 16384 bytes; each float in it is read by the reference of layer 8.
  The tests of LexLexes: no long runs of a number's bytes, no long powers; and what follows of the numbers of a text. Conditions: texts of at most 1048576 bytes.
-/
import Derived.Test.YtkhddadhkkffnaaGreatDoorMYe
namespace Go.Proofs.YtkhddadhkkffnaaGreatDoor
open Go.RowKit Go.Maps
set_option maxRecDepth 100000

theorem tw_in (p : UInt8 → Bool) : ∀ (l : List UInt8) (j : Nat), j < (l.takeWhile p).length → ∃ b, l[j]? = some b ∧ p b = true
  | [], j, h => by simp at h
  | b :: r, j, h => by
    rw [List.takeWhile_cons] at h
    split at h
    · rename_i hb
      cases j with
      | zero => exact ⟨b, rfl, hb⟩
      | succ j => exact tw_in p r j (by rw [List.length_cons] at h; exact Nat.lt_of_succ_lt_succ h)
    · simp at h
theorem tw_out (p : UInt8 → Bool) : ∀ (l : List UInt8) (b : UInt8), l[(l.takeWhile p).length]? = some b → p b = false
  | [], b, h => by simp at h
  | c :: r, b, h => by
    rw [List.takeWhile_cons] at h
    split at h
    · rw [List.length_cons, List.getElem?_cons_succ] at h
      exact tw_out p r b h
    · rename_i hb
      simp only [List.length_nil, List.getElem?_cons_zero, Option.some.injEq] at h
      rw [← h]
      simpa using hb
theorem nmL_tw {b : UInt8} {r : List UInt8} (h : isAl b = true) : nmL (b :: r) = ((b :: r).takeWhile isAn).length := by
  have : isAn b = true := by unfold isAn; rw [h]; rfl
  rw [nmL_cons, if_pos h, List.takeWhile_cons, if_pos this, List.length_cons]
  omega
theorem scan_nm {S l : List UInt8} {a j : Nat} (hS : S.drop a = l) (h0 : nmL l ≠ 0) (h1 : a ≤ j) (h2 : j ≤ a + nmL l) : (alN (byV S j) || dgN (byV S j)) = decide (j < a + nmL l) := by
  obtain ⟨k, rfl⟩ : ∃ k, j = a + k := ⟨j - a, by omega⟩
  rw [byV_drop hS]
  have e : nmL l = (l.takeWhile isAn).length := by
    cases l with
    | nil => exact absurd rfl h0
    | cons b r =>
      refine nmL_tw ?_
      rw [nmL_cons] at h0
      by_cases hb : isAl b = true
      · exact hb
      · rw [if_neg hb] at h0
        exact absurd rfl h0
  by_cases h : k < nmL l
  · obtain ⟨b, e1, d⟩ := tw_in isAn l k (by omega)
    unfold byV
    rw [e1, decide_eq_true (by omega)]
    exact (an_parts b).symm.trans d
  · have hk : k = (l.takeWhile isAn).length := by omega
    rw [decide_eq_false (by omega)]
    unfold byV
    cases e1 : l[k]? with
    | none => decide
    | some b => exact (an_parts b).symm.trans (tw_out isAn l b (by rw [← hk]; exact e1))
def RetOne (l : List UInt8) (a : Nat) (w : World) (e : Ending) (w' : World) : Prop := ∃ (t : Tk) (n : Int), e = .returned (.tuple #[tkA t, .int .i64 n, .int .i64 (fiE l)]) ∧ (fiE l = 0 → t = fiT l a ∧ n = ((a + fiN l : Nat) : Int)) ∧ Below w.heap.size w w'
set_option maxHeartbeats 4000000 in
theorem yOne_name (s : ByteArray) (a : Nat) {l : List UInt8} (hS : s.data.toList.drop a = l) (hs : s.size ≤ 1048576) (h0 : nmL l ≠ 0) (w : World) :
    Calls Tryz.prog 21 #[.string s, .int .i64 (a : Int)] w (RetOne l a w) := by
  have AT := Lib.hid fun (j : Nat) w => yAt_any s j w
  have DG := Lib.hid yDigit_any
  have LT := Lib.hid yLetter_any
  have nb := nmL_le l
  have ll : l.length = s.size - a := by rw [← hS, List.length_drop, ← Lib.size_eq]
  have SC := Lib.hid fun j h1 h2 => scan_nm (j := j) hS h0 h1 h2
  obtain ⟨b, hb⟩ : ∃ b, b = a + nmL l := ⟨_, rfl⟩
  have TX : Hid ((s.extract a b).data.toList = l.take (nmL l)) := by show _ = _; rw [mid_str, hS, hb, show a + nmL l - a = nmL l by omega]
  have EE : Hid (fiE l = if 32 < nmL l then 91 else 0) := by show _ = _; unfold fiE; rw [if_pos h0]
  have EN : Hid (fiN l = nmL l) := by show _ = _; unfold fiN; rw [if_pos h0]
  have ET : Hid (∀ p, fiT l p = ⟨if kwS.contains (l.take (nmL l)) then 4 else 1, p, l.take (nmL l), 0, 0⟩) := fun p => by unfold fiT; rw [if_pos h0]
  have BD : Hid (b = a + nmL l ∧ b ≤ s.size ∧ a < s.size ∧ s.size ≤ 1048576) := ⟨hb, by omega, by omega, hs⟩
  have ha : a < s.size := by omega
  have hal : alN ((s[a]'ha).toNat : Int) = true := by
    have h1 := at_byte s a ha
    have h2 : l[0]? = some (s[a]'ha) := by rw [← hS, List.getElem?_drop]; exact h1
    cases l with
    | nil => simp at h2
    | cons c r =>
      obtain rfl : c = s[a]'ha := by simpa using h2
      rw [alN_byte]
      rw [nmL_cons] at h0
      by_cases hc : isAl (s[a]'ha) = true
      · exact hc
      · rw [if_neg hc] at h0
        exact absurd rfl h0
  have W := Lib.hid fun w => yIsWord_any (s.extract a b) w
  rw [TX.out] at W
  have L0 := Lib.hid fun w => yLetter_any ((s[a]'ha).toNat : Int) w
  rw [hal] at L0
  have z0 : (a : Int) < (s.size : Int) := by omega
  have z1 : (a : Int) ≤ (b : Int) := by omega
  have z2 : (b : Int) ≤ (s.size : Int) := by omega
  have sz : (s.extract a b).size = nmL l := by rw [Lib.size_eq, TX.out, List.length_take]; omega
  have TS : Hid (s.extract a b = ⟨(l.take (nmL l)).toArray⟩) := str_of TX.out
  unfold RetOne
  generalize kwS.contains (l.take (nmL l)) = K at *
  generalize fiE l = FE at *
  clear nb ll hb hs h0 hal TX
  go_enter Tryz.func21, Tryz.ntmps21
  go_wp2_with fail
  refine (L0.out _).mono ?_
  rintro e w1 ⟨rfl, rfl⟩
  clear L0
  go_wp2_with fail
  go_loop [8] (fun s8 => ∃ j : Nat, s8 = .int .i64 (j : Int) ∧ a ≤ j ∧ Hid (j ≤ b)) (fun s8 => b - (intOf s8).toNat)
  case atStart => exact ⟨a, rfl, Nat.le_refl _, by have := BD.out; show _ ≤ _; omega⟩
  case round =>
    obtain ⟨j, rfl, h1, h2⟩ := hrel
    have B := BD.out
    have D := SC.out j h1 (by have := h2.out; omega)
    rw [← B.1] at D
    by_cases hlt : j < b
    · rw [decide_eq_true hlt] at D
      have ov : IntKind.i64.wrap ((j : Int) + 1) = ((j + 1 : Nat) : Int) := by rw [IntKind.wrap_i64]; omega
      have h3 : Hid (j + 1 ≤ b) := hlt
      have L := Lib.hid fun w => yLetter_any (byV s.data.toList j) w
      have G := Lib.hid fun w => yDigit_any (byV s.data.toList j) w
      generalize alN (byV s.data.toList j) = A1 at *
      generalize dgN (byV s.data.toList j) = A2 at *
      clear B hlt
      cases A1
      · obtain rfl : A2 = true := by simpa using D
        clear D
        go_wp2_with fail
        refine (AT.out j _).mono ?_
        rintro e w1 ⟨rfl, rfl⟩
        go_wp2_with fail
        refine (L.out _).mono ?_
        rintro e w1 ⟨rfl, rfl⟩
        go_wp2_with fail
        refine (AT.out j _).mono ?_
        rintro e w1 ⟨rfl, rfl⟩
        go_wp2_with fail
        refine (G.out _).mono ?_
        rintro e w1 ⟨rfl, rfl⟩
        go_wp2_with fail
        go_round
        case rel => exact ⟨j + 1, by go_num, by omega, h3⟩
        case measure => have := h3.out; simp [intOf]; omega
      · clear D
        go_wp2_with fail
        refine (AT.out j _).mono ?_
        rintro e w1 ⟨rfl, rfl⟩
        go_wp2_with fail
        refine (L.out _).mono ?_
        rintro e w1 ⟨rfl, rfl⟩
        go_wp2_with fail
        go_round
        case rel => exact ⟨j + 1, by go_num, by omega, h3⟩
        case measure => have := h3.out; simp [intOf]; omega
    · rw [decide_eq_false hlt] at D
      obtain rfl : j = b := by have := h2.out; omega
      have L := Lib.hid fun w => yLetter_any (byV s.data.toList j) w
      have G := Lib.hid fun w => yDigit_any (byV s.data.toList j) w
      generalize alN (byV s.data.toList j) = A1 at *
      generalize dgN (byV s.data.toList j) = A2 at *
      obtain ⟨rfl, rfl⟩ : A1 = false ∧ A2 = false := by simpa using D
      have E2 := EE.out
      clear B hlt D
      go_wp2_with fail
      refine (AT.out j _).mono ?_
      rintro e w1 ⟨rfl, rfl⟩
      go_wp2_with fail
      refine (L.out _).mono ?_
      rintro e w1 ⟨rfl, rfl⟩
      go_wp2_with fail
      refine (AT.out j _).mono ?_
      rintro e w1 ⟨rfl, rfl⟩
      go_wp2_with fail
      refine (G.out _).mono ?_
      rintro e w1 ⟨rfl, rfl⟩
      clear L G
      go_wp2_with fail
      refine (W.out _).mono ?_
      rintro e w1 ⟨rfl, rfl⟩
      clear W
      by_cases h32 : 32 < nmL l
      · have h32' : (32 : Int) < ((min j s.size - a : Nat) : Int) := by have := BD.out; omega
        rw [if_pos h32] at E2
        have FE2 : Hid (FE = 91) := E2
        clear E2 EE h32 sz
        cases K
        · go_wp2_with fail
          refine bodyPost_ret (by simp [results, Tryz.results21, go_sem]; (try rfl)) rfl ⟨⟨1, a, l.take (nmL l), 0, 0⟩, (j : Int), ?_, ?_, ?_⟩
          · rw [FE2.out, TS.out]; rfl
          · intro h; have := FE2.out; omega
          · exact bel_alloc (bel_alloc (Below.refl _ _) _) _
        · go_wp2_with fail
          refine bodyPost_ret (by simp [results, Tryz.results21, go_sem]; (try rfl)) rfl ⟨⟨4, a, l.take (nmL l), 0, 0⟩, (j : Int), ?_, ?_, ?_⟩
          · rw [FE2.out, TS.out]; rfl
          · intro h; have := FE2.out; omega
          · exact bel_alloc (bel_alloc (Below.refl _ _) _) _
      · have h32' : ¬ (32 : Int) < ((min j s.size - a : Nat) : Int) := by have := BD.out; omega
        rw [if_neg h32] at E2
        have FE2 : Hid (FE = 0) := E2
        clear E2 EE h32 sz
        cases K
        · go_wp2_with fail
          refine bodyPost_ret (by simp [results, Tryz.results21, go_sem]; (try rfl)) rfl ⟨⟨1, a, l.take (nmL l), 0, 0⟩, (j : Int), ?_, ?_, ?_⟩
          · rw [FE2.out, TS.out]; rfl
          · intro _
            exact ⟨(ET.out a).symm, by rw [EN.out, ← BD.out.1]⟩
          · exact bel_alloc (bel_alloc (Below.refl _ _) _) _
        · go_wp2_with fail
          refine bodyPost_ret (by simp [results, Tryz.results21, go_sem]; (try rfl)) rfl ⟨⟨4, a, l.take (nmL l), 0, 0⟩, (j : Int), ?_, ?_, ?_⟩
          · rw [FE2.out, TS.out]; rfl
          · intro _
            exact ⟨(ET.out a).symm, by rw [EN.out, ← BD.out.1]⟩
          · exact bel_alloc (bel_alloc (Below.refl _ _) _) _
end Go.Proofs.YtkhddadhkkffnaaGreatDoor
namespace Go.Proofs.YtkhddadhkkffnaaGreatDoor
open Go.RowKit Go.Maps
set_option maxRecDepth 100000

theorem nuL_dg {l : List UInt8} (h : nuL l ≠ 0) : dgL l ≠ 0 := fun h1 => by unfold nuL at h; rw [if_pos h1] at h; exact h rfl
theorem head_dig {l : List UInt8} (h : dgL l ≠ 0) : ∃ b r, l = b :: r ∧ isDig b = true := by
  cases l with
  | nil => exact absurd rfl h
  | cons b r =>
    refine ⟨b, r, rfl, ?_⟩
    unfold dgL at h
    rw [List.takeWhile_cons] at h
    by_cases hb : isDig b = true
    · exact hb
    · rw [if_neg hb] at h
      exact absurd rfl h
theorem int_digs {l : List UInt8} (h : nuF l = false) (h2 : nuL l ≠ 0) : (l.take (nuL l)).all isDig = true := by
  have hdg : nuL l = dgL l := by
    have h4 : nuL l = nuA l + exL (l.drop (nuA l)) := by
      unfold nuL at h2 ⊢
      split at h2
      · omega
      · rename_i h3
        rw [if_neg h3]
    unfold nuF at h
    rw [decide_eq_false_iff_not] at h
    unfold nuA at h4
    omega
  rw [hdg]
  unfold dgL
  rw [take_tw]
  exact tw_all _ _
theorem Blk.fiveK {w : World} {g : Nat} {t : TypeId} {a b c d e : Value} (h : Blk w g t #[a, b, c, d, e]) : w.cell? ⟨g, 0, none⟩ = some a ∧ w.cell? ⟨g, 1, none⟩ = some b ∧ w.cell? ⟨g, 2, none⟩ = some c ∧ w.cell? ⟨g, 3, none⟩ = some d ∧ w.cell? ⟨g, 4, none⟩ = some e ∧
    w.frozen? ⟨g, 0, none⟩ = false ∧ w.frozen? ⟨g, 1, none⟩ = false ∧ w.frozen? ⟨g, 2, none⟩ = false ∧ w.frozen? ⟨g, 3, none⟩ = false ∧ w.frozen? ⟨g, 4, none⟩ = false :=
  ⟨h.cell 0, h.cell 1, h.cell 2, h.cell 3, h.cell 4, h.frozen 0, h.frozen 1, h.frozen 2, h.frozen 3, h.frozen 4⟩
def wputK (w : World) (g : Nat) (a b c d e : Value) : World := ((((w.setCell ⟨g, 0, none⟩ a).setCell ⟨g, 1, none⟩ b).setCell ⟨g, 2, none⟩ c).setCell ⟨g, 3, none⟩ d).setCell ⟨g, 4, none⟩ e
theorem Blk.putK {w : World} {g : Nat} {t : TypeId} {x y z u v : Value} (k : Blk w g t #[x, y, z, u, v]) (a b c d e : Value) : Blk (wputK w g a b c d e) g t #[a, b, c, d, e] := by
  have h1 := ((((k.set_ 0 a).set_ 1 b).set_ 2 c).set_ 3 d).set_ 4 e
  unfold wputK
  simpa using h1
theorem bel_putK {w w' : World} {g B : Nat} (h : Below B w w') (hg : B ≤ g) (a b c d e : Value) : Below B w (wputK w' g a b c d e) :=
  ((((h.setCell (p := ⟨g, 0, none⟩) hg a).setCell (p := ⟨g, 1, none⟩) hg b).setCell (p := ⟨g, 2, none⟩) hg c).setCell (p := ⟨g, 3, none⟩) hg d).setCell (p := ⟨g, 4, none⟩) hg e
set_option maxHeartbeats 8000000 in
theorem yOne_num (s : ByteArray) (a : Nat) {l : List UInt8} (hS : s.data.toList.drop a = l) (hs : s.size ≤ 1048576) (hm : nmL l = 0) (h0 : nuL l ≠ 0)
    (HP : nuF l = true → nuL l ≤ 400 → ∀ w, Calls Tryz.prog 38 #[.string ⟨(l.take (nuL l)).toArray⟩] w fun e w' => e = .returned (.tuple #[.int .u64 (psF (l.take (nuL l))), .int .i64 (psE (l.take (nuL l)))]) ∧ Below w.heap.size w w') (w : World) :
    Calls Tryz.prog 21 #[.string s, .int .i64 (a : Int)] w (RetOne l a w) := by
  have nb := nuL_le l
  have ll : l.length = s.size - a := by rw [← hS, List.length_drop, ← Lib.size_eq]
  have hd0 := nuL_dg h0
  have NU := Lib.hid fun w => yNumber_any s a hS hs hd0 w
  obtain ⟨b, hb⟩ : ∃ b, b = a + nuL l := ⟨_, rfl⟩
  rw [← hb] at NU
  have TX : (s.extract a b).data.toList = l.take (nuL l) := by rw [mid_str, hS, hb, show a + nuL l - a = nuL l by omega]
  have ha : a < s.size := by omega
  obtain ⟨c, r, hc, hdc⟩ := head_dig hd0
  have hc0 : s[a]'ha = c := by
    have h1 := at_byte s a ha
    have h2 : l[0]? = some (s[a]'ha) := by rw [← hS, List.getElem?_drop]; exact h1
    rw [hc] at h2
    simpa using h2.symm
  have hal : alN ((s[a]'ha).toNat : Int) = false := by rw [alN_byte, hc0]; exact (dig_not hdc).1
  have hdl : dgN ((s[a]'ha).toNat : Int) = true := by rw [dgN_byte, hc0]; exact hdc
  have L0 := Lib.hid fun w => yLetter_any ((s[a]'ha).toNat : Int) w
  rw [hal] at L0
  have D0 := Lib.hid fun w => yDigit_any ((s[a]'ha).toNat : Int) w
  rw [hdl] at D0
  have z0 : (a : Int) < (s.size : Int) := by omega
  have z1 : (a : Int) ≤ (b : Int) := by omega
  have z2 : (b : Int) ≤ (s.size : Int) := by omega
  obtain ⟨dd, hdd⟩ : ∃ dd, dd = s.extract a b := ⟨_, rfl⟩
  have ddt : dd.data.toList = l.take (nuL l) := by rw [hdd, TX]
  have TS : dd = ⟨(l.take (nuL l)).toArray⟩ := str_of ddt
  have sz : dd.size = nuL l := by rw [Lib.size_eq, ddt, List.length_take]; omega
  have EN : Hid (fiN l = nuL l) := by show _ = _; unfold fiN; rw [if_neg (by omega), if_pos h0]
  have BD : Hid (b = a + nuL l ∧ b ≤ s.size) := ⟨hb, by omega⟩
  have HDD := Lib.hid hdd
  unfold RetOne
  by_cases h400 : 400 < nuL l
  · have FE2 : Hid (fiE l = 91) := by show _ = _; unfold fiE; rw [if_neg (by omega), if_pos h0, if_pos h400]
    have g : (400 : Int) < ((min b s.size - a : Nat) : Int) := by omega
    generalize fiE l = FE at *
    clear HP nb ll hd0 hb TX hc hdc hc0 hal hdl hdd ddt TS sz h0 hm hs h400
    go_enter Tryz.func21, Tryz.ntmps21
    go_wp2_with fail
    refine (L0.out _).mono ?_
    rintro e w1 ⟨rfl, rfl⟩
    go_wp2_with fail
    refine (D0.out _).mono ?_
    rintro e w1 ⟨rfl, rfl⟩
    go_wp2_with fail
    refine (NU.out _).mono ?_
    rintro e w1 ⟨rfl, rfl⟩
    go_wp2_with fail
    refine bodyPost_ret (by simp [results, Tryz.results21, go_sem]; (try rfl)) rfl ⟨⟨0, a, [], 0, 0⟩, (b : Int), ?_, ?_, ?_⟩
    · rw [FE2.out]; rfl
    · intro h; have := FE2.out; omega
    · exact bel_alloc (bel_alloc (Below.refl _ _) _) _
  · have g : ¬ (400 : Int) < ((min b s.size - a : Nat) : Int) := by omega
    have g2 : ¬ (400 : Int) < (dd.size : Int) := by omega
    cases hF : nuF l
    · have ET : Hid (∀ p, fiT l p = ⟨2, p, [], dval (l.take (nuL l)), 0⟩) := fun p => by unfold fiT; rw [if_neg (by omega), if_pos h0, hF]; rfl
      have EE : Hid (fiE l = if dval (l.take (nuL l)) ≤ 2147483647 then 0 else 92) := by show _ = _; unfold fiE; rw [if_neg (by omega), if_pos h0, if_neg h400, hF, if_neg (by decide)]
      have AD := Lib.hid (int_digs hF h0)
      rw [hF] at NU
      rw [← ddt] at ET EE AD
      have SZ := Lib.hid sz
      have S4 : Hid (dd.size ≤ 400) := by show _ ≤ _; omega
      generalize fiE l = FE at *
      clear HP nb ll hd0 hb TX hc hdc hc0 hal hdl hdd ddt TS sz h0 hm hs h400 hF
      go_enter Tryz.func21, Tryz.ntmps21
      go_wp2_with fail
      refine (L0.out _).mono ?_
      rintro e w1 ⟨rfl, rfl⟩
      go_wp2_with fail
      refine (D0.out _).mono ?_
      rintro e w1 ⟨rfl, rfl⟩
      go_wp2_with fail
      refine (NU.out _).mono ?_
      rintro e w1 ⟨rfl, rfl⟩
      go_upto_region 16 with fail
      rw [← HDD.out]
      clear g
      go_wp2_with fail
      go_loop [14, 15] (fun s14 s15 => ∃ j : Nat, s14 = .int .i64 (min (dval (dd.data.toList.take j)) 1099511627776) ∧ s15 = .int .i64 (j : Int) ∧ Hid (j ≤ dd.size)) (fun _ s15 => dd.size - (intOf s15).toNat)
      case atStart => exact ⟨0, by rw [List.take_zero]; rfl, rfl, Nat.zero_le _⟩
      case round =>
        obtain ⟨j, rfl, rfl, hj⟩ := hrel
        have S4' := S4.out
        have hj' := hj.out
        by_cases hlt : j < dd.size
        · have z3 : (j : Int) < (dd.size : Int) := by omega
          have ovj : IntKind.i64.wrap ((j : Int) + 1) = ((j + 1 : Nat) : Int) := by rw [IntKind.wrap_i64]; omega
          have tk := take_snoc dd j hlt
          have hd : isDig (dd[j]'hlt) = true := List.all_eq_true.1 AD.out _ (List.mem_of_getElem? (at_byte dd j hlt))
          have dv0 := (dval_bd (all_take AD.out j)).1
          have DV : dval (dd.data.toList.take (j + 1)) = dval (dd.data.toList.take j) * 10 + (((dd[j]'hlt).toNat : Int) - 48) := by rw [tk, dval_snoc]
          obtain ⟨d1, d2⟩ := dig_bd hd
          obtain ⟨B, hB⟩ : ∃ B : Int, ((dd[j]'hlt).toNat : Int) = B := ⟨_, rfl⟩
          rw [hB] at d1 d2 DV
          generalize dval (dd.data.toList.take j) = V at *
          have w1 : IntKind.u8.wrap (B - 48) = B - 48 := by rw [IntKind.wrap_u8]; omega
          have w2 : IntKind.i64.wrap (B - 48) = B - 48 := by rw [IntKind.wrap_i64]; omega
          have w3 : IntKind.i64.wrap (min V 1099511627776 * 10) = min V 1099511627776 * 10 := by rw [IntKind.wrap_i64]; omega
          have w4 : IntKind.i64.wrap (min V 1099511627776 * 10 + (B - 48)) = min V 1099511627776 * 10 + (B - 48) := by rw [IntKind.wrap_i64]; omega
          have MV : Hid (min (min V 1099511627776 * 10 + (B - 48)) 1099511627776 = min (dval (dd.data.toList.take (j + 1))) 1099511627776) := by show _ = _; rw [DV]; omega
          have HJ : Hid (j + 1 ≤ dd.size) := hlt
          clear hd tk dv0 DV hj' S4'
          go_wp2_with fail
          refine ⟨⟨j + 1, by rw [MV.out], by go_num, HJ⟩, ?_⟩
          have := HJ.out
          simp [intOf]
          omega
        · have z3 : ¬ (j : Int) < (dd.size : Int) := by omega
          have tj : dd.data.toList.take j = dd.data.toList := List.take_of_length_le (by rw [← Lib.size_eq]; omega)
          rw [tj]
          have dv0 := (dval_bd AD.out).1
          obtain ⟨M, hM⟩ : ∃ M, M = dval dd.data.toList := ⟨_, rfl⟩
          rw [← hM] at EE ET dv0 ⊢
          clear hM tj hlt hj' S4'
          by_cases hv : M ≤ 2147483647
          · have v1 : ¬ (2147483647 : Int) < min M 1099511627776 := by omega
            have v2 : IntKind.i32.wrap (min M 1099511627776) = M := by rw [IntKind.wrap_i32]; omega
            have FE2 : Hid (FE = 0) := by show _ = _; rw [EE.out, if_pos hv]
            clear hv dv0 EE
            go_wp2_with fail
            refine bodyPost_ret (by simp [results, Tryz.results21, go_sem]; (try rfl)) rfl ⟨⟨2, a, [], M, 0⟩, (b : Int), ?_, ?_, ?_⟩
            · rw [FE2.out]; rfl
            · intro _
              exact ⟨(ET.out a).symm, by rw [EN.out]; have := BD.out.1; omega⟩
            · exact bel_alloc (bel_alloc (Below.refl _ _) _) _
          · have v1 : (2147483647 : Int) < min M 1099511627776 := by omega
            have FE2 : Hid (FE = 92) := by show _ = _; rw [EE.out, if_neg hv]
            clear hv dv0 EE
            go_wp2_with fail
            refine bodyPost_ret (by simp [results, Tryz.results21, go_sem]; (try rfl)) rfl ⟨⟨0, a, [], 0, 0⟩, (b : Int), ?_, ?_, ?_⟩
            · rw [FE2.out]; rfl
            · intro h; have := FE2.out; omega
            · exact bel_alloc (bel_alloc (Below.refl _ _) _) _
    · have PA := Lib.hid fun w => HP hF (by omega) w
      rw [← TS] at PA
      have ET : Hid (∀ p, fiT l p = ⟨3, p, [], 0, psF (l.take (nuL l))⟩) := fun p => by unfold fiT; rw [if_neg (by omega), if_pos h0, hF]; rfl
      have EE : Hid (fiE l = if psE (l.take (nuL l)) = 0 then 0 else 93) := by show _ = _; unfold fiE; rw [if_neg (by omega), if_pos h0, if_neg h400, hF, if_pos rfl]
      rw [hF] at NU
      generalize psF (l.take (nuL l)) = RF at *
      generalize psE (l.take (nuL l)) = RE at *
      generalize fiE l = FE at *
      clear HP nb ll hd0 hb TX hc hdc hc0 hal hdl hdd ddt TS sz h0 hm hs h400 hF
      go_enter Tryz.func21, Tryz.ntmps21
      go_wp2_with fail
      refine (L0.out _).mono ?_
      rintro e w1 ⟨rfl, rfl⟩
      go_wp2_with fail
      refine (D0.out _).mono ?_
      rintro e w1 ⟨rfl, rfl⟩
      go_wp2_with fail
      refine (NU.out _).mono ?_
      rintro e w1 ⟨rfl, rfl⟩
      go_upto_region 16 with fail
      rw [← HDD.out]
      clear g
      go_wp2_with fail
      refine (PA.out _).mono ?_
      rintro e w1 ⟨rfl, hb1⟩
      have HB1 := Lib.hid (bel_trans (bel_alloc (bel_alloc (Below.refl w.heap.size w) (.cells #[.int .u8 0, .int .i64 0, .string ⟨#[]⟩, .int .i32 0, .int .u64 0] 34)) (.cells #[.int .u8 0, .int .i64 a, .string ⟨#[]⟩, .int .i32 0, .int .u64 0] 34)) hb1)
      have KA := (Blk.new w 34 #[.int .u8 0, .int .i64 0, .string ⟨#[]⟩, .int .i32 0, .int .u64 0]).alloc (.cells #[.int .u8 0, .int .i64 a, .string ⟨#[]⟩, .int .i32 0, .int .u64 0] 34)
      have KB := blk_second w (.cells #[.int .u8 0, .int .i64 0, .string ⟨#[]⟩, .int .i32 0, .int .u64 0] 34) 34 #[.int .u8 0, .int .i64 a, .string ⟨#[]⟩, .int .i32 0, .int .u64 0]
      have KA1 := KA.below hb1 KA.lt
      have KB1 := KB.below hb1 KB.lt
      clear hb1 KA KB PA
      by_cases hE : RE = 0
      · have e1 : (RE != 0) = false := by rw [hE]; rfl
        have FE2 : Hid (FE = 0) := by show _ = _; rw [EE.out, if_pos hE]
        have KB2 := (KB1.set_ 0 (.int .u8 3)).set_ 4 (.int .u64 RF)
        simp at KB2
        have KA2 := (KA1.far (p := ⟨w.heap.size + 1, 0, none⟩) (by simp) (.int .u8 3)).far (p := ⟨w.heap.size + 1, 4, none⟩) (by simp) (.int .u64 RF)
        have KA3 := KA2.putK (.int .u8 3) (.int .i64 a) (.string ⟨#[]⟩) (.int .i32 0) (.int .u64 RF)
        have B3 := bel_putK (g := w.heap.size) ((HB1.out.setCell (p := ⟨w.heap.size + 1, 0, none⟩) (Nat.le_succ _) (.int .u8 3)).setCell (p := ⟨w.heap.size + 1, 4, none⟩) (Nat.le_succ _) (.int .u64 RF)) (Nat.le_refl _) (.int .u8 3) (.int .i64 a) (.string ⟨#[]⟩) (.int .i32 0) (.int .u64 RF)
        unfold wputK at KA3 B3
        obtain ⟨d0, d1, d2, d3, d4, g0, g1, g2, g3, g4⟩ := KB1.fiveK
        obtain ⟨e0, e1', e2, e3, e4, -, -, -, -, -⟩ := KB2.fiveK
        have h4 := (KB1.set_ 0 (.int .u8 3)).frozen 4
        have h5 := (KB1.set_ 0 (.int .u8 3)).cell 4
        simp at h5
        obtain ⟨c0, c1, c2, c3, c4, f0, f1, f2, f3, f4⟩ := KA2.fiveK
        have B3H := Lib.hid B3
        clear hE KA1 KB1 KA2 KB2 B3
        go_wp2_with fail
        obtain ⟨q0, q1, q2, q3, q4, -, -, -, -, -⟩ := KA3.fiveK
        refine bodyPost_ret (by simp [results, Tryz.results21, go_sem, q0, q1, q2, q3, q4]; (try rfl)) rfl ⟨⟨3, a, [], 0, RF⟩, (b : Int), ?_, ?_, B3H.out⟩
        · rw [FE2.out]; rfl
        · intro _
          exact ⟨(ET.out a).symm, by rw [EN.out]; have := BD.out.1; omega⟩
      · have e1 : (RE != 0) = true := by rw [bne_iff_ne]; exact hE
        have FE2 : Hid (FE = 93) := by show _ = _; rw [EE.out, if_neg hE]
        have KA3 := KA1.putK (.int .u8 0) (.int .i64 a) (.string ⟨#[]⟩) (.int .i32 0) (.int .u64 0)
        have B3 := bel_putK (g := w.heap.size) HB1.out (Nat.le_refl _) (.int .u8 0) (.int .i64 a) (.string ⟨#[]⟩) (.int .i32 0) (.int .u64 0)
        unfold wputK at KA3 B3
        obtain ⟨d0, d1, d2, d3, d4, -, -, -, -, -⟩ := KB1.fiveK
        obtain ⟨c0, c1, c2, c3, c4, f0, f1, f2, f3, f4⟩ := KA1.fiveK
        have B3H := Lib.hid B3
        clear hE KA1 KB1 B3
        go_wp2_with fail
        obtain ⟨q0, q1, q2, q3, q4, -, -, -, -, -⟩ := KA3.fiveK
        refine bodyPost_ret (by simp [results, Tryz.results21, go_sem, q0, q1, q2, q3, q4]; (try rfl)) rfl ⟨⟨0, a, [], 0, 0⟩, (b : Int), ?_, ?_, B3H.out⟩
        · rw [FE2.out]; rfl
        · intro h; have := FE2.out; omega
end Go.Proofs.YtkhddadhkkffnaaGreatDoor
namespace Go.Proofs.YtkhddadhkkffnaaGreatDoor
open Go.RowKit Go.Maps
set_option maxRecDepth 100000

theorem two_len {x : List UInt8} (h : twoS.contains x = true) : x.length = 2 := by
  have h' : x ∈ twoS := List.contains_iff_mem.1 h
  unfold twoS at h'
  simp only [List.mem_cons, List.not_mem_nil, or_false] at h'
  rcases h' with rfl | rfl | rfl | rfl | rfl | rfl | rfl <;> rfl
set_option maxHeartbeats 8000000 in
theorem yOne_sign (s : ByteArray) (a : Nat) {l : List UInt8} (hS : s.data.toList.drop a = l) (hs : s.size ≤ 1048576) (hne : l ≠ []) (hm : nmL l = 0) (h0 : nuL l = 0) (w : World) :
    Calls Tryz.prog 21 #[.string s, .int .i64 (a : Int)] w (RetOne l a w) := by
  have ll : l.length = s.size - a := by rw [← hS, List.length_drop, ← Lib.size_eq]
  have hl1 : 1 ≤ l.length := by
    cases l with
    | nil => exact absurd rfl hne
    | cons b r => simp
  have ha : a < s.size := by omega
  obtain ⟨b, r, hb⟩ : ∃ b r, l = b :: r := by
    cases l with
    | nil => exact absurd rfl hne
    | cons b r => exact ⟨b, r, rfl⟩
  have hb0 : s[a]'ha = b := by
    have h1 := at_byte s a ha
    have h2 : l[0]? = some (s[a]'ha) := by rw [← hS, List.getElem?_drop]; exact h1
    rw [hb] at h2
    simpa using h2.symm
  have hal : alN ((s[a]'ha).toNat : Int) = false := by
    rw [alN_byte, hb0]
    rw [hb, nmL_cons] at hm
    cases hx : isAl b
    · rfl
    · rw [hx, if_pos rfl] at hm
      omega
  have hdl : dgN ((s[a]'ha).toNat : Int) = false := by
    rw [dgN_byte, hb0]
    cases hx : isDig b
    · rfl
    · exfalso
      have : dgL l ≠ 0 := by
        rw [hb]
        unfold dgL
        rw [List.takeWhile_cons, if_pos hx]
        simp
      unfold nuL at h0
      rw [if_neg this] at h0
      unfold nuA at h0
      omega
  have L0 := Lib.hid fun w => yLetter_any ((s[a]'ha).toNat : Int) w
  rw [hal] at L0
  have D0 := Lib.hid fun w => yDigit_any ((s[a]'ha).toNat : Int) w
  rw [hdl] at D0
  have T1 : (s.extract a (a + 1)).data.toList = [b] := by rw [mid_str, hS, hb, show a + 1 - a = 1 by omega]; rfl
  have T2 : (s.extract a (a + 2)).data.toList = l.take 2 := by rw [mid_str, hS, show a + 2 - a = 2 by omega]
  have A1 := Lib.hid fun w => yAmong_any (s.extract a (a + 1)) ⟨#[40, 32, 41, 32, 91, 32, 93, 32, 123, 32, 125, 32, 44, 32, 59, 32, 58, 32, 61, 32, 60, 32, 62, 32, 43, 32, 45, 32, 42, 32, 47, 32, 33, 32]⟩ w (by decide)
  have A2 := Lib.hid fun w => yAmong_any (s.extract a (a + 2)) ⟨#[61, 61, 32, 33, 61, 32, 60, 61, 32, 62, 61, 32, 38, 38, 32, 124, 124, 32, 46, 46, 32]⟩ w (by decide)
  change Hid (∀ w, Calls Tryz.prog 22 #[.string (s.extract a (a + 1)), .string ⟨#[40, 32, 41, 32, 91, 32, 93, 32, 123, 32, 125, 32, 44, 32, 59, 32, 58, 32, 61, 32, 60, 32, 62, 32, 43, 32, 45, 32, 42, 32, 47, 32, 33, 32]⟩] w fun e w' => e = .returned (.bool ((amW [] [40, 32, 41, 32, 91, 32, 93, 32, 123, 32, 125, 32, 44, 32, 59, 32, 58, 32, 61, 32, 60, 32, 62, 32, 43, 32, 45, 32, 42, 32, 47, 32, 33, 32]).contains (s.extract a (a + 1)).data.toList)) ∧ w = w') at A1
  change Hid (∀ w, Calls Tryz.prog 22 #[.string (s.extract a (a + 2)), .string ⟨#[61, 61, 32, 33, 61, 32, 60, 61, 32, 62, 61, 32, 38, 38, 32, 124, 124, 32, 46, 46, 32]⟩] w fun e w' => e = .returned (.bool ((amW [] [61, 61, 32, 33, 61, 32, 60, 61, 32, 62, 61, 32, 38, 38, 32, 124, 124, 32, 46, 46, 32]).contains (s.extract a (a + 2)).data.toList)) ∧ w = w') at A2
  rw [am_one, T1, one_has] at A1
  rw [am_two, T2] at A2
  have SI : siL l = if twoS.contains (l.take 2) then 2 else if oneS.contains b then 1 else 0 := by unfold siL; rw [hb]; rfl
  have EE : Hid (fiE l = if siL l ≠ 0 then 0 else 90) := by show _ = _; unfold fiE; rw [if_neg (by omega), if_neg (by omega)]
  have EN : Hid (fiN l = siL l) := by show _ = _; unfold fiN; rw [if_neg (by omega), if_neg (by omega)]
  have ET : Hid (∀ p, fiT l p = ⟨5, p, l.take (siL l), 0, 0⟩) := fun p => by unfold fiT; rw [if_neg (by omega), if_neg (by omega)]
  have TWO : s.size < a + 2 → twoS.contains (l.take 2) = false := fun h => by
    cases hx : twoS.contains (l.take 2)
    · rfl
    · have := two_len hx
      rw [List.length_take] at this
      omega
  have TS1 : Hid (s.extract a (a + 1) = ⟨[b].toArray⟩) := str_of T1
  have TS2 : Hid (s.extract a (a + 2) = ⟨(l.take 2).toArray⟩) := str_of T2
  have L1 : Hid (l.take 1 = [b]) := by show _ = _; rw [hb]; rfl
  have ov1 : IntKind.i64.wrap ((a : Int) + 1) = (a : Int) + 1 := by rw [IntKind.wrap_i64]; omega
  have ov2 : IntKind.i64.wrap ((a : Int) + 2) = (a : Int) + 2 := by rw [IntKind.wrap_i64]; omega
  have z0 : (a : Int) < (s.size : Int) := by omega
  have z1 : (a : Int) ≤ (a : Int) + 1 := by omega
  have z2 : (a : Int) + 1 ≤ (s.size : Int) := by omega
  have z3 : (a : Int) ≤ (a : Int) + 2 := by omega
  unfold RetOne
  generalize twoS.contains (l.take 2) = K2 at *
  generalize oneS.contains b = K1 at *
  generalize fiE l = FE at *
  generalize siL l = SL at *
  obtain ⟨l2, hl2⟩ : ∃ l2, l2 = l.take 2 := ⟨_, rfl⟩
  rw [← hl2] at TS2
  have HL2 := Lib.hid hl2
  clear hl2
  clear ll hl1 hb hb0 hal hdl T1 T2 hs hne hm h0
  have ONE : Hid (K2 = false → ((K1 = true ∧ SL = 1 ∧ FE = 0) ∨ (K1 = false ∧ FE = 90))) := fun h => by
    have E := EE.out
    rw [h] at SI
    cases K1
    · refine .inr ⟨rfl, ?_⟩
      have : SL = 0 := SI
      rw [E, if_neg (by omega)]
    · have : SL = 1 := SI
      exact .inl ⟨rfl, this, by rw [E, if_pos (by omega)]⟩
  have TWO' : Hid (K2 = true → SL = 2 ∧ FE = 0) := fun h => by
    have E := EE.out
    rw [h] at SI
    have : SL = 2 := SI
    exact ⟨this, by rw [E, if_pos (by omega)]⟩
  clear SI EE
  by_cases h2 : a + 2 ≤ s.size
  · have z4 : (a : Int) + 2 ≤ (s.size : Int) := by omega
    clear TWO h2
    cases K2
    · rcases ONE.out rfl with ⟨rfl, rfl, rfl⟩ | ⟨rfl, rfl⟩
      · go_enter Tryz.func21, Tryz.ntmps21
        go_wp2_with fail
        refine (L0.out _).mono ?_
        rintro e w1 ⟨rfl, rfl⟩
        go_wp2_with fail
        refine (D0.out _).mono ?_
        rintro e w1 ⟨rfl, rfl⟩
        go_wp2_with fail
        refine (A2.out _).mono ?_
        rintro e w1 ⟨rfl, rfl⟩
        go_wp2_with fail
        refine (A1.out _).mono ?_
        rintro e w1 ⟨rfl, rfl⟩
        go_wp2_with fail
        refine bodyPost_ret (by simp [results, Tryz.results21, go_sem]; (try rfl)) rfl ⟨⟨5, a, [b], 0, 0⟩, (a : Int) + 1, ?_, ?_, ?_⟩
        · rw [TS1.out]; rfl
        · intro _
          exact ⟨by rw [ET.out a, L1.out], by rw [EN.out]; omega⟩
        · exact bel_alloc (bel_alloc (Below.refl _ _) _) _
      · go_enter Tryz.func21, Tryz.ntmps21
        go_wp2_with fail
        refine (L0.out _).mono ?_
        rintro e w1 ⟨rfl, rfl⟩
        go_wp2_with fail
        refine (D0.out _).mono ?_
        rintro e w1 ⟨rfl, rfl⟩
        go_wp2_with fail
        refine (A2.out _).mono ?_
        rintro e w1 ⟨rfl, rfl⟩
        go_wp2_with fail
        refine (A1.out _).mono ?_
        rintro e w1 ⟨rfl, rfl⟩
        go_wp2_with fail
        refine bodyPost_ret (by simp [results, Tryz.results21, go_sem]; (try rfl)) rfl ⟨⟨5, a, [], 0, 0⟩, (a : Int), ?_, ?_, ?_⟩
        · rfl
        · intro h; omega
        · exact bel_alloc (bel_alloc (Below.refl _ _) _) _
    · obtain ⟨rfl, rfl⟩ := TWO'.out rfl
      go_enter Tryz.func21, Tryz.ntmps21
      go_wp2_with fail
      refine (L0.out _).mono ?_
      rintro e w1 ⟨rfl, rfl⟩
      go_wp2_with fail
      refine (D0.out _).mono ?_
      rintro e w1 ⟨rfl, rfl⟩
      go_wp2_with fail
      refine (A2.out _).mono ?_
      rintro e w1 ⟨rfl, rfl⟩
      go_wp2_with fail
      refine bodyPost_ret (by simp [results, Tryz.results21, go_sem]; (try rfl)) rfl ⟨⟨5, a, l2, 0, 0⟩, (a : Int) + 2, ?_, ?_, ?_⟩
      · rw [TS2.out]; rfl
      · intro _
        exact ⟨by rw [ET.out a, HL2.out], by rw [EN.out]; omega⟩
      · exact bel_alloc (bel_alloc (Below.refl _ _) _) _
  · have z4 : ¬ (a : Int) + 2 ≤ (s.size : Int) := by omega
    obtain rfl := TWO (by omega)
    clear TWO h2
    rcases ONE.out rfl with ⟨rfl, rfl, rfl⟩ | ⟨rfl, rfl⟩
    · go_enter Tryz.func21, Tryz.ntmps21
      go_wp2_with fail
      refine (L0.out _).mono ?_
      rintro e w1 ⟨rfl, rfl⟩
      go_wp2_with fail
      refine (D0.out _).mono ?_
      rintro e w1 ⟨rfl, rfl⟩
      go_wp2_with fail
      refine (A1.out _).mono ?_
      rintro e w1 ⟨rfl, rfl⟩
      go_wp2_with fail
      refine bodyPost_ret (by simp [results, Tryz.results21, go_sem]; (try rfl)) rfl ⟨⟨5, a, [b], 0, 0⟩, (a : Int) + 1, ?_, ?_, ?_⟩
      · rw [TS1.out]; rfl
      · intro _
        exact ⟨by rw [ET.out a, L1.out], by rw [EN.out]; omega⟩
      · exact bel_alloc (bel_alloc (Below.refl _ _) _) _
    · go_enter Tryz.func21, Tryz.ntmps21
      go_wp2_with fail
      refine (L0.out _).mono ?_
      rintro e w1 ⟨rfl, rfl⟩
      go_wp2_with fail
      refine (D0.out _).mono ?_
      rintro e w1 ⟨rfl, rfl⟩
      go_wp2_with fail
      refine (A1.out _).mono ?_
      rintro e w1 ⟨rfl, rfl⟩
      go_wp2_with fail
      refine bodyPost_ret (by simp [results, Tryz.results21, go_sem]; (try rfl)) rfl ⟨⟨5, a, [], 0, 0⟩, (a : Int), ?_, ?_, ?_⟩
      · rfl
      · intro h; omega
      · exact bel_alloc (bel_alloc (Below.refl _ _) _) _
/-- The token at a place. -/
theorem yOne_any (s : ByteArray) (a : Nat) {l : List UInt8} (hS : s.data.toList.drop a = l) (hs : s.size ≤ 1048576) (hne : l ≠ [])
    (HP : nuF l = true → nuL l ≤ 400 → ∀ w, Calls Tryz.prog 38 #[.string ⟨(l.take (nuL l)).toArray⟩] w fun e w' => e = .returned (.tuple #[.int .u64 (psF (l.take (nuL l))), .int .i64 (psE (l.take (nuL l)))]) ∧ Below w.heap.size w w') (w : World) :
    Calls Tryz.prog 21 #[.string s, .int .i64 (a : Int)] w (RetOne l a w) := by
  by_cases hm : nmL l = 0
  · by_cases h0 : nuL l = 0
    · exact yOne_sign s a hS hs hne hm h0 w
    · exact yOne_num s a hS hs hm h0 HP w
  · exact yOne_name s a hS hs hm w
end Go.Proofs.YtkhddadhkkffnaaGreatDoor
namespace Go.Proofs.YtkhddadhkkffnaaGreatDoor
open Go.RowKit Go.Maps
set_option maxRecDepth 100000

/-- The tokens from a place on. -/
def lxG (l : List UInt8) (a : Nat) : List Tk × Int × Nat := lxF ((gp l).length + 1) (gp l) (a + gpN l)
theorem lxG_of {l l' : List UInt8} {a a' : Nat} (h1 : gp l = gp l') (h2 : a + gpN l = a' + gpN l') : lxG l a = lxG l' a' := by
  unfold lxG
  rw [h1, h2]
theorem lxG_ws {b : UInt8} {r : List UInt8} {a : Nat} (h : isWs b = true) : lxG (b :: r) a = lxG r (a + 1) := by
  have e : gp (b :: r) = gp r := by unfold gp; rw [gpB, if_pos h]
  refine lxG_of e ?_
  have h1 := gpN_add (b :: r)
  have h2 := gpN_add r
  rw [e, List.length_cons] at h1
  omega
theorem gp_same {b : UInt8} {r : List UInt8} (h : isWs b = false) (h' : ¬ (b = 47 ∧ r.head? = some 47)) : gp (b :: r) = b :: r ∧ gpN (b :: r) = 0 := by
  have e : gp (b :: r) = b :: r := by unfold gp; rw [gpB, if_neg (by simp [h]), if_neg h']
  refine ⟨e, ?_⟩
  have h1 := gpN_add (b :: r)
  rw [e] at h1
  omega
/-- Within a comment. -/
def InC (S l : List UInt8) (a j : Nat) : Prop := gpB true (S.drop j) = gp l ∧ j + gpL true (S.drop j) = a + gpN l
theorem inC_start {S l : List UInt8} {a : Nat} (hS : S.drop a = l) {r : List UInt8} (hl : l = 47 :: r) (hr : r.head? = some 47) : InC S l a a := by
  have e : gpB true l = gp l := by
    rw [hl]
    unfold gp
    rw [gpB, if_neg (by decide), gpB, if_neg (by decide), if_pos ⟨rfl, hr⟩]
  refine ⟨by rw [hS, e], ?_⟩
  have h1 := gpL_add true l
  have h2 := gpN_add l
  rw [hS]
  rw [e] at h1
  omega
theorem inC_next {S l : List UInt8} {a j : Nat} {b : UInt8} {r : List UInt8} (h : InC S l a j) (hj : S.drop j = b :: r) (hb : b ≠ 10) : InC S l a (j + 1) := by
  obtain ⟨h1, h2⟩ := h
  have e : gpB true (b :: r) = gpB true r := by rw [gpB, if_neg hb]
  rw [hj] at h1 h2
  unfold InC
  rw [drop_cons hj]
  refine ⟨by rw [← e]; exact h1, ?_⟩
  have h3 := gpL_add true (b :: r)
  have h4 := gpL_add true r
  rw [e, List.length_cons] at h3
  omega
theorem inC_end {S l : List UInt8} {a j : Nat} (h : InC S l a j) (hj : S.drop j = [] ∨ ∃ r, S.drop j = 10 :: r) : lxG (S.drop j) j = lxG l a := by
  obtain ⟨h1, h2⟩ := h
  have e : gpB true (S.drop j) = gp (S.drop j) := by
    rcases hj with e | ⟨r, e⟩
    · rw [e]; simp [gpB, gp]
    · rw [e]
      unfold gp
      rw [gpB, if_pos rfl, gpB, if_pos (by decide)]
  refine lxG_of (by rw [← e, h1]) ?_
  have h3 := gpL_add true (S.drop j)
  have h4 := gpN_add (S.drop j)
  rw [e] at h3
  omega
theorem ws_bytes (b : UInt8) : isWs b = ((b.toNat : Int) == 32 || ((b.toNat : Int) == 9 || ((b.toNat : Int) == 10 || (b.toNat : Int) == 13))) := by
  have K : ∀ n : Nat, n < 256 → (((b.toNat : Int) == (n : Int)) = (b == UInt8.ofNat n)) := fun n hn => by
    rw [Bool.eq_iff_iff, beq_iff_eq, beq_iff_eq]
    exact byte_num hn
  have e1 := K 32 (by decide)
  have e2 := K 9 (by decide)
  have e3 := K 10 (by decide)
  have e4 := K 13 (by decide)
  rw [show ((b.toNat : Int) == 32) = (b == 32) from e1, show ((b.toNat : Int) == 9) = (b == 9) from e2, show ((b.toNat : Int) == 10) = (b == 10) from e3, show ((b.toNat : Int) == 13) = (b == 13) from e4]
  unfold isWs
  rw [Bool.eq_iff_iff]
  simp only [List.contains_iff_mem, List.mem_cons, List.not_mem_nil, or_false, Bool.or_eq_true, beq_iff_eq]
  constructor
  · rintro (h | h | h | h) <;> simp [h]
  · rintro (h | h | h | h) <;> simp [h]
set_option maxHeartbeats 16000000 in
theorem yLex_any (s : ByteArray) (hs : s.size ≤ 16384)
    (HP : ∀ (a : Nat) (l : List UInt8), s.data.toList.drop a = l → nuF l = true → nuL l ≤ 400 → ∀ w, Calls Tryz.prog 38 #[.string ⟨(l.take (nuL l)).toArray⟩] w fun e w' => e = .returned (.tuple #[.int .u64 (psF (l.take (nuL l))), .int .i64 (psE (l.take (nuL l)))]) ∧ Below w.heap.size w w')
    (w : World) : Calls Tryz.prog 10 #[.string s] w (RetLex (lexV s.data.toList) w) := by
  obtain ⟨i0, hi, hz0, hz1, hz2⟩ := info_parts tok_info
  have HI := Lib.hid hi
  have HZ0 := Lib.hid hz0
  have HZ1 := Lib.hid hz1
  have HZ2 := Lib.hid hz2
  clear hi hz0 hz1 hz2
  have h' : ¬ (16384 : Int) < (s.size : Int) := by omega
  have LV : Hid (lexV s.data.toList = catR [] (lxG s.data.toList 0)) := by
    show _ = _
    rw [lexV_cat (by rw [← Lib.size_eq]; omega)]
    unfold lxG
    rw [Nat.zero_add]
  have HPH := Lib.hid HP
  have AT := Lib.hid fun (j : Nat) w => yAt_any s j w
  have HS := Lib.hid hs
  clear HP hs
  generalize lexV s.data.toList = R at *
  go_enter Tryz.func10, Tryz.ntmps10
  go_wp2_with fail
  go_loopg [5, 6] s.size (fun gk s5 s6 wr => ∃ (ts : List Tk) (a : Nat), s6 = .int .i64 (a : Int) ∧ Hid (gk = s.size - a ∧ a ≤ s.size ∧ ts.length ≤ a) ∧ Hid (R = catR ts (lxG (s.data.toList.drop a) a)) ∧ Hid (wr.ownsRow w.heap.size 34 5 s5 ts.length (tksC ts)) ∧ Hid (Below w.heap.size w wr))
  case atStart => exact ⟨[], 0, rfl, ⟨rfl, Nat.zero_le _, Nat.zero_le _⟩, LV, ⟨rfl, .inl ⟨rfl, rfl⟩⟩, Below.refl _ _⟩
  case round =>
    obtain ⟨ts, a, rfl, HA, HR, HO, HB⟩ := hrel
    clear LV
    have HA' := HA.out
    have HS' := HS.out
    by_cases hlt : a < s.size
    · have h1 : (a : Int) < (s.size : Int) := by omega
      have DA := drop_at s a hlt
      obtain ⟨l, hl⟩ : ∃ l, s.data.toList.drop a = l := ⟨_, rfl⟩
      obtain ⟨b, hb⟩ : ∃ b, s[a]'hlt = b := ⟨_, rfl⟩
      obtain ⟨r, hr⟩ : ∃ r, s.data.toList.drop (a + 1) = r := ⟨_, rfl⟩
      rw [hl, hb, hr] at DA
      have hr1 := byV_drop hr 0
      rw [Nat.add_zero] at hr1
      have WS := ws_bytes b
      obtain ⟨B, hB⟩ : ∃ B : Int, ((s[a]'hlt).toNat : Int) = B := ⟨_, rfl⟩
      have hBb : (b.toNat : Int) = B := by rw [← hb]; exact hB
      rw [hBb] at WS
      rw [hl] at HR
      have ov : IntKind.i64.wrap ((a : Int) + 1) = ((a + 1 : Nat) : Int) := by rw [IntKind.wrap_i64]; omega
      have HL := Lib.hid hl
      have HRR := Lib.hid hr
      have HD : Hid (l = b :: r) := DA
      obtain ⟨ws, hws⟩ : ∃ ws, isWs b = ws := ⟨_, rfl⟩
      rw [hws] at WS
      have HWS := Lib.hid hws
      have WSH := Lib.hid WS
      have H47 : Hid ((B == 47) = decide (b = 47)) := by
        show _ = _
        rw [← hBb, Bool.eq_iff_iff, beq_iff_eq, decide_eq_true_eq]
        exact byte_num (n := 47) (by decide)
      have HN47 : Hid ((byV s.data.toList (a + 1) == 47) = decide (r.head? = some 47)) := by
        show _ = _
        rw [hr1]
        cases r with
        | nil => rfl
        | cons c r =>
          have e1 : byV (c :: r) 0 = (c.toNat : Int) := rfl
          rw [e1, Bool.eq_iff_iff, beq_iff_eq, decide_eq_true_eq, List.head?_cons, Option.some.injEq]
          exact byte_num (n := 47) (by decide)
      clear DA hl hb hr hr1 WS hBb hws HA' HS'
      go_upto_region 6 with fail
      go_cut [38] (fun v wx => v = .bool ws ∧ wx = wr)
      case first =>
        have W := WSH.out
        cases q1 : (B == 32)
        · cases q2 : (B == 9)
          · cases q3 : (B == 10)
            · have W2 : Hid ((B == 13) = ws) := by show _ = _; rw [W, q1, q2, q3]; rfl
              clear W
              go_wp2_with fail
              go_meet
              exact ⟨by rw [← W2.out], rfl⟩
            · have W2 : Hid (true = ws) := by show _ = _; rw [W, q1, q2, q3]; rfl
              clear W
              go_wp2_with fail
              go_meet
              exact ⟨by rw [← W2.out], rfl⟩
          · have W2 : Hid (true = ws) := by show _ = _; rw [W, q1, q2]; rfl
            clear W
            go_wp2_with fail
            go_meet
            exact ⟨by rw [← W2.out], rfl⟩
        · have W2 : Hid (true = ws) := by show _ = _; rw [W, q1]; rfl
          clear W
          go_wp2_with fail
          go_meet
          exact ⟨by rw [← W2.out], rfl⟩
      case rest =>
        obtain ⟨rfl, rfl⟩ := hcut
        cases ws
        · -- no white space
          obtain ⟨cm, hcm⟩ : ∃ cm : Bool, cm = (decide (b = 47) && decide (r.head? = some 47)) := ⟨_, rfl⟩
          have HCM := Lib.hid hcm
          clear hcm
          go_upto_region 8 with fail
          go_cut [51] (fun v wx => v = .bool cm ∧ wx = wc)
          case first =>
            have q := H47.out
            cases q1 : (B == 47)
            · have W2 : Hid (false = cm) := by show _ = _; rw [HCM.out, ← q, q1]; rfl
              clear q
              go_wp2_with fail
              go_meet
              exact ⟨by rw [← W2.out], rfl⟩
            · have W2 : Hid ((byV s.data.toList (a + 1) == 47) = cm) := by show _ = _; rw [HCM.out, ← q, q1, HN47.out]; rfl
              clear q
              go_wp2_with fail
              refine (AT.out (a + 1) _).mono ?_
              rintro e w1 ⟨rfl, rfl⟩
              go_wp2_with fail
              go_meet
              exact ⟨by rw [← W2.out], rfl⟩
          case rest =>
            obtain ⟨rfl, rfl⟩ := hcut
            cases cm
            · have hnc : ¬ (b = 47 ∧ r.head? = some 47) := fun h => by
                have := HCM.out
                rw [decide_eq_true h.1, decide_eq_true h.2] at this
                cases this
              obtain ⟨g1, g2⟩ := gp_same HWS.out hnc
              rw [← HD.out] at g1 g2
              have hne : l ≠ [] := by rw [HD.out]; simp
              have LG : lxG l a = lxF (l.length + 1) l a := by unfold lxG; rw [g1, g2]; rfl
              have F := Lib.hid (yOne_any s a HL.out (by have := HS.out; omega) hne (HPH.out a l HL.out) wc)
              unfold RetOne at F
              have ll : l.length = s.size - a := by rw [← HL.out, List.length_drop, ← Lib.size_eq]
              by_cases he : fiE l = 0
              · have fp := fiN_pos he
                have fl := fiN_le l
                have HR2 : Hid (R = catR (ts ++ [fiT l a]) (lxG (s.data.toList.drop (a + fiN l)) (a + fiN l))) := by
                  show _ = _
                  rw [HR.out, LG, catR_step ts hne he, drop_gp _ a (fiN l) HL.out]
                  rfl
                have BN : Hid (a + fiN l ≤ s.size ∧ 1 ≤ fiN l) := ⟨by omega, fp⟩
                rw [he] at F
                have PSE : Hid ((fiT l a).ps = (a : Int)) := fiT_ps l a
                clear g1 g2 hne LG ll he fp fl hnc HCM HR HWS WSH H47 HN47
                generalize fiT l a = T at *
                generalize fiN l = n at *
                go_wp2_with fail
                refine F.out.mono ?_
                rintro e w3 ⟨⟨k, x, y, m, f⟩, n', rfl, hT, hb3⟩
                obtain ⟨rfl, rfl⟩ := hT (by first | rfl | trivial)
                obtain rfl : x = (a : Int) := PSE.out
                have HB3 := Lib.hid (bel_trans HB.out hb3)
                have HO3 := Lib.hid (own_belowK HO.out hb3)
                have TSL : Hid (ts.length ≤ 16384) := by show _ ≤ _; have := HA.out; have := HS.out; omega
                clear hb3 F HB HO hT PSE
                unfold tkA
                dsimp only
                have TSL' := TSL.out
                go_wp2_with (at_builtin; refine wpList_append_own _ rfl _ _ 23 rfl w.heap.size 34 i0 (.agg #[.int .u8 0, .int .i64 0, .string ⟨#[]⟩, .int .i32 0, .int .u64 0]) 5 48 Tryz.underlying23 HI.out HZ0.out HZ1.out HZ2.out rfl (by decide) _ _ _ rfl ((HO3.out.alloc _).alloc _) ⟨w3.heap.size + 1, 0, none⟩ 1 1 [.int .u8 k, .int .i64 (a : Int), .string ⟨y.toArray⟩, .int .i32 m, .int .u64 f] rfl rfl ?c1 ?c2 ?c3 ?c4 ?c5 ?_)
                case c1 => exact (blk_second w3 _ _ _).news
                case c2 => intro u hu; simp at hu; rcases hu with rfl | rfl | rfl | rfl | rfl <;> rfl
                case c3 => unfold maxLen; omega
                case c4 => omega
                case c5 => have := HB3.out.size; simp; omega
                intro v' w4 own' hgrow hnil
                clear hnil
                have HB4 := Lib.hid (own_grownK (bel_alloc (bel_alloc HB3.out _) _) (by have := HB3.out.size; simp; omega) ((HO3.out.alloc _).alloc _) hgrow)
                have HO4 : Hid (w4.ownsRow w.heap.size 34 5 v' (ts ++ [(⟨k, a, y, m, f⟩ : Tk)]).length (tksC (ts ++ [(⟨k, a, y, m, f⟩ : Tk)]))) := by
                  show World.ownsRow _ _ _ _ _ _ _
                  rw [tksC_snoc, List.length_append]
                  exact own'
                have TL : Hid ((ts ++ [(⟨k, a, y, m, f⟩ : Tk)]).length ≤ a + n) := by
                  show _ ≤ _
                  rw [List.length_append, List.length_singleton]
                  have := HA.out
                  have := BN.out
                  omega
                clear own' hgrow HB3 HO3 TSL TSL'
                go_wp2_with fail
                go_roundg (s.size - (a + n))
                case measure => have := HA.out; have := BN.out; omega
                case rel => exact ⟨_, a + n, rfl, ⟨rfl, BN.out.1, TL.out⟩, HR2, HO4, HB4⟩
              · have e' : R = ([], fiE l, a) := by
                  rw [HR.out, LG, lxF_err _ _ hne he]
                  unfold catR
                  rw [if_pos (by exact he)]
                have HRR2 := Lib.hid e'
                have hne' : (fiE l != 0) = true := by simpa using he
                clear g1 g2 hne LG ll he hnc HCM HR HWS WSH H47 HN47 e'
                generalize fiE l = E at *
                go_wp2_with fail
                refine F.out.mono ?_
                rintro e w3 ⟨⟨k, x, y, m, f⟩, n', rfl, hT, hb3⟩
                have HB3 := Lib.hid (bel_trans HB.out hb3)
                clear hb3 F HB HO hT
                unfold tkA
                dsimp only
                go_wp2_with fail
                refine bodyPost_ret (by simp [results, Tryz.results10, go_sem]; (try rfl)) rfl ⟨.slice none 0 0, ?_, ⟨?_, .inl ⟨rfl, ?_⟩⟩, ?_⟩
                · rw [HRR2.out]
                · rw [HRR2.out]; rfl
                · rw [HRR2.out]; rfl
                · exact bel_alloc HB3.out _
            · have hc := HCM.out.symm
              rw [Bool.and_eq_true, decide_eq_true_eq, decide_eq_true_eq] at hc
              have IC := Lib.hid (inC_start HL.out (by rw [HD.out, hc.1]) hc.2)
              have HB47 : Hid (b = 47) := hc.1
              clear hc HCM
              go_wp2_with fail
              go_loopg [6] (s.size - a) (fun gk s6 wx => ∃ j : Nat, s6 = .int .i64 (j : Int) ∧ Hid (gk = s.size - j ∧ a ≤ j ∧ j ≤ s.size) ∧ Hid (InC s.data.toList l a j) ∧ wx = wc)
              case atStart => exact ⟨a, rfl, ⟨rfl, Nat.le_refl _, Nat.le_of_lt hlt⟩, IC, rfl⟩
              case round =>
                obtain ⟨j, rfl, HJ, HC, rfl⟩ := hrel
                have HJ' := HJ.out
                have HS' := HS.out
                by_cases hj : j < s.size
                · have DJ := drop_at s j hj
                  have z0 : (j : Int) < (s.size : Int) := by omega
                  by_cases h10 : s[j]'hj = 10
                  · have e10 : ((s[j]'hj).toNat : Int) = 10 := byte_eq h10 (by decide)
                    rw [h10] at DJ
                    have E := Lib.hid (inC_end HC.out (.inr ⟨_, DJ⟩))
                    have hja : a < j := by
                      refine Classical.byContradiction fun h => ?_
                      obtain rfl : j = a := by omega
                      have := HL.out.symm.trans DJ
                      rw [HD.out, HB47.out] at this
                      injection this with h1 h2
                      exact absurd h1 (by decide)
                    have HJA := Lib.hid hja
                    clear DJ h10 hja HJ' HS' HC
                    go_wp2_with fail
                    go_roundg (s.size - j)
                    case measure => have := HJ.out; have := HJA.out; have := HA.out; omega
                    case rel => exact ⟨ts, j, rfl, ⟨rfl, HJ.out.2.2, by have := HA.out; have := HJ.out; omega⟩, by show _ = _; rw [E.out]; exact HR.out, HO, HB⟩
                  · have e10 : (((s[j]'hj).toNat : Int) == 10) = false := byte_ne h10 (by decide)
                    have e11 : (((s[j]'hj).toNat : Int) != 10) = true := by rw [bne, e10]; rfl
                    have C2 := Lib.hid (inC_next HC.out DJ h10)
                    have ovj : IntKind.i64.wrap ((j : Int) + 1) = ((j + 1 : Nat) : Int) := by rw [IntKind.wrap_i64]; omega
                    clear DJ h10 HC HJ' HS'
                    go_wp2_with fail
                    go_roundg (s.size - (j + 1))
                    case measure => have := HJ.out; omega
                    case rel => exact ⟨j + 1, by go_num, ⟨rfl, by have := HJ.out; omega, hj⟩, C2, rfl⟩
                · have z0 : ¬ (j : Int) < (s.size : Int) := by omega
                  have E := Lib.hid (inC_end HC.out (.inl (List.drop_eq_nil_of_le (by rw [← Lib.size_eq]; omega))))
                  have hja : a < j := by omega
                  have HJA := Lib.hid hja
                  clear hja HJ' HS' HC
                  go_wp2_with fail
                  go_roundg (s.size - j)
                  case measure => have := HJ.out; have := HJA.out; have := HA.out; omega
                  case rel => exact ⟨ts, j, rfl, ⟨rfl, HJ.out.2.2, by have := HA.out; have := HJ.out; omega⟩, by show _ = _; rw [E.out]; exact HR.out, HO, HB⟩
        · have HR2 : Hid (R = catR ts (lxG (s.data.toList.drop (a + 1)) (a + 1))) := by
            show _ = _
            rw [HRR.out, ← lxG_ws HWS.out, ← HD.out]
            exact HR.out
          go_wp2_with fail
          go_roundg (s.size - (a + 1))
          case measure => have := HA.out; omega
          case rel => exact ⟨ts, a + 1, by go_num, ⟨rfl, by have := HA.out; omega, by have := HA.out; omega⟩, HR2, HO, HB⟩
    · obtain rfl : a = s.size := by omega
      have e' : R = (ts ++ [enT s.size], 0, 0) := by
        rw [HR.out, show s.data.toList.drop s.size = [] from List.drop_eq_nil_of_le (by rw [← Lib.size_eq]; exact Nat.le_refl _)]
        rfl
      have HRR := Lib.hid e'
      clear HR e' hlt
      go_wp2_with (at_builtin; refine wpList_append_own _ rfl _ _ 23 rfl w.heap.size 34 i0 (.agg #[.int .u8 0, .int .i64 0, .string ⟨#[]⟩, .int .i32 0, .int .u64 0]) 5 48 Tryz.underlying23 HI.out HZ0.out HZ1.out HZ2.out rfl (by decide) _ _ _ rfl (HO.out.alloc _) ⟨wr.heap.size, 0, none⟩ 1 1 [.int .u8 0, .int .i64 (s.size : Int), .string ⟨#[]⟩, .int .i32 0, .int .u64 0] rfl rfl ?c1 ?c2 ?c3 ?c4 ?c5 ?_)
      case c1 => exact (Blk.new wr _ _).news
      case c2 => intro u hu; simp at hu; rcases hu with rfl | rfl | rfl | rfl | rfl <;> rfl
      case c3 => unfold maxLen; omega
      case c4 => omega
      case c5 => have := HB.out.size; simp; omega
      intro v' w4 own' hgrow hnil
      clear hnil
      have HB4 := Lib.hid (own_grownK (bel_alloc HB.out _) (by have := HB.out.size; simp; omega) (HO.out.alloc _) hgrow)
      have HO4 := Lib.hid own'
      clear own' hgrow HB HO
      go_wp2_with fail
      refine bodyPost_ret (by simp [results, Tryz.results10, go_sem]; (try rfl)) rfl ⟨v', ?_, ?_, HB4.out⟩
      · rw [HRR.out]
        rfl
      · rw [HRR.out]
        show World.ownsRow _ _ _ _ _ (ts ++ [enT s.size]).length (tksC (ts ++ [enT s.size]))
        rw [tksC_snoc, List.length_append]
        exact HO4.out
end Go.Proofs.YtkhddadhkkffnaaGreatDoor
namespace Go.Proofs.YtkhddadhkkffnaaGreatDoor
open Go.RowKit Go.Maps
set_option maxRecDepth 100000

/-- A byte of a number. -/
def nBn (B : Int) : Bool := (decide (48 ≤ B) && decide (B ≤ 57)) || (B == 46 || (B == 101 || (B == 69 || (B == 45 || B == 43))))
def RunB (S : List UInt8) (a k : Nat) : Prop := ∀ j, j < k → ∃ b, S[a + j]? = some b ∧ nBn (b.toNat : Int) = true
def FarOk (S : List UInt8) : Prop := ∀ a k, RunB S a k → k ≤ 45
/-- A test answered: where it says no, P holds. -/
def RetBad (P : Prop) (w : World) (e : Ending) (w' : World) : Prop := (∃ F : Bool, e = .returned (.bool F) ∧ (F = false → P)) ∧ w = w'
def FarI (S : List UInt8) (i n : Nat) : Prop := n ≤ 45 ∧ (∀ a k, a + k ≤ i → RunB S a k → k ≤ 45) ∧ ∀ a, a ≤ i → RunB S a (i - a) → i - a ≤ n
theorem far_yes {S : List UInt8} {i n : Nat} {b : UInt8} (h : FarI S i n) (_hb : S[i]? = some b) (hn : n + 1 ≤ 45) : FarI S (i + 1) (n + 1) := by
  obtain ⟨h1, h2, h3⟩ := h
  have key : ∀ a, a ≤ i + 1 → RunB S a (i + 1 - a) → i + 1 - a ≤ n + 1 := fun a ha hr => by
    by_cases h : a = i + 1
    · omega
    · have := h3 a (by omega) (fun j hj => hr j (by omega))
      omega
  refine ⟨hn, fun a k hk hr => ?_, key⟩
  by_cases h : a + k ≤ i
  · exact h2 a k h hr
  · have := key a (by omega) (by rw [show i + 1 - a = k by omega]; exact hr)
    omega
theorem far_no {S : List UInt8} {i n : Nat} {b : UInt8} (h : FarI S i n) (hb : S[i]? = some b) (hq : nBn (b.toNat : Int) = false) : FarI S (i + 1) 0 := by
  obtain ⟨h1, h2, h3⟩ := h
  have key : ∀ a, a ≤ i + 1 → RunB S a (i + 1 - a) → i + 1 - a ≤ 0 := fun a ha hr => by
    by_cases h : a = i + 1
    · omega
    · obtain ⟨c, e1, e2⟩ := hr (i - a) (by omega)
      rw [show a + (i - a) = i by omega, hb] at e1
      obtain rfl := Option.some.inj e1
      rw [hq] at e2
      cases e2
  refine ⟨by omega, fun a k hk hr => ?_, key⟩
  by_cases h : a + k ≤ i
  · exact h2 a k h hr
  · have := key a (by omega) (by rw [show i + 1 - a = k by omega]; exact hr)
    omega
theorem far_end {S : List UInt8} {n : Nat} (h : FarI S S.length n) : FarOk S := fun a k hr => by
  by_cases hk : k = 0
  · omega
  · refine h.2.1 a k ?_ hr
    obtain ⟨b, e, -⟩ := hr (k - 1) (by omega)
    have := (List.getElem?_eq_some_iff.1 e).1
    omega
set_option maxHeartbeats 8000000 in
theorem far9_any (s : ByteArray) (w : World) (hs : s.size ≤ 1048576) : Calls Tryz.prog 8 #[.string s] w (RetBad (FarOk s.data.toList) w) := by
  have HS := Lib.hid hs
  clear hs
  go_enter Tryz.func8, Tryz.ntmps8
  go_wp2_with fail
  go_loopg [3, 4] s.size (fun gk s3 s4 wr => ∃ n i : Nat, s3 = .int .i64 (n : Int) ∧ s4 = .int .i64 (i : Int) ∧ Hid (gk = s.size - i ∧ i ≤ s.size) ∧ Hid (FarI s.data.toList i n) ∧ wr = w)
  case atStart => exact ⟨0, 0, rfl, rfl, ⟨rfl, Nat.zero_le _⟩, ⟨Nat.zero_le _, fun a k h _ => by omega, fun a h _ => by omega⟩, rfl⟩
  case round =>
    obtain ⟨n, i, rfl, rfl, HI, HF, rfl⟩ := hrel
    have HS' := HS.out
    by_cases hlt : i < s.size
    · have z0 : (i : Int) < (s.size : Int) := by omega
      have ovi : IntKind.i64.wrap ((i : Int) + 1) = ((i + 1 : Nat) : Int) := by rw [IntKind.wrap_i64]; omega
      have n45 := HF.out.1
      have ovn : IntKind.i64.wrap ((n : Int) + 1) = ((n + 1 : Nat) : Int) := by rw [IntKind.wrap_i64]; omega
      have hb := Lib.hid (at_byte s i hlt)
      obtain ⟨B, hB⟩ : ∃ B : Int, ((s[i]'hlt).toNat : Int) = B := ⟨_, rfl⟩
      obtain ⟨q, hq⟩ : ∃ q, q = nBn B := ⟨_, rfl⟩
      have HQ : Hid (q = nBn ((s[i]'hlt).toNat : Int)) := by show _ = _; rw [hq, hB]
      have HQ2 := Lib.hid hq
      clear hq n45
      go_upto_region 5 with fail
      go_cut [50] (fun v wx => v = .bool q ∧ wx = wr)
      case first =>
        have Q : q = ((decide (48 ≤ B) && decide (B ≤ 57)) || (B == 46 || (B == 101 || (B == 69 || (B == 45 || B == 43))))) := HQ2.out
        by_cases d1 : 48 ≤ B
        · by_cases d2 : B ≤ 57
          · have W : Hid (true = q) := by show _ = _; rw [Q, decide_eq_true d1, decide_eq_true d2]; rfl
            clear Q
            go_wp2_with fail
            go_meet
            exact ⟨by rw [← W.out], rfl⟩
          · rw [decide_eq_false d2, Bool.and_false, Bool.false_or] at Q
            have f46 : (B == 46) = false := by rw [beq_eq_false_iff_ne]; omega
            have f45 : (B == 45) = false := by rw [beq_eq_false_iff_ne]; omega
            have f43 : (B == 43) = false := by rw [beq_eq_false_iff_ne]; omega
            rw [f46, f45, f43] at Q
            cases f101 : (B == 101)
            · cases f69 : (B == 69)
              · have W : Hid (false = q) := by show _ = _; rw [Q, f101, f69]; rfl
                clear Q
                go_wp2_with fail
                go_meet
                exact ⟨by rw [← W.out], rfl⟩
              · have W : Hid (true = q) := by show _ = _; rw [Q, f101, f69]; rfl
                clear Q
                go_wp2_with fail
                go_meet
                exact ⟨by rw [← W.out], rfl⟩
            · have W : Hid (true = q) := by show _ = _; rw [Q, f101]; rfl
              clear Q
              go_wp2_with fail
              go_meet
              exact ⟨by rw [← W.out], rfl⟩
        · rw [decide_eq_false d1, Bool.false_and, Bool.false_or] at Q
          have f101 : (B == 101) = false := by rw [beq_eq_false_iff_ne]; omega
          have f69 : (B == 69) = false := by rw [beq_eq_false_iff_ne]; omega
          rw [f101, f69] at Q
          cases f46 : (B == 46)
          · cases f45 : (B == 45)
            · have W : Hid ((B == 43) = q) := by show _ = _; rw [Q, f46, f45]; rfl
              clear Q
              go_wp2_with fail
              go_meet
              exact ⟨by rw [← W.out], rfl⟩
            · have W : Hid (true = q) := by show _ = _; rw [Q, f46, f45]; rfl
              clear Q
              go_wp2_with fail
              go_meet
              exact ⟨by rw [← W.out], rfl⟩
          · have W : Hid (true = q) := by show _ = _; rw [Q, f46]; rfl
            clear Q
            go_wp2_with fail
            go_meet
            exact ⟨by rw [← W.out], rfl⟩
      case rest =>
        obtain ⟨rfl, rfl⟩ := hcut
        clear HQ2
        cases q
        · have F2 := Lib.hid (far_no HF.out hb.out HQ.out.symm)
          go_wp2_with fail
          go_roundg (s.size - (i + 1))
          case measure => have := HI.out; omega
          case rel => exact ⟨0, i + 1, rfl, by go_num, ⟨rfl, hlt⟩, F2, rfl⟩
        · by_cases h45 : n + 1 ≤ 45
          · have F2 := Lib.hid (far_yes HF.out hb.out h45)
            have y1 : ¬ (45 : Int) < (n : Int) + 1 := by omega
            go_wp2_with fail
            go_roundg (s.size - (i + 1))
            case measure => have := HI.out; omega
            case rel => exact ⟨n + 1, i + 1, by go_num, by go_num, ⟨rfl, hlt⟩, F2, rfl⟩
          · have y1 : (45 : Int) < (n : Int) + 1 := by omega
            go_wp2_with fail
            go_ret
            exact ⟨⟨true, rfl, fun h => by cases h⟩, rfl⟩
    · obtain rfl : i = s.size := by have := HI.out; omega
      have FO : Hid (FarOk s.data.toList) := far_end (n := n) (by rw [← Lib.size_eq]; exact HF.out)
      clear hlt HF
      go_wp2_with fail
      go_ret
      exact ⟨⟨false, rfl, fun _ => FO.out⟩, rfl⟩
/-- No letter of a power with three digits behind the byte that follows it. -/
def PowOk (S : List UInt8) : Prop := ∀ i, i + 4 < S.length → (byV S i = 101 ∨ byV S i = 69) → dgN (byV S (i + 2)) = true → dgN (byV S (i + 3)) = true → dgN (byV S (i + 4)) = true → False
set_option maxHeartbeats 16000000 in
theorem powers9_any (s : ByteArray) (w : World) (hs : s.size ≤ 1048576) : Calls Tryz.prog 9 #[.string s] w (RetBad (PowOk s.data.toList) w) := by
  have HS := Lib.hid hs
  clear hs
  go_enter Tryz.func9, Tryz.ntmps9
  go_wp2_with fail
  go_loopg [3] s.size (fun gk s3 wr => ∃ i : Nat, s3 = .int .i64 (i : Int) ∧ Hid (gk = s.size - i ∧ i ≤ s.size) ∧ Hid (∀ j, j < i → j + 4 < s.size → (byV s.data.toList j = 101 ∨ byV s.data.toList j = 69) → dgN (byV s.data.toList (j + 2)) = true → dgN (byV s.data.toList (j + 3)) = true → dgN (byV s.data.toList (j + 4)) = true → False) ∧ wr = w)
  case atStart => exact ⟨0, rfl, ⟨rfl, Nat.zero_le _⟩, fun j h => by omega, rfl⟩
  case round =>
    obtain ⟨i, rfl, HI, HF, rfl⟩ := hrel
    have HS' := HS.out
    have HI' := HI.out
    obtain ⟨i2, e2⟩ : ∃ i2, i2 = i + 2 := ⟨_, rfl⟩
    obtain ⟨i3, e3⟩ : ∃ i3, i3 = i + 3 := ⟨_, rfl⟩
    obtain ⟨i4, e4⟩ : ∃ i4, i4 = i + 4 := ⟨_, rfl⟩
    have ov2 : IntKind.i64.wrap ((i : Int) + 2) = (i2 : Int) := by rw [IntKind.wrap_i64]; omega
    have ov3 : IntKind.i64.wrap ((i : Int) + 3) = (i3 : Int) := by rw [IntKind.wrap_i64]; omega
    have ov4 : IntKind.i64.wrap ((i : Int) + 4) = (i4 : Int) := by rw [IntKind.wrap_i64]; omega
    have ovi : IntKind.i64.wrap ((i : Int) + 1) = ((i + 1 : Nat) : Int) := by rw [IntKind.wrap_i64]; omega
    by_cases hlt : i4 < s.size
    · have z4 : (i4 : Int) < (s.size : Int) := by omega
      have z0 : (i : Int) < (s.size : Int) := by omega
      have z2 : (i2 : Int) < (s.size : Int) := by omega
      have z3 : (i3 : Int) < (s.size : Int) := by omega
      have y0 : i < s.size := by omega
      have y2 : i2 < s.size := by omega
      have y3 : i3 < s.size := by omega
      have b0 := byV_in y0
      have b2 := byV_in y2
      have b3 := byV_in y3
      have b4 := byV_in hlt
      obtain ⟨B0, h0⟩ : ∃ B : Int, ((s[i]'y0).toNat : Int) = B := ⟨_, rfl⟩
      obtain ⟨B2, h2⟩ : ∃ B : Int, ((s[i2]'y2).toNat : Int) = B := ⟨_, rfl⟩
      obtain ⟨B3, h3⟩ : ∃ B : Int, ((s[i3]'y3).toNat : Int) = B := ⟨_, rfl⟩
      obtain ⟨B4, h4⟩ : ∃ B : Int, ((s[i4]'hlt).toNat : Int) = B := ⟨_, rfl⟩
      rw [h0] at b0
      rw [h2] at b2
      rw [h3] at b3
      rw [h4] at b4
      obtain ⟨q, hq⟩ : ∃ q, q = ((B0 == 101 || B0 == 69) && (dgN B2 && (dgN B3 && dgN B4))) := ⟨_, rfl⟩
      have HQ := Lib.hid hq
      have HB : Hid (byV s.data.toList i = B0 ∧ byV s.data.toList (i + 2) = B2 ∧ byV s.data.toList (i + 3) = B3 ∧ byV s.data.toList (i + 4) = B4) := by subst e2 e3 e4; exact ⟨b0, b2, b3, b4⟩
      clear hq b0 b2 b3 b4 HI' HS' e2 e3 e4
      go_upto_region 4 with fail
      go_cut [62] (fun v wx => v = .bool q ∧ wx = wr)
      case first =>
        have Q := HQ.out
        cases f101 : (B0 == 101)
        · cases f69 : (B0 == 69)
          · rw [f101, f69, Bool.or_self, Bool.false_and] at Q
            have W : Hid ((false) = q) := by show _ = _; rw [Q] <;> rfl
            clear Q
            go_wp2_with fail
            go_meet
            exact ⟨by rw [← W.out], rfl⟩
          · rw [f101, f69, Bool.or_true, Bool.true_and] at Q
            by_cases l2 : 48 ≤ B2
            · by_cases h2 : B2 ≤ 57
              · rw [show dgN B2 = true by unfold dgN; rw [decide_eq_true l2, decide_eq_true h2]; rfl, Bool.true_and] at Q
                by_cases l3 : 48 ≤ B3
                · by_cases h3 : B3 ≤ 57
                  · rw [show dgN B3 = true by unfold dgN; rw [decide_eq_true l3, decide_eq_true h3]; rfl, Bool.true_and] at Q
                    by_cases l4 : 48 ≤ B4
                    · by_cases h4 : B4 ≤ 57
                      · rw [show dgN B4 = true by unfold dgN; rw [decide_eq_true l4, decide_eq_true h4]; rfl] at Q
                        have W : Hid ((true) = q) := by show _ = _; rw [Q] <;> rfl
                        clear Q
                        go_wp2_with fail
                        go_meet
                        exact ⟨by rw [← W.out], rfl⟩
                      · rw [show dgN B4 = false by unfold dgN; rw [decide_eq_false h4, Bool.and_false]] at Q
                        have W : Hid ((false) = q) := by show _ = _; rw [Q] <;> rfl
                        clear Q
                        go_wp2_with fail
                        go_meet
                        exact ⟨by rw [← W.out], rfl⟩
                    · rw [show dgN B4 = false by unfold dgN; rw [decide_eq_false l4, Bool.false_and]] at Q
                      have W : Hid ((false) = q) := by show _ = _; rw [Q] <;> rfl
                      clear Q
                      go_wp2_with fail
                      go_meet
                      exact ⟨by rw [← W.out], rfl⟩
                  · rw [show dgN B3 = false by unfold dgN; rw [decide_eq_false h3, Bool.and_false]] at Q
                    have W : Hid ((false) = q) := by show _ = _; rw [Q] <;> rfl
                    clear Q
                    go_wp2_with fail
                    go_meet
                    exact ⟨by rw [← W.out], rfl⟩
                · rw [show dgN B3 = false by unfold dgN; rw [decide_eq_false l3, Bool.false_and]] at Q
                  have W : Hid ((false) = q) := by show _ = _; rw [Q] <;> rfl
                  clear Q
                  go_wp2_with fail
                  go_meet
                  exact ⟨by rw [← W.out], rfl⟩
              · rw [show dgN B2 = false by unfold dgN; rw [decide_eq_false h2, Bool.and_false]] at Q
                have W : Hid ((false) = q) := by show _ = _; rw [Q] <;> rfl
                clear Q
                go_wp2_with fail
                go_meet
                exact ⟨by rw [← W.out], rfl⟩
            · rw [show dgN B2 = false by unfold dgN; rw [decide_eq_false l2, Bool.false_and]] at Q
              have W : Hid ((false) = q) := by show _ = _; rw [Q] <;> rfl
              clear Q
              go_wp2_with fail
              go_meet
              exact ⟨by rw [← W.out], rfl⟩
        · rw [f101, Bool.true_or, Bool.true_and] at Q
          by_cases l2 : 48 ≤ B2
          · by_cases h2 : B2 ≤ 57
            · rw [show dgN B2 = true by unfold dgN; rw [decide_eq_true l2, decide_eq_true h2]; rfl, Bool.true_and] at Q
              by_cases l3 : 48 ≤ B3
              · by_cases h3 : B3 ≤ 57
                · rw [show dgN B3 = true by unfold dgN; rw [decide_eq_true l3, decide_eq_true h3]; rfl, Bool.true_and] at Q
                  by_cases l4 : 48 ≤ B4
                  · by_cases h4 : B4 ≤ 57
                    · rw [show dgN B4 = true by unfold dgN; rw [decide_eq_true l4, decide_eq_true h4]; rfl] at Q
                      have W : Hid ((true) = q) := by show _ = _; rw [Q] <;> rfl
                      clear Q
                      go_wp2_with fail
                      go_meet
                      exact ⟨by rw [← W.out], rfl⟩
                    · rw [show dgN B4 = false by unfold dgN; rw [decide_eq_false h4, Bool.and_false]] at Q
                      have W : Hid ((false) = q) := by show _ = _; rw [Q] <;> rfl
                      clear Q
                      go_wp2_with fail
                      go_meet
                      exact ⟨by rw [← W.out], rfl⟩
                  · rw [show dgN B4 = false by unfold dgN; rw [decide_eq_false l4, Bool.false_and]] at Q
                    have W : Hid ((false) = q) := by show _ = _; rw [Q] <;> rfl
                    clear Q
                    go_wp2_with fail
                    go_meet
                    exact ⟨by rw [← W.out], rfl⟩
                · rw [show dgN B3 = false by unfold dgN; rw [decide_eq_false h3, Bool.and_false]] at Q
                  have W : Hid ((false) = q) := by show _ = _; rw [Q] <;> rfl
                  clear Q
                  go_wp2_with fail
                  go_meet
                  exact ⟨by rw [← W.out], rfl⟩
              · rw [show dgN B3 = false by unfold dgN; rw [decide_eq_false l3, Bool.false_and]] at Q
                have W : Hid ((false) = q) := by show _ = _; rw [Q] <;> rfl
                clear Q
                go_wp2_with fail
                go_meet
                exact ⟨by rw [← W.out], rfl⟩
            · rw [show dgN B2 = false by unfold dgN; rw [decide_eq_false h2, Bool.and_false]] at Q
              have W : Hid ((false) = q) := by show _ = _; rw [Q] <;> rfl
              clear Q
              go_wp2_with fail
              go_meet
              exact ⟨by rw [← W.out], rfl⟩
          · rw [show dgN B2 = false by unfold dgN; rw [decide_eq_false l2, Bool.false_and]] at Q
            have W : Hid ((false) = q) := by show _ = _; rw [Q] <;> rfl
            clear Q
            go_wp2_with fail
            go_meet
            exact ⟨by rw [← W.out], rfl⟩
      case rest =>
        obtain ⟨rfl, rfl⟩ := hcut
        cases q
        · have F2 : Hid (∀ j, j < i + 1 → j + 4 < s.size → (byV s.data.toList j = 101 ∨ byV s.data.toList j = 69) → dgN (byV s.data.toList (j + 2)) = true → dgN (byV s.data.toList (j + 3)) = true → dgN (byV s.data.toList (j + 4)) = true → False) := by
            intro j hj h1 h2 h3 h4 h5
            by_cases hji : j < i
            · exact HF.out j hji h1 h2 h3 h4 h5
            · obtain rfl : j = i := by omega
              obtain ⟨e1, e2, e3, e4⟩ := HB.out
              rw [e1] at h2
              rw [e2] at h3
              rw [e3] at h4
              rw [e4] at h5
              have := HQ.out
              rw [h3, h4, h5] at this
              rcases h2 with h2 | h2
              · rw [h2] at this; exact absurd this (by decide)
              · rw [h2] at this; exact absurd this (by decide)
          clear HQ HB
          go_wp2_with fail
          go_roundg (s.size - (i + 1))
          case measure => have := HI.out; omega
          case rel => exact ⟨i + 1, by go_num, ⟨rfl, y0⟩, F2, rfl⟩
        · go_wp2_with fail
          go_ret
          exact ⟨⟨true, rfl, fun h => by cases h⟩, rfl⟩
    · have z4 : ¬ (i4 : Int) < (s.size : Int) := by omega
      have FO : Hid (PowOk s.data.toList) := fun j hj => by
        rw [← Lib.size_eq] at hj
        exact HF.out j (by omega) hj
      clear HF
      go_wp2_with fail
      go_ret
      exact ⟨⟨false, rfl, fun _ => FO.out⟩, rfl⟩
end Go.Proofs.YtkhddadhkkffnaaGreatDoor
