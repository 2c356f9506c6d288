/-
  Contracts of lex's lengths of signs and gaps. Conditions: texts of at most 1048576 bytes; for gaps: a variable of the library holds some integer.
-/
import Derived.Test.YtkhddadhkkffnaaGreatDoorLxc
namespace Go.Proofs.YtkhddadhkkffnaaGreatDoor
open Go.RowKit
set_option maxRecDepth 100000

theorem two_none {x : List UInt8} (h : twoS.contains x = false) : (x == [61, 61]) = false ∧ (x == [33, 61]) = false ∧ (x == [60, 61]) = false ∧ (x == [62, 61]) = false ∧ (x == [38, 38]) = false ∧ (x == [124, 124]) = false ∧ (x == [46, 46]) = false := by
  unfold twoS at h
  simpa [Bool.or_eq_false_iff] using h
theorem two_some {x : List UInt8} (h : twoS.contains x = true) : x = [61, 61] ∨ x = [33, 61] ∨ x = [60, 61] ∨ x = [62, 61] ∨ x = [38, 38] ∨ x = [124, 124] ∨ x = [46, 46] := by
  unfold twoS at h
  simpa using h
theorem one_is (l : List UInt8) : stB l oneS = decide (si1 l = 1) := by
  cases l with
  | nil => rfl
  | cons b r =>
    rw [si1_cons]
    show oneS.contains b = _
    cases oneS.contains b <;> rfl
theorem xSign_any (s : ByteArray) (w : World) :
    Calls Tryz.prog 36 #[.string s] w fun e w' => e = .returned (.int .i64 (siL s.data.toList)) ∧ w = w' := by
  have T : (s.extract 0 (min 2 (s.size : Int)).toNat).toList = s.data.toList.take 2 := by
    rw [Lib.toList_data, ext_front, Lib.size_eq]
    rw [show (min 2 ((s.data.toList.length : Nat) : Int)).toNat = min 2 s.data.toList.length by omega, ← List.take_take, List.take_length]
  have E : siL s.data.toList = if twoS.contains (s.data.toList.take 2) then 2 else si1 s.data.toList := rfl
  have C := Lib.hid fun w => xStarts_any s ⟨#[40, 41, 91, 93, 123, 125, 44, 59, 58, 61, 60, 62, 43, 45, 42, 47, 33]⟩ w
  change Hid (∀ w, Calls Tryz.prog 62 #[.string s, .string ⟨#[40, 41, 91, 93, 123, 125, 44, 59, 58, 61, 60, 62, 43, 45, 42, 47, 33]⟩] w fun e w' => e = .returned (.bool (stB s.data.toList oneS)) ∧ w = w') at C
  rw [one_is] at C
  have b1 : si1 s.data.toList ≤ 1 := by
    cases s.data.toList with
    | nil => decide
    | cons b r => rw [si1_cons]; split <;> omega
  generalize s.data.toList.take 2 = x at *
  generalize si1 s.data.toList = n at *
  cases h : twoS.contains x
  · obtain ⟨n1, n2, n3, n4, n5, n6, n7⟩ := two_none h
    have F : Hid ((n : Int) = (siL s.data.toList : Int)) := by show _ = _; rw [E, h]; rfl
    clear E h
    by_cases h1 : n = 1
    · subst h1
      go_enter Tryz.func36, Tryz.ntmps36
      go_wp2_with fail
      refine (C.out _).mono ?_
      rintro e w1 ⟨rfl, rfl⟩
      go_wp2_with fail
      go_ret
      exact ⟨ret_int F.out, rfl⟩
    · obtain rfl : n = 0 := by omega
      go_enter Tryz.func36, Tryz.ntmps36
      go_wp2_with fail
      refine (C.out _).mono ?_
      rintro e w1 ⟨rfl, rfl⟩
      go_wp2_with fail
      go_ret
      exact ⟨ret_int F.out, rfl⟩
  · have F : Hid ((2 : Int) = (siL s.data.toList : Int)) := by show _ = _; rw [E, h]; rfl
    clear E C b1
    rcases two_some h with rfl | rfl | rfl | rfl | rfl | rfl | rfl
    all_goals
      clear h
      go_enter Tryz.func36, Tryz.ntmps36
      go_wp2_with fail
      go_ret
      exact ⟨ret_int F.out, rfl⟩

/-- A gap, as it is read step by step. -/
theorem gp_trim : ∀ l : List UInt8, gp (Lib.trimLeftS l [9, 10, 13, 32]) = gp l
  | [] => rfl
  | b :: r => by
    unfold Lib.trimLeftS
    rw [List.dropWhile_cons]
    have e : ([9, 10, 13, 32] : List UInt8).contains b = isWs b := rfl
    by_cases h : isWs b = true
    · rw [e, if_pos h]
      have : gp (b :: r) = gp r := by unfold gp; rw [gpB, if_pos h]
      rw [this]
      exact gp_trim r
    · rw [e, if_neg h]
theorem gp_line : ∀ l : List UInt8, gpB true l = gp (Lib.cut l [10]).2.1
  | [] => rfl
  | b :: r => by
    have ih := gp_line r
    by_cases h : b = 10
    · subst h
      have : Lib.cut (10 :: r) [10] = ([], r, true) := by
        unfold Lib.cut Lib.index
        simp [List.isPrefixOf]
      rw [this, gpB, if_pos rfl]
      rfl
    · rw [gpB, if_neg h, ih]
      have e : (10 == b) = false := by rw [beq_eq_false_iff_ne]; exact fun e => h e.symm
      have ge := Lib.index_ge r [10]
      unfold Lib.cut
      rw [Lib.index]
      simp only [List.isPrefixOf, e, Bool.false_and, Bool.false_eq_true, if_false]
      by_cases h1 : Lib.index r [10] = -1
      · rw [h1]
        rfl
      · have h2 : (Lib.index r [10] == -1) = false := by simpa using h1
        rw [h2]
        simp only [Bool.false_eq_true, if_false]
        rw [if_pos (by omega), if_pos (by omega)]
        dsimp only
        congr 1
        rw [show (Lib.index r [10] + 1).toNat + ([10] : List UInt8).length = ((Lib.index r [10]).toNat + ([10] : List UInt8).length) + 1 by simp only [List.length_cons, List.length_nil]; omega, List.drop_succ_cons]
theorem gpB_ff (b : UInt8) (r : List UInt8) : gpB false (b :: r) = if isWs b then gpB false r else if b = 47 ∧ r.head? = some 47 then gpB true r else b :: r := by rw [gpB]
theorem gpB_tt (b : UInt8) (r : List UInt8) : gpB true (b :: r) = if b = 10 then gpB false r else gpB true r := by rw [gpB]
theorem gp_step (l : List UInt8) (h : Lib.hasPrefix l [47, 47] = true) : gp l = gp (Lib.cut l [10]).2.1 := by
  cases l with
  | nil => cases h
  | cons b l =>
    cases l with
    | nil => simp [Lib.hasPrefix, List.isPrefixOf] at h
    | cons c l =>
      simp only [Lib.hasPrefix, List.isPrefixOf, Bool.and_eq_true, beq_iff_eq, and_true] at h
      obtain ⟨rfl, rfl⟩ := h
      rw [← gp_line]
      unfold gp
      rw [gpB_ff 47 (47 :: l), if_neg (by decide), if_pos ⟨rfl, rfl⟩, gpB_tt 47 (47 :: l), if_neg (by decide)]
theorem gp_stop (l : List UInt8) (h : Lib.hasPrefix l [47, 47] = false) (hw : ∀ b, l[0]? = some b → isWs b = false) : gp l = l := by
  cases l with
  | nil => rfl
  | cons b l =>
    unfold gp
    rw [gpB, if_neg (by rw [hw b rfl]; decide), if_neg]
    rintro ⟨rfl, h2⟩
    cases l with
    | nil => cases h2
    | cons c l =>
      obtain rfl : c = 47 := by simpa using h2
      simp [Lib.hasPrefix, List.isPrefixOf] at h
theorem trim_head (l : List UInt8) : ∀ b, (Lib.trimLeftS l [9, 10, 13, 32])[0]? = some b → isWs b = false := by
  induction l with
  | nil => intro b h; cases h
  | cons c r ih =>
    unfold Lib.trimLeftS at ih ⊢
    rw [List.dropWhile_cons]
    by_cases h : ([9, 10, 13, 32] : List UInt8).contains c = true
    · rw [if_pos h]; exact ih
    · rw [if_neg h]
      intro b hb
      obtain rfl : c = b := by simpa using hb
      exact by simpa [isWs] using h
theorem trim_len9 (l cs : List UInt8) : (Lib.trimLeftS l cs).length ≤ l.length := by
  unfold Lib.trimLeftS
  induction l with
  | nil => simp
  | cons b r ih => rw [List.dropWhile_cons]; split <;> simp only [List.length_cons] <;> omega
theorem cut_less {l : List UInt8} (h : Lib.hasPrefix l [47, 47] = true) : (Lib.cut l [10]).2.1.length < l.length := by
  have h0 : l ≠ [] := by rintro rfl; cases h
  have h1 : 0 < l.length := List.length_pos_iff.2 h0
  unfold Lib.cut
  split
  · rw [List.length_drop]
    simp only [List.length_cons, List.length_nil]
    omega
  · exact h1
theorem h116 : (Tryz.prog.info? 79).map (fun i => (i.zero, i.size)) = some (some (.agg (Array.replicate 256 (.bool false))), 256) := by kernel_rfl
theorem trimLeft9 (s : ByteArray) (w : World) : Calls Tryz.prog 30 #[.string s, .string ⟨#[9, 10, 13, 32]⟩] w fun e w' => e = .returned (.string ⟨(Lib.trimLeftS s.data.toList [9, 10, 13, 32]).toArray⟩) ∧ Below w.heap.size w w' :=
  Any.strings_TrimLeft_laid sh_lays161 h116 s ⟨#[9, 10, 13, 32]⟩ w (by decide) (ascii_of_all (by decide))
theorem xGap_any (s : ByteArray) (w : World) (hs : s.size ≤ 1048576) (hE : EnvOk w) :
    Calls Tryz.prog 18 #[.string s] w fun e w' => e = .returned (.int .i64 (gpN s.data.toList)) ∧ Below w.heap.size w w' := by
  have G := gpN_add s.data.toList
  rw [← Lib.size_eq] at G
  have T := Lib.hid fun w => trimLeft9 s w
  obtain ⟨t, ht⟩ : ∃ t : ByteArray, t = ⟨(Lib.trimLeftS s.data.toList [9, 10, 13, 32]).toArray⟩ := ⟨_, rfl⟩
  have dt : t.data.toList = Lib.trimLeftS s.data.toList [9, 10, 13, 32] := by rw [ht]
  rw [← ht] at T
  have H0 : Hid (gp t.data.toList = gp s.data.toList ∧ t.size ≤ s.size ∧ ∀ b, t.data.toList[0]? = some b → isWs b = false) := by
    refine ⟨by rw [dt, gp_trim], ?_, by rw [dt]; exact trim_head _⟩
    rw [Lib.size_eq, Lib.size_eq, dt]
    exact trim_len9 _ _
  clear ht dt
  go_enter Tryz.func18, Tryz.ntmps18
  go_wp2_with fail
  refine (T.out _).mono ?_
  rintro e w1 ⟨rfl, hb⟩
  have HB1 := Lib.hid hb
  clear hb T
  go_wp2_with fail
  go_loopw [3] (fun s3 wr => ∃ t : ByteArray, s3 = .string t ∧ Hid (gp t.data.toList = gp s.data.toList ∧ t.size ≤ s.size ∧ ∀ b, t.data.toList[0]? = some b → isWs b = false) ∧ Hid (Below w.heap.size w wr)) (fun s3 _ => match s3 with | .string t => t.size | _ => 0)
  case atStart => exact ⟨t, rfl, H0, HB1⟩
  case round =>
    obtain ⟨t, rfl, H, HB⟩ := hrel
    obtain ⟨h1, h2, h3⟩ := H.out
    have C := Lib.hid fun w => sh_strings_HasPrefix t ⟨#[47, 47]⟩ w
    change Hid (∀ w, Calls Tryz.prog 31 #[.string t, .string ⟨#[47, 47]⟩] w fun e w' => e = .returned (.bool (Lib.hasPrefix t.data.toList [47, 47])) ∧ w' = w) at C
    cases hp : Lib.hasPrefix t.data.toList [47, 47]
    · rw [hp] at C
      have e : gp s.data.toList = t.data.toList := by rw [← h1]; exact gp_stop _ hp h3
      have ov : IntKind.i64.wrap ((s.size : Int) - t.size) = gpN s.data.toList := by
        rw [IntKind.wrap_i64]
        rw [e, ← Lib.size_eq] at G
        omega
      clear h1 h2 h3 hp e G H H0
      go_wp2_with fail
      refine (C.out _).mono ?_
      rintro e w1 ⟨rfl, rfl⟩
      go_wp2_with fail
      go_ret
      exact ⟨rfl, HB.out⟩
    · rw [hp] at C
      obtain ⟨m, hm⟩ := (hE.below HB.out).len
      have CC := Lib.hid (sh_strings_Cut t ⟨#[10]⟩ m wr (by omega) hm)
      change Hid (Calls Tryz.prog 32 #[.string t, .string ⟨#[10]⟩] wr fun e w' => e = .returned (.tuple #[.string ⟨(Lib.cut t.data.toList [10]).1.toArray⟩, .string ⟨(Lib.cut t.data.toList [10]).2.1.toArray⟩, .bool (Lib.cut t.data.toList [10]).2.2]) ∧ ∃ n, w' = wr.drewN n) at CC
      obtain ⟨u, hu⟩ : ∃ u : ByteArray, u = ⟨(Lib.cut t.data.toList [10]).2.1.toArray⟩ := ⟨_, rfl⟩
      obtain ⟨v, hv⟩ : ∃ v : ByteArray, v = ⟨(Lib.trimLeftS u.data.toList [9, 10, 13, 32]).toArray⟩ := ⟨_, rfl⟩
      have du : u.data.toList = (Lib.cut t.data.toList [10]).2.1 := by rw [hu]
      have dv : v.data.toList = Lib.trimLeftS u.data.toList [9, 10, 13, 32] := by rw [hv]
      have lu : u.size < t.size := by rw [Lib.size_eq, Lib.size_eq, du]; exact cut_less hp
      have lv : v.size ≤ u.size := by rw [Lib.size_eq, Lib.size_eq, dv]; exact trim_len9 _ _
      have T := Lib.hid fun w => trimLeft9 u w
      rw [← hu] at CC
      rw [← hv] at T
      have H2 : Hid (gp v.data.toList = gp s.data.toList ∧ v.size ≤ s.size ∧ ∀ b, v.data.toList[0]? = some b → isWs b = false) := by
        refine ⟨?_, by omega, by rw [dv]; exact trim_head _⟩
        rw [dv, gp_trim, du, ← gp_step _ hp, h1]
      clear h1 h2 h3 hp H H0 hu hv du dv G hm
      generalize (⟨(Lib.cut t.data.toList [10]).1.toArray⟩ : ByteArray) = z at *
      generalize (Lib.cut t.data.toList [10]).2.2 = y at *
      go_wp2_with fail
      refine (C.out _).mono ?_
      rintro e w1 ⟨rfl, rfl⟩
      go_wp2_with fail
      refine CC.out.mono ?_
      rintro e w2 ⟨rfl, n, hw2⟩
      have HB2 := Lib.hid (bel_trans HB.out (hw2 ▸ below_drewN _ n))
      clear hw2 CC C
      go_wp2_with fail
      refine (T.out _).mono ?_
      rintro e w3 ⟨rfl, hb⟩
      have HB3 := Lib.hid (bel_trans HB2.out hb)
      clear hb T HB2
      go_wp2_with fail
      go_roundw
      case rel => exact ⟨v, rfl, H2, HB3⟩
      case measure => simp; omega
end Go.Proofs.YtkhddadhkkffnaaGreatDoor
