/-
  Contracts of lex's numbers, and of the token that a text begins with. Conditions: the listed tables stand; texts of at most 1048576 bytes.
-/
import Derived.Test.YtkhddadhkkffnaaGreatDoorLxf
import Derived.Test.YtkhddadhkkffnaaGreatDoorLexp
import Derived.Lib.AtoiErrMem
namespace Go.Proofs.YtkhddadhkkffnaaGreatDoor
open Go.RowKit Go.Maps
set_option maxRecDepth 100000

/-- What spells an integer of 32 bits. -/
theorem pu_dig (M : Nat) (hM : M ≤ 4294967295) : ∀ (l : List UInt8) (a : Nat), a ≤ M → l.all isDig = true → Lib.parseUintM M a l = if (l.foldl (fun n c => n * 10 + ((c.toNat : Int) - 48)) (a : Int)) ≤ M then .ok (l.foldl (fun n c => n * 10 + ((c.toNat : Int) - 48)) (a : Int)).toNat else .range
  | [], a, ha, _ => by
    show Lib.NumEnd.ok a = if ((a : Int)) ≤ M then Lib.NumEnd.ok ((a : Int).toNat) else .range
    rw [if_pos (by omega), Int.toNat_natCast]
  | c :: l, a, ha, h => by
    rw [List.all_cons, Bool.and_eq_true] at h
    have h1 := h.1
    unfold isDig at h1
    simp only [Bool.and_eq_true, decide_eq_true_eq] at h1
    have e : ((a : Int)) * 10 + ((c.toNat : Int) - 48) = ((a * 10 + (c.toNat - 48) : Nat) : Int) := by omega
    rw [List.foldl_cons, e]
    unfold Lib.parseUintM
    rw [if_pos h1, if_neg (by omega)]
    by_cases hb : M < a * 10 + (c.toNat - 48)
    · rw [if_pos hb, if_neg]
      have mono : ∀ (l : List UInt8) (x : Int), 0 ≤ x → l.all isDig = true → x ≤ l.foldl (fun n c => n * 10 + ((c.toNat : Int) - 48)) x := by
        intro l
        induction l with
        | nil => intro x _ _; exact Int.le_refl _
        | cons d l ih =>
          intro x hx hd
          rw [List.all_cons, Bool.and_eq_true] at hd
          have h2 := hd.1
          unfold isDig at h2
          simp only [Bool.and_eq_true, decide_eq_true_eq] at h2
          rw [List.foldl_cons]
          exact Int.le_trans (by omega) (ih _ (by omega) hd.2)
      have := mono l ((a * 10 + (c.toNat - 48) : Nat) : Int) (by omega) h.2
      omega
    · rw [if_neg hb]
      exact pu_dig M hM l _ (by omega) h.2
theorem pi_dig {l : List UInt8} (h : digB l = true) : Lib.parseIntB 32 l = if dval l ≤ 2147483647 then .ok (dval l) else .range := by
  obtain ⟨ha, hn⟩ := digB_all h
  have hv := (dval_bd ha).1
  cases l with
  | nil => exact absurd rfl hn
  | cons c l =>
    have h1 := ha
    rw [List.all_cons, Bool.and_eq_true] at h1
    have h1 := h1.1
    unfold isDig at h1
    simp only [Bool.and_eq_true, decide_eq_true_eq] at h1
    have e : Lib.parseUintB 32 (c :: l) = if dval (c :: l) ≤ 4294967295 then .ok (dval (c :: l)).toNat else .range := by
      unfold Lib.parseUintB
      rw [if_neg hn, show 2 ^ 32 - 1 = 4294967295 from rfl, pu_dig 4294967295 (by decide) _ 0 (by decide) ha]
      rfl
    unfold Lib.parseIntB
    dsimp only
    rw [if_neg (by omega : ¬ (c.toNat = 43 ∨ c.toNat = 45)), e]
    generalize dval (c :: l) = v at *
    by_cases h2 : v ≤ 2147483647
    · rw [if_pos (by omega), if_pos h2]
      dsimp only
      rw [if_neg (by rw [show 2 ^ (32 - 1) = 2147483648 from rfl]; omega), if_neg (by omega), if_neg (by omega), Int.toNat_of_nonneg hv]
    · rw [if_neg h2]
      by_cases h3 : v ≤ 4294967295
      · rw [if_pos h3]
        dsimp only
        rw [if_pos (by rw [show 2 ^ (32 - 1) = 2147483648 from rfl]; omega)]
      · rw [if_neg h3]

def nmE (l : List UInt8) (b : Bool) : Int := if 400 < l.length then 91 else if b then flE l else if dval l ≤ 2147483647 then 0 else 92
def nmT (l : List UInt8) (b : Bool) : Tk := if b then flT l else ⟨2, 0, [], dval l, 0⟩
set_option maxHeartbeats 800000 in
theorem xNumT_any (s : ByteArray) (b : Bool) (w : World) (hs : s.size ≤ 1048576) (ha : Ascii s) (hd : b = false → digB s.data.toList = true) (hE : Env9 w) :
    Calls Tryz.prog 35 #[.string s, .bool b] w (RetTok (nmE s.data.toList b) (nmT s.data.toList b) w) := by
  by_cases h : 400 < s.size
  · have h' : (400 : Int) < (s.size : Int) := by omega
    have e : nmE s.data.toList b = 91 := by unfold nmE; rw [← Lib.size_eq, if_pos h]
    rw [e]
    go_enter Tryz.func35, Tryz.ntmps35
    go_wp2_with fail
    refine bodyPost_ret (by simp [results, Tryz.results35, go_sem]; (try rfl)) rfl ⟨noT, rfl, fun h => by omega, ?_⟩
    exact bel_alloc (Below.refl _ _) _
  · have h' : ¬ (400 : Int) < (s.size : Int) := by omega
    cases b
    · have hd' := hd rfl
      have e : nmE s.data.toList false = if dval s.data.toList ≤ 2147483647 then 0 else 92 := by unfold nmE; rw [← Lib.size_eq, if_neg h, if_neg (by decide)]
      have eT : Hid (nmT s.data.toList false = ⟨2, 0, [], dval s.data.toList, 0⟩) := rfl
      have PI := pi_dig hd'
      have vb := (dval_bd (digB_all hd').1).1
      rw [e]
      by_cases hv : dval s.data.toList ≤ 2147483647
      · rw [if_pos hv] at PI ⊢
        have C := Lib.hid fun w => sh_strconv_ParseInt_10_at32_ok s (by omega) _ PI w
        clear PI e ha hd hd' h
        generalize dval s.data.toList = v at *
        generalize nmT s.data.toList false = T at *
        have ov : IntKind.i32.wrap v = v := by rw [IntKind.wrap_i32]; omega
        go_enter Tryz.func35, Tryz.ntmps35
        go_wp2_with fail
        refine (C.out _).mono ?_
        rintro e w1 ⟨rfl, hw⟩
        have hb : Below (w.alloc (.cells #[.int .u8 0, .int .i64 0, .string ⟨#[]⟩, .int .i32 0, .int .u64 0] 34)).heap.size (w.alloc (.cells #[.int .u8 0, .int .i64 0, .string ⟨#[]⟩, .int .i32 0, .int .u64 0] 34)) w1 := by
          rcases hw with rfl | ⟨t, rfl⟩
          · exact Below.refl _ _
          · exact Lib.bytesWorld_below _ _ _
        have K := Blk.made hb
        have HB := Lib.hid (bel_trans (bel_alloc (Below.refl _ _) _) hb)
        obtain ⟨⟨c0, c1, c2, c3, c4⟩, f0, f1, f2, f3, f4⟩ := K.five
        clear hb hw C
        go_wp2_with fail
        have K2 := K.put5 (.int .u8 2) (.int .i64 0) (.string ⟨#[]⟩) (.int .i32 v) (.int .u64 0)
        have HB2 := Lib.hid (bel_put5 HB.out (Nat.le_refl _) (.int .u8 2) (.int .i64 0) (.string ⟨#[]⟩) (.int .i32 v) (.int .u64 0))
        unfold wput5 at K2 HB2
        obtain ⟨⟨q0, q1, q2, q3, q4⟩, -⟩ := K2.five
        exact bodyPost_ret (by simp [results, Tryz.results35, go_sem, q0, q1, q2, q3, q4]; (try rfl)) rfl ⟨⟨2, 0, [], v, 0⟩, rfl, fun _ => eT.out.symm, HB2.out⟩
      · rw [if_neg hv] at PI ⊢
        obtain ⟨ev, h1, h2⟩ := (hE.below (bel_alloc (Below.refl _ _) (.cells #[.int .u8 0, .int .i64 0, .string ⟨#[]⟩, .int .i32 0, .int .u64 0] 34))).rng
        have C := Lib.hid (sh_strconv_ParseInt_10_at32_range s (by omega) PI ev _ h1 h2)
        clear PI e ha hd hd' h h1 h2
        go_enter Tryz.func35, Tryz.ntmps35
        go_wp2_with fail
        refine C.out.mono ?_
        rintro e w1 ⟨n, rfl, -, -, hb⟩
        have K := Blk.made hb
        have HB := Lib.hid (bel_trans (bel_alloc (Below.refl _ _) _) hb)
        obtain ⟨⟨c0, c1, c2, c3, c4⟩, f0, f1, f2, f3, f4⟩ := K.five
        clear hb C
        go_wp2_with fail
        have K2 := K.put5 (.int .u8 0) (.int .i64 0) (.string ⟨#[]⟩) (.int .i32 0) (.int .u64 0)
        have HB2 := Lib.hid (bel_put5 HB.out (Nat.le_refl _) (.int .u8 0) (.int .i64 0) (.string ⟨#[]⟩) (.int .i32 0) (.int .u64 0))
        unfold wput5 at K2 HB2
        obtain ⟨⟨q0, q1, q2, q3, q4⟩, -⟩ := K2.five
        exact bodyPost_ret (by simp [results, Tryz.results35, go_sem, q0, q1, q2, q3, q4]; (try rfl)) rfl ⟨noT, rfl, fun h => by omega, HB2.out⟩
    · have e : nmE s.data.toList true = flE s.data.toList := by unfold nmE; rw [← Lib.size_eq, if_neg h, if_pos rfl]
      have eT : nmT s.data.toList true = flT s.data.toList := rfl
      rw [e, eT]
      have C := Lib.hid (xFloatT_any s (w.alloc (.cells #[.int .u8 0, .int .i64 0, .string ⟨#[]⟩, .int .i32 0, .int .u64 0] 34)) hs ha (hE.env.alloc _))
      clear e eT ha hd h
      generalize flE s.data.toList = E at *
      generalize flT s.data.toList = T at *
      go_enter Tryz.func35, Tryz.ntmps35
      go_wp2_with fail
      refine C.out.mono ?_
      rintro e w1 ⟨⟨k, a, x, n, f⟩, rfl, hT, hb⟩
      have HT := Lib.hid hT
      have K := Blk.made hb
      have HB := Lib.hid (bel_trans (bel_alloc (Below.refl _ _) _) hb)
      obtain ⟨⟨c0, c1, c2, c3, c4⟩, f0, f1, f2, f3, f4⟩ := K.five
      clear hb C hT
      unfold tkA
      dsimp only
      go_wp2_with fail
      have K2 := K.put5 (.int .u8 k) (.int .i64 a) (.string ⟨x.toArray⟩) (.int .i32 n) (.int .u64 f)
      have HB2 := Lib.hid (bel_put5 HB.out (Nat.le_refl _) (.int .u8 k) (.int .i64 a) (.string ⟨x.toArray⟩) (.int .i32 n) (.int .u64 f))
      unfold wput5 at K2 HB2
      obtain ⟨⟨q0, q1, q2, q3, q4⟩, -⟩ := K2.five
      exact bodyPost_ret (by simp [results, Tryz.results35, go_sem, q0, q1, q2, q3, q4]; (try rfl)) rfl ⟨⟨k, a, x, n, f⟩, rfl, HT.out, HB2.out⟩
end Go.Proofs.YtkhddadhkkffnaaGreatDoor
