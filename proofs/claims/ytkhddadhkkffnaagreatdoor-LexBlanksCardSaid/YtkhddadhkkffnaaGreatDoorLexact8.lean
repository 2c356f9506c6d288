/-
  The walk of DeciExact: whatever digits and whatever power are handed in, the law answers true. Conditions: the power is an int; the listed tables stand.
-/
import Derived.Test.YtkhddadhkkffnaaGreatDoorLback8
namespace Go.Proofs.YtkhddadhkkffnaaGreatDoor
open Go.RowKit
set_option maxRecDepth 100000

set_option maxHeartbeats 4000000 in
/-- A text that is too long is no number. -/
theorem nparse_long (s : ByteArray) (w : World) (hs : 20000 < s.size) : Calls Tryz.prog 109 #[.string s] w fun e w' => e = .returned (.tuple #[.slice none 0 0, .int .i64 20]) ∧ w = w' := by
  have h1 : (20000 : Int) < (s.size : Int) := by omega
  go_enter Tryz.func109, Tryz.ntmps109
  go_wp2_with fail
  go_ret2
  exact ⟨rfl, rfl⟩
theorem tpow_any (n : Int) (hn : n ≤ 3000) (w : World) :
    Calls Tryz.prog 141 #[.int .u64 10, .int .i64 n] w (RetShlV (((10 : Nat) : Int) ^ (max n 0).toNat) 375 w) := by
  have hk : blen (((10 : Nat)) : Int) = ((4 : Nat) : Int) := by decide +kernel
  have lt : ((10 : Nat) : Int) ^ (max n 0).toNat < 2 ^ 12000 := pow_fits (by decide) (by omega)
  have nn : 0 ≤ ((10 : Nat) : Int) ^ (max n 0).toNat := Int.pow_nonneg (by omega)
  have bl : blen (((10 : Nat) : Int) ^ (max n 0).toNat) ≤ 12000 := blen_le2 nn lt
  have P := npow_main ((10 : Nat) : Int) n 10 (max n 0).toNat 4 rfl (by omega) (by omega) (by omega) hk (by
    rcases Nat.eq_zero_or_pos (max n 0).toNat with h | h
    · exact .inl h
    · refine .inr ⟨h, ?_⟩
      have : 4 ≤ 65535 / (max n 0).toNat := (Nat.le_div_iff_mul_le h).2 (by omega)
      omega) w
  rw [powV, powE, if_pos (by omega), if_pos (by omega)] at P
  refine P.mono fun e w1 r => ?_
  obtain ⟨ws, A, m, c, i, hn', rfl, hc, hr, hb⟩ := r
  exact ⟨_, ⟨A, m, c, ws, rfl, hn', hc, hr, i, by rw [← hn']; exact i.le lt⟩, rfl, hb⟩
theorem dF_nr {p q : Int} (hp : 0 ≤ p) (hq : 0 < q) : dF 0 (rv false p q) = nrF p q := by
  rcases Int.lt_or_eq_of_le hp with c | c
  · obtain ⟨e1, e2, e3⟩ := nX_low (s := false) c hq
    have hne : ¬ rv false p q = 0 := by rw [rv_eq_zero hp (Int.le_of_lt hq)]; omega
    unfold dF nrF
    rw [if_neg hne, if_neg (by omega), e1, e2, e3]
  · subst c
    unfold dF nrF
    rw [if_pos (rv_zero (.inl rfl)), if_pos (.inl rfl)]
theorem near_le (l : List UInt8) (e : Int) (h : l.all isDig = true) : 0 ≤ nearV l e ∧ nearV l e ≤ 9218868437227405312 := by
  unfold nearV nrF
  split
  · decide
  · have := rMag_bd (md := 0) (neg := false) (s := sX (dval l * 10 ^ (max e 0).toNat) (10 ^ (max (-e) 0).toNat)) (nX_nn (p := dval l * 10 ^ (max e 0).toNat) (q := 10 ^ (max (-e) 0).toNat) (Int.mul_nonneg (dval_bd h).1 (Int.pow_nonneg (by decide))) (Int.pow_pos (by decide)))
    unfold rF
    show 0 ≤ rMag _ _ _ _ + 0 ∧ rMag _ _ _ _ + 0 ≤ _
    omega
theorem cls_inf {f : Int} (h0 : 0 ≤ f) (h1 : f ≤ 9218868437227405312) : fC f = 3 ↔ f = 9218868437227405312 := by
  constructor
  · intro h
    unfold fC at h
    split at h
    · rename_i he
      unfold fE at he
      omega
    · split at h
      · split at h <;> omega
      · omega
  · rintro rfl
    decide +kernel
/-- The text of a power. -/
theorem ptext {p : Int} {l : List UInt8} (h : IsRText (intR p) l) (hp : -400 ≤ p) (hp' : p ≤ 400) : rxOk l = true ∧ rxV l = p ∧ l.length ≤ 4 ∧ asc l = true := by
  obtain ⟨l1, l2, a, -, e⟩ := h
  obtain ⟨i1, i2, i3⟩ := intR_parts p
  rw [i1, i3, if_pos rfl, List.append_nil] at e
  rw [i2] at a
  have dg : digB l1 = true := digB_of a.dig a.ne
  have len : l1.length ≤ 3 := by
    by_cases h0 : ((p.natAbs : Nat) : Int) = 0
    · rw [a.zero h0]; decide
    · cases hl : l1 with
      | nil => simp
      | cons c m =>
        have hd := a.head h0 c (by rw [hl]; rfl)
        have d := dval_low (c := c) (m := m) (by rw [← hl]; exact a.dig) hd
        rw [← hl, a.val] at d
        have : m.length ≤ 2 := by
          rcases Nat.lt_or_ge m.length 3 with x | x
          · omega
          · exfalso
            have := pow10_mono 3 m.length x
            rw [show (10 : Int) ^ 3 = 1000 by decide] at this
            omega
        simp only [List.length_cons]
        omega
  by_cases hn : p < 0
  · rw [decide_eq_true hn, if_pos rfl] at e
    subst e
    obtain ⟨r1, r2⟩ := rx_neg dg
    refine ⟨r1, ?_, ?_, asc_cons (by decide) (asc_dig a.dig)⟩
    · show rxV (45 :: l1) = p
      rw [r2, a.val]
      omega
    · show (45 :: l1).length ≤ 4
      simp only [List.length_cons]
      omega
  · rw [decide_eq_false hn, if_neg (by decide), List.nil_append] at e
    subst e
    obtain ⟨r1, r2⟩ := rx_pos dg
    refine ⟨r1, ?_, by omega, asc_dig a.dig⟩
    rw [r2, a.val]
    omega
end Go.Proofs.YtkhddadhkkffnaaGreatDoor
