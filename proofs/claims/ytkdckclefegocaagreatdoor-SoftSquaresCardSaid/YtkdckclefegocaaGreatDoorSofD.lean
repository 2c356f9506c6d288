/-
  Contracts of soft's Add and Sub, of any floats. Conditions: floats are words.
-/
import Derived.Test.YtkdckclefegocaaGreatDoorSofC
namespace Go.Proofs.YtkdckclefegocaaGreatDoor
open Go.RowKit
set_option maxRecDepth 100000

theorem ng_parts {a b : Int} (ha : Word a) (hb : Word b) (h1 : fC a ≠ 4) (h2 : fC b ≠ 4) : b = fNg a ↔ (a % 9223372036854775808 = b % 9223372036854775808 ∧ fS a ≠ fS b) := by
  obtain ⟨a0, a1, a2, a3⟩ := kS_of ha h1
  obtain ⟨b0, b1, b2, b3⟩ := kS_of hb h2
  have na := fNg_is ha
  have nn := nan_iff ha
  have s1 := @sgn_iff a
  have s2 := @sgn_iff b
  obtain ⟨_, _⟩ := ha
  obtain ⟨_, _⟩ := hb
  have hS : fS a ≠ fS b ↔ (9223372036854775808 ≤ a ∧ b < 9223372036854775808) ∨ (a < 9223372036854775808 ∧ 9223372036854775808 ≤ b) := by
    cases h : fS a <;> cases h' : fS b <;> rw [h] at s1 <;> rw [h'] at s2 <;> simp at s1 s2 ⊢ <;> omega
  rw [hS]
  have n2 := na.2 (by omega)
  by_cases hs : 9223372036854775808 ≤ a
  · rw [n2.1 hs]
    omega
  · rw [n2.2 (by omega)]
    omega
theorem inf_low {a : Int} (ha : Word a) : fC a = 3 ↔ a % 9223372036854775808 = 9218868437227405312 := by
  have cls : fC a = if fE a = 2047 then (if fM a = 0 then 3 else 4) else if fE a = 0 then (if fM a = 0 then 0 else 1) else 2 := rfl
  have := low63 ha
  have := frac_bd (f := a)
  have := exp_bd (f := a)
  constructor
  · intro h
    rw [h] at cls
    split at cls
    · split at cls <;> omega
    · split at cls
      · split at cls <;> omega
      · omega
  · intro h
    rw [cls, if_pos (by omega), if_pos (by omega)]
theorem inf_neg {a b : Int} (ha : Word a) (hb : Word b) (h1 : fC a = 3) (h2 : fC b ≠ 4) : b = fNg a ↔ (fC b = 3 ∧ fS a ≠ fS b) := by
  rw [ng_parts ha hb (by omega) h2, inf_low hb]
  have := (inf_low ha).1 h1
  constructor
  · rintro ⟨h, k⟩; exact ⟨by omega, k⟩
  · rintro ⟨h, k⟩; exact ⟨by omega, k⟩
/-- Operands that are opposite to each other. -/
theorem sm_opposite {a b : Int} (ha : Word a) (hb : Word b) (h1 : fC a < 3) (h2 : fC b < 3) (h : b = fNg a) (md : Int) : smF md a b = sg (decide (md = 2)) ∧ smG md a b = 0 := by
  obtain ⟨k, s⟩ := (ng_parts ha hb (by omega) (by omega)).1 h
  have e := sum_is ha hb h1 h2
  have z : zI a b = 0 := by
    unfold zI fMg
    rw [k]
    unfold sv
    cases hA : fS a <;> cases hB : fS b <;> rw [hA, hB] at s <;> simp at s ⊢ <;> omega
  rw [z] at e
  have e0 : fV a + fV b = 0 := by rw [e]; exact Rat.zero_mkRat _
  unfold smF smG dG
  rw [if_pos e0, if_pos e0, if_neg s]
  exact ⟨rfl, rfl⟩

set_option maxHeartbeats 8000000 in
theorem sadd_any (a b md : Int) (ha : Word a) (hb : Word b) (w : World) :
    Calls Tryz.prog 7 #[.int .u64 a, .int .u64 b, .int .u8 md] w (RetF (saF md a b) (saG md a b) w) := by
  have hn : Word (fNg a) := fNg_word ha
  by_cases hN : fC a = 4 ∨ fC b = 4
  · have e1 : saF md a b = 9221120237041090560 := by unfold saF; rw [if_pos hN]
    have e2 : saG md a b = 0 := by unfold saG; rw [if_pos hN]
    rw [e1, e2]
    have t0 : (decide (fC a = 4) || decide (fC b = 4)) = true := by simpa using hN
    go_enter Tryz.func7, Tryz.ntmps7
    go_wp2_with fail
    refine (nan2 ha hb _ _ _).mono ?_
    rw [t0]
    rintro e w1 ⟨rfl, hb1⟩
    have HB := Lib.hid (bel_trans (bel_alloc (Below.refl _ _) _) hb1)
    clear hb1
    go_wp2_with fail
    refine (quiet_f _).mono ?_
    rintro e w2 ⟨rfl, rfl⟩
    go_wp2_with fail
    go_ret2
    exact ⟨rfl, HB.out⟩
  · have t0 : (decide (fC a = 4) || decide (fC b = 4)) = false := by simpa using hN
    have na : fC a ≠ 4 := fun h => hN (.inl h)
    have nb : fC b ≠ 4 := fun h => hN (.inr h)
    by_cases h1 : fC a = 3
    · have i1 : decide (fC a = 3) = true := decide_eq_true h1
      by_cases h2 : b = fNg a
      · have e1 : saF md a b = 9221120237041090560 := by unfold saF; rw [if_neg hN]; rw [inf_neg ha hb h1 nb] at h2; rw [if_pos ⟨h1, h2⟩]
        have e2 : saG md a b = 16 := by unfold saG; rw [if_neg hN]; rw [inf_neg ha hb h1 nb] at h2; rw [if_pos ⟨h1, h2⟩]
        rw [e1, e2]
        have t1 : (b == fNg a) = true := by rw [← h2]; simp
        have NG := Lib.hid (neg_f a ha)
        clear e1 e2 h2 hN
        generalize fNg a = g at *
        go_enter Tryz.func7, Tryz.ntmps7
        go_wp2_with fail
        refine (nan2 ha hb _ _ _).mono ?_
        rw [t0]
        rintro e w1 ⟨rfl, hb1⟩
        have HB := Lib.hid (bel_trans (bel_alloc (Below.refl _ _) _) hb1)
        clear hb1
        go_wp2_with fail
        refine (sinf_any a ha _).mono ?_
        rw [i1]
        rintro e w2 ⟨rfl, rfl⟩
        go_wp2_with fail
        refine (NG.out _).mono ?_
        rintro e w2 ⟨rfl, rfl⟩
        go_wp2_with fail
        refine (invalid_any _).mono ?_
        rintro e w2 ⟨rfl, rfl⟩
        go_wp2_with fail
        go_ret2
        exact ⟨rfl, HB.out⟩
      · have hx := h2
        rw [inf_neg ha hb h1 nb] at hx
        have hx' : ¬ (fC a = 3 ∧ fC b = 3 ∧ fS a ≠ fS b) := fun k => hx k.2
        have e1 : saF md a b = a := by unfold saF; rw [if_neg hN, if_neg hx', if_pos h1]
        have e2 : saG md a b = 0 := by unfold saG; rw [if_neg hN, if_neg hx', if_pos h1]
        rw [e1, e2]
        have t1 : (b == fNg a) = false := by simpa using h2
        have NG := Lib.hid (neg_f a ha)
        clear e1 e2 h2 hN hx hx'
        generalize fNg a = g at *
        go_enter Tryz.func7, Tryz.ntmps7
        go_wp2_with fail
        refine (nan2 ha hb _ _ _).mono ?_
        rw [t0]
        rintro e w1 ⟨rfl, hb1⟩
        have HB := Lib.hid (bel_trans (bel_alloc (Below.refl _ _) _) hb1)
        clear hb1
        go_wp2_with fail
        refine (sinf_any a ha _).mono ?_
        rw [i1]
        rintro e w2 ⟨rfl, rfl⟩
        go_wp2_with fail
        refine (NG.out _).mono ?_
        rintro e w2 ⟨rfl, rfl⟩
        go_wp2_with fail
        refine (sinf_any a ha _).mono ?_
        rw [i1]
        rintro e w2 ⟨rfl, rfl⟩
        go_wp2_with fail
        go_ret2
        exact ⟨rfl, HB.out⟩
    · have i1 : decide (fC a = 3) = false := decide_eq_false h1
      have hx' : ¬ (fC a = 3 ∧ fC b = 3 ∧ fS a ≠ fS b) := fun k => h1 k.1
      by_cases h2 : fC b = 3
      · have i2 : decide (fC b = 3) = true := decide_eq_true h2
        have e1 : saF md a b = b := by unfold saF; rw [if_neg hN, if_neg hx', if_neg h1, if_pos h2]
        have e2 : saG md a b = 0 := by unfold saG; rw [if_neg hN, if_neg hx', if_neg h1, if_pos h2]
        rw [e1, e2]
        clear e1 e2 hN hx'
        go_enter Tryz.func7, Tryz.ntmps7
        go_wp2_with fail
        refine (nan2 ha hb _ _ _).mono ?_
        rw [t0]
        rintro e w1 ⟨rfl, hb1⟩
        have HB := Lib.hid (bel_trans (bel_alloc (Below.refl _ _) _) hb1)
        clear hb1
        go_wp2_with fail
        refine (sinf_any a ha _).mono ?_
        rw [i1]
        rintro e w2 ⟨rfl, rfl⟩
        go_wp2_with fail
        refine (sinf_any a ha _).mono ?_
        rw [i1]
        rintro e w2 ⟨rfl, rfl⟩
        go_wp2_with fail
        refine (sinf_any b hb _).mono ?_
        rw [i2]
        rintro e w2 ⟨rfl, rfl⟩
        go_wp2_with fail
        go_ret2
        exact ⟨rfl, HB.out⟩
      · have i2 : decide (fC b = 3) = false := decide_eq_false h2
        have l1 : fC a < 3 := by have := cls_bd a; omega
        have l2 : fC b < 3 := by have := cls_bd b; omega
        have e1 : saF md a b = smF md a b := by unfold saF; rw [if_neg hN, if_neg hx', if_neg h1, if_neg h2]
        have e2 : saG md a b = smG md a b := by unfold saG; rw [if_neg hN, if_neg hx', if_neg h1, if_neg h2]
        rw [e1, e2]
        clear e1 e2 hN hx'
        by_cases h3 : b = fNg a
        · obtain ⟨o1, o2⟩ := sm_opposite ha hb l1 l2 h3 md
          rw [o1, o2]
          have t1 : (b == fNg a) = true := by rw [← h3]; simp
          have t2 : (md == 2) = decide (md = 2) := by rw [Bool.eq_iff_iff]; simp
          have NG := Lib.hid (neg_f a ha)
          clear o1 o2 h3
          generalize fNg a = g at *
          generalize decide (md = 2) = dn at *
          go_enter Tryz.func7, Tryz.ntmps7
          go_wp2_with fail
          refine (nan2 ha hb _ _ _).mono ?_
          rw [t0]
          rintro e w1 ⟨rfl, hb1⟩
          have HB := Lib.hid (bel_trans (bel_alloc (Below.refl _ _) _) hb1)
          clear hb1
          go_wp2_with fail
          refine (sinf_any a ha _).mono ?_
          rw [i1]
          rintro e w2 ⟨rfl, rfl⟩
          go_wp2_with fail
          refine (sinf_any a ha _).mono ?_
          rw [i1]
          rintro e w2 ⟨rfl, rfl⟩
          go_wp2_with fail
          refine (sinf_any b hb _).mono ?_
          rw [i2]
          rintro e w2 ⟨rfl, rfl⟩
          go_wp2_with fail
          refine (NG.out _).mono ?_
          rintro e w2 ⟨rfl, rfl⟩
          go_wp2_with fail
          refine (sz_any dn _).mono ?_
          rintro e w2 ⟨rfl, rfl⟩
          go_wp2_with fail
          go_ret2
          exact ⟨rfl, HB.out⟩
        · have AF := Lib.hid (addFin_any a b md ha hb l1 l2 h3)
          have t1 : (b == fNg a) = false := by simpa using h3
          have NG := Lib.hid (neg_f a ha)
          clear h3
          generalize fNg a = g at *
          go_enter Tryz.func7, Tryz.ntmps7
          go_wp2_with fail
          refine (nan2 ha hb _ _ _).mono ?_
          rw [t0]
          rintro e w1 ⟨rfl, hb1⟩
          have HB := Lib.hid (bel_trans (bel_alloc (Below.refl _ _) _) hb1)
          clear hb1
          go_wp2_with fail
          refine (sinf_any a ha _).mono ?_
          rw [i1]
          rintro e w2 ⟨rfl, rfl⟩
          go_wp2_with fail
          refine (sinf_any a ha _).mono ?_
          rw [i1]
          rintro e w2 ⟨rfl, rfl⟩
          go_wp2_with fail
          refine (sinf_any b hb _).mono ?_
          rw [i2]
          rintro e w2 ⟨rfl, rfl⟩
          go_wp2_with fail
          refine (NG.out _).mono ?_
          rintro e w2 ⟨rfl, rfl⟩
          go_wp2_with fail
          refine (AF.out _).mono ?_
          rintro e w2 ⟨rfl, hb2⟩
          go_wp2_with fail
          go_ret2
          exact ⟨rfl, bel_trans HB.out hb2⟩

set_option maxHeartbeats 2000000 in
theorem ssub_any (a b md : Int) (ha : Word a) (hb : Word b) (w : World) :
    Calls Tryz.prog 18 #[.int .u64 a, .int .u64 b, .int .u8 md] w (RetF (saF md a (fNg b)) (saG md a (fNg b)) w) := by
  go_enter Tryz.func18, Tryz.ntmps18
  go_wp2_with fail
  refine (neg_f b hb _).mono ?_
  rintro e w2 ⟨rfl, rfl⟩
  go_wp2_with fail
  refine (sadd_any a _ md ha (fNg_word hb) _).mono ?_
  rintro e w2 ⟨rfl, hb2⟩
  go_wp2_with fail
  go_ret2
  exact ⟨rfl, hb2⟩
end Go.Proofs.YtkdckclefegocaaGreatDoor
