/-
  The mathematics of soft's sums, differences and products: what an integer times a power of two is rounded to, and that what is lost of the lesser operand changes nothing. No function of the program.
-/
import Derived.Test.YtkdckclefegocaaGreatDoorM5
namespace Go.Proofs.YtkdckclefegocaaGreatDoor
open Go.RowKit
set_option maxRecDepth 100000

/-- The size of a finite float, in units of the least one. -/
def fMg (f : Int) : Int := gK (f % 9223372036854775808)
theorem fMg_nn (f : Int) : 0 ≤ fMg f := gK_nn (by omega)
theorem fMg_is {f : Int} (hf : Word f) (hc : fC f < 3) : fX f * 2 ^ (fY f + 1074).toNat = fMg f := by
  have e1 := low63 hf
  have hM := frac_bd (f := f)
  have hE := exp_bd (f := f)
  have k1 : f % 9223372036854775808 / 4503599627370496 = fE f := by rw [← e1]; omega
  have k2 : f % 9223372036854775808 % 4503599627370496 = fM f := by rw [← e1]; omega
  unfold fMg gK
  rw [k1, k2]
  unfold gZ fX fY
  have hc2 : fC f = 0 ∨ fC f = 1 ∨ fC f = 2 := by have := cls_bd f; omega
  have cls : fC f = if fE f = 2047 then (if fM f = 0 then 3 else 4) else if fE f = 0 then (if fM f = 0 then 0 else 1) else 2 := rfl
  rcases hc2 with h | h | h
  · rw [h] at cls ⊢
    have hz : fE f = 0 ∧ fM f = 0 := by
      split at cls
      · split at cls <;> omega
      · split at cls
        · split at cls
          · exact ⟨by assumption, by assumption⟩
          · omega
        · omega
    rw [if_neg (by decide), if_neg (by decide), if_pos hz.1, hz.2, Int.zero_mul]
  · rw [h] at cls ⊢
    have hz : fE f = 0 := by
      split at cls
      · split at cls <;> omega
      · split at cls
        · assumption
        · omega
    rw [if_neg (by decide), if_pos rfl, if_neg (by decide), if_pos rfl, if_pos hz, show ((-1074 : Int) + 1074).toNat = 0 by decide, Int.pow_zero, Int.mul_one]
  · rw [h] at cls ⊢
    have hz : ¬ fE f = 0 := by
      intro h0
      rw [if_neg (by omega), if_pos h0] at cls
      split at cls <;> omega
    simp only [if_true, if_neg hz]
    rw [show fE f - 1075 + 1074 = fE f - 1 by omega]
theorem fMg_zero {f : Int} (hf : Word f) (hc : fC f < 3) : fMg f = 0 ↔ fX f = 0 := by
  rw [← fMg_is hf hc]
  have := pow_pos' (fY f + 1074).toNat
  constructor
  · intro h
    rcases Int.mul_eq_zero.1 h with h | h
    · exact h
    · omega
  · intro h
    rw [h, Int.zero_mul]
theorem fX_bd {f : Int} : 0 ≤ fX f ∧ fX f < 9007199254740992 := by
  have := frac_bd (f := f)
  unfold fX
  split
  · omega
  · split <;> omega

theorem mk_add {a b : Int} {d : Nat} (hd : d ≠ 0) : mkRat a d + mkRat b d = mkRat (a + b) d := by
  rw [Rat.mkRat_add_mkRat _ _ hd hd, ← Int.add_mul, Rat.mkRat_mul_right hd]
/-- The sum of two finite floats, in units of the least one. -/
def zI (a b : Int) : Int := sv (fS a) (fMg a) + sv (fS b) (fMg b)
theorem sum_is {a b : Int} (ha : Word a) (hb : Word b) (h1 : fC a < 3) (h2 : fC b < 3) : fV a + fV b = mkRat (zI a b) (dB 1074) := by
  rw [fV_key ha h1, fV_key hb h2]
  unfold rv
  rw [Int.toNat_natCast, mk_add (dB_ne _)]
  rfl
theorem mk_zero {z : Int} : mkRat z (dB 1074) = 0 ↔ z = 0 := by
  constructor
  · intro h
    exact (Rat.mkRat_eq_zero (dB_ne _)).1 h
  · intro h
    subst h
    exact Rat.zero_mkRat _
theorem sv_natAbs (z : Int) : sv (decide (z < 0)) (z.natAbs : Int) = z := by
  unfold sv
  by_cases h : z < 0
  · simp [h]; omega
  · simp [h]; omega
theorem dF_int {z : Int} (hz : z ≠ 0) (md : Int) : dF md (mkRat z (dB 1074)) = rF md (decide (z < 0)) (2 * (z.natAbs : Int)) false ∧ dG md (mkRat z (dB 1074)) = rG md (decide (z < 0)) (2 * (z.natAbs : Int)) false := by
  have hD : (0 : Int) < (dB 1074 : Nat) := by rw [dB_int]; exact pow_pos' _
  obtain ⟨l1, l2, l3⟩ := nX_low (s := decide (z < 0)) (p := (z.natAbs : Int)) (q := (dB 1074 : Nat)) (by omega) hD
  rw [nX_over.1] at l2
  rw [nX_over.2] at l3
  have e : rv (decide (z < 0)) (z.natAbs : Int) (dB 1074 : Nat) = mkRat z (dB 1074) := by
    unfold rv
    rw [sv_natAbs, Int.toNat_natCast]
  rw [e] at l1 l2 l3
  have hne : ¬ mkRat z (dB 1074) = 0 := fun h => hz (mk_zero.1 h)
  unfold dF dG
  rw [if_neg hne, if_neg hne, l1, l2, l3]
  exact ⟨rfl, rfl⟩

/-- What is exact is rounded as what it is. -/
theorem rN_exact {m N : Int} {p q : Nat} (h : N * 2 ^ q = m * 2 ^ p) (r : Bool) : rN m p q = N ∧ rS m p q r = r := by
  have hq := pow_pos' q
  unfold rN rS
  rw [← h]
  refine ⟨Int.mul_ediv_cancel _ (Int.ne_of_gt hq), ?_⟩
  rw [Int.mul_emod_left]
  simp
theorem eC_small {e : Int} (h0 : -5000 ≤ e) (h1 : e ≤ 5000) : eC e = e := by unfold eC; omega
theorem eP_eQ (e : Int) : (eP e : Int) - eQ e = e + 1075 := by unfold eP eQ; omega

/-- What is left of the lesser operand. -/
def pA (Y d : Int) : Int := shlV2 Y d.toNat / 2 ^ (-d).toNat
def lA (Y d : Int) : Bool := decide (shlV2 Y d.toNat % 2 ^ (-d).toNat ≠ 0)
theorem shl_in {Y : Int} {k : Nat} (h0 : 0 ≤ Y) (h1 : Y < 9007199254740992) (hk : k ≤ 75) : shlV2 Y k = Y * 2 ^ k := by
  unfold shlV2
  refine Int.emod_eq_of_lt (Int.mul_nonneg h0 (Int.le_of_lt (pow_pos' _))) ?_
  have h2 : Y * 2 ^ k ≤ 9007199254740991 * 2 ^ k := Int.mul_le_mul_of_nonneg_right (by omega) (Int.le_of_lt (pow_pos' _))
  have h3 : (9007199254740991 : Int) * 2 ^ k ≤ 9007199254740991 * 2 ^ 75 := Int.mul_le_mul_of_nonneg_left (pow_mono k 75 hk) (by decide)
  have e : (9007199254740991 : Int) * 2 ^ 75 < 340282366920938463463374607431768211456 := by decide
  omega
theorem pA_nought (d : Int) : pA 0 d = 0 ∧ lA 0 d = false := by
  unfold pA lA shlV2
  simp
theorem pA_up {Y d : Int} (h0 : 0 ≤ Y) (h1 : Y < 9007199254740992) (hd : d ≤ 64) (hd0 : 0 ≤ d) : pA Y d = Y * 2 ^ d.toNat ∧ lA Y d = false := by
  unfold pA lA
  rw [show (-d).toNat = 0 by omega, shl_in h0 h1 (k := d.toNat) (by omega)]
  simp [Int.emod_one]
theorem pA_down {Y d : Int} (h0 : 0 ≤ Y) (h1 : Y < 9007199254740992) (hd : d < 0) : pA Y d = Y / 2 ^ (-d).toNat ∧ lA Y d = decide (Y % 2 ^ (-d).toNat ≠ 0) := by
  unfold pA lA
  rw [show d.toNat = 0 by omega, shl_in h0 h1 (by omega), Int.pow_zero, Int.mul_one]
  exact ⟨rfl, rfl⟩
/-- What is kept is exact, or it is a quotient. -/
theorem pA_cases {Y d : Int} (h0 : 0 ≤ Y) (h1 : Y < 9007199254740992) (hd : d ≤ 64 ∨ Y = 0) :
    (lA Y d = false ∧ pA Y d * 2 ^ (-d).toNat = Y * 2 ^ d.toNat) ∨ (lA Y d = true ∧ d < 0 ∧ pA Y d = Y / 2 ^ (-d).toNat ∧ Y % 2 ^ (-d).toNat ≠ 0) := by
  by_cases hY : Y = 0
  · subst hY
    obtain ⟨a, b⟩ := pA_nought d
    rw [a, b]
    exact .inl ⟨rfl, by simp⟩
  · by_cases h : d < 0
    · obtain ⟨a, b⟩ := pA_down h0 h1 h
      by_cases hm : Y % 2 ^ (-d).toNat = 0
      · refine .inl ⟨by rw [b]; simp [hm], ?_⟩
        rw [a, show d.toNat = 0 by omega, Int.pow_zero, Int.mul_one]
        exact Int.ediv_mul_cancel (Int.dvd_of_emod_eq_zero hm)
      · exact .inr ⟨by rw [b]; simp [hm], h, a, hm⟩
    · obtain ⟨a, b⟩ := pA_up (d := d) h0 h1 (by omega) (by omega)
      refine .inl ⟨b, ?_⟩
      rw [a, show (-d).toNat = 0 by omega, Int.pow_zero, Int.mul_one]
theorem pA_bd {Y d : Int} (h0 : 0 ≤ Y) (h1 : Y < 9007199254740992) (hd : d ≤ 64 ∨ Y = 0) : 0 ≤ pA Y d ∧ pA Y d < 9007199254740992 * 18446744073709551616 := by
  by_cases hY : Y = 0
  · subst hY
    rw [(pA_nought d).1]
    decide
  · by_cases h : d < 0
    · rw [(pA_down h0 h1 h).1]
      have hp := pow_pos' (-d).toNat
      refine ⟨Int.ediv_nonneg h0 (Int.le_of_lt hp), ?_⟩
      have := Int.ediv_le_self (2 ^ (-d).toNat) h0
      omega
    · rw [(pA_up (d := d) h0 h1 (by omega) (by omega)).1]
      have hp := pow_pos' d.toNat
      refine ⟨Int.mul_nonneg h0 (Int.le_of_lt hp), ?_⟩
      have k1 : Y * 2 ^ d.toNat < 9007199254740992 * 2 ^ d.toNat := Int.mul_lt_mul_of_pos_right h1 hp
      have k2 : (9007199254740992 : Int) * 2 ^ d.toNat ≤ 9007199254740992 * 2 ^ 64 := Int.mul_le_mul_of_nonneg_left (pow_mono _ 64 (by omega)) (by decide)
      have e : (2 : Int) ^ 64 = 18446744073709551616 := by decide
      rw [e] at k2
      omega

theorem add_scaled {X Y e f P : Int} (h : P * 2 ^ (-(f - (e - 64))).toNat = Y * 2 ^ (f - (e - 64)).toNat) (he0 : -1074 ≤ e) (hf0 : -1074 ≤ f) :
    P * 2 ^ eP (e - 64) = 2 * (Y * 2 ^ (f + 1074).toNat) * 2 ^ eQ (e - 64) ∧ X * 18446744073709551616 * 2 ^ eP (e - 64) = 2 * (X * 2 ^ (e + 1074).toNat) * 2 ^ eQ (e - 64) := by
  have hpq := eP_eQ (e - 64)
  have tw : ∀ (a : Int) (n : Nat), 2 * (a * 2 ^ n) = a * 2 ^ (n + 1) := fun a n => by
    rw [Int.pow_succ, Int.mul_comm 2, Int.mul_assoc]
  constructor
  · have hk := pow_pos' (-(f - (e - 64))).toNat
    refine Int.eq_of_mul_eq_mul_right (Int.ne_of_gt hk) ?_
    rw [Int.mul_right_comm, h, tw, Int.mul_assoc, Int.mul_assoc, Int.mul_assoc, ← Int.pow_add, ← Int.pow_add, ← Int.pow_add]
    congr 2
    omega
  · rw [tw, show (18446744073709551616 : Int) = 2 ^ 64 by decide, Int.mul_assoc, Int.mul_assoc, ← Int.pow_add, ← Int.pow_add]
    congr 2
    omega

theorem blen_big {S : Int} (h : 9007199254740992 ≤ S) : 54 ≤ blen S := by
  obtain ⟨j, e1, e2, e3⟩ := blen_at (a := S) (by omega)
  have : (2 : Int) ^ 53 < 2 ^ (j + 1) := by
    have e : (2 : Int) ^ 53 = 9007199254740992 := by decide
    omega
  have := pow_lt_of this
  omega

/-- A sum, or a difference, of which a rest is lost. -/
theorem low_lost {N M S R : Int} {k t : Nat} (hN : N = M * 2 ^ t) (hM : M = 2 ^ k * S + R) (h0 : 0 < R) (h1 : R < 2 ^ k) (hS : 9007199254740992 ≤ S) (md : Int) (neg : Bool) :
    rF md neg (rN S (k + t) 0) (rS S (k + t) 0 true) = rF md neg N false ∧ rG md neg (rN S (k + t) 0) (rS S (k + t) 0 true) = rG md neg N false := by
  have hk := pow_pos' k
  have ht := pow_pos' t
  have u : M / 2 ^ k = S ∧ M % 2 ^ k = R := (Int.ediv_emod_unique hk).2 ⟨by omega, by omega, h1⟩
  have d1 : N / 2 ^ (k + t) = S := by
    rw [hN, Int.pow_add, Int.mul_ediv_mul_of_pos_left _ _ ht, u.1]
  have d2 : N % 2 ^ (k + t) ≠ 0 := by
    rw [hN, Int.pow_add, Int.mul_comm M, Int.mul_comm (2 ^ k), Int.mul_emod_mul_of_pos _ _ ht, u.2]
    exact Int.ne_of_gt (Int.mul_pos ht h0)
  have hN0 : 0 ≤ N := by
    rw [hN]
    refine Int.mul_nonneg ?_ (Int.le_of_lt ht)
    rw [hM]
    have := Int.mul_nonneg (Int.le_of_lt hk) (show 0 ≤ S by omega)
    omega
  obtain ⟨a1, a2, a3, a4⟩ := same_low (R := true) (S := false) d1 ⟨fun _ => rfl, fun _ => .inl d2⟩ hN0 (blen_big hS)
  have hn : rN S (k + t) 0 = S * 2 ^ (k + t) := by unfold rN; simp
  have hs : rS S (k + t) 0 true = true := by unfold rS; simp
  rw [hn, hs]
  exact rSame a1 a2 a3 a4

theorem add_round (md : Int) (neg same : Bool) {X Y e f S Z : Int} (hX0 : 0 < X) (hX : X < 9007199254740992) (hY0 : 0 ≤ Y) (hY : Y < 9007199254740992) (he0 : -1074 ≤ e) (_he1 : e ≤ 972) (hf0 : -1074 ≤ f) (_hf1 : f ≤ 972)
    (hd : f ≤ e ∨ Y = 0) (hbig : f + 64 < e → Y ≠ 0 → 4503599627370496 ≤ X) (hle : Y * 2 ^ (f + 1074).toNat ≤ X * 2 ^ (e + 1074).toNat)
    (hS : S = if same then X * 18446744073709551616 + pA Y (f - (e - 64)) else X * 18446744073709551616 - pA Y (f - (e - 64)) - b2i (lA Y (f - (e - 64))))
    (hZ : Z = if same then X * 2 ^ (e + 1074).toNat + Y * 2 ^ (f + 1074).toNat else X * 2 ^ (e + 1074).toNat - Y * 2 ^ (f + 1074).toNat) :
    0 ≤ S ∧ S < 340282366920938463463374607431768211456 ∧ (Z = 0 → S = 0) ∧ (0 < Z → 0 < S ∧
      rF md neg (rN S (eP (e - 64)) (eQ (e - 64))) (rS S (eP (e - 64)) (eQ (e - 64)) (lA Y (f - (e - 64)) && decide (54 ≤ blen S))) = rF md neg (2 * Z) false ∧
      rG md neg (rN S (eP (e - 64)) (eQ (e - 64))) (rS S (eP (e - 64)) (eQ (e - 64)) (lA Y (f - (e - 64)) && decide (54 ≤ blen S))) = rG md neg (2 * Z) false) := by
  have hpb := pA_bd (d := f - (e - 64)) hY0 hY (by omega)
  have hZ0 : 0 ≤ Z := by
    have p1 := pow_pos' (f + 1074).toNat
    have := Int.mul_nonneg hY0 (Int.le_of_lt p1)
    cases same <;> simp at hZ <;> omega
  rcases pA_cases (d := f - (e - 64)) hY0 hY (by omega) with ⟨hl, hp⟩ | ⟨hl, hn, hp, hm⟩
  · obtain ⟨s1, s2⟩ := add_scaled (X := X) hp he0 hf0
    have hp1 := pow_pos' (eP (e - 64))
    have hq1 := pow_pos' (eQ (e - 64))
    have hSZ : 2 * Z * 2 ^ eQ (e - 64) = S * 2 ^ eP (e - 64) := by
      rw [hS, hZ, hl]
      cases same
      · simp only [Bool.false_eq_true, if_false, b2i, Int.sub_zero]
        rw [Int.sub_mul, s1, s2, ← Int.sub_mul, ← Int.mul_sub]
      · simp only [if_true]
        rw [Int.add_mul, s1, s2, ← Int.add_mul, ← Int.mul_add]
    have n0 : 0 ≤ S := by
      rcases Int.lt_or_le S 0 with h | h
      · have a := Int.mul_nonneg (show 0 ≤ 2 * Z by omega) (Int.le_of_lt hq1)
        have b := Int.mul_neg_of_neg_of_pos h hp1
        omega
      · exact h
    have n1 : 0 < Z → 0 < S := fun h => by
      rcases Int.lt_or_eq_of_le n0 with h2 | h2
      · exact h2
      · rw [← h2, Int.zero_mul] at hSZ
        have := Int.mul_pos (show 0 < 2 * Z by omega) hq1
        omega
    refine ⟨n0, ?_, fun h => ?_, fun h => ⟨n1 h, ?_⟩⟩
    · rw [hS, hl]
      have : b2i false = 0 := rfl
      split <;> omega
    · rw [h, Int.mul_zero, Int.zero_mul] at hSZ
      rcases Int.mul_eq_zero.1 hSZ.symm with h2 | h2
      · exact h2
      · omega
    · obtain ⟨r1, r2⟩ := rN_exact hSZ (lA Y (f - (e - 64)) && decide (54 ≤ blen S))
      rw [r1, r2, hl]
      exact ⟨rfl, rfl⟩
  · have hYn : Y ≠ 0 := by
      intro h
      rw [h] at hm
      simp at hm
    have hX2 := hbig (by omega) hYn
    obtain ⟨k, hk⟩ : ∃ k, (-(f - (e - 64))).toNat = k := ⟨_, rfl⟩
    rw [hk] at hp hm
    obtain ⟨t, ht⟩ : ∃ t : Nat, (f + 1074).toNat + 1 = t := ⟨_, rfl⟩
    have hkp := pow_pos' k
    have e1 := Int.mul_ediv_add_emod Y (2 ^ k)
    have m0 := Int.emod_nonneg Y (Int.ne_of_gt hkp)
    have m1 := Int.emod_lt_of_pos Y hkp
    have q0 := Int.ediv_nonneg hY0 (Int.le_of_lt hkp)
    have q1 := Int.ediv_le_self (2 ^ k) hY0
    have hP : eP (e - 64) = k + t := by unfold eP; omega
    have hQ : eQ (e - 64) = 0 := by unfold eQ; omega
    have eX : 2 * (X * 2 ^ (e + 1074).toNat) = X * 18446744073709551616 * 2 ^ k * 2 ^ t := by
      rw [Int.mul_comm 2, Int.mul_assoc, ← Int.pow_succ, show (18446744073709551616 : Int) = 2 ^ 64 by decide, Int.mul_assoc, Int.mul_assoc, ← Int.pow_add, ← Int.pow_add]
      congr 2
      omega
    have eY : 2 * (Y * 2 ^ (f + 1074).toNat) = Y * 2 ^ t := by
      rw [Int.mul_comm 2, Int.mul_assoc, ← Int.pow_succ, Nat.succ_eq_add_one, ht]
    rw [hl, hp] at hS
    rw [hl, hP, hQ]
    cases same
    · simp only [Bool.false_eq_true, if_false, b2i, if_true] at hS hZ
      have big : 9007199254740992 ≤ S := by omega
      have HN : 2 * Z = (X * 18446744073709551616 * 2 ^ k - Y) * 2 ^ t := by
        rw [hZ, Int.mul_sub, eX, eY, Int.sub_mul]
      have HM : X * 18446744073709551616 * 2 ^ k - Y = 2 ^ k * S + (2 ^ k - Y % 2 ^ k) := by
        rw [hS, Int.mul_sub, Int.mul_sub, Int.mul_one, Int.mul_comm (2 ^ k) (X * 18446744073709551616)]
        omega
      have L := low_lost HN HM (by omega) (by omega) big md neg
      refine ⟨by omega, by omega, fun h => ?_, fun h => ⟨by omega, ?_⟩⟩
      · exfalso
        rw [h, HM] at HN
        have pt := pow_pos' t
        have a1 := Int.mul_pos hkp (show 0 < S by omega)
        have := Int.mul_pos (show 0 < 2 ^ k * S + (2 ^ k - Y % 2 ^ k) by omega) pt
        omega
      · rw [Bool.true_and, decide_eq_true (blen_big big)]
        exact L
    · simp only [if_true] at hS hZ
      have big : 9007199254740992 ≤ S := by omega
      have HN : 2 * Z = (X * 18446744073709551616 * 2 ^ k + Y) * 2 ^ t := by
        rw [hZ, Int.mul_add, eX, eY, Int.add_mul]
      have HM : X * 18446744073709551616 * 2 ^ k + Y = 2 ^ k * S + Y % 2 ^ k := by
        rw [hS, Int.mul_add, Int.mul_comm (2 ^ k) (X * 18446744073709551616)]
        omega
      have L := low_lost HN HM (by omega) m1 big md neg
      refine ⟨by omega, by omega, fun h => ?_, fun h => ⟨by omega, ?_⟩⟩
      · exfalso
        rw [h, HM] at HN
        have pt := pow_pos' t
        have a1 := Int.mul_pos hkp (show 0 < S by omega)
        have := Int.mul_pos (show 0 < 2 ^ k * S + Y % 2 ^ k by omega) pt
        omega
      · rw [Bool.true_and, decide_eq_true (blen_big big)]
        exact L
end Go.Proofs.YtkdckclefegocaaGreatDoor
