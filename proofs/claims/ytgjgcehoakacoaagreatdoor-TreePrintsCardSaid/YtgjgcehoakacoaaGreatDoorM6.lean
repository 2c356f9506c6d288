/-
  The mathematics of soft's sums, differences and products: what an integer times a power of two is rounded to, and that what is lost of the lesser operand changes nothing. No function of the program.
  The sum of two floats, as a number: which operand is the greater one, and what the sum is rounded to. No function of the program.
  The mathematics of soft's products, quotients and roots: what they are rounded to. No function of the program.
-/
import Derived.Test.YtgjgcehoakacoaaGreatDoorM5
import Derived.Test.YtgjgcehoakacoaaGreatDoorPatd
namespace Go.Proofs.YtgjgcehoakacoaaGreatDoor
open Go.RowKit
set_option maxRecDepth 100000

/-- The size of a finite float, in units of the least one. -/
def fMg (f : Int) : Int := gK (f % 9223372036854775808)
theorem fMg_nn (f : Int) : 0 ≤ fMg f := gK_nn (by omega)
theorem fMg_is {f : Int} (hf : Word f) (hc : fC f < 3) : fX f * 2 ^ (fY f + 1074).toNat = fMg f := by
  have e1 := low63 hf
  have hM := frac_bd (f := f)
  have hE := exp_bd (f := f)
  have k1 : f % 9223372036854775808 / 4503599627370496 = fE f := by rw [← e1]; omega
  have k2 : f % 9223372036854775808 % 4503599627370496 = fM f := by rw [← e1]; omega
  unfold fMg gK
  rw [k1, k2]
  unfold gZ fX fY
  have hc2 : fC f = 0 ∨ fC f = 1 ∨ fC f = 2 := by have := cls_bd f; omega
  have cls : fC f = if fE f = 2047 then (if fM f = 0 then 3 else 4) else if fE f = 0 then (if fM f = 0 then 0 else 1) else 2 := rfl
  rcases hc2 with h | h | h
  · rw [h] at cls ⊢
    have hz : fE f = 0 ∧ fM f = 0 := by
      split at cls
      · split at cls <;> omega
      · split at cls
        · split at cls
          · exact ⟨by assumption, by assumption⟩
          · omega
        · omega
    rw [if_neg (by decide), if_neg (by decide), if_pos hz.1, hz.2, Int.zero_mul]
  · rw [h] at cls ⊢
    have hz : fE f = 0 := by
      split at cls
      · split at cls <;> omega
      · split at cls
        · assumption
        · omega
    rw [if_neg (by decide), if_pos rfl, if_neg (by decide), if_pos rfl, if_pos hz, show ((-1074 : Int) + 1074).toNat = 0 by decide, Int.pow_zero, Int.mul_one]
  · rw [h] at cls ⊢
    have hz : ¬ fE f = 0 := by
      intro h0
      rw [if_neg (by omega), if_pos h0] at cls
      split at cls <;> omega
    simp only [if_true, if_neg hz]
    rw [show fE f - 1075 + 1074 = fE f - 1 by omega]
theorem fMg_zero {f : Int} (hf : Word f) (hc : fC f < 3) : fMg f = 0 ↔ fX f = 0 := by
  rw [← fMg_is hf hc]
  have := pow_pos' (fY f + 1074).toNat
  constructor
  · intro h
    rcases Int.mul_eq_zero.1 h with h | h
    · exact h
    · omega
  · intro h
    rw [h, Int.zero_mul]
theorem fX_bd {f : Int} : 0 ≤ fX f ∧ fX f < 9007199254740992 := by
  have := frac_bd (f := f)
  unfold fX
  split
  · omega
  · split <;> omega

theorem mk_add {a b : Int} {d : Nat} (hd : d ≠ 0) : mkRat a d + mkRat b d = mkRat (a + b) d := by
  rw [Rat.mkRat_add_mkRat _ _ hd hd, ← Int.add_mul, Rat.mkRat_mul_right hd]
/-- The sum of two finite floats, in units of the least one. -/
def zI (a b : Int) : Int := sv (fS a) (fMg a) + sv (fS b) (fMg b)
theorem sum_is {a b : Int} (ha : Word a) (hb : Word b) (h1 : fC a < 3) (h2 : fC b < 3) : fV a + fV b = mkRat (zI a b) (dB 1074) := by
  rw [fV_key ha h1, fV_key hb h2]
  unfold rv
  rw [Int.toNat_natCast, mk_add (dB_ne _)]
  rfl
theorem mk_zero {z : Int} : mkRat z (dB 1074) = 0 ↔ z = 0 := by
  constructor
  · intro h
    exact (Rat.mkRat_eq_zero (dB_ne _)).1 h
  · intro h
    subst h
    exact Rat.zero_mkRat _
theorem sv_natAbs (z : Int) : sv (decide (z < 0)) (z.natAbs : Int) = z := by
  unfold sv
  by_cases h : z < 0
  · simp [h]; omega
  · simp [h]; omega
theorem dF_int {z : Int} (hz : z ≠ 0) (md : Int) : dF md (mkRat z (dB 1074)) = rF md (decide (z < 0)) (2 * (z.natAbs : Int)) false ∧ dG md (mkRat z (dB 1074)) = rG md (decide (z < 0)) (2 * (z.natAbs : Int)) false := by
  have hD : (0 : Int) < (dB 1074 : Nat) := by rw [dB_int]; exact pow_pos' _
  obtain ⟨l1, l2, l3⟩ := nX_low (s := decide (z < 0)) (p := (z.natAbs : Int)) (q := (dB 1074 : Nat)) (by omega) hD
  rw [nX_over.1] at l2
  rw [nX_over.2] at l3
  have e : rv (decide (z < 0)) (z.natAbs : Int) (dB 1074 : Nat) = mkRat z (dB 1074) := by
    unfold rv
    rw [sv_natAbs, Int.toNat_natCast]
  rw [e] at l1 l2 l3
  have hne : ¬ mkRat z (dB 1074) = 0 := fun h => hz (mk_zero.1 h)
  unfold dF dG
  rw [if_neg hne, if_neg hne, l1, l2, l3]
  exact ⟨rfl, rfl⟩

/-- What is exact is rounded as what it is. -/
theorem rN_exact {m N : Int} {p q : Nat} (h : N * 2 ^ q = m * 2 ^ p) (r : Bool) : rN m p q = N ∧ rS m p q r = r := by
  have hq := pow_pos' q
  unfold rN rS
  rw [← h]
  refine ⟨Int.mul_ediv_cancel _ (Int.ne_of_gt hq), ?_⟩
  rw [Int.mul_emod_left]
  simp
theorem eC_small {e : Int} (h0 : -5000 ≤ e) (h1 : e ≤ 5000) : eC e = e := by unfold eC; omega
theorem eP_eQ (e : Int) : (eP e : Int) - eQ e = e + 1075 := by unfold eP eQ; omega

/-- What is left of the lesser operand. -/
def pA (Y d : Int) : Int := shlV2 Y d.toNat / 2 ^ (-d).toNat
def lA (Y d : Int) : Bool := decide (shlV2 Y d.toNat % 2 ^ (-d).toNat ≠ 0)
theorem shl_in {Y : Int} {k : Nat} (h0 : 0 ≤ Y) (h1 : Y < 9007199254740992) (hk : k ≤ 75) : shlV2 Y k = Y * 2 ^ k := by
  unfold shlV2
  refine Int.emod_eq_of_lt (Int.mul_nonneg h0 (Int.le_of_lt (pow_pos' _))) ?_
  have h2 : Y * 2 ^ k ≤ 9007199254740991 * 2 ^ k := Int.mul_le_mul_of_nonneg_right (by omega) (Int.le_of_lt (pow_pos' _))
  have h3 : (9007199254740991 : Int) * 2 ^ k ≤ 9007199254740991 * 2 ^ 75 := Int.mul_le_mul_of_nonneg_left (pow_mono k 75 hk) (by decide)
  have e : (9007199254740991 : Int) * 2 ^ 75 < 340282366920938463463374607431768211456 := by decide
  omega
theorem pA_nought (d : Int) : pA 0 d = 0 ∧ lA 0 d = false := by
  unfold pA lA shlV2
  simp
theorem pA_up {Y d : Int} (h0 : 0 ≤ Y) (h1 : Y < 9007199254740992) (hd : d ≤ 64) (hd0 : 0 ≤ d) : pA Y d = Y * 2 ^ d.toNat ∧ lA Y d = false := by
  unfold pA lA
  rw [show (-d).toNat = 0 by omega, shl_in h0 h1 (k := d.toNat) (by omega)]
  simp [Int.emod_one]
theorem pA_down {Y d : Int} (h0 : 0 ≤ Y) (h1 : Y < 9007199254740992) (hd : d < 0) : pA Y d = Y / 2 ^ (-d).toNat ∧ lA Y d = decide (Y % 2 ^ (-d).toNat ≠ 0) := by
  unfold pA lA
  rw [show d.toNat = 0 by omega, shl_in h0 h1 (by omega), Int.pow_zero, Int.mul_one]
  exact ⟨rfl, rfl⟩
/-- What is kept is exact, or it is a quotient. -/
theorem pA_cases {Y d : Int} (h0 : 0 ≤ Y) (h1 : Y < 9007199254740992) (hd : d ≤ 64 ∨ Y = 0) :
    (lA Y d = false ∧ pA Y d * 2 ^ (-d).toNat = Y * 2 ^ d.toNat) ∨ (lA Y d = true ∧ d < 0 ∧ pA Y d = Y / 2 ^ (-d).toNat ∧ Y % 2 ^ (-d).toNat ≠ 0) := by
  by_cases hY : Y = 0
  · subst hY
    obtain ⟨a, b⟩ := pA_nought d
    rw [a, b]
    exact .inl ⟨rfl, by simp⟩
  · by_cases h : d < 0
    · obtain ⟨a, b⟩ := pA_down h0 h1 h
      by_cases hm : Y % 2 ^ (-d).toNat = 0
      · refine .inl ⟨by rw [b]; simp [hm], ?_⟩
        rw [a, show d.toNat = 0 by omega, Int.pow_zero, Int.mul_one]
        exact Int.ediv_mul_cancel (Int.dvd_of_emod_eq_zero hm)
      · exact .inr ⟨by rw [b]; simp [hm], h, a, hm⟩
    · obtain ⟨a, b⟩ := pA_up (d := d) h0 h1 (by omega) (by omega)
      refine .inl ⟨b, ?_⟩
      rw [a, show (-d).toNat = 0 by omega, Int.pow_zero, Int.mul_one]
theorem pA_bd {Y d : Int} (h0 : 0 ≤ Y) (h1 : Y < 9007199254740992) (hd : d ≤ 64 ∨ Y = 0) : 0 ≤ pA Y d ∧ pA Y d < 9007199254740992 * 18446744073709551616 := by
  by_cases hY : Y = 0
  · subst hY
    rw [(pA_nought d).1]
    decide
  · by_cases h : d < 0
    · rw [(pA_down h0 h1 h).1]
      have hp := pow_pos' (-d).toNat
      refine ⟨Int.ediv_nonneg h0 (Int.le_of_lt hp), ?_⟩
      have := Int.ediv_le_self (2 ^ (-d).toNat) h0
      omega
    · rw [(pA_up (d := d) h0 h1 (by omega) (by omega)).1]
      have hp := pow_pos' d.toNat
      refine ⟨Int.mul_nonneg h0 (Int.le_of_lt hp), ?_⟩
      have k1 : Y * 2 ^ d.toNat < 9007199254740992 * 2 ^ d.toNat := Int.mul_lt_mul_of_pos_right h1 hp
      have k2 : (9007199254740992 : Int) * 2 ^ d.toNat ≤ 9007199254740992 * 2 ^ 64 := Int.mul_le_mul_of_nonneg_left (pow_mono _ 64 (by omega)) (by decide)
      have e : (2 : Int) ^ 64 = 18446744073709551616 := by decide
      rw [e] at k2
      omega

theorem add_scaled {X Y e f P : Int} (h : P * 2 ^ (-(f - (e - 64))).toNat = Y * 2 ^ (f - (e - 64)).toNat) (he0 : -1074 ≤ e) (hf0 : -1074 ≤ f) :
    P * 2 ^ eP (e - 64) = 2 * (Y * 2 ^ (f + 1074).toNat) * 2 ^ eQ (e - 64) ∧ X * 18446744073709551616 * 2 ^ eP (e - 64) = 2 * (X * 2 ^ (e + 1074).toNat) * 2 ^ eQ (e - 64) := by
  have hpq := eP_eQ (e - 64)
  have tw : ∀ (a : Int) (n : Nat), 2 * (a * 2 ^ n) = a * 2 ^ (n + 1) := fun a n => by
    rw [Int.pow_succ, Int.mul_comm 2, Int.mul_assoc]
  constructor
  · have hk := pow_pos' (-(f - (e - 64))).toNat
    refine Int.eq_of_mul_eq_mul_right (Int.ne_of_gt hk) ?_
    rw [Int.mul_right_comm, h, tw, Int.mul_assoc, Int.mul_assoc, Int.mul_assoc, ← Int.pow_add, ← Int.pow_add, ← Int.pow_add]
    congr 2
    omega
  · rw [tw, show (18446744073709551616 : Int) = 2 ^ 64 by decide, Int.mul_assoc, Int.mul_assoc, ← Int.pow_add, ← Int.pow_add]
    congr 2
    omega

theorem blen_big {S : Int} (h : 9007199254740992 ≤ S) : 54 ≤ blen S := by
  obtain ⟨j, e1, e2, e3⟩ := blen_at (a := S) (by omega)
  have : (2 : Int) ^ 53 < 2 ^ (j + 1) := by
    have e : (2 : Int) ^ 53 = 9007199254740992 := by decide
    omega
  have := pow_lt_of this
  omega

/-- A sum, or a difference, of which a rest is lost. -/
theorem low_lost {N M S R : Int} {k t : Nat} (hN : N = M * 2 ^ t) (hM : M = 2 ^ k * S + R) (h0 : 0 < R) (h1 : R < 2 ^ k) (hS : 9007199254740992 ≤ S) (md : Int) (neg : Bool) :
    rF md neg (rN S (k + t) 0) (rS S (k + t) 0 true) = rF md neg N false ∧ rG md neg (rN S (k + t) 0) (rS S (k + t) 0 true) = rG md neg N false := by
  have hk := pow_pos' k
  have ht := pow_pos' t
  have u : M / 2 ^ k = S ∧ M % 2 ^ k = R := (Int.ediv_emod_unique hk).2 ⟨by omega, by omega, h1⟩
  have d1 : N / 2 ^ (k + t) = S := by
    rw [hN, Int.pow_add, Int.mul_ediv_mul_of_pos_left _ _ ht, u.1]
  have d2 : N % 2 ^ (k + t) ≠ 0 := by
    rw [hN, Int.pow_add, Int.mul_comm M, Int.mul_comm (2 ^ k), Int.mul_emod_mul_of_pos _ _ ht, u.2]
    exact Int.ne_of_gt (Int.mul_pos ht h0)
  have hN0 : 0 ≤ N := by
    rw [hN]
    refine Int.mul_nonneg ?_ (Int.le_of_lt ht)
    rw [hM]
    have := Int.mul_nonneg (Int.le_of_lt hk) (show 0 ≤ S by omega)
    omega
  obtain ⟨a1, a2, a3, a4⟩ := same_low (R := true) (S := false) d1 ⟨fun _ => rfl, fun _ => .inl d2⟩ hN0 (blen_big hS)
  have hn : rN S (k + t) 0 = S * 2 ^ (k + t) := by unfold rN; simp
  have hs : rS S (k + t) 0 true = true := by unfold rS; simp
  rw [hn, hs]
  exact rSame a1 a2 a3 a4

theorem add_round (md : Int) (neg same : Bool) {X Y e f S Z : Int} (hX0 : 0 < X) (hX : X < 9007199254740992) (hY0 : 0 ≤ Y) (hY : Y < 9007199254740992) (he0 : -1074 ≤ e) (_he1 : e ≤ 972) (hf0 : -1074 ≤ f) (_hf1 : f ≤ 972)
    (hd : f ≤ e ∨ Y = 0) (hbig : f + 64 < e → Y ≠ 0 → 4503599627370496 ≤ X) (hle : Y * 2 ^ (f + 1074).toNat ≤ X * 2 ^ (e + 1074).toNat)
    (hS : S = if same then X * 18446744073709551616 + pA Y (f - (e - 64)) else X * 18446744073709551616 - pA Y (f - (e - 64)) - b2i (lA Y (f - (e - 64))))
    (hZ : Z = if same then X * 2 ^ (e + 1074).toNat + Y * 2 ^ (f + 1074).toNat else X * 2 ^ (e + 1074).toNat - Y * 2 ^ (f + 1074).toNat) :
    0 ≤ S ∧ S < 340282366920938463463374607431768211456 ∧ (Z = 0 → S = 0) ∧ (0 < Z → 0 < S ∧
      rF md neg (rN S (eP (e - 64)) (eQ (e - 64))) (rS S (eP (e - 64)) (eQ (e - 64)) (lA Y (f - (e - 64)) && decide (54 ≤ blen S))) = rF md neg (2 * Z) false ∧
      rG md neg (rN S (eP (e - 64)) (eQ (e - 64))) (rS S (eP (e - 64)) (eQ (e - 64)) (lA Y (f - (e - 64)) && decide (54 ≤ blen S))) = rG md neg (2 * Z) false) := by
  have hpb := pA_bd (d := f - (e - 64)) hY0 hY (by omega)
  have hZ0 : 0 ≤ Z := by
    have p1 := pow_pos' (f + 1074).toNat
    have := Int.mul_nonneg hY0 (Int.le_of_lt p1)
    cases same <;> simp at hZ <;> omega
  rcases pA_cases (d := f - (e - 64)) hY0 hY (by omega) with ⟨hl, hp⟩ | ⟨hl, hn, hp, hm⟩
  · obtain ⟨s1, s2⟩ := add_scaled (X := X) hp he0 hf0
    have hp1 := pow_pos' (eP (e - 64))
    have hq1 := pow_pos' (eQ (e - 64))
    have hSZ : 2 * Z * 2 ^ eQ (e - 64) = S * 2 ^ eP (e - 64) := by
      rw [hS, hZ, hl]
      cases same
      · simp only [Bool.false_eq_true, if_false, b2i, Int.sub_zero]
        rw [Int.sub_mul, s1, s2, ← Int.sub_mul, ← Int.mul_sub]
      · simp only [if_true]
        rw [Int.add_mul, s1, s2, ← Int.add_mul, ← Int.mul_add]
    have n0 : 0 ≤ S := by
      rcases Int.lt_or_le S 0 with h | h
      · have a := Int.mul_nonneg (show 0 ≤ 2 * Z by omega) (Int.le_of_lt hq1)
        have b := Int.mul_neg_of_neg_of_pos h hp1
        omega
      · exact h
    have n1 : 0 < Z → 0 < S := fun h => by
      rcases Int.lt_or_eq_of_le n0 with h2 | h2
      · exact h2
      · rw [← h2, Int.zero_mul] at hSZ
        have := Int.mul_pos (show 0 < 2 * Z by omega) hq1
        omega
    refine ⟨n0, ?_, fun h => ?_, fun h => ⟨n1 h, ?_⟩⟩
    · rw [hS, hl]
      have : b2i false = 0 := rfl
      split <;> omega
    · rw [h, Int.mul_zero, Int.zero_mul] at hSZ
      rcases Int.mul_eq_zero.1 hSZ.symm with h2 | h2
      · exact h2
      · omega
    · obtain ⟨r1, r2⟩ := rN_exact hSZ (lA Y (f - (e - 64)) && decide (54 ≤ blen S))
      rw [r1, r2, hl]
      exact ⟨rfl, rfl⟩
  · have hYn : Y ≠ 0 := by
      intro h
      rw [h] at hm
      simp at hm
    have hX2 := hbig (by omega) hYn
    obtain ⟨k, hk⟩ : ∃ k, (-(f - (e - 64))).toNat = k := ⟨_, rfl⟩
    rw [hk] at hp hm
    obtain ⟨t, ht⟩ : ∃ t : Nat, (f + 1074).toNat + 1 = t := ⟨_, rfl⟩
    have hkp := pow_pos' k
    have e1 := Int.mul_ediv_add_emod Y (2 ^ k)
    have m0 := Int.emod_nonneg Y (Int.ne_of_gt hkp)
    have m1 := Int.emod_lt_of_pos Y hkp
    have q0 := Int.ediv_nonneg hY0 (Int.le_of_lt hkp)
    have q1 := Int.ediv_le_self (2 ^ k) hY0
    have hP : eP (e - 64) = k + t := by unfold eP; omega
    have hQ : eQ (e - 64) = 0 := by unfold eQ; omega
    have eX : 2 * (X * 2 ^ (e + 1074).toNat) = X * 18446744073709551616 * 2 ^ k * 2 ^ t := by
      rw [Int.mul_comm 2, Int.mul_assoc, ← Int.pow_succ, show (18446744073709551616 : Int) = 2 ^ 64 by decide, Int.mul_assoc, Int.mul_assoc, ← Int.pow_add, ← Int.pow_add]
      congr 2
      omega
    have eY : 2 * (Y * 2 ^ (f + 1074).toNat) = Y * 2 ^ t := by
      rw [Int.mul_comm 2, Int.mul_assoc, ← Int.pow_succ, Nat.succ_eq_add_one, ht]
    rw [hl, hp] at hS
    rw [hl, hP, hQ]
    cases same
    · simp only [Bool.false_eq_true, if_false, b2i, if_true] at hS hZ
      have big : 9007199254740992 ≤ S := by omega
      have HN : 2 * Z = (X * 18446744073709551616 * 2 ^ k - Y) * 2 ^ t := by
        rw [hZ, Int.mul_sub, eX, eY, Int.sub_mul]
      have HM : X * 18446744073709551616 * 2 ^ k - Y = 2 ^ k * S + (2 ^ k - Y % 2 ^ k) := by
        rw [hS, Int.mul_sub, Int.mul_sub, Int.mul_one, Int.mul_comm (2 ^ k) (X * 18446744073709551616)]
        omega
      have L := low_lost HN HM (by omega) (by omega) big md neg
      refine ⟨by omega, by omega, fun h => ?_, fun h => ⟨by omega, ?_⟩⟩
      · exfalso
        rw [h, HM] at HN
        have pt := pow_pos' t
        have a1 := Int.mul_pos hkp (show 0 < S by omega)
        have := Int.mul_pos (show 0 < 2 ^ k * S + (2 ^ k - Y % 2 ^ k) by omega) pt
        omega
      · rw [Bool.true_and, decide_eq_true (blen_big big)]
        exact L
    · simp only [if_true] at hS hZ
      have big : 9007199254740992 ≤ S := by omega
      have HN : 2 * Z = (X * 18446744073709551616 * 2 ^ k + Y) * 2 ^ t := by
        rw [hZ, Int.mul_add, eX, eY, Int.add_mul]
      have HM : X * 18446744073709551616 * 2 ^ k + Y = 2 ^ k * S + Y % 2 ^ k := by
        rw [hS, Int.mul_add, Int.mul_comm (2 ^ k) (X * 18446744073709551616)]
        omega
      have L := low_lost HN HM (by omega) m1 big md neg
      refine ⟨by omega, by omega, fun h => ?_, fun h => ⟨by omega, ?_⟩⟩
      · exfalso
        rw [h, HM] at HN
        have pt := pow_pos' t
        have a1 := Int.mul_pos hkp (show 0 < S by omega)
        have := Int.mul_pos (show 0 < 2 ^ k * S + Y % 2 ^ k by omega) pt
        omega
      · rw [Bool.true_and, decide_eq_true (blen_big big)]
        exact L
end Go.Proofs.YtgjgcehoakacoaaGreatDoor
namespace Go.Proofs.YtgjgcehoakacoaaGreatDoor
open Go.RowKit
set_option maxRecDepth 100000

/-- The sum of two finite floats, and its flags. -/
def smF (md a b : Int) : Int := if fV a + fV b = 0 then sg (if fS a = fS b then fS a else decide (md = 2)) else dF md (fV a + fV b)
def smG (md a b : Int) : Int := dG md (fV a + fV b)
theorem smF_comm (md a b : Int) : smF md a b = smF md b a ∧ smG md a b = smG md b a := by
  unfold smF smG
  rw [Rat.add_comm]
  refine ⟨?_, rfl⟩
  by_cases h0 : fV b + fV a = 0
  · rw [if_pos h0, if_pos h0]
    by_cases h : fS a = fS b
    · rw [if_pos h, if_pos h.symm, h]
    · rw [if_neg h, if_neg (fun k => h k.symm)]
  · rw [if_neg h0, if_neg h0]
/-- The sum of any two floats, and its flags. -/
def saF (md a b : Int) : Int := if fC a = 4 ∨ fC b = 4 then 9221120237041090560 else if fC a = 3 ∧ fC b = 3 ∧ fS a ≠ fS b then 9221120237041090560 else if fC a = 3 then a else if fC b = 3 then b else smF md a b
def saG (md a b : Int) : Int := if fC a = 4 ∨ fC b = 4 then 0 else if fC a = 3 ∧ fC b = 3 ∧ fS a ≠ fS b then 16 else if fC a = 3 then 0 else if fC b = 3 then 0 else smG md a b

theorem gK_le {k k' : Int} (h0 : 0 ≤ k) (h : k ≤ k') : gK k ≤ gK k' := by
  rcases Int.lt_or_eq_of_le h with h1 | h1
  · exact Int.le_of_lt (gK_lt h0 h1)
  · rw [h1]; exact Int.le_refl _
/-- Which of two finite floats is not less without its sign. -/
def geA (a b : Int) : Prop := b % 9223372036854775808 ≤ a % 9223372036854775808
theorem abs_less {a b : Int} (ha : Word a) (hb : Word b) (h1 : fC a < 3) (h2 : fC b < 3) : fLt (fAb a) (fAb b) = decide (a % 9223372036854775808 < b % 9223372036854775808) := by
  have e1 : fAb a = a % 9223372036854775808 := by unfold fAb; rw [if_neg (by omega)]
  have e2 : fAb b = b % 9223372036854775808 := by unfold fAb; rw [if_neg (by omega)]
  obtain ⟨a0, a1, -, -⟩ := kS_of ha (by omega)
  obtain ⟨b0, b1, -, -⟩ := kS_of hb (by omega)
  have c1 := (kS_class (s := false) a0 a1).1
  have c2 := (kS_class (s := false) b0 b1).1
  have k1 := kS_key (s := false) a0 a1
  have k2 := kS_key (s := false) b0 b1
  simp only [sg, sv, Bool.false_eq_true, if_false, Int.add_zero] at c1 c2 k1 k2
  rw [e1, e2, fLt_key c1 c2, k1, k2]
theorem exp_of {a : Int} (ha : Word a) : fE a = a % 9223372036854775808 / 4503599627370496 := by
  have := low63 ha
  have := frac_bd (f := a)
  omega
/-- What is so of a float's parts, by its exponent. -/
theorem parts_of {a : Int} (h : fC a < 3) : (fE a = 0 → fX a = fM a ∧ (fX a ≠ 0 → fY a = -1074) ∧ (fX a = 0 → fY a = 0)) ∧ (fE a ≠ 0 → fY a = fE a - 1075 ∧ 4503599627370496 ≤ fX a) ∧ fE a ≠ 2047 := by
  have cls : fC a = if fE a = 2047 then (if fM a = 0 then 3 else 4) else if fE a = 0 then (if fM a = 0 then 0 else 1) else 2 := rfl
  have hM := frac_bd (f := a)
  unfold fX fY
  by_cases h1 : fE a = 2047
  · rw [if_pos h1] at cls
    split at cls <;> omega
  · rw [if_neg h1] at cls
    by_cases h2 : fE a = 0
    · rw [if_pos h2] at cls
      refine ⟨fun _ => ?_, fun h => absurd h2 h, h1⟩
      by_cases h3 : fM a = 0
      · rw [if_pos h3] at cls
        rw [cls, if_neg (by decide), if_neg (by decide), if_neg (by decide), if_neg (by decide)]
        exact ⟨h3.symm, fun h => absurd rfl h, fun _ => rfl⟩
      · rw [if_neg h3] at cls
        rw [cls, if_neg (by decide), if_pos rfl, if_neg (by decide), if_pos rfl]
        exact ⟨rfl, fun _ => rfl, fun h => absurd h h3⟩
    · rw [if_neg h2] at cls
      refine ⟨fun h => absurd h h2, fun _ => ?_, h1⟩
      rw [cls, if_pos rfl, if_pos rfl]
      omega
structure Big (a b : Int) : Prop where
  le : fMg b ≤ fMg a
  ord : fY b ≤ fY a ∨ fX b = 0
  far : fY b + 64 < fY a → fX b ≠ 0 → 4503599627370496 ≤ fX a
  non : fX a = 0 → fX b = 0
theorem big_of {a b : Int} (ha : Word a) (hb : Word b) (h1 : fC a < 3) (h2 : fC b < 3) (h : geA a b) : Big a b := by
  obtain ⟨a1, a2, a3⟩ := parts_of h1
  obtain ⟨b1, b2, b3⟩ := parts_of h2
  have ea := exp_of ha
  have eb := exp_of hb
  have hE : fE b ≤ fE a := by unfold geA at h; omega
  have hA := exp_bd (f := a)
  have hB := exp_bd (f := b)
  have hle : fMg b ≤ fMg a := gK_le (by omega) h
  refine ⟨hle, ?_, ?_, ?_⟩
  · by_cases hx : fX b = 0
    · exact .inr hx
    · left
      by_cases hb0 : fE b = 0
      · have := (b1 hb0).2.1 hx
        by_cases ha0 : fE a = 0
        · by_cases hxa : fX a = 0
          · have z1 := (fMg_zero ha h1).2 hxa
            have z2 := (fMg_zero hb h2).1 (by have := fMg_nn b; omega)
            exact absurd z2 hx
          · have := (a1 ha0).2.1 hxa
            omega
        · have := (a2 ha0).1
          omega
      · have := (b2 hb0).1
        have := (a2 (by omega)).1
        omega
  · intro hf hx
    by_cases ha0 : fE a = 0
    · by_cases hxa : fX a = 0
      · have z1 := (fMg_zero ha h1).2 hxa
        have z2 := (fMg_zero hb h2).1 (by have := fMg_nn b; omega)
        exact absurd z2 hx
      · have e := (a1 ha0).2.1 hxa
        have := (fY_bd b).1
        omega
    · exact (a2 ha0).2
  · intro hxa
    have z1 := (fMg_zero ha h1).2 hxa
    exact (fMg_zero hb h2).1 (by have := fMg_nn b; omega)

/-- The sum's size, where the first operand is the greater one. -/
def zA (a b : Int) : Int := if fS a = fS b then fMg a + fMg b else fMg a - fMg b
theorem zI_big {a b : Int} : zI a b = sv (fS a) (zA a b) := by
  unfold zI zA sv
  cases fS a <;> cases fS b <;> simp <;> omega
theorem sv_lt {s : Bool} {z : Int} (h : 0 < z) : decide (sv s z < 0) = s ∧ ((sv s z).natAbs : Int) = z ∧ sv s z ≠ 0 := by
  refine ⟨sv_sgn h, ?_, ?_⟩
  · rw [sv_abs (Int.le_of_lt h)]; omega
  · cases s <;> simp [sv] <;> omega
theorem sv_nil (s : Bool) : sv s 0 = 0 := by cases s <;> rfl
theorem zA_nn {a b : Int} (h : Big a b) : 0 ≤ zA a b := by
  have := h.le
  have := fMg_nn a
  have := fMg_nn b
  unfold zA
  split <;> omega
/-- What the sum is, where it is not nought. -/
theorem sm_pos {a b : Int} (ha : Word a) (hb : Word b) (h1 : fC a < 3) (h2 : fC b < 3) (md : Int) (hz : 0 < zA a b) : smF md a b = rF md (fS a) (2 * zA a b) false ∧ smG md a b = rG md (fS a) (2 * zA a b) false := by
  obtain ⟨s1, s2, s3⟩ := sv_lt (s := fS a) hz
  have e := sum_is ha hb h1 h2
  rw [zI_big] at e
  obtain ⟨d1, d2⟩ := dF_int s3 md
  rw [s1, s2] at d1 d2
  unfold smF smG
  rw [e, if_neg (fun h => s3 (mk_zero.1 h))]
  exact ⟨d1, d2⟩
/-- Where it is nought, and the operands are not opposite, both are noughts. -/
theorem sm_zero {a b : Int} (ha : Word a) (hb : Word b) (h1 : fC a < 3) (h2 : fC b < 3) (md : Int) (hz : zA a b = 0) (hn : b ≠ fNg a) (_hB : Big a b) : fX a = 0 ∧ fX b = 0 ∧ fS a = fS b ∧ smF md a b = sg (fS a) ∧ smG md a b = 0 := by
  have n1 := fMg_nn a
  have n2 := fMg_nn b
  obtain ⟨a0, a1, a2, a3⟩ := kS_of ha (by omega)
  obtain ⟨b0, b1, b2, b3⟩ := kS_of hb (by omega)
  have hs : fS a = fS b := by
    rcases Decidable.em (fS a = fS b) with h | h
    · exact h
    · exfalso
      unfold zA at hz
      rw [if_neg h] at hz
      have hk : a % 9223372036854775808 = b % 9223372036854775808 := by
        rcases Int.lt_trichotomy (a % 9223372036854775808) (b % 9223372036854775808) with k | k | k
        · have := gK_lt a0 k
          unfold fMg at hz
          omega
        · exact k
        · have := gK_lt b0 k
          unfold fMg at hz
          omega
      refine hn ?_
      unfold fNg
      rw [if_neg (by omega)]
      rw [hk] at a2
      unfold sg at a2 b2
      cases hA : fS a <;> cases hB2 : fS b <;> rw [hA] at h a2 <;> rw [hB2] at h b2 <;> simp at h a2 b2 ⊢ <;> omega
  have hz2 := hz
  unfold zA at hz2
  rw [if_pos hs] at hz2
  have x1 := (fMg_zero ha h1).1 (by omega)
  have x2 := (fMg_zero hb h2).1 (by omega)
  have e := sum_is ha hb h1 h2
  rw [zI_big, hz, sv_nil] at e
  have e0 : fV a + fV b = 0 := by rw [e]; exact Rat.zero_mkRat _
  refine ⟨x1, x2, hs, ?_, ?_⟩
  · unfold smF
    rw [if_pos e0, if_pos hs]
  · unfold smG dG
    rw [if_pos e0]
end Go.Proofs.YtgjgcehoakacoaaGreatDoor
namespace Go.Proofs.YtgjgcehoakacoaaGreatDoor
open Go.RowKit
set_option maxRecDepth 100000

/-- Two fractions that are the same number have the same floor, and both are whole or both are not. -/
theorem same_frac {A B C D : Int} (hB : 0 < B) (hD : 0 < D) (h : A * D = C * B) : A / B = C / D ∧ (A % B ≠ 0 ↔ C % D ≠ 0) := by
  obtain ⟨a1, a2⟩ := scale_div (y := A) (d := B) hD
  obtain ⟨b1, b2⟩ := scale_div (y := C) (d := D) hB
  rw [h, Int.mul_comm B D] at a1 a2
  exact ⟨a1.symm.trans b1, a2.symm.trans b2⟩
theorem dec_iff {p q : Prop} [Decidable p] [Decidable q] (h : p ↔ q) : decide p = decide q := by
  rw [Bool.eq_iff_iff, decide_eq_true_eq, decide_eq_true_eq]
  exact h

/-- The parts of a float's number. -/
theorem fV_parts (a : Int) : fV a = rv (fS a) (2 ^ (max (fY a) 0).toNat * fX a) (2 ^ (max (-fY a) 0).toNat * 1) := rfl
theorem num_pos {x : Int} (h : 0 < x) (n : Nat) : 0 < 2 ^ n * x := Int.mul_pos (pow_pos' n) h
/-- A product of two powers and two numbers, in order. -/
theorem pw4 (i j : Nat) (x y : Int) : (2 : Int) ^ i * x * (2 ^ j * y) = x * y * 2 ^ (i + j) := by
  rw [Int.pow_add, Int.mul_comm (2 ^ i) x, Int.mul_comm (2 ^ j) y, Int.mul_assoc, Int.mul_assoc]
  congr 1
  rw [← Int.mul_assoc, Int.mul_comm (2 ^ i) y, Int.mul_assoc]

theorem fV_nil {f : Int} (h : fX f = 0) : fV f = 0 := by
  rw [fV_parts, h]
  exact rv_zero (.inl (by simp))
theorem fV_not {f : Int} (h : 0 < fX f) : fV f ≠ 0 := by
  rw [fV_parts]
  intro k
  rw [rv_eq_zero (Int.le_of_lt (num_pos h _)) (Int.le_of_lt (num_pos (by decide) _))] at k
  have := num_pos h (max (fY f) 0).toNat
  have := num_pos (x := 1) (by decide) (max (-fY f) 0).toNat
  omega
theorem rat_mul_ne {a b : Rat} (ha : a ≠ 0) (hb : b ≠ 0) : a * b ≠ 0 := by
  intro h
  rcases Rat.mul_eq_zero.1 h with k | k
  · exact ha k
  · exact hb k

/-- The product of two floats that are not nought, rounded. -/
theorem mul_round {a b : Int} (ha : 0 < fX a) (hb : 0 < fX b) (md : Int) :
    fV a * fV b ≠ 0 ∧ dF md (fV a * fV b) = rF md (fS a != fS b) (rN (fX a * fX b) (eP (fY a + fY b)) (eQ (fY a + fY b))) (rS (fX a * fX b) (eP (fY a + fY b)) (eQ (fY a + fY b)) false) ∧
    dG md (fV a * fV b) = rG md (fS a != fS b) (rN (fX a * fX b) (eP (fY a + fY b)) (eQ (fY a + fY b))) (rS (fX a * fX b) (eP (fY a + fY b)) (eQ (fY a + fY b)) false) := by
  have hne := rat_mul_ne (fV_not ha) (fV_not hb)
  have hP := Int.mul_pos (num_pos ha (max (fY a) 0).toNat) (num_pos hb (max (fY b) 0).toNat)
  have hQ := Int.mul_pos (num_pos (x := 1) (by decide) (max (-fY a) 0).toNat) (num_pos (x := 1) (by decide) (max (-fY b) 0).toNat)
  have e : fV a * fV b = rv (fS a != fS b) (2 ^ (max (fY a) 0).toNat * fX a * (2 ^ (max (fY b) 0).toNat * fX b)) (2 ^ (max (-fY a) 0).toNat * 1 * (2 ^ (max (-fY b) 0).toNat * 1)) := by
    rw [fV_parts a, fV_parts b]
    exact (rv_mul (Int.le_of_lt (num_pos (by decide) _)) (Int.le_of_lt (num_pos (by decide) _))).symm
  obtain ⟨l1, l2, l3⟩ := nX_low (s := (fS a != fS b)) hP hQ
  have pq := eP_eQ (fY a + fY b)
  have cross : 2 ^ (max (fY a) 0).toNat * fX a * (2 ^ (max (fY b) 0).toNat * fX b) * q2 1075 * 2 ^ eQ (fY a + fY b) = fX a * fX b * 2 ^ eP (fY a + fY b) * (2 ^ (max (-fY a) 0).toNat * 1 * (2 ^ (max (-fY b) 0).toNat * 1)) := by
    rw [pw4, pw4, Int.one_mul, Int.one_mul]
    unfold q2
    rw [Int.mul_assoc, Int.mul_assoc, Int.mul_assoc (fX a * fX b), ← Int.pow_add, ← Int.pow_add, ← Int.pow_add]
    congr 2
    omega
  obtain ⟨c1, c2⟩ := same_frac hQ (pow_pos' (eQ (fY a + fY b))) cross
  refine ⟨hne, ?_⟩
  unfold dF dG
  rw [if_neg hne, if_neg hne]
  rw [e, l1, l2, l3]
  have n1 : nX (2 ^ (max (fY a) 0).toNat * fX a * (2 ^ (max (fY b) 0).toNat * fX b)) (2 ^ (max (-fY a) 0).toNat * 1 * (2 ^ (max (-fY b) 0).toNat * 1)) = rN (fX a * fX b) (eP (fY a + fY b)) (eQ (fY a + fY b)) := c1
  have n2 : sX (2 ^ (max (fY a) 0).toNat * fX a * (2 ^ (max (fY b) 0).toNat * fX b)) (2 ^ (max (-fY a) 0).toNat * 1 * (2 ^ (max (-fY b) 0).toNat * 1)) = rS (fX a * fX b) (eP (fY a + fY b)) (eQ (fY a + fY b)) false := by
    unfold sX rS
    rw [Bool.or_false]
    exact dec_iff c2
  rw [n1, n2]
  exact ⟨rfl, rfl⟩

/-- A fraction of which a quotient of 54 bits or more, and whether there is a rest, are known. -/
theorem frac_gen {p q up : Int} (hp : 0 < p) (hq : 0 < q) (md : Int) (neg : Bool) (Q : Int) (rest : Bool) (hQ : Q = p * 2 ^ (max up 0).toNat / (q * 2 ^ (max (-up) 0).toNat)) (hR : rest = decide (p * 2 ^ (max up 0).toNat % (q * 2 ^ (max (-up) 0).toNat) ≠ 0)) (hb : 54 ≤ blen Q) :
    rF md neg (rN Q (eP (-up)) (eQ (-up))) (rS Q (eP (-up)) (eQ (-up)) rest) = rF md neg (nX p q) (sX p q) ∧ rG md neg (rN Q (eP (-up)) (eQ (-up))) (rS Q (eP (-up)) (eQ (-up)) rest) = rG md neg (nX p q) (sX p q) := by
  by_cases h : up ≤ 1075
  · have hq' : eQ (-up) = 0 := by unfold eQ; omega
    have hs : rS Q (eP (-up)) (eQ (-up)) rest = rest := by
      unfold rS
      rw [hq']
      simp [Int.emod_one]
    have hn : rN Q (eP (-up)) (eQ (-up)) = Q * 2 ^ eP (-up) := by
      unfold rN
      rw [hq']
      simp
    rw [hs, hn]
    have e0 : p * q2 1075 * 2 ^ (max (-up) 0).toNat = p * 2 ^ (max up 0).toNat * 2 ^ eP (-up) := by
      unfold q2
      rw [Int.mul_assoc, Int.mul_assoc, ← Int.pow_add, ← Int.pow_add]
      congr 2
      unfold eP
      omega
    obtain ⟨l1, l2⟩ := left_q (y := p * q2 1075) hq (eP (-up))
    obtain ⟨s1, s2⟩ := scale_div (y := p * q2 1075) (d := q * 2 ^ eP (-up)) (c := 2 ^ (max (-up) 0).toNat) (pow_pos' _)
    obtain ⟨t1, t2⟩ := scale_div (y := p * 2 ^ (max up 0).toNat) (d := q * 2 ^ (max (-up) 0).toNat) (c := 2 ^ eP (-up)) (pow_pos' _)
    have e1 : q * 2 ^ eP (-up) * 2 ^ (max (-up) 0).toNat = q * 2 ^ (max (-up) 0).toNat * 2 ^ eP (-up) := Int.mul_right_comm _ _ _
    rw [e0, e1] at s1 s2
    have hN : nX p q / 2 ^ eP (-up) = Q := by
      unfold nX
      rw [← l1, ← s1, t1, hQ]
    have hS : (nX p q % 2 ^ eP (-up) ≠ 0 ∨ sX p q = true) ↔ rest = true := by
      rw [hR, decide_eq_true_eq, ← t2, s2, l2]
      unfold sX nX
      rw [decide_eq_true_eq]
      exact Or.comm
    obtain ⟨a1, a2, a3, a4⟩ := same_low hN hS (nX_nn (Int.le_of_lt hp) hq) hb
    exact rSame a1 a2 a3 a4
  · have hp' : eP (-up) = 0 := by unfold eP; omega
    have hz : (max (-up) 0).toNat = 0 := by omega
    rw [hz] at hQ hR
    rw [Int.pow_zero, Int.mul_one] at hQ hR
    obtain ⟨l1, l2⟩ := left_q (y := p * 2 ^ (max up 0).toNat) hq (eQ (-up))
    have e0 : p * 2 ^ (max up 0).toNat = p * q2 1075 * 2 ^ eQ (-up) := by
      unfold q2
      rw [Int.mul_assoc, ← Int.pow_add]
      congr 2
      unfold eQ
      omega
    obtain ⟨s1, s2⟩ := scale_div (y := p * q2 1075) (d := q) (c := 2 ^ eQ (-up)) (pow_pos' _)
    rw [← hQ] at l2
    rw [← hQ] at l1
    have hr : p * 2 ^ (max up 0).toNat % q ≠ 0 ↔ rest = true := by rw [hR, decide_eq_true_eq]
    rw [hr] at l2
    rw [e0, s1] at l1
    rw [e0, s2] at l2
    have hn : rN Q (eP (-up)) (eQ (-up)) = nX p q := by
      unfold rN
      rw [hp', Int.pow_zero, Int.mul_one, ← l1]
      rfl
    have hs : rS Q (eP (-up)) (eQ (-up)) rest = sX p q := by
      unfold rS sX
      rw [hp', Int.pow_zero, Int.mul_one, Bool.eq_iff_iff]
      simp only [Bool.or_eq_true, decide_eq_true_eq]
      rw [l2]
      exact Or.comm
    rw [hn, hs]
    exact ⟨rfl, rfl⟩

/-- The quotient of two floats that are not nought, as a fraction. -/
theorem div_parts {a b : Int} (ha : 0 < fX a) (hb : 0 < fX b) (md : Int) :
    ∃ P Q : Int, 0 < P ∧ 0 < Q ∧ P * (fX b * (2 ^ (max (fY b) 0).toNat * 2 ^ (max (-fY a) 0).toNat)) = Q * (fX a * (2 ^ (max (fY a) 0).toNat * 2 ^ (max (-fY b) 0).toNat)) ∧
      fV a / fV b ≠ 0 ∧ dF md (fV a / fV b) = rF md (fS a != fS b) (nX P Q) (sX P Q) ∧ dG md (fV a / fV b) = rG md (fS a != fS b) (nX P Q) (sX P Q) := by
  have hP := Int.mul_pos (num_pos ha (max (fY a) 0).toNat) (num_pos (x := 1) (by decide) (max (-fY b) 0).toNat)
  have hQ := Int.mul_pos (num_pos (x := 1) (by decide) (max (-fY a) 0).toNat) (num_pos hb (max (fY b) 0).toNat)
  have e : fV a / fV b = rv (fS a != fS b) (2 ^ (max (fY a) 0).toNat * fX a * (2 ^ (max (-fY b) 0).toNat * 1)) (2 ^ (max (-fY a) 0).toNat * 1 * (2 ^ (max (fY b) 0).toNat * fX b)) := by
    rw [fV_parts a, fV_parts b]
    exact (rv_div (Int.le_of_lt (num_pos (by decide) _)) (num_pos hb _) (num_pos (by decide) _)).symm
  obtain ⟨l1, l2, l3⟩ := nX_low (s := (fS a != fS b)) hP hQ
  have hne : fV a / fV b ≠ 0 := by
    rw [e]
    intro k
    rw [rv_eq_zero (Int.le_of_lt hP) (Int.le_of_lt hQ)] at k
    omega
  refine ⟨_, _, hP, hQ, ?_, hne, ?_⟩
  · rw [pw4, pw4, Int.mul_one, Int.one_mul, ← Int.pow_add, ← Int.pow_add, Nat.add_comm (max (fY b) 0).toNat]
    rw [Int.mul_left_comm, Int.mul_comm (fX b), Int.mul_left_comm, Int.mul_comm (fX a), Int.mul_comm (fX a)]
    simp only [Int.mul_assoc, Int.mul_comm, Int.mul_left_comm]
  · unfold dF dG
    rw [if_neg hne, if_neg hne, e, l1, l2, l3]
    exact ⟨rfl, rfl⟩

theorem cross_mul {P Q X Y : Int} {c d u v : Nat} (h : P * (Y * 2 ^ c) = Q * (X * 2 ^ d)) (e : c + u = d + v) : X * 2 ^ u * Q = P * 2 ^ v * Y := by
  refine Int.eq_of_mul_eq_mul_right (Int.ne_of_gt (pow_pos' d)) ?_
  have e1 : X * 2 ^ u * Q * 2 ^ d = Q * (X * 2 ^ d) * 2 ^ u := by
    simp only [Int.mul_assoc, Int.mul_comm, Int.mul_left_comm]
  have e2 : P * 2 ^ v * Y * 2 ^ d = P * Y * 2 ^ (d + v) := by
    rw [Int.pow_add]
    simp only [Int.mul_assoc, Int.mul_comm, Int.mul_left_comm]
  rw [e1, ← h, e2, ← e, Int.pow_add]
  simp only [Int.mul_assoc]
theorem blen_pow_mul {x : Int} (h : 0 < x) (hx : blen x ≤ 64) : blen (x * 2 ^ (128 - blen x).toNat) = 128 := by
  rw [blen_mul h]
  have := blen_nn x
  omega
/-- What the program rounds for a quotient. -/
theorem div_round {a b : Int} (ha : 0 < fX a) (hb : 0 < fX b) (md Q R : Int) (hq : Q * fX b + R = fX a * 2 ^ (128 - blen (fX a)).toNat) (hR0 : 0 ≤ R) (hR1 : R < fX b) :
    0 < Q ∧ fV a / fV b ≠ 0 ∧
      rF md (fS a != fS b) (rN Q (eP (fY a - (128 - blen (fX a)) - fY b)) (eQ (fY a - (128 - blen (fX a)) - fY b))) (rS Q (eP (fY a - (128 - blen (fX a)) - fY b)) (eQ (fY a - (128 - blen (fX a)) - fY b)) (decide (R ≠ 0) && decide (54 ≤ blen Q))) = dF md (fV a / fV b) ∧
      rG md (fS a != fS b) (rN Q (eP (fY a - (128 - blen (fX a)) - fY b)) (eQ (fY a - (128 - blen (fX a)) - fY b))) (rS Q (eP (fY a - (128 - blen (fX a)) - fY b)) (eQ (fY a - (128 - blen (fX a)) - fY b)) (decide (R ≠ 0) && decide (54 ≤ blen Q))) = dG md (fV a / fV b) := by
  have hl : 0 ≤ blen (fX a) ∧ blen (fX a) ≤ 64 := by
    have h1 := blen_nn (fX a)
    have h2 := blen_le2 (k := 64) (Int.le_of_lt ha) (by have := (fX_bd (f := a)).2; have e : (2 : Int) ^ 64 = 18446744073709551616 := by decide
                                                        omega)
    exact ⟨h1, h2⟩
  obtain ⟨P, D, hP, hD, hc, hne, f1, f2⟩ := div_parts ha hb md
  obtain ⟨n, hn⟩ : ∃ n : Nat, (128 - blen (fX a)).toNat = n := ⟨_, rfl⟩
  have hbl := blen_pow_mul ha hl.2
  rw [hn] at hbl hq
  have hA0 : 0 < fX a * 2 ^ n := Int.mul_pos ha (pow_pos' n)
  have u := (Int.ediv_emod_unique hb (a := fX a * 2 ^ n) (q := Q) (r := R)).2 ⟨by rw [Int.mul_comm] at hq; omega, hR0, hR1⟩
  have hQbig : 9007199254740992 ≤ Q := by
    obtain ⟨j, e1, e2, e3⟩ := blen_at hA0
    have hj : j = 127 := by omega
    subst hj
    rw [← u.1, Int.le_ediv_iff_mul_le hb]
    have h1 : 9007199254740992 * fX b ≤ 9007199254740992 * 9007199254740992 := Int.mul_le_mul_of_nonneg_left (by have := (fX_bd (f := b)).2; omega) (by decide)
    have h2 : (9007199254740992 : Int) * 9007199254740992 ≤ 2 ^ 127 := by decide
    omega
  obtain ⟨up, hup⟩ : ∃ up, fY a - (128 - blen (fX a)) - fY b = -up := ⟨_, (Int.neg_neg _).symm⟩
  rw [hup]
  rw [← Int.pow_add, ← Int.pow_add] at hc
  have cr := cross_mul (c := (max (fY b) 0).toNat + (max (-fY a) 0).toNat) (d := (max (fY a) 0).toNat + (max (-fY b) 0).toNat) (u := n + (max (-up) 0).toNat) (v := (max up 0).toNat) hc (by omega)
  rw [Int.pow_add, ← Int.mul_assoc, Int.mul_assoc (fX a * 2 ^ n), Int.mul_comm (2 ^ (max (-up) 0).toNat)] at cr
  obtain ⟨s1, s2⟩ := same_frac hb (Int.mul_pos hD (pow_pos' (max (-up) 0).toNat)) cr
  rw [u.1] at s1
  rw [u.2] at s2
  obtain ⟨g1, g2⟩ := frac_gen hP hD md (fS a != fS b) Q (decide (R ≠ 0)) s1 (dec_iff s2) (blen_big hQbig)
  refine ⟨by omega, hne, ?_, ?_⟩
  · rw [decide_eq_true (blen_big hQbig), Bool.and_true, f1]
    exact g1
  · rw [decide_eq_true (blen_big hQbig), Bool.and_true, f2]
    exact g2
/-- What the reference rounds for a quotient. -/
theorem div_ref {a b : Int} (ha : 0 < fX a) (hb : 0 < fX b) (md : Int) :
    rF md (fS a != fS b) (hN (fX a) (fX b) (fY a - fY b)) (hS (fX a) (fX b) (fY a - fY b) false) = dF md (fV a / fV b) ∧
    rG md (fS a != fS b) (hN (fX a) (fX b) (fY a - fY b)) (hS (fX a) (fX b) (fY a - fY b) false) = dG md (fV a / fV b) := by
  obtain ⟨P, D, hP, hD, hc, hne, f1, f2⟩ := div_parts ha hb md
  rw [← Int.pow_add, ← Int.pow_add] at hc
  have pq := eP_eQ (fY a - fY b)
  have cr := cross_mul (c := (max (fY b) 0).toNat + (max (-fY a) 0).toNat) (d := (max (fY a) 0).toNat + (max (-fY b) 0).toNat) (u := eP (fY a - fY b)) (v := 1075 + eQ (fY a - fY b)) hc (by omega)
  rw [Int.pow_add, ← Int.mul_assoc, Int.mul_assoc (P * 2 ^ 1075), Int.mul_comm (2 ^ eQ (fY a - fY b))] at cr
  obtain ⟨s1, s2⟩ := same_frac (Int.mul_pos hb (pow_pos' (eQ (fY a - fY b)))) hD cr
  have n1 : hN (fX a) (fX b) (fY a - fY b) = nX P D := s1
  have n2 : hS (fX a) (fX b) (fY a - fY b) false = sX P D := by
    unfold hS sX
    rw [Bool.or_false]
    exact dec_iff s2
  rw [n1, n2, f1, f2]
  exact ⟨rfl, rfl⟩

/-- The root of a natural number, rounded down. -/
def iRn : Nat → Nat
  | 0 => 0
  | n + 1 => if (iRn n + 1) * (iRn n + 1) ≤ n + 1 then iRn n + 1 else iRn n
theorem iRn_is : ∀ n : Nat, iRn n * iRn n ≤ n ∧ n < (iRn n + 1) * (iRn n + 1)
  | 0 => by simp [iRn]
  | n + 1 => by
    obtain ⟨h1, h2⟩ := iRn_is n
    unfold iRn
    by_cases h : (iRn n + 1) * (iRn n + 1) ≤ n + 1
    · rw [if_pos h]
      refine ⟨h, ?_⟩
      have e : (iRn n + 1 + 1) * (iRn n + 1 + 1) = (iRn n + 1) * (iRn n + 1) + 2 * (iRn n + 1) + 1 := by
        rw [Nat.add_mul, Nat.mul_add]
        omega
      omega
    · rw [if_neg h]
      exact ⟨by omega, by omega⟩
/-- A float's number, squared and in halves of the least unit squared; its root, rounded down; whether it is not the root. -/
def qA (f : Int) : Int := fX f * 2 ^ (fY f + 2150).toNat
def qN (f : Int) : Int := (iRn (qA f).toNat : Nat)
def qS (f : Int) : Bool := decide (qN f * qN f ≠ qA f)
theorem qA_nn (f : Int) : 0 ≤ qA f := Int.mul_nonneg fX_bd.1 (Int.le_of_lt (pow_pos' _))
theorem qN_is (f : Int) : 0 ≤ qN f ∧ qN f * qN f ≤ qA f ∧ qA f < (qN f + 1) * (qN f + 1) := by
  obtain ⟨h1, h2⟩ := iRn_is (qA f).toNat
  have h0 := qA_nn f
  have e : ((qA f).toNat : Int) = qA f := Int.toNat_of_nonneg h0
  have h1' : ((iRn (qA f).toNat * iRn (qA f).toNat : Nat) : Int) ≤ ((qA f).toNat : Nat) := by omega
  have h2' : (((qA f).toNat : Nat) : Int) < (((iRn (qA f).toNat + 1) * (iRn (qA f).toNat + 1) : Nat) : Int) := by omega
  rw [Int.natCast_mul, e] at h1'
  rw [Int.natCast_mul, e, Int.natCast_add] at h2'
  exact ⟨by unfold qN; omega, h1', h2'⟩
theorem sq_lt {a b : Int} (ha : 0 ≤ a) (h : a < b) : a * a < b * b := by
  have h1 := Int.mul_le_mul_of_nonneg_left (Int.le_of_lt h) ha
  have h2 := Int.mul_lt_mul_of_pos_right h (show 0 < b by omega)
  omega
theorem sq_le {a b : Int} (ha : 0 ≤ a) (h : a ≤ b) : a * a ≤ b * b := by
  rcases Int.lt_or_eq_of_le h with k | k
  · exact Int.le_of_lt (sq_lt ha k)
  · rw [k]; exact Int.le_refl _
theorem sq_mul (r p : Int) : r * p * (r * p) = r * r * (p * p) := by simp only [Int.mul_comm, Int.mul_left_comm]
/-- A root that is cut off, and whether something is left, is rounded as the whole one. -/
theorem root_round {m r A N : Int} {P : Nat} (hm : A = m * (2 ^ P * 2 ^ P)) (hr0 : 0 ≤ r) (hr1 : r * r ≤ m) (hr2 : m < (r + 1) * (r + 1)) (hN0 : 0 ≤ N) (hN1 : N * N ≤ A) (hN2 : A < (N + 1) * (N + 1)) (hb : 54 ≤ blen r) (rest : Bool) (hrest : rest = decide (r * r ≠ m)) (md : Int) (neg : Bool) :
    rF md neg (rN r P 0) (rS r P 0 (rest && decide (54 ≤ blen r))) = rF md neg N (decide (N * N ≠ A)) ∧ rG md neg (rN r P 0) (rS r P 0 (rest && decide (54 ≤ blen r))) = rG md neg N (decide (N * N ≠ A)) := by
  have hp := pow_pos' P
  have hpp := Int.mul_pos hp hp
  have l1 : r * 2 ^ P ≤ N := by
    rcases Int.lt_or_le N (r * 2 ^ P) with h | h
    · exfalso
      have a1 := sq_le (show 0 ≤ N + 1 by omega) (show N + 1 ≤ r * 2 ^ P by omega)
      rw [sq_mul] at a1
      have a2 := Int.mul_le_mul_of_nonneg_right hr1 (Int.le_of_lt hpp)
      omega
    · exact h
  have l2 : N < (r + 1) * 2 ^ P := by
    rcases Int.lt_or_le N ((r + 1) * 2 ^ P) with h | h
    · exact h
    · exfalso
      have a1 := sq_le (Int.mul_nonneg (show 0 ≤ r + 1 by omega) (Int.le_of_lt hp)) h
      rw [sq_mul] at a1
      have a2 := Int.mul_lt_mul_of_pos_right hr2 hpp
      omega
  have e2 : N = 2 ^ P * r + (N - r * 2 ^ P) := by rw [Int.mul_comm]; omega
  have l3 : N - r * 2 ^ P < 2 ^ P := by rw [Int.add_mul, Int.one_mul] at l2; omega
  have u := (Int.ediv_emod_unique hp (a := N) (q := r) (r := N - r * 2 ^ P)).2 ⟨by omega, by omega, l3⟩
  have hS : (N % 2 ^ P ≠ 0 ∨ decide (N * N ≠ A) = true) ↔ rest = true := by
    rw [u.2, hrest, decide_eq_true_eq, decide_eq_true_eq]
    constructor
    · rintro h k
      have k2 : A = r * 2 ^ P * (r * 2 ^ P) := by rw [sq_mul, k, hm]
      have k3 : N = r * 2 ^ P := by
        rcases Int.lt_or_eq_of_le l1 with h3 | h3
        · have := sq_lt (Int.mul_nonneg hr0 (Int.le_of_lt hp)) h3
          omega
        · exact h3.symm
      rcases h with h | h
      · omega
      · rw [k3] at h
        exact h k2.symm
    · intro k
      rcases Int.lt_or_eq_of_le l1 with h3 | h3
      · exact .inl (by omega)
      · right
        intro h
        rw [← h3, sq_mul, hm] at h
        exact k (Int.eq_of_mul_eq_mul_right (Int.ne_of_gt hpp) h)
  obtain ⟨a1, a2, a3, a4⟩ := same_low u.1 hS hN0 hb
  have hn : rN r P 0 = r * 2 ^ P := by unfold rN; simp
  have hs : rS r P 0 rest = rest := by unfold rS; simp
  rw [decide_eq_true hb, Bool.and_true, hn, hs]
  exact rSame a1 a2 a3 a4
end Go.Proofs.YtgjgcehoakacoaaGreatDoor
