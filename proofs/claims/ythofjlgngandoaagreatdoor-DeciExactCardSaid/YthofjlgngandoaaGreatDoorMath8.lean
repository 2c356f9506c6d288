/-
  What is near enough to a float is rounded to it: a number within half of the way to the floats beside it, and one that differs by less than one part in 2^54. No function of the program.
-/
import Derived.Test.YthofjlgngandoaaGreatDoorM6
namespace Go.Proofs.YthofjlgngandoaaGreatDoor
open Go.RowKit
set_option maxRecDepth 100000

section
variable {p q : Int}
/-- On which side of the middle between two floats a number lies, by how the nearest one is chosen. -/
theorem mid_side (hp : 0 < p) (hq : 0 < q) : (rAway 0 false (nX p q) (sX p q) = false → 2 * (p * dD) ≤ (gK (K0 (nX p q)) + gK (K0 (nX p q) + 1)) * q) ∧ (rAway 0 false (nX p q) (sX p q) = true → (gK (K0 (nX p q)) + gK (K0 (nX p q) + 1)) * q ≤ 2 * (p * dD)) := by
  have hn := nX_nn (Int.le_of_lt hp) hq
  obtain ⟨w0, w1, w2⟩ := rW_bd hn
  have g1 := gK_of (u := rU (nX p q)) w0 (by omega) w2
  have g2 := gK_of (u := rU (nX p q)) (W := rW (nX p q) + 1) (by omega) (by omega) (by intro h; have := w2 h; omega)
  rw [← Int.add_assoc] at g2
  have hK : K0 (nX p q) = (rU (nX p q) : Int) * 4503599627370496 + rW (nX p q) := rfl
  rw [← hK] at g1 g2
  have hM : (2 * rW (nX p q) + 1) * 2 ^ rU (nX p q) = gK (K0 (nX p q)) + gK (K0 (nX p q) + 1) := by
    rw [g1, g2, ← Int.add_mul]
    congr 1
    omega
  obtain ⟨m1, m2⟩ := ask_mid (n := nX p q) (s := sX p q)
  rw [hM] at m1 m2
  have mL := fun h => mid_le (p := p) hq (t := gK (K0 (nX p q)) + gK (K0 (nX p q) + 1)) h
  have mG := fun h => mid_ge (p := p) hq (t := gK (K0 (nX p q)) + gK (K0 (nX p q) + 1)) h
  have aN : rAway 0 false (nX p q) (sX p q) = (rH (nX p q) && (rB (nX p q) (sX p q) || decide (rW (nX p q) % 2 = 1))) := by simp [rAway]
  rw [aN]
  generalize decide (rW (nX p q) % 2 = 1) = o
  generalize cmpS (nX p q) (sX p q) (gK (K0 (nX p q)) + gK (K0 (nX p q) + 1)) = c at *
  generalize rH (nX p q) = a at *
  generalize rB (nX p q) (sX p q) = b at *
  constructor
  · intro h
    refine mL ?_
    rcases Int.lt_or_le 0 c with h1 | h1
    · rw [decide_eq_true h1] at m1
      revert h m1
      cases a <;> cases b <;> cases o <;> simp
    · exact h1
  · intro h
    refine mG ?_
    rcases Int.lt_or_le 0 c with h1 | h1
    · omega
    · rw [decide_eq_false (by omega)] at m1
      rcases Int.lt_or_eq_of_le h1 with h3 | h3
      · have : (c == 0) = false := by simp; omega
        rw [this] at m2
        revert h m1 m2
        cases a <;> cases b <;> cases o <;> simp
      · omega
theorem gK_step {k : Int} (h : 0 ≤ k) : gK k < gK (k + 1) := gK_lt h (by omega)

/-- A number that lies between the middles below and above a float is rounded to it. -/
theorem near_is {k : Int} (hp : 0 < p) (hq : 0 < q) (h0 : 0 < k) (h1 : k ≤ 9218868437227405311) (lo : (gK (k - 1) + gK k) * q < 2 * (p * dD)) (hi : 2 * (p * dD) < (gK k + gK (k + 1)) * q) :
    rKey 0 false (nX p q) (sX p q) = k ∧ rMag 0 false (nX p q) (sX p q) = k := by
  have hn := nX_nn (Int.le_of_lt hp) hq
  obtain ⟨f1, f2⟩ := K0_floor hn
  have k0 := K0_nn hn
  have l1 := gk_below hq f1
  have l2 := gk_above hq f2
  obtain ⟨n1, n2⟩ := mid_side hp hq
  have s0 := gK_step (k := k - 1) (by omega)
  rw [show k - 1 + 1 = k by omega] at s0
  have s1 := gK_step (k := k) (by omega)
  rw [key_of]
  have key : K0 (nX p q) + b2i (rAway 0 false (nX p q) (sX p q)) = k := by
    rw [Int.add_mul] at lo hi
    have t1 := Int.mul_lt_mul_of_pos_right s0 hq
    have t2 := Int.mul_lt_mul_of_pos_right s1 hq
    have hT1 : k - 1 ≤ K0 (nX p q) := by
      rcases Int.lt_or_le (K0 (nX p q)) (k - 1) with c | c
      · exfalso
        have := Int.mul_le_mul_of_nonneg_right (gK_le (show 0 ≤ K0 (nX p q) + 1 by omega) (show K0 (nX p q) + 1 ≤ k - 1 by omega)) (Int.le_of_lt hq)
        omega
      · exact c
    have hT2 : K0 (nX p q) ≤ k := by
      rcases Int.lt_or_le k (K0 (nX p q)) with c | c
      · exfalso
        have := Int.mul_le_mul_of_nonneg_right (gK_le (show 0 ≤ k + 1 by omega) (show k + 1 ≤ K0 (nX p q) by omega)) (Int.le_of_lt hq)
        omega
      · exact c
    rcases (show K0 (nX p q) = k - 1 ∨ K0 (nX p q) = k by omega) with e | e
    · rw [e, show k - 1 + 1 = k by omega, Int.add_mul] at n1
      rw [e]
      cases ha : rAway 0 false (nX p q) (sX p q)
      · have := n1 ha
        omega
      · show k - 1 + 1 = k
        omega
    · rw [e, Int.add_mul] at n2
      rw [e]
      cases ha : rAway 0 false (nX p q) (sX p q)
      · show k + 0 = k
        omega
      · have := n2 ha
        omega
  refine ⟨key, ?_⟩
  unfold rMag
  rw [key_of, key, if_pos h1]
/-- Between two floats there is at least one part in 2^53 of the greater one. -/
theorem gK_gap {k : Int} (h : 0 < k) : gK k ≤ 9007199254740992 * (gK k - gK (k - 1)) := by
  have e1 : gK k = gZ (k / 4503599627370496) (k % 4503599627370496) := rfl
  have e2 : gK (k - 1) = gZ ((k - 1) / 4503599627370496) ((k - 1) % 4503599627370496) := rfl
  have m0 : 0 ≤ k % 4503599627370496 ∧ k % 4503599627370496 < 4503599627370496 := by omega
  by_cases hm : k % 4503599627370496 = 0
  · -- the least one of its exponent
    have d1 : (k - 1) / 4503599627370496 = k / 4503599627370496 - 1 := by omega
    have d2 : (k - 1) % 4503599627370496 = 4503599627370495 := by omega
    have d3 : 0 < k / 4503599627370496 := by omega
    rw [e1, e2, d1, d2, hm]
    generalize k / 4503599627370496 = E at *
    unfold gZ
    rw [if_neg (by omega)]
    by_cases hE : E - 1 = 0
    · rw [if_pos hE, show (E - 1).toNat = 0 by omega, Int.pow_zero]
      omega
    · rw [if_neg hE, show (E - 1).toNat = (E - 1 - 1).toNat + 1 by omega, Int.pow_succ]
      have := pow_pos' (E - 1 - 1).toNat
      generalize (2 : Int) ^ (E - 1 - 1).toNat = z at *
      omega
  · have d1 : (k - 1) / 4503599627370496 = k / 4503599627370496 := by omega
    have d2 : (k - 1) % 4503599627370496 = k % 4503599627370496 - 1 := by omega
    rw [e1, e2, d1, d2]
    generalize k / 4503599627370496 = E at *
    generalize k % 4503599627370496 = M at *
    unfold gZ
    by_cases hE : E = 0
    · rw [if_pos hE, if_pos hE]
      omega
    · rw [if_neg hE, if_neg hE, ← Int.sub_mul, ← Int.mul_assoc]
      exact Int.mul_le_mul_of_nonneg_right (by omega) (Int.le_of_lt (pow_pos' _))
theorem gK_grows {k : Int} (h : 0 < k) : gK k - gK (k - 1) ≤ gK (k + 1) - gK k := by
  have e0 : gK (k + 1) = gZ ((k + 1) / 4503599627370496) ((k + 1) % 4503599627370496) := rfl
  have e1 : gK k = gZ (k / 4503599627370496) (k % 4503599627370496) := rfl
  have e2 : gK (k - 1) = gZ ((k - 1) / 4503599627370496) ((k - 1) % 4503599627370496) := rfl
  have m0 : 0 ≤ k % 4503599627370496 ∧ k % 4503599627370496 < 4503599627370496 := by omega
  have q0 : 0 ≤ k / 4503599627370496 := by omega
  have up : gZ (k / 4503599627370496) (k % 4503599627370496) + (if k / 4503599627370496 = 0 then 1 else 2 ^ (k / 4503599627370496 - 1).toNat) = gZ ((k + 1) / 4503599627370496) ((k + 1) % 4503599627370496) := by
    by_cases hm : k % 4503599627370496 = 4503599627370495
    · have d1 : (k + 1) / 4503599627370496 = k / 4503599627370496 + 1 := by omega
      have d2 : (k + 1) % 4503599627370496 = 0 := by omega
      rw [d1, d2, hm]
      generalize k / 4503599627370496 = E at *
      unfold gZ
      rw [if_neg (by omega : ¬ E + 1 = 0)]
      by_cases hE : E = 0
      · rw [if_pos hE, if_pos hE, hE]; decide
      · rw [if_neg hE, if_neg hE, show (E + 1 - 1).toNat = (E - 1).toNat + 1 by omega, Int.pow_succ]
        generalize (2 : Int) ^ (E - 1).toNat = z
        omega
    · have d1 : (k + 1) / 4503599627370496 = k / 4503599627370496 := by omega
      have d2 : (k + 1) % 4503599627370496 = k % 4503599627370496 + 1 := by omega
      rw [d1, d2]
      generalize k / 4503599627370496 = E at *
      generalize k % 4503599627370496 = M at *
      unfold gZ
      by_cases hE : E = 0
      · rw [if_pos hE, if_pos hE, if_pos hE]
      · rw [if_neg hE, if_neg hE, if_neg hE]
        generalize (2 : Int) ^ (E - 1).toNat = z
        rw [show 4503599627370496 + (M + 1) = 4503599627370496 + M + 1 by omega, Int.add_mul (4503599627370496 + M) 1]
        omega
  have dn : gZ (k / 4503599627370496) (k % 4503599627370496) - (if k / 4503599627370496 = 0 then 1 else 2 ^ (k / 4503599627370496 - 1).toNat) ≤ gZ ((k - 1) / 4503599627370496) ((k - 1) % 4503599627370496) := by
    by_cases hm : k % 4503599627370496 = 0
    · have d1 : (k - 1) / 4503599627370496 = k / 4503599627370496 - 1 := by omega
      have d2 : (k - 1) % 4503599627370496 = 4503599627370495 := by omega
      have d3 : 0 < k / 4503599627370496 := by omega
      rw [d1, d2, hm]
      generalize k / 4503599627370496 = E at *
      unfold gZ
      rw [if_neg (by omega), if_neg (by omega)]
      by_cases hE : E - 1 = 0
      · rw [if_pos hE, show (E - 1).toNat = 0 by omega, Int.pow_zero]
        omega
      · rw [if_neg hE, show (E - 1).toNat = (E - 1 - 1).toNat + 1 by omega, Int.pow_succ]
        have := pow_pos' (E - 1 - 1).toNat
        generalize (2 : Int) ^ (E - 1 - 1).toNat = z at *
        omega
    · have d1 : (k - 1) / 4503599627370496 = k / 4503599627370496 := by omega
      have d2 : (k - 1) % 4503599627370496 = k % 4503599627370496 - 1 := by omega
      rw [d1, d2]
      generalize k / 4503599627370496 = E at *
      generalize k % 4503599627370496 = M at *
      unfold gZ
      by_cases hE : E = 0
      · rw [if_pos hE, if_pos hE, if_pos hE]
        omega
      · rw [if_neg hE, if_neg hE, if_neg hE]
        generalize (2 : Int) ^ (E - 1).toNat = z
        rw [show 4503599627370496 + (M - 1) = 4503599627370496 + M - 1 by omega, Int.sub_mul (4503599627370496 + M) 1]
        omega
  rw [e0, e1, e2, ← up]
  omega
/-- A number that differs from a float by less than one part in 2^54 of it is rounded to it. -/
theorem near_rel {k : Int} (hp : 0 < p) (hq : 0 < q) (h0 : 0 < k) (h1 : k ≤ 9218868437227405311) (lo : 18014398509481984 * (gK k * q - p * dD) < gK k * q) (hi : 18014398509481984 * (p * dD - gK k * q) < gK k * q) :
    rKey 0 false (nX p q) (sX p q) = k ∧ rMag 0 false (nX p q) (sX p q) = k := by
  have g1 := Int.mul_le_mul_of_nonneg_right (gK_gap h0) (Int.le_of_lt hq)
  have g2 := Int.mul_le_mul_of_nonneg_right (gK_grows h0) (Int.le_of_lt hq)
  rw [Int.mul_assoc, Int.sub_mul] at g1
  rw [Int.sub_mul, Int.sub_mul] at g2
  refine near_is hp hq h0 h1 ?_ ?_
  · rw [Int.add_mul]
    generalize gK k * q = a at *
    generalize gK (k - 1) * q = b at *
    generalize gK (k + 1) * q = c at *
    generalize p * dD = x at *
    omega
  · rw [Int.add_mul]
    generalize gK k * q = a at *
    generalize gK (k - 1) * q = b at *
    generalize gK (k + 1) * q = c at *
    generalize p * dD = x at *
    omega
end
/-- A number d that is half of one or less away from x = N / D, which is at least 10^16, differs from x by less than one part in 2^54. -/
theorem near_digits {d N D : Int} (hD : 0 < D) (hx : 10000000000000000 * D ≤ N) (l1 : 2 * (d * D - N) ≤ D) (l2 : 2 * (N - d * D) ≤ D) : 18014398509481984 * (N - d * D) < N ∧ 18014398509481984 * (d * D - N) < N := by
  generalize d * D = x at *
  omega
end Go.Proofs.YthofjlgngandoaaGreatDoor
