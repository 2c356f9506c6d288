/-
  The reference of layer 5: the contract of Magnitude. Conditions: rows of not too many bits.
-/
import Derived.Test.YtdjhpplcdkgfgaaDoorHfloor
namespace Go.Proofs.YtdjhpplcdkgfgaaDoor
open Go.RowKit
set_option maxRecDepth 100000

theorem gK_of {u : Nat} {W : Int} (h0 : 0 ≤ W) (h1 : W ≤ 9007199254740992) (hu : 0 < u → 4503599627370496 ≤ W) : gK ((u : Int) * 4503599627370496 + W) = W * 2 ^ u := by
  unfold gK gZ
  by_cases a : W < 4503599627370496
  · have : u = 0 := by omega
    subst this
    rw [if_pos (by omega)]
    simp
    omega
  · rw [if_neg (by omega)]
    by_cases b : W < 9007199254740992
    · rw [show (((u : Int) * 4503599627370496 + W) / 4503599627370496 - 1).toNat = u by omega, show 4503599627370496 + ((u : Int) * 4503599627370496 + W) % 4503599627370496 = W by omega]
    · have : W = 9007199254740992 := by omega
      subst this
      rw [show (((u : Int) * 4503599627370496 + 9007199254740992) / 4503599627370496 - 1).toNat = u + 1 by omega, show 4503599627370496 + ((u : Int) * 4503599627370496 + 9007199254740992) % 4503599627370496 = 4503599627370496 by omega, Int.pow_succ, Int.mul_comm (2 ^ u) 2, ← Int.mul_assoc]
      rfl
/-- The key below a number, as if there were no greatest float. -/
def K0 (n : Int) : Int := (rU n : Int) * 4503599627370496 + rW n
theorem K0_nn {n : Int} (h : 0 ≤ n) : 0 ≤ K0 n := by have := (rW_bd h).1; unfold K0; omega
theorem n_parts {n : Int} : n = (2 * rW n + b2i (rH n)) * 2 ^ rU n + n % 2 ^ rU n := by
  have d := Int.ediv_mul_add_emod n (2 ^ rU n)
  have e : n / 2 ^ rU n = 2 * rW n + b2i (rH n) := by
    unfold rW rH b2i
    rw [(left_two (rU n) 1).1]
    simp only [Int.pow_one, decide_eq_true_eq]
    split <;> omega
  rw [e] at d
  omega
theorem K0_floor {n : Int} (h : 0 ≤ n) : 2 * gK (K0 n) ≤ n ∧ n < 2 * gK (K0 n + 1) := by
  obtain ⟨h0, h1, h2⟩ := rW_bd h
  have e1 := gK_of (u := rU n) h0 (by omega) h2
  have e2 := gK_of (u := rU n) (W := rW n + 1) (by omega) (by omega) (by intro h; have := h2 h; omega)
  unfold K0
  rw [Int.add_assoc, e1, e2]
  have p := n_parts (n := n)
  have hp := pow_pos' (rU n)
  have r0 := Int.emod_nonneg n (Int.ne_of_gt hp)
  have r1 := Int.emod_lt_of_pos n hp
  have b := b2i_bd (rH n)
  generalize (2 : Int) ^ rU n = z at *
  generalize n % z = r at *
  generalize b2i (rH n) = c at *
  generalize rW n = W at *
  rw [p]
  have k1 : 0 ≤ c * z := Int.mul_nonneg b.1 (Int.le_of_lt hp)
  have k2 : c * z ≤ 1 * z := Int.mul_le_mul_of_nonneg_right b.2 (Int.le_of_lt hp)
  rw [Int.add_mul, Int.add_mul, Int.mul_assoc]
  omega
theorem floor_key {n k : Int} (h : 0 ≤ n) (hk : IsFloor n k) : k = min (K0 n) 9218868437227405312 := by
  obtain ⟨k0, k1, k2, k3⟩ := hk
  obtain ⟨f1, f2⟩ := K0_floor h
  have hz := K0_nn h
  rcases Int.lt_trichotomy k (K0 n) with a | a | a
  · by_cases b : k ≤ 9218868437227405311
    · have := k3 b
      rcases Int.lt_or_eq_of_le (show k + 1 ≤ K0 n by omega) with c | c
      · have := gK_lt (by omega) c
        omega
      · rw [c] at this
        omega
    · omega
  · omega
  · rcases Int.lt_or_eq_of_le (show K0 n + 1 ≤ k by omega) with c | c
    · have := gK_lt (by omega) c
      omega
    · rw [c] at f2
      omega
theorem key_of (md : Int) (neg : Bool) (n : Int) (s : Bool) : rKey md neg n s = K0 n + b2i (rAway md neg n s) := rfl

/-- What the reference asks about a number below the greatest float. -/
theorem ask_exact {n : Int} {s : Bool} (h : 0 ≤ n) : (cmpS n s (2 * gK (K0 n)) == 0) = rX n s := by
  obtain ⟨h0, h1, h2⟩ := rW_bd h
  have e1 := gK_of (u := rU n) h0 (by omega) h2
  have p := n_parts (n := n)
  have hp := pow_pos' (rU n)
  have r0 := Int.emod_nonneg n (Int.ne_of_gt hp)
  unfold K0
  rw [e1]
  unfold rX rB cmpS
  generalize (2 : Int) ^ rU n = z at *
  generalize n % z = r at *
  generalize rW n = W at *
  have e3 : 2 * (W * z) = 2 * W * z := by rw [Int.mul_assoc]
  rw [e3]
  cases hH : rH n
  · rw [hH, show b2i false = 0 by rfl, Int.add_zero] at p
    by_cases hr : r = 0
    · subst hr
      rw [show n = 2 * W * z by omega]
      cases s <;> simp
    · rw [if_neg (by omega), if_neg (by omega)]
      simp [hr]
  · rw [hH, show b2i true = 1 by rfl, Int.add_mul] at p
    rw [if_neg (by omega), if_neg (by omega)]
    simp
theorem ask_under {n : Int} {s : Bool} (h : 0 ≤ n) : decide (cmpS n s 9007199254740992 < 0) = decide (rW n < 4503599627370496) := by
  have e : n < 9007199254740992 ↔ rW n < 4503599627370496 := by
    rw [rW_small h]
    constructor
    · intro h1
      exact blen_le2 (k := 52) (by omega) (by have : (2 : Int) ^ 52 = 4503599627370496 := by decide
                                              omega)
    · intro h1
      have := blen_lt (a := n / 2) (k := 52) (by omega) h1
      have e2 : (2 : Int) ^ 52 = 4503599627370496 := by decide
      omega
  unfold cmpS
  by_cases hn : n < 9007199254740992
  · rw [if_pos hn, decide_eq_true (e.1 hn)]
    rfl
  · rw [if_neg hn, decide_eq_false (fun h => hn (e.2 h))]
    split <;> rfl
theorem mid_is {n : Int} (h : 0 ≤ n) : (2 * gm (K0 n) + 1) * 2 ^ (gy (K0 n) - 1 + 1075).toNat = (2 * rW n + 1) * 2 ^ rU n := by
  obtain ⟨h0, h1, h2⟩ := rW_bd h
  have e1 : gm (K0 n) = rW n := by
    unfold gm K0
    split <;> omega
  have e2 : (gy (K0 n) - 1 + 1075).toNat = rU n := by
    unfold gy K0
    split <;> omega
  rw [e1, e2]
theorem ask_mid {n : Int} {s : Bool} : decide (0 < cmpS n s ((2 * rW n + 1) * 2 ^ rU n)) = (rH n && rB n s) ∧ (cmpS n s ((2 * rW n + 1) * 2 ^ rU n) == 0) = (rH n && !rB n s) := by
  have p := n_parts (n := n)
  have hp := pow_pos' (rU n)
  have r0 := Int.emod_nonneg n (Int.ne_of_gt hp)
  have r1 := Int.emod_lt_of_pos n hp
  unfold rB cmpS
  generalize (2 : Int) ^ rU n = z at *
  generalize n % z = r at *
  generalize rW n = W at *
  cases hH : rH n
  · rw [hH, show b2i false = 0 by rfl, Int.add_zero] at p
    rw [Int.add_mul, if_pos (by omega)]
    exact ⟨rfl, rfl⟩
  · rw [hH, show b2i true = 1 by rfl] at p
    by_cases hr : r = 0
    · subst hr
      rw [show n = (2 * W + 1) * z by omega]
      cases s <;> simp
    · rw [if_neg (by omega), if_neg (by omega)]
      simp [hr]
theorem K0_odd {n : Int} (h : 0 ≤ n) : (K0 n).tmod 2 = rW n % 2 := by
  rw [Int.tmod_eq_emod_of_nonneg (K0_nn h)]
  unfold K0
  omega
end Go.Proofs.YtdjhpplcdkgfgaaDoor
