/-
  Seventeen digits of a float are read as it: mathematics of what deci's expand and shortest reckon. No function of the program.
-/
import Derived.Test.YthofjlgngandoaaGreatDoorMath8
import Derived.Test.YthofjlgngandoaaGreatDoorDeca
namespace Go.Proofs.YthofjlgngandoaaGreatDoor
open Go.RowKit
set_option maxRecDepth 100000

/-- Powers of 2 and of 10, with a negative exponent 1. -/
def p2 (z : Int) : Int := 2 ^ (max z 0).toNat
def p10 (z : Int) : Int := 10 ^ (max z 0).toNat
theorem p2_pos (z : Int) : 0 < p2 z := Int.pow_pos (by decide)
theorem p10_pos (z : Int) : 0 < p10 z := Int.pow_pos (by decide)
theorem p2_tri (u v : Int) : p2 u * p2 v * p2 (-(u + v)) = p2 (u + v) * p2 (-u) * p2 (-v) := by
  unfold p2
  rw [← Int.pow_add, ← Int.pow_add, ← Int.pow_add, ← Int.pow_add]
  congr 1
  omega
theorem p10_tri (u v : Int) : p10 u * p10 v * p10 (-(u + v)) = p10 (u + v) * p10 (-u) * p10 (-v) := by
  unfold p10
  rw [← Int.pow_add, ← Int.pow_add, ← Int.pow_add, ← Int.pow_add]
  congr 1
  omega
theorem p2_one {z : Int} (h : z ≤ 0) : p2 z = 1 := by unfold p2; rw [show (max z 0).toNat = 0 by omega]; rfl
theorem p10_one {z : Int} (h : z ≤ 0) : p10 z = 1 := by unfold p10; rw [show (max z 0).toNat = 0 by omega]; rfl
theorem p10_nat (n : Nat) : p10 (n : Int) = 10 ^ n := by unfold p10; rw [show (max (n : Int) 0).toNat = n by omega]

/-- The power of ten below a power of two. -/
def lg (t : Int) : Int := t * 78913 / 262144
def lgC (i : Nat) : Bool :=
  Nat.ble (10 ^ (max (lg ((i : Int) - 1074)) 0).toNat * 2 ^ (max (-((i : Int) - 1074)) 0).toNat) (2 ^ (max ((i : Int) - 1074) 0).toNat * 10 ^ (max (-lg ((i : Int) - 1074)) 0).toNat) &&
  Nat.blt (2 ^ (max ((i : Int) - 1074) 0).toNat * 10 ^ (max (-(lg ((i : Int) - 1074) + 1)) 0).toNat) (10 ^ (max (lg ((i : Int) - 1074) + 1) 0).toNat * 2 ^ (max (-((i : Int) - 1074)) 0).toNat)
def allB (f : Nat → Bool) : Nat → Bool
  | 0 => true
  | n + 1 => f n && allB f n
theorem allB_at {f : Nat → Bool} : ∀ {n : Nat}, allB f n = true → ∀ i, i < n → f i = true
  | 0, _, i, h => by omega
  | n + 1, h, i, hi => by
    simp only [allB, Bool.and_eq_true] at h
    by_cases e : i = n
    · rw [e]; exact h.1
    · exact allB_at h.2 i (by omega)
theorem lg_all : allB lgC 2099 = true := by decide +kernel
theorem lg_tab {t : Int} (h0 : -1074 ≤ t) (h1 : t ≤ 1024) : p10 (lg t) * p2 (-t) ≤ p2 t * p10 (-lg t) ∧ p2 t * p10 (-(lg t + 1)) < p10 (lg t + 1) * p2 (-t) := by
  have h := allB_at lg_all (t + 1074).toNat (by omega)
  unfold lgC at h
  rw [show (((t + 1074).toNat : Nat) : Int) - 1074 = t by omega] at h
  simp only [Bool.and_eq_true] at h
  obtain ⟨a, b⟩ := h
  have a' := Int.ofNat_le.2 (Nat.le_of_ble_eq_true a)
  have b' : _ < _ := Int.ofNat_lt.2 (Nat.le_of_ble_eq_true b)
  unfold p10 p2
  constructor
  · simpa using a'
  · simpa using b'
theorem lg_bd {t : Int} (h0 : -1074 ≤ t) (h1 : t ≤ 1024) : -324 ≤ lg t ∧ lg t ≤ 309 := by unfold lg; omega

/-- What expand reckons of m * 2^e. -/
def exT (m e : Int) : Int := blen m - 1 + e
def exE (m e : Int) : Int := lg (exT m e) - 17
def exN (m e : Int) : Int := m * p2 e * p10 (-exE m e)
def exD (m e : Int) : Int := p2 (-e) * p10 (exE m e)
section
variable {m e : Int}
theorem ex_t (hm : 0 < m) (hm' : m < 9007199254740992) (he : -1074 ≤ e) (he' : e ≤ 971) : -1074 ≤ exT m e ∧ exT m e ≤ 1024 := by
  have h1 := blen_le2 (k := 53) (Int.le_of_lt hm) (by rw [show (2 : Int) ^ 53 = 9007199254740992 by decide]; exact hm')
  obtain ⟨j, h2, -, -⟩ := blen_at hm
  unfold exT
  omega
theorem exD_pos : 0 < exD m e := Int.mul_pos (p2_pos _) (p10_pos _)
theorem exN_nn (hm : 0 < m) : 0 ≤ exN m e := Int.mul_nonneg (Int.mul_nonneg (Int.le_of_lt hm) (Int.le_of_lt (p2_pos _))) (Int.le_of_lt (p10_pos _))
theorem ex_lo (hm : 0 < m) (hm' : m < 9007199254740992) (he : -1074 ≤ e) (he' : e ≤ 971) : 100000000000000000 * exD m e ≤ exN m e := by
  obtain ⟨t0, t1⟩ := ex_t hm hm' he he'
  obtain ⟨L, -⟩ := lg_tab t0 t1
  obtain ⟨j, hj, b0, b1⟩ := blen_at hm
  have et : (j : Int) + e = exT m e := by unfold exT; omega
  have T2 := p2_tri (j : Int) e
  have T10 := p10_tri 17 (exE m e)
  rw [et, p2_one (show -(j : Int) ≤ 0 by omega), Int.mul_one] at T2
  rw [show 17 + exE m e = lg (exT m e) by unfold exE; omega, p10_one (show -(17 : Int) ≤ 0 by omega), Int.mul_one, show p10 17 = 100000000000000000 by decide] at T10
  have e2 : p2 (j : Int) ≤ m := by
    unfold p2
    rw [show (max (j : Int) 0).toNat = j by omega]
    exact b0
  unfold exN exD
  have q1 := p2_pos (-exT m e)
  have q2 := p10_pos (-lg (exT m e))
  have q3 := p2_pos e
  have q4 := p2_pos (-e)
  have q5 := p10_pos (-exE m e)
  generalize p2 (j : Int) = aB at *
  generalize p2 e = ae at *
  generalize p2 (-e) = be at *
  generalize p2 (exT m e) = at' at *
  generalize p2 (-exT m e) = bt at *
  generalize p10 (lg (exT m e)) = Ak at *
  generalize p10 (-lg (exT m e)) = Bk at *
  generalize p10 (exE m e) = AE at *
  generalize p10 (-exE m e) = BE at *
  refine Int.le_of_mul_le_mul_right (a := bt * Bk) ?_ (Int.mul_pos q1 q2)
  calc 100000000000000000 * (be * AE) * (bt * Bk) = (100000000000000000 * AE * Bk) * (be * bt) := by ac_rfl
    _ = (Ak * BE) * (be * bt) := by rw [T10]
    _ = (be * BE) * (Ak * bt) := by ac_rfl
    _ ≤ (be * BE) * (at' * Bk) := Int.mul_le_mul_of_nonneg_left L (Int.le_of_lt (Int.mul_pos q4 q5))
    _ = (at' * be) * (BE * Bk) := by ac_rfl
    _ = (aB * ae * bt) * (BE * Bk) := by rw [T2]
    _ = aB * (ae * bt * BE * Bk) := by ac_rfl
    _ ≤ m * (ae * bt * BE * Bk) := Int.mul_le_mul_of_nonneg_right e2 (Int.le_of_lt (Int.mul_pos (Int.mul_pos (Int.mul_pos q3 q1) q5) q2))
    _ = m * ae * BE * (bt * Bk) := by ac_rfl
theorem ex_hi (hm : 0 < m) (hm' : m < 9007199254740992) (he : -1074 ≤ e) (he' : e ≤ 971) : exN m e < 2000000000000000000 * exD m e := by
  obtain ⟨t0, t1⟩ := ex_t hm hm' he he'
  obtain ⟨-, L⟩ := lg_tab t0 t1
  obtain ⟨j, hj, b0, b1⟩ := blen_at hm
  have et : (j : Int) + e = exT m e := by unfold exT; omega
  have T2 := p2_tri (j : Int) e
  have T10 := p10_tri 18 (exE m e)
  rw [et, p2_one (show -(j : Int) ≤ 0 by omega), Int.mul_one] at T2
  rw [show 18 + exE m e = lg (exT m e) + 1 by unfold exE; omega, p10_one (show -(18 : Int) ≤ 0 by omega), Int.mul_one, show p10 18 = 1000000000000000000 by decide] at T10
  have e2 : m < 2 * p2 (j : Int) := by
    unfold p2
    rw [show (max (j : Int) 0).toNat = j by omega]
    rw [Int.pow_succ] at b1
    omega
  unfold exN exD
  have q1 := p2_pos (-exT m e)
  have q2 := p10_pos (-(lg (exT m e) + 1))
  have q3 := p2_pos e
  have q4 := p2_pos (-e)
  have q5 := p10_pos (-exE m e)
  generalize p2 (j : Int) = aB at *
  generalize p2 e = ae at *
  generalize p2 (-e) = be at *
  generalize p2 (exT m e) = at' at *
  generalize p2 (-exT m e) = bt at *
  generalize p10 (lg (exT m e) + 1) = Ak at *
  generalize p10 (-(lg (exT m e) + 1)) = Bk at *
  generalize p10 (exE m e) = AE at *
  generalize p10 (-exE m e) = BE at *
  refine Int.lt_of_mul_lt_mul_right (a := bt * Bk) ?_ (Int.le_of_lt (Int.mul_pos q1 q2))
  calc m * ae * BE * (bt * Bk) = m * (ae * bt * BE * Bk) := by ac_rfl
    _ < 2 * aB * (ae * bt * BE * Bk) := Int.mul_lt_mul_of_pos_right e2 (Int.mul_pos (Int.mul_pos (Int.mul_pos q3 q1) q5) q2)
    _ = 2 * ((aB * ae * bt) * (BE * Bk)) := by ac_rfl
    _ = 2 * ((at' * be) * (BE * Bk)) := by rw [T2]
    _ = 2 * (be * BE) * (at' * Bk) := by ac_rfl
    _ < 2 * (be * BE) * (Ak * bt) := Int.mul_lt_mul_of_pos_left L (Int.mul_pos (by decide) (Int.mul_pos q4 q5))
    _ = 2 * ((Ak * BE) * (be * bt)) := by ac_rfl
    _ = 2 * ((1000000000000000000 * AE * Bk) * (be * bt)) := by rw [T10]
    _ = (2 * 1000000000000000000) * (be * AE) * (bt * Bk) := by ac_rfl
    _ = 2000000000000000000 * (be * AE) * (bt * Bk) := by rfl
/-- The digits of the quotient, as a natural number. -/
def exW (m e : Int) : Nat := (exN m e / exD m e).toNat
def exR (m e : Int) : Bool := decide (exN m e % exD m e ≠ 0)
theorem exW_int (hm : 0 < m) : ((exW m e : Nat) : Int) = exN m e / exD m e := by
  unfold exW
  rw [Int.toNat_of_nonneg (Int.ediv_nonneg (exN_nn hm) (Int.le_of_lt exD_pos))]
theorem exW_bd (hm : 0 < m) (hm' : m < 9007199254740992) (he : -1074 ≤ e) (he' : e ≤ 971) : 100000000000000000 ≤ exW m e ∧ exW m e < 2000000000000000000 := by
  have h1 := ex_lo hm hm' he he'
  have h2 := ex_hi hm hm' he he'
  have h3 := exW_int (e := e) hm
  have d := exD_pos (m := m) (e := e)
  have h4 := (Int.le_ediv_iff_mul_le d).2 h1
  have h5 := (Int.ediv_lt_iff_lt_mul d).2 h2
  omega
end
end Go.Proofs.YthofjlgngandoaaGreatDoor
