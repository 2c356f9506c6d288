/-
  Plain arithmetic of a division of two words by one, half a word at a time: no program in sight.
-/
import Derived.Test.YtbpgallhlfjgjaaShr2
namespace Go.Proofs.Ytbpgallhlfjgjaa
open Go.RowKit

/-- What a guess of half a word of the quotient is: u times 2^32 and the half word d are divided by y1 times 2^32 and y0; q is not too small, and q times y1 and r are u. -/
structure Guess (u d y1 y0 q r : Int) : Prop where
  q0 : 0 ≤ q
  qle : q ≤ 4294967297
  r0 : 0 ≤ r
  r1 : r < 4294967296
  sum : q * y1 + r = u
  big : u * 4294967296 + d < (q + 1) * (y1 * 4294967296 + y0)

/-- The divisor, and the number that is divided. -/
structure Halves (u d y1 y0 : Int) : Prop where
  u0 : 0 ≤ u
  u1 : u < y1 * 4294967296 + y0
  d0 : 0 ≤ d
  d1 : d < 4294967296
  y10 : 2147483648 ≤ y1
  y11 : y1 < 4294967296
  y00 : 0 ≤ y0
  y01 : y0 < 4294967296

/-- The quotient's half word is found. -/
structure Found (u d y1 y0 q : Int) : Prop where
  q0 : 0 ≤ q
  q1 : q < 4294967296
  lo : q * (y1 * 4294967296 + y0) ≤ u * 4294967296 + d
  hi : u * 4294967296 + d < (q + 1) * (y1 * 4294967296 + y0)

theorem found_lt {u d y1 y0 q : Int} (h : Halves u d y1 y0) (_hq : 0 ≤ q) (hlo : q * (y1 * 4294967296 + y0) ≤ u * 4294967296 + d) : q < 4294967296 := by
  obtain ⟨u0, u1, d0, d1, y10, y11, y00, y01⟩ := h
  rcases Int.lt_or_le q 4294967296 with h | h
  · exact h
  · exfalso
    have := Int.mul_le_mul_of_nonneg_right h (show 0 ≤ y1 * 4294967296 + y0 by omega)
    omega

theorem guess_first {u d y1 y0 : Int} (h : Halves u d y1 y0) : Guess u d y1 y0 (u / y1) (u - u / y1 * y1) := by
  obtain ⟨u0, u1, d0, d1, y10, y11, y00, y01⟩ := h
  have hp : 0 < y1 := by omega
  have e := Int.ediv_mul_add_emod u y1
  have m0 := Int.emod_nonneg u (Int.ne_of_gt hp)
  have m1 := Int.emod_lt_of_pos u hp
  have q0 : 0 ≤ u / y1 := Int.ediv_nonneg u0 (Int.le_of_lt hp)
  generalize u / y1 = q at *
  generalize u % y1 = r at *
  refine ⟨q0, ?_, by omega, by omega, by omega, ?_⟩
  · rcases Int.lt_or_le q 4294967298 with h | h
    · omega
    · have := Int.mul_le_mul_of_nonneg_right h (Int.le_of_lt hp)
      omega
  · have k1 : (q + 1) * (y1 * 4294967296 + y0) = q * y1 * 4294967296 + y1 * 4294967296 + (q + 1) * y0 := by
      rw [Int.mul_add, ← Int.mul_assoc, Int.add_mul q 1 y1, Int.add_mul]
      omega
    have k2 : 0 ≤ (q + 1) * y0 := Int.mul_nonneg (by omega) y00
    rw [k1]
    omega

/-- The guess is too great: one less is a guess, too, or it is found. -/
theorem guess_next {u d y1 y0 q r : Int} (h : Halves u d y1 y0) (g : Guess u d y1 y0 q r) (hc : 4294967296 ≤ q ∨ 4294967296 * r + d < q * y0) :
    1 ≤ q ∧ r + y1 < 18446744073709551616 ∧ (4294967296 ≤ r + y1 → Found u d y1 y0 (q - 1)) ∧ (r + y1 < 4294967296 → Guess u d y1 y0 (q - 1) (r + y1)) := by
  obtain ⟨q0, qle, r0, r1, sum, big⟩ := g
  have h' := h
  obtain ⟨u0, u1, d0, d1, y10, y11, y00, y01⟩ := h
  have k1 : q * (y1 * 4294967296 + y0) = q * y1 * 4294967296 + q * y0 := by rw [Int.mul_add, ← Int.mul_assoc]
  have k2 : (q - 1) * (y1 * 4294967296 + y0) = q * (y1 * 4294967296 + y0) - (y1 * 4294967296 + y0) := by rw [Int.sub_mul, Int.one_mul]
  have less : u * 4294967296 + d < q * (y1 * 4294967296 + y0) := by
    rcases hc with hc | hc
    · have := Int.mul_le_mul_of_nonneg_right hc (show 0 ≤ y1 * 4294967296 + y0 by omega)
      omega
    · rw [k1]
      omega
  have q1 : 1 ≤ q := by
    rcases Int.lt_or_le q 1 with h | h
    · exfalso
      have : q = 0 := by omega
      subst this
      omega
    · exact h
  have s1 : (q - 1) * y1 = q * y1 - y1 := by rw [Int.sub_mul, Int.one_mul]
  refine ⟨q1, by omega, fun hr => ?_, fun hr => ⟨by omega, by omega, by omega, hr, by omega, by rw [show q - 1 + 1 = q by omega]; exact less⟩⟩
  have k3 : (q - 1) * y0 ≤ 4294967296 * 4294967295 := Int.mul_le_mul (by omega) (by omega) y00 (by decide)
  have lo : (q - 1) * (y1 * 4294967296 + y0) ≤ u * 4294967296 + d := by
    rw [Int.mul_add, ← Int.mul_assoc, s1]
    omega
  exact ⟨by omega, found_lt h' (by omega) lo, lo, by rw [show q - 1 + 1 = q by omega]; exact less⟩

/-- The guess is right. -/
theorem guess_done {u d y1 y0 q r : Int} (g : Guess u d y1 y0 q r) (hc : ¬ 4294967296 ≤ q) (hd : ¬ 4294967296 * r + d < q * y0) : Found u d y1 y0 q := by
  obtain ⟨q0, qle, r0, r1, sum, big⟩ := g
  refine ⟨q0, by omega, ?_, big⟩
  rw [Int.mul_add, ← Int.mul_assoc]
  omega

/-- What is left is below the divisor. -/
theorem found_rest {u d y1 y0 q : Int} (f : Found u d y1 y0 q) : 0 ≤ u * 4294967296 + d - q * (y1 * 4294967296 + y0) ∧ u * 4294967296 + d - q * (y1 * 4294967296 + y0) < y1 * 4294967296 + y0 := by
  obtain ⟨_, _, lo, hi⟩ := f
  rw [Int.add_mul, Int.one_mul] at hi
  omega
end Go.Proofs.Ytbpgallhlfjgjaa
