/-
  Plain arithmetic of shifts over words of 64 bits: no program in sight.
-/
import Derived.Test.YtbpgallhlfjgjaaMul
namespace Go.Proofs.Ytbpgallhlfjgjaa
open Go.RowKit

theorem pow_pos' (j : Nat) : (0 : Int) < 2 ^ j := Int.pow_pos (by decide)
theorem pow_split (j : Nat) (hj : j ≤ 64) : (2 : Int) ^ (64 - j) * 2 ^ j = 18446744073709551616 := by
  rw [← Int.pow_add, show 64 - j + j = 64 by omega]
  decide
/-- The word x shifted up by j: what leaves it above, and what stays. -/
theorem shl_split (x : Int) (j : Nat) (hj : j ≤ 64) : x * 2 ^ j = x / 2 ^ (64 - j) * 18446744073709551616 + IntKind.u64.wrap (x * 2 ^ j) := by
  have e : x * 2 ^ j / 18446744073709551616 = x / 2 ^ (64 - j) := by
    rw [← pow_split j hj]
    exact Int.mul_ediv_mul_of_pos_left _ _ (pow_pos' j)
  rw [IntKind.wrap_u64, ← e]
  omega
theorem shr_lt (y : Int) (hy : Word y) (j : Nat) (hj : j ≤ 64) : 0 ≤ y / 2 ^ (64 - j) ∧ y / 2 ^ (64 - j) < 2 ^ j := by
  refine ⟨Int.ediv_nonneg hy.1 (Int.le_of_lt (pow_pos' _)), ?_⟩
  have := pow_split j hj
  rw [Int.ediv_lt_iff_lt_mul (pow_pos' _), Int.mul_comm, this]
  exact hy.2
theorem pow_le64 (j : Nat) (hj : j ≤ 64) : (2 : Int) ^ j ≤ 18446744073709551616 := by
  have h1 := pow_split j hj
  have h2 := pow_pos' (64 - j)
  have h3 := pow_pos' j
  have : 1 * (2 : Int) ^ j ≤ 2 ^ (64 - j) * 2 ^ j := Int.mul_le_mul_of_nonneg_right (by omega) (Int.le_of_lt h3)
  omega
/-- What is shifted up and what comes in below have no bit in common. -/
theorem or_shl (x y : Int) (hx : Word x) (hy : 0 ≤ y) (j : Nat) (hj : j ≤ 64) (hy' : y < 2 ^ j) :
    bits .or .u64 (IntKind.u64.wrap (x * 2 ^ j)) y = IntKind.u64.wrap (x * 2 ^ j) + y := by
  obtain ⟨x, hx', rfl⟩ := word_nat hx
  obtain ⟨y, rfl⟩ := Int.eq_ofNat_of_zero_le hy
  have hp := pow_le64 j hj
  have e : IntKind.u64.wrap ((x : Int) * 2 ^ j) = ((2 ^ j * (x % 2 ^ (64 - j)) : Nat) : Int) := by
    rw [IntKind.wrap_u64, show (18446744073709551616 : Int) = ((2 ^ (64 - j) * 2 ^ j : Nat) : Int) by simp [pow_split j hj], show ((x : Int) * 2 ^ j) = ((x * 2 ^ j : Nat) : Int) by simp, ← Int.natCast_emod, Nat.mul_mod_mul_right, Nat.mul_comm]
  have hyn : y < 2 ^ j := by
    have : (y : Int) < ((2 ^ j : Nat) : Int) := by simpa using hy'
    omega
  have hlt : 2 ^ j * (x % 2 ^ (64 - j)) + y < 18446744073709551616 := by
    have h1 : x % 2 ^ (64 - j) + 1 ≤ 2 ^ (64 - j) := Nat.mod_lt _ (Nat.two_pow_pos _)
    have h2 : 2 ^ j * (x % 2 ^ (64 - j) + 1) ≤ 2 ^ j * 2 ^ (64 - j) := Nat.mul_le_mul_left _ h1
    rw [← Nat.pow_add, show j + (64 - j) = 64 by omega, Nat.mul_add] at h2
    omega
  rw [e, bits_or_u64_nat _ _ (by omega) (by omega), ← Nat.two_pow_add_eq_or_of_lt hyn, Int.natCast_add]
/-- What stays of a word that is shifted up has j noughts below. -/
theorem or_lt (x : Int) (j : Nat) (hj : j ≤ 64) : 0 ≤ IntKind.u64.wrap (x * 2 ^ j) ∧ IntKind.u64.wrap (x * 2 ^ j) + 2 ^ j ≤ 18446744073709551616 := by
  refine ⟨by rw [IntKind.wrap_u64]; omega, ?_⟩
  have e : IntKind.u64.wrap (x * 2 ^ j) = x % 2 ^ (64 - j) * 2 ^ j := by
    rw [IntKind.wrap_u64, ← pow_split j hj, Int.mul_comm x, Int.mul_comm (2 ^ (64 - j)), Int.mul_emod_mul_of_pos _ _ (pow_pos' j), Int.mul_comm]
  have h1 := Int.emod_lt_of_pos x (pow_pos' (64 - j))
  have h2 : (x % 2 ^ (64 - j) + 1) * 2 ^ j ≤ 2 ^ (64 - j) * 2 ^ j := Int.mul_le_mul_of_nonneg_right (by omega) (Int.le_of_lt (pow_pos' j))
  rw [pow_split j hj, Int.add_mul] at h2
  rw [e]
  omega
end Go.Proofs.Ytbpgallhlfjgjaa
