/-
  Contract of nat's Pow: a power, or that it is too long. Conditions: the base is a word of 64 bits.
-/
import Derived.Test.YtaollppieonmbaaDoorNgcd
namespace Go.Proofs.YtaollppieonmbaaDoor
open Go.RowKit
set_option maxRecDepth 100000

theorem lt_blen {v : Int} {k : Nat} (h : (2 : Int) ^ k ≤ v) : (k : Int) < blen v := by
  have hp := pow_pos' k
  obtain ⟨K, e, lt, _, _⟩ := blen_spec (show 0 ≤ v by omega)
  rw [e]
  rcases Nat.lt_or_ge k K with h1 | h1
  · omega
  · have := pow_mono K k h1
    omega
theorem pow_early {X b N E : Nat} (h1 : 2 ^ (b - 1) ≤ X) (hb : 65535 / N < b - 1) (hN : 0 < N) (hE : E = 65536) : 2 ^ E ≤ X ^ N := by
  have h2 : (2 ^ (b - 1)) ^ N ≤ X ^ N := Nat.pow_le_pow_left h1 N
  rw [← Nat.pow_mul] at h2
  have h3 := Nat.div_add_mod 65535 N
  have h4 := Nat.mod_lt 65535 hN
  have h5 : (65535 / N + 1) * N ≤ (b - 1) * N := Nat.mul_le_mul_right N hb
  rw [Nat.add_mul, Nat.one_mul, Nat.mul_comm (65535 / N)] at h5
  exact Nat.le_trans (Nat.pow_le_pow_right (by decide) (by omega)) h2
theorem pow_size {X b N k E : Nat} (h1 : X < 2 ^ b) (hb : b ≤ 1 ∨ 0 < N ∧ b - 1 ≤ 65535 / N) (hk : k ≤ N) (hE : E = 131072) : X ^ k < 2 ^ E := by
  rcases Nat.lt_or_ge 1 b with h | h
  · obtain ⟨hN, hb'⟩ := hb.resolve_left (by omega)
    have h3 := Nat.div_mul_le_self 65535 N
    have h5 : (b - 1) * N ≤ 65535 / N * N := Nat.mul_le_mul_right N hb'
    have h6 : 1 * N ≤ (b - 1) * N := Nat.mul_le_mul_right N (by omega)
    have h7 : X ^ k ≤ (2 ^ b) ^ k := Nat.pow_le_pow_left (Nat.le_of_lt h1) k
    rw [← Nat.pow_mul] at h7
    have h8 : b * k ≤ b * N := Nat.mul_le_mul_left b hk
    have h9 : b * N = (b - 1) * N + N := by
      obtain ⟨c, rfl⟩ : ∃ c, b = c + 1 := ⟨b - 1, by omega⟩
      rw [Nat.add_sub_cancel, Nat.add_mul, Nat.one_mul]
    exact Nat.lt_of_le_of_lt h7 (Nat.pow_lt_pow_right (by decide) (by omega))
  · have hX : X ≤ 1 := by
      have : 2 ^ b ≤ 2 ^ 1 := Nat.pow_le_pow_right (by decide) h
      omega
    have h7 : X ^ k ≤ 1 ^ k := Nat.pow_le_pow_left hX k
    rw [Nat.one_pow] at h7
    have : 2 ^ 1 ≤ 2 ^ E := Nat.pow_le_pow_right (by decide) (by omega)
    omega

theorem and_one_i64 (a : Int) (h0 : 0 ≤ a) (h1 : a < 9223372036854775808) : bits BinOp.and IntKind.i64 a 1 = a % 2 := by
  obtain ⟨i, rfl⟩ := Int.eq_ofNat_of_zero_le h0
  have e : (BitVec.ofInt 64 (i : Int)).toNat = i := by
    rw [BitVec.ofInt_natCast, BitVec.toNat_ofNat]
    exact Nat.mod_eq_of_lt (by omega)
  show IntKind.i64.wrap ((BitVec.ofInt 64 (i : Int) &&& BitVec.ofInt 64 1).toNat : Int) = _
  rw [BitVec.toNat_and, e, show (BitVec.ofInt 64 1).toNat = 1 by decide, Nat.and_one_is_mod, IntKind.wrap_i64]
  omega

/-- What Pow hands back. -/
def powV (P : Int) : Int := if blen P ≤ 65536 then P else 0
def powE (P : Int) : Int := if blen P ≤ 65536 then 0 else 20
theorem pow_step (x : Int) (N S k : Nat) (hk : k < S) : x ^ (N / 2 ^ (S - (k + 1))) = x ^ (N / 2 ^ (S - k)) * x ^ (N / 2 ^ (S - k)) * (if N / 2 ^ (S - 1 - k) % 2 = 1 then x else 1) := by
  have e1 : S - (k + 1) = S - 1 - k := by omega
  have e2 : N / 2 ^ (S - k) = N / 2 ^ (S - 1 - k) / 2 := by
    rw [show S - k = S - 1 - k + 1 by omega, Nat.pow_succ, Nat.div_div_eq_div_mul]
  rw [e1, e2]
  generalize N / 2 ^ (S - 1 - k) = m
  have e3 : x ^ m = x ^ (m / 2 + m / 2 + m % 2) := by rw [show m / 2 + m / 2 + m % 2 = m by omega]
  rw [e3, Int.pow_add, Int.pow_add]
  rcases Nat.mod_two_eq_zero_or_one m with h | h
  · rw [h]; simp
  · rw [h, if_pos rfl, show x ^ 1 = x by rw [Int.pow_succ, Int.pow_zero, Int.one_mul]]

end Go.Proofs.YtaollppieonmbaaDoor
