/-
  Plain arithmetic of shifts to the right over words of 64 bits: no program in sight.
-/
import Derived.Test.YtbpgallhlfjgjaaShl2
namespace Go.Proofs.Ytbpgallhlfjgjaa
open Go.RowKit

/-- The number n, in three words, and whether a bit that is 1 was shifted out. -/
def IsShr3 (a : Int) (k : Nat) (v : Value) : Prop := ∃ h m l : Int, Word h ∧ Word m ∧ Word l ∧ V3 h m l = a / 2 ^ k ∧ v = .tuple #[.agg #[.int .u64 h, .int .u64 m, .int .u64 l], .bool (decide (a % 2 ^ k ≠ 0))]

theorem or_comm_u64 {a b : Int} (ha : Word a) (hb : Word b) : bits .or .u64 a b = bits .or .u64 b a := by
  obtain ⟨a, ha', rfl⟩ := word_nat ha
  obtain ⟨b, hb', rfl⟩ := word_nat hb
  rw [bits_or_u64_nat _ _ ha' hb', bits_or_u64_nat _ _ hb' ha', Nat.or_comm]
theorem word_div {x : Int} (h : Word x) (k : Nat) : Word (x / 2 ^ k) := by
  refine ⟨Int.ediv_nonneg h.1 (Int.le_of_lt (pow_pos' _)), ?_⟩
  have := Int.ediv_le_self (2 ^ k) h.1
  have := h.2
  omega
theorem word_wrap (x : Int) : Word (IntKind.u64.wrap x) := by rw [IntKind.wrap_u64]; exact word_mod _
theorem V3_pos {h m l : Int} (w1 : Word h) (w2 : Word m) (w3 : Word l) : 0 ≤ V3 h m l ∧ V3 h m l < 6277101735386680763835789423207666416102355444464034512896 := by
  obtain ⟨_, _⟩ := w1; obtain ⟨_, _⟩ := w2; obtain ⟨_, _⟩ := w3
  unfold V3
  constructor <;> omega

/-- One word down. -/
theorem shr_word (h m l j : Int) (w3 : Word l) (hj : 64 ≤ j) : V3 0 h m / 2 ^ (j - 64).toNat = V3 h m l / 2 ^ j.toNat ∧ (V3 h m l % 2 ^ j.toNat ≠ 0 ↔ l ≠ 0 ∨ V3 0 h m % 2 ^ (j - 64).toNat ≠ 0) := by
  have e : (2 : Int) ^ j.toNat = 18446744073709551616 * 2 ^ (j - 64).toNat := by
    rw [show j.toNat = 64 + (j - 64).toNat by omega, Int.pow_add]
    rfl
  have e2 : V3 h m l = V3 0 h m * 18446744073709551616 + l := by unfold V3; omega
  have hp := pow_pos' (j - 64).toNat
  obtain ⟨l0, l1⟩ := w3
  rw [e]
  generalize (2 : Int) ^ (j - 64).toNat = p at *
  generalize V3 0 h m = q at *
  rw [e2]
  have d1 : (q * 18446744073709551616 + l) / 18446744073709551616 = q := by omega
  have d2 : (q * 18446744073709551616 + l) / (18446744073709551616 * p) = q / p := by
    rw [← Int.ediv_ediv_of_nonneg (by decide), d1]
  refine ⟨d2.symm, ?_⟩
  have d3 : (q * 18446744073709551616 + l) % (18446744073709551616 * p) = (q % p) * 18446744073709551616 + l := by
    have k1 := Int.mul_ediv_add_emod (q * 18446744073709551616 + l) (18446744073709551616 * p)
    have k2 := Int.mul_ediv_add_emod q p
    rw [d2, Int.mul_assoc] at k1
    omega
  rw [d3]
  have := Int.emod_nonneg q (Int.ne_of_gt hp)
  omega

/-- Less than a word down. -/
theorem shr3_eq {h m l : Int} (w1 : Word h) (w2 : Word m) (w3 : Word l) (k : Nat) (hk : k < 64) :
    (∃ h' m' l' : Int, Word h' ∧ Word m' ∧ Word l' ∧ V3 h' m' l' = V3 h m l / 2 ^ k ∧ h' = h / 2 ^ k ∧ m' = bits BinOp.or IntKind.u64 (m / 2 ^ k) (IntKind.u64.wrap (h * 2 ^ (64 - k))) ∧ l' = bits BinOp.or IntKind.u64 (l / 2 ^ k) (IntKind.u64.wrap (m * 2 ^ (64 - k))))
      ∧ (V3 h m l % 2 ^ k ≠ 0 ↔ IntKind.u64.wrap (l * 2 ^ (64 - k)) ≠ 0) := by
  have hb := pow_split k (by omega)
  have hp := pow_pos' k
  have hq := pow_pos' (64 - k)
  have s1 := shr_lt m w2 (64 - k) (by omega)
  have s2 := shr_lt l w3 (64 - k) (by omega)
  have s0 := shr_lt h w1 (64 - k) (by omega)
  have t0 := pow_le64 (64 - k) (by omega)
  have b1 := or_lt h (64 - k) (by omega)
  have b2 := or_lt m (64 - k) (by omega)
  rw [show 64 - (64 - k) = k by omega] at s0 s1 s2
  have wr : ∀ x : Int, IntKind.u64.wrap (x * 2 ^ (64 - k)) = x % 2 ^ k * 2 ^ (64 - k) := fun x => by
    rw [IntKind.wrap_u64, ← hb, Int.mul_comm x, Int.mul_emod_mul_of_pos _ _ hq, Int.mul_comm]
  rw [or_comm_u64 (word_div w2 k) (word_wrap _), or_comm_u64 (word_div w3 k) (word_wrap _), or_shl h _ w1 s1.1 _ (by omega) s1.2, or_shl m _ w2 s2.1 _ (by omega) s2.2]
  have xh : IntKind.u64.wrap (h * 2 ^ (64 - k)) * 2 ^ k = h % 2 ^ k * 18446744073709551616 := by rw [wr, Int.mul_assoc, hb]
  have xm : IntKind.u64.wrap (m * 2 ^ (64 - k)) * 2 ^ k = m % 2 ^ k * 18446744073709551616 := by rw [wr, Int.mul_assoc, hb]
  have zl : IntKind.u64.wrap (l * 2 ^ (64 - k)) ≠ 0 ↔ l % 2 ^ k ≠ 0 := by
    rw [wr]
    refine ⟨fun h e => h (by rw [e]; simp), fun h e => ?_⟩
    rcases Int.mul_eq_zero.1 e with e | e
    · exact h e
    · omega
  have dh := Int.ediv_mul_add_emod h (2 ^ k)
  have dm := Int.ediv_mul_add_emod m (2 ^ k)
  have dl := Int.ediv_mul_add_emod l (2 ^ k)
  have rl := Int.emod_nonneg l (Int.ne_of_gt hp)
  have rl' := Int.emod_lt_of_pos l hp
  rw [zl]
  generalize IntKind.u64.wrap (h * 2 ^ (64 - k)) = X at *
  generalize IntKind.u64.wrap (m * 2 ^ (64 - k)) = Y at *
  have eV : V3 (h / 2 ^ k) (X + m / 2 ^ k) (Y + l / 2 ^ k) * 2 ^ k + l % 2 ^ k = V3 h m l := by
    unfold V3
    rw [Int.add_mul, Int.add_mul, Int.mul_right_comm, Int.mul_right_comm (X + m / 2 ^ k), Int.add_mul X, Int.add_mul Y]
    omega
  have eD : V3 h m l / 2 ^ k = V3 (h / 2 ^ k) (X + m / 2 ^ k) (Y + l / 2 ^ k) := by
    rw [← eV, Int.add_comm, Int.add_mul_ediv_right _ _ (Int.ne_of_gt hp), Int.ediv_eq_zero_of_lt rl rl']
    omega
  have eM : V3 h m l % 2 ^ k = l % 2 ^ k := by
    rw [← eV, Int.add_comm, Int.add_mul_emod_self_right, Int.emod_emod_of_dvd _ (Int.dvd_refl _)]
  rw [eM]
  exact ⟨⟨_, _, _, word_div w1 k, ⟨by omega, by omega⟩, ⟨by omega, by omega⟩, eD.symm, rfl, rfl, rfl⟩, Iff.rfl⟩
end Go.Proofs.Ytbpgallhlfjgjaa
