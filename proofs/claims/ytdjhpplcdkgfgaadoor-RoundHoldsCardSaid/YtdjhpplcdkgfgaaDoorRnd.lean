/-
  Rounding as arithmetic: a number's size in units of half of the least float, what is kept of it, and what is not. No function of the program.
-/
import Derived.Test.YtdjhpplcdkgfgaaDoorPatf
namespace Go.Proofs.YtdjhpplcdkgfgaaDoor
open Go.RowKit
set_option maxRecDepth 100000

theorem pow_lt_of {a b : Nat} (h : (2 : Int) ^ a < 2 ^ b) : a < b := by
  rcases Nat.lt_or_ge a b with h1 | h1
  · exact h1
  · have := pow_mono b a h1; omega
theorem blen_is {a : Int} {k : Nat} (h0 : (2 : Int) ^ k ≤ a) (h1 : a < 2 ^ (k + 1)) : blen a = (k : Int) + 1 := by
  have hp := pow_pos' k
  obtain ⟨j, e, hlt, hge, _⟩ := blen_spec (a := a) (by omega)
  obtain ⟨h2, h3⟩ := hge (by omega)
  have a1 : k < j := pow_lt_of (Int.lt_of_le_of_lt h0 hlt)
  have a2 : j - 1 < k + 1 := pow_lt_of (Int.lt_of_le_of_lt h2 h1)
  rw [e]
  omega
theorem blen_nought : blen 0 = 0 := by decide
theorem blen_at {a : Int} (h : 0 < a) : ∃ j : Nat, blen a = (j : Int) + 1 ∧ (2 : Int) ^ j ≤ a ∧ a < 2 ^ (j + 1) := by
  obtain ⟨j, e, hlt, hge, _⟩ := blen_spec (a := a) (by omega)
  obtain ⟨h2, h3⟩ := hge h
  refine ⟨j - 1, by omega, h2, ?_⟩
  rw [show j - 1 + 1 = j by omega]
  exact hlt
theorem blen_nn (a : Int) : 0 ≤ blen a := by unfold blen; omega
theorem blen_mul {a : Int} (h : 0 < a) (k : Nat) : blen (a * 2 ^ k) = blen a + k := by
  obtain ⟨j, e, h1, h2⟩ := blen_at h
  have hp := pow_pos' k
  have a1 : (2 : Int) ^ (j + k) ≤ a * 2 ^ k := by
    rw [Int.pow_add]
    exact Int.mul_le_mul_of_nonneg_right h1 (Int.le_of_lt hp)
  have a2 : a * 2 ^ k < 2 ^ (j + k + 1) := by
    rw [show j + k + 1 = (j + 1) + k by omega, Int.pow_add]
    exact Int.mul_lt_mul_of_pos_right h2 hp
  rw [blen_is a1 a2, e]
  omega
theorem blen_div {a : Int} (h : 0 ≤ a) (k : Nat) : blen (a / 2 ^ k) = max (blen a - k) 0 := by
  have hp := pow_pos' k
  rcases Int.lt_or_eq_of_le h with h0 | h0
  · obtain ⟨j, e, h1, h2⟩ := blen_at h0
    by_cases hj : j < k
    · have : a / 2 ^ k = 0 := Int.ediv_eq_zero_of_lt h (Int.lt_of_lt_of_le h2 (pow_mono _ _ (by omega)))
      rw [this, blen_nought, e]
      omega
    · have a1 : (2 : Int) ^ (j - k) ≤ a / 2 ^ k := by
        rw [Int.le_ediv_iff_mul_le hp, ← Int.pow_add, show j - k + k = j by omega]
        exact h1
      have a2 : a / 2 ^ k < 2 ^ (j - k + 1) := by
        rw [Int.ediv_lt_iff_lt_mul hp, ← Int.pow_add, show j - k + 1 + k = j + 1 by omega]
        exact h2
      rw [blen_is a1 a2, e]
      omega
  · subst h0
    rw [Int.zero_ediv, blen_nought]
    omega
theorem blen_le2 {a : Int} {k : Nat} (h0 : 0 ≤ a) (h : a < 2 ^ k) : blen a ≤ k := by
  rcases Int.lt_or_eq_of_le h0 with h0 | h0
  · obtain ⟨j, e, h1, h2⟩ := blen_at h0
    have := pow_lt_of (Int.lt_of_le_of_lt h1 h)
    omega
  · subst h0
    rw [blen_nought]
    omega
theorem blen_lt {a : Int} {k : Nat} (h0 : 0 ≤ a) (h : blen a ≤ k) : a < 2 ^ k := by
  rcases Int.lt_or_eq_of_le h0 with h0 | h0
  · obtain ⟨j, e, h1, h2⟩ := blen_at h0
    exact Int.lt_of_lt_of_le h2 (pow_mono _ _ (by omega))
  · subst h0
    exact pow_pos' k

/-- What is left behind two divisions by powers of two. -/
theorem left_two {y : Int} (b u : Nat) : y / 2 ^ (b + u) = y / 2 ^ b / 2 ^ u ∧ (y % 2 ^ (b + u) ≠ 0 ↔ y % 2 ^ b ≠ 0 ∨ y / 2 ^ b % 2 ^ u ≠ 0) := by
  have hb := pow_pos' b
  have hu := pow_pos' u
  have e1 : y / 2 ^ (b + u) = y / 2 ^ b / 2 ^ u := by rw [Int.pow_add, Int.ediv_ediv_of_nonneg (Int.le_of_lt hb)]
  refine ⟨e1, ?_⟩
  have d1 := Int.mul_ediv_add_emod y (2 ^ b)
  have d2 := Int.mul_ediv_add_emod (y / 2 ^ b) (2 ^ u)
  have d3 := Int.mul_ediv_add_emod y (2 ^ (b + u))
  have n1 := Int.emod_nonneg y (Int.ne_of_gt hb)
  have n2 := Int.emod_nonneg (y / 2 ^ b) (Int.ne_of_gt hu)
  rw [e1, Int.pow_add, Int.mul_assoc] at d3
  rw [Int.pow_add]
  have e : y % (2 ^ b * 2 ^ u) = 2 ^ b * (y / 2 ^ b % 2 ^ u) + y % 2 ^ b := by
    rw [← d2, Int.mul_add] at d1
    omega
  rw [e]
  have n3 : 0 ≤ (2 : Int) ^ b * (y / 2 ^ b % 2 ^ u) := Int.mul_nonneg (Int.le_of_lt hb) n2
  constructor
  · intro h
    by_cases h1 : y % 2 ^ b = 0
    · right
      intro h2
      rw [h1, h2] at h
      simp at h
    · exact .inl h1
  · rintro (h | h) h2
    · omega
    · have : (2 : Int) ^ b * (y / 2 ^ b % 2 ^ u) = 0 := by omega
      rcases Int.mul_eq_zero.1 this with h3 | h3
      · omega
      · exact h h3

/-- A number n, in halves of the least float's unit, and whether there is more (s): how many bits are dropped of n / 2, what is kept, the first bit that is not, and whether anything lies behind it. -/
def rU (n : Int) : Nat := (blen (n / 2) - 53).toNat
def rW (n : Int) : Int := n / 2 ^ (rU n + 1)
def rH (n : Int) : Bool := decide (n / 2 ^ rU n % 2 = 1)
def rB (n : Int) (s : Bool) : Bool := decide (n % 2 ^ rU n ≠ 0) || s
/-- Whether nothing is lost. -/
def rX (n : Int) (s : Bool) : Bool := !rH n && !rB n s
/-- Whether it is rounded away from nought: mode 1 is Up, 2 is Down, all others the nearest. -/
def rAway (md : Int) (neg : Bool) (n : Int) (s : Bool) : Bool :=
  if md = 1 then !neg && !rX n s else if md = 2 then neg && !rX n s else rH n && (rB n s || decide (rW n % 2 = 1))
def b2i (b : Bool) : Int := if b then 1 else 0
theorem b2i_bd (b : Bool) : 0 ≤ b2i b ∧ b2i b ≤ 1 := by cases b <;> decide
/-- The key of what it is rounded to, as if there were no greatest float. -/
def rKey (md : Int) (neg : Bool) (n : Int) (s : Bool) : Int := (rU n : Int) * 4503599627370496 + rW n + b2i (rAway md neg n s)
/-- The key beyond all floats. -/
def rBey (md : Int) (neg : Bool) : Int := if (neg = true ∧ md = 1) ∨ (neg = false ∧ md = 2) then 9218868437227405311 else 9218868437227405312
def rMag (md : Int) (neg : Bool) (n : Int) (s : Bool) : Int := if rKey md neg n s ≤ 9218868437227405311 then rKey md neg n s else rBey md neg
/-- The float, and the flags. -/
def rF (md : Int) (neg : Bool) (n : Int) (s : Bool) : Int := rMag md neg n s + sg neg
def rG (md : Int) (neg : Bool) (n : Int) (s : Bool) : Int := if rKey md neg n s ≤ 9218868437227405311 then (if rX n s then 0 else if rW n < 4503599627370496 then 3 else 1) else 5

theorem rW_bd {n : Int} (h : 0 ≤ n) : 0 ≤ rW n ∧ rW n < 9007199254740992 ∧ (0 < rU n → 4503599627370496 ≤ rW n) := by
  have hp := pow_pos' (rU n + 1)
  have h2 : 0 ≤ n / 2 := by omega
  have e : rW n = n / 2 / 2 ^ rU n := by
    unfold rW
    rw [Nat.add_comm, Int.pow_add, ← Int.ediv_ediv_of_nonneg (by decide)]
    rfl
  have hb := blen_div h2 (rU n)
  have hn := blen_nn (n / 2)
  rw [← e] at hb
  have h0 : 0 ≤ rW n := Int.ediv_nonneg h (Int.le_of_lt hp)
  refine ⟨h0, ?_, fun hu => ?_⟩
  · have := blen_lt (k := 53) h0 (by unfold rU at hb; omega)
    exact this
  · have h3 : blen (rW n) = 53 := by unfold rU at hb hu; omega
    rcases Int.lt_or_eq_of_le h0 with h4 | h4
    · obtain ⟨j, e1, e2, e3⟩ := blen_at h4
      have : j = 52 := by omega
      subst this
      exact e2
    · rw [← h4, blen_nought] at h3
      omega
theorem rKey_nn {md n : Int} {neg s : Bool} (h : 0 ≤ n) : 0 ≤ rKey md neg n s := by
  have := (rW_bd h).1
  have := b2i_bd (rAway md neg n s)
  unfold rKey
  omega
theorem rMag_bd {md n : Int} {neg s : Bool} (h : 0 ≤ n) : 0 ≤ rMag md neg n s ∧ rMag md neg n s ≤ 9218868437227405312 := by
  have := rKey_nn (md := md) (neg := neg) (s := s) h
  unfold rMag rBey
  split
  · omega
  · split <;> omega
theorem rF_word {md n : Int} {neg s : Bool} (h : 0 ≤ n) : Word (rF md neg n s) := by
  have := rMag_bd (md := md) (neg := neg) (s := s) h
  have := sg_bd neg
  unfold rF
  constructor <;> omega

/-- Numbers of which the same is kept are rounded alike. -/
theorem rSame {md n n' : Int} {neg s s' : Bool} (h1 : rU n = rU n') (h2 : rW n = rW n') (h3 : rH n = rH n') (h4 : rB n s = rB n' s') : rF md neg n s = rF md neg n' s' ∧ rG md neg n s = rG md neg n' s' := by
  have hx : rX n s = rX n' s' := by unfold rX; rw [h3, h4]
  have ha : rAway md neg n s = rAway md neg n' s' := by unfold rAway; rw [hx, h2, h3, h4]
  have hk : rKey md neg n s = rKey md neg n' s' := by unfold rKey; rw [h1, h2, ha]
  constructor
  · unfold rF rMag; rw [hk]
  · unfold rG; rw [hk, hx, h2]

/-- An integer m times a power of two, p - q, in those halves. -/
def rN (m : Int) (p q : Nat) : Int := m * 2 ^ p / 2 ^ q
def rS (m : Int) (p q : Nat) (r : Bool) : Bool := decide (m * 2 ^ p % 2 ^ q ≠ 0) || r
theorem rN_nn {m : Int} (h : 0 ≤ m) (p q : Nat) : 0 ≤ rN m p q := Int.ediv_nonneg (Int.mul_nonneg h (Int.le_of_lt (pow_pos' _))) (Int.le_of_lt (pow_pos' _))
theorem rN_blen {m : Int} (h : 0 < m) (p q : Nat) : blen (rN m p q / 2) = max (blen m + p - q - 1) 0 := by
  have e : rN m p q / 2 = m * 2 ^ p / 2 ^ (q + 1) := by
    rw [(left_two q 1).1]
    rfl
  rw [e, blen_div (Int.mul_nonneg (Int.le_of_lt h) (Int.le_of_lt (pow_pos' _))), blen_mul h]
  omega
theorem rN_u {m : Int} (h : 0 < m) (p q : Nat) : (rU (rN m p q) : Int) = max (blen m + p - q - 54) 0 := by
  unfold rU
  rw [rN_blen h]
  have := blen_nn m
  omega
/-- What the program cuts off, where it does. -/
theorem rN_cut {m : Int} (p q d : Nat) (r : Bool) (hd : q + rU (rN m p q) = p + d) :
    rW (rN m p q) = m / 2 ^ d / 2 ∧ rH (rN m p q) = decide (m / 2 ^ d % 2 = 1) ∧ rB (rN m p q) (rS m p q r) = (decide (m % 2 ^ d ≠ 0) || r) := by
  have hp := pow_pos' p
  obtain ⟨l1, l2⟩ := left_two (y := m * 2 ^ p) q (rU (rN m p q))
  have e1 : m * 2 ^ p / 2 ^ (q + rU (rN m p q)) = m / 2 ^ d := by
    rw [hd, Nat.add_comm, Int.pow_add, Int.mul_ediv_mul_of_pos_left _ _ hp]
  have e2 : m * 2 ^ p % 2 ^ (q + rU (rN m p q)) = 2 ^ p * (m % 2 ^ d) := by
    rw [hd, Int.pow_add, Int.mul_comm m, Int.mul_emod_mul_of_pos _ _ hp]
  have e3 : rN m p q / 2 ^ rU (rN m p q) = m / 2 ^ d := by rw [← e1, l1]; rfl
  refine ⟨?_, ?_, ?_⟩
  · unfold rW
    rw [(left_two (rU (rN m p q)) 1).1, e3]
    rfl
  · unfold rH
    rw [e3]
  · unfold rB rS
    rw [← Bool.or_assoc]
    congr 1
    rw [Bool.eq_iff_iff]
    simp only [Bool.or_eq_true, decide_eq_true_eq]
    rw [e2] at l2
    rw [show (m * 2 ^ p / 2 ^ q) = rN m p q by rfl] at l2
    constructor
    · intro h h2
      have := l2.2 (h.symm)
      rw [h2] at this
      simp at this
    · intro h
      refine (l2.1 fun h2 => ?_).symm
      rcases Int.mul_eq_zero.1 h2 with h3 | h3
      · omega
      · exact h h3
/-- Where nothing is cut off. -/
theorem rN_whole {m : Int} (p q k : Nat) (hd : q + rU (rN m p q) + 1 + k = p) :
    rW (rN m p q) = m * 2 ^ k ∧ rH (rN m p q) = false ∧ rB (rN m p q) (rS m p q false) = false := by
  have hp := pow_pos' (q + rU (rN m p q))
  have hq := pow_pos' q
  have e0 : m * 2 ^ p = m * 2 ^ k * 2 * 2 ^ (q + rU (rN m p q)) := by
    conv => lhs; rw [← hd]
    rw [show q + rU (rN m p q) + 1 + k = k + (1 + (q + rU (rN m p q))) by omega, Int.pow_add, Int.pow_add 2 1, Int.mul_assoc, Int.mul_assoc]
    rfl
  obtain ⟨l1, l2⟩ := left_two (y := m * 2 ^ p) q (rU (rN m p q))
  have e1 : m * 2 ^ p / 2 ^ (q + rU (rN m p q)) = m * 2 ^ k * 2 := by
    rw [e0, Int.mul_ediv_cancel _ (Int.ne_of_gt hp)]
  have e2 : m * 2 ^ p % 2 ^ (q + rU (rN m p q)) = 0 := by
    rw [e0]
    exact Int.mul_emod_left _ _
  have e3 : rN m p q / 2 ^ rU (rN m p q) = m * 2 ^ k * 2 := by rw [← e1, l1]; rfl
  rw [e2] at l2
  refine ⟨?_, ?_, ?_⟩
  · unfold rW
    rw [(left_two (rU (rN m p q)) 1).1, e3]
    omega
  · unfold rH
    rw [e3]
    simp
  · unfold rB rS
    rw [Bool.or_false]
    simp only [ne_eq, not_true_eq_false, false_iff, not_or, Decidable.not_not] at l2
    rw [show (m * 2 ^ p / 2 ^ q) = rN m p q by rfl] at l2
    simp [l2.1, l2.2]
end Go.Proofs.YtdjhpplcdkgfgaaDoor
