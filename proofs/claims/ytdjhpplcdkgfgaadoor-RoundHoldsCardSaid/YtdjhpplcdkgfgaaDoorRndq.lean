/-
  Rounding of fractions as arithmetic: what a quotient of 63 bits and a rest keep of a fraction. No function of the program.
-/
import Derived.Test.YtdjhpplcdkgfgaaDoorDcut
namespace Go.Proofs.YtdjhpplcdkgfgaaDoor
open Go.RowKit
set_option maxRecDepth 100000

/-- A power of two whose exponent is not written out. -/
def q2 (n : Nat) : Int := 2 ^ n
theorem q2_pos (n : Nat) : 0 < q2 n := pow_pos' n

theorem left_q {y q : Int} (hq : 0 < q) (u : Nat) : y / (q * 2 ^ u) = y / q / 2 ^ u ∧ (y % (q * 2 ^ u) ≠ 0 ↔ y % q ≠ 0 ∨ y / q % 2 ^ u ≠ 0) := by
  have hu := pow_pos' u
  have e1 : y / (q * 2 ^ u) = y / q / 2 ^ u := by rw [Int.ediv_ediv_of_nonneg (Int.le_of_lt hq)]
  refine ⟨e1, ?_⟩
  have d1 := Int.mul_ediv_add_emod y q
  have d2 := Int.mul_ediv_add_emod (y / q) (2 ^ u)
  have d3 := Int.mul_ediv_add_emod y (q * 2 ^ u)
  have n1 := Int.emod_nonneg y (Int.ne_of_gt hq)
  have n2 := Int.emod_nonneg (y / q) (Int.ne_of_gt hu)
  rw [e1, Int.mul_assoc] at d3
  have e : y % (q * 2 ^ u) = q * (y / q % 2 ^ u) + y % q := by
    rw [← d2, Int.mul_add] at d1
    omega
  rw [e]
  have n3 : 0 ≤ q * (y / q % 2 ^ u) := Int.mul_nonneg (Int.le_of_lt hq) n2
  constructor
  · intro h
    by_cases h1 : y % q = 0
    · right
      intro h2
      rw [h1, h2] at h
      simp at h
    · exact .inl h1
  · rintro (h | h) h2
    · omega
    · have : q * (y / q % 2 ^ u) = 0 := by omega
      rcases Int.mul_eq_zero.1 this with h3 | h3
      · omega
      · exact h h3
theorem scale_div {y d c : Int} (hc : 0 < c) : y * c / (d * c) = y / d ∧ (y * c % (d * c) ≠ 0 ↔ y % d ≠ 0) := by
  refine ⟨Int.mul_ediv_mul_of_pos_left _ _ hc, ?_⟩
  rw [Int.mul_comm y, Int.mul_comm d, Int.mul_emod_mul_of_pos _ _ hc]
  constructor
  · intro h h2
    rw [h2] at h
    simp at h
  · intro h h2
    rcases Int.mul_eq_zero.1 h2 with h3 | h3
    · omega
    · exact h h3

/-- A fraction in halves of the least unit, and whether there is more. -/
def nX (p q : Int) : Int := p * q2 1075 / q
def sX (p q : Int) : Bool := decide (p * q2 1075 % q ≠ 0)
theorem nX_nn {p q : Int} (hp : 0 ≤ p) (hq : 0 < q) : 0 ≤ nX p q := Int.ediv_nonneg (Int.mul_nonneg hp (Int.le_of_lt (q2_pos _))) (Int.le_of_lt hq)
theorem nX_scale {p q c : Int} (hc : 0 < c) : nX (p * c) (q * c) = nX p q ∧ sX (p * c) (q * c) = sX p q := by
  have h := scale_div (y := p * q2 1075) (d := q) hc
  unfold nX sX
  rw [Int.mul_right_comm p c]
  refine ⟨h.1, ?_⟩
  rw [Bool.eq_iff_iff, decide_eq_true_eq, decide_eq_true_eq]
  exact h.2

/-- A number and one that has bits behind it are rounded alike, where more is kept back than those bits. -/
theorem same_low {Q N : Int} {P : Nat} {R S : Bool} (hN : N / 2 ^ P = Q) (hS : (N % 2 ^ P ≠ 0 ∨ S = true) ↔ R = true) (h0 : 0 ≤ N) (hQ : 54 ≤ blen Q) :
    rU (Q * 2 ^ P) = rU N ∧ rW (Q * 2 ^ P) = rW N ∧ rH (Q * 2 ^ P) = rH N ∧ rB (Q * 2 ^ P) R = rB N S := by
  have hQ0 : 0 < Q := by
    rcases Int.lt_trichotomy 0 Q with h | h | h
    · exact h
    · rw [← h, blen_nought] at hQ; omega
    · have := Int.ediv_nonneg h0 (Int.le_of_lt (pow_pos' P)); omega
  have b1 := blen_mul hQ0 P
  have b2 := blen_div h0 P
  rw [hN] at b2
  have hm : 0 ≤ Q * 2 ^ P := Int.mul_nonneg (Int.le_of_lt hQ0) (Int.le_of_lt (pow_pos' _))
  have c1 := blen_div hm 1
  have c2 := blen_div h0 1
  rw [show (2 : Int) ^ 1 = 2 by rfl] at c1 c2
  have eU : rU (Q * 2 ^ P) = rU N := by unfold rU; rw [c1, c2]; omega
  have hU : ∃ k, rU N = P + k := ⟨rU N - P, by unfold rU; rw [c2]; omega⟩
  obtain ⟨k, hk⟩ := hU
  obtain ⟨l1, l2⟩ := left_two (y := N) P k
  obtain ⟨m1, m2⟩ := left_two (y := Q * 2 ^ P) P k
  have e1 : Q * 2 ^ P / 2 ^ P = Q := Int.mul_ediv_cancel _ (Int.ne_of_gt (pow_pos' P))
  have e2 : Q * 2 ^ P % 2 ^ P = 0 := Int.mul_emod_left _ _
  rw [hN] at l1 l2
  rw [e1] at m1 m2
  rw [e2] at m2
  refine ⟨eU, ?_, ?_, ?_⟩
  · unfold rW
    rw [eU, (left_two (rU N) 1).1, (left_two (rU N) 1).1, hk, l1, m1]
  · unfold rH
    rw [eU, hk, l1, m1]
  · unfold rB
    rw [eU, hk, Bool.eq_iff_iff]
    simp only [Bool.or_eq_true, decide_eq_true_eq]
    rw [l2, m2, ← hS]
    constructor
    · rintro ((h | h) | (h | h))
      · exact absurd rfl h
      · exact .inl (.inr h)
      · exact .inl (.inl h)
      · exact .inr h
    · rintro ((h | h) | h)
      · exact .inr (.inl h)
      · exact .inl (.inr h)
      · exact .inr (.inr h)

/-- The quotient has 63 bits or 64. -/
theorem quot_bd {p q up : Int} (hp : 0 < p) (hq : 0 < q) (hup : up = 63 - (blen p - blen q)) :
    0 < q * 2 ^ (max (-up) 0).toNat ∧ 63 ≤ blen (p * 2 ^ (max up 0).toNat / (q * 2 ^ (max (-up) 0).toNat)) ∧ p * 2 ^ (max up 0).toNat / (q * 2 ^ (max (-up) 0).toNat) < 18446744073709551616 := by
  obtain ⟨i, e1, e2, e3⟩ := blen_at hp
  obtain ⟨j, f1, f2, f3⟩ := blen_at hq
  have ha := pow_pos' (max up 0).toNat
  have hb := pow_pos' (max (-up) 0).toNat
  have hd : 0 < q * 2 ^ (max (-up) 0).toNat := Int.mul_pos hq hb
  have g1 : (2 : Int) ^ (i + (max up 0).toNat) ≤ p * 2 ^ (max up 0).toNat := by rw [Int.pow_add]; exact Int.mul_le_mul_of_nonneg_right e2 (Int.le_of_lt ha)
  have g2 : p * 2 ^ (max up 0).toNat < 2 ^ (i + 1 + (max up 0).toNat) := by rw [Int.pow_add]; exact Int.mul_lt_mul_of_pos_right e3 ha
  have g3 : (2 : Int) ^ (j + (max (-up) 0).toNat) ≤ q * 2 ^ (max (-up) 0).toNat := by rw [Int.pow_add]; exact Int.mul_le_mul_of_nonneg_right f2 (Int.le_of_lt hb)
  have g4 : q * 2 ^ (max (-up) 0).toNat < 2 ^ (j + 1 + (max (-up) 0).toNat) := by rw [Int.pow_add]; exact Int.mul_lt_mul_of_pos_right f3 hb
  have q1 : (2 : Int) ^ 62 ≤ p * 2 ^ (max up 0).toNat / (q * 2 ^ (max (-up) 0).toNat) := by
    rw [Int.le_ediv_iff_mul_le hd]
    have k1 : (2 : Int) ^ 62 * (q * 2 ^ (max (-up) 0).toNat) ≤ 2 ^ 62 * 2 ^ (j + 1 + (max (-up) 0).toNat) := Int.mul_le_mul_of_nonneg_left (Int.le_of_lt g4) (by decide)
    rw [← Int.pow_add] at k1
    rw [show 62 + (j + 1 + (max (-up) 0).toNat) = i + (max up 0).toNat by omega] at k1
    exact Int.le_trans k1 g1
  have q3 : p * 2 ^ (max up 0).toNat / (q * 2 ^ (max (-up) 0).toNat) < 2 ^ 64 := by
    rw [Int.ediv_lt_iff_lt_mul hd]
    have k1 : (2 : Int) ^ 64 * 2 ^ (j + (max (-up) 0).toNat) ≤ 2 ^ 64 * (q * 2 ^ (max (-up) 0).toNat) := Int.mul_le_mul_of_nonneg_left g3 (by decide)
    rw [← Int.pow_add] at k1
    rw [show 64 + (j + (max (-up) 0).toNat) = i + 1 + (max up 0).toNat by omega] at k1
    exact Int.lt_of_lt_of_le g2 k1
  refine ⟨hd, ?_, q3⟩
  obtain ⟨j, f1, f2, f3⟩ := blen_at (a := p * 2 ^ (max up 0).toNat / (q * 2 ^ (max (-up) 0).toNat)) (by have := pow_pos' 62; omega)
  have := pow_lt_of (Int.lt_of_le_of_lt q1 f3)
  omega

theorem frac_near {p q up : Int} (hp : 0 < p) (hq : 0 < q) (hup : up = 63 - (blen p - blen q)) (md : Int) (neg : Bool) (Q R : Int) (hQ : Q = p * 2 ^ (max up 0).toNat / (q * 2 ^ (max (-up) 0).toNat)) (hR : R = p * 2 ^ (max up 0).toNat % (q * 2 ^ (max (-up) 0).toNat)) :
    rF md neg (rN Q (eP (-up)) (eQ (-up))) (rS Q (eP (-up)) (eQ (-up)) (decide (R ≠ 0) && decide (54 ≤ blen Q))) = rF md neg (nX p q) (sX p q) ∧ rG md neg (rN Q (eP (-up)) (eQ (-up))) (rS Q (eP (-up)) (eQ (-up)) (decide (R ≠ 0) && decide (54 ≤ blen Q))) = rG md neg (nX p q) (sX p q) := by
  obtain ⟨hd, hb, _⟩ := quot_bd hp hq hup
  rw [← hQ] at hb
  rw [decide_eq_true (show 54 ≤ blen Q by omega), Bool.and_true]
  by_cases h : up ≤ 1075
  · have hq' : eQ (-up) = 0 := by unfold eQ; omega
    have hs : rS Q (eP (-up)) (eQ (-up)) (decide (R ≠ 0)) = decide (R ≠ 0) := by
      unfold rS
      rw [hq']
      simp [Int.emod_one]
    have hn : rN Q (eP (-up)) (eQ (-up)) = Q * 2 ^ eP (-up) := by
      unfold rN
      rw [hq']
      simp
    rw [hs, hn]
    have e0 : p * q2 1075 * 2 ^ (max (-up) 0).toNat = p * 2 ^ (max up 0).toNat * 2 ^ eP (-up) := by
      unfold q2
      rw [Int.mul_assoc, Int.mul_assoc, ← Int.pow_add, ← Int.pow_add]
      congr 2
      unfold eP
      omega
    obtain ⟨l1, l2⟩ := left_q (y := p * q2 1075) hq (eP (-up))
    obtain ⟨s1, s2⟩ := scale_div (y := p * q2 1075) (d := q * 2 ^ eP (-up)) (c := 2 ^ (max (-up) 0).toNat) (pow_pos' _)
    obtain ⟨t1, t2⟩ := scale_div (y := p * 2 ^ (max up 0).toNat) (d := q * 2 ^ (max (-up) 0).toNat) (c := 2 ^ eP (-up)) (pow_pos' _)
    have e1 : q * 2 ^ eP (-up) * 2 ^ (max (-up) 0).toNat = q * 2 ^ (max (-up) 0).toNat * 2 ^ eP (-up) := Int.mul_right_comm _ _ _
    rw [e0, e1] at s1 s2
    have hN : nX p q / 2 ^ eP (-up) = Q := by
      unfold nX
      rw [← l1, ← s1, t1, hQ]
    have hS : (nX p q % 2 ^ eP (-up) ≠ 0 ∨ sX p q = true) ↔ decide (R ≠ 0) = true := by
      rw [decide_eq_true_eq, hR, ← t2, s2, l2]
      unfold sX nX
      rw [decide_eq_true_eq]
      exact Or.comm
    obtain ⟨a1, a2, a3, a4⟩ := same_low hN hS (nX_nn (Int.le_of_lt hp) hq) (by omega)
    exact rSame a1 a2 a3 a4
  · have hp' : eP (-up) = 0 := by unfold eP; omega
    have hz : (max (-up) 0).toNat = 0 := by omega
    rw [hz] at hQ hR
    rw [Int.pow_zero, Int.mul_one] at hQ hR
    obtain ⟨l1, l2⟩ := left_q (y := p * 2 ^ (max up 0).toNat) hq (eQ (-up))
    have e0 : p * 2 ^ (max up 0).toNat = p * q2 1075 * 2 ^ eQ (-up) := by
      unfold q2
      rw [Int.mul_assoc, ← Int.pow_add]
      congr 2
      unfold eQ
      omega
    obtain ⟨s1, s2⟩ := scale_div (y := p * q2 1075) (d := q) (c := 2 ^ eQ (-up)) (pow_pos' _)
    rw [← hQ, ← hR] at l2
    rw [← hQ] at l1
    rw [e0, s1] at l1
    rw [e0, s2] at l2
    have hn : rN Q (eP (-up)) (eQ (-up)) = nX p q := by
      unfold rN
      rw [hp', Int.pow_zero, Int.mul_one, ← l1]
      rfl
    have hs : rS Q (eP (-up)) (eQ (-up)) (decide (R ≠ 0)) = sX p q := by
      unfold rS sX
      rw [hp', Int.pow_zero, Int.mul_one, Bool.eq_iff_iff]
      simp only [Bool.or_eq_true, decide_eq_true_eq]
      rw [l2]
      exact Or.comm
    rw [hn, hs]
    exact ⟨rfl, rfl⟩

/-- What is beyond all floats. -/
theorem rF_far {md n : Int} {neg s : Bool} (h0 : 0 ≤ n) (h : 2046 ≤ rU n) : rF md neg n s = rBey md neg + sg neg ∧ rG md neg n s = 5 := by
  have h1 := (rW_bd h0).2.2 (by omega)
  have h2 := b2i_bd (rAway md neg n s)
  have hle : ¬ rKey md neg n s ≤ 9218868437227405311 := by unfold rKey; omega
  unfold rF rMag rG
  rw [if_neg hle, if_neg hle]
  exact ⟨rfl, rfl⟩
/-- A fraction that is far away is rounded as a power of two. -/
theorem frac_far {p q : Int} (hp : 0 < p) (hq : 0 < q) (h : blen p - blen q < -1200 ∨ 1200 < blen p - blen q) (md : Int) (neg : Bool) :
    rF md neg (rN 1 (eP (eC (blen p - blen q))) (eQ (eC (blen p - blen q)))) (rS 1 (eP (eC (blen p - blen q))) (eQ (eC (blen p - blen q))) false) = rF md neg (nX p q) (sX p q) ∧ rG md neg (rN 1 (eP (eC (blen p - blen q))) (eQ (eC (blen p - blen q)))) (rS 1 (eP (eC (blen p - blen q))) (eQ (eC (blen p - blen q))) false) = rG md neg (nX p q) (sX p q) := by
  obtain ⟨i, e1, e2, e3⟩ := blen_at hp
  obtain ⟨j, f1, f2, f3⟩ := blen_at hq
  have hc : eC (blen p - blen q) = min (max (blen p - blen q) (-5000)) 5000 := rfl
  generalize eC (blen p - blen q) = E at *
  have h75 : (0 : Int) < q2 1075 := q2_pos _
  rcases h with h | h
  · have a1 : p * q2 1075 < q := by
      have k1 : p * q2 1075 < 2 ^ (i + 1) * q2 1075 := Int.mul_lt_mul_of_pos_right e3 h75
      unfold q2 at k1 ⊢
      rw [← Int.pow_add] at k1
      exact Int.lt_of_lt_of_le k1 (Int.le_trans (pow_mono _ _ (by omega)) f2)
    have a0 : 0 < p * q2 1075 := Int.mul_pos hp h75
    have n0 : nX p q = 0 := Int.ediv_eq_zero_of_lt (Int.le_of_lt a0) a1
    have s0 : sX p q = true := by
      unfold sX
      rw [Int.emod_eq_of_lt (Int.le_of_lt a0) a1]
      exact decide_eq_true (Int.ne_of_gt a0)
    have hP : eP E = 0 := by unfold eP; omega
    have b1 : (1 : Int) < 2 ^ eQ E := by
      have := pow_mono 1 (eQ E) (by unfold eQ; omega)
      omega
    have n1 : rN 1 (eP E) (eQ E) = 0 := by
      unfold rN
      rw [hP, Int.pow_zero, Int.mul_one]
      exact Int.ediv_eq_zero_of_lt (by decide) b1
    have s1 : rS 1 (eP E) (eQ E) false = true := by
      unfold rS
      rw [hP, Int.pow_zero, Int.mul_one, Int.emod_eq_of_lt (by decide) b1]
      rfl
    rw [n0, s0, n1, s1]
    exact ⟨rfl, rfl⟩
  · have hu := rN_u (m := 1) (by decide) (eP E) (eQ E)
    have b1 : blen 1 = 1 := by decide
    rw [b1] at hu
    have u1 : 2046 ≤ rU (rN 1 (eP E) (eQ E)) := by unfold eP eQ at *; omega
    have hb : q * 2 ^ (i - j - 1 + 1075) ≤ p * q2 1075 := by
      have k1 : q * 2 ^ (i - j - 1 + 1075) ≤ 2 ^ (j + 1) * 2 ^ (i - j - 1 + 1075) := Int.mul_le_mul_of_nonneg_right (Int.le_of_lt f3) (Int.le_of_lt (pow_pos' _))
      have k2 : 2 ^ i * q2 1075 ≤ p * q2 1075 := Int.mul_le_mul_of_nonneg_right e2 (Int.le_of_lt h75)
      unfold q2 at k2 ⊢
      rw [← Int.pow_add] at k1 k2
      rw [show j + 1 + (i - j - 1 + 1075) = i + 1075 by omega] at k1
      exact Int.le_trans k1 k2
    have hN : (2 : Int) ^ (i - j - 1 + 1075) ≤ nX p q := by
      unfold nX
      rw [Int.le_ediv_iff_mul_le hq, Int.mul_comm]
      exact hb
    have hN0 := nX_nn (Int.le_of_lt hp) hq
    have hN1 : 0 < nX p q := by have := pow_pos' (i - j - 1 + 1075); omega
    obtain ⟨k, g1, g2, g3⟩ := blen_at hN1
    have := pow_lt_of (Int.lt_of_le_of_lt hN g3)
    have c2 := blen_div hN0 1
    rw [show (2 : Int) ^ 1 = 2 by rfl] at c2
    have u2 : 2046 ≤ rU (nX p q) := by unfold rU; rw [c2]; omega
    have r1 := rF_far (md := md) (neg := neg) (s := sX p q) hN0 u2
    have r2 := rF_far (md := md) (neg := neg) (s := rS 1 (eP E) (eQ E) false) (rN_nn (by decide) _ _) u1
    exact ⟨r2.1.trans r1.1.symm, r2.2.trans r1.2.symm⟩
end Go.Proofs.YtdjhpplcdkgfgaaDoor
