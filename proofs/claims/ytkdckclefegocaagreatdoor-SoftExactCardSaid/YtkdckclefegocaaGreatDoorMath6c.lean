/-
  The mathematics of soft's products, quotients and roots: what they are rounded to. No function of the program.
-/
import Derived.Test.YtkdckclefegocaaGreatDoorMath6b
namespace Go.Proofs.YtkdckclefegocaaGreatDoor
open Go.RowKit
set_option maxRecDepth 100000

/-- Two fractions that are the same number have the same floor, and both are whole or both are not. -/
theorem same_frac {A B C D : Int} (hB : 0 < B) (hD : 0 < D) (h : A * D = C * B) : A / B = C / D ∧ (A % B ≠ 0 ↔ C % D ≠ 0) := by
  obtain ⟨a1, a2⟩ := scale_div (y := A) (d := B) hD
  obtain ⟨b1, b2⟩ := scale_div (y := C) (d := D) hB
  rw [h, Int.mul_comm B D] at a1 a2
  exact ⟨a1.symm.trans b1, a2.symm.trans b2⟩
theorem dec_iff {p q : Prop} [Decidable p] [Decidable q] (h : p ↔ q) : decide p = decide q := by
  rw [Bool.eq_iff_iff, decide_eq_true_eq, decide_eq_true_eq]
  exact h

/-- The parts of a float's number. -/
theorem fV_parts (a : Int) : fV a = rv (fS a) (2 ^ (max (fY a) 0).toNat * fX a) (2 ^ (max (-fY a) 0).toNat * 1) := rfl
theorem num_pos {x : Int} (h : 0 < x) (n : Nat) : 0 < 2 ^ n * x := Int.mul_pos (pow_pos' n) h
/-- A product of two powers and two numbers, in order. -/
theorem pw4 (i j : Nat) (x y : Int) : (2 : Int) ^ i * x * (2 ^ j * y) = x * y * 2 ^ (i + j) := by
  rw [Int.pow_add, Int.mul_comm (2 ^ i) x, Int.mul_comm (2 ^ j) y, Int.mul_assoc, Int.mul_assoc]
  congr 1
  rw [← Int.mul_assoc, Int.mul_comm (2 ^ i) y, Int.mul_assoc]

theorem fV_nil {f : Int} (h : fX f = 0) : fV f = 0 := by
  rw [fV_parts, h]
  exact rv_zero (.inl (by simp))
theorem fV_not {f : Int} (h : 0 < fX f) : fV f ≠ 0 := by
  rw [fV_parts]
  intro k
  rw [rv_eq_zero (Int.le_of_lt (num_pos h _)) (Int.le_of_lt (num_pos (by decide) _))] at k
  have := num_pos h (max (fY f) 0).toNat
  have := num_pos (x := 1) (by decide) (max (-fY f) 0).toNat
  omega
theorem rat_mul_ne {a b : Rat} (ha : a ≠ 0) (hb : b ≠ 0) : a * b ≠ 0 := by
  intro h
  rcases Rat.mul_eq_zero.1 h with k | k
  · exact ha k
  · exact hb k

/-- The product of two floats that are not nought, rounded. -/
theorem mul_round {a b : Int} (ha : 0 < fX a) (hb : 0 < fX b) (md : Int) :
    fV a * fV b ≠ 0 ∧ dF md (fV a * fV b) = rF md (fS a != fS b) (rN (fX a * fX b) (eP (fY a + fY b)) (eQ (fY a + fY b))) (rS (fX a * fX b) (eP (fY a + fY b)) (eQ (fY a + fY b)) false) ∧
    dG md (fV a * fV b) = rG md (fS a != fS b) (rN (fX a * fX b) (eP (fY a + fY b)) (eQ (fY a + fY b))) (rS (fX a * fX b) (eP (fY a + fY b)) (eQ (fY a + fY b)) false) := by
  have hne := rat_mul_ne (fV_not ha) (fV_not hb)
  have hP := Int.mul_pos (num_pos ha (max (fY a) 0).toNat) (num_pos hb (max (fY b) 0).toNat)
  have hQ := Int.mul_pos (num_pos (x := 1) (by decide) (max (-fY a) 0).toNat) (num_pos (x := 1) (by decide) (max (-fY b) 0).toNat)
  have e : fV a * fV b = rv (fS a != fS b) (2 ^ (max (fY a) 0).toNat * fX a * (2 ^ (max (fY b) 0).toNat * fX b)) (2 ^ (max (-fY a) 0).toNat * 1 * (2 ^ (max (-fY b) 0).toNat * 1)) := by
    rw [fV_parts a, fV_parts b]
    exact (rv_mul (Int.le_of_lt (num_pos (by decide) _)) (Int.le_of_lt (num_pos (by decide) _))).symm
  obtain ⟨l1, l2, l3⟩ := nX_low (s := (fS a != fS b)) hP hQ
  have pq := eP_eQ (fY a + fY b)
  have cross : 2 ^ (max (fY a) 0).toNat * fX a * (2 ^ (max (fY b) 0).toNat * fX b) * q2 1075 * 2 ^ eQ (fY a + fY b) = fX a * fX b * 2 ^ eP (fY a + fY b) * (2 ^ (max (-fY a) 0).toNat * 1 * (2 ^ (max (-fY b) 0).toNat * 1)) := by
    rw [pw4, pw4, Int.one_mul, Int.one_mul]
    unfold q2
    rw [Int.mul_assoc, Int.mul_assoc, Int.mul_assoc (fX a * fX b), ← Int.pow_add, ← Int.pow_add, ← Int.pow_add]
    congr 2
    omega
  obtain ⟨c1, c2⟩ := same_frac hQ (pow_pos' (eQ (fY a + fY b))) cross
  refine ⟨hne, ?_⟩
  unfold dF dG
  rw [if_neg hne, if_neg hne]
  rw [e, l1, l2, l3]
  have n1 : nX (2 ^ (max (fY a) 0).toNat * fX a * (2 ^ (max (fY b) 0).toNat * fX b)) (2 ^ (max (-fY a) 0).toNat * 1 * (2 ^ (max (-fY b) 0).toNat * 1)) = rN (fX a * fX b) (eP (fY a + fY b)) (eQ (fY a + fY b)) := c1
  have n2 : sX (2 ^ (max (fY a) 0).toNat * fX a * (2 ^ (max (fY b) 0).toNat * fX b)) (2 ^ (max (-fY a) 0).toNat * 1 * (2 ^ (max (-fY b) 0).toNat * 1)) = rS (fX a * fX b) (eP (fY a + fY b)) (eQ (fY a + fY b)) false := by
    unfold sX rS
    rw [Bool.or_false]
    exact dec_iff c2
  rw [n1, n2]
  exact ⟨rfl, rfl⟩

/-- A fraction of which a quotient of 54 bits or more, and whether there is a rest, are known. -/
theorem frac_gen {p q up : Int} (hp : 0 < p) (hq : 0 < q) (md : Int) (neg : Bool) (Q : Int) (rest : Bool) (hQ : Q = p * 2 ^ (max up 0).toNat / (q * 2 ^ (max (-up) 0).toNat)) (hR : rest = decide (p * 2 ^ (max up 0).toNat % (q * 2 ^ (max (-up) 0).toNat) ≠ 0)) (hb : 54 ≤ blen Q) :
    rF md neg (rN Q (eP (-up)) (eQ (-up))) (rS Q (eP (-up)) (eQ (-up)) rest) = rF md neg (nX p q) (sX p q) ∧ rG md neg (rN Q (eP (-up)) (eQ (-up))) (rS Q (eP (-up)) (eQ (-up)) rest) = rG md neg (nX p q) (sX p q) := by
  by_cases h : up ≤ 1075
  · have hq' : eQ (-up) = 0 := by unfold eQ; omega
    have hs : rS Q (eP (-up)) (eQ (-up)) rest = rest := by
      unfold rS
      rw [hq']
      simp [Int.emod_one]
    have hn : rN Q (eP (-up)) (eQ (-up)) = Q * 2 ^ eP (-up) := by
      unfold rN
      rw [hq']
      simp
    rw [hs, hn]
    have e0 : p * q2 1075 * 2 ^ (max (-up) 0).toNat = p * 2 ^ (max up 0).toNat * 2 ^ eP (-up) := by
      unfold q2
      rw [Int.mul_assoc, Int.mul_assoc, ← Int.pow_add, ← Int.pow_add]
      congr 2
      unfold eP
      omega
    obtain ⟨l1, l2⟩ := left_q (y := p * q2 1075) hq (eP (-up))
    obtain ⟨s1, s2⟩ := scale_div (y := p * q2 1075) (d := q * 2 ^ eP (-up)) (c := 2 ^ (max (-up) 0).toNat) (pow_pos' _)
    obtain ⟨t1, t2⟩ := scale_div (y := p * 2 ^ (max up 0).toNat) (d := q * 2 ^ (max (-up) 0).toNat) (c := 2 ^ eP (-up)) (pow_pos' _)
    have e1 : q * 2 ^ eP (-up) * 2 ^ (max (-up) 0).toNat = q * 2 ^ (max (-up) 0).toNat * 2 ^ eP (-up) := Int.mul_right_comm _ _ _
    rw [e0, e1] at s1 s2
    have hN : nX p q / 2 ^ eP (-up) = Q := by
      unfold nX
      rw [← l1, ← s1, t1, hQ]
    have hS : (nX p q % 2 ^ eP (-up) ≠ 0 ∨ sX p q = true) ↔ rest = true := by
      rw [hR, decide_eq_true_eq, ← t2, s2, l2]
      unfold sX nX
      rw [decide_eq_true_eq]
      exact Or.comm
    obtain ⟨a1, a2, a3, a4⟩ := same_low hN hS (nX_nn (Int.le_of_lt hp) hq) hb
    exact rSame a1 a2 a3 a4
  · have hp' : eP (-up) = 0 := by unfold eP; omega
    have hz : (max (-up) 0).toNat = 0 := by omega
    rw [hz] at hQ hR
    rw [Int.pow_zero, Int.mul_one] at hQ hR
    obtain ⟨l1, l2⟩ := left_q (y := p * 2 ^ (max up 0).toNat) hq (eQ (-up))
    have e0 : p * 2 ^ (max up 0).toNat = p * q2 1075 * 2 ^ eQ (-up) := by
      unfold q2
      rw [Int.mul_assoc, ← Int.pow_add]
      congr 2
      unfold eQ
      omega
    obtain ⟨s1, s2⟩ := scale_div (y := p * q2 1075) (d := q) (c := 2 ^ eQ (-up)) (pow_pos' _)
    rw [← hQ] at l2
    rw [← hQ] at l1
    have hr : p * 2 ^ (max up 0).toNat % q ≠ 0 ↔ rest = true := by rw [hR, decide_eq_true_eq]
    rw [hr] at l2
    rw [e0, s1] at l1
    rw [e0, s2] at l2
    have hn : rN Q (eP (-up)) (eQ (-up)) = nX p q := by
      unfold rN
      rw [hp', Int.pow_zero, Int.mul_one, ← l1]
      rfl
    have hs : rS Q (eP (-up)) (eQ (-up)) rest = sX p q := by
      unfold rS sX
      rw [hp', Int.pow_zero, Int.mul_one, Bool.eq_iff_iff]
      simp only [Bool.or_eq_true, decide_eq_true_eq]
      rw [l2]
      exact Or.comm
    rw [hn, hs]
    exact ⟨rfl, rfl⟩

/-- The quotient of two floats that are not nought, as a fraction. -/
theorem div_parts {a b : Int} (ha : 0 < fX a) (hb : 0 < fX b) (md : Int) :
    ∃ P Q : Int, 0 < P ∧ 0 < Q ∧ P * (fX b * (2 ^ (max (fY b) 0).toNat * 2 ^ (max (-fY a) 0).toNat)) = Q * (fX a * (2 ^ (max (fY a) 0).toNat * 2 ^ (max (-fY b) 0).toNat)) ∧
      fV a / fV b ≠ 0 ∧ dF md (fV a / fV b) = rF md (fS a != fS b) (nX P Q) (sX P Q) ∧ dG md (fV a / fV b) = rG md (fS a != fS b) (nX P Q) (sX P Q) := by
  have hP := Int.mul_pos (num_pos ha (max (fY a) 0).toNat) (num_pos (x := 1) (by decide) (max (-fY b) 0).toNat)
  have hQ := Int.mul_pos (num_pos (x := 1) (by decide) (max (-fY a) 0).toNat) (num_pos hb (max (fY b) 0).toNat)
  have e : fV a / fV b = rv (fS a != fS b) (2 ^ (max (fY a) 0).toNat * fX a * (2 ^ (max (-fY b) 0).toNat * 1)) (2 ^ (max (-fY a) 0).toNat * 1 * (2 ^ (max (fY b) 0).toNat * fX b)) := by
    rw [fV_parts a, fV_parts b]
    exact (rv_div (Int.le_of_lt (num_pos (by decide) _)) (num_pos hb _) (num_pos (by decide) _)).symm
  obtain ⟨l1, l2, l3⟩ := nX_low (s := (fS a != fS b)) hP hQ
  have hne : fV a / fV b ≠ 0 := by
    rw [e]
    intro k
    rw [rv_eq_zero (Int.le_of_lt hP) (Int.le_of_lt hQ)] at k
    omega
  refine ⟨_, _, hP, hQ, ?_, hne, ?_⟩
  · rw [pw4, pw4, Int.mul_one, Int.one_mul, ← Int.pow_add, ← Int.pow_add, Nat.add_comm (max (fY b) 0).toNat]
    rw [Int.mul_left_comm, Int.mul_comm (fX b), Int.mul_left_comm, Int.mul_comm (fX a), Int.mul_comm (fX a)]
    simp only [Int.mul_assoc, Int.mul_comm, Int.mul_left_comm]
  · unfold dF dG
    rw [if_neg hne, if_neg hne, e, l1, l2, l3]
    exact ⟨rfl, rfl⟩

theorem cross_mul {P Q X Y : Int} {c d u v : Nat} (h : P * (Y * 2 ^ c) = Q * (X * 2 ^ d)) (e : c + u = d + v) : X * 2 ^ u * Q = P * 2 ^ v * Y := by
  refine Int.eq_of_mul_eq_mul_right (Int.ne_of_gt (pow_pos' d)) ?_
  have e1 : X * 2 ^ u * Q * 2 ^ d = Q * (X * 2 ^ d) * 2 ^ u := by
    simp only [Int.mul_assoc, Int.mul_comm, Int.mul_left_comm]
  have e2 : P * 2 ^ v * Y * 2 ^ d = P * Y * 2 ^ (d + v) := by
    rw [Int.pow_add]
    simp only [Int.mul_assoc, Int.mul_comm, Int.mul_left_comm]
  rw [e1, ← h, e2, ← e, Int.pow_add]
  simp only [Int.mul_assoc]
theorem blen_pow_mul {x : Int} (h : 0 < x) (hx : blen x ≤ 64) : blen (x * 2 ^ (128 - blen x).toNat) = 128 := by
  rw [blen_mul h]
  have := blen_nn x
  omega
/-- What the program rounds for a quotient. -/
theorem div_round {a b : Int} (ha : 0 < fX a) (hb : 0 < fX b) (md Q R : Int) (hq : Q * fX b + R = fX a * 2 ^ (128 - blen (fX a)).toNat) (hR0 : 0 ≤ R) (hR1 : R < fX b) :
    0 < Q ∧ fV a / fV b ≠ 0 ∧
      rF md (fS a != fS b) (rN Q (eP (fY a - (128 - blen (fX a)) - fY b)) (eQ (fY a - (128 - blen (fX a)) - fY b))) (rS Q (eP (fY a - (128 - blen (fX a)) - fY b)) (eQ (fY a - (128 - blen (fX a)) - fY b)) (decide (R ≠ 0) && decide (54 ≤ blen Q))) = dF md (fV a / fV b) ∧
      rG md (fS a != fS b) (rN Q (eP (fY a - (128 - blen (fX a)) - fY b)) (eQ (fY a - (128 - blen (fX a)) - fY b))) (rS Q (eP (fY a - (128 - blen (fX a)) - fY b)) (eQ (fY a - (128 - blen (fX a)) - fY b)) (decide (R ≠ 0) && decide (54 ≤ blen Q))) = dG md (fV a / fV b) := by
  have hl : 0 ≤ blen (fX a) ∧ blen (fX a) ≤ 64 := by
    have h1 := blen_nn (fX a)
    have h2 := blen_le2 (k := 64) (Int.le_of_lt ha) (by have := (fX_bd (f := a)).2; have e : (2 : Int) ^ 64 = 18446744073709551616 := by decide
                                                        omega)
    exact ⟨h1, h2⟩
  obtain ⟨P, D, hP, hD, hc, hne, f1, f2⟩ := div_parts ha hb md
  obtain ⟨n, hn⟩ : ∃ n : Nat, (128 - blen (fX a)).toNat = n := ⟨_, rfl⟩
  have hbl := blen_pow_mul ha hl.2
  rw [hn] at hbl hq
  have hA0 : 0 < fX a * 2 ^ n := Int.mul_pos ha (pow_pos' n)
  have u := (Int.ediv_emod_unique hb (a := fX a * 2 ^ n) (q := Q) (r := R)).2 ⟨by rw [Int.mul_comm] at hq; omega, hR0, hR1⟩
  have hQbig : 9007199254740992 ≤ Q := by
    obtain ⟨j, e1, e2, e3⟩ := blen_at hA0
    have hj : j = 127 := by omega
    subst hj
    rw [← u.1, Int.le_ediv_iff_mul_le hb]
    have h1 : 9007199254740992 * fX b ≤ 9007199254740992 * 9007199254740992 := Int.mul_le_mul_of_nonneg_left (by have := (fX_bd (f := b)).2; omega) (by decide)
    have h2 : (9007199254740992 : Int) * 9007199254740992 ≤ 2 ^ 127 := by decide
    omega
  obtain ⟨up, hup⟩ : ∃ up, fY a - (128 - blen (fX a)) - fY b = -up := ⟨_, (Int.neg_neg _).symm⟩
  rw [hup]
  rw [← Int.pow_add, ← Int.pow_add] at hc
  have cr := cross_mul (c := (max (fY b) 0).toNat + (max (-fY a) 0).toNat) (d := (max (fY a) 0).toNat + (max (-fY b) 0).toNat) (u := n + (max (-up) 0).toNat) (v := (max up 0).toNat) hc (by omega)
  rw [Int.pow_add, ← Int.mul_assoc, Int.mul_assoc (fX a * 2 ^ n), Int.mul_comm (2 ^ (max (-up) 0).toNat)] at cr
  obtain ⟨s1, s2⟩ := same_frac hb (Int.mul_pos hD (pow_pos' (max (-up) 0).toNat)) cr
  rw [u.1] at s1
  rw [u.2] at s2
  obtain ⟨g1, g2⟩ := frac_gen hP hD md (fS a != fS b) Q (decide (R ≠ 0)) s1 (dec_iff s2) (blen_big hQbig)
  refine ⟨by omega, hne, ?_, ?_⟩
  · rw [decide_eq_true (blen_big hQbig), Bool.and_true, f1]
    exact g1
  · rw [decide_eq_true (blen_big hQbig), Bool.and_true, f2]
    exact g2
/-- What the reference rounds for a quotient. -/
theorem div_ref {a b : Int} (ha : 0 < fX a) (hb : 0 < fX b) (md : Int) :
    rF md (fS a != fS b) (hN (fX a) (fX b) (fY a - fY b)) (hS (fX a) (fX b) (fY a - fY b) false) = dF md (fV a / fV b) ∧
    rG md (fS a != fS b) (hN (fX a) (fX b) (fY a - fY b)) (hS (fX a) (fX b) (fY a - fY b) false) = dG md (fV a / fV b) := by
  obtain ⟨P, D, hP, hD, hc, hne, f1, f2⟩ := div_parts ha hb md
  rw [← Int.pow_add, ← Int.pow_add] at hc
  have pq := eP_eQ (fY a - fY b)
  have cr := cross_mul (c := (max (fY b) 0).toNat + (max (-fY a) 0).toNat) (d := (max (fY a) 0).toNat + (max (-fY b) 0).toNat) (u := eP (fY a - fY b)) (v := 1075 + eQ (fY a - fY b)) hc (by omega)
  rw [Int.pow_add, ← Int.mul_assoc, Int.mul_assoc (P * 2 ^ 1075), Int.mul_comm (2 ^ eQ (fY a - fY b))] at cr
  obtain ⟨s1, s2⟩ := same_frac (Int.mul_pos hb (pow_pos' (eQ (fY a - fY b)))) hD cr
  have n1 : hN (fX a) (fX b) (fY a - fY b) = nX P D := s1
  have n2 : hS (fX a) (fX b) (fY a - fY b) false = sX P D := by
    unfold hS sX
    rw [Bool.or_false]
    exact dec_iff s2
  rw [n1, n2, f1, f2]
  exact ⟨rfl, rfl⟩

/-- The root of a natural number, rounded down. -/
def iRn : Nat → Nat
  | 0 => 0
  | n + 1 => if (iRn n + 1) * (iRn n + 1) ≤ n + 1 then iRn n + 1 else iRn n
theorem iRn_is : ∀ n : Nat, iRn n * iRn n ≤ n ∧ n < (iRn n + 1) * (iRn n + 1)
  | 0 => by simp [iRn]
  | n + 1 => by
    obtain ⟨h1, h2⟩ := iRn_is n
    unfold iRn
    by_cases h : (iRn n + 1) * (iRn n + 1) ≤ n + 1
    · rw [if_pos h]
      refine ⟨h, ?_⟩
      have e : (iRn n + 1 + 1) * (iRn n + 1 + 1) = (iRn n + 1) * (iRn n + 1) + 2 * (iRn n + 1) + 1 := by
        rw [Nat.add_mul, Nat.mul_add]
        omega
      omega
    · rw [if_neg h]
      exact ⟨by omega, by omega⟩
/-- A float's number, squared and in halves of the least unit squared; its root, rounded down; whether it is not the root. -/
def qA (f : Int) : Int := fX f * 2 ^ (fY f + 2150).toNat
def qN (f : Int) : Int := (iRn (qA f).toNat : Nat)
def qS (f : Int) : Bool := decide (qN f * qN f ≠ qA f)
theorem qA_nn (f : Int) : 0 ≤ qA f := Int.mul_nonneg fX_bd.1 (Int.le_of_lt (pow_pos' _))
theorem qN_is (f : Int) : 0 ≤ qN f ∧ qN f * qN f ≤ qA f ∧ qA f < (qN f + 1) * (qN f + 1) := by
  obtain ⟨h1, h2⟩ := iRn_is (qA f).toNat
  have h0 := qA_nn f
  have e : ((qA f).toNat : Int) = qA f := Int.toNat_of_nonneg h0
  have h1' : ((iRn (qA f).toNat * iRn (qA f).toNat : Nat) : Int) ≤ ((qA f).toNat : Nat) := by omega
  have h2' : (((qA f).toNat : Nat) : Int) < (((iRn (qA f).toNat + 1) * (iRn (qA f).toNat + 1) : Nat) : Int) := by omega
  rw [Int.natCast_mul, e] at h1'
  rw [Int.natCast_mul, e, Int.natCast_add] at h2'
  exact ⟨by unfold qN; omega, h1', h2'⟩
theorem sq_lt {a b : Int} (ha : 0 ≤ a) (h : a < b) : a * a < b * b := by
  have h1 := Int.mul_le_mul_of_nonneg_left (Int.le_of_lt h) ha
  have h2 := Int.mul_lt_mul_of_pos_right h (show 0 < b by omega)
  omega
theorem sq_le {a b : Int} (ha : 0 ≤ a) (h : a ≤ b) : a * a ≤ b * b := by
  rcases Int.lt_or_eq_of_le h with k | k
  · exact Int.le_of_lt (sq_lt ha k)
  · rw [k]; exact Int.le_refl _
theorem sq_mul (r p : Int) : r * p * (r * p) = r * r * (p * p) := by simp only [Int.mul_comm, Int.mul_left_comm]
/-- A root that is cut off, and whether something is left, is rounded as the whole one. -/
theorem root_round {m r A N : Int} {P : Nat} (hm : A = m * (2 ^ P * 2 ^ P)) (hr0 : 0 ≤ r) (hr1 : r * r ≤ m) (hr2 : m < (r + 1) * (r + 1)) (hN0 : 0 ≤ N) (hN1 : N * N ≤ A) (hN2 : A < (N + 1) * (N + 1)) (hb : 54 ≤ blen r) (rest : Bool) (hrest : rest = decide (r * r ≠ m)) (md : Int) (neg : Bool) :
    rF md neg (rN r P 0) (rS r P 0 (rest && decide (54 ≤ blen r))) = rF md neg N (decide (N * N ≠ A)) ∧ rG md neg (rN r P 0) (rS r P 0 (rest && decide (54 ≤ blen r))) = rG md neg N (decide (N * N ≠ A)) := by
  have hp := pow_pos' P
  have hpp := Int.mul_pos hp hp
  have l1 : r * 2 ^ P ≤ N := by
    rcases Int.lt_or_le N (r * 2 ^ P) with h | h
    · exfalso
      have a1 := sq_le (show 0 ≤ N + 1 by omega) (show N + 1 ≤ r * 2 ^ P by omega)
      rw [sq_mul] at a1
      have a2 := Int.mul_le_mul_of_nonneg_right hr1 (Int.le_of_lt hpp)
      omega
    · exact h
  have l2 : N < (r + 1) * 2 ^ P := by
    rcases Int.lt_or_le N ((r + 1) * 2 ^ P) with h | h
    · exact h
    · exfalso
      have a1 := sq_le (Int.mul_nonneg (show 0 ≤ r + 1 by omega) (Int.le_of_lt hp)) h
      rw [sq_mul] at a1
      have a2 := Int.mul_lt_mul_of_pos_right hr2 hpp
      omega
  have e2 : N = 2 ^ P * r + (N - r * 2 ^ P) := by rw [Int.mul_comm]; omega
  have l3 : N - r * 2 ^ P < 2 ^ P := by rw [Int.add_mul, Int.one_mul] at l2; omega
  have u := (Int.ediv_emod_unique hp (a := N) (q := r) (r := N - r * 2 ^ P)).2 ⟨by omega, by omega, l3⟩
  have hS : (N % 2 ^ P ≠ 0 ∨ decide (N * N ≠ A) = true) ↔ rest = true := by
    rw [u.2, hrest, decide_eq_true_eq, decide_eq_true_eq]
    constructor
    · rintro h k
      have k2 : A = r * 2 ^ P * (r * 2 ^ P) := by rw [sq_mul, k, hm]
      have k3 : N = r * 2 ^ P := by
        rcases Int.lt_or_eq_of_le l1 with h3 | h3
        · have := sq_lt (Int.mul_nonneg hr0 (Int.le_of_lt hp)) h3
          omega
        · exact h3.symm
      rcases h with h | h
      · omega
      · rw [k3] at h
        exact h k2.symm
    · intro k
      rcases Int.lt_or_eq_of_le l1 with h3 | h3
      · exact .inl (by omega)
      · right
        intro h
        rw [← h3, sq_mul, hm] at h
        exact k (Int.eq_of_mul_eq_mul_right (Int.ne_of_gt hpp) h)
  obtain ⟨a1, a2, a3, a4⟩ := same_low u.1 hS hN0 hb
  have hn : rN r P 0 = r * 2 ^ P := by unfold rN; simp
  have hs : rS r P 0 rest = rest := by unfold rS; simp
  rw [decide_eq_true hb, Bool.and_true, hn, hs]
  exact rSame a1 a2 a3 a4
end Go.Proofs.YtkdckclefegocaaGreatDoor
