/-
  The mathematics of layer 7: what a float is ahead of the point and behind it, and whole numbers as floats. No function of the program.
-/
import Derived.Test.YtmeobamfjcjbhaaDoorM6
namespace Go.Proofs.YtmeobamfjcjbhaaDoor
open Go.RowKit
set_option maxRecDepth 100000

theorem dD_is : dD = 2 ^ 1074 := by unfold dD; exact dB_int _
/-- A whole number that is a float's: so many units of 1. -/
def IsI (W : Int) : Prop := ∃ k, 0 ≤ k ∧ k ≤ 9218868437227405311 ∧ gK k = W * dD
/-- A whole number as a float. -/
def iF (s : Bool) (W : Int) : Int := rF 0 s (2 * (W * dD)) false

theorem isI_of {X : Int} {i : Nat} (h0 : 0 ≤ X) (h1 : X < 9007199254740992) (hi : i ≤ 900) : IsI (X * 2 ^ i) := by
  rcases Int.lt_or_eq_of_le h0 with h | h
  · obtain ⟨j, -, j1, j2⟩ := blen_at h
    have j3 : j < 53 := pow_lt_of (Int.lt_of_le_of_lt j1 (show X < 2 ^ 53 from h1))
    have p1 := pow_pos' (52 - j)
    have a1 : (4503599627370496 : Int) ≤ X * 2 ^ (52 - j) := by
      have := Int.mul_le_mul_of_nonneg_right j1 (Int.le_of_lt p1)
      rw [← Int.pow_add, show j + (52 - j) = 52 by omega] at this
      exact this
    have a2 : X * 2 ^ (52 - j) < 9007199254740992 := by
      have := Int.mul_lt_mul_of_pos_right j2 p1
      rw [← Int.pow_add, show j + 1 + (52 - j) = 53 by omega] at this
      exact this
    have e := gK_of (u := 1022 + j + i) (W := X * 2 ^ (52 - j)) (by omega) (by omega) (fun _ => a1)
    refine ⟨_, ?_, ?_, e.trans ?_⟩
    · generalize X * 2 ^ (52 - j) = Y at *
      omega
    · generalize X * 2 ^ (52 - j) = Y at *
      omega
    · rw [Int.mul_assoc, ← Int.pow_add, dD_is, Int.mul_assoc, ← Int.pow_add, show 52 - j + (1022 + j + i) = i + 1074 by omega]
  · subst h
    exact ⟨0, by decide, by decide, by rw [Int.zero_mul, Int.zero_mul]; decide⟩
theorem isI_small {W : Int} (h0 : 0 ≤ W) (h1 : W < 9007199254740992) : IsI W := by
  have := isI_of (i := 0) h0 h1 (by decide)
  rw [Int.pow_zero, Int.mul_one] at this
  exact this
theorem iF_own {W k : Int} (h0 : 0 ≤ k) (h1 : k ≤ 9218868437227405311) (h : gK k = W * dD) (md : Int) (s : Bool) : rF md s (2 * (W * dD)) false = k + sg s ∧ rG md s (2 * (W * dD)) false = 0 := by
  rw [← h]
  exact own_stays h0 h1 md s
theorem iF_key {W k : Int} (h0 : 0 ≤ k) (h1 : k ≤ 9218868437227405311) (h : gK k = W * dD) (s : Bool) : iF s W = k + sg s := (iF_own h0 h1 h 0 s).1
theorem iF_any {W : Int} (h : IsI W) (md : Int) (s : Bool) : rF md s (2 * (W * dD)) false = iF s W ∧ rG md s (2 * (W * dD)) false = 0 := by
  obtain ⟨k, h0, h1, h2⟩ := h
  rw [iF_key h0 h1 h2]
  exact iF_own h0 h1 h2 md s
theorem iF_parts {W : Int} (h : IsI W) (s : Bool) : Word (iF s W) ∧ fC (iF s W) < 3 ∧ fS (iF s W) = s ∧ fMg (iF s W) = W * dD ∧ fZ (iF s W) = sv s W * dD := by
  obtain ⟨k, h0, h1, h2⟩ := h
  rw [iF_key h0 h1 h2]
  obtain ⟨a, b, -, -, c⟩ := kS_parts (s := s) h0 (by omega)
  refine ⟨c, (kS_class (s := s) h0 (by omega)).2.2 h1, a, ?_, ?_⟩
  · unfold fMg
    rw [b, h2]
  · rw [kS_Z h0 (by omega), h2, sv_mul]
theorem rF_nil (md : Int) (s : Bool) : rF md s 0 false = sg s ∧ rG md s 0 false = 0 := by
  have := own_stays (k := 0) (by decide) (by decide) md s
  rw [show gK 0 = 0 by decide, Int.mul_zero, Int.zero_add] at this
  exact this
theorem iF_nil (s : Bool) : iF s 0 = sg s := by
  unfold iF
  rw [Int.zero_mul, Int.mul_zero]
  exact (rF_nil 0 s).1
theorem dec_cmp (a b : Int) : decide (cmpI a b < 0) = decide (a < b) := by
  unfold cmpI
  by_cases h : a < b
  · rw [if_pos h, decide_eq_true h]; rfl
  · rw [if_neg h, decide_eq_false h]
    split <;> rfl
theorem less_int {W V : Int} (h : IsI W) (k : IsI V) (s t : Bool) : fLt (iF s W) (iF t V) = decide (sv s W < sv t V) := by
  obtain ⟨a1, a2, -, -, a5⟩ := iF_parts h s
  obtain ⟨b1, b2, -, -, b5⟩ := iF_parts k t
  obtain ⟨o1, o2⟩ := fOk_yes (a := iF s W) (b := iF t V) (by omega) (by omega)
  unfold fLt
  rw [o1, o2, ← fZ_cmp a1 b1, a5, b5, cmpI_scale dD_pos, dec_cmp, Bool.true_and]

/-- What is ahead of the point, and behind it, of a finite float without its sign. -/
def vT (f : Int) : Int := fMg f / dD
def vR (f : Int) : Int := fMg f % dD

/-- Whether a whole number is taken one further from nought: behind it there is R of D. -/
def awH (md : Int) (s : Bool) (T R D : Int) : Bool := if md = 1 then !s && decide (R ≠ 0) else if md = 2 then s && decide (R ≠ 0) else decide (D < 2 * R) || (decide (2 * R = D) && decide (T % 2 = 1))
def vW (md f : Int) : Int := vT f + b2i (awH md (fS f) (vT f) (vR f) dD)
theorem awH_scale {P : Int} (h : 0 < P) (md : Int) (s : Bool) (T R D : Int) : awH md s T (P * R) (P * D) = awH md s T R D := by
  have e1 : decide (P * R ≠ 0) = decide (R ≠ 0) := by
    rw [Bool.eq_iff_iff, decide_eq_true_eq, decide_eq_true_eq]
    constructor
    · intro k e; rw [e, Int.mul_zero] at k; exact k rfl
    · intro k e
      rcases Int.mul_eq_zero.1 e with e | e
      · omega
      · exact k e
  have e2 : decide (P * D < 2 * (P * R)) = decide (D < 2 * R) := by
    rw [Bool.eq_iff_iff, decide_eq_true_eq, decide_eq_true_eq, show 2 * (P * R) = P * (2 * R) by rw [← Int.mul_assoc, Int.mul_comm 2 P, Int.mul_assoc]]
    exact ⟨fun k => Int.lt_of_mul_lt_mul_left k (Int.le_of_lt h), fun k => Int.mul_lt_mul_of_pos_left k h⟩
  have e3 : decide (2 * (P * R) = P * D) = decide (2 * R = D) := by
    rw [Bool.eq_iff_iff, decide_eq_true_eq, decide_eq_true_eq, show 2 * (P * R) = P * (2 * R) by rw [← Int.mul_assoc, Int.mul_comm 2 P, Int.mul_assoc]]
    exact ⟨fun k => Int.eq_of_mul_eq_mul_left (Int.ne_of_gt h) k, fun k => by rw [k]⟩
  unfold awH
  rw [e1, e2, e3]
theorem awH_far (md : Int) (s : Bool) {T D : Int} (h : 0 < D) : awH md s T 0 D = false := by
  unfold awH
  rw [decide_eq_false (by omega : ¬ D < 2 * 0), decide_eq_false (by omega : ¬ (2 * 0 = D))]
  simp

/-- A number of less than 2^53 whose last bits are cut off, b + 1 of them. -/
theorem low_round {m : Int} {b : Nat} (h0 : 0 ≤ m) (h1 : m < 9007199254740992) (md : Int) (s : Bool) :
    rF md s (m / 2 ^ b) (decide (m % 2 ^ b ≠ 0)) = m / 2 ^ (b + 1) + b2i (awH md s (m / 2 ^ (b + 1)) (m % 2 ^ (b + 1)) (2 ^ (b + 1))) + sg s ∧
    rG md s (m / 2 ^ b) (decide (m % 2 ^ b ≠ 0)) = (if m % 2 ^ (b + 1) = 0 then 0 else 3) ∧ 0 ≤ m / 2 ^ (b + 1) ∧ m / 2 ^ (b + 1) < 4503599627370496 := by
  have hp := pow_pos' b
  have e0 : m / 2 ^ (b + 1) = m / 2 ^ b / 2 := by rw [(left_two (y := m) b 1).1]; rfl
  have e1 : (2 : Int) ^ (b + 1) = 2 * 2 ^ b := by rw [Int.pow_succ, Int.mul_comm]
  have n0 : 0 ≤ m / 2 ^ b := Int.ediv_nonneg h0 (Int.le_of_lt hp)
  have n1 : m / 2 ^ b ≤ m := Int.ediv_le_self _ h0
  have r0 := Int.emod_nonneg m (Int.ne_of_gt hp)
  have r1 := Int.emod_lt_of_pos m hp
  have d := Int.mul_ediv_add_emod m (2 ^ b)
  have e2 : m % 2 ^ (b + 1) = 2 ^ b * (m / 2 ^ b % 2) + m % 2 ^ b := by
    have d2 := Int.mul_ediv_add_emod m (2 ^ (b + 1))
    have d3 := Int.mul_ediv_add_emod (m / 2 ^ b) 2
    rw [e0, e1] at d2
    rw [← d3, Int.mul_add, ← Int.mul_assoc, Int.mul_comm _ 2, Int.mul_assoc] at d
    rw [Int.mul_assoc] at d2
    rw [e1]
    omega
  rw [e2, e0, e1]
  generalize m / 2 ^ b = n at *
  generalize m % 2 ^ b = r at *
  generalize (2 : Int) ^ b = q at *
  have u0 : rU n = 0 := by
    have := blen_le2 (a := n / 2) (k := 52) (by omega) (by show n / 2 < 4503599627370496; omega)
    unfold rU
    omega
  have w0 : rW n = n / 2 := by unfold rW; rw [u0]; rfl
  have hh : rH n = decide (n % 2 = 1) := by unfold rH; rw [u0, Int.pow_zero, Int.ediv_one]
  have hb : rB n (decide (r ≠ 0)) = decide (r ≠ 0) := by
    unfold rB
    rw [u0, Int.pow_zero, Int.emod_one]
    simp
  have hx : rX n (decide (r ≠ 0)) = decide (q * (n % 2) + r = 0) := by
    unfold rX
    rw [hh, hb]
    rcases Int.emod_two_eq n with k | k
    · rw [k, Int.mul_zero, Int.zero_add]
      by_cases hr : r = 0
      · simp [hr]
      · simp [hr]
    · rw [k, Int.mul_one, decide_eq_false (by omega : ¬ q + r = 0)]
      rfl
  have ha : rAway md s n (decide (r ≠ 0)) = awH md s (n / 2) (q * (n % 2) + r) (2 * q) := by
    unfold rAway awH
    rw [hx, hh, hb, w0]
    rcases Int.emod_two_eq n with k | k
    · rw [k, Int.mul_zero, Int.zero_add, decide_eq_false (by omega : ¬ 2 * q < 2 * r), decide_eq_false (by omega : ¬ 2 * r = 2 * q)]
      by_cases hr : r = 0
      · simp [hr]
      · simp [hr]
    · rw [k, Int.mul_one, decide_eq_false (by omega : ¬ q + r = 0), decide_eq_true (by omega : q + r ≠ 0)]
      by_cases hr : r = 0
      · rw [hr, Int.add_zero, decide_eq_false (by omega : ¬ 2 * q < 2 * q), decide_eq_true (by omega : 2 * q = 2 * q)]
        simp
      · rw [decide_eq_true (by omega : 2 * q < 2 * (q + r)), decide_eq_false (by omega : ¬ 2 * (q + r) = 2 * q), decide_eq_true hr]
        simp
  have bb := b2i_bd (awH md s (n / 2) (q * (n % 2) + r) (2 * q))
  have hk : rKey md s n (decide (r ≠ 0)) = n / 2 + b2i (awH md s (n / 2) (q * (n % 2) + r) (2 * q)) := by
    unfold rKey
    rw [u0, w0, ha]
    omega
  have hlt : n / 2 < 4503599627370496 := by omega
  refine ⟨?_, ?_, by omega, hlt⟩
  · unfold rF rMag
    rw [hk, if_pos (by omega)]
  · unfold rG
    rw [hk, if_pos (by omega), hx, w0, if_pos hlt]
    by_cases hz : q * (n % 2) + r = 0
    · rw [if_pos hz, decide_eq_true hz, if_pos rfl]
    · rw [if_neg hz, decide_eq_false hz, if_neg (by decide)]

/-- A finite float that is not of whole units: what is ahead of the point, and behind it. -/
theorem neg_parts {f : Int} (hf : Word f) (hc : fC f < 3) {b : Nat} (hb : fY f = -((b : Int) + 1)) (hb1 : b + 1 ≤ 1074) :
    vT f = fX f / 2 ^ (b + 1) ∧ vR f = 2 ^ (1074 - (b + 1)) * (fX f % 2 ^ (b + 1)) ∧ dD = 2 ^ (1074 - (b + 1)) * 2 ^ (b + 1) := by
  have e := fMg_is hf hc
  rw [show (fY f + 1074).toNat = 1074 - (b + 1) by omega, Int.mul_comm] at e
  have eD : dD = 2 ^ (1074 - (b + 1)) * 2 ^ (b + 1) := by rw [dD_is, ← Int.pow_add, show 1074 - (b + 1) + (b + 1) = 1074 by omega]
  have hp := pow_pos' (1074 - (b + 1))
  refine ⟨?_, ?_, eD⟩
  · unfold vT
    rw [← e, eD, Int.mul_ediv_mul_of_pos _ _ hp]
  · unfold vR
    rw [← e, eD, Int.mul_emod_mul_of_pos _ _ hp]
/-- A finite float of whole units. -/
theorem pos_parts {f : Int} (hf : Word f) (hc : fC f < 3) (he : 0 ≤ fY f) : vT f = fX f * 2 ^ (fY f).toNat ∧ vR f = 0 ∧ fMg f = vT f * dD := by
  have e := fMg_is hf hc
  rw [show (fY f + 1074).toNat = (fY f).toNat + 1074 by omega, Int.pow_add, ← Int.mul_assoc, ← dD_is] at e
  have h0 := dD_pos
  have hT : vT f = fX f * 2 ^ (fY f).toNat := by
    unfold vT
    rw [← e, Int.mul_ediv_cancel _ (Int.ne_of_gt h0)]
  refine ⟨hT, ?_, ?_⟩
  · unfold vR
    rw [← e, Int.mul_emod_left]
  · rw [hT, e]
theorem vT_nn (f : Int) : 0 ≤ vT f := Int.ediv_nonneg (fMg_nn f) (Int.le_of_lt dD_pos)
theorem vR_bd (f : Int) : 0 ≤ vR f ∧ vR f < dD := ⟨Int.emod_nonneg _ (Int.ne_of_gt dD_pos), Int.emod_lt_of_pos _ dD_pos⟩
theorem vTR (f : Int) : vT f * dD + vR f = fMg f := Int.ediv_mul_add_emod _ _
/-- Where nothing is behind the point the float is that whole number. -/
theorem own_int {f : Int} (hf : Word f) (hc : fC f < 3) (h : vR f = 0) : IsI (vT f) ∧ iF (fS f) (vT f) = f ∧ ∀ md, vW md f = vT f := by
  obtain ⟨a, b, c, d⟩ := kS_of hf (by omega)
  have e := vTR f
  rw [h, Int.add_zero] at e
  have k1 : gK (f % 9223372036854775808) = vT f * dD := e.symm
  refine ⟨⟨_, a, d.1 hc, k1⟩, ?_, fun md => ?_⟩
  · rw [iF_key a (d.1 hc) k1]
    exact c.symm
  · unfold vW
    rw [h, awH_far md _ dD_pos]
    show vT f + 0 = vT f
    omega
theorem fY_split {f : Int} (h : fY f < 0) : ∃ b : Nat, fY f = -((b : Int) + 1) ∧ b + 1 ≤ 1074 := by
  have := fY_bd f
  exact ⟨(-fY f - 1).toNat, by omega, by omega⟩
theorem vW_bd {f : Int} (hf : Word f) (hc : fC f < 3) (he : fY f < 0) (md : Int) : 0 ≤ vW md f ∧ vW md f ≤ 4503599627370496 ∧ vT f < 4503599627370496 := by
  obtain ⟨b, hb, hb1⟩ := fY_split he
  obtain ⟨e1, -, -⟩ := neg_parts hf hc hb hb1
  obtain ⟨x0, x1⟩ := fX_bd (f := f)
  obtain ⟨-, -, l1, l2⟩ := low_round (b := b) x0 x1 0 false
  have := b2i_bd (awH md (fS f) (vT f) (vR f) dD)
  unfold vW
  rw [e1] at *
  generalize fX f / 2 ^ (b + 1) = T at *
  omega
theorem vT_int {f : Int} (hf : Word f) (hc : fC f < 3) : IsI (vT f) := by
  by_cases he : fY f < 0
  · have := (vW_bd hf hc he 0).2.2
    exact isI_small (vT_nn f) (by omega)
  · exact (own_int hf hc (pos_parts hf hc (by omega)).2.1).1
theorem vW_int {f : Int} (hf : Word f) (hc : fC f < 3) (md : Int) : IsI (vW md f) := by
  by_cases he : fY f < 0
  · obtain ⟨a, b, -⟩ := vW_bd hf hc he md
    exact isI_small a (by omega)
  · obtain ⟨a, -, c⟩ := own_int hf hc (pos_parts hf hc (by omega)).2.1
    rw [c]
    exact a
/-- What the program rounds first: with units of the least float for units of 1. -/
theorem neg_round {f : Int} (hf : Word f) (hc : fC f < 3) (he : fY f < 0) (md : Int) :
    rF md (fS f) (rN (fX f) (eP (eC (fY f - 1074))) (eQ (eC (fY f - 1074)))) (rS (fX f) (eP (eC (fY f - 1074))) (eQ (eC (fY f - 1074))) false) = vW md f + sg (fS f) ∧
    rG md (fS f) (rN (fX f) (eP (eC (fY f - 1074))) (eQ (eC (fY f - 1074)))) (rS (fX f) (eP (eC (fY f - 1074))) (eQ (eC (fY f - 1074))) false) = if vR f = 0 then 0 else 3 := by
  obtain ⟨b, hb, hb1⟩ := fY_split he
  obtain ⟨e1, e2, e3⟩ := neg_parts hf hc hb hb1
  obtain ⟨x0, x1⟩ := fX_bd (f := f)
  obtain ⟨l1, l2, -, -⟩ := low_round (b := b) x0 x1 md (fS f)
  have hp := pow_pos' (1074 - (b + 1))
  rw [eC_small (by omega) (by omega), show eP (fY f - 1074) = 0 by unfold eP; omega, show eQ (fY f - 1074) = b by unfold eQ; omega]
  have n1 : rN (fX f) 0 b = fX f / 2 ^ b := by unfold rN; rw [Int.pow_zero, Int.mul_one]
  have s1 : rS (fX f) 0 b false = decide (fX f % 2 ^ b ≠ 0) := by unfold rS; rw [Int.pow_zero, Int.mul_one, Bool.or_false]
  rw [n1, s1, l1, l2]
  unfold vW
  rw [e1, e2, e3, awH_scale hp]
  refine ⟨rfl, ?_⟩
  by_cases h : fX f % 2 ^ (b + 1) = 0
  · rw [if_pos h, h, Int.mul_zero, if_pos rfl]
  · rw [if_neg h, if_neg]
    intro k
    rcases Int.mul_eq_zero.1 k with k | k
    · omega
    · exact h k
/-- The number of units of one of the least floats. -/
theorem units_is {c : Int} (h0 : 0 ≤ c) (h1 : c ≤ 4503599627370496) (s : Bool) : fX (c + sg s) = c ∧ Word (c + sg s) := by
  obtain ⟨-, -, e1, e2, w⟩ := kS_parts (s := s) h0 (by omega)
  refine ⟨?_, w⟩
  by_cases h : c = 4503599627370496
  · subst h; cases s <;> decide
  · have k1 : fE (c + sg s) = 0 := by rw [e1]; omega
    have k2 : fM (c + sg s) = c := by rw [e2]; omega
    by_cases hz : c = 0
    · subst hz; cases s <;> decide
    · have k3 : fC (c + sg s) = 1 := by
        unfold fC
        rw [k1, k2, if_neg (by decide), if_pos rfl, if_neg hz]
      rw [← (fXY_sub k3).1, k2]
/-- An integer as the program hands it to be rounded. -/
theorem int_round (c : Int) : rN c (eP (eC 0)) (eQ (eC 0)) = 2 * (c * dD) ∧ rS c (eP (eC 0)) (eQ (eC 0)) false = false := by
  rw [show eP (eC 0) = 1075 by decide, show eQ (eC 0) = 0 by decide]
  have e : c * 2 ^ 1075 = 2 * (c * dD) := by
    rw [dD_is, show (1075 : Nat) = 1 + 1074 by decide, Int.pow_add, ← Int.mul_assoc, Int.mul_comm c, Int.mul_assoc]
    rfl
  unfold rN rS
  rw [e, Int.pow_zero, Int.ediv_one, Int.emod_one]
  exact ⟨rfl, rfl⟩

/-- What Whole says. -/
def whF (md f : Int) : Int := if fC f = 4 then 9221120237041090560 else if fC f = 3 then f else iF (fS f) (vW md f)
def whG (f : Int) : Int := if 3 ≤ fC f then 0 else if vR f = 0 then 0 else 1
/-- What ToInt32 and ToInt64 say: c is 2^31 or 2^63. -/
def tBad (c f : Int) : Bool := decide (3 ≤ fC f) || decide (c < vT f) || (decide (vT f = c) && !fS f)
def toX (c f : Int) : Int := if tBad c f then 0 else sv (fS f) (vT f)
def toG (c f : Int) : Int := if tBad c f then 16 else if vR f = 0 then 0 else 1
/-- What FromInt says. -/
def fiF (md x : Int) : Int := rF md (decide (x < 0)) (2 * ((x.natAbs : Int) * dD)) false
def fiG (md x : Int) : Int := rG md (decide (x < 0)) (2 * ((x.natAbs : Int) * dD)) false
theorem whF_word {f : Int} (hf : Word f) (md : Int) : Word (whF md f) := by
  unfold whF
  by_cases h4 : fC f = 4
  · rw [if_pos h4]; exact ⟨by decide, by decide⟩
  · rw [if_neg h4]
    by_cases h3 : fC f = 3
    · rw [if_pos h3]; exact hf
    · rw [if_neg h3]
      have := cls_bd f
      exact (iF_parts (vW_int hf (by omega) md) _).1
theorem fiF_word (md x : Int) : Word (fiF md x) := rF_word (by have := dD_pos; have := Int.mul_nonneg (show (0 : Int) ≤ (x.natAbs : Int) by omega) (Int.le_of_lt dD_pos); omega)
/-- A whole number's parts: shifted they are the number. -/
theorem int_split {W : Int} (h : IsI W) (h1 : W < 18446744073709551616) (s : Bool) : pA (fX (iF s W)) (fY (iF s W)) = W := by
  obtain ⟨w, c, -, e, -⟩ := iF_parts h s
  have e2 := fMg_is w c
  rw [e] at e2
  have yb := fY_bd (iF s W)
  obtain ⟨x0, x1⟩ := fX_bd (f := iF s W)
  generalize iF s W = f at *
  have hD := dD_pos
  by_cases hy : 0 ≤ fY f
  · rw [show (fY f + 1074).toNat = (fY f).toNat + 1074 by omega, Int.pow_add, ← Int.mul_assoc, ← dD_is] at e2
    have e3 : fX f * 2 ^ (fY f).toNat = W := Int.eq_of_mul_eq_mul_right (Int.ne_of_gt hD) e2
    by_cases hx : fX f = 0
    · rw [hx, (pA_nought _).1, ← e3, hx, Int.zero_mul]
    · have hle : (2 : Int) ^ (fY f).toNat ≤ W := by
        rw [← e3]
        have := Int.mul_le_mul_of_nonneg_right (show 1 ≤ fX f by omega) (Int.le_of_lt (pow_pos' (fY f).toNat))
        rw [Int.one_mul] at this
        exact this
      have h64 : (fY f).toNat < 64 := pow_lt_of (Int.lt_of_le_of_lt hle (show W < 2 ^ 64 from h1))
      rw [(pA_up x0 x1 (by omega) hy).1, e3]
  · rw [(pA_down x0 x1 (by omega)).1]
    have eD : dD = 2 ^ (-fY f).toNat * 2 ^ (fY f + 1074).toNat := by rw [dD_is, ← Int.pow_add, show (-fY f).toNat + (fY f + 1074).toNat = 1074 by omega]
    rw [eD, ← Int.mul_assoc] at e2
    have e3 : fX f = W * 2 ^ (-fY f).toNat := Int.eq_of_mul_eq_mul_right (Int.ne_of_gt (pow_pos' _)) e2
    rw [e3, Int.mul_ediv_cancel _ (Int.ne_of_gt (pow_pos' _))]
end Go.Proofs.YtmeobamfjcjbhaaDoor
