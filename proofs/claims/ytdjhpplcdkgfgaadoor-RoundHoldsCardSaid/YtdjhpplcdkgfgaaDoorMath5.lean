/-
  What rounding does, as arithmetic: which key a number is rounded to, that it rises, that a float's own value stays, and which float is nearest. No function of the program.
-/
import Derived.Test.YtdjhpplcdkgfgaaDoorHround
namespace Go.Proofs.YtdjhpplcdkgfgaaDoor
open Go.RowKit
set_option maxRecDepth 100000

/-- A number n, and more (s), is at most another one. -/
def LeS (n : Int) (s : Bool) (n' : Int) (s' : Bool) : Prop := n < n' ∨ (n = n' ∧ (s = true → s' = true))
theorem K0_mono {n n' : Int} (h : 0 ≤ n) (h' : 0 ≤ n') (hl : n ≤ n') : K0 n ≤ K0 n' := by
  obtain ⟨f1, f2⟩ := K0_floor h
  obtain ⟨g1, g2⟩ := K0_floor h'
  rcases Int.lt_or_le (K0 n') (K0 n) with a | a
  · exfalso
    rcases Int.lt_or_eq_of_le (show K0 n' + 1 ≤ K0 n by omega) with c | c
    · have := gK_lt (by have := K0_nn h'; omega) c
      omega
    · rw [c] at g2
      omega
  · exact a
theorem K0_parts {n n' : Int} (h : 0 ≤ n) (h' : 0 ≤ n') (he : K0 n = K0 n') : rU n = rU n' ∧ rW n = rW n' := by
  obtain ⟨a0, a1, a2⟩ := rW_bd h
  obtain ⟨b0, b1, b2⟩ := rW_bd h'
  unfold K0 at he
  generalize rW n = W at *
  generalize rW n' = W' at *
  generalize rU n = u at *
  generalize rU n' = u' at *
  by_cases c : 0 < u
  · have := a2 c
    by_cases d : 0 < u'
    · have := b2 d
      omega
    · omega
  · by_cases d : 0 < u'
    · have := b2 d
      omega
    · omega
theorem away_mono {md n n' : Int} {s s' : Bool} (h : LeS n s n' s') (hu : rU n = rU n') (hw : rW n = rW n') : b2i (rAway md false n s) ≤ b2i (rAway md false n' s') := by
  have p := n_parts (n := n)
  have p' := n_parts (n := n')
  have hp := pow_pos' (rU n)
  have r0 := Int.emod_nonneg n (Int.ne_of_gt hp)
  have r1 := Int.emod_lt_of_pos n hp
  have r0' := Int.emod_nonneg n' (Int.ne_of_gt hp)
  have r1' := Int.emod_lt_of_pos n' hp
  have X : (rH n = true → rH n' = true) ∧ (rH n = rH n' → rB n s = true → rB n' s' = true) := by
    unfold rB
    rw [← hu, ← hw] at p'
    rw [← hu]
    generalize (2 : Int) ^ rU n = z at *
    generalize n % z = r at *
    generalize n' % z = r' at *
    generalize rW n = W at *
    rw [Int.add_mul] at p p'
    have hle : n ≤ n' := by rcases h with h | h <;> omega
    constructor
    · intro e
      cases e' : rH n'
      · rw [e, show b2i true = 1 by rfl] at p
        rw [e', show b2i false = 0 by rfl] at p'
        omega
      · rfl
    · intro e hb
      rw [e] at p
      simp only [Bool.or_eq_true, decide_eq_true_eq] at hb ⊢
      rcases h with h | ⟨h1, h2⟩
      · left; omega
      · rcases hb with hb | hb
        · left; omega
        · right; exact h2 hb
  obtain ⟨X1, X2⟩ := X
  unfold rAway rX
  rw [← hw]
  clear p p' r0 r1 r0' r1' hp h hu hw
  generalize decide (rW n % 2 = 1) = o at *
  generalize rH n = a at *
  generalize rB n s = b at *
  generalize rH n' = c at *
  generalize rB n' s' = d at *
  by_cases h1 : md = 1
  · simp only [if_pos h1]
    revert X1 X2
    cases a <;> cases b <;> cases c <;> cases d <;> decide
  · by_cases h2 : md = 2
    · simp only [if_neg h1, if_pos h2]
      exact Int.le_refl (b2i false)
    · simp only [if_neg h1, if_neg h2]
      revert X1 X2
      cases o <;> cases a <;> cases b <;> cases c <;> cases d <;> decide
theorem key_mono {md n n' : Int} {s s' : Bool} (h : 0 ≤ n) (h' : 0 ≤ n') (hl : LeS n s n' s') : rKey md false n s ≤ rKey md false n' s' := by
  rw [key_of, key_of]
  have k := K0_mono h h' (by rcases hl with h | h <;> omega)
  have b := b2i_bd (rAway md false n s)
  have b' := b2i_bd (rAway md false n' s')
  rcases Int.lt_or_eq_of_le k with k | k
  · omega
  · obtain ⟨u, w⟩ := K0_parts h h' k
    have := away_mono (md := md) hl u w
    omega
theorem bey_bd (md : Int) (neg : Bool) : 9218868437227405311 ≤ rBey md neg ∧ rBey md neg ≤ 9218868437227405312 := by unfold rBey; split <;> omega
theorem mag_mono {md n n' : Int} {s s' : Bool} (h : 0 ≤ n) (h' : 0 ≤ n') (hl : LeS n s n' s') : rMag md false n s ≤ rMag md false n' s' := by
  have k := key_mono (md := md) h h' hl
  have b := bey_bd md false
  unfold rMag
  (repeat' split) <;> omega
/-- The mode that does to the magnitude what a mode does to a number with that sign. -/
def mdT (neg : Bool) (md : Int) : Int := if neg then (if md = 1 then 2 else if md = 2 then 1 else md) else md
theorem mag_turn (md : Int) (neg : Bool) (n : Int) (s : Bool) : rMag md neg n s = rMag (mdT neg md) false n s ∧ rG md neg n s = rG (mdT neg md) false n s := by
  unfold mdT
  cases neg
  · exact ⟨rfl, rfl⟩
  · by_cases h1 : md = 1
    · subst h1
      have := turn (away_turn1 n s) bey_turn1
      exact ⟨this.1.symm, this.2.symm⟩
    · by_cases h2 : md = 2
      · subst h2
        have := turn (away_turn2 n s) bey_turn2
        exact ⟨this.1.symm, this.2.symm⟩
      · have := turn (away_neg (n := n) (s := s) h1 h2) (bey_neg h1 h2)
        simp only [if_true, if_neg h1, if_neg h2]
        exact ⟨this.1.symm, this.2.symm⟩

/-- The magnitudes of fractions. -/
theorem nX_sq {p q : Int} (hq : 0 < q) : nX p q * q ≤ p * q2 1075 ∧ p * q2 1075 < (nX p q + 1) * q ∧ (sX p q = true ↔ nX p q * q < p * q2 1075) := by
  have d := Int.ediv_mul_add_emod (p * q2 1075) q
  have n0 := Int.emod_nonneg (p * q2 1075) (Int.ne_of_gt hq)
  have n1 := Int.emod_lt_of_pos (p * q2 1075) hq
  unfold sX nX
  rw [decide_eq_true_eq, Int.add_mul]
  omega
theorem le_X {p q p' q' : Int} (hq : 0 < q) (hq' : 0 < q') (h : p * q' ≤ p' * q) : LeS (nX p q) (sX p q) (nX p' q') (sX p' q') := by
  obtain ⟨a1, a2, a3⟩ := nX_sq (p := p) hq
  obtain ⟨b1, b2, b3⟩ := nX_sq (p := p') hq'
  have hC := q2_pos 1075
  have h1 : p * q2 1075 * q' ≤ p' * q2 1075 * q := by
    rw [Int.mul_right_comm p, Int.mul_right_comm p']
    exact Int.mul_le_mul_of_nonneg_right h (Int.le_of_lt hC)
  have c1 : nX p q * q * q' ≤ p * q2 1075 * q' := Int.mul_le_mul_of_nonneg_right a1 (Int.le_of_lt hq')
  have c2 : p' * q2 1075 * q < (nX p' q' + 1) * q' * q := Int.mul_lt_mul_of_pos_right b2 hq
  have c3 : nX p q * (q * q') < (nX p' q' + 1) * (q * q') := by
    rw [← Int.mul_assoc, Int.mul_comm q q', ← Int.mul_assoc (nX p' q' + 1)]
    omega
  have c4 : nX p q < nX p' q' + 1 := Int.lt_of_mul_lt_mul_right c3 (Int.le_of_lt (Int.mul_pos hq hq'))
  rcases Int.lt_or_eq_of_le (show nX p q ≤ nX p' q' by omega) with e | e
  · exact .inl e
  · refine .inr ⟨e, fun hs => b3.2 ?_⟩
    have d1 := a3.1 hs
    have d2 : nX p q * q * q' < p * q2 1075 * q' := Int.mul_lt_mul_of_pos_right d1 hq'
    rw [e] at d2
    have d3 : nX p' q' * q' * q < p' * q2 1075 * q := by rw [Int.mul_right_comm]; omega
    exact Int.lt_of_mul_lt_mul_right d3 (Int.le_of_lt hq)

/-- The place in the order of what a rational number is rounded to. -/
theorem rat_le_cross {a b : Rat} : a ≤ b ↔ a.num * (b.den : Int) ≤ b.num * (a.den : Int) := Rat.le_iff a b
def dM (md : Int) (r : Rat) : Int := rMag (mdT (rs r) md) false (nX (rp r) (rq r)) (sX (rp r) (rq r))
theorem dM_nn (md : Int) (r : Rat) : 0 ≤ dM md r ∧ dM md r ≤ 9218868437227405312 := rMag_bd (nX_nn (rp_nonneg r) (rq_pos r))
theorem dF_is {md : Int} {r : Rat} (h : r ≠ 0) : dF md r = dM md r + sg (rs r) := by
  unfold dF rF dM
  rw [if_neg h, (mag_turn md (rs r) _ _).1]
theorem dF_word (md : Int) (r : Rat) : Word (dF md r) := by
  unfold dF
  split
  · exact ⟨by decide, by decide⟩
  · exact rF_word (nX_nn (rp_nonneg r) (rq_pos r))
/-- A float that is made of a key and a sign. -/
theorem kS_parts {k : Int} {s : Bool} (h0 : 0 ≤ k) (h1 : k ≤ 9218868437227405312) : fS (k + sg s) = s ∧ (k + sg s) % 9223372036854775808 = k ∧ fE (k + sg s) = k / 4503599627370496 ∧ fM (k + sg s) = k % 4503599627370496 ∧ Word (k + sg s) := by
  have hw : Word (k + sg s) := by
    have := sg_bd s
    constructor <;> omega
  unfold fS fE fM
  cases s
  · rw [show sg false = 0 by rfl]
    refine ⟨by simp; omega, by omega, by omega, by omega, hw⟩
  · rw [show sg true = 9223372036854775808 by rfl]
    refine ⟨by simp; omega, by omega, by omega, by omega, hw⟩
theorem kS_key {k : Int} {s : Bool} (h0 : 0 ≤ k) (h1 : k ≤ 9218868437227405312) : fK (k + sg s) = sv s k := by
  obtain ⟨a, b, -, -, -⟩ := kS_parts (s := s) h0 h1
  unfold fK sv
  rw [a, b]
theorem kS_class {k : Int} {s : Bool} (h0 : 0 ≤ k) (h1 : k ≤ 9218868437227405312) : fC (k + sg s) ≠ 4 ∧ (fC (k + sg s) < 3 ↔ k ≤ 9218868437227405311) := by
  obtain ⟨-, -, c, d, -⟩ := kS_parts (s := s) h0 h1
  unfold fC
  rw [c, d]
  constructor
  · (repeat' split) <;> omega
  · (repeat' split) <;> omega
theorem kS_Z {k : Int} {s : Bool} (h0 : 0 ≤ k) (h1 : k ≤ 9218868437227405312) : fZ (k + sg s) = sv s (gK k) := by
  obtain ⟨a, -, c, d, -⟩ := kS_parts (s := s) h0 h1
  unfold fZ gK
  rw [a, c, d]
theorem dF_key (md : Int) (r : Rat) : fK (dF md r) = if r = 0 then 0 else sv (rs r) (dM md r) := by
  by_cases h : r = 0
  · rw [if_pos h]
    unfold dF
    rw [if_pos h]
    decide
  · obtain ⟨a, b⟩ := dM_nn md r
    rw [if_neg h, dF_is h, kS_key a b]
theorem dF_class (md : Int) (r : Rat) : fC (dF md r) ≠ 4 := by
  by_cases h : r = 0
  · unfold dF
    rw [if_pos h]
    decide
  · obtain ⟨a, b⟩ := dM_nn md r
    rw [dF_is h]
    exact (kS_class a b).1
theorem rs_false {r : Rat} (h : rs r = false) : r.num = rp r := by have := sv_of r; rw [h] at this; exact this.symm
theorem rs_true {r : Rat} (h : rs r = true) : r.num = -rp r := by have := sv_of r; rw [h] at this; exact this.symm
theorem rp_pos {r : Rat} (h : r ≠ 0) : 0 < rp r := by
  have := rp_nonneg r
  have h2 : rp r ≠ 0 := fun e => h (rp_zero.1 e)
  omega
/-- What is greater is not rounded to less. -/
theorem dF_rises (md : Int) {a b : Rat} (h : a ≤ b) : fK (dF md a) ≤ fK (dF md b) := by
  rw [dF_key, dF_key]
  have na := dM_nn md a
  have nb := dM_nn md b
  have h' := rat_le_cross.1 h
  have qa := rq_pos a
  have qb := rq_pos b
  have ca : (a.den : Int) = rq a := rfl
  have cb : (b.den : Int) = rq b := rfl
  rw [ca, cb] at h'
  by_cases za : a = 0
  · rw [if_pos za]
    split
    · omega
    · rename_i zb
      have pb := rp_pos zb
      cases sb : rs b
      · simp [sv]; omega
      · rw [rs_true sb, za, show (0 : Rat).num = 0 by rfl, Int.zero_mul, Int.neg_mul] at h'
        have := Int.mul_pos pb qa
        rw [za] at this
        omega
  · rw [if_neg za]
    have pa := rp_pos za
    by_cases zb : b = 0
    · rw [if_pos zb]
      cases sa : rs a
      · rw [rs_false sa, zb, show (0 : Rat).num = 0 by rfl, Int.zero_mul] at h'
        have := Int.mul_pos pa qb
        rw [zb] at this
        omega
      · simp [sv]; omega
    · rw [if_neg zb]
      have pb := rp_pos zb
      have mab := Int.mul_pos pa qb
      have mba := Int.mul_pos pb qa
      cases sa : rs a <;> cases sb : rs b
      · rw [rs_false sa, rs_false sb] at h'
        have := mag_mono (md := md) (nX_nn (Int.le_of_lt pa) qa) (nX_nn (Int.le_of_lt pb) qb) (le_X qa qb h')
        unfold dM
        rw [sa, sb]
        simp only [sv, Bool.false_eq_true, if_false]
        exact this
      · rw [rs_false sa, rs_true sb, Int.neg_mul] at h'
        omega
      · simp [sv]; omega
      · rw [rs_true sa, rs_true sb, Int.neg_mul, Int.neg_mul] at h'
        have := mag_mono (md := mdT true md) (nX_nn (Int.le_of_lt pb) qb) (nX_nn (Int.le_of_lt pa) qa) (le_X qb qa (by omega))
        unfold dM
        rw [sa, sb]
        simp only [sv, if_true]
        omega

/-- Towards nought is not above the nearest one, nor that above what is away from nought. -/
theorem rX_far {n : Int} {s : Bool} (h : rX n s = true) (md : Int) (neg : Bool) : rAway md neg n s = false := by
  unfold rX at h
  unfold rAway rX
  generalize rH n = a at *
  generalize rB n s = b at *
  generalize decide (rW n % 2 = 1) = o at *
  (repeat' split) <;> revert h <;> cases neg <;> cases a <;> cases b <;> cases o <;> decide
theorem away_three (n : Int) (s : Bool) : rAway 2 false n s = false ∧ rAway 1 false n s = !rX n s ∧ b2i (rAway 0 false n s) ≤ b2i (!rX n s) := by
  refine ⟨by simp [rAway], by simp [rAway], ?_⟩
  cases h : rX n s
  · exact (b2i_bd _).2
  · rw [rX_far h 0 false]
    decide
theorem mag_modes {n : Int} {s : Bool} : rMag 2 false n s ≤ rMag 0 false n s ∧ rMag 0 false n s ≤ rMag 1 false n s := by
  obtain ⟨a, b, c⟩ := away_three n s
  have d := b2i_bd (rAway 0 false n s)
  unfold rMag
  rw [key_of, key_of, key_of, a, b, show rBey 2 false = 9218868437227405311 by decide, show rBey 0 false = 9218868437227405312 by decide, show rBey 1 false = 9218868437227405312 by decide, show b2i false = 0 by rfl]
  constructor <;> (repeat' split) <;> omega
theorem dM_turn (r : Rat) : mdT (rs r) 0 = 0 ∧ (rs r = false → mdT (rs r) 1 = 1 ∧ mdT (rs r) 2 = 2) ∧ (rs r = true → mdT (rs r) 1 = 2 ∧ mdT (rs r) 2 = 1) := by
  cases rs r
  · exact ⟨rfl, fun _ => ⟨rfl, rfl⟩, fun h => by cases h⟩
  · exact ⟨rfl, fun h => by (cases h), fun _ => ⟨rfl, rfl⟩⟩
theorem dF_modes (r : Rat) : fK (dF 2 r) ≤ fK (dF 0 r) ∧ fK (dF 0 r) ≤ fK (dF 1 r) := by
  rw [dF_key, dF_key, dF_key]
  by_cases h : r = 0
  · simp only [if_pos h]
    omega
  · simp only [if_neg h]
    obtain ⟨t0, t1, t2⟩ := dM_turn r
    unfold dM
    rw [t0]
    generalize nX (rp r) (rq r) = n
    generalize sX (rp r) (rq r) = s
    have m := mag_modes (n := n) (s := s)
    cases hs : rs r
    · obtain ⟨u1, u2⟩ := t1 hs
      rw [hs] at u1 u2
      rw [u1, u2]
      simp only [sv, Bool.false_eq_true, if_false]
      exact m
    · obtain ⟨u1, u2⟩ := t2 hs
      rw [hs] at u1 u2
      rw [u1, u2]
      simp only [sv, if_true]
      omega

/-- A float's own value is rounded to that float. -/
theorem K0_own {k : Int} (h0 : 0 ≤ k) : K0 (2 * gK k) = k := by
  have hz : 0 ≤ gK k := (gZ_lt (by omega) (by omega) (by omega)).1
  obtain ⟨f1, f2⟩ := K0_floor (n := 2 * gK k) (by omega)
  have hn := K0_nn (n := 2 * gK k) (by omega)
  rcases Int.lt_trichotomy (K0 (2 * gK k)) k with h | h | h
  · rcases Int.lt_or_eq_of_le (show K0 (2 * gK k) + 1 ≤ k by omega) with c | c
    · have := gK_lt (by omega) c
      omega
    · rw [c] at f2
      omega
  · exact h
  · have := gK_lt h0 h
    omega
theorem own_exact {k : Int} (h0 : 0 ≤ k) : rX (2 * gK k) false = true := by
  have hz : 0 ≤ gK k := (gZ_lt (by omega) (by omega) (by omega)).1
  rw [← ask_exact (by omega), K0_own h0]
  unfold cmpS
  rw [if_neg (by omega), if_pos ⟨rfl, rfl⟩]
  rfl
theorem own_stays {k : Int} (h0 : 0 ≤ k) (h1 : k ≤ 9218868437227405311) (md : Int) (neg : Bool) : rF md neg (2 * gK k) false = k + sg neg ∧ rG md neg (2 * gK k) false = 0 := by
  have hk : rKey md neg (2 * gK k) false = k := by
    rw [key_of, K0_own h0, rX_far (own_exact h0)]
    show k + 0 = k
    omega
  unfold rF rMag rG
  rw [hk, if_pos h1, if_pos h1, own_exact h0]
  exact ⟨rfl, rfl⟩
theorem nX_over {z : Int} : nX z (dB 1074 : Nat) = 2 * z ∧ sX z (dB 1074 : Nat) = false := by
  have hd : ((dB 1074 : Nat) : Int) = q2 1074 := dB_int 1074
  have hp := q2_pos 1074
  have e : z * q2 1075 = 2 * z * q2 1074 := by
    have : q2 1075 = 2 * q2 1074 := by
      unfold q2
      rw [Int.pow_succ, Int.mul_comm]
    rw [this, ← Int.mul_assoc, Int.mul_comm z 2]
  unfold nX sX
  rw [hd, e]
  refine ⟨Int.mul_ediv_cancel _ (Int.ne_of_gt hp), ?_⟩
  rw [Int.mul_emod_left]
  rfl
/-- The key of a float. -/
theorem kS_of {f : Int} (hf : Word f) (hc : fC f ≠ 4) : 0 ≤ f % 9223372036854775808 ∧ f % 9223372036854775808 ≤ 9218868437227405312 ∧ f = f % 9223372036854775808 + sg (fS f) ∧ (fC f < 3 ↔ f % 9223372036854775808 ≤ 9218868437227405311) := by
  have h1 : f % 9223372036854775808 ≤ 9218868437227405312 := by
    have := nan_iff hf
    omega
  have e : f = f % 9223372036854775808 + sg (fS f) := by
    obtain ⟨_, _⟩ := hf
    unfold fS sg
    by_cases h : 9223372036854775808 ≤ f
    · rw [decide_eq_true h, if_pos rfl]; omega
    · rw [decide_eq_false h, if_neg (by decide)]; omega
  have h0 : 0 ≤ f % 9223372036854775808 := by omega
  refine ⟨h0, h1, e, ?_⟩
  have := (kS_class (s := fS f) h0 h1).2
  rw [← e] at this
  exact this
theorem gK_zero {k : Int} (h0 : 0 ≤ k) : gK k = 0 ↔ k = 0 := by
  unfold gK
  rw [gZ_zero (by omega) (by omega)]
  omega
theorem gK_nn {k : Int} (h0 : 0 ≤ k) : 0 ≤ gK k := (gZ_lt (by omega) (by omega) (by omega)).1
theorem fV_key {f : Int} (hf : Word f) (hc : fC f < 3) : fV f = rv (fS f) (gK (f % 9223372036854775808)) (dB 1074 : Nat) := by
  obtain ⟨a, b, c, d⟩ := kS_of hf (by omega)
  have z := kS_Z (s := fS f) a b
  rw [← c] at z
  rw [fV_over hc, z]
  unfold rv
  rw [Int.toNat_natCast]
theorem dF_stays {f : Int} (hf : Word f) (hc : fC f < 3) (md : Int) : dG md (fV f) = 0 ∧ fK (dF md (fV f)) = fK f ∧ (fV f ≠ 0 → dF md (fV f) = f) := by
  obtain ⟨a, b, c, d⟩ := kS_of hf (by omega)
  have e := fV_key hf hc
  have hD : (0 : Int) < (dB 1074 : Nat) := by rw [dB_int]; exact pow_pos' _
  have hz := gK_nn a
  by_cases h : f % 9223372036854775808 = 0
  · have hV : fV f = 0 := by rw [e, (gK_zero a).2 h]; exact rv_zero (.inl rfl)
    refine ⟨by unfold dG; rw [if_pos hV], ?_, fun h2 => absurd hV h2⟩
    rw [dF_key, if_pos hV, c, kS_key a b, h]
    unfold sv
    split <;> rfl
  · have hg : gK (f % 9223372036854775808) ≠ 0 := fun h2 => h ((gK_zero a).1 h2)
    have hp : 0 < gK (f % 9223372036854775808) := by omega
    have hV : fV f ≠ 0 := by
      rw [e]
      intro h2
      rw [rv_eq_zero (Int.le_of_lt hp) (Int.le_of_lt hD)] at h2
      omega
    obtain ⟨l1, l2, l3⟩ := nX_low (s := fS f) hp hD
    rw [nX_over.1] at l2
    rw [nX_over.2] at l3
    rw [← e] at l1 l2 l3
    obtain ⟨o1, o2⟩ := own_stays a (d.1 hc) md (fS f)
    have r1 : dF md (fV f) = f := by
      unfold dF
      rw [if_neg hV, l1, l2, l3, o1]
      exact c.symm
    refine ⟨?_, by rw [r1], fun _ => r1⟩
    unfold dG
    rw [if_neg hV, l1, l2, l3, o2]

/-- What the last bit counts. -/
theorem p2F_is {e : Int} (h0 : -1074 ≤ e) (h1 : e ≤ 971) : Word (p2F e) ∧ fC (p2F e) < 3 ∧ fV (p2F e) = dyR false 1 e := by
  obtain ⟨j, hj⟩ : ∃ j : Nat, e = (j : Int) - 1074 := ⟨(e + 1074).toNat, by omega⟩
  have hP : eP e = j + 1 := by unfold eP; omega
  have hQ : eQ e = 0 := by unfold eQ; omega
  have hn : rN 1 (eP e) (eQ e) = 2 * 2 ^ j := by
    unfold rN
    rw [hP, hQ, Int.pow_succ, Int.pow_zero, Int.one_mul, Int.ediv_one, Int.mul_comm]
  have hs : rS 1 (eP e) (eQ e) false = false := by
    unfold rS
    rw [hQ, Int.pow_zero, Int.emod_one]
    rfl
  have hW0 := pow_pos' (j - (j - 52))
  have hW1 := pow_mono (j - (j - 52)) 52 (by omega)
  have e52 : (2 : Int) ^ 52 = 4503599627370496 := by decide
  rw [e52] at hW1
  have hg := gK_of (u := j - 52) (W := 2 ^ (j - (j - 52))) (by omega) (by omega) (by
    intro h
    rw [show j - (j - 52) = 52 by omega, e52]
    exact Int.le_refl _)
  rw [← Int.pow_add, show j - (j - 52) + (j - 52) = j by omega] at hg
  obtain ⟨k, hk⟩ : ∃ k : Int, k = ((j - 52 : Nat) : Int) * 4503599627370496 + 2 ^ (j - (j - 52)) := ⟨_, rfl⟩
  rw [← hk] at hg
  have k0 : 0 ≤ k := by omega
  have k1 : k ≤ 9218868437227405311 := by omega
  have hp : p2F e = k + sg false := by
    unfold p2F
    rw [hn, hs, ← hg]
    exact (own_stays k0 k1 0 false).1
  obtain ⟨a, b, c, d, w⟩ := kS_parts (s := false) k0 (by omega)
  have cl := (kS_class (s := false) k0 (by omega)).2.2 k1
  rw [hp]
  refine ⟨w, cl, ?_⟩
  rw [fV_key w cl, a, b, hg, dyR_over _ _ _ h0]
  unfold rv sv
  rw [Int.toNat_natCast, Int.one_mul, show (e + 1074).toNat = j by omega]
end Go.Proofs.YtdjhpplcdkgfgaaDoor
