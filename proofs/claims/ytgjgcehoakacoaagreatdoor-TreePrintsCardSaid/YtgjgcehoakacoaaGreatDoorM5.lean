/-
  What rounding does, as arithmetic: which key a number is rounded to, that it rises, that a float's own value stays, and which float is nearest. No function of the program.
  What rounding does, as arithmetic: down is not above, up is not below, nothing lies between, and the nearest one is nearest. No function of the program.
-/
import Derived.Test.YtgjgcehoakacoaaGreatDoorMHa
namespace Go.Proofs.YtgjgcehoakacoaaGreatDoor
open Go.RowKit
set_option maxRecDepth 100000

/-- A number n, and more (s), is at most another one. -/
def LeS (n : Int) (s : Bool) (n' : Int) (s' : Bool) : Prop := n < n' ∨ (n = n' ∧ (s = true → s' = true))
theorem K0_mono {n n' : Int} (h : 0 ≤ n) (h' : 0 ≤ n') (hl : n ≤ n') : K0 n ≤ K0 n' := by
  obtain ⟨f1, f2⟩ := K0_floor h
  obtain ⟨g1, g2⟩ := K0_floor h'
  rcases Int.lt_or_le (K0 n') (K0 n) with a | a
  · exfalso
    rcases Int.lt_or_eq_of_le (show K0 n' + 1 ≤ K0 n by omega) with c | c
    · have := gK_lt (by have := K0_nn h'; omega) c
      omega
    · rw [c] at g2
      omega
  · exact a
theorem K0_parts {n n' : Int} (h : 0 ≤ n) (h' : 0 ≤ n') (he : K0 n = K0 n') : rU n = rU n' ∧ rW n = rW n' := by
  obtain ⟨a0, a1, a2⟩ := rW_bd h
  obtain ⟨b0, b1, b2⟩ := rW_bd h'
  unfold K0 at he
  generalize rW n = W at *
  generalize rW n' = W' at *
  generalize rU n = u at *
  generalize rU n' = u' at *
  by_cases c : 0 < u
  · have := a2 c
    by_cases d : 0 < u'
    · have := b2 d
      omega
    · omega
  · by_cases d : 0 < u'
    · have := b2 d
      omega
    · omega
theorem away_mono {md n n' : Int} {s s' : Bool} (h : LeS n s n' s') (hu : rU n = rU n') (hw : rW n = rW n') : b2i (rAway md false n s) ≤ b2i (rAway md false n' s') := by
  have p := n_parts (n := n)
  have p' := n_parts (n := n')
  have hp := pow_pos' (rU n)
  have r0 := Int.emod_nonneg n (Int.ne_of_gt hp)
  have r1 := Int.emod_lt_of_pos n hp
  have r0' := Int.emod_nonneg n' (Int.ne_of_gt hp)
  have r1' := Int.emod_lt_of_pos n' hp
  have X : (rH n = true → rH n' = true) ∧ (rH n = rH n' → rB n s = true → rB n' s' = true) := by
    unfold rB
    rw [← hu, ← hw] at p'
    rw [← hu]
    generalize (2 : Int) ^ rU n = z at *
    generalize n % z = r at *
    generalize n' % z = r' at *
    generalize rW n = W at *
    rw [Int.add_mul] at p p'
    have hle : n ≤ n' := by rcases h with h | h <;> omega
    constructor
    · intro e
      cases e' : rH n'
      · rw [e, show b2i true = 1 by rfl] at p
        rw [e', show b2i false = 0 by rfl] at p'
        omega
      · rfl
    · intro e hb
      rw [e] at p
      simp only [Bool.or_eq_true, decide_eq_true_eq] at hb ⊢
      rcases h with h | ⟨h1, h2⟩
      · left; omega
      · rcases hb with hb | hb
        · left; omega
        · right; exact h2 hb
  obtain ⟨X1, X2⟩ := X
  unfold rAway rX
  rw [← hw]
  clear p p' r0 r1 r0' r1' hp h hu hw
  generalize decide (rW n % 2 = 1) = o at *
  generalize rH n = a at *
  generalize rB n s = b at *
  generalize rH n' = c at *
  generalize rB n' s' = d at *
  by_cases h1 : md = 1
  · simp only [if_pos h1]
    revert X1 X2
    cases a <;> cases b <;> cases c <;> cases d <;> decide
  · by_cases h2 : md = 2
    · simp only [if_neg h1, if_pos h2]
      exact Int.le_refl (b2i false)
    · simp only [if_neg h1, if_neg h2]
      revert X1 X2
      cases o <;> cases a <;> cases b <;> cases c <;> cases d <;> decide
theorem key_mono {md n n' : Int} {s s' : Bool} (h : 0 ≤ n) (h' : 0 ≤ n') (hl : LeS n s n' s') : rKey md false n s ≤ rKey md false n' s' := by
  rw [key_of, key_of]
  have k := K0_mono h h' (by rcases hl with h | h <;> omega)
  have b := b2i_bd (rAway md false n s)
  have b' := b2i_bd (rAway md false n' s')
  rcases Int.lt_or_eq_of_le k with k | k
  · omega
  · obtain ⟨u, w⟩ := K0_parts h h' k
    have := away_mono (md := md) hl u w
    omega
theorem bey_bd (md : Int) (neg : Bool) : 9218868437227405311 ≤ rBey md neg ∧ rBey md neg ≤ 9218868437227405312 := by unfold rBey; split <;> omega
theorem mag_mono {md n n' : Int} {s s' : Bool} (h : 0 ≤ n) (h' : 0 ≤ n') (hl : LeS n s n' s') : rMag md false n s ≤ rMag md false n' s' := by
  have k := key_mono (md := md) h h' hl
  have b := bey_bd md false
  unfold rMag
  (repeat' split) <;> omega
/-- The mode that does to the magnitude what a mode does to a number with that sign. -/
def mdT (neg : Bool) (md : Int) : Int := if neg then (if md = 1 then 2 else if md = 2 then 1 else md) else md
theorem mag_turn (md : Int) (neg : Bool) (n : Int) (s : Bool) : rMag md neg n s = rMag (mdT neg md) false n s ∧ rG md neg n s = rG (mdT neg md) false n s := by
  unfold mdT
  cases neg
  · exact ⟨rfl, rfl⟩
  · by_cases h1 : md = 1
    · subst h1
      have := turn (away_turn1 n s) bey_turn1
      exact ⟨this.1.symm, this.2.symm⟩
    · by_cases h2 : md = 2
      · subst h2
        have := turn (away_turn2 n s) bey_turn2
        exact ⟨this.1.symm, this.2.symm⟩
      · have := turn (away_neg (n := n) (s := s) h1 h2) (bey_neg h1 h2)
        simp only [if_true, if_neg h1, if_neg h2]
        exact ⟨this.1.symm, this.2.symm⟩

/-- The magnitudes of fractions. -/
theorem nX_sq {p q : Int} (hq : 0 < q) : nX p q * q ≤ p * q2 1075 ∧ p * q2 1075 < (nX p q + 1) * q ∧ (sX p q = true ↔ nX p q * q < p * q2 1075) := by
  have d := Int.ediv_mul_add_emod (p * q2 1075) q
  have n0 := Int.emod_nonneg (p * q2 1075) (Int.ne_of_gt hq)
  have n1 := Int.emod_lt_of_pos (p * q2 1075) hq
  unfold sX nX
  rw [decide_eq_true_eq, Int.add_mul]
  omega
theorem le_X {p q p' q' : Int} (hq : 0 < q) (hq' : 0 < q') (h : p * q' ≤ p' * q) : LeS (nX p q) (sX p q) (nX p' q') (sX p' q') := by
  obtain ⟨a1, a2, a3⟩ := nX_sq (p := p) hq
  obtain ⟨b1, b2, b3⟩ := nX_sq (p := p') hq'
  have hC := q2_pos 1075
  have h1 : p * q2 1075 * q' ≤ p' * q2 1075 * q := by
    rw [Int.mul_right_comm p, Int.mul_right_comm p']
    exact Int.mul_le_mul_of_nonneg_right h (Int.le_of_lt hC)
  have c1 : nX p q * q * q' ≤ p * q2 1075 * q' := Int.mul_le_mul_of_nonneg_right a1 (Int.le_of_lt hq')
  have c2 : p' * q2 1075 * q < (nX p' q' + 1) * q' * q := Int.mul_lt_mul_of_pos_right b2 hq
  have c3 : nX p q * (q * q') < (nX p' q' + 1) * (q * q') := by
    rw [← Int.mul_assoc, Int.mul_comm q q', ← Int.mul_assoc (nX p' q' + 1)]
    omega
  have c4 : nX p q < nX p' q' + 1 := Int.lt_of_mul_lt_mul_right c3 (Int.le_of_lt (Int.mul_pos hq hq'))
  rcases Int.lt_or_eq_of_le (show nX p q ≤ nX p' q' by omega) with e | e
  · exact .inl e
  · refine .inr ⟨e, fun hs => b3.2 ?_⟩
    have d1 := a3.1 hs
    have d2 : nX p q * q * q' < p * q2 1075 * q' := Int.mul_lt_mul_of_pos_right d1 hq'
    rw [e] at d2
    have d3 : nX p' q' * q' * q < p' * q2 1075 * q := by rw [Int.mul_right_comm]; omega
    exact Int.lt_of_mul_lt_mul_right d3 (Int.le_of_lt hq)

/-- The place in the order of what a rational number is rounded to. -/
theorem rat_le_cross {a b : Rat} : a ≤ b ↔ a.num * (b.den : Int) ≤ b.num * (a.den : Int) := Rat.le_iff a b
def dM (md : Int) (r : Rat) : Int := rMag (mdT (rs r) md) false (nX (rp r) (rq r)) (sX (rp r) (rq r))
theorem dM_nn (md : Int) (r : Rat) : 0 ≤ dM md r ∧ dM md r ≤ 9218868437227405312 := rMag_bd (nX_nn (rp_nonneg r) (rq_pos r))
theorem dF_is {md : Int} {r : Rat} (h : r ≠ 0) : dF md r = dM md r + sg (rs r) := by
  unfold dF rF dM
  rw [if_neg h, (mag_turn md (rs r) _ _).1]
theorem dF_word (md : Int) (r : Rat) : Word (dF md r) := by
  unfold dF
  split
  · exact ⟨by decide, by decide⟩
  · exact rF_word (nX_nn (rp_nonneg r) (rq_pos r))
/-- A float that is made of a key and a sign. -/
theorem kS_parts {k : Int} {s : Bool} (h0 : 0 ≤ k) (h1 : k ≤ 9218868437227405312) : fS (k + sg s) = s ∧ (k + sg s) % 9223372036854775808 = k ∧ fE (k + sg s) = k / 4503599627370496 ∧ fM (k + sg s) = k % 4503599627370496 ∧ Word (k + sg s) := by
  have hw : Word (k + sg s) := by
    have := sg_bd s
    constructor <;> omega
  unfold fS fE fM
  cases s
  · rw [show sg false = 0 by rfl]
    refine ⟨by simp; omega, by omega, by omega, by omega, hw⟩
  · rw [show sg true = 9223372036854775808 by rfl]
    refine ⟨by simp; omega, by omega, by omega, by omega, hw⟩
theorem kS_key {k : Int} {s : Bool} (h0 : 0 ≤ k) (h1 : k ≤ 9218868437227405312) : fK (k + sg s) = sv s k := by
  obtain ⟨a, b, -, -, -⟩ := kS_parts (s := s) h0 h1
  unfold fK sv
  rw [a, b]
theorem kS_class {k : Int} {s : Bool} (h0 : 0 ≤ k) (h1 : k ≤ 9218868437227405312) : fC (k + sg s) ≠ 4 ∧ (fC (k + sg s) < 3 ↔ k ≤ 9218868437227405311) := by
  obtain ⟨-, -, c, d, -⟩ := kS_parts (s := s) h0 h1
  unfold fC
  rw [c, d]
  constructor
  · (repeat' split) <;> omega
  · (repeat' split) <;> omega
theorem kS_Z {k : Int} {s : Bool} (h0 : 0 ≤ k) (h1 : k ≤ 9218868437227405312) : fZ (k + sg s) = sv s (gK k) := by
  obtain ⟨a, -, c, d, -⟩ := kS_parts (s := s) h0 h1
  unfold fZ gK
  rw [a, c, d]
theorem dF_key (md : Int) (r : Rat) : fK (dF md r) = if r = 0 then 0 else sv (rs r) (dM md r) := by
  by_cases h : r = 0
  · rw [if_pos h]
    unfold dF
    rw [if_pos h]
    decide
  · obtain ⟨a, b⟩ := dM_nn md r
    rw [if_neg h, dF_is h, kS_key a b]
theorem dF_class (md : Int) (r : Rat) : fC (dF md r) ≠ 4 := by
  by_cases h : r = 0
  · unfold dF
    rw [if_pos h]
    decide
  · obtain ⟨a, b⟩ := dM_nn md r
    rw [dF_is h]
    exact (kS_class a b).1
theorem rs_false {r : Rat} (h : rs r = false) : r.num = rp r := by have := sv_of r; rw [h] at this; exact this.symm
theorem rs_true {r : Rat} (h : rs r = true) : r.num = -rp r := by have := sv_of r; rw [h] at this; exact this.symm
theorem rp_pos {r : Rat} (h : r ≠ 0) : 0 < rp r := by
  have := rp_nonneg r
  have h2 : rp r ≠ 0 := fun e => h (rp_zero.1 e)
  omega
/-- What is greater is not rounded to less. -/
theorem dF_rises (md : Int) {a b : Rat} (h : a ≤ b) : fK (dF md a) ≤ fK (dF md b) := by
  rw [dF_key, dF_key]
  have na := dM_nn md a
  have nb := dM_nn md b
  have h' := rat_le_cross.1 h
  have qa := rq_pos a
  have qb := rq_pos b
  have ca : (a.den : Int) = rq a := rfl
  have cb : (b.den : Int) = rq b := rfl
  rw [ca, cb] at h'
  by_cases za : a = 0
  · rw [if_pos za]
    split
    · omega
    · rename_i zb
      have pb := rp_pos zb
      cases sb : rs b
      · simp [sv]; omega
      · rw [rs_true sb, za, show (0 : Rat).num = 0 by rfl, Int.zero_mul, Int.neg_mul] at h'
        have := Int.mul_pos pb qa
        rw [za] at this
        omega
  · rw [if_neg za]
    have pa := rp_pos za
    by_cases zb : b = 0
    · rw [if_pos zb]
      cases sa : rs a
      · rw [rs_false sa, zb, show (0 : Rat).num = 0 by rfl, Int.zero_mul] at h'
        have := Int.mul_pos pa qb
        rw [zb] at this
        omega
      · simp [sv]; omega
    · rw [if_neg zb]
      have pb := rp_pos zb
      have mab := Int.mul_pos pa qb
      have mba := Int.mul_pos pb qa
      cases sa : rs a <;> cases sb : rs b
      · rw [rs_false sa, rs_false sb] at h'
        have := mag_mono (md := md) (nX_nn (Int.le_of_lt pa) qa) (nX_nn (Int.le_of_lt pb) qb) (le_X qa qb h')
        unfold dM
        rw [sa, sb]
        simp only [sv, Bool.false_eq_true, if_false]
        exact this
      · rw [rs_false sa, rs_true sb, Int.neg_mul] at h'
        omega
      · simp [sv]; omega
      · rw [rs_true sa, rs_true sb, Int.neg_mul, Int.neg_mul] at h'
        have := mag_mono (md := mdT true md) (nX_nn (Int.le_of_lt pb) qb) (nX_nn (Int.le_of_lt pa) qa) (le_X qb qa (by omega))
        unfold dM
        rw [sa, sb]
        simp only [sv, if_true]
        omega

/-- Towards nought is not above the nearest one, nor that above what is away from nought. -/
theorem rX_far {n : Int} {s : Bool} (h : rX n s = true) (md : Int) (neg : Bool) : rAway md neg n s = false := by
  unfold rX at h
  unfold rAway rX
  generalize rH n = a at *
  generalize rB n s = b at *
  generalize decide (rW n % 2 = 1) = o at *
  (repeat' split) <;> revert h <;> cases neg <;> cases a <;> cases b <;> cases o <;> decide
theorem away_three (n : Int) (s : Bool) : rAway 2 false n s = false ∧ rAway 1 false n s = !rX n s ∧ b2i (rAway 0 false n s) ≤ b2i (!rX n s) := by
  refine ⟨by simp [rAway], by simp [rAway], ?_⟩
  cases h : rX n s
  · exact (b2i_bd _).2
  · rw [rX_far h 0 false]
    decide
theorem mag_modes {n : Int} {s : Bool} : rMag 2 false n s ≤ rMag 0 false n s ∧ rMag 0 false n s ≤ rMag 1 false n s := by
  obtain ⟨a, b, c⟩ := away_three n s
  have d := b2i_bd (rAway 0 false n s)
  unfold rMag
  rw [key_of, key_of, key_of, a, b, show rBey 2 false = 9218868437227405311 by decide, show rBey 0 false = 9218868437227405312 by decide, show rBey 1 false = 9218868437227405312 by decide, show b2i false = 0 by rfl]
  constructor <;> (repeat' split) <;> omega
theorem dM_turn (r : Rat) : mdT (rs r) 0 = 0 ∧ (rs r = false → mdT (rs r) 1 = 1 ∧ mdT (rs r) 2 = 2) ∧ (rs r = true → mdT (rs r) 1 = 2 ∧ mdT (rs r) 2 = 1) := by
  cases rs r
  · exact ⟨rfl, fun _ => ⟨rfl, rfl⟩, fun h => by cases h⟩
  · exact ⟨rfl, fun h => by (cases h), fun _ => ⟨rfl, rfl⟩⟩
theorem dF_modes (r : Rat) : fK (dF 2 r) ≤ fK (dF 0 r) ∧ fK (dF 0 r) ≤ fK (dF 1 r) := by
  rw [dF_key, dF_key, dF_key]
  by_cases h : r = 0
  · simp only [if_pos h]
    omega
  · simp only [if_neg h]
    obtain ⟨t0, t1, t2⟩ := dM_turn r
    unfold dM
    rw [t0]
    generalize nX (rp r) (rq r) = n
    generalize sX (rp r) (rq r) = s
    have m := mag_modes (n := n) (s := s)
    cases hs : rs r
    · obtain ⟨u1, u2⟩ := t1 hs
      rw [hs] at u1 u2
      rw [u1, u2]
      simp only [sv, Bool.false_eq_true, if_false]
      exact m
    · obtain ⟨u1, u2⟩ := t2 hs
      rw [hs] at u1 u2
      rw [u1, u2]
      simp only [sv, if_true]
      omega

/-- A float's own value is rounded to that float. -/
theorem K0_own {k : Int} (h0 : 0 ≤ k) : K0 (2 * gK k) = k := by
  have hz : 0 ≤ gK k := (gZ_lt (by omega) (by omega) (by omega)).1
  obtain ⟨f1, f2⟩ := K0_floor (n := 2 * gK k) (by omega)
  have hn := K0_nn (n := 2 * gK k) (by omega)
  rcases Int.lt_trichotomy (K0 (2 * gK k)) k with h | h | h
  · rcases Int.lt_or_eq_of_le (show K0 (2 * gK k) + 1 ≤ k by omega) with c | c
    · have := gK_lt (by omega) c
      omega
    · rw [c] at f2
      omega
  · exact h
  · have := gK_lt h0 h
    omega
theorem own_exact {k : Int} (h0 : 0 ≤ k) : rX (2 * gK k) false = true := by
  have hz : 0 ≤ gK k := (gZ_lt (by omega) (by omega) (by omega)).1
  rw [← ask_exact (by omega), K0_own h0]
  unfold cmpS
  rw [if_neg (by omega), if_pos ⟨rfl, rfl⟩]
  rfl
theorem own_stays {k : Int} (h0 : 0 ≤ k) (h1 : k ≤ 9218868437227405311) (md : Int) (neg : Bool) : rF md neg (2 * gK k) false = k + sg neg ∧ rG md neg (2 * gK k) false = 0 := by
  have hk : rKey md neg (2 * gK k) false = k := by
    rw [key_of, K0_own h0, rX_far (own_exact h0)]
    show k + 0 = k
    omega
  unfold rF rMag rG
  rw [hk, if_pos h1, if_pos h1, own_exact h0]
  exact ⟨rfl, rfl⟩
theorem nX_over {z : Int} : nX z (dB 1074 : Nat) = 2 * z ∧ sX z (dB 1074 : Nat) = false := by
  have hd : ((dB 1074 : Nat) : Int) = q2 1074 := dB_int 1074
  have hp := q2_pos 1074
  have e : z * q2 1075 = 2 * z * q2 1074 := by
    have : q2 1075 = 2 * q2 1074 := by
      unfold q2
      rw [Int.pow_succ, Int.mul_comm]
    rw [this, ← Int.mul_assoc, Int.mul_comm z 2]
  unfold nX sX
  rw [hd, e]
  refine ⟨Int.mul_ediv_cancel _ (Int.ne_of_gt hp), ?_⟩
  rw [Int.mul_emod_left]
  rfl
/-- The key of a float. -/
theorem kS_of {f : Int} (hf : Word f) (hc : fC f ≠ 4) : 0 ≤ f % 9223372036854775808 ∧ f % 9223372036854775808 ≤ 9218868437227405312 ∧ f = f % 9223372036854775808 + sg (fS f) ∧ (fC f < 3 ↔ f % 9223372036854775808 ≤ 9218868437227405311) := by
  have h1 : f % 9223372036854775808 ≤ 9218868437227405312 := by
    have := nan_iff hf
    omega
  have e : f = f % 9223372036854775808 + sg (fS f) := by
    obtain ⟨_, _⟩ := hf
    unfold fS sg
    by_cases h : 9223372036854775808 ≤ f
    · rw [decide_eq_true h, if_pos rfl]; omega
    · rw [decide_eq_false h, if_neg (by decide)]; omega
  have h0 : 0 ≤ f % 9223372036854775808 := by omega
  refine ⟨h0, h1, e, ?_⟩
  have := (kS_class (s := fS f) h0 h1).2
  rw [← e] at this
  exact this
theorem gK_zero {k : Int} (h0 : 0 ≤ k) : gK k = 0 ↔ k = 0 := by
  unfold gK
  rw [gZ_zero (by omega) (by omega)]
  omega
theorem gK_nn {k : Int} (h0 : 0 ≤ k) : 0 ≤ gK k := (gZ_lt (by omega) (by omega) (by omega)).1
theorem fV_key {f : Int} (hf : Word f) (hc : fC f < 3) : fV f = rv (fS f) (gK (f % 9223372036854775808)) (dB 1074 : Nat) := by
  obtain ⟨a, b, c, d⟩ := kS_of hf (by omega)
  have z := kS_Z (s := fS f) a b
  rw [← c] at z
  rw [fV_over hc, z]
  unfold rv
  rw [Int.toNat_natCast]
theorem dF_stays {f : Int} (hf : Word f) (hc : fC f < 3) (md : Int) : dG md (fV f) = 0 ∧ fK (dF md (fV f)) = fK f ∧ (fV f ≠ 0 → dF md (fV f) = f) := by
  obtain ⟨a, b, c, d⟩ := kS_of hf (by omega)
  have e := fV_key hf hc
  have hD : (0 : Int) < (dB 1074 : Nat) := by rw [dB_int]; exact pow_pos' _
  have hz := gK_nn a
  by_cases h : f % 9223372036854775808 = 0
  · have hV : fV f = 0 := by rw [e, (gK_zero a).2 h]; exact rv_zero (.inl rfl)
    refine ⟨by unfold dG; rw [if_pos hV], ?_, fun h2 => absurd hV h2⟩
    rw [dF_key, if_pos hV, c, kS_key a b, h]
    unfold sv
    split <;> rfl
  · have hg : gK (f % 9223372036854775808) ≠ 0 := fun h2 => h ((gK_zero a).1 h2)
    have hp : 0 < gK (f % 9223372036854775808) := by omega
    have hV : fV f ≠ 0 := by
      rw [e]
      intro h2
      rw [rv_eq_zero (Int.le_of_lt hp) (Int.le_of_lt hD)] at h2
      omega
    obtain ⟨l1, l2, l3⟩ := nX_low (s := fS f) hp hD
    rw [nX_over.1] at l2
    rw [nX_over.2] at l3
    rw [← e] at l1 l2 l3
    obtain ⟨o1, o2⟩ := own_stays a (d.1 hc) md (fS f)
    have r1 : dF md (fV f) = f := by
      unfold dF
      rw [if_neg hV, l1, l2, l3, o1]
      exact c.symm
    refine ⟨?_, by rw [r1], fun _ => r1⟩
    unfold dG
    rw [if_neg hV, l1, l2, l3, o2]

/-- What the last bit counts. -/
theorem p2F_is {e : Int} (h0 : -1074 ≤ e) (h1 : e ≤ 971) : Word (p2F e) ∧ fC (p2F e) < 3 ∧ fV (p2F e) = dyR false 1 e := by
  obtain ⟨j, hj⟩ : ∃ j : Nat, e = (j : Int) - 1074 := ⟨(e + 1074).toNat, by omega⟩
  have hP : eP e = j + 1 := by unfold eP; omega
  have hQ : eQ e = 0 := by unfold eQ; omega
  have hn : rN 1 (eP e) (eQ e) = 2 * 2 ^ j := by
    unfold rN
    rw [hP, hQ, Int.pow_succ, Int.pow_zero, Int.one_mul, Int.ediv_one, Int.mul_comm]
  have hs : rS 1 (eP e) (eQ e) false = false := by
    unfold rS
    rw [hQ, Int.pow_zero, Int.emod_one]
    rfl
  have hW0 := pow_pos' (j - (j - 52))
  have hW1 := pow_mono (j - (j - 52)) 52 (by omega)
  have e52 : (2 : Int) ^ 52 = 4503599627370496 := by decide
  rw [e52] at hW1
  have hg := gK_of (u := j - 52) (W := 2 ^ (j - (j - 52))) (by omega) (by omega) (by
    intro h
    rw [show j - (j - 52) = 52 by omega, e52]
    exact Int.le_refl _)
  rw [← Int.pow_add, show j - (j - 52) + (j - 52) = j by omega] at hg
  obtain ⟨k, hk⟩ : ∃ k : Int, k = ((j - 52 : Nat) : Int) * 4503599627370496 + 2 ^ (j - (j - 52)) := ⟨_, rfl⟩
  rw [← hk] at hg
  have k0 : 0 ≤ k := by omega
  have k1 : k ≤ 9218868437227405311 := by omega
  have hp : p2F e = k + sg false := by
    unfold p2F
    rw [hn, hs, ← hg]
    exact (own_stays k0 k1 0 false).1
  obtain ⟨a, b, c, d, w⟩ := kS_parts (s := false) k0 (by omega)
  have cl := (kS_class (s := false) k0 (by omega)).2.2 k1
  rw [hp]
  refine ⟨w, cl, ?_⟩
  rw [fV_key w cl, a, b, hg, dyR_over _ _ _ h0]
  unfold rv sv
  rw [Int.toNat_natCast, Int.one_mul, show (e + 1074).toNat = j by omega]
end Go.Proofs.YtgjgcehoakacoaaGreatDoor
namespace Go.Proofs.YtgjgcehoakacoaaGreatDoor
open Go.RowKit
set_option maxRecDepth 100000

/-- 2^1074. -/
def dD : Int := ((dB 1074 : Nat) : Int)
theorem dD_pos : 0 < dD := by unfold dD; rw [dB_int]; exact pow_pos' _
theorem dD_twice : q2 1075 = 2 * dD := by
  unfold dD
  rw [dB_int]
  unfold q2
  rw [Int.pow_succ, Int.mul_comm]
theorem sign_le {a : Int} (h : a ≤ 0) : a.sign ≤ 0 := by
  rcases Int.lt_or_eq_of_le h with h | h
  · rw [Int.sign_eq_neg_one_of_neg h]; decide
  · rw [h]; decide
theorem sign_ge {a : Int} (h : 0 ≤ a) : 0 ≤ a.sign := by
  rcases Int.lt_or_eq_of_le h with h | h
  · rw [Int.sign_eq_one_of_pos h]; decide
  · rw [← h]; decide

section
variable {p q : Int}
theorem gk_below (hq : 0 < q) {t : Int} (h : 2 * t ≤ nX p q) : t * q ≤ p * dD := by
  obtain ⟨a, -, -⟩ := nX_sq (p := p) hq
  have b := Int.mul_le_mul_of_nonneg_right h (Int.le_of_lt hq)
  rw [dD_twice, show p * (2 * dD) = 2 * (p * dD) by rw [← Int.mul_assoc, Int.mul_comm p 2, Int.mul_assoc]] at a
  rw [Int.mul_assoc] at b
  omega
theorem gk_above (hq : 0 < q) {t : Int} (h : nX p q < 2 * t) : p * dD < t * q := by
  obtain ⟨-, a, -⟩ := nX_sq (p := p) hq
  have b := Int.mul_le_mul_of_nonneg_right (show nX p q + 1 ≤ 2 * t by omega) (Int.le_of_lt hq)
  rw [dD_twice, show p * (2 * dD) = 2 * (p * dD) by rw [← Int.mul_assoc, Int.mul_comm p 2, Int.mul_assoc]] at a
  rw [Int.mul_assoc 2 t q] at b
  omega
theorem gk_same (hq : 0 < q) {t : Int} (h : 2 * t = nX p q) (hs : sX p q = false) : p * dD = t * q := by
  obtain ⟨a, -, c⟩ := nX_sq (p := p) hq
  have d : ¬ nX p q * q < p * q2 1075 := fun h2 => by rw [c.2 h2] at hs; cases hs
  rw [dD_twice, show p * (2 * dD) = 2 * (p * dD) by rw [← Int.mul_assoc, Int.mul_comm p 2, Int.mul_assoc], ← h, Int.mul_assoc] at a d
  omega
theorem mid_le (hq : 0 < q) {t : Int} (h : cmpS (nX p q) (sX p q) t ≤ 0) : 2 * (p * dD) ≤ t * q := by
  obtain ⟨a, b, c⟩ := nX_sq (p := p) hq
  rw [dD_twice, show p * (2 * dD) = 2 * (p * dD) by rw [← Int.mul_assoc, Int.mul_comm p 2, Int.mul_assoc]] at a b c
  unfold cmpS at h
  by_cases h1 : nX p q < t
  · have d := Int.mul_le_mul_of_nonneg_right (show nX p q + 1 ≤ t by omega) (Int.le_of_lt hq)
    omega
  · rw [if_neg h1] at h
    by_cases h2 : nX p q = t ∧ sX p q = false
    · rw [h2.2, h2.1] at c
      simp at c
      exact c
    · rw [if_neg h2] at h
      omega
theorem mid_ge (hq : 0 < q) {t : Int} (h : 0 ≤ cmpS (nX p q) (sX p q) t) : t * q ≤ 2 * (p * dD) := by
  obtain ⟨a, b, c⟩ := nX_sq (p := p) hq
  rw [dD_twice, show p * (2 * dD) = 2 * (p * dD) by rw [← Int.mul_assoc, Int.mul_comm p 2, Int.mul_assoc]] at a
  have d := Int.mul_le_mul_of_nonneg_right (cmpS_ge.1 h) (Int.le_of_lt hq)
  omega

/-- The key below, the one away from nought, the nearest one: what they are to the number. -/
structure Near3 (p q T A N : Int) : Prop where
  t0 : 0 ≤ T
  t1 : T ≤ 9218868437227405311
  step : A = T ∨ A = T + 1
  one : N = T ∨ N = A
  low : gK T * q ≤ p * dD
  high : A ≤ 9218868437227405311 → p * dD ≤ gK A * q
  near : N ≤ 9218868437227405311 → ∀ k, 0 ≤ k → k ≤ 9218868437227405311 → (gK N * q - p * dD).natAbs ≤ (gK k * q - p * dD).natAbs ∧ (gK N * q - p * dD).natAbs ≤ (gK k * q + p * dD).natAbs
theorem near3 (hp : 0 < p) (hq : 0 < q) : Near3 p q (rMag 2 false (nX p q) (sX p q)) (rMag 1 false (nX p q) (sX p q)) (rMag 0 false (nX p q) (sX p q)) := by
  have hn := nX_nn (Int.le_of_lt hp) hq
  obtain ⟨f1, f2⟩ := K0_floor hn
  have k0 := K0_nn hn
  have lo := gk_below hq f1
  have hi := gk_above hq f2
  obtain ⟨w0, w1, w2⟩ := rW_bd hn
  have g1 := gK_of (u := rU (nX p q)) w0 (by omega) w2
  have g2 := gK_of (u := rU (nX p q)) (W := rW (nX p q) + 1) (by omega) (by omega) (by intro h; have := w2 h; omega)
  rw [← Int.add_assoc] at g2
  have hK : K0 (nX p q) = (rU (nX p q) : Int) * 4503599627370496 + rW (nX p q) := rfl
  rw [← hK] at g1 g2
  have hM : (2 * rW (nX p q) + 1) * 2 ^ rU (nX p q) = gK (K0 (nX p q)) + gK (K0 (nX p q) + 1) := by
    rw [g1, g2, ← Int.add_mul]
    congr 1
    omega
  obtain ⟨m1, m2⟩ := ask_mid (n := nX p q) (s := sX p q)
  rw [hM] at m1 m2
  have mL := fun h => mid_le (p := p) hq (t := gK (K0 (nX p q)) + gK (K0 (nX p q) + 1)) h
  have mG := fun h => mid_ge (p := p) hq (t := gK (K0 (nX p q)) + gK (K0 (nX p q) + 1)) h
  have ex : rX (nX p q) (sX p q) = true → p * dD = gK (K0 (nX p q)) * q := by
    intro h
    have e := ask_exact (s := sX p q) hn
    rw [h] at e
    have e : cmpS (nX p q) (sX p q) (2 * gK (K0 (nX p q))) = 0 := by simpa using e
    unfold cmpS at e
    split at e
    · omega
    · split at e
      · rename_i h2
        exact gk_same hq h2.1.symm h2.2
      · omega
  obtain ⟨a2, a1, a0⟩ := away_three (nX p q) (sX p q)
  have aN : rAway 0 false (nX p q) (sX p q) = (rH (nX p q) && (rB (nX p q) (sX p q) || decide (rW (nX p q) % 2 = 1))) := by simp [rAway]
  have e2 : rMag 2 false (nX p q) (sX p q) = if K0 (nX p q) ≤ 9218868437227405311 then K0 (nX p q) else 9218868437227405311 := by
    unfold rMag
    rw [key_of, a2, show rBey 2 false = 9218868437227405311 by decide, show b2i false = 0 by rfl, Int.add_zero]
  have e1 : rMag 1 false (nX p q) (sX p q) = if K0 (nX p q) + b2i (!rX (nX p q) (sX p q)) ≤ 9218868437227405311 then K0 (nX p q) + b2i (!rX (nX p q) (sX p q)) else 9218868437227405312 := by
    unfold rMag
    rw [key_of, a1, show rBey 1 false = 9218868437227405312 by decide]
  have e0 : rMag 0 false (nX p q) (sX p q) = if K0 (nX p q) + b2i (rAway 0 false (nX p q) (sX p q)) ≤ 9218868437227405311 then K0 (nX p q) + b2i (rAway 0 false (nX p q) (sX p q)) else 9218868437227405312 := by
    unfold rMag
    rw [key_of, show rBey 0 false = 9218868437227405312 by decide]
  rw [e2, e1, e0]
  -- the nearest one, by its sides
  have nr : (rAway 0 false (nX p q) (sX p q) = false → 2 * (p * dD) ≤ (gK (K0 (nX p q)) + gK (K0 (nX p q) + 1)) * q) ∧ (rAway 0 false (nX p q) (sX p q) = true → (gK (K0 (nX p q)) + gK (K0 (nX p q) + 1)) * q ≤ 2 * (p * dD)) := by
    rw [aN]
    generalize decide (rW (nX p q) % 2 = 1) = o
    generalize cmpS (nX p q) (sX p q) (gK (K0 (nX p q)) + gK (K0 (nX p q) + 1)) = c at *
    generalize rH (nX p q) = a at *
    generalize rB (nX p q) (sX p q) = b at *
    constructor
    · intro h
      refine mL ?_
      rcases Int.lt_or_le 0 c with h1 | h1
      · rw [decide_eq_true h1] at m1
        revert h m1
        cases a <;> cases b <;> cases o <;> simp
      · exact h1
    · intro h
      refine mG ?_
      rcases Int.lt_or_le 0 c with h1 | h1
      · omega
      · rw [decide_eq_false (by omega)] at m1
        rcases Int.lt_or_eq_of_le h1 with h3 | h3
        · have : (c == 0) = false := by simp; omega
          rw [this] at m2
          revert h m1 m2
          cases a <;> cases b <;> cases o <;> simp
        · omega
  have tw : gK 9218868437227405311 ≤ gK (K0 (nX p q)) ∨ K0 (nX p q) ≤ 9218868437227405311 := by
    rcases Int.lt_or_le 9218868437227405311 (K0 (nX p q)) with h | h
    · exact .inl (Int.le_of_lt (gK_lt (by decide) h))
    · exact .inr h
  have nn0 := gK_nn k0
  have sides : ∀ k, 0 ≤ k → gK k * q ≤ gK (K0 (nX p q)) * q ∨ gK (K0 (nX p q) + 1) * q ≤ gK k * q := by
    intro k hk
    rcases Int.lt_or_le (K0 (nX p q)) k with h | h
    · right
      rcases Int.lt_or_eq_of_le (show K0 (nX p q) + 1 ≤ k by omega) with h2 | h2
      · exact Int.mul_le_mul_of_nonneg_right (Int.le_of_lt (gK_lt (by omega) h2)) (Int.le_of_lt hq)
      · rw [h2]; exact Int.le_refl _
    · left
      rcases Int.lt_or_eq_of_le h with h2 | h2
      · exact Int.mul_le_mul_of_nonneg_right (Int.le_of_lt (gK_lt hk h2)) (Int.le_of_lt hq)
      · rw [h2]; exact Int.le_refl _
  have kq : ∀ k, 0 ≤ k → 0 ≤ gK k * q := fun k hk => Int.mul_nonneg (gK_nn hk) (Int.le_of_lt hq)
  have lowT : gK 9218868437227405311 ≤ gK (K0 (nX p q)) → gK 9218868437227405311 * q ≤ p * dD := fun h => Int.le_trans (Int.mul_le_mul_of_nonneg_right h (Int.le_of_lt hq)) lo
  rw [Int.add_mul] at nr
  have bx := b2i_bd (!rX (nX p q) (sX p q))
  have ba := b2i_bd (rAway 0 false (nX p q) (sX p q))
  have l0 := kq _ k0
  clear e0 e1 e2 a1 a2 m1 m2 mL mG hM g1 g2 w0 w1 w2 hK f1 f2 aN
  refine ⟨?_, ?_, ?_, ?_, ?_, ?_, ?_⟩
  · split <;> omega
  · split <;> omega
  · (repeat' split) <;> omega
  · (repeat' split) <;> omega
  · split
    · exact lo
    · rcases tw with h | h
      · exact lowT h
      · omega
  · intro h
    split at h
    · rename_i h1
      rw [if_pos h1]
      cases hx : rX (nX p q) (sX p q)
      · rw [show b2i (!false) = 1 by rfl]
        exact Int.le_of_lt hi
      · rw [show b2i (!true) = 0 by rfl, Int.add_zero]
        exact Int.le_of_eq (ex hx)
    · omega
  · intro h k hk0 hk1
    split at h
    · rename_i h1
      rw [if_pos h1]
      have sd := sides k hk0
      have kn := kq k hk0
      cases hx : rAway 0 false (nX p q) (sX p q)
      · have := nr.1 hx
        rw [show b2i false = 0 by rfl, Int.add_zero]
        generalize gK (K0 (nX p q)) * q = L at *
        generalize gK (K0 (nX p q) + 1) * q = H at *
        generalize gK k * q = z at *
        generalize p * dD = x at *
        constructor <;> omega
      · have := nr.2 hx
        rw [show b2i true = 1 by rfl]
        generalize gK (K0 (nX p q)) * q = L at *
        generalize gK (K0 (nX p q) + 1) * q = H at *
        generalize gK k * q = z at *
        generalize p * dD = x at *
        constructor <;> omega
    · omega
end

/-- What the law of rounding asks of the three answers. -/
structure Holds3 (r : Rat) (d u n : Int) : Prop where
  dw : Word d
  uw : Word u
  nw : Word n
  down : fC d < 3 → cmpR (fV d) r ≤ 0
  up : fC u < 3 → 0 ≤ cmpR (fV u) r
  dinf : ¬ fC d < 3 → d = 18442240474082181120
  uinf : ¬ fC u < 3 → u = 9218868437227405312
  oneof : fC d < 3 ∨ fC u < 3
  one : n = d ∨ n = u
  next : d = u ∨ fNx d = u
  near : fC n < 3 → ∀ g, Word g → fC g < 3 → cmpR (absR (fV n - r)) (absR (fV g - r)) ≤ 0
theorem absR_mk {a : Int} {c : Nat} (hc : c ≠ 0) : absR (mkRat a c) = mkRat (a.natAbs : Int) c := by
  have hp : (0 : Int) < (c : Int) := by omega
  rcases Int.lt_or_le a 0 with h | h
  · have e : mkRat a c = rv true (-a) (c : Int) := by unfold rv sv; rw [if_pos rfl, Int.neg_neg, Int.toNat_natCast]
    rw [e, ← rv_abs (by omega) (by omega)]
    unfold rv sv
    rw [if_neg (by decide), Int.toNat_natCast, show ((a.natAbs : Nat) : Int) = -a by omega]
  · have e : mkRat a c = rv false a (c : Int) := by unfold rv sv; rw [if_neg (by decide), Int.toNat_natCast]
    rw [e, ← rv_abs (by omega) (by omega)]
    unfold rv sv
    rw [if_neg (by decide), Int.toNat_natCast, show ((a.natAbs : Nat) : Int) = a by omega]
theorem fV_cmpR {k : Int} {s : Bool} (h0 : 0 ≤ k) (h1 : k ≤ 9218868437227405311) (t : Bool) {p q : Int} (hq : 0 < q) : cmpR (fV (k + sg s)) (rv t p q) = (sv s (gK k) * q - sv t p * dD).sign := by
  obtain ⟨a, b, -, -, w⟩ := kS_parts (s := s) h0 (by omega)
  have c := (kS_class (s := s) h0 (by omega)).2.2 h1
  rw [fV_key w c, a, b]
  exact cmp_rv dD_pos hq
theorem fV_sub {k : Int} {s : Bool} (h0 : 0 ≤ k) (h1 : k ≤ 9218868437227405311) (t : Bool) {p q : Int} (hq : 0 < q) : fV (k + sg s) - rv t p q = mkRat (sv s (gK k) * q - sv t p * dD) (dD * q).toNat := by
  obtain ⟨a, b, -, -, w⟩ := kS_parts (s := s) h0 (by omega)
  have c := (kS_class (s := s) h0 (by omega)).2.2 h1
  rw [fV_key w c, a, b, Rat.sub_eq_add_neg, ← rv_not]
  have := rv_add (s := s) (t := !t) (p := gK k) (a := p) dD_pos hq
  rw [sv_not, Int.neg_mul] at this
  exact this
theorem near_cmp {k j : Int} {s s' : Bool} (h0 : 0 ≤ k) (h1 : k ≤ 9218868437227405311) (i0 : 0 ≤ j) (i1 : j ≤ 9218868437227405311) (t : Bool) {p q : Int} (hq : 0 < q)
    (h : (sv s (gK k) * q - sv t p * dD).natAbs ≤ (sv s' (gK j) * q - sv t p * dD).natAbs) : cmpR (absR (fV (k + sg s) - rv t p q)) (absR (fV (j + sg s') - rv t p q)) ≤ 0 := by
  have hc : (dD * q).toNat ≠ 0 := by have := Int.mul_pos dD_pos hq; omega
  rw [fV_sub h0 h1 t hq, fV_sub i0 i1 t hq, absR_mk hc, absR_mk hc, cmp_over hc]
  unfold cmpI
  (repeat' split) <;> omega
theorem holds_zero : Holds3 0 (dF 2 0) (dF 1 0) (dF 0 0) := by
  have e : ∀ md, dF md 0 = 0 := fun md => by unfold dF; rw [if_pos rfl]
  have v : fV 0 = 0 := by decide +kernel
  rw [e, e, e]
  have c : fC 0 < 3 := by decide
  refine ⟨⟨by decide, by decide⟩, ⟨by decide, by decide⟩, ⟨by decide, by decide⟩, fun _ => ?_, fun _ => ?_, fun h => absurd c h, fun h => absurd c h, .inl c, .inl rfl, .inl rfl, fun _ g hg hc => ?_⟩
  · rw [v, cmp_self]; decide
  · rw [v, cmp_self]; decide
  · rw [v]
    have h0 : absR (0 - 0 : Rat) = 0 := by decide +kernel
    rw [h0]
    have hn : 0 ≤ absR (fV g - 0) := by
      unfold absR
      split
      · rename_i h
        have := Rat.neg_le_neg (Rat.le_of_lt h)
        simpa using this
      · rename_i h
        exact Rat.not_lt.1 h
    rcases cmp_cases 0 (absR (fV g - 0)) with h | h | h
    · omega
    · omega
    · exact absurd (cmp_gt.1 h) (Rat.not_lt.2 hn)
theorem holds3 (r : Rat) : Holds3 r (dF 2 r) (dF 1 r) (dF 0 r) := by
  by_cases h : r = 0
  · subst h
    exact holds_zero
  · have hp := rp_pos h
    have hq := rq_pos r
    have N := near3 hp hq
    have M := mag_modes (n := nX (rp r) (rq r)) (s := sX (rp r) (rq r))
    have b1 := (rMag_bd (md := 1) (neg := false) (s := sX (rp r) (rq r)) (nX_nn (rp_nonneg r) hq))
    have b0 := (rMag_bd (md := 0) (neg := false) (s := sX (rp r) (rq r)) (nX_nn (rp_nonneg r) hq))
    have dw := dF_word 2 r
    have uw := dF_word 1 r
    have nw := dF_word 0 r
    obtain ⟨t0, t1, t2⟩ := dM_turn r
    have e0 : dF 0 r = rMag 0 false (nX (rp r) (rq r)) (sX (rp r) (rq r)) + sg (rs r) := by rw [dF_is h]; unfold dM; rw [t0]
    have hr := rv_of r
    cases hs : rs r
    · obtain ⟨u1, u2⟩ := t1 hs
      have e1 : dF 1 r = rMag 1 false (nX (rp r) (rq r)) (sX (rp r) (rq r)) + sg (rs r) := by rw [dF_is h]; unfold dM; rw [u1]
      have e2 : dF 2 r = rMag 2 false (nX (rp r) (rq r)) (sX (rp r) (rq r)) + sg (rs r) := by rw [dF_is h]; unfold dM; rw [u2]
      rw [e0] at nw
      rw [e1] at uw
      rw [e2] at dw
      rw [e0, e1, e2]
      rw [hs] at hr dw uw nw ⊢
      clear t0 t1 t2 u1 u2 e0 e1 e2 h
      generalize rMag 2 false (nX (rp r) (rq r)) (sX (rp r) (rq r)) = T at *
      generalize rMag 1 false (nX (rp r) (rq r)) (sX (rp r) (rq r)) = A at *
      generalize rMag 0 false (nX (rp r) (rq r)) (sX (rp r) (rq r)) = Z at *
      obtain ⟨n1, n2, n3, n4, n5, n6, n7⟩ := N
      have cT := kS_class (s := false) n1 (by omega)
      have cA := kS_class (s := false) b1.1 b1.2
      have cZ := kS_class (s := false) b0.1 b0.2
      refine ⟨dw, uw, nw, fun c => ?_, fun c => ?_, fun c => absurd (cT.2.2 n2) c, fun c => ?_, .inl (cT.2.2 n2), ?_, ?_, fun c g hg hc => ?_⟩
      · rw [← hr, fV_cmpR n1 n2 _ hq]
        refine sign_le ?_
        simp only [sv, Bool.false_eq_true, if_false]
        omega
      · have := cA.2.1 c
        rw [← hr, fV_cmpR b1.1 this _ hq]
        refine sign_ge ?_
        have := n6 this
        simp only [sv, Bool.false_eq_true, if_false]
        omega
      · have : ¬ A ≤ 9218868437227405311 := fun h => c (cA.2.2 h)
        rw [show sg false = 0 by rfl]
        omega
      · omega
      · rcases n3 with h | h
        · left; rw [h]
        · right
          rw [(fNx_is dw).2.2.2.2 (by rw [show sg false = 0 by rfl]; omega)]
          omega
      · have hz := cZ.2.1 c
        obtain ⟨g0, g1, g2, g3⟩ := kS_of hg (by omega)
        have := n7 hz _ g0 (g3.1 hc)
        rw [g2, ← hr]
        refine near_cmp b0.1 hz g0 (g3.1 hc) _ hq ?_
        cases fS g
        · simp only [sv, Bool.false_eq_true, if_false]
          exact this.1
        · simp only [sv, Bool.false_eq_true, if_false, if_true, Int.neg_mul]
          omega
    · obtain ⟨u1, u2⟩ := t2 hs
      have e1 : dF 1 r = rMag 2 false (nX (rp r) (rq r)) (sX (rp r) (rq r)) + sg (rs r) := by rw [dF_is h]; unfold dM; rw [u1]
      have e2 : dF 2 r = rMag 1 false (nX (rp r) (rq r)) (sX (rp r) (rq r)) + sg (rs r) := by rw [dF_is h]; unfold dM; rw [u2]
      rw [e0] at nw
      rw [e1] at uw
      rw [e2] at dw
      rw [e0, e1, e2]
      rw [hs] at hr dw uw nw ⊢
      clear t0 t1 t2 u1 u2 e0 e1 e2 h
      generalize rMag 2 false (nX (rp r) (rq r)) (sX (rp r) (rq r)) = T at *
      generalize rMag 1 false (nX (rp r) (rq r)) (sX (rp r) (rq r)) = A at *
      generalize rMag 0 false (nX (rp r) (rq r)) (sX (rp r) (rq r)) = Z at *
      obtain ⟨n1, n2, n3, n4, n5, n6, n7⟩ := N
      have cT := kS_class (s := true) n1 (by omega)
      have cA := kS_class (s := true) b1.1 b1.2
      have cZ := kS_class (s := true) b0.1 b0.2
      refine ⟨dw, uw, nw, fun c => ?_, fun c => ?_, fun c => ?_, fun c => absurd (cT.2.2 n2) c, .inr (cT.2.2 n2), ?_, ?_, fun c g hg hc => ?_⟩
      · have := cA.2.1 c
        rw [← hr, fV_cmpR b1.1 this _ hq]
        refine sign_le ?_
        have := n6 this
        simp only [sv, if_true, Int.neg_mul]
        omega
      · rw [← hr, fV_cmpR n1 n2 _ hq]
        refine sign_ge ?_
        simp only [sv, if_true, Int.neg_mul]
        omega
      · have : ¬ A ≤ 9218868437227405311 := fun h => c (cA.2.2 h)
        rw [show sg true = 9223372036854775808 by rfl]
        omega
      · omega
      · rcases n3 with h | h
        · left; rw [h]
        · right
          rw [show sg true = 9223372036854775808 by rfl] at dw ⊢
          rw [(fNx_is dw).2.2.2.1 (by omega) (by omega)]
          omega
      · have hz := cZ.2.1 c
        obtain ⟨g0, g1, g2, g3⟩ := kS_of hg (by omega)
        have := n7 hz _ g0 (g3.1 hc)
        rw [g2, ← hr]
        refine near_cmp b0.1 hz g0 (g3.1 hc) _ hq ?_
        cases fS g
        · simp only [sv, Bool.false_eq_true, if_false, if_true, Int.neg_mul]
          omega
        · simp only [sv, if_true, Int.neg_mul]
          omega
end Go.Proofs.YtgjgcehoakacoaaGreatDoor
