/-
  What rounding does, as arithmetic: down is not above, up is not below, nothing lies between, and the nearest one is nearest. No function of the program.
-/
import Derived.Test.YtdjhpplcdkgfgaaDoorMath5
namespace Go.Proofs.YtdjhpplcdkgfgaaDoor
open Go.RowKit
set_option maxRecDepth 100000

/-- 2^1074. -/
def dD : Int := ((dB 1074 : Nat) : Int)
theorem dD_pos : 0 < dD := by unfold dD; rw [dB_int]; exact pow_pos' _
theorem dD_twice : q2 1075 = 2 * dD := by
  unfold dD
  rw [dB_int]
  unfold q2
  rw [Int.pow_succ, Int.mul_comm]
theorem sign_le {a : Int} (h : a ≤ 0) : a.sign ≤ 0 := by
  rcases Int.lt_or_eq_of_le h with h | h
  · rw [Int.sign_eq_neg_one_of_neg h]; decide
  · rw [h]; decide
theorem sign_ge {a : Int} (h : 0 ≤ a) : 0 ≤ a.sign := by
  rcases Int.lt_or_eq_of_le h with h | h
  · rw [Int.sign_eq_one_of_pos h]; decide
  · rw [← h]; decide

section
variable {p q : Int}
theorem gk_below (hq : 0 < q) {t : Int} (h : 2 * t ≤ nX p q) : t * q ≤ p * dD := by
  obtain ⟨a, -, -⟩ := nX_sq (p := p) hq
  have b := Int.mul_le_mul_of_nonneg_right h (Int.le_of_lt hq)
  rw [dD_twice, show p * (2 * dD) = 2 * (p * dD) by rw [← Int.mul_assoc, Int.mul_comm p 2, Int.mul_assoc]] at a
  rw [Int.mul_assoc] at b
  omega
theorem gk_above (hq : 0 < q) {t : Int} (h : nX p q < 2 * t) : p * dD < t * q := by
  obtain ⟨-, a, -⟩ := nX_sq (p := p) hq
  have b := Int.mul_le_mul_of_nonneg_right (show nX p q + 1 ≤ 2 * t by omega) (Int.le_of_lt hq)
  rw [dD_twice, show p * (2 * dD) = 2 * (p * dD) by rw [← Int.mul_assoc, Int.mul_comm p 2, Int.mul_assoc]] at a
  rw [Int.mul_assoc 2 t q] at b
  omega
theorem gk_same (hq : 0 < q) {t : Int} (h : 2 * t = nX p q) (hs : sX p q = false) : p * dD = t * q := by
  obtain ⟨a, -, c⟩ := nX_sq (p := p) hq
  have d : ¬ nX p q * q < p * q2 1075 := fun h2 => by rw [c.2 h2] at hs; cases hs
  rw [dD_twice, show p * (2 * dD) = 2 * (p * dD) by rw [← Int.mul_assoc, Int.mul_comm p 2, Int.mul_assoc], ← h, Int.mul_assoc] at a d
  omega
theorem mid_le (hq : 0 < q) {t : Int} (h : cmpS (nX p q) (sX p q) t ≤ 0) : 2 * (p * dD) ≤ t * q := by
  obtain ⟨a, b, c⟩ := nX_sq (p := p) hq
  rw [dD_twice, show p * (2 * dD) = 2 * (p * dD) by rw [← Int.mul_assoc, Int.mul_comm p 2, Int.mul_assoc]] at a b c
  unfold cmpS at h
  by_cases h1 : nX p q < t
  · have d := Int.mul_le_mul_of_nonneg_right (show nX p q + 1 ≤ t by omega) (Int.le_of_lt hq)
    omega
  · rw [if_neg h1] at h
    by_cases h2 : nX p q = t ∧ sX p q = false
    · rw [h2.2, h2.1] at c
      simp at c
      exact c
    · rw [if_neg h2] at h
      omega
theorem mid_ge (hq : 0 < q) {t : Int} (h : 0 ≤ cmpS (nX p q) (sX p q) t) : t * q ≤ 2 * (p * dD) := by
  obtain ⟨a, b, c⟩ := nX_sq (p := p) hq
  rw [dD_twice, show p * (2 * dD) = 2 * (p * dD) by rw [← Int.mul_assoc, Int.mul_comm p 2, Int.mul_assoc]] at a
  have d := Int.mul_le_mul_of_nonneg_right (cmpS_ge.1 h) (Int.le_of_lt hq)
  omega

/-- The key below, the one away from nought, the nearest one: what they are to the number. -/
structure Near3 (p q T A N : Int) : Prop where
  t0 : 0 ≤ T
  t1 : T ≤ 9218868437227405311
  step : A = T ∨ A = T + 1
  one : N = T ∨ N = A
  low : gK T * q ≤ p * dD
  high : A ≤ 9218868437227405311 → p * dD ≤ gK A * q
  near : N ≤ 9218868437227405311 → ∀ k, 0 ≤ k → k ≤ 9218868437227405311 → (gK N * q - p * dD).natAbs ≤ (gK k * q - p * dD).natAbs ∧ (gK N * q - p * dD).natAbs ≤ (gK k * q + p * dD).natAbs
theorem near3 (hp : 0 < p) (hq : 0 < q) : Near3 p q (rMag 2 false (nX p q) (sX p q)) (rMag 1 false (nX p q) (sX p q)) (rMag 0 false (nX p q) (sX p q)) := by
  have hn := nX_nn (Int.le_of_lt hp) hq
  obtain ⟨f1, f2⟩ := K0_floor hn
  have k0 := K0_nn hn
  have lo := gk_below hq f1
  have hi := gk_above hq f2
  obtain ⟨w0, w1, w2⟩ := rW_bd hn
  have g1 := gK_of (u := rU (nX p q)) w0 (by omega) w2
  have g2 := gK_of (u := rU (nX p q)) (W := rW (nX p q) + 1) (by omega) (by omega) (by intro h; have := w2 h; omega)
  rw [← Int.add_assoc] at g2
  have hK : K0 (nX p q) = (rU (nX p q) : Int) * 4503599627370496 + rW (nX p q) := rfl
  rw [← hK] at g1 g2
  have hM : (2 * rW (nX p q) + 1) * 2 ^ rU (nX p q) = gK (K0 (nX p q)) + gK (K0 (nX p q) + 1) := by
    rw [g1, g2, ← Int.add_mul]
    congr 1
    omega
  obtain ⟨m1, m2⟩ := ask_mid (n := nX p q) (s := sX p q)
  rw [hM] at m1 m2
  have mL := fun h => mid_le (p := p) hq (t := gK (K0 (nX p q)) + gK (K0 (nX p q) + 1)) h
  have mG := fun h => mid_ge (p := p) hq (t := gK (K0 (nX p q)) + gK (K0 (nX p q) + 1)) h
  have ex : rX (nX p q) (sX p q) = true → p * dD = gK (K0 (nX p q)) * q := by
    intro h
    have e := ask_exact (s := sX p q) hn
    rw [h] at e
    have e : cmpS (nX p q) (sX p q) (2 * gK (K0 (nX p q))) = 0 := by simpa using e
    unfold cmpS at e
    split at e
    · omega
    · split at e
      · rename_i h2
        exact gk_same hq h2.1.symm h2.2
      · omega
  obtain ⟨a2, a1, a0⟩ := away_three (nX p q) (sX p q)
  have aN : rAway 0 false (nX p q) (sX p q) = (rH (nX p q) && (rB (nX p q) (sX p q) || decide (rW (nX p q) % 2 = 1))) := by simp [rAway]
  have e2 : rMag 2 false (nX p q) (sX p q) = if K0 (nX p q) ≤ 9218868437227405311 then K0 (nX p q) else 9218868437227405311 := by
    unfold rMag
    rw [key_of, a2, show rBey 2 false = 9218868437227405311 by decide, show b2i false = 0 by rfl, Int.add_zero]
  have e1 : rMag 1 false (nX p q) (sX p q) = if K0 (nX p q) + b2i (!rX (nX p q) (sX p q)) ≤ 9218868437227405311 then K0 (nX p q) + b2i (!rX (nX p q) (sX p q)) else 9218868437227405312 := by
    unfold rMag
    rw [key_of, a1, show rBey 1 false = 9218868437227405312 by decide]
  have e0 : rMag 0 false (nX p q) (sX p q) = if K0 (nX p q) + b2i (rAway 0 false (nX p q) (sX p q)) ≤ 9218868437227405311 then K0 (nX p q) + b2i (rAway 0 false (nX p q) (sX p q)) else 9218868437227405312 := by
    unfold rMag
    rw [key_of, show rBey 0 false = 9218868437227405312 by decide]
  rw [e2, e1, e0]
  -- the nearest one, by its sides
  have nr : (rAway 0 false (nX p q) (sX p q) = false → 2 * (p * dD) ≤ (gK (K0 (nX p q)) + gK (K0 (nX p q) + 1)) * q) ∧ (rAway 0 false (nX p q) (sX p q) = true → (gK (K0 (nX p q)) + gK (K0 (nX p q) + 1)) * q ≤ 2 * (p * dD)) := by
    rw [aN]
    generalize decide (rW (nX p q) % 2 = 1) = o
    generalize cmpS (nX p q) (sX p q) (gK (K0 (nX p q)) + gK (K0 (nX p q) + 1)) = c at *
    generalize rH (nX p q) = a at *
    generalize rB (nX p q) (sX p q) = b at *
    constructor
    · intro h
      refine mL ?_
      rcases Int.lt_or_le 0 c with h1 | h1
      · rw [decide_eq_true h1] at m1
        revert h m1
        cases a <;> cases b <;> cases o <;> simp
      · exact h1
    · intro h
      refine mG ?_
      rcases Int.lt_or_le 0 c with h1 | h1
      · omega
      · rw [decide_eq_false (by omega)] at m1
        rcases Int.lt_or_eq_of_le h1 with h3 | h3
        · have : (c == 0) = false := by simp; omega
          rw [this] at m2
          revert h m1 m2
          cases a <;> cases b <;> cases o <;> simp
        · omega
  have tw : gK 9218868437227405311 ≤ gK (K0 (nX p q)) ∨ K0 (nX p q) ≤ 9218868437227405311 := by
    rcases Int.lt_or_le 9218868437227405311 (K0 (nX p q)) with h | h
    · exact .inl (Int.le_of_lt (gK_lt (by decide) h))
    · exact .inr h
  have nn0 := gK_nn k0
  have sides : ∀ k, 0 ≤ k → gK k * q ≤ gK (K0 (nX p q)) * q ∨ gK (K0 (nX p q) + 1) * q ≤ gK k * q := by
    intro k hk
    rcases Int.lt_or_le (K0 (nX p q)) k with h | h
    · right
      rcases Int.lt_or_eq_of_le (show K0 (nX p q) + 1 ≤ k by omega) with h2 | h2
      · exact Int.mul_le_mul_of_nonneg_right (Int.le_of_lt (gK_lt (by omega) h2)) (Int.le_of_lt hq)
      · rw [h2]; exact Int.le_refl _
    · left
      rcases Int.lt_or_eq_of_le h with h2 | h2
      · exact Int.mul_le_mul_of_nonneg_right (Int.le_of_lt (gK_lt hk h2)) (Int.le_of_lt hq)
      · rw [h2]; exact Int.le_refl _
  have kq : ∀ k, 0 ≤ k → 0 ≤ gK k * q := fun k hk => Int.mul_nonneg (gK_nn hk) (Int.le_of_lt hq)
  have lowT : gK 9218868437227405311 ≤ gK (K0 (nX p q)) → gK 9218868437227405311 * q ≤ p * dD := fun h => Int.le_trans (Int.mul_le_mul_of_nonneg_right h (Int.le_of_lt hq)) lo
  rw [Int.add_mul] at nr
  have bx := b2i_bd (!rX (nX p q) (sX p q))
  have ba := b2i_bd (rAway 0 false (nX p q) (sX p q))
  have l0 := kq _ k0
  clear e0 e1 e2 a1 a2 m1 m2 mL mG hM g1 g2 w0 w1 w2 hK f1 f2 aN
  refine ⟨?_, ?_, ?_, ?_, ?_, ?_, ?_⟩
  · split <;> omega
  · split <;> omega
  · (repeat' split) <;> omega
  · (repeat' split) <;> omega
  · split
    · exact lo
    · rcases tw with h | h
      · exact lowT h
      · omega
  · intro h
    split at h
    · rename_i h1
      rw [if_pos h1]
      cases hx : rX (nX p q) (sX p q)
      · rw [show b2i (!false) = 1 by rfl]
        exact Int.le_of_lt hi
      · rw [show b2i (!true) = 0 by rfl, Int.add_zero]
        exact Int.le_of_eq (ex hx)
    · omega
  · intro h k hk0 hk1
    split at h
    · rename_i h1
      rw [if_pos h1]
      have sd := sides k hk0
      have kn := kq k hk0
      cases hx : rAway 0 false (nX p q) (sX p q)
      · have := nr.1 hx
        rw [show b2i false = 0 by rfl, Int.add_zero]
        generalize gK (K0 (nX p q)) * q = L at *
        generalize gK (K0 (nX p q) + 1) * q = H at *
        generalize gK k * q = z at *
        generalize p * dD = x at *
        constructor <;> omega
      · have := nr.2 hx
        rw [show b2i true = 1 by rfl]
        generalize gK (K0 (nX p q)) * q = L at *
        generalize gK (K0 (nX p q) + 1) * q = H at *
        generalize gK k * q = z at *
        generalize p * dD = x at *
        constructor <;> omega
    · omega
end

/-- What the law of rounding asks of the three answers. -/
structure Holds3 (r : Rat) (d u n : Int) : Prop where
  dw : Word d
  uw : Word u
  nw : Word n
  down : fC d < 3 → cmpR (fV d) r ≤ 0
  up : fC u < 3 → 0 ≤ cmpR (fV u) r
  dinf : ¬ fC d < 3 → d = 18442240474082181120
  uinf : ¬ fC u < 3 → u = 9218868437227405312
  oneof : fC d < 3 ∨ fC u < 3
  one : n = d ∨ n = u
  next : d = u ∨ fNx d = u
  near : fC n < 3 → ∀ g, Word g → fC g < 3 → cmpR (absR (fV n - r)) (absR (fV g - r)) ≤ 0
theorem absR_mk {a : Int} {c : Nat} (hc : c ≠ 0) : absR (mkRat a c) = mkRat (a.natAbs : Int) c := by
  have hp : (0 : Int) < (c : Int) := by omega
  rcases Int.lt_or_le a 0 with h | h
  · have e : mkRat a c = rv true (-a) (c : Int) := by unfold rv sv; rw [if_pos rfl, Int.neg_neg, Int.toNat_natCast]
    rw [e, ← rv_abs (by omega) (by omega)]
    unfold rv sv
    rw [if_neg (by decide), Int.toNat_natCast, show ((a.natAbs : Nat) : Int) = -a by omega]
  · have e : mkRat a c = rv false a (c : Int) := by unfold rv sv; rw [if_neg (by decide), Int.toNat_natCast]
    rw [e, ← rv_abs (by omega) (by omega)]
    unfold rv sv
    rw [if_neg (by decide), Int.toNat_natCast, show ((a.natAbs : Nat) : Int) = a by omega]
theorem fV_cmpR {k : Int} {s : Bool} (h0 : 0 ≤ k) (h1 : k ≤ 9218868437227405311) (t : Bool) {p q : Int} (hq : 0 < q) : cmpR (fV (k + sg s)) (rv t p q) = (sv s (gK k) * q - sv t p * dD).sign := by
  obtain ⟨a, b, -, -, w⟩ := kS_parts (s := s) h0 (by omega)
  have c := (kS_class (s := s) h0 (by omega)).2.2 h1
  rw [fV_key w c, a, b]
  exact cmp_rv dD_pos hq
theorem fV_sub {k : Int} {s : Bool} (h0 : 0 ≤ k) (h1 : k ≤ 9218868437227405311) (t : Bool) {p q : Int} (hq : 0 < q) : fV (k + sg s) - rv t p q = mkRat (sv s (gK k) * q - sv t p * dD) (dD * q).toNat := by
  obtain ⟨a, b, -, -, w⟩ := kS_parts (s := s) h0 (by omega)
  have c := (kS_class (s := s) h0 (by omega)).2.2 h1
  rw [fV_key w c, a, b, Rat.sub_eq_add_neg, ← rv_not]
  have := rv_add (s := s) (t := !t) (p := gK k) (a := p) dD_pos hq
  rw [sv_not, Int.neg_mul] at this
  exact this
theorem near_cmp {k j : Int} {s s' : Bool} (h0 : 0 ≤ k) (h1 : k ≤ 9218868437227405311) (i0 : 0 ≤ j) (i1 : j ≤ 9218868437227405311) (t : Bool) {p q : Int} (hq : 0 < q)
    (h : (sv s (gK k) * q - sv t p * dD).natAbs ≤ (sv s' (gK j) * q - sv t p * dD).natAbs) : cmpR (absR (fV (k + sg s) - rv t p q)) (absR (fV (j + sg s') - rv t p q)) ≤ 0 := by
  have hc : (dD * q).toNat ≠ 0 := by have := Int.mul_pos dD_pos hq; omega
  rw [fV_sub h0 h1 t hq, fV_sub i0 i1 t hq, absR_mk hc, absR_mk hc, cmp_over hc]
  unfold cmpI
  (repeat' split) <;> omega
theorem holds_zero : Holds3 0 (dF 2 0) (dF 1 0) (dF 0 0) := by
  have e : ∀ md, dF md 0 = 0 := fun md => by unfold dF; rw [if_pos rfl]
  have v : fV 0 = 0 := by decide +kernel
  rw [e, e, e]
  have c : fC 0 < 3 := by decide
  refine ⟨⟨by decide, by decide⟩, ⟨by decide, by decide⟩, ⟨by decide, by decide⟩, fun _ => ?_, fun _ => ?_, fun h => absurd c h, fun h => absurd c h, .inl c, .inl rfl, .inl rfl, fun _ g hg hc => ?_⟩
  · rw [v, cmp_self]; decide
  · rw [v, cmp_self]; decide
  · rw [v]
    have h0 : absR (0 - 0 : Rat) = 0 := by decide +kernel
    rw [h0]
    have hn : 0 ≤ absR (fV g - 0) := by
      unfold absR
      split
      · rename_i h
        have := Rat.neg_le_neg (Rat.le_of_lt h)
        simpa using this
      · rename_i h
        exact Rat.not_lt.1 h
    rcases cmp_cases 0 (absR (fV g - 0)) with h | h | h
    · omega
    · omega
    · exact absurd (cmp_gt.1 h) (Rat.not_lt.2 hn)
theorem holds3 (r : Rat) : Holds3 r (dF 2 r) (dF 1 r) (dF 0 r) := by
  by_cases h : r = 0
  · subst h
    exact holds_zero
  · have hp := rp_pos h
    have hq := rq_pos r
    have N := near3 hp hq
    have M := mag_modes (n := nX (rp r) (rq r)) (s := sX (rp r) (rq r))
    have b1 := (rMag_bd (md := 1) (neg := false) (s := sX (rp r) (rq r)) (nX_nn (rp_nonneg r) hq))
    have b0 := (rMag_bd (md := 0) (neg := false) (s := sX (rp r) (rq r)) (nX_nn (rp_nonneg r) hq))
    have dw := dF_word 2 r
    have uw := dF_word 1 r
    have nw := dF_word 0 r
    obtain ⟨t0, t1, t2⟩ := dM_turn r
    have e0 : dF 0 r = rMag 0 false (nX (rp r) (rq r)) (sX (rp r) (rq r)) + sg (rs r) := by rw [dF_is h]; unfold dM; rw [t0]
    have hr := rv_of r
    cases hs : rs r
    · obtain ⟨u1, u2⟩ := t1 hs
      have e1 : dF 1 r = rMag 1 false (nX (rp r) (rq r)) (sX (rp r) (rq r)) + sg (rs r) := by rw [dF_is h]; unfold dM; rw [u1]
      have e2 : dF 2 r = rMag 2 false (nX (rp r) (rq r)) (sX (rp r) (rq r)) + sg (rs r) := by rw [dF_is h]; unfold dM; rw [u2]
      rw [e0] at nw
      rw [e1] at uw
      rw [e2] at dw
      rw [e0, e1, e2]
      rw [hs] at hr dw uw nw ⊢
      clear t0 t1 t2 u1 u2 e0 e1 e2 h
      generalize rMag 2 false (nX (rp r) (rq r)) (sX (rp r) (rq r)) = T at *
      generalize rMag 1 false (nX (rp r) (rq r)) (sX (rp r) (rq r)) = A at *
      generalize rMag 0 false (nX (rp r) (rq r)) (sX (rp r) (rq r)) = Z at *
      obtain ⟨n1, n2, n3, n4, n5, n6, n7⟩ := N
      have cT := kS_class (s := false) n1 (by omega)
      have cA := kS_class (s := false) b1.1 b1.2
      have cZ := kS_class (s := false) b0.1 b0.2
      refine ⟨dw, uw, nw, fun c => ?_, fun c => ?_, fun c => absurd (cT.2.2 n2) c, fun c => ?_, .inl (cT.2.2 n2), ?_, ?_, fun c g hg hc => ?_⟩
      · rw [← hr, fV_cmpR n1 n2 _ hq]
        refine sign_le ?_
        simp only [sv, Bool.false_eq_true, if_false]
        omega
      · have := cA.2.1 c
        rw [← hr, fV_cmpR b1.1 this _ hq]
        refine sign_ge ?_
        have := n6 this
        simp only [sv, Bool.false_eq_true, if_false]
        omega
      · have : ¬ A ≤ 9218868437227405311 := fun h => c (cA.2.2 h)
        rw [show sg false = 0 by rfl]
        omega
      · omega
      · rcases n3 with h | h
        · left; rw [h]
        · right
          rw [(fNx_is dw).2.2.2.2 (by rw [show sg false = 0 by rfl]; omega)]
          omega
      · have hz := cZ.2.1 c
        obtain ⟨g0, g1, g2, g3⟩ := kS_of hg (by omega)
        have := n7 hz _ g0 (g3.1 hc)
        rw [g2, ← hr]
        refine near_cmp b0.1 hz g0 (g3.1 hc) _ hq ?_
        cases fS g
        · simp only [sv, Bool.false_eq_true, if_false]
          exact this.1
        · simp only [sv, Bool.false_eq_true, if_false, if_true, Int.neg_mul]
          omega
    · obtain ⟨u1, u2⟩ := t2 hs
      have e1 : dF 1 r = rMag 2 false (nX (rp r) (rq r)) (sX (rp r) (rq r)) + sg (rs r) := by rw [dF_is h]; unfold dM; rw [u1]
      have e2 : dF 2 r = rMag 1 false (nX (rp r) (rq r)) (sX (rp r) (rq r)) + sg (rs r) := by rw [dF_is h]; unfold dM; rw [u2]
      rw [e0] at nw
      rw [e1] at uw
      rw [e2] at dw
      rw [e0, e1, e2]
      rw [hs] at hr dw uw nw ⊢
      clear t0 t1 t2 u1 u2 e0 e1 e2 h
      generalize rMag 2 false (nX (rp r) (rq r)) (sX (rp r) (rq r)) = T at *
      generalize rMag 1 false (nX (rp r) (rq r)) (sX (rp r) (rq r)) = A at *
      generalize rMag 0 false (nX (rp r) (rq r)) (sX (rp r) (rq r)) = Z at *
      obtain ⟨n1, n2, n3, n4, n5, n6, n7⟩ := N
      have cT := kS_class (s := true) n1 (by omega)
      have cA := kS_class (s := true) b1.1 b1.2
      have cZ := kS_class (s := true) b0.1 b0.2
      refine ⟨dw, uw, nw, fun c => ?_, fun c => ?_, fun c => ?_, fun c => absurd (cT.2.2 n2) c, .inr (cT.2.2 n2), ?_, ?_, fun c g hg hc => ?_⟩
      · have := cA.2.1 c
        rw [← hr, fV_cmpR b1.1 this _ hq]
        refine sign_le ?_
        have := n6 this
        simp only [sv, if_true, Int.neg_mul]
        omega
      · rw [← hr, fV_cmpR n1 n2 _ hq]
        refine sign_ge ?_
        simp only [sv, if_true, Int.neg_mul]
        omega
      · have : ¬ A ≤ 9218868437227405311 := fun h => c (cA.2.2 h)
        rw [show sg true = 9223372036854775808 by rfl]
        omega
      · omega
      · rcases n3 with h | h
        · left; rw [h]
        · right
          rw [show sg true = 9223372036854775808 by rfl] at dw ⊢
          rw [(fNx_is dw).2.2.2.1 (by omega) (by omega)]
          omega
      · have hz := cZ.2.1 c
        obtain ⟨g0, g1, g2, g3⟩ := kS_of hg (by omega)
        have := n7 hz _ g0 (g3.1 hc)
        rw [g2, ← hr]
        refine near_cmp b0.1 hz g0 (g3.1 hc) _ hq ?_
        cases fS g
        · simp only [sv, Bool.false_eq_true, if_false, if_true, Int.neg_mul]
          omega
        · simp only [sv, if_true, Int.neg_mul]
          omega
end Go.Proofs.YtdjhpplcdkgfgaaDoor
