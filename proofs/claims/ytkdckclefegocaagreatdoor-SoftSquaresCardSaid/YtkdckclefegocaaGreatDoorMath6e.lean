/-
  Where a root's square lies: the float that the root is rounded down to, the one behind it, and those that it is rounded up to and to the nearest. No function of the program.
-/
import Derived.Test.YtkdckclefegocaaGreatDoorMath6d
namespace Go.Proofs.YtkdckclefegocaaGreatDoor
open Go.RowKit
set_option maxRecDepth 100000

theorem mk_sub {a b : Int} {d e : Nat} (hd : d ≠ 0) (he : e ≠ 0) : mkRat a d - mkRat b e = mkRat (a * e - b * d) (d * e) := by
  rw [Rat.sub_eq_add_neg, Rat.neg_mkRat, Rat.mkRat_add_mkRat _ _ hd he, Int.neg_mul, ← Int.sub_eq_add_neg]
/-- A square over the square of a number, and a number over it, compared. -/
theorem cmp_square {g m : Int} {d : Nat} (hd : d ≠ 0) : cmpR (mkRat g d * mkRat g d) (mkRat m d) = (g * g - m * d).sign := by
  have hdd : d * d ≠ 0 := Nat.mul_ne_zero hd hd
  unfold cmpR
  rw [Rat.mkRat_mul_mkRat, mk_sub hdd hd, sgn_mk (Nat.mul_ne_zero hdd hd)]
  have e : g * g * (d : Int) - m * ((d * d : Nat) : Int) = (g * g - m * d) * d := by
    rw [Int.natCast_mul, Int.sub_mul, Int.mul_assoc m]
  rw [e, Int.sign_mul, Int.sign_eq_one_of_pos (show (0 : Int) < d by omega), Int.mul_one]
theorem sign_four (x : Int) : (4 * x).sign = x.sign := by rw [Int.sign_mul]; show 1 * x.sign = _; rw [Int.one_mul]
/-- A float that is its key. -/
structure Own (k : Int) : Prop where
  word : Word k
  fin : fC k < 3
  num : fV k = mkRat (gK k) (dB 1074)
theorem own_of {k : Int} (h0 : 0 ≤ k) (h1 : k ≤ 9218868437227405311) : Own k := by
  obtain ⟨a, b, c, d, e⟩ := kS_parts (s := false) h0 (by omega)
  have cl := (kS_class (s := false) h0 (by omega)).2.2 h1
  have z : k + sg false = k := by show k + 0 = k; omega
  rw [z] at a b e cl
  refine ⟨e, cl, ?_⟩
  rw [fV_key e cl, a, b]
  unfold rv sv
  rw [Int.toNat_natCast]
  rfl
theorem qA_four {f : Int} (hf : Word f) (h : fC f < 3) : qA f = 4 * (fMg f * ((dB 1074 : Nat) : Int)) := by
  have y := fY_bd f
  rw [← fMg_is hf h, dB_int]
  unfold qA
  rw [Int.mul_assoc, ← Int.pow_add, Int.mul_left_comm, show (4 : Int) = 2 ^ 2 by decide, ← Int.pow_add]
  congr 2
  omega
theorem cmp_own {k a : Int} (hk : Own k) (ha : Word a) (h : fC a < 3) (hs : fS a = false) : cmpR (fV k * fV k) (fV a) = (2 * gK k * (2 * gK k) - qA a).sign := by
  have e : fV a = mkRat (fMg a) (dB 1074) := by
    rw [fV_key ha h, hs]
    unfold rv sv
    rw [Int.toNat_natCast]
    rfl
  rw [hk.num, e, cmp_square (dB_ne _), qA_four ha h, ← sign_four]
  congr 1
  rw [Int.mul_sub, show 2 * gK k * (2 * gK k) = 4 * (gK k * gK k) by rw [Int.mul_assoc, Int.mul_left_comm (gK k), ← Int.mul_assoc]; rfl]
/-- No root comes near the greatest float. -/
theorem root_small (a : Int) : K0 (qN a) < 9214364837600034816 := by
  obtain ⟨n0, n1, n2⟩ := qN_is a
  obtain ⟨f1, f2⟩ := K0_floor n0
  rcases Int.lt_or_le (K0 (qN a)) 9214364837600034816 with h | h
  · exact h
  · exfalso
    have g := gK_le (by decide) h
    have g0 : gK 9214364837600034816 = 4503599627370496 * 2 ^ (2046 - 1 : Int).toNat := by
      unfold gK gZ
      rw [show (9214364837600034816 : Int) / 4503599627370496 = 2046 by decide, show (9214364837600034816 : Int) % 4503599627370496 = 0 by decide, if_neg (by decide)]
      rfl
    obtain ⟨j, hj⟩ : ∃ j, (2046 - 1 : Int).toNat = j := ⟨_, rfl⟩
    have hj2 : j = 2045 := by rw [← hj]; rfl
    rw [hj] at g0
    clear hj
    have pj := pow_pos' j
    have s1 : (2 : Int) ^ j ≤ qN a := by omega
    have s2 := sq_le (Int.le_of_lt pj) s1
    rw [← Int.pow_add] at s2
    have hX := (fX_bd (f := a)).2
    have y := fY_bd a
    have u1 : qA a ≤ 9007199254740992 * 2 ^ (fY a + 2150).toNat := Int.mul_le_mul_of_nonneg_right (by omega) (Int.le_of_lt (pow_pos' _))
    rw [show (9007199254740992 : Int) = 2 ^ 53 by decide, ← Int.pow_add] at u1
    have s3 : (2 : Int) ^ (53 + (fY a + 2150).toNat + 1) ≤ 2 ^ (j + j) := pow_mono _ _ (by omega)
    rw [Int.pow_succ] at s3
    have := pow_pos' (53 + (fY a + 2150).toNat)
    omega
/-- What is so of the roots of a number above nought. -/
structure Sq3 (a D U Z : Int) : Prop where
  d : Own D
  u : Own U
  z : Word Z
  n : Own (fNx D)
  low : cmpR (fV D * fV D) (fV a) ≤ 0
  high : 0 ≤ cmpR (fV U * fV U) (fV a)
  next : 0 < cmpR (fV (fNx D) * fV (fNx D)) (fV a)
  one : Z = D ∨ Z = U
  step : D = U ∨ fNx D = U
theorem sign_le0 {x : Int} (h : x ≤ 0) : x.sign ≤ 0 := sign_le h
theorem sq3 {a : Int} (ha : Word a) (h : fC a < 3) (hs : fS a = false) : Sq3 a (rF 2 false (qN a) (qS a)) (rF 1 false (qN a) (qS a)) (rF 0 false (qN a) (qS a)) := by
  have sm := root_small a
  obtain ⟨n0, n1, n2⟩ := qN_is a
  obtain ⟨f1, f2⟩ := K0_floor n0
  have k0 := K0_nn n0
  have aw := away_three (qN a) (qS a)
  have ex := ask_exact (s := qS a) n0
  have S : qS a = decide (qN a * qN a ≠ qA a) := rfl
  generalize qS a = s at *
  obtain ⟨k, hk⟩ : ∃ k, K0 (qN a) = k := ⟨_, rfl⟩
  have mag : ∀ md, rF md false (qN a) s = k + b2i (rAway md false (qN a) s) := fun md => by
    have b := b2i_bd (rAway md false (qN a) s)
    unfold rF rMag
    rw [key_of, hk, if_pos (by omega)]
    show _ + 0 = _
    omega
  rw [hk] at sm f1 f2 k0 ex
  have ok := own_of k0 (by omega)
  have ok1 := own_of (k := k + 1) (by omega) (by omega)
  have nx : fNx k = k + 1 := by
    have hcl := ok.fin
    have hfs : fS k = false := by unfold fS; exact decide_eq_false (by omega)
    unfold fNx
    rw [if_neg (by omega), if_neg (by omega), hfs]
    rfl
  have gn := gK_nn k0
  have c1 : cmpR (fV k * fV k) (fV a) ≤ 0 := by
    rw [cmp_own ok ha h hs]
    refine sign_le0 ?_
    have := sq_le (show 0 ≤ 2 * gK k by omega) f1
    omega
  have c2 : 0 < cmpR (fV (k + 1) * fV (k + 1)) (fV a) := by
    rw [cmp_own ok1 ha h hs, Int.sign_eq_one_of_pos]
    · decide
    · have := sq_le (show 0 ≤ qN a + 1 by omega) (show qN a + 1 ≤ 2 * gK (k + 1) by omega)
      omega
  have c3 : rX (qN a) s = true → 0 ≤ cmpR (fV k * fV k) (fV a) := fun hx => by
    rw [hx] at ex
    have e : cmpS (qN a) s (2 * gK k) = 0 := by simpa using ex
    have e2 : qN a = 2 * gK k ∧ s = false := by
      unfold cmpS at e
      split at e
      · omega
      · split at e
        · assumption
        · omega
    have e3 : qN a * qN a = qA a := by
      rw [e2.2] at S
      have := of_decide_eq_false S.symm
      exact Decidable.not_not.1 this
    rw [cmp_own ok ha h hs, ← e2.1, e3, Int.sub_self]
    decide
  rw [mag 2, mag 1, mag 0, aw.1, aw.2.1]
  have aw0 := aw.2.2
  have b0 := b2i_bd (rAway 0 false (qN a) s)
  have z2 : k + b2i false = k := by show k + 0 = k; omega
  rw [z2]
  cases hx : rX (qN a) s
  · rw [hx] at aw0
    have e1 : b2i (!false) = 1 := rfl
    rw [e1] at aw0 ⊢
    exact ⟨ok, ok1, ⟨by omega, by omega⟩, by rw [nx]; exact ok1, c1, by omega, by rw [nx]; exact c2, by omega, .inr nx⟩
  · rw [hx] at aw0
    have e1 : b2i (!true) = 0 := rfl
    rw [e1] at aw0 ⊢
    rw [show k + 0 = k by omega]
    exact ⟨ok, ok, ⟨by omega, by omega⟩, by rw [nx]; exact ok1, c1, c3 hx, by rw [nx]; exact c2, by omega, .inl rfl⟩
end Go.Proofs.YtkdckclefegocaaGreatDoor
