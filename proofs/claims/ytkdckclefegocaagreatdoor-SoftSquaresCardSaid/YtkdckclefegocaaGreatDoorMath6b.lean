/-
  The sum of two floats, as a number: which operand is the greater one, and what the sum is rounded to. No function of the program.
-/
import Derived.Test.YtkdckclefegocaaGreatDoorMath6
import Derived.Test.YtkdckclefegocaaGreatDoorPatd
namespace Go.Proofs.YtkdckclefegocaaGreatDoor
open Go.RowKit
set_option maxRecDepth 100000

/-- The sum of two finite floats, and its flags. -/
def smF (md a b : Int) : Int := if fV a + fV b = 0 then sg (if fS a = fS b then fS a else decide (md = 2)) else dF md (fV a + fV b)
def smG (md a b : Int) : Int := dG md (fV a + fV b)
theorem smF_comm (md a b : Int) : smF md a b = smF md b a ∧ smG md a b = smG md b a := by
  unfold smF smG
  rw [Rat.add_comm]
  refine ⟨?_, rfl⟩
  by_cases h0 : fV b + fV a = 0
  · rw [if_pos h0, if_pos h0]
    by_cases h : fS a = fS b
    · rw [if_pos h, if_pos h.symm, h]
    · rw [if_neg h, if_neg (fun k => h k.symm)]
  · rw [if_neg h0, if_neg h0]
/-- The sum of any two floats, and its flags. -/
def saF (md a b : Int) : Int := if fC a = 4 ∨ fC b = 4 then 9221120237041090560 else if fC a = 3 ∧ fC b = 3 ∧ fS a ≠ fS b then 9221120237041090560 else if fC a = 3 then a else if fC b = 3 then b else smF md a b
def saG (md a b : Int) : Int := if fC a = 4 ∨ fC b = 4 then 0 else if fC a = 3 ∧ fC b = 3 ∧ fS a ≠ fS b then 16 else if fC a = 3 then 0 else if fC b = 3 then 0 else smG md a b

theorem gK_le {k k' : Int} (h0 : 0 ≤ k) (h : k ≤ k') : gK k ≤ gK k' := by
  rcases Int.lt_or_eq_of_le h with h1 | h1
  · exact Int.le_of_lt (gK_lt h0 h1)
  · rw [h1]; exact Int.le_refl _
/-- Which of two finite floats is not less without its sign. -/
def geA (a b : Int) : Prop := b % 9223372036854775808 ≤ a % 9223372036854775808
theorem abs_less {a b : Int} (ha : Word a) (hb : Word b) (h1 : fC a < 3) (h2 : fC b < 3) : fLt (fAb a) (fAb b) = decide (a % 9223372036854775808 < b % 9223372036854775808) := by
  have e1 : fAb a = a % 9223372036854775808 := by unfold fAb; rw [if_neg (by omega)]
  have e2 : fAb b = b % 9223372036854775808 := by unfold fAb; rw [if_neg (by omega)]
  obtain ⟨a0, a1, -, -⟩ := kS_of ha (by omega)
  obtain ⟨b0, b1, -, -⟩ := kS_of hb (by omega)
  have c1 := (kS_class (s := false) a0 a1).1
  have c2 := (kS_class (s := false) b0 b1).1
  have k1 := kS_key (s := false) a0 a1
  have k2 := kS_key (s := false) b0 b1
  simp only [sg, sv, Bool.false_eq_true, if_false, Int.add_zero] at c1 c2 k1 k2
  rw [e1, e2, fLt_key c1 c2, k1, k2]
theorem exp_of {a : Int} (ha : Word a) : fE a = a % 9223372036854775808 / 4503599627370496 := by
  have := low63 ha
  have := frac_bd (f := a)
  omega
/-- What is so of a float's parts, by its exponent. -/
theorem parts_of {a : Int} (h : fC a < 3) : (fE a = 0 → fX a = fM a ∧ (fX a ≠ 0 → fY a = -1074) ∧ (fX a = 0 → fY a = 0)) ∧ (fE a ≠ 0 → fY a = fE a - 1075 ∧ 4503599627370496 ≤ fX a) ∧ fE a ≠ 2047 := by
  have cls : fC a = if fE a = 2047 then (if fM a = 0 then 3 else 4) else if fE a = 0 then (if fM a = 0 then 0 else 1) else 2 := rfl
  have hM := frac_bd (f := a)
  unfold fX fY
  by_cases h1 : fE a = 2047
  · rw [if_pos h1] at cls
    split at cls <;> omega
  · rw [if_neg h1] at cls
    by_cases h2 : fE a = 0
    · rw [if_pos h2] at cls
      refine ⟨fun _ => ?_, fun h => absurd h2 h, h1⟩
      by_cases h3 : fM a = 0
      · rw [if_pos h3] at cls
        rw [cls, if_neg (by decide), if_neg (by decide), if_neg (by decide), if_neg (by decide)]
        exact ⟨h3.symm, fun h => absurd rfl h, fun _ => rfl⟩
      · rw [if_neg h3] at cls
        rw [cls, if_neg (by decide), if_pos rfl, if_neg (by decide), if_pos rfl]
        exact ⟨rfl, fun _ => rfl, fun h => absurd h h3⟩
    · rw [if_neg h2] at cls
      refine ⟨fun h => absurd h h2, fun _ => ?_, h1⟩
      rw [cls, if_pos rfl, if_pos rfl]
      omega
structure Big (a b : Int) : Prop where
  le : fMg b ≤ fMg a
  ord : fY b ≤ fY a ∨ fX b = 0
  far : fY b + 64 < fY a → fX b ≠ 0 → 4503599627370496 ≤ fX a
  non : fX a = 0 → fX b = 0
theorem big_of {a b : Int} (ha : Word a) (hb : Word b) (h1 : fC a < 3) (h2 : fC b < 3) (h : geA a b) : Big a b := by
  obtain ⟨a1, a2, a3⟩ := parts_of h1
  obtain ⟨b1, b2, b3⟩ := parts_of h2
  have ea := exp_of ha
  have eb := exp_of hb
  have hE : fE b ≤ fE a := by unfold geA at h; omega
  have hA := exp_bd (f := a)
  have hB := exp_bd (f := b)
  have hle : fMg b ≤ fMg a := gK_le (by omega) h
  refine ⟨hle, ?_, ?_, ?_⟩
  · by_cases hx : fX b = 0
    · exact .inr hx
    · left
      by_cases hb0 : fE b = 0
      · have := (b1 hb0).2.1 hx
        by_cases ha0 : fE a = 0
        · by_cases hxa : fX a = 0
          · have z1 := (fMg_zero ha h1).2 hxa
            have z2 := (fMg_zero hb h2).1 (by have := fMg_nn b; omega)
            exact absurd z2 hx
          · have := (a1 ha0).2.1 hxa
            omega
        · have := (a2 ha0).1
          omega
      · have := (b2 hb0).1
        have := (a2 (by omega)).1
        omega
  · intro hf hx
    by_cases ha0 : fE a = 0
    · by_cases hxa : fX a = 0
      · have z1 := (fMg_zero ha h1).2 hxa
        have z2 := (fMg_zero hb h2).1 (by have := fMg_nn b; omega)
        exact absurd z2 hx
      · have e := (a1 ha0).2.1 hxa
        have := (fY_bd b).1
        omega
    · exact (a2 ha0).2
  · intro hxa
    have z1 := (fMg_zero ha h1).2 hxa
    exact (fMg_zero hb h2).1 (by have := fMg_nn b; omega)

/-- The sum's size, where the first operand is the greater one. -/
def zA (a b : Int) : Int := if fS a = fS b then fMg a + fMg b else fMg a - fMg b
theorem zI_big {a b : Int} : zI a b = sv (fS a) (zA a b) := by
  unfold zI zA sv
  cases fS a <;> cases fS b <;> simp <;> omega
theorem sv_lt {s : Bool} {z : Int} (h : 0 < z) : decide (sv s z < 0) = s ∧ ((sv s z).natAbs : Int) = z ∧ sv s z ≠ 0 := by
  refine ⟨sv_sgn h, ?_, ?_⟩
  · rw [sv_abs (Int.le_of_lt h)]; omega
  · cases s <;> simp [sv] <;> omega
theorem sv_nil (s : Bool) : sv s 0 = 0 := by cases s <;> rfl
theorem zA_nn {a b : Int} (h : Big a b) : 0 ≤ zA a b := by
  have := h.le
  have := fMg_nn a
  have := fMg_nn b
  unfold zA
  split <;> omega
/-- What the sum is, where it is not nought. -/
theorem sm_pos {a b : Int} (ha : Word a) (hb : Word b) (h1 : fC a < 3) (h2 : fC b < 3) (md : Int) (hz : 0 < zA a b) : smF md a b = rF md (fS a) (2 * zA a b) false ∧ smG md a b = rG md (fS a) (2 * zA a b) false := by
  obtain ⟨s1, s2, s3⟩ := sv_lt (s := fS a) hz
  have e := sum_is ha hb h1 h2
  rw [zI_big] at e
  obtain ⟨d1, d2⟩ := dF_int s3 md
  rw [s1, s2] at d1 d2
  unfold smF smG
  rw [e, if_neg (fun h => s3 (mk_zero.1 h))]
  exact ⟨d1, d2⟩
/-- Where it is nought, and the operands are not opposite, both are noughts. -/
theorem sm_zero {a b : Int} (ha : Word a) (hb : Word b) (h1 : fC a < 3) (h2 : fC b < 3) (md : Int) (hz : zA a b = 0) (hn : b ≠ fNg a) (_hB : Big a b) : fX a = 0 ∧ fX b = 0 ∧ fS a = fS b ∧ smF md a b = sg (fS a) ∧ smG md a b = 0 := by
  have n1 := fMg_nn a
  have n2 := fMg_nn b
  obtain ⟨a0, a1, a2, a3⟩ := kS_of ha (by omega)
  obtain ⟨b0, b1, b2, b3⟩ := kS_of hb (by omega)
  have hs : fS a = fS b := by
    rcases Decidable.em (fS a = fS b) with h | h
    · exact h
    · exfalso
      unfold zA at hz
      rw [if_neg h] at hz
      have hk : a % 9223372036854775808 = b % 9223372036854775808 := by
        rcases Int.lt_trichotomy (a % 9223372036854775808) (b % 9223372036854775808) with k | k | k
        · have := gK_lt a0 k
          unfold fMg at hz
          omega
        · exact k
        · have := gK_lt b0 k
          unfold fMg at hz
          omega
      refine hn ?_
      unfold fNg
      rw [if_neg (by omega)]
      rw [hk] at a2
      unfold sg at a2 b2
      cases hA : fS a <;> cases hB2 : fS b <;> rw [hA] at h a2 <;> rw [hB2] at h b2 <;> simp at h a2 b2 ⊢ <;> omega
  have hz2 := hz
  unfold zA at hz2
  rw [if_pos hs] at hz2
  have x1 := (fMg_zero ha h1).1 (by omega)
  have x2 := (fMg_zero hb h2).1 (by omega)
  have e := sum_is ha hb h1 h2
  rw [zI_big, hz, sv_nil] at e
  have e0 : fV a + fV b = 0 := by rw [e]; exact Rat.zero_mkRat _
  refine ⟨x1, x2, hs, ?_, ?_⟩
  · unfold smF
    rw [if_pos e0, if_pos hs]
  · unfold smG dG
    rw [if_pos e0]
end Go.Proofs.YtkdckclefegocaaGreatDoor
