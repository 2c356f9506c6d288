/-
  Contracts of soft's small functions (hasNaN, isInfinite, isZero, isNegative, zero, invalid, shift, take, widest), and of its reference's (is, neg, inf, zero, bits). Conditions: floats are words.
  Contracts of soft's shift, take and widest: numbers of two words. Conditions: the fields are words, shifts are small ints, floats are words; what is taken away is not greater.
  The contract of soft's addFinite: the rounded sum of two finite floats that are not opposite to each other. Conditions: both are finite.
  Contracts of soft's Add and Sub, of any floats. Conditions: floats are words.
-/
import Derived.Test.YtgjgcehoakacoaaGreatDoorMHa
import Derived.Test.YtgjgcehoakacoaaGreatDoorMW2
import Derived.Test.YtgjgcehoakacoaaGreatDoorPatd
import Derived.Test.YtgjgcehoakacoaaGreatDoorM6
import Derived.Test.YtgjgcehoakacoaaGreatDoorMDa
namespace Go.Proofs.YtgjgcehoakacoaaGreatDoor
open Go.RowKit
set_option maxRecDepth 100000

theorem any1 (a : Int) : anyN [a] = decide (fC a = 4) := by simp [anyN]
theorem any2 (a b : Int) : anyN [a, b] = (decide (fC a = 4) || decide (fC b = 4)) := by
  unfold anyN
  rw [show List.range [a, b].length = [0, 1] from rfl]
  simp
theorem all1 {a : Int} (h : Word a) : AllF [a] := fun i hi => by
  simp at hi
  subst hi
  exact h
theorem all2 {a b : Int} (h : Word a) (k : Word b) : AllF [a, b] := fun i hi => by
  rcases i with _ | _ | i
  · exact h
  · exact k
  · simp at hi; omega
theorem rdw1 (W : World) (t : TypeId) (a : Int) : RdW (W.alloc (.cells #[.int .u64 a] t)) (some ⟨W.heap.size, 0, none⟩) [a] := by
  refine .inr ⟨_, 0, rfl, by simp, fun j v hj => ?_⟩
  rcases j with _ | j
  · simp at hj; subst hj; simp [go_sem]
  · simp at hj
theorem rdw2 (W : World) (t : TypeId) (a b : Int) : RdW (W.alloc (.cells #[.int .u64 a, .int .u64 b] t)) (some ⟨W.heap.size, 0, none⟩) [a, b] := by
  refine .inr ⟨_, 0, rfl, by simp, fun j v hj => ?_⟩
  rcases j with _ | _ | j
  · simp at hj; subst hj; simp [go_sem]
  · simp at hj; subst hj; simp [go_sem]
  · simp at hj
end Go.Proofs.YtgjgcehoakacoaaGreatDoor
namespace Go.Proofs.YtgjgcehoakacoaaGreatDoor
open Go.RowKit
set_option maxRecDepth 100000

/-- A struct's two cells are written anew. -/
def wput2 (w : World) (g : Nat) (a b : Value) : World := (w.setCell ⟨g, 0, none⟩ a).setCell ⟨g, 1, none⟩ b
section
variable {w w' : World} {g : Nat} {t : TypeId}
theorem Blk.put2 {x y : Value} (k : Blk w g t #[x, y]) (a b : Value) : Blk (wput2 w g a b) g t #[a, b] := by
  have h1 := (k.set_ 0 a).set_ 1 b
  unfold wput2
  simpa using h1
theorem Blk.put2_far {cs : Array Value} {g' : Nat} {t' : TypeId} (k : Blk w g' t' cs) (hg : g' ≠ g) (a b : Value) : Blk (wput2 w g a b) g' t' cs :=
  (k.far (p := ⟨g, 0, none⟩) hg a).far (p := ⟨g, 1, none⟩) hg b
theorem bel_put2 {B : Nat} (h : Below B w w') (hg : B ≤ g) (a b : Value) : Below B w (wput2 w' g a b) :=
  (h.setCell (p := ⟨g, 0, none⟩) hg a).setCell (p := ⟨g, 1, none⟩) hg b
theorem Blk.two {a b : Value} (h : Blk w g t #[a, b]) : w.cell? ⟨g, 0, none⟩ = some a ∧ w.cell? ⟨g, 1, none⟩ = some b ∧ w.frozen? ⟨g, 0, none⟩ = false ∧ w.frozen? ⟨g, 1, none⟩ = false :=
  ⟨h.cell 0, h.cell 1, h.frozen 0, h.frozen 1⟩
end

def IsShift (m n : Int) (v : Value) : Prop := ∃ h l : Int, Word h ∧ Word l ∧ V2 h l = shlV2 m n.toNat / 2 ^ (-n).toNat ∧ v = .tuple #[.agg #[.int .u64 h, .int .u64 l], .bool (decide (shlV2 m n.toNat % 2 ^ (-n).toNat ≠ 0))]

def IsWidest (X Y : Int) (v : Value) : Prop := ∃ h l : Int, Word h ∧ Word l ∧ V2 h l = X * 2 ^ (128 - blen X).toNat ∧ v = .tuple #[.agg #[.int .u64 h, .int .u64 l], .int .i64 (Y - (128 - blen X))]
theorem fX_blen (f : Int) : 0 ≤ blen (fX f) ∧ blen (fX f) ≤ 64 := blen_word_le (fX_word f)
theorem shl_wide {x : Int} (h : Word x) : shlV2 x (128 - blen x).toNat = x * 2 ^ (128 - blen x).toNat := by
  obtain ⟨k, e, hlt, _, _⟩ := blen_spec h.1
  have hb := blen_word_le h
  unfold shlV2
  refine Int.emod_eq_of_lt (Int.mul_nonneg h.1 (Int.le_of_lt (pow_pos' _))) ?_
  have h1 : x * 2 ^ (128 - blen x).toNat < 2 ^ k * 2 ^ (128 - blen x).toNat := Int.mul_lt_mul_of_pos_right hlt (pow_pos' _)
  rw [← Int.pow_add, show k + (128 - blen x).toNat = 128 by omega] at h1
  exact h1
end Go.Proofs.YtgjgcehoakacoaaGreatDoor
namespace Go.Proofs.YtgjgcehoakacoaaGreatDoor
open Go.RowKit
set_option maxRecDepth 100000

/-- What the program rounds: the greater operand's integer, shifted up, and what is left of the lesser one's. -/
def sA (a b : Int) : Int := if fS a = fS b then fX a * 18446744073709551616 + pA (fX b) (fY b - (fY a - 64)) else fX a * 18446744073709551616 - pA (fX b) (fY b - (fY a - 64)) - b2i (lA (fX b) (fY b - (fY a - 64)))
theorem V2_nil {h l : Int} (h1 : Word h) (h2 : Word l) (e : V2 h l = 0) : h = 0 ∧ l = 0 := by
  obtain ⟨_, _⟩ := h1
  obtain ⟨_, _⟩ := h2
  unfold V2 at e
  omega
theorem sA_nil {a b : Int} (hB : Big a b) (hx : fX a = 0) : sA a b = 0 := by
  unfold sA
  rw [hB.non hx, hx, (pA_nought _).1, (pA_nought _).2]
  simp [b2i]
theorem sA_round {a b : Int} (ha : Word a) (hb : Word b) (h1 : fC a < 3) (h2 : fC b < 3) (hB : Big a b) (hx : 0 < fX a) (md : Int) :
    0 ≤ sA a b ∧ sA a b < 340282366920938463463374607431768211456 ∧ (zA a b = 0 → sA a b = 0) ∧ (0 < zA a b → 0 < sA a b ∧
      rF md (fS a) (rN (sA a b) (eP (fY a - 64)) (eQ (fY a - 64))) (rS (sA a b) (eP (fY a - 64)) (eQ (fY a - 64)) (lA (fX b) (fY b - (fY a - 64)) && decide (54 ≤ blen (sA a b)))) = rF md (fS a) (2 * zA a b) false ∧
      rG md (fS a) (rN (sA a b) (eP (fY a - 64)) (eQ (fY a - 64))) (rS (sA a b) (eP (fY a - 64)) (eQ (fY a - 64)) (lA (fX b) (fY b - (fY a - 64)) && decide (54 ≤ blen (sA a b)))) = rG md (fS a) (2 * zA a b) false) := by
  have e1 := fMg_is ha h1
  have e2 := fMg_is hb h2
  have hle := hB.le
  refine add_round md (fS a) (decide (fS a = fS b)) (X := fX a) (Y := fX b) (e := fY a) (f := fY b) hx fX_bd.2 fX_bd.1 fX_bd.2 (fY_bd a).1 (fY_bd a).2 (fY_bd b).1 (fY_bd b).2 hB.ord hB.far (by rw [e1, e2]; exact hle) ?_ ?_
  · unfold sA
    simp only [decide_eq_true_eq]
  · unfold zA
    rw [e1, e2]
    simp only [decide_eq_true_eq]
theorem sA_bd {a b : Int} (ha : Word a) (hb : Word b) (h1 : fC a < 3) (h2 : fC b < 3) (hB : Big a b) : 0 ≤ sA a b ∧ sA a b < 340282366920938463463374607431768211456 := by
  by_cases hx : fX a = 0
  · rw [sA_nil hB hx]
    decide
  · have := (fX_bd (f := a)).1
    have h := sA_round ha hb h1 h2 hB (by omega) 0
    exact ⟨h.1, h.2.1⟩
theorem round_sum {a b : Int} (ha : Word a) (hb : Word b) (h1 : fC a < 3) (h2 : fC b < 3) (hn : b ≠ fNg a) (hB : Big a b) (md h l : Int) (wh : Word h) (wl : Word l) (hv : V2 h l = sA a b) (w : World) :
    Calls Tryz.prog 106 #[.bool (fS a), .agg #[.int .u64 h, .int .u64 l], .int .i64 (fY a - 64), .bool (lA (fX b) (fY b - (fY a - 64))), .int .u8 md] w (RetF (smF md a b) (smG md a b) w) := by
  by_cases hz : zA a b = 0
  · obtain ⟨x1, x2, hs, f, g⟩ := sm_zero ha hb h1 h2 md hz hn hB
    rw [sA_nil hB x1] at hv
    obtain ⟨rfl, rfl⟩ := V2_nil wh wl hv
    rw [f, g]
    exact round_zero _ _ _ md w
  · have z0 := zA_nn hB
    have hx : 0 < fX a := by
      have := (fX_bd (f := a)).1
      rcases Int.lt_or_eq_of_le this with k | k
      · exact k
      · exfalso
        have k2 := hB.non k.symm
        have m1 := (fMg_zero ha h1).2 k.symm
        have m2 := (fMg_zero hb h2).2 k2
        refine hz ?_
        unfold zA
        rw [m1, m2]
        simp
    obtain ⟨-, -, -, r⟩ := sA_round ha hb h1 h2 hB hx md
    obtain ⟨r0, r1, r2⟩ := r (by omega)
    obtain ⟨f, g⟩ := sm_pos ha hb h1 h2 md (by omega)
    rw [f, g, ← r1, ← r2]
    have hy := fY_bd a
    have R := round_pos (fS a) h l (fY a - 64) (lA (fX b) (fY b - (fY a - 64))) md wh wl (by rw [hv]; exact r0) w _ _ rfl rfl
    rw [hv, eC_small (by omega) (by omega)] at R
    exact R
theorem kpr2 {W w1 : World} {p0 p1 : Addr} {a0 a1 : Value} (hb : Below W.heap.size W w1) (h0 : W.cell? p0 = some a0) (h1 : W.cell? p1 = some a1) :
    w1.cell? p0 = some a0 ∧ w1.cell? p1 = some a1 := ⟨kp_c hb h0, kp_c hb h1⟩

end Go.Proofs.YtgjgcehoakacoaaGreatDoor
namespace Go.Proofs.YtgjgcehoakacoaaGreatDoor
open Go.RowKit
set_option maxRecDepth 100000

theorem ng_parts {a b : Int} (ha : Word a) (hb : Word b) (h1 : fC a ≠ 4) (h2 : fC b ≠ 4) : b = fNg a ↔ (a % 9223372036854775808 = b % 9223372036854775808 ∧ fS a ≠ fS b) := by
  obtain ⟨a0, a1, a2, a3⟩ := kS_of ha h1
  obtain ⟨b0, b1, b2, b3⟩ := kS_of hb h2
  have na := fNg_is ha
  have nn := nan_iff ha
  have s1 := @sgn_iff a
  have s2 := @sgn_iff b
  obtain ⟨_, _⟩ := ha
  obtain ⟨_, _⟩ := hb
  have hS : fS a ≠ fS b ↔ (9223372036854775808 ≤ a ∧ b < 9223372036854775808) ∨ (a < 9223372036854775808 ∧ 9223372036854775808 ≤ b) := by
    cases h : fS a <;> cases h' : fS b <;> rw [h] at s1 <;> rw [h'] at s2 <;> simp at s1 s2 ⊢ <;> omega
  rw [hS]
  have n2 := na.2 (by omega)
  by_cases hs : 9223372036854775808 ≤ a
  · rw [n2.1 hs]
    omega
  · rw [n2.2 (by omega)]
    omega
theorem inf_low {a : Int} (ha : Word a) : fC a = 3 ↔ a % 9223372036854775808 = 9218868437227405312 := by
  have cls : fC a = if fE a = 2047 then (if fM a = 0 then 3 else 4) else if fE a = 0 then (if fM a = 0 then 0 else 1) else 2 := rfl
  have := low63 ha
  have := frac_bd (f := a)
  have := exp_bd (f := a)
  constructor
  · intro h
    rw [h] at cls
    split at cls
    · split at cls <;> omega
    · split at cls
      · split at cls <;> omega
      · omega
  · intro h
    rw [cls, if_pos (by omega), if_pos (by omega)]
theorem inf_neg {a b : Int} (ha : Word a) (hb : Word b) (h1 : fC a = 3) (h2 : fC b ≠ 4) : b = fNg a ↔ (fC b = 3 ∧ fS a ≠ fS b) := by
  rw [ng_parts ha hb (by omega) h2, inf_low hb]
  have := (inf_low ha).1 h1
  constructor
  · rintro ⟨h, k⟩; exact ⟨by omega, k⟩
  · rintro ⟨h, k⟩; exact ⟨by omega, k⟩
/-- Operands that are opposite to each other. -/
theorem sm_opposite {a b : Int} (ha : Word a) (hb : Word b) (h1 : fC a < 3) (h2 : fC b < 3) (h : b = fNg a) (md : Int) : smF md a b = sg (decide (md = 2)) ∧ smG md a b = 0 := by
  obtain ⟨k, s⟩ := (ng_parts ha hb (by omega) (by omega)).1 h
  have e := sum_is ha hb h1 h2
  have z : zI a b = 0 := by
    unfold zI fMg
    rw [k]
    unfold sv
    cases hA : fS a <;> cases hB : fS b <;> rw [hA, hB] at s <;> simp at s ⊢ <;> omega
  rw [z] at e
  have e0 : fV a + fV b = 0 := by rw [e]; exact Rat.zero_mkRat _
  unfold smF smG dG
  rw [if_pos e0, if_pos e0, if_neg s]
  exact ⟨rfl, rfl⟩

end Go.Proofs.YtgjgcehoakacoaaGreatDoor
