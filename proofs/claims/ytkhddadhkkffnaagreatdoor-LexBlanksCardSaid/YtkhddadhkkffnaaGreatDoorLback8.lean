/-
  The walk of DeciBack: whatever float is handed in, the law answers true. Conditions: the float is a word; the listed tables stand.
-/
import Derived.Test.YtkhddadhkkffnaaGreatDoorWorks8
namespace Go.Proofs.YtkhddadhkkffnaaGreatDoor
open Go.RowKit
set_option maxRecDepth 100000

theorem nrF_eq {p q p' q' : Int} (hp : 0 < p) (hq : 0 < q) (hp' : 0 < p') (hq' : 0 < q') (h : p * q' = p' * q) : nrF p q = nrF p' q' := by
  unfold nrF
  rw [if_neg (by omega), if_neg (by omega)]
  obtain ⟨a1, a2⟩ := nX_scale (p := p) (q := q) hq'
  obtain ⟨b1, b2⟩ := nX_scale (p := p') (q := q') hq
  rw [← a1, ← a2, ← b1, ← b2, h, Int.mul_comm q q']
/-- Noughts at the end of the digits are nothing but a greater power. -/
theorem near_shift {x d : List UInt8} {e q : Int} (j : Nat) (hx : dval x = dval d * 10 ^ j) (he : e = q - j) (h0 : 0 < dval d) : nearV x e = nearV d q := by
  have T := p10_tri e (j : Int)
  rw [show e + (j : Int) = q by omega, p10_one (show -(j : Int) ≤ 0 by omega), Int.mul_one, p10_nat] at T
  have hj : (0 : Int) < 10 ^ j := Int.pow_pos (by decide)
  show nrF (dval x * p10 e) (p10 (-e)) = nrF (dval d * p10 q) (p10 (-q))
  refine nrF_eq (Int.mul_pos (by rw [hx]; exact Int.mul_pos h0 hj) (p10_pos _)) (p10_pos _) (Int.mul_pos h0 (p10_pos _)) (p10_pos _) ?_
  rw [hx]
  calc dval d * 10 ^ j * p10 e * p10 (-q) = dval d * (p10 e * 10 ^ j * p10 (-q)) := by ac_rfl
    _ = dval d * (p10 q * p10 (-e)) := by rw [T]
    _ = dval d * p10 q * p10 (-e) := by ac_rfl
def asc (l : List UInt8) : Bool := l.all fun b => decide (b.toNat < 128)
theorem asc_dig {l : List UInt8} (h : l.all isDig = true) : asc l = true := List.all_eq_true.2 fun b hb => by
  have := List.all_eq_true.1 h b hb
  unfold isDig at this
  simp only [Bool.and_eq_true, decide_eq_true_eq] at this
  rw [decide_eq_true_eq]
  omega
theorem asc_app {l m : List UInt8} (h : asc l = true) (k : asc m = true) : asc (l ++ m) = true := by
  unfold asc at *
  rw [List.all_append, h, k]
  rfl
theorem asc_cons {b : UInt8} {m : List UInt8} (h : b.toNat < 128) (k : asc m = true) : asc (b :: m) = true := by
  unfold asc at *
  rw [List.all_cons, k, decide_eq_true h]
  rfl
theorem asc_itoa (z : Int) : asc (Lib.itoa z) = true := by
  unfold Lib.itoa
  split
  · exact asc_cons (by decide) (asc_dig (dec_dig _).1)
  · exact asc_dig (dec_dig _).1
theorem asc_lo {d : List UInt8} (q : Int) (h : d.all isDig = true) : asc (loT d q) = true := by
  unfold loT
  split
  · exact asc_app (asc_app (asc_dig h) (asc_dig (nts_dig _).1)) (by decide)
  · split
    · exact asc_app (asc_dig (all_take h _)) (asc_cons (by decide) (asc_dig (all_drop h _)))
    · split
      · exact asc_cons (by decide) (asc_cons (by decide) (asc_app (asc_dig (nts_dig _).1) (asc_dig h)))
      · refine asc_app (asc_app (asc_app (asc_dig (all_take h _)) ?_) (asc_dig (all_drop h _))) (asc_cons (by decide) (asc_itoa _))
        split <;> decide
/-- What is printed of a finite float, behind its sign. -/
def prB (f : Int) : List UInt8 := if fC f = 0 then [48, 46, 48] else loT (dgD f) (dgQ f)
theorem prB_is {f : Int} (hf : Word f) (hc : fC f < 3) : prT f = (if fS f then [45] else []) ++ prB f ∧ asc (prB f) = true ∧ (prB f).length ≤ 26 ∧ psF (prB f) = fAb f ∧ psE (prB f) = 0 := by
  have cb := cls_bd f
  have e1 : prT f = (if fS f then [45] else []) ++ prB f := by
    unfold prT prB
    rw [if_neg (show ¬ fC f = 4 by omega), if_neg (show ¬ fC f = 3 by omega)]
  by_cases h0 : fC f = 0
  · have e2 : prB f = [48, 46, 48] := by unfold prB; rw [if_pos h0]
    rw [e1, e2]
    refine ⟨rfl, by decide, by decide, ?_, by decide +kernel⟩
    rw [show psF [48, 46, 48] = 0 by decide +kernel]
    unfold fAb
    rw [if_neg (by omega)]
    have hf0 := hf.1
    have hf1 := hf.2
    have : fE f = 0 ∧ fM f = 0 := by
      unfold fC at h0
      split at h0
      · split at h0 <;> omega
      · split at h0
        · split at h0
          · constructor <;> assumption
          · omega
        · omega
    unfold fE fM at this
    omega
  · have hc' : fC f = 1 ∨ fC f = 2 := by omega
    obtain ⟨k1, k2, k3, k4, k5⟩ := dg_known hf hc'
    obtain ⟨-, a0, a1, ac, -, -⟩ := ab_fin hf hc'
    have e2 : prB f = loT (dgD f) (dgQ f) := by unfold prB; rw [if_neg h0]
    rw [e1, e2]
    obtain ⟨r1, r2, r3, r4, r5, j, r6, r7⟩ := rd_lo k1 ⟨k3, k4⟩ k2
    have vd : 0 < dval (dgD f) := by
      have v0 := (dval_bd (digB_all k1).1).1
      rcases Int.lt_or_eq_of_le v0 with c | c
      · exact c
      · exfalso
        unfold nearV nrF at k5
        rw [← c, Int.zero_mul, if_pos (.inl rfl)] at k5
        omega
    have NV : nearV (rdD (loT (dgD f) (dgQ f))) (rdE (loT (dgD f) (dgQ f))) = fAb f := by
      rw [near_shift j r6 r7 vd, k5]
    have PE : psE (loT (dgD f) (dgQ f)) = 0 := by
      unfold psE
      rw [if_neg (by omega), if_pos r1, NV, if_neg (by omega)]
    refine ⟨rfl, asc_lo _ (digB_all k1).1, r3, ?_, PE⟩
    unfold psF
    rw [PE, if_pos rfl, NV]
end Go.Proofs.YtkhddadhkkffnaaGreatDoor
