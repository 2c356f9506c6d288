/-
  Operands turned about, signs turned, and the order of sums and products. No function of the program.
-/
import Derived.Test.YtkdckclefegocaaGreatDoorSofG
namespace Go.Proofs.YtkdckclefegocaaGreatDoor
open Go.RowKit
set_option maxRecDepth 100000

theorem inf_same {a b : Int} (ha : Word a) (hb : Word b) (h1 : fC a = 3) (h2 : fC b = 3) (hs : fS a = fS b) : a = b := by
  have a1 := (kS_of ha (by omega)).2.2.1
  have b1 := (kS_of hb (by omega)).2.2.1
  rw [(inf_low ha).1 h1, hs] at a1
  rw [(inf_low hb).1 h2] at b1
  exact a1.trans b1.symm
theorem sa_comm {a b : Int} (ha : Word a) (hb : Word b) (md : Int) : saF md b a = saF md a b ∧ saG md b a = saG md a b := by
  obtain ⟨c1, c2⟩ := smF_comm md a b
  unfold saF saG
  by_cases hN : fC a = 4 ∨ fC b = 4
  · have hN' : fC b = 4 ∨ fC a = 4 := hN.symm
    rw [if_pos hN, if_pos hN', if_pos hN, if_pos hN']
    exact ⟨rfl, rfl⟩
  · have hN' : ¬ (fC b = 4 ∨ fC a = 4) := fun h => hN h.symm
    rw [if_neg hN, if_neg hN', if_neg hN, if_neg hN']
    by_cases hI : fC a = 3 ∧ fC b = 3 ∧ fS a ≠ fS b
    · have hI' : fC b = 3 ∧ fC a = 3 ∧ fS b ≠ fS a := ⟨hI.2.1, hI.1, fun h => hI.2.2 h.symm⟩
      rw [if_pos hI, if_pos hI', if_pos hI, if_pos hI']
      exact ⟨rfl, rfl⟩
    · have hI' : ¬ (fC b = 3 ∧ fC a = 3 ∧ fS b ≠ fS a) := fun h => hI ⟨h.2.1, h.1, fun k => h.2.2 k.symm⟩
      rw [if_neg hI, if_neg hI', if_neg hI, if_neg hI']
      by_cases h1 : fC a = 3
      · by_cases h2 : fC b = 3
        · have hs : fS a = fS b := by
            rcases Decidable.em (fS a = fS b) with h | h
            · exact h
            · exact absurd ⟨h1, h2, h⟩ hI
          have e := inf_same ha hb h1 h2 hs
          simp only [if_pos h1, if_pos h2]
          exact ⟨e.symm, trivial⟩
        · simp only [if_pos h1, if_neg h2]
          exact ⟨trivial, trivial⟩
      · by_cases h2 : fC b = 3
        · simp only [if_neg h1, if_pos h2]
          exact ⟨trivial, trivial⟩
        · simp only [if_neg h1, if_neg h2]
          exact ⟨c1.symm, c2.symm⟩
theorem ml_comm (md a b : Int) : mlF md b a = mlF md a b ∧ mlG md b a = mlG md a b := by
  have e1 : (fS b != fS a) = (fS a != fS b) := by cases fS a <;> cases fS b <;> rfl
  have c1 : (fC b = 4 ∨ fC a = 4) = (fC a = 4 ∨ fC b = 4) := propext Or.comm
  have c2 : (fC b = 0 ∧ fC a = 3 ∨ fC b = 3 ∧ fC a = 0) = (fC a = 0 ∧ fC b = 3 ∨ fC a = 3 ∧ fC b = 0) := propext (by omega)
  have c3 : (fC b = 3 ∨ fC a = 3) = (fC a = 3 ∨ fC b = 3) := propext Or.comm
  unfold mlF mlG
  simp only [e1, c1, c2, c3, Rat.mul_comm (fV b)]
  exact ⟨trivial, trivial⟩

/-- The key of a sum of finite floats. -/
theorem sm_key (md a b : Int) : fK (smF md a b) = fK (dF md (fV a + fV b)) ∧ fC (smF md a b) ≠ 4 := by
  unfold smF
  by_cases h : fV a + fV b = 0
  · rw [if_pos h, h]
    have e : dF md 0 = 0 := if_pos rfl
    rw [e]
    constructor
    · cases (if fS a = fS b then fS a else decide (md = 2)) <;> decide
    · cases (if fS a = fS b then fS a else decide (md = 2)) <;> decide
  · rw [if_neg h]
    exact ⟨rfl, dF_class _ _⟩
theorem key_bd {f : Int} (hf : Word f) (h : fC f ≠ 4) : -9218868437227405312 ≤ fK f ∧ fK f ≤ 9218868437227405312 := by
  obtain ⟨a, b, c, -⟩ := kS_of hf h
  have k := kS_key (s := fS f) a b
  rw [← c] at k
  rw [k]
  unfold sv
  split <;> omega
theorem inf_key {f : Int} (hf : Word f) (h : fC f = 3) : fK f = sv (fS f) 9218868437227405312 := by
  obtain ⟨a, b, c, -⟩ := kS_of hf (by omega)
  have k := kS_key (s := fS f) a b
  rw [← c, (inf_low hf).1 h] at k
  exact k
theorem fin_key {f : Int} (hf : Word f) (h : fC f < 3) : -9218868437227405312 < fK f ∧ fK f < 9218868437227405312 := by
  obtain ⟨a, b, c, d⟩ := kS_of hf (by omega)
  have k := kS_key (s := fS f) a b
  rw [← c] at k
  have := d.1 h
  rw [k]
  unfold sv
  split <;> omega
theorem inf_is (s : Bool) : fK (9218868437227405312 + sg s) = sv s 9218868437227405312 ∧ fC (9218868437227405312 + sg s) = 3 := by cases s <;> decide
theorem sg_is (s : Bool) : fK (sg s) = 0 ∧ fC (sg s) ≠ 4 := by cases s <;> decide

/-- Both signs turned: the other way of rounding gives the other sign. -/
theorem dF_neg (md : Int) (r : Rat) : fK (dF (mdT true md) (-r)) = -fK (dF md r) := by
  rw [dF_key, dF_key]
  by_cases h : r = 0
  · subst h
    rw [if_pos (by decide), if_pos rfl]
    rfl
  · have hn : ¬ -r = 0 := fun k => h (by have := congrArg (fun x => -x) k; simpa using this)
    rw [if_neg h, if_neg hn]
    have e1 : (-r).num = -r.num := Rat.neg_num r
    have e2 : (-r).den = r.den := Rat.neg_den r
    have hr0 : r.num ≠ 0 := fun k => h (Rat.num_eq_zero.1 k)
    have p1 : rp (-r) = rp r := by unfold rp; rw [e1, Int.natAbs_neg]
    have p2 : rq (-r) = rq r := by unfold rq; rw [e2]
    have p3 : rs (-r) = !rs r := by
      unfold rs
      rw [e1]
      by_cases k : r.num < 0
      · rw [decide_eq_true k, decide_eq_false (by omega)]; rfl
      · rw [decide_eq_false k, decide_eq_true (by omega)]; rfl
    have m : mdT (!rs r) (mdT true md) = mdT (rs r) md := by
      unfold mdT
      cases rs r
      · simp only [Bool.not_false, if_true, Bool.false_eq_true, if_false]
        by_cases k1 : md = 1
        · simp [k1]
        · by_cases k2 : md = 2
          · simp [k2]
          · simp [k1, k2]
      · rfl
    unfold dM
    rw [p1, p2, p3, m, sv_not]
theorem fV_ng {f : Int} (hf : Word f) (h : fC f < 3) : fC (fNg f) < 3 ∧ fV (fNg f) = -fV f := by
  obtain ⟨k1, k2, k3, k4⟩ := fNg_key hf (by omega)
  have hw := fNg_word hf
  obtain ⟨a, b, c, d⟩ := kS_of hf (by omega)
  obtain ⟨a', b', c', d'⟩ := kS_of hw k1
  have e : fNg f % 9223372036854775808 = f % 9223372036854775808 := by
    have := (fNg_is hf).2 (by have := nan_iff hf; omega)
    obtain ⟨_, _⟩ := hf
    by_cases hs : 9223372036854775808 ≤ f
    · rw [this.1 hs]; omega
    · rw [this.2 (by omega)]; omega
  have hc : fC (fNg f) < 3 := d'.2 (by rw [e]; exact d.1 h)
  refine ⟨hc, ?_⟩
  rw [fV_key hw hc, fV_key hf h, e, k3, rv_not]
theorem inf_ng {f : Int} (hf : Word f) (h : fC f = 3) : fC (fNg f) = 3 := by
  rw [inf_low (fNg_word hf)]
  have e := (inf_low hf).1 h
  have := (fNg_is hf).2 (by omega)
  obtain ⟨_, _⟩ := hf
  by_cases hs : 9223372036854775808 ≤ f
  · rw [this.1 hs]; omega
  · rw [this.2 (by omega)]; omega
/-- What is so of a sum, and of the sum with both signs turned. -/
structure Turned (s u : Int) : Prop where
  nan : fC s = 4 → u = s
  key : fC s ≠ 4 → fC u ≠ 4 ∧ fK u = -fK s
theorem rat_neg_add (x y : Rat) : -x + -y = -(x + y) := by rw [Rat.neg_add]
theorem sa_turn {a b : Int} (ha : Word a) (hb : Word b) (md : Int) : Turned (saF md a b) (saF (mdT true md) (fNg a) (fNg b)) := by
  have wa := fNg_word ha
  have wb := fNg_word hb
  by_cases na : fC a = 4
  · have e1 : saF md a b = 9221120237041090560 := if_pos (.inl na)
    have e2 : saF (mdT true md) (fNg a) (fNg b) = 9221120237041090560 := if_pos (.inl (by rw [fNg_nan na]; exact na))
    rw [e1, e2]
    exact ⟨fun _ => rfl, fun h => absurd (by decide) h⟩
  by_cases nb : fC b = 4
  · have e1 : saF md a b = 9221120237041090560 := if_pos (.inr nb)
    have e2 : saF (mdT true md) (fNg a) (fNg b) = 9221120237041090560 := if_pos (.inr (by rw [fNg_nan nb]; exact nb))
    rw [e1, e2]
    exact ⟨fun _ => rfl, fun h => absurd (by decide) h⟩
  obtain ⟨a1, a2, a3, a4⟩ := fNg_key ha na
  obtain ⟨b1, b2, b3, b4⟩ := fNg_key hb nb
  have hN : ¬ (fC a = 4 ∨ fC b = 4) := by omega
  have hN' : ¬ (fC (fNg a) = 4 ∨ fC (fNg b) = 4) := by omega
  have la := cls_bd a
  have lb := cls_bd b
  unfold saF
  rw [if_neg hN, if_neg hN']
  by_cases ia : fC a = 3
  · have ia' := inf_ng ha ia
    by_cases ib : fC b = 3
    · have ib' := inf_ng hb ib
      by_cases hs : fS a = fS b
      · have q1 : ¬ (fC a = 3 ∧ fC b = 3 ∧ fS a ≠ fS b) := fun h => h.2.2 hs
        have q2 : ¬ (fC (fNg a) = 3 ∧ fC (fNg b) = 3 ∧ fS (fNg a) ≠ fS (fNg b)) := fun h => h.2.2 (by rw [a3, b3, hs])
        rw [if_neg q1, if_neg q2, if_pos ia, if_pos ia']
        exact ⟨fun h => absurd h na, fun _ => ⟨a1, a2⟩⟩
      · have q1 : fC a = 3 ∧ fC b = 3 ∧ fS a ≠ fS b := ⟨ia, ib, hs⟩
        have q2 : fC (fNg a) = 3 ∧ fC (fNg b) = 3 ∧ fS (fNg a) ≠ fS (fNg b) := ⟨ia', ib', fun h => hs (by rw [a3, b3] at h; simpa using h)⟩
        rw [if_pos q1, if_pos q2]
        exact ⟨fun _ => rfl, fun h => absurd (by decide) h⟩
    · have ib' : fC (fNg b) ≠ 3 := by have := (fV_ng hb (by omega)).1; omega
      have q1 : ¬ (fC a = 3 ∧ fC b = 3 ∧ fS a ≠ fS b) := fun h => ib h.2.1
      have q2 : ¬ (fC (fNg a) = 3 ∧ fC (fNg b) = 3 ∧ fS (fNg a) ≠ fS (fNg b)) := fun h => ib' h.2.1
      rw [if_neg q1, if_neg q2, if_pos ia, if_pos ia']
      exact ⟨fun h => absurd h na, fun _ => ⟨a1, a2⟩⟩
  · have fa := fV_ng ha (by omega)
    have ia' : fC (fNg a) ≠ 3 := by omega
    have q1 : ¬ (fC a = 3 ∧ fC b = 3 ∧ fS a ≠ fS b) := fun h => ia h.1
    have q2 : ¬ (fC (fNg a) = 3 ∧ fC (fNg b) = 3 ∧ fS (fNg a) ≠ fS (fNg b)) := fun h => ia' h.1
    rw [if_neg q1, if_neg q2, if_neg ia, if_neg ia']
    by_cases ib : fC b = 3
    · have ib' := inf_ng hb ib
      rw [if_pos ib, if_pos ib']
      exact ⟨fun h => absurd h nb, fun _ => ⟨b1, b2⟩⟩
    · have fb := fV_ng hb (by omega)
      have ib' : fC (fNg b) ≠ 3 := by omega
      rw [if_neg ib, if_neg ib']
      obtain ⟨s1, s2⟩ := sm_key md a b
      obtain ⟨u1, u2⟩ := sm_key (mdT true md) (fNg a) (fNg b)
      refine ⟨fun h => absurd h s2, fun _ => ⟨u2, ?_⟩⟩
      rw [s1, u1, fa.2, fb.2, rat_neg_add, dF_neg]

/-- The order of floats that are no NaN, by their numbers. -/
theorem fV_le {a b : Int} (ha : Word a) (hb : Word b) (h1 : fC a < 3) (h2 : fC b < 3) (h : fK a < fK b) : fV a ≤ fV b := by
  have c := fV_cmp ha hb h1 h2
  have e := (fOk_yes (a := a) (b := b) (by omega) (by omega)).2
  rw [e, cmpI_lt h] at c
  exact Rat.le_of_lt (cmp_lt.1 c)
/-- Not less, or one is no number. -/
def NotLt (y x : Int) : Prop := fC x ≠ 4 → fC y ≠ 4 → fK x ≤ fK y
theorem not_lt {x y : Int} (h : NotLt y x) : fLt y x = false := by
  by_cases h1 : fC y = 4
  · unfold fLt; rw [(fOk_no1 h1).1]; rfl
  by_cases h2 : fC x = 4
  · unfold fLt; rw [(fOk_no2 h2).1]; rfl
  rw [fLt_key h1 h2]
  exact decide_eq_false (by have := h h2 h1; omega)
theorem add_rises {a b c : Int} (ha : Word a) (hb : Word b) (hc : Word c) (na : fC a ≠ 4) (nb : fC b ≠ 4) (nc : fC c ≠ 4) (h : fK a < fK b) (md : Int) : NotLt (saF md b c) (saF md a c) := by
  intro h1 h2
  have la := cls_bd a
  have lb := cls_bd b
  have lc := cls_bd c
  have ka := key_bd ha na
  have kb := key_bd hb nb
  have w1 : Word (saF md a c) := saF_word ha hc
  have w2 : Word (saF md b c) := saF_word hb hc
  have k1 := key_bd w1 h1
  have k2 := key_bd w2 h2
  have g : ∀ x, Word x → fC x ≠ 4 → fC c = 3 → fC (saF md x c) ≠ 4 → fK (saF md x c) = fK c := by
    intro x hx nx ic hn
    unfold saF at hn ⊢
    have q0 : ¬ (fC x = 4 ∨ fC c = 4) := by omega
    rw [if_neg q0] at hn ⊢
    by_cases ix : fC x = 3
    · by_cases hs : fS x = fS c
      · have q1 : ¬ (fC x = 3 ∧ fC c = 3 ∧ fS x ≠ fS c) := fun h => h.2.2 hs
        rw [if_neg q1, if_pos ix, inf_same hx hc ix ic hs]
      · have q1 : fC x = 3 ∧ fC c = 3 ∧ fS x ≠ fS c := ⟨ix, ic, hs⟩
        rw [if_pos q1] at hn
        exact absurd (by decide) hn
    · have q1 : ¬ (fC x = 3 ∧ fC c = 3 ∧ fS x ≠ fS c) := fun h => ix h.1
      rw [if_neg q1, if_neg ix, if_pos ic]
  by_cases ic : fC c = 3
  · rw [g a ha na ic h1, g b hb nb ic h2]
    omega
  · have hA : ∀ x, fC x ≠ 4 → saF md x c = if fC x = 3 then x else smF md x c := by
      intro x nx
      unfold saF
      have q0 : ¬ (fC x = 4 ∨ fC c = 4) := by omega
      have q1 : ¬ (fC x = 3 ∧ fC c = 3 ∧ fS x ≠ fS c) := fun h => ic h.2.1
      rw [if_neg q0, if_neg q1, if_neg ic]
    rw [hA a na] at k1 ⊢
    rw [hA b nb] at k2 ⊢
    by_cases ia : fC a = 3
    · rw [if_pos ia] at k1 ⊢
      have e := inf_key ha ia
      have : fK a = -9218868437227405312 := by
        rw [e]
        rw [e] at h
        unfold sv at h ⊢
        split at h <;> rename_i hs
        · rw [if_pos hs]
        · omega
      omega
    · by_cases ib : fC b = 3
      · rw [if_pos ib] at k2 ⊢
        have e := inf_key hb ib
        have : fK b = 9218868437227405312 := by
          rw [e]
          rw [e] at h
          unfold sv at h ⊢
          split at h <;> rename_i hs
          · omega
          · rw [if_neg hs]
        omega
      · rw [if_neg ia, if_neg ib, (sm_key md a c).1, (sm_key md b c).1]
        refine dF_rises md ?_
        have := fV_le ha hb (by omega) (by omega) h
        exact Rat.add_le_add_right.2 this
/-- The key of a product of finite floats. -/
theorem ml_key {a b : Int} (md : Int) (h1 : fC a < 3) (h2 : fC b < 3) : fK (mlF md a b) = fK (dF md (fV a * fV b)) ∧ fC (mlF md a b) ≠ 4 := by
  unfold mlF
  rw [if_neg (by omega), if_neg (by omega), if_neg (by omega)]
  by_cases h : fV a * fV b = 0
  · rw [if_pos h, h]
    have e : dF md 0 = 0 := if_pos rfl
    rw [e]
    exact ⟨(sg_is _).1.trans (by decide), (sg_is _).2⟩
  · rw [if_neg h]
    exact ⟨rfl, dF_class _ _⟩
theorem mlF_word (md a b : Int) : Word (mlF md a b) := by
  unfold mlF
  split
  · exact ⟨by decide, by decide⟩
  · split
    · exact ⟨by decide, by decide⟩
    · split
      · cases (fS a != fS b) <;> exact ⟨by decide, by decide⟩
      · split
        · exact sg_word _
        · exact dF_word _ _
theorem ml_inf {a b : Int} (md : Int) (na : fC a ≠ 4) (nb : fC b ≠ 4) (hi : fC a = 3 ∨ fC b = 3) (h : fC (mlF md a b) ≠ 4) : fK (mlF md a b) = sv (fS a != fS b) 9218868437227405312 ∧ fC a ≠ 0 ∧ fC b ≠ 0 := by
  unfold mlF at h ⊢
  rw [if_neg (by omega)] at h ⊢
  by_cases k : fC a = 0 ∧ fC b = 3 ∨ fC a = 3 ∧ fC b = 0
  · rw [if_pos k] at h
    exact absurd (by decide) h
  · rw [if_neg k, if_pos hi]
    exact ⟨(inf_is _).1, by omega, by omega⟩
theorem zero_key {f : Int} (hf : Word f) (h : fC f < 3) : fC f = 0 ↔ fK f = 0 := by
  obtain ⟨a, b, c, d⟩ := kS_of hf (by omega)
  have k := kS_key (s := fS f) a b
  rw [← c] at k
  have m := gK_zero a
  have m2 := fMg_zero hf h
  have m3 := fX_fin h
  unfold fMg at m2
  rw [k]
  unfold sv
  constructor
  · intro h0
    have := m.1 (m2.2 (m3.2 h0))
    split <;> omega
  · intro h0
    refine m3.1 (m2.1 (m.2 ?_))
    split at h0 <;> omega
theorem sign_key {f : Int} (hf : Word f) (h : fC f ≠ 4) : (fS f = true → fK f ≤ 0) ∧ (fS f = false → 0 ≤ fK f) := by
  obtain ⟨a, b, c, -⟩ := kS_of hf h
  have k := kS_key (s := fS f) a b
  rw [← c] at k
  rw [k]
  unfold sv
  constructor
  · intro hs; rw [if_pos hs]; omega
  · intro hs; rw [hs]; simpa using a
theorem rv_nn {p q : Int} (hp : 0 ≤ p) (hq : 0 ≤ q) : 0 ≤ rv false p q := by
  have h := sgn_rv (s := false) hp hq
  by_cases h0 : p = 0 ∨ q = 0
  · rw [rv_zero h0]
    exact Rat.le_refl
  · rw [if_neg h0] at h
    exact Rat.le_of_lt (sgn_gt.1 h)
theorem mul_rises {a b z : Int} (ha : Word a) (hb : Word b) (hz : Word z) (na : fC a ≠ 4) (nb : fC b ≠ 4) (nz : fC z ≠ 4) (sz : fS z = false) (h : fK a < fK b) (md : Int) : NotLt (mlF md b z) (mlF md a z) := by
  intro h1 h2
  have la := cls_bd a
  have lb := cls_bd b
  have lz := cls_bd z
  have ka := key_bd ha na
  have kb := key_bd hb nb
  have k1 := key_bd (mlF_word md a z) h1
  have k2 := key_bd (mlF_word md b z) h2
  have sa := sign_key ha na
  have sb := sign_key hb nb
  by_cases iz : fC z = 3
  · obtain ⟨e1, z1, -⟩ := ml_inf md na nz (.inr iz) h1
    obtain ⟨e2, z2, -⟩ := ml_inf md nb nz (.inr iz) h2
    have nz1 : fC a < 3 → fK a ≠ 0 := fun hc k => z1 ((zero_key ha hc).2 k)
    have nz2 : fC b < 3 → fK b ≠ 0 := fun hc k => z2 ((zero_key hb hc).2 k)
    have ia : fC a = 3 → fK a ≠ 0 := fun hc => by rw [inf_key ha hc]; unfold sv; split <;> omega
    have ib : fC b = 3 → fK b ≠ 0 := fun hc => by rw [inf_key hb hc]; unfold sv; split <;> omega
    rw [e1, e2, sz]
    cases hA : fS a
    · cases hB : fS b
      · exact Int.le_refl _
      · exfalso
        have := sa.2 hA
        have := sb.1 hB
        omega
    · cases hB : fS b <;> decide
  · by_cases ia : fC a = 3
    · obtain ⟨e1, -, -⟩ := ml_inf md na nz (.inl ia) h1
      have e := inf_key ha ia
      have hA : fS a = true := by
        cases hA : fS a
        · rw [e, hA] at h
          simp [sv] at h
          omega
        · rfl
      rw [e1, sz, hA]
      have : sv (true != false) 9218868437227405312 = -9218868437227405312 := by decide
      omega
    · by_cases ib : fC b = 3
      · obtain ⟨e2, -, -⟩ := ml_inf md nb nz (.inl ib) h2
        have e := inf_key hb ib
        have hB : fS b = false := by
          cases hB : fS b
          · rfl
          · rw [e, hB] at h
            simp [sv] at h
            omega
        rw [e2, sz, hB]
        have : sv (false != false) 9218868437227405312 = 9218868437227405312 := by decide
        omega
      · rw [(ml_key md (by omega) (by omega)).1, (ml_key md (by omega) (by omega)).1]
        refine dF_rises md (Rat.mul_le_mul_of_nonneg_right (fV_le ha hb (by omega) (by omega) h) ?_)
        rw [fV_key hz (by omega), sz]
        exact rv_nn (fMg_nn z) (Int.natCast_nonneg _)
theorem mul_modes {a b : Int} (na : fC a ≠ 4) (nb : fC b ≠ 4) : NotLt (mlF 0 a b) (mlF 2 a b) ∧ NotLt (mlF 1 a b) (mlF 0 a b) := by
  have la := cls_bd a
  have lb := cls_bd b
  by_cases hi : fC a = 3 ∨ fC b = 3
  · constructor
    · intro h1 h2
      rw [(ml_inf 2 na nb hi h1).1, (ml_inf 0 na nb hi h2).1]
      exact Int.le_refl _
    · intro h1 h2
      rw [(ml_inf 0 na nb hi h1).1, (ml_inf 1 na nb hi h2).1]
      exact Int.le_refl _
  · have m := dF_modes (fV a * fV b)
    constructor
    · intro h1 h2
      rw [(ml_key 2 (by omega) (by omega)).1, (ml_key 0 (by omega) (by omega)).1]
      exact m.1
    · intro h1 h2
      rw [(ml_key 0 (by omega) (by omega)).1, (ml_key 1 (by omega) (by omega)).1]
      exact m.2
end Go.Proofs.YtkdckclefegocaaGreatDoor
