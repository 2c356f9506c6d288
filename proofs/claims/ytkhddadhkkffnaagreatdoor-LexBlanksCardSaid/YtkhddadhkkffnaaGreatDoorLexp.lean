/-
  The bytes of a number, one by one: which stand in it, and which do not follow it. No function of the program.
-/
import Derived.Test.YtkhddadhkkffnaaGreatDoorLexv
namespace Go.Proofs.YtkhddadhkkffnaaGreatDoor
open Go.RowKit
set_option maxRecDepth 100000

theorem dg_in : ∀ (l : List UInt8) (j : Nat), j < dgL l → ∃ b, l[j]? = some b ∧ isDig b = true
  | [], j, h => by simp [dgL] at h
  | b :: r, j, h => by
    unfold dgL at h
    rw [List.takeWhile_cons] at h
    split at h
    · rename_i hb
      cases j with
      | zero => exact ⟨b, rfl, hb⟩
      | succ j => exact dg_in r j (by rw [List.length_cons] at h; exact Nat.lt_of_succ_lt_succ h)
    · simp at h
theorem dg_out : ∀ (l : List UInt8) (b : UInt8), l[dgL l]? = some b → isDig b = false
  | [], b, h => by simp [dgL] at h
  | c :: r, b, h => by
    unfold dgL at h
    rw [List.takeWhile_cons] at h
    split at h
    · rw [List.length_cons, List.getElem?_cons_succ] at h
      exact dg_out r b h
    · rename_i hb
      simp only [List.length_nil, List.getElem?_cons_zero, Option.some.injEq] at h
      rw [← h]
      simpa using hb
theorem fr_cases (x : List UInt8) : frL x = 0 ∧ (∀ c, x[0]? = some 46 → x[1]? = some c → isDig c = false) ∨ ∃ r, x = 46 :: r ∧ dgL r ≠ 0 ∧ frL x = 1 + dgL r := by
  cases x with
  | nil => exact .inl ⟨rfl, fun c h => by simp at h⟩
  | cons b r =>
    rw [frL_cons]
    by_cases h : b = 46 ∧ dgL r ≠ 0
    · rw [if_pos h]
      exact .inr ⟨r, by rw [h.1], h.2, rfl⟩
    · rw [if_neg h]
      refine .inl ⟨rfl, fun c h1 h2 => ?_⟩
      simp only [List.getElem?_cons_zero, Option.some.injEq] at h1
      have h3 : dgL r = 0 := by
        refine Classical.byContradiction fun h4 => h ⟨h1, h4⟩
      refine dg_out r c ?_
      rw [h3]
      exact h2
theorem ex_cases (x : List UInt8) : exL x = 0 ∨ ∃ b r, x = b :: r ∧ (b = 101 ∨ b = 69) ∧ (sgL r = 0 ∨ sgL r = 1 ∧ ∃ c, r[0]? = some c ∧ (c = 43 ∨ c = 45)) ∧ dgL (r.drop (sgL r)) ≠ 0 ∧ exL x = 1 + sgL r + dgL (r.drop (sgL r)) := by
  cases x with
  | nil => exact .inl rfl
  | cons b r =>
    rw [exL_cons]
    by_cases h : (b = 101 ∨ b = 69) ∧ dgL (r.drop (sgL r)) ≠ 0
    · rw [if_pos h]
      refine .inr ⟨b, r, rfl, h.1, ?_, h.2, rfl⟩
      cases r with
      | nil => exact .inl rfl
      | cons c r =>
        rw [sgL_cons]
        by_cases hc : c = 43 ∨ c = 45
        · rw [if_pos hc]
          exact .inr ⟨rfl, c, rfl, hc⟩
        · rw [if_neg hc]
          exact .inl rfl
    · rw [if_neg h]
      exact .inl rfl
def expB (b : UInt8) : Prop := b = 101 ∨ b = 69
def sigB (b : UInt8) : Prop := b = 43 ∨ b = 45
theorem num_in (l : List UInt8) (j : Nat) (hj : j < nuL l) : ∃ b, l[j]? = some b ∧ (isDig b = true ∨ (b = 46 ∧ ∃ c, l[j + 1]? = some c ∧ isDig c = true) ∨ (nuF l = true ∧ (expB b ∨ (sigB b ∧ 1 ≤ j ∧ ∃ c, l[j - 1]? = some c ∧ expB c)))) := by
  have h0 : dgL l ≠ 0 := fun h => by unfold nuL at hj; rw [if_pos h] at hj; omega
  have eN : nuL l = nuA l + exL (l.drop (nuA l)) := by unfold nuL; rw [if_neg h0]
  by_cases h1 : j < dgL l
  · obtain ⟨b, e, d⟩ := dg_in l j h1
    exact ⟨b, e, .inl d⟩
  · by_cases h2 : j < nuA l
    · unfold nuA at h2
      rcases fr_cases (l.drop (dgL l)) with ⟨e, -⟩ | ⟨r, ex, hd, e⟩
      · omega
      · by_cases h3 : j = dgL l
        · refine ⟨46, ?_, .inr (.inl ⟨rfl, ?_⟩)⟩
          · have : (l.drop (dgL l))[0]? = some 46 := by rw [ex]; rfl
            rw [List.getElem?_drop] at this
            rw [h3]
            exact this
          · obtain ⟨c, e1, e2⟩ := dg_in r 0 (by omega)
            refine ⟨c, ?_, e2⟩
            have : (l.drop (dgL l))[1]? = some c := by rw [ex]; exact e1
            rw [List.getElem?_drop] at this
            rw [h3]
            exact this
        · obtain ⟨c, e1, e2⟩ := dg_in r (j - dgL l - 1) (by omega)
          refine ⟨c, ?_, .inl e2⟩
          have : (l.drop (dgL l))[j - dgL l - 1 + 1]? = some c := by rw [ex, List.getElem?_cons_succ]; exact e1
          rw [List.getElem?_drop, show dgL l + (j - dgL l - 1 + 1) = j by omega] at this
          exact this
    · have hF : nuF l = true := by
        unfold nuF
        rw [decide_eq_true_eq]
        unfold nuA at h2 eN
        omega
      rcases ex_cases (l.drop (nuA l)) with e | ⟨b, r, ex, hb, hs, hd, e⟩
      · omega
      · by_cases h3 : j = nuA l
        · refine ⟨b, ?_, .inr (.inr ⟨hF, .inl hb⟩)⟩
          have : (l.drop (nuA l))[0]? = some b := by rw [ex]; rfl
          rw [List.getElem?_drop] at this
          rw [h3]
          exact this
        · by_cases h4 : j = nuA l + 1 ∧ sgL r = 1
          · rcases hs with hs | ⟨-, c, e1, hc⟩
            · omega
            · refine ⟨c, ?_, .inr (.inr ⟨hF, .inr ⟨hc, by omega, b, ?_, hb⟩⟩)⟩
              · have : (l.drop (nuA l))[1]? = some c := by rw [ex]; exact e1
                rw [List.getElem?_drop] at this
                rw [h4.1]
                exact this
              · have : (l.drop (nuA l))[0]? = some b := by rw [ex]; rfl
                rw [List.getElem?_drop] at this
                rw [show j - 1 = nuA l + 0 by omega]
                exact this
          · have hs1 : sgL r ≤ 1 := (sgL_le r).1
            obtain ⟨c, e1, e2⟩ := dg_in (r.drop (sgL r)) (j - nuA l - 1 - sgL r) (by omega)
            refine ⟨c, ?_, .inl e2⟩
            rw [List.getElem?_drop] at e1
            have : (l.drop (nuA l))[sgL r + (j - nuA l - 1 - sgL r) + 1]? = some c := by rw [ex, List.getElem?_cons_succ]; exact e1
            rw [List.getElem?_drop, show nuA l + (sgL r + (j - nuA l - 1 - sgL r) + 1) = j by omega] at this
            exact this
/-- The last byte of a number is a digit. -/
theorem num_last (l : List UInt8) (h : nuL l ≠ 0) : ∃ b, l[nuL l - 1]? = some b ∧ isDig b = true := by
  have h0 : dgL l ≠ 0 := fun h1 => by unfold nuL at h; rw [if_pos h1] at h; omega
  have eN : nuL l = nuA l + exL (l.drop (nuA l)) := by unfold nuL; rw [if_neg h0]
  rcases ex_cases (l.drop (nuA l)) with e | ⟨b, r, ex, hb, hs, hd, e⟩
  · rcases fr_cases (l.drop (dgL l)) with ⟨e', -⟩ | ⟨r, ex, hd, e'⟩
    · rw [eN, e]
      unfold nuA
      rw [e']
      exact dg_in l _ (by omega)
    · obtain ⟨c, e1, e2⟩ := dg_in r (dgL r - 1) (by omega)
      refine ⟨c, ?_, e2⟩
      have : (l.drop (dgL l))[dgL r - 1 + 1]? = some c := by rw [ex, List.getElem?_cons_succ]; exact e1
      rw [List.getElem?_drop] at this
      rw [eN, e]
      unfold nuA
      rw [e', show dgL l + (1 + dgL r) + 0 - 1 = dgL l + (dgL r - 1 + 1) by omega]
      exact this
  · obtain ⟨c, e1, e2⟩ := dg_in (r.drop (sgL r)) (dgL (r.drop (sgL r)) - 1) (by omega)
    refine ⟨c, ?_, e2⟩
    rw [List.getElem?_drop] at e1
    have : (l.drop (nuA l))[sgL r + (dgL (r.drop (sgL r)) - 1) + 1]? = some c := by rw [ex, List.getElem?_cons_succ]; exact e1
    rw [List.getElem?_drop] at this
    rw [eN, e, show nuA l + (1 + sgL r + dgL (r.drop (sgL r))) - 1 = nuA l + (sgL r + (dgL (r.drop (sgL r)) - 1) + 1) by omega]
    exact this
/-- What follows a number: no digit; a point with a digit only where nothing may follow; an e only as the beginning of a name. -/
theorem num_out (l : List UInt8) (h : nuL l ≠ 0) (b : UInt8) (hb : l[nuL l]? = some b) : isDig b = false ∧ (b = 46 → ∀ c, l[nuL l + 1]? = some c → isDig c = true → nuF l = true) := by
  have h0 : dgL l ≠ 0 := fun h1 => by unfold nuL at h; rw [if_pos h1] at h; omega
  have eN : nuL l = nuA l + exL (l.drop (nuA l)) := by unfold nuL; rw [if_neg h0]
  constructor
  · rcases ex_cases (l.drop (nuA l)) with e | ⟨c, r, ex, hc, hs, hd, e⟩
    · rcases fr_cases (l.drop (dgL l)) with ⟨e', -⟩ | ⟨r, ex, hd, e'⟩
      · refine dg_out l b ?_
        rw [eN, e] at hb
        unfold nuA at hb
        rw [e'] at hb
        exact hb
      · refine dg_out r b ?_
        have : (l.drop (dgL l))[dgL r + 1]? = some b := by
          rw [List.getElem?_drop, ← hb, eN, e]
          unfold nuA
          rw [e', show dgL l + (1 + dgL r) + 0 = dgL l + (dgL r + 1) by omega]
        rw [ex, List.getElem?_cons_succ] at this
        exact this
    · refine dg_out (r.drop (sgL r)) b ?_
      rw [List.getElem?_drop]
      have : (l.drop (nuA l))[sgL r + dgL (r.drop (sgL r)) + 1]? = some b := by
        rw [List.getElem?_drop, ← hb, eN, e, show nuA l + (1 + sgL r + dgL (r.drop (sgL r))) = nuA l + (sgL r + dgL (r.drop (sgL r)) + 1) by omega]
      rw [ex, List.getElem?_cons_succ] at this
      exact this
  · intro h46 c hc hd
    refine Classical.byContradiction fun hF => ?_
    have hn : nuL l = dgL l := by
      unfold nuF at hF
      rw [decide_eq_true_eq] at hF
      unfold nuA at eN
      omega
    rw [hn] at hb hc
    have e' : frL (l.drop (dgL l)) = 0 := by unfold nuA at eN; omega
    rcases fr_cases (l.drop (dgL l)) with ⟨-, hno⟩ | ⟨r, ex, hd', e''⟩
    · have := hno c (by rw [List.getElem?_drop, Nat.add_zero, hb, h46]) (by rw [List.getElem?_drop]; exact hc)
      rw [this] at hd
      cases hd
    · omega
/-- A point with a digit behind it begins no token. -/
theorem point_bad {x : List UInt8} {c : UInt8} (h0 : x[0]? = some 46) (h1 : x[1]? = some c) (hc : isDig c = true) : gp x = x ∧ fiE x = 90 := by
  cases x with
  | nil => simp at h0
  | cons b x =>
    obtain rfl : b = 46 := by simpa using h0
    cases x with
    | nil => simp at h1
    | cons d x =>
      obtain rfl : d = c := by simpa using h1
      constructor
      · unfold gp
        rw [gpB, if_neg (by decide), if_neg (by rintro ⟨h, -⟩; cases h)]
      · have n1 : nmL (46 :: d :: x) = 0 := by rw [nmL_cons, if_neg (by decide)]
        have n2 : dgL (46 :: d :: x) = 0 := by unfold dgL; rw [List.takeWhile_cons, if_neg (by decide)]; rfl
        have n3 : nuL (46 :: d :: x) = 0 := by unfold nuL; rw [if_pos n2]
        have n4 : siL (46 :: d :: x) = 0 := by
          unfold siL
          rw [si1_cons, if_neg (c := oneS.contains 46 = true) (by decide), if_neg]
          intro h
          have h' : [46, d] ∈ twoS := by simpa using h
          unfold twoS at h'
          simp at h'
          subst h'
          cases hc
        unfold fiE
        rw [n1, n3, n4]
        rfl
theorem exp_gap {x : List UInt8} {b : UInt8} (h0 : x[0]? = some b) (hb : expB b) : gpN x = 0 := by
  cases x with
  | nil => simp at h0
  | cons c x =>
    obtain rfl : c = b := by simpa using h0
    have : gp (c :: x) = c :: x := by
      unfold gp
      rcases hb with rfl | rfl
      · rw [gpB, if_neg (by decide), if_neg (by rintro ⟨h, -⟩; cases h)]
      · rw [gpB, if_neg (by decide), if_neg (by rintro ⟨h, -⟩; cases h)]
    have h := gpN_add (c :: x)
    rw [this] at h
    omega
end Go.Proofs.YtkhddadhkkffnaaGreatDoor
