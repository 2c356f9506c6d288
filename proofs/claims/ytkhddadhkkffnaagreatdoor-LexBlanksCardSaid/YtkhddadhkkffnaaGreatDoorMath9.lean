/-
  What a lexer reads of a text: gaps, names, numbers, signs, and what stays the same where the text is cut behind a token, or goes on with a blank. No function of the program.
-/
import Derived.Test.YtkhddadhkkffnaaGreatDoorMNd
namespace Go.Proofs.YtkhddadhkkffnaaGreatDoor
open Go.RowKit
set_option maxRecDepth 100000

/-- White space; letters with the low line; letters and digits. -/
def isWs (c : UInt8) : Bool := [9, 10, 13, 32].contains c
def isAl (c : UInt8) : Bool := (decide (97 ≤ c.toNat) && decide (c.toNat ≤ 122)) || (decide (65 ≤ c.toNat) && decide (c.toNat ≤ 90)) || decide (c.toNat = 95)
def isAn (c : UInt8) : Bool := isAl c || isDig c
theorem ws_cases {c : UInt8} (h : isWs c = true) : c = 9 ∨ c = 10 ∨ c = 13 ∨ c = 32 := by
  unfold isWs at h
  simpa using h
theorem ws_not {c : UInt8} (h : isWs c = true) : isAl c = false ∧ isDig c = false ∧ isAn c = false ∧ c ≠ 46 ∧ c ≠ 47 ∧ c ≠ 101 ∧ c ≠ 69 ∧ c ≠ 43 ∧ c ≠ 45 := by
  rcases ws_cases h with rfl | rfl | rfl | rfl <;> decide

/-- What is left behind a gap; the first word tells whether a comment is open. -/
def gpB : Bool → List UInt8 → List UInt8
  | _, [] => []
  | true, b :: r => if b = 10 then gpB false r else gpB true r
  | false, b :: r => if isWs b then gpB false r else if b = 47 ∧ r.head? = some 47 then gpB true r else b :: r
def gp (l : List UInt8) : List UInt8 := gpB false l
def gpL (m : Bool) (l : List UInt8) : Nat := l.length - (gpB m l).length
def gpN (l : List UInt8) : Nat := gpL false l
theorem gpB_len : ∀ (m : Bool) (l : List UInt8), (gpB m l).length ≤ l.length
  | true, [] => by simp [gpB]
  | false, [] => by simp [gpB]
  | true, b :: r => by
    unfold gpB
    split
    · have := gpB_len false r; simp only [List.length_cons]; omega
    · have := gpB_len true r; simp only [List.length_cons]; omega
  | false, b :: r => by
    unfold gpB
    split
    · have := gpB_len false r; simp only [List.length_cons]; omega
    · split
      · have := gpB_len true r; simp only [List.length_cons]; omega
      · exact Nat.le_refl _
theorem gpL_le (m : Bool) (l : List UInt8) : gpL m l ≤ l.length := Nat.sub_le _ _
theorem gpL_add (m : Bool) (l : List UInt8) : gpL m l + (gpB m l).length = l.length := by have := gpB_len m l; unfold gpL; omega
/-- What is left is the end of the text. -/
theorem gpB_drop : ∀ (m : Bool) (l : List UInt8), l.drop (gpL m l) = gpB m l
  | true, [] => by simp [gpB]
  | false, [] => by simp [gpB]
  | true, b :: r => by
    have h1 := gpL_add true (b :: r)
    unfold gpB at h1 ⊢
    split
    · rename_i h
      rw [if_pos h] at h1
      have := gpL_add false r
      simp only [List.length_cons] at h1
      rw [show gpL true (b :: r) = gpL false r + 1 by omega, List.drop_succ_cons, gpB_drop]
    · rename_i h
      rw [if_neg h] at h1
      have := gpL_add true r
      simp only [List.length_cons] at h1
      rw [show gpL true (b :: r) = gpL true r + 1 by omega, List.drop_succ_cons, gpB_drop]
  | false, b :: r => by
    have h1 := gpL_add false (b :: r)
    unfold gpB at h1 ⊢
    split
    · rename_i h
      rw [if_pos h] at h1
      have := gpL_add false r
      simp only [List.length_cons] at h1
      rw [show gpL false (b :: r) = gpL false r + 1 by omega, List.drop_succ_cons, gpB_drop]
    · rename_i h
      rw [if_neg h] at h1
      split
      · rename_i h'
        rw [if_pos h'] at h1
        have := gpL_add true r
        simp only [List.length_cons] at h1
        rw [show gpL false (b :: r) = gpL true r + 1 by omega, List.drop_succ_cons, gpB_drop]
      · rename_i h'
        rw [if_neg h'] at h1
        simp only [List.length_cons] at h1
        rw [show gpL false (b :: r) = 0 by omega, List.drop_zero]
/-- Where a text is cut behind its gap, what is left is cut. -/
theorem gpB_take : ∀ (m : Bool) (l : List UInt8) (j : Nat), gpB m (l.take (gpL m l + j)) = (gpB m l).take j
  | true, [], j => by simp [gpB]
  | false, [], j => by simp [gpB]
  | true, b :: r, j => by
    have h1 := gpL_add true (b :: r)
    by_cases h : b = 10
    · have e : gpB true (b :: r) = gpB false r := by rw [gpB, if_pos h]
      rw [e] at h1 ⊢
      have := gpL_add false r
      simp only [List.length_cons] at h1
      rw [show gpL true (b :: r) + j = (gpL false r + j) + 1 by omega, List.take_succ_cons, gpB, if_pos h, gpB_take]
    · have e : gpB true (b :: r) = gpB true r := by rw [gpB, if_neg h]
      rw [e] at h1 ⊢
      have := gpL_add true r
      simp only [List.length_cons] at h1
      rw [show gpL true (b :: r) + j = (gpL true r + j) + 1 by omega, List.take_succ_cons, gpB, if_neg h, gpB_take]
  | false, b :: r, j => by
    have h1 := gpL_add false (b :: r)
    by_cases h : isWs b = true
    · have e : gpB false (b :: r) = gpB false r := by rw [gpB, if_pos h]
      rw [e] at h1 ⊢
      have := gpL_add false r
      simp only [List.length_cons] at h1
      rw [show gpL false (b :: r) + j = (gpL false r + j) + 1 by omega, List.take_succ_cons, gpB, if_pos h, gpB_take]
    · by_cases h' : b = 47 ∧ r.head? = some 47
      · have e : gpB false (b :: r) = gpB true r := by rw [gpB, if_neg h, if_pos h']
        rw [e] at h1 ⊢
        have h2 := gpL_add true r
        simp only [List.length_cons] at h1
        have h3 : 1 ≤ gpL true r := by
          obtain ⟨-, hr⟩ := h'
          cases r with
          | nil => cases hr
          | cons c r =>
            obtain rfl : c = 47 := by simpa using hr
            have h4 : gpB true (47 :: r) = gpB true r := by rw [gpB, if_neg (by decide)]
            have h5 := gpB_len true r
            rw [h4] at h2
            simp only [List.length_cons] at h2
            omega
        have h6 : (r.take (gpL true r + j)).head? = some 47 := by
          obtain ⟨-, hr⟩ := h'
          cases r with
          | nil => cases hr
          | cons c r => obtain ⟨i, hi⟩ : ∃ i, gpL true (c :: r) + j = i + 1 := ⟨gpL true (c :: r) + j - 1, by omega⟩; rw [hi, List.take_succ_cons]; exact hr
        rw [show gpL false (b :: r) + j = (gpL true r + j) + 1 by omega, List.take_succ_cons, gpB, if_neg h, if_pos ⟨h'.1, h6⟩, gpB_take]
      · have e : gpB false (b :: r) = b :: r := by rw [gpB, if_neg h, if_neg h']
        rw [e] at h1 ⊢
        rw [show gpL false (b :: r) + j = j by omega]
        cases j with
        | zero => simp [gpB]
        | succ j =>
          rw [List.take_succ_cons, gpB, if_neg h, if_neg]
          rintro ⟨h2, h3⟩
          refine h' ⟨h2, ?_⟩
          cases r with
          | nil => simp at h3
          | cons c r =>
            cases j with
            | zero => simp at h3
            | succ j => simpa using h3
/-- What stands between is a gap, and nothing but that. -/
theorem gp_whole (l : List UInt8) : gp (l.take (gpN l)) = [] := by
  have := gpB_take false l 0
  rw [Nat.add_zero, List.take_zero] at this
  exact this
theorem gp_take (l : List UInt8) (j : Nat) : gp (l.take (gpN l + j)) = (gp l).take j := gpB_take false l j
theorem gp_drop (l : List UInt8) : l.drop (gpN l) = gp l := gpB_drop false l
theorem gpN_le (l : List UInt8) : gpN l ≤ l.length := gpL_le false l
theorem gpN_add (l : List UInt8) : gpN l + (gp l).length = l.length := gpL_add false l
/-- What is left has no gap ahead. -/
theorem gpB_idem : ∀ (m : Bool) (l : List UInt8), gpB false (gpB m l) = gpB m l
  | true, [] => by simp [gpB]
  | false, [] => by simp [gpB]
  | true, b :: r => by
    by_cases h : b = 10
    · rw [gpB, if_pos h, gpB_idem]
    · rw [gpB, if_neg h, gpB_idem]
  | false, b :: r => by
    by_cases h : isWs b = true
    · rw [gpB, if_pos h, gpB_idem]
    · by_cases h' : b = 47 ∧ r.head? = some 47
      · rw [gpB, if_neg h, if_pos h', gpB_idem]
      · rw [gpB, if_neg h, if_neg h', gpB, if_neg h, if_neg h']
theorem gp_idem (l : List UInt8) : gp (gp l) = gp l := gpB_idem false l
theorem gp_nil : gp [] = [] := rfl

/-- How long a name or word is, that a text begins with. -/
def nmL : List UInt8 → Nat
  | [] => 0
  | b :: r => if isAl b then 1 + (r.takeWhile isAn).length else 0
/-- How many digits a text begins with; its point and digits; its exponent; its number. -/
def dgL (l : List UInt8) : Nat := (l.takeWhile isDig).length
def frL : List UInt8 → Nat
  | [] => 0
  | b :: r => if b = 46 ∧ dgL r ≠ 0 then 1 + dgL r else 0
def sgL : List UInt8 → Nat
  | [] => 0
  | b :: _ => if b = 43 ∨ b = 45 then 1 else 0
def exL : List UInt8 → Nat
  | [] => 0
  | b :: r => if (b = 101 ∨ b = 69) ∧ dgL (r.drop (sgL r)) ≠ 0 then 1 + sgL r + dgL (r.drop (sgL r)) else 0
theorem nmL_cons (b : UInt8) (r : List UInt8) : nmL (b :: r) = if isAl b then 1 + (r.takeWhile isAn).length else 0 := rfl
theorem frL_cons (b : UInt8) (r : List UInt8) : frL (b :: r) = if b = 46 ∧ dgL r ≠ 0 then 1 + dgL r else 0 := rfl
theorem sgL_cons (b : UInt8) (r : List UInt8) : sgL (b :: r) = if b = 43 ∨ b = 45 then 1 else 0 := rfl
theorem exL_cons (b : UInt8) (r : List UInt8) : exL (b :: r) = if (b = 101 ∨ b = 69) ∧ dgL (r.drop (sgL r)) ≠ 0 then 1 + sgL r + dgL (r.drop (sgL r)) else 0 := rfl
def nuA (l : List UInt8) : Nat := dgL l + frL (l.drop (dgL l))
def nuL (l : List UInt8) : Nat := if dgL l = 0 then 0 else nuA l + exL (l.drop (nuA l))
def nuF (l : List UInt8) : Bool := decide (dgL l < nuL l)
/-- How long a sign is. -/
def twoS : List (List UInt8) := [[61, 61], [33, 61], [60, 61], [62, 61], [38, 38], [124, 124], [46, 46]]
def oneS : List UInt8 := [40, 41, 91, 93, 123, 125, 44, 59, 58, 61, 60, 62, 43, 45, 42, 47, 33]
def si1 : List UInt8 → Nat
  | [] => 0
  | b :: _ => if oneS.contains b then 1 else 0
theorem si1_cons (b : UInt8) (r : List UInt8) : si1 (b :: r) = if oneS.contains b then 1 else 0 := rfl
def siL (l : List UInt8) : Nat := if twoS.contains (l.take 2) then 2 else si1 l

theorem tw_le (p : UInt8 → Bool) : ∀ l : List UInt8, (l.takeWhile p).length ≤ l.length
  | [] => by simp
  | b :: r => by
    have := tw_le p r
    rw [List.takeWhile_cons]
    split
    · simp only [List.length_cons]; omega
    · simp
theorem tw_take (p : UInt8 → Bool) : ∀ (l : List UInt8) (j : Nat), ((l.take j).takeWhile p).length = min j (l.takeWhile p).length
  | [], j => by simp
  | b :: r, 0 => by simp
  | b :: r, j + 1 => by
    rw [List.take_succ_cons, List.takeWhile_cons, List.takeWhile_cons]
    split
    · rw [List.length_cons, List.length_cons, tw_take p r j]; omega
    · simp
theorem dgL_le (l : List UInt8) : dgL l ≤ l.length := tw_le _ _
theorem dgL_take (l : List UInt8) (j : Nat) : dgL (l.take j) = min j (dgL l) := tw_take _ _ _
theorem frL_le : ∀ l : List UInt8, frL l ≤ l.length
  | [] => by simp [frL]
  | b :: r => by
    have := dgL_le r
    rw [frL_cons]
    split
    · simp only [List.length_cons]; omega
    · omega
theorem sgL_le (l : List UInt8) : sgL l ≤ 1 ∧ sgL l ≤ l.length := by
  cases l with
  | nil => simp [sgL]
  | cons b r => rw [sgL_cons, List.length_cons]; split <;> omega
theorem exL_le : ∀ l : List UInt8, exL l ≤ l.length
  | [] => by simp [exL]
  | b :: r => by
    have h1 := dgL_le (r.drop (sgL r))
    have h2 := sgL_le r
    rw [List.length_drop] at h1
    rw [exL_cons]
    split
    · simp only [List.length_cons]; omega
    · omega
theorem nuA_le (l : List UInt8) : nuA l ≤ l.length := by
  have h1 := dgL_le l
  have h2 := frL_le (l.drop (dgL l))
  rw [List.length_drop] at h2
  unfold nuA
  omega
theorem nuL_le (l : List UInt8) : nuL l ≤ l.length := by
  have h1 := nuA_le l
  have h2 := exL_le (l.drop (nuA l))
  rw [List.length_drop] at h2
  unfold nuL
  split <;> omega
theorem nmL_le : ∀ l : List UInt8, nmL l ≤ l.length
  | [] => by simp [nmL]
  | b :: r => by
    have := tw_le isAn r
    rw [nmL_cons]
    split
    · simp only [List.length_cons]; omega
    · omega
theorem siL_le (l : List UInt8) : siL l ≤ l.length ∧ siL l ≤ 2 := by
  unfold siL
  split
  · rename_i h
    have : (l.take 2).length = 2 := by
      have h' : l.take 2 ∈ twoS := List.contains_iff_mem.1 h
      revert h'
      generalize l.take 2 = x
      unfold twoS
      simp only [List.mem_cons, List.not_mem_nil, or_false]
      rintro (rfl | rfl | rfl | rfl | rfl | rfl | rfl) <;> rfl
    rw [List.length_take] at this
    omega
  · cases l with
    | nil => simp [si1]
    | cons b r => rw [si1_cons, List.length_cons]; split <;> omega

/-- Cut where a part ends, or behind that, the part is as it was. -/
theorem frL_take (l : List UInt8) (j : Nat) (h : frL l ≤ j) : frL (l.take j) = frL l := by
  cases l with
  | nil => simp
  | cons b r =>
    cases j with
    | zero => rw [List.take_zero]; exact (Nat.le_zero.1 h).symm
    | succ j =>
      rw [List.take_succ_cons]
      rw [frL_cons] at h; rw [frL_cons, frL_cons]
      rw [dgL_take]
      by_cases hb : b = 46
      · by_cases hd : dgL r = 0
        · rw [if_neg (by simp [hd]), if_neg (by simp [hd])]
        · rw [if_pos ⟨hb, hd⟩] at h
          rw [if_pos (c := b = 46 ∧ dgL r ≠ 0) ⟨hb, hd⟩, if_pos ⟨hb, by omega⟩]
          omega
      · rw [if_neg (by simp [hb]), if_neg (by simp [hb])]
theorem sgL_take (l : List UInt8) (j : Nat) : sgL (l.take j) = min j (sgL l) := by
  cases l with
  | nil => simp [sgL]
  | cons b r =>
    cases j with
    | zero => simp [sgL]
    | succ j => rw [List.take_succ_cons, sgL_cons, sgL_cons]; split <;> omega
theorem exL_take (l : List UInt8) (j : Nat) (h : exL l ≤ j) : exL (l.take j) = exL l := by
  cases l with
  | nil => simp
  | cons b r =>
    cases j with
    | zero => rw [List.take_zero]; exact (Nat.le_zero.1 h).symm
    | succ j =>
      have h2 := (sgL_le r).1
      rw [List.take_succ_cons]
      rw [exL_cons] at h; rw [exL_cons, exL_cons]
      rw [sgL_take, List.drop_take, dgL_take]
      by_cases hb : b = 101 ∨ b = 69
      · by_cases hd : dgL (r.drop (sgL r)) = 0
        · rw [if_neg (c := (b = 101 ∨ b = 69) ∧ dgL (r.drop (sgL r)) ≠ 0) (by simp [hd])]
          by_cases hj : j = 0
          · subst hj
            rw [if_neg (by simp)]
          · rw [if_neg]
            rintro ⟨-, h3⟩
            rw [show min j (sgL r) = sgL r by omega, hd] at h3
            omega
        · rw [if_pos ⟨hb, hd⟩] at h
          rw [if_pos (c := (b = 101 ∨ b = 69) ∧ dgL (r.drop (sgL r)) ≠ 0) ⟨hb, hd⟩, show min j (sgL r) = sgL r by omega, if_pos ⟨hb, by omega⟩]
          omega
      · rw [if_neg (by simp [hb]), if_neg (by simp [hb])]
theorem nuL_take (l : List UInt8) (j : Nat) (h : nuL l ≤ j) : nuL (l.take j) = nuL l ∧ (nuL l ≠ 0 → nuF (l.take j) = nuF l) := by
  have H : nuL (l.take j) = nuL l ∧ (nuL l ≠ 0 → dgL (l.take j) = dgL l) := by
    by_cases hd : dgL l = 0
    · have e1 : nuL l = 0 := by unfold nuL; rw [if_pos hd]
      refine ⟨?_, fun h => absurd e1 h⟩
      rw [e1]
      unfold nuL
      rw [if_pos (by rw [dgL_take]; omega)]
    · have e1 : nuL l = nuA l + exL (l.drop (nuA l)) := by unfold nuL; rw [if_neg hd]
      have e2 : dgL (l.take j) = dgL l := by
        rw [dgL_take]
        unfold nuA at e1
        omega
      have e3 : nuA (l.take j) = nuA l := by
        unfold nuA
        rw [e2, List.drop_take, frL_take]
        unfold nuA at e1
        omega
      refine ⟨?_, fun _ => e2⟩
      rw [e1]
      unfold nuL
      rw [if_neg (by omega), e3, List.drop_take, exL_take]
      omega
  refine ⟨H.1, fun h0 => ?_⟩
  unfold nuF
  rw [H.1, H.2 h0]
theorem nmL_take (l : List UInt8) (j : Nat) (h : nmL l ≤ j) : nmL (l.take j) = nmL l := by
  cases l with
  | nil => simp
  | cons b r =>
    cases j with
    | zero => rw [List.take_zero]; exact (Nat.le_zero.1 h).symm
    | succ j =>
      rw [List.take_succ_cons]
      rw [nmL_cons] at h; rw [nmL_cons, nmL_cons]
      by_cases hb : isAl b = true
      · rw [if_pos hb] at h ⊢
        rw [if_pos hb, tw_take]
        omega
      · rw [if_neg hb, if_neg hb]
theorem siL_take (l : List UInt8) (j : Nat) (h : siL l ≤ j) (h0 : siL l ≠ 0) : siL (l.take j) = siL l := by
  by_cases h2 : 2 ≤ j
  · unfold siL
    rw [List.take_take, Nat.min_eq_left h2]
    cases l with
    | nil => simp
    | cons b r => obtain ⟨i, rfl⟩ : ∃ i, j = i + 1 := ⟨j - 1, by omega⟩; rw [show (b :: r).take (i + 1) = b :: r.take i from rfl, si1_cons, si1_cons]
  · obtain rfl : j = 1 := by omega
    cases l with
    | nil => simp
    | cons b r =>
      have e1 : siL (b :: r) = 1 := by omega
      rw [e1]
      rw [List.take_succ_cons, List.take_zero]
      have hone : oneS.contains b = true := by
        unfold siL at e1
        split at e1
        · omega
        · rw [si1_cons] at e1
          split at e1
          · assumption
          · omega
      unfold siL
      rw [si1_cons, if_neg, if_pos hone]
      intro h3
      have h3' : [b] ∈ twoS := by simpa using h3
      unfold twoS at h3'
      simp at h3'

/-- Where a text goes on with a blank, its parts are as they were. -/
theorem tw_blank (p : UInt8 → Bool) {b : UInt8} (hb : p b = false) (y : List UInt8) : ∀ x : List UInt8, ((x ++ b :: y).takeWhile p).length = (x.takeWhile p).length
  | [] => by simp [hb]
  | c :: x => by
    rw [List.cons_append, List.takeWhile_cons, List.takeWhile_cons]
    split
    · rw [List.length_cons, List.length_cons, tw_blank p hb y x]
    · rfl
theorem dgL_blank {b : UInt8} (hb : isWs b = true) (x y : List UInt8) : dgL (x ++ b :: y) = dgL x := tw_blank _ (ws_not hb).2.1 y x
theorem frL_blank {b : UInt8} (hb : isWs b = true) (x y : List UInt8) : frL (x ++ b :: y) = frL x := by
  obtain ⟨h1, h2, h3, h4, h5, h6, h7, h8, h9⟩ := ws_not hb
  cases x with
  | nil => show frL (b :: y) = 0; rw [frL_cons]; rw [if_neg (by simp [h4])]
  | cons c x => rw [List.cons_append, frL_cons, frL_cons, dgL_blank hb]
theorem sgL_blank {b : UInt8} (hb : isWs b = true) (x y : List UInt8) : sgL (x ++ b :: y) = sgL x := by
  obtain ⟨h1, h2, h3, h4, h5, h6, h7, h8, h9⟩ := ws_not hb
  cases x with
  | nil => show sgL (b :: y) = 0; rw [sgL_cons]; rw [if_neg (by simp [h8, h9])]
  | cons c x => rfl
theorem drop_blank (x z : List UInt8) (n : Nat) (h : n ≤ x.length) : (x ++ z).drop n = x.drop n ++ z := by
  rw [List.drop_append_of_le_length h]
theorem exL_blank {b : UInt8} (hb : isWs b = true) (x y : List UInt8) : exL (x ++ b :: y) = exL x := by
  obtain ⟨h1, h2, h3, h4, h5, h6, h7, h8, h9⟩ := ws_not hb
  cases x with
  | nil => show exL (b :: y) = 0; rw [exL_cons]; rw [if_neg (by simp [h6, h7])]
  | cons c x =>
    rw [List.cons_append]
    rw [exL_cons, exL_cons, sgL_blank hb, drop_blank _ _ _ (sgL_le x).2, dgL_blank hb]
theorem nuA_blank {b : UInt8} (hb : isWs b = true) (x y : List UInt8) : nuA (x ++ b :: y) = nuA x := by
  unfold nuA
  rw [dgL_blank hb, drop_blank _ _ _ (dgL_le x), frL_blank hb]
theorem nuL_blank {b : UInt8} (hb : isWs b = true) (x y : List UInt8) : nuL (x ++ b :: y) = nuL x ∧ nuF (x ++ b :: y) = nuF x := by
  have e : nuL (x ++ b :: y) = nuL x := by
    unfold nuL
    rw [dgL_blank hb, nuA_blank hb, drop_blank _ _ _ (nuA_le x), exL_blank hb]
  refine ⟨e, ?_⟩
  unfold nuF
  rw [e, dgL_blank hb]
theorem nmL_blank {b : UInt8} (hb : isWs b = true) (x y : List UInt8) : nmL (x ++ b :: y) = nmL x := by
  obtain ⟨h1, h2, h3, h4, h5, h6, h7, h8, h9⟩ := ws_not hb
  cases x with
  | nil => show nmL (b :: y) = 0; rw [nmL_cons]; rw [if_neg (by simp [h1])]
  | cons c x => rw [List.cons_append, nmL_cons, nmL_cons, tw_blank _ h3]
theorem two_blank {b : UInt8} (hb : isWs b = true) (c : UInt8) : twoS.contains [c, b] = false := by
  rcases ws_cases hb with rfl | rfl | rfl | rfl <;> simp [twoS]
theorem siL_blank {b : UInt8} (hb : isWs b = true) (x y : List UInt8) : siL (x ++ b :: y) = siL x := by
  cases x with
  | nil =>
    show siL (b :: y) = 0
    unfold siL
    have e1 : oneS.contains b = false := by rcases ws_cases hb with rfl | rfl | rfl | rfl <;> decide
    rw [si1_cons, if_neg, if_neg (by simp only [e1]; decide)]
    rcases ws_cases hb with rfl | rfl | rfl | rfl <;> (cases y <;> simp [twoS])
  | cons c x =>
    cases x with
    | nil =>
      unfold siL
      have e1 : ([c] ++ b :: y).take 2 = [c, b] := by simp
      have e2 : twoS.contains ([c].take 2) = false := by simp [twoS]
      rw [e1, two_blank hb, e2]
      rfl
    | cons d x =>
      unfold siL
      rfl
end Go.Proofs.YtkhddadhkkffnaaGreatDoor
