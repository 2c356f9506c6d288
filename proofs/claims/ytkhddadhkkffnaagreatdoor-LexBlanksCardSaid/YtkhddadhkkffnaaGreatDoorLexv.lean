/-
  The tokens of a text, as a function of its bytes; what stays the same where the text is cut ahead of a token, or written anew with blanks between. No function of the program.
-/
import Derived.Test.YtkhddadhkkffnaaGreatDoorMath9
import Derived.Test.YtkhddadhkkffnaaGreatDoorMXa
namespace Go.Proofs.YtkhddadhkkffnaaGreatDoor
open Go.RowKit
set_option maxRecDepth 100000

/-- The words that are no names. -/
def kwS : List (List UInt8) := [[116, 105, 99, 107, 115], [105, 110, 112, 117, 116], [118, 97, 114], [105, 110, 105, 116], [115, 116, 101, 112], [105, 102], [101, 108, 115, 101], [102, 111, 114], [116, 114, 117, 101], [102, 97, 108, 115, 101], [105, 110, 116], [102, 108, 111, 97, 116], [98, 111, 111, 108], [97, 98, 115], [105, 110]]
/-- A token: its kind, its place, its text, its integer, its float. -/
structure Tk where
  kd : Int
  ps : Int
  tx : List UInt8
  nn : Int
  ff : Int
def noT : Tk := ⟨0, 0, [], 0, 0⟩
/-- Of a text that begins with a token: what is wrong with that, how long it is, and the token. -/
def fiE (l : List UInt8) : Int :=
  if nmL l ≠ 0 then (if 32 < nmL l then 91 else 0)
  else if nuL l ≠ 0 then (if 400 < nuL l then 91 else if nuF l then (if psE (l.take (nuL l)) = 0 then 0 else 93) else if dval (l.take (nuL l)) ≤ 2147483647 then 0 else 92)
  else if siL l ≠ 0 then 0 else 90
def fiN (l : List UInt8) : Nat := if nmL l ≠ 0 then nmL l else if nuL l ≠ 0 then nuL l else siL l
def fiT (l : List UInt8) (a : Int) : Tk :=
  if nmL l ≠ 0 then ⟨if kwS.contains (l.take (nmL l)) then 4 else 1, a, l.take (nmL l), 0, 0⟩
  else if nuL l ≠ 0 then (if nuF l then ⟨3, a, [], 0, psF (l.take (nuL l))⟩ else ⟨2, a, [], dval (l.take (nuL l)), 0⟩)
  else ⟨5, a, l.take (siL l), 0, 0⟩
theorem fiN_le (l : List UInt8) : fiN l ≤ l.length := by
  have h1 := nmL_le l
  have h2 := nuL_le l
  have h3 := (siL_le l).1
  unfold fiN
  split
  · omega
  · split <;> omega
theorem fiN_pos {l : List UInt8} (h : fiE l = 0) : 1 ≤ fiN l := by
  unfold fiE at h
  unfold fiN
  by_cases h1 : nmL l = 0
  · rw [if_neg (by omega)] at h ⊢
    by_cases h2 : nuL l = 0
    · rw [if_neg (by omega)] at h ⊢
      by_cases h3 : siL l = 0
      · rw [if_neg (by omega)] at h; omega
      · omega
    · rw [if_pos h2]; omega
  · rw [if_pos h1]; omega
/-- Cut behind its first token, a text begins with that token all the same. -/
theorem fi_take {l : List UInt8} {j : Nat} (h : fiE l = 0) (hj : fiN l ≤ j) : fiE (l.take j) = 0 ∧ fiN (l.take j) = fiN l ∧ ∀ a, fiT (l.take j) a = fiT l a := by
  have tt : ∀ n, n ≤ j → (l.take j).take n = l.take n := fun n hn => by rw [List.take_take, Nat.min_eq_left hn]
  by_cases h1 : nmL l = 0
  · have e1 : nmL (l.take j) = 0 := by rw [nmL_take l j (by omega), h1]
    by_cases h2 : nuL l = 0
    · have e2 : nuL (l.take j) = 0 := by rw [(nuL_take l j (by omega)).1, h2]
      have h3 : siL l ≠ 0 := fun h3 => by
        unfold fiE at h
        rw [if_neg (by omega), if_neg (by omega), if_neg (by omega)] at h
        omega
      have n3 : fiN l = siL l := by unfold fiN; rw [if_neg (by omega), if_neg (by omega)]
      have e3 : siL (l.take j) = siL l := siL_take l j (by omega) h3
      refine ⟨?_, ?_, fun a => ?_⟩
      · unfold fiE
        rw [e1, e2, e3, if_neg (by omega), if_neg (by omega), if_pos h3]
      · unfold fiN
        rw [e1, e2, e3, h1, h2]
      · unfold fiT
        simp [e1, e2, e3, h1, h2, tt (siL l) (by omega)]
    · have n3 : fiN l = nuL l := by unfold fiN; rw [if_neg (by omega), if_pos h2]
      obtain ⟨e2, e3⟩ := nuL_take l j (by omega)
      have e3 := e3 h2
      refine ⟨?_, ?_, fun a => ?_⟩
      · unfold fiE at h ⊢
        simpa [h1, h2, e1, e2, e3, tt (nuL l) (by omega)] using h
      · unfold fiN
        simp [e1, e2, h1, h2]
      · unfold fiT
        simp [e1, e2, e3, h1, h2, tt (nuL l) (by omega)]
  · have n3 : fiN l = nmL l := by unfold fiN; rw [if_pos h1]
    have e1 : nmL (l.take j) = nmL l := nmL_take l j (by omega)
    refine ⟨?_, ?_, fun a => ?_⟩
    · unfold fiE at h ⊢
      rw [if_pos h1] at h
      rw [e1, if_pos h1]
      exact h
    · unfold fiN
      rw [e1, if_pos h1, if_pos h1]
    · unfold fiT
      rw [e1, if_pos h1, if_pos h1, tt _ (by omega)]
/-- Where a text goes on with a blank, it begins with the same token. -/
theorem fi_blank {b : UInt8} (hb : isWs b = true) (x y : List UInt8) : fiE (x ++ b :: y) = fiE x ∧ fiN (x ++ b :: y) = fiN x ∧ ∀ a, fiT (x ++ b :: y) a = fiT x a := by
  have e1 := nmL_blank hb x y
  obtain ⟨e2, e3⟩ := nuL_blank hb x y
  have e4 := siL_blank hb x y
  have t1 : (x ++ b :: y).take (nmL x) = x.take (nmL x) := by rw [List.take_append_of_le_length (nmL_le x)]
  have t2 : (x ++ b :: y).take (nuL x) = x.take (nuL x) := by rw [List.take_append_of_le_length (nuL_le x)]
  have t3 : (x ++ b :: y).take (siL x) = x.take (siL x) := by rw [List.take_append_of_le_length (siL_le x).1]
  refine ⟨?_, ?_, fun a => ?_⟩
  · unfold fiE
    rw [e1, e2, e3, e4, t2]
  · unfold fiN
    rw [e1, e2, e4]
  · unfold fiT
    rw [e1, e2, e3, e4, t1, t2, t3]

/-- The tokens of what stands from a place on, where no gap is ahead. -/
def enT (a : Nat) : Tk := ⟨0, a, [], 0, 0⟩
def lxF : Nat → List UInt8 → Nat → List Tk × Int × Nat
  | 0, _, a => ([], 90, a)
  | k + 1, l, a =>
    if l = [] then ([enT a], 0, 0)
    else if fiE l ≠ 0 then ([], fiE l, a)
    else
      let r := lxF k (gp (l.drop (fiN l))) (a + fiN l + gpN (l.drop (fiN l)))
      if r.2.1 ≠ 0 then ([], r.2) else (fiT l a :: r.1, r.2)
def lexV (l : List UInt8) : List Tk × Int × Nat := if 16384 < l.length then ([], 91, 0) else lxF (l.length + 1) (gp l) (gpN l)
theorem lxF_nil (k a : Nat) : lxF (k + 1) [] a = ([enT a], 0, 0) := rfl
theorem lxF_err (k a : Nat) {l : List UInt8} (h0 : l ≠ []) (h : fiE l ≠ 0) : lxF (k + 1) l a = ([], fiE l, a) := by rw [lxF, if_neg h0, if_pos h]
theorem lxF_tok (k a : Nat) {l : List UInt8} (h0 : l ≠ []) (h : fiE l = 0) : lxF (k + 1) l a = (let r := lxF k (gp (l.drop (fiN l))) (a + fiN l + gpN (l.drop (fiN l))); if r.2.1 ≠ 0 then ([], r.2) else (fiT l a :: r.1, r.2)) := by rw [lxF, if_neg h0, if_neg (by omega)]
theorem rest_len {l : List UInt8} (h : fiE l = 0) : (gp (l.drop (fiN l))).length < l.length := by
  have h1 := fiN_pos h
  have h2 := fiN_le l
  have h3 := gpN_add (l.drop (fiN l))
  rw [List.length_drop] at h3
  omega
/-- How many steps are laid by does not matter. -/
theorem lxF_fuel : ∀ (k k' : Nat) (l : List UInt8) (a : Nat), l.length < k → l.length < k' → lxF k l a = lxF k' l a
  | 0, _, _, _, h, _ => by omega
  | _ + 1, 0, _, _, _, h => by omega
  | k + 1, k' + 1, l, a, h, h' => by
    by_cases h0 : l = []
    · subst h0; rfl
    · by_cases h1 : fiE l = 0
      · have := rest_len h1
        rw [lxF_tok k a h0 h1, lxF_tok k' a h0 h1, lxF_fuel k k' _ _ (by omega) (by omega)]
      · rw [lxF_err k a h0 h1, lxF_err k' a h0 h1]
/-- Tokens without an error: one by one. -/
inductive Run : List UInt8 → Nat → List Tk → Prop where
  | fin (a : Nat) : Run [] a [enT a]
  | tok (l : List UInt8) (a : Nat) (ts : List Tk) (h0 : l ≠ []) (h : fiE l = 0) (r : Run (gp (l.drop (fiN l))) (a + fiN l + gpN (l.drop (fiN l))) ts) : Run l a (fiT l a :: ts)
theorem run_of : ∀ (k : Nat) (l : List UInt8) (a : Nat), l.length < k → (lxF k l a).2.1 = 0 → Run l a (lxF k l a).1 ∧ (lxF k l a).2.2 = 0
  | 0, _, _, h, _ => by omega
  | k + 1, l, a, h, e => by
    by_cases h0 : l = []
    · subst h0
      exact ⟨.fin a, rfl⟩
    · by_cases h1 : fiE l = 0
      · have := rest_len h1
        have ih := run_of k (gp (l.drop (fiN l))) (a + fiN l + gpN (l.drop (fiN l))) (by omega)
        rw [lxF_tok k a h0 h1] at e ⊢
        dsimp only at e ⊢
        by_cases h2 : (lxF k (gp (l.drop (fiN l))) (a + fiN l + gpN (l.drop (fiN l)))).2.1 = 0
        · rw [if_neg (by omega)] at e ⊢
          exact ⟨.tok l a _ h0 h1 (ih h2).1, (ih h2).2⟩
        · rw [if_pos h2] at e
          exact absurd e h2
      · rw [lxF_err k a h0 h1] at e
        exact absurd e h1
theorem of_run {l : List UInt8} {a : Nat} {ts : List Tk} (h : Run l a ts) : ∀ k, l.length < k → lxF k l a = (ts, 0, 0) := by
  induction h with
  | fin a =>
    intro k hk
    obtain ⟨k, rfl⟩ : ∃ i, k = i + 1 := ⟨k - 1, by simp at hk; omega⟩
    rfl
  | tok l a ts h0 h1 r ih =>
    intro k hk
    obtain ⟨k, rfl⟩ : ∃ i, k = i + 1 := ⟨k - 1, by omega⟩
    have := rest_len h1
    rw [lxF_tok k a h0 h1, ih k (by omega)]
    rfl
theorem gpN_take (l : List UInt8) (j : Nat) : gpN (l.take (gpN l + j)) = gpN l := by
  have h1 := gpN_add (l.take (gpN l + j))
  have h2 := gpN_add l
  rw [gp_take, List.length_take, List.length_take] at h1
  omega
/-- An error is at a byte, and what stands ahead of it has none. -/
theorem err_cut : ∀ (k : Nat) (l : List UInt8) (a : Nat), l.length < k → (lxF k l a).2.1 ≠ 0 → (lxF k l a).1 = [] ∧ ∃ j, (lxF k l a).2.2 = a + j ∧ j < l.length ∧ ∃ ts, Run (l.take j) a ts
  | 0, _, _, h, _ => by omega
  | k + 1, l, a, h, e => by
    by_cases h0 : l = []
    · subst h0
      exact absurd rfl e
    · by_cases h1 : fiE l = 0
      · have hl := rest_len h1
        have hn := fiN_le l
        have hp := fiN_pos h1
        have hg := gpN_add (l.drop (fiN l))
        rw [List.length_drop] at hg
        have ih := err_cut k (gp (l.drop (fiN l))) (a + fiN l + gpN (l.drop (fiN l))) (by omega)
        rw [lxF_tok k a h0 h1] at e ⊢
        dsimp only at e ⊢
        by_cases h2 : (lxF k (gp (l.drop (fiN l))) (a + fiN l + gpN (l.drop (fiN l)))).2.1 = 0
        · rw [if_neg (by omega)] at e
          exact absurd h2 e
        · obtain ⟨-, j, e1, e2, ts, r⟩ := ih h2
          rw [if_pos h2]
          have e3 : fiN l + gpN (l.drop (fiN l)) + j < l.length := by clear e e1 h2 ih; omega
          refine ⟨rfl, fiN l + gpN (l.drop (fiN l)) + j, e1.trans (by clear e e1 h2 ih e3; omega), e3, fiT l a :: ts, ?_⟩
          have hj : fiN l ≤ fiN l + gpN (l.drop (fiN l)) + j := by omega
          obtain ⟨f1, f2, f3⟩ := fi_take h1 hj
          have hd : (l.take (fiN l + gpN (l.drop (fiN l)) + j)).drop (fiN l) = (l.drop (fiN l)).take (gpN (l.drop (fiN l)) + j) := by
            rw [List.drop_take, show fiN l + gpN (l.drop (fiN l)) + j - fiN l = gpN (l.drop (fiN l)) + j by omega]
          rw [← f3 a]
          refine .tok _ a ts ?_ f1 ?_
          · intro h3
            have := congrArg List.length h3
            rw [List.length_take, List.length_nil] at this
            omega
          · rw [f2, hd, gp_take, gpN_take]
            exact r
      · rw [lxF_err k a h0 h1]
        refine ⟨rfl, 0, rfl, ?_, [enT a], by rw [List.take_zero]; exact .fin a⟩
        cases l with
        | nil => exact absurd rfl h0
        | cons b r => simp
theorem lexV_bad {s : List UInt8} (hs : s.length ≤ 16384) (h : (lexV s).2.1 ≠ 0) : (lexV s).1 = [] ∧ (lexV s).2.2 < s.length ∧ ∃ ts, lexV (s.take (lexV s).2.2) = (ts, 0, 0) := by
  have e : lexV s = lxF (s.length + 1) (gp s) (gpN s) := by unfold lexV; rw [if_neg (by omega)]
  have hg := gpN_add s
  rw [e] at h ⊢
  obtain ⟨h1, j, h2, h3, ts, h4⟩ := err_cut (s.length + 1) (gp s) (gpN s) (by omega) h
  refine ⟨h1, by omega, ts, ?_⟩
  rw [h2]
  unfold lexV
  rw [if_neg (by rw [List.length_take]; omega), gp_take, gpN_take]
  exact of_run h4 _ (by rw [List.length_take, List.length_take]; omega)
theorem lexV_good {s : List UInt8} (hs : s.length ≤ 16384) (h : (lexV s).2.1 = 0) : Run (gp s) (gpN s) (lexV s).1 ∧ (lexV s).2.2 = 0 := by
  have e : lexV s = lxF (s.length + 1) (gp s) (gpN s) := by unfold lexV; rw [if_neg (by omega)]
  have hg := gpN_add s
  rw [e] at h ⊢
  exact run_of _ _ _ (by omega) h
theorem lexV_run {s : List UInt8} {ts : List Tk} (hs : s.length ≤ 16384) (h : Run (gp s) (gpN s) ts) : lexV s = (ts, 0, 0) := by
  have hg := gpN_add s
  unfold lexV
  rw [if_neg (by omega)]
  exact of_run h _ (by omega)
/-- A gap has no token but its end. -/
theorem lexV_gap {s : List UInt8} (hs : s.length ≤ 16384) (h : gp s = []) : lexV s = ([enT s.length], 0, 0) := by
  have hg := gpN_add s
  rw [h, List.length_nil] at hg
  refine lexV_run hs ?_
  rw [h, show gpN s = s.length by omega]
  exact .fin _
theorem run_ne {l : List UInt8} {a : Nat} {ts : List Tk} (h : Run l a ts) : ts ≠ [] := by cases h <;> simp
theorem run_len {l : List UInt8} {a : Nat} {ts : List Tk} (h : Run l a ts) : ts.length ≤ l.length + 1 := by
  induction h with
  | fin a => simp
  | tok l a ts h0 h1 r ih =>
    have := rest_len h1
    simp only [List.length_cons]
    omega
theorem fiT_ps (l : List UInt8) (a : Int) : (fiT l a).ps = a := by
  unfold fiT
  split
  · rfl
  · split
    · split <;> rfl
    · rfl
/-- A token's text is what stands there; a number has none. -/
theorem fiT_text (l : List UInt8) (a : Int) : (nuL l ≠ 0 ∧ nmL l = 0 ∧ (fiT l a).tx = [] ∧ fiN l = nuL l ∧ ((fiT l a).kd = 3 ∧ nuF l = true ∨ (fiT l a).kd = 2 ∧ nuF l = false)) ∨
    ((fiT l a).tx = l.take (fiN l) ∧ ((fiT l a).kd = 1 ∨ (fiT l a).kd = 4 ∨ (fiT l a).kd = 5)) := by
  unfold fiT fiN
  by_cases h1 : nmL l = 0
  · by_cases h2 : nuL l = 0
    · exact .inr (by simp [h1, h2])
    · refine .inl ⟨h2, h1, ?_⟩
      cases hf : nuF l <;> simp [h1, h2]
  · refine .inr ?_
    by_cases hk : l.take (nmL l) ∈ kwS <;> simp [h1, hk]
end Go.Proofs.YtkhddadhkkffnaaGreatDoor
