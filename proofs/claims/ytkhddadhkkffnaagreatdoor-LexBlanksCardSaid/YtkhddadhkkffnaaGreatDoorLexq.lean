/-
  Tokens one by one: where each lies, what stands between, which one is the last. No function of the program.
-/
import Derived.Test.YtkhddadhkkffnaaGreatDoorLxk
namespace Go.Proofs.YtkhddadhkkffnaaGreatDoor
open Go.RowKit Go.Maps
set_option maxRecDepth 100000

theorem tks_at : ∀ (ts : List Tk) (i : Nat) (t : Tk), ts[i]? = some t → ∀ (j : Nat) (u : Value), (tkCs t)[j]? = some u → (tksC ts)[i * 5 + j]? = some u
  | [], i, t, h, _, _, _ => by simp at h
  | t0 :: ts, 0, t, h, j, u, hj => by
    obtain rfl : t0 = t := by simpa using h
    have : j < (tkCs t0).length := (List.getElem?_eq_some_iff.1 hj).1
    show (tkCs t0 ++ tksC ts)[0 * 5 + j]? = _
    rw [Nat.zero_mul, Nat.zero_add, List.getElem?_append_left this]
    exact hj
  | t0 :: ts, i + 1, t, h, j, u, hj => by
    show (tkCs t0 ++ tksC ts)[(i + 1) * 5 + j]? = _
    have l5 : (tkCs t0).length = 5 := rfl
    rw [List.getElem?_append_right (by omega), l5, show (i + 1) * 5 + j - 5 = i * 5 + j by omega]
    exact tks_at ts i t (by simpa using h) j u hj
/-- A token's five cells. -/
theorem TkR.tok {w : World} {g : Nat} {ts : List Tk} (h : TkR w g ts) {i : Nat} {t : Tk} (hi : ts[i]? = some t) :
    w.cell? ⟨g, i * 5, none⟩ = some (.int .u8 t.kd) ∧ w.cell? ⟨g, i * 5 + 1, none⟩ = some (.int .i64 t.ps) ∧ w.cell? ⟨g, i * 5 + 2, none⟩ = some (.string ⟨t.tx.toArray⟩) ∧
    w.cell? ⟨g, i * 5 + 3, none⟩ = some (.int .i32 t.nn) ∧ w.cell? ⟨g, i * 5 + 4, none⟩ = some (.int .u64 t.ff) :=
  ⟨h.2 _ _ (tks_at ts i t hi 0 _ rfl), h.2 _ _ (tks_at ts i t hi 1 _ rfl), h.2 _ _ (tks_at ts i t hi 2 _ rfl), h.2 _ _ (tks_at ts i t hi 3 _ rfl), h.2 _ _ (tks_at ts i t hi 4 _ rfl)⟩
/-- The last token is the end, and stands at the text's end. -/
theorem run_last {l : List UInt8} {a : Nat} {ts : List Tk} (h : Run l a ts) : ts[ts.length - 1]? = some (enT (a + l.length)) := by
  induction h with
  | fin a => rfl
  | tok l a ts h0 h1 r ih =>
    have hn := run_ne r
    have hg := gpN_add (l.drop (fiN l))
    have hl := fiN_le l
    rw [List.length_drop] at hg
    rw [show a + fiN l + gpN (l.drop (fiN l)) + (gp (l.drop (fiN l))).length = a + l.length by omega] at ih
    have : 1 ≤ ts.length := by
      cases ts with
      | nil => exact absurd rfl hn
      | cons t ts => simp
    rw [List.length_cons, show ts.length + 1 - 1 = (ts.length - 1) + 1 by omega, List.getElem?_cons_succ]
    exact ih
theorem run_head {l : List UInt8} {a : Nat} {ts : List Tk} (h : Run l a ts) : (l ≠ [] → fiE l = 0) ∧ ∃ t, ts[0]? = some t ∧ t.ps = (a : Int) := by
  cases h with
  | fin a => exact ⟨fun h => absurd rfl h, _, rfl, rfl⟩
  | tok l a ts h0 h1 r => exact ⟨fun _ => h1, _, rfl, fiT_ps _ _⟩
/-- Where the walk over tokens stands: behind i tokens, the last of which ended at e. -/
def At9 (S : List UInt8) (ts : List Tk) (i e : Nat) : Prop :=
  i = ts.length ∨ ∃ l a, i < ts.length ∧ Run l a (ts.drop i) ∧ S.drop a = l ∧ a ≤ S.length ∧ e ≤ a ∧ gp ((S.drop e).take (a - e)) = []
theorem at9_start {S : List UInt8} {ts : List Tk} (h : Run (gp S) (gpN S) ts) : At9 S ts 0 0 := by
  have hn := run_ne h
  refine .inr ⟨gp S, gpN S, ?_, h, gp_drop S, gpN_le S, Nat.zero_le _, ?_⟩
  · cases ts with
    | nil => exact absurd rfl hn
    | cons t ts => simp
  · rw [List.drop_zero, Nat.sub_zero]
    exact gp_whole S
/-- What the next token is: the end, or a token of the text, behind which the next one stands. -/
theorem at9_next {S : List UInt8} {ts : List Tk} {i e : Nat} (h : At9 S ts i e) (hi : i < ts.length) : ∃ l a, S.drop a = l ∧ a ≤ S.length ∧ e ≤ a ∧ gp ((S.drop e).take (a - e)) = [] ∧
    ((ts[i]? = some (enT a) ∧ i + 1 = ts.length ∧ a = S.length) ∨
     (ts[i]? = some (fiT l a) ∧ i + 1 < ts.length ∧ l ≠ [] ∧ fiE l = 0 ∧ At9 S ts (i + 1) (a + fiN l) ∧ (gp (l.drop (fiN l)) ≠ [] → fiE (gp (l.drop (fiN l))) = 0) ∧ ∃ t, ts[i + 1]? = some t ∧ t.ps = ((a + fiN l + gpN (l.drop (fiN l)) : Nat) : Int))) := by
  rcases h with h | ⟨l, a, -, r, hS, ha, he, hg⟩
  · omega
  · refine ⟨l, a, hS, ha, he, hg, ?_⟩
    have hd : ∀ j, (ts.drop i)[j]? = ts[i + j]? := fun j => List.getElem?_drop
    have dl : (ts.drop i).length = ts.length - i := List.length_drop
    generalize hr : ts.drop i = rs at *
    cases r with
    | fin a =>
      refine .inl ⟨by rw [← Nat.add_zero i, ← hd 0]; rfl, by simp at dl; omega, ?_⟩
      have := congrArg List.length hS
      rw [List.length_drop, List.length_nil] at this
      omega
    | tok l a us h0 h1 r' =>
      have hn := run_ne r'
      have ln : 1 ≤ us.length := by
        cases us with
        | nil => exact absurd rfl hn
        | cons t ts => simp
      rw [List.length_cons] at dl
      have hus : ts.drop (i + 1) = us := by rw [← List.drop_drop, hr]; rfl
      have hfl := fiN_le l
      have hgl := gpN_add (l.drop (fiN l))
      rw [List.length_drop] at hgl
      have hSl : l.length = S.length - a := by rw [← hS, List.length_drop]
      have hlp : 1 ≤ l.length := by
        cases l with
        | nil => exact absurd rfl h0
        | cons b r => simp
      refine .inr ⟨by rw [← Nat.add_zero i, ← hd 0]; rfl, by omega, h0, h1, .inr ⟨gp (l.drop (fiN l)), a + fiN l + gpN (l.drop (fiN l)), by omega, by rw [hus]; exact r', ?_, by omega, by omega, ?_⟩, ?_, ?_⟩
      · rw [drop_gp S (a + fiN l) _ (drop_gp S a _ hS)]
        exact gp_drop _
      · rw [drop_gp S a _ hS, show a + fiN l + gpN (l.drop (fiN l)) - (a + fiN l) = gpN (l.drop (fiN l)) by omega]
        exact gp_whole _
      · exact (run_head r').1
      · have hu : ts[i + 1]? = us[0]? := by rw [← hus, List.getElem?_drop]
        rw [hu]
        exact (run_head r').2
theorem mid_str (s : ByteArray) (e a : Nat) : (s.extract e a).data.toList = (s.data.toList.drop e).take (a - e) := by
  have := Lib.extract_toList s e a
  rw [Lib.toList_data] at this
  exact this
end Go.Proofs.YtkhddadhkkffnaaGreatDoor
