/-
  Contracts of layer 4's greatest and least float. Conditions: at most 1000 floats, each a word.
-/
import Derived.Test.YtgjgcehoakacoaaGreatDoorMPa
import Derived.Test.YtgjgcehoakacoaaGreatDoorMR
namespace Go.Proofs.YtgjgcehoakacoaaGreatDoor
open Go.RowKit
set_option maxRecDepth 100000

theorem RdW.belowS {w w' : World} {A : Option Addr} {xs : List Int} (h : RdW w A xs) (hb : Below w.heap.size w w') : RdW w' A xs := by
  rcases h with h | ⟨g, off, ha, hg, hc⟩
  · exact .inl h
  · exact .inr ⟨g, off, ha, Nat.lt_of_lt_of_le hg hb.size, fun i x hi => (hb.cell hg).trans (hc i x hi)⟩
theorem RdW.at_ {w : World} {A : Option Addr} {xs : List Int} (h : RdW w A xs) {i : Nat} (hi : i < xs.length) : ∃ g off, A = some ⟨g, off, none⟩ ∧ g < w.heap.size ∧ w.cell? ⟨g, off + i, none⟩ = some (.int .u64 (xs.getD i 0)) := by
  rcases h with h | ⟨g, off, ha, hg, hc⟩
  · subst h; simp at hi
  · exact ⟨g, off, ha, hg, hc i _ (by rw [List.getD_eq_getElem?_getD, List.getElem?_eq_getElem hi]; rfl)⟩
/-- Floats, each a word. -/
def AllF (fs : List Int) : Prop := ∀ i, i < fs.length → Word (fs.getD i 0)
def anyN (fs : List Int) : Bool := (List.range fs.length).any fun i => decide (fC (fs.getD i 0) = 4)
theorem anyN_true {fs : List Int} {i : Nat} (hi : i < fs.length) (h : fC (fs.getD i 0) = 4) : anyN fs = true := by
  unfold anyN
  rw [List.any_eq_true]
  exact ⟨i, List.mem_range.2 hi, decide_eq_true h⟩
theorem anyN_false {fs : List Int} (h : ∀ i, i < fs.length → fC (fs.getD i 0) ≠ 4) : anyN fs = false := by
  unfold anyN
  rw [List.any_eq_false]
  intro i hi
  simp only [decide_eq_true_eq]
  exact h i (List.mem_range.1 hi)
theorem anyN_no {fs : List Int} (h : anyN fs = false) : ∀ i, i < fs.length → fC (fs.getD i 0) ≠ 4 := fun i hi k => by
  rw [anyN_true hi k] at h
  cases h

theorem fLt_key {a b : Int} (h1 : fC a ≠ 4) (h2 : fC b ≠ 4) : fLt a b = decide (fK a < fK b) := by
  obtain ⟨e1, e2⟩ := fOk_yes h1 h2
  unfold fLt
  rw [e1, e2, Bool.true_and]
  unfold cmpI
  by_cases h : fK a < fK b
  · rw [if_pos h, decide_eq_true h]; rfl
  · rw [if_neg h, decide_eq_false h]; split <;> rfl
theorem fLt_trans2 {a b c : Int} (h1 : fC a ≠ 4) (h2 : fC b ≠ 4) (h3 : fC c ≠ 4) (h : fLt a b = true) (k : fLt c b = false) : fLt c a = false := by
  rw [fLt_key h3 h1]
  rw [fLt_key h1 h2] at h
  rw [fLt_key h3 h2] at k
  simp at h k ⊢
  omega
theorem fLt_up {a b c : Int} (h1 : fC a ≠ 4) (h2 : fC b ≠ 4) (h3 : fC c ≠ 4) (h : fLt b a = true) (k : fLt b c = false) : fLt a c = false := by
  rw [fLt_key h1 h3]
  rw [fLt_key h2 h1] at h
  rw [fLt_key h2 h3] at k
  simp at h k ⊢
  omega
theorem fLt_self {a : Int} (h1 : fC a ≠ 4) : fLt a a = false := by
  rw [fLt_key h1 h1]
  simp
end Go.Proofs.YtgjgcehoakacoaaGreatDoor
