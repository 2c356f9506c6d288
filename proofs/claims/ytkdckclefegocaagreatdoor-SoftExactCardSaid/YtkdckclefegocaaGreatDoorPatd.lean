/-
  Contracts of layer 4's greatest and least float. Conditions: at most 1000 floats, each a word.
-/
import Derived.Test.YtkdckclefegocaaGreatDoorMPa
import Derived.Test.YtkdckclefegocaaGreatDoorMR
namespace Go.Proofs.YtkdckclefegocaaGreatDoor
open Go.RowKit
set_option maxRecDepth 100000

theorem RdW.belowS {w w' : World} {A : Option Addr} {xs : List Int} (h : RdW w A xs) (hb : Below w.heap.size w w') : RdW w' A xs := by
  rcases h with h | ⟨g, off, ha, hg, hc⟩
  · exact .inl h
  · exact .inr ⟨g, off, ha, Nat.lt_of_lt_of_le hg hb.size, fun i x hi => (hb.cell hg).trans (hc i x hi)⟩
theorem RdW.at_ {w : World} {A : Option Addr} {xs : List Int} (h : RdW w A xs) {i : Nat} (hi : i < xs.length) : ∃ g off, A = some ⟨g, off, none⟩ ∧ g < w.heap.size ∧ w.cell? ⟨g, off + i, none⟩ = some (.int .u64 (xs.getD i 0)) := by
  rcases h with h | ⟨g, off, ha, hg, hc⟩
  · subst h; simp at hi
  · exact ⟨g, off, ha, hg, hc i _ (by rw [List.getD_eq_getElem?_getD, List.getElem?_eq_getElem hi]; rfl)⟩
/-- Floats, each a word. -/
def AllF (fs : List Int) : Prop := ∀ i, i < fs.length → Word (fs.getD i 0)
def anyN (fs : List Int) : Bool := (List.range fs.length).any fun i => decide (fC (fs.getD i 0) = 4)
theorem anyN_true {fs : List Int} {i : Nat} (hi : i < fs.length) (h : fC (fs.getD i 0) = 4) : anyN fs = true := by
  unfold anyN
  rw [List.any_eq_true]
  exact ⟨i, List.mem_range.2 hi, decide_eq_true h⟩
theorem anyN_false {fs : List Int} (h : ∀ i, i < fs.length → fC (fs.getD i 0) ≠ 4) : anyN fs = false := by
  unfold anyN
  rw [List.any_eq_false]
  intro i hi
  simp only [decide_eq_true_eq]
  exact h i (List.mem_range.1 hi)
theorem anyN_no {fs : List Int} (h : anyN fs = false) : ∀ i, i < fs.length → fC (fs.getD i 0) ≠ 4 := fun i hi k => by
  rw [anyN_true hi k] at h
  cases h

set_option maxHeartbeats 2000000 in
theorem index_any (A : Option Addr) (n c : Nat) (fs : List Int) (w : World) (hn : fs.length = n) (hr : RdW w A fs) (hf : AllF fs) (h2 : n ≤ 1000) :
    Calls Tryz.prog 88 #[.slice A n c, .func (.func 46) #[] #[]] w fun e w' => (∃ r : Int, e = .returned (.int .i64 r) ∧ decide (0 ≤ r) = anyN fs) ∧ Below w.heap.size w w' := by
  have HN := Lib.hid hn
  clear hn
  go_enter Tryz.func88, Tryz.ntmps88
  go_wp2_with fail
  go_loopw [8] (fun s8 wr => ∃ i : Nat, s8 = .int .i64 (i : Int) ∧ i ≤ n ∧ Hid (∀ j, j < i → fC (fs.getD j 0) ≠ 4) ∧ Hid (Below w.heap.size w wr)) (fun s8 _ => n - (intOf s8).toNat)
  case atStart => exact ⟨0, rfl, Nat.zero_le _, fun j hj => by omega, Below.refl _ _⟩
  case round =>
    obtain ⟨i, rfl, hi, H, HB⟩ := hrel
    by_cases hlt : i < n
    · obtain ⟨g, off, rfl, hg, hc1⟩ := (hr.belowS HB.out).at_ (i := i) (by rw [HN.out]; exact hlt)
      have hx := hf i (by rw [HN.out]; exact hlt)
      have hl1 : (i : Int) < (n : Int) := by omega
      by_cases h4 : fC (fs.getD i 0) = 4
      · have F : Hid (true = anyN fs) := (anyN_true (by rw [HN.out]; exact hlt) h4).symm
        generalize fs.getD i 0 = x at *
        clear H
        go_wp2_with fail
        refine (isNaN_any x hx _).mono ?_
        rw [decide_eq_true h4]
        rintro e w1 ⟨rfl, rfl⟩
        go_wp2_with fail
        go_ret
        exact ⟨⟨i, rfl, by rw [← F.out]; exact decide_eq_true (by omega)⟩, by first | exact HB.out | exact bel_drewN HB.out _⟩
      · have H2 : Hid (∀ j, j < i + 1 → fC (fs.getD j 0) ≠ 4) := fun j hj => by
          rcases Nat.lt_or_ge j i with h | h
          · exact H.out j h
          · obtain rfl : j = i := by omega
            exact h4
        generalize fs.getD i 0 = x at *
        clear H
        go_wp2_with fail
        refine (isNaN_any x hx _).mono ?_
        rw [decide_eq_false h4]
        rintro e w1 ⟨rfl, rfl⟩
        go_wp2_with fail
        go_roundw
        case rel => exact ⟨i + 1, by go_num, by omega, H2, by first | exact HB.out | exact bel_drewN HB.out _⟩
        case measure => simp [intOf]; omega
    · obtain rfl : i = n := by omega
      have F : Hid (false = anyN fs) := (anyN_false fun j hj => H.out j (by rw [← HN.out]; exact hj)).symm
      go_wp2_with fail
      go_ret
      exact ⟨⟨-1, rfl, by rw [← F.out]; rfl⟩, HB.out⟩
theorem contains_any (A : Option Addr) (n c : Nat) (fs : List Int) (w : World) (hn : fs.length = n) (hr : RdW w A fs) (hf : AllF fs) (h2 : n ≤ 1000) :
    Calls Tryz.prog 53 #[.slice A n c, .func (.func 46) #[] #[]] w fun e w' => e = .returned (.bool (anyN fs)) ∧ Below w.heap.size w w' := by
  go_enter Tryz.func53, Tryz.ntmps53
  go_wp2_with fail
  refine (index_any A n c fs _ hn hr hf h2).mono ?_
  rintro e w1 ⟨⟨r, rfl, hr⟩, hb⟩
  go_wp2_with fail
  go_ret
  exact ⟨rfl, hb⟩

theorem fLt_key {a b : Int} (h1 : fC a ≠ 4) (h2 : fC b ≠ 4) : fLt a b = decide (fK a < fK b) := by
  obtain ⟨e1, e2⟩ := fOk_yes h1 h2
  unfold fLt
  rw [e1, e2, Bool.true_and]
  unfold cmpI
  by_cases h : fK a < fK b
  · rw [if_pos h, decide_eq_true h]; rfl
  · rw [if_neg h, decide_eq_false h]; split <;> rfl
theorem fLt_trans2 {a b c : Int} (h1 : fC a ≠ 4) (h2 : fC b ≠ 4) (h3 : fC c ≠ 4) (h : fLt a b = true) (k : fLt c b = false) : fLt c a = false := by
  rw [fLt_key h3 h1]
  rw [fLt_key h1 h2] at h
  rw [fLt_key h3 h2] at k
  simp at h k ⊢
  omega
theorem fLt_up {a b c : Int} (h1 : fC a ≠ 4) (h2 : fC b ≠ 4) (h3 : fC c ≠ 4) (h : fLt b a = true) (k : fLt b c = false) : fLt a c = false := by
  rw [fLt_key h1 h3]
  rw [fLt_key h2 h1] at h
  rw [fLt_key h2 h3] at k
  simp at h k ⊢
  omega
theorem fLt_self {a : Int} (h1 : fC a ≠ 4) : fLt a a = false := by
  rw [fLt_key h1 h1]
  simp
end Go.Proofs.YtkdckclefegocaaGreatDoor
