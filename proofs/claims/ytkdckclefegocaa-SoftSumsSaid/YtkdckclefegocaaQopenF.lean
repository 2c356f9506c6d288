/-
  How a slice of floats, as an argument, is read. Conditions: none.
-/
import Derived.Test.YtkdckclefegocaaQopen
import Derived.Test.YtkdckclefegocaaPatd
namespace Go.Proofs.Ytkdckclefegocaa
open Go.ChangeShapes Go.WideShapes Go.ChangeAt Go.RowKit Go.Joins
set_option maxRecDepth 100000

section
variable {H : Type} {enc : TypeId × Value → H} {w : World} {base : Nat} {spare : Nat → Bool} {held : Bool} {r : Reach} {bb : Nat} {v : Value} {d : DataW H} {p : List MemPlace}
theorem open_floats (hv : Value.okWide Try.prog w r bb 39 v) (h : DataW.Trod enc Try.prog w base spare held 39 v d p) :
    ∃ (A : Option Addr) (n c : Nat) (us : List Int), v = .slice A n c ∧ us.length = n ∧ n ≤ c ∧ RdW w A us ∧ AllF us := by
  obtain ⟨A, n, c, rfl⟩ := okWide_slice Try.underlying39 hv
  obtain ⟨fuel, hf⟩ := h
  rcases open_ints Try.underlying39 Try.underlying23 (by kernel_rfl) hf with ⟨e, _⟩ | ⟨a, len, cap, zs, e, _, hl, hm, hz, _, hc, hwf⟩
  · simp [Value.cells] at e
    obtain ⟨rfl, rfl, rfl⟩ := e
    exact ⟨none, 0, 0, [], rfl, rfl, Nat.le_refl _, .inl rfl, (fun i hi => absurd hi (by simp))⟩
  · simp [Value.cells] at e
    obtain ⟨rfl, rfl, rfl⟩ := e
    have hlz : n ≤ zs.length := by rw [hz]; split <;> omega
    have aw : AllF (zs.take n) := fun i hi => by
      have hm : (zs.take n).getD i 0 ∈ zs.take n := by
        rw [List.getD_eq_getElem?_getD, List.getElem?_eq_getElem hi]
        exact List.getElem_mem hi
      exact word_of_wf (hwf _ (List.mem_of_mem_take hm))
    refine ⟨some a, n, c, zs.take n, rfl, by rw [List.length_take]; omega, hl, ?_, aw⟩
    by_cases h0 : n = 0
    · exact .inl (by rw [h0]; simp)
    · have c0 := hc 0 (by omega)
      have e0 : a.add 0 = a := rfl
      rw [e0] at c0
      have hblk := World.block_lt_of_cell? _ _ c0
      have sp : a.spot = none := by
        unfold World.cell? at c0
        split at c0
        · cases hs : a.spot with
          | none => rfl
          | some s => rw [hs] at c0; simp at c0
        · cases c0
      obtain ⟨x1, x2, x3⟩ := a
      simp at sp
      subst sp
      refine .inr ⟨x1, x2, rfl, hblk, fun i x hi => ?_⟩
      have hlt : i < n := by
        rcases Nat.lt_or_ge i n with h | h
        · exact h
        · rw [List.getElem?_eq_none (by rw [List.length_take]; omega)] at hi; cases hi
      have ci := hc i (by omega)
      rw [List.getElem?_take, if_pos hlt] at hi
      have ex : zs.getD i 0 = x := by rw [List.getD_eq_getElem?_getD, hi]; rfl
      rw [ex] at ci
      unfold Addr.add at ci
      split at ci
      · rename_i h1
        subst h1
        simpa using ci
      · exact ci
end
end Go.Proofs.Ytkdckclefegocaa
