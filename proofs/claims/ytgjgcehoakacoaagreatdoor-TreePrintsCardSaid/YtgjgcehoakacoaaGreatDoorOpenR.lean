/-
  How the arguments of laws are read: a fraction (a bool and two slices of words), a number of two words, a mode. Conditions: none.
-/
import Derived.Test.YtgjgcehoakacoaaGreatDoorIn
import Derived.Test.YtgjgcehoakacoaaGreatDoorQopen
import Derived.Deep.Slices
import Derived.Deep.Fields
import Derived.ChangeSame
namespace Go.Proofs.YtgjgcehoakacoaaGreatDoor
open Go.ChangeShapes Go.WideShapes Go.ChangeAt Go.RowKit Go.Joins Go.Deep
set_option maxRecDepth 100000

theorem cellsU128 : Tryz.prog.cellsOf 163 = 2 := by kernel_rfl
section
variable {H : Type} {enc : TypeId × Value → H} {w : World} {base : Nat} {spare : Nat → Bool} {held : Bool} {r : Reach} {bb : Nat} {v : Value} {d : DataW H} {p : List MemPlace}
/-- A slice of words, as it lies in one cell. -/
theorem open_natcell {fuel : Nat} {x : DataW H × List MemPlace} (hf : DataW.trod enc Tryz.prog w base spare held fuel 120 [v] = some x) : ∃ (A : Option Addr) (n c : Nat), v = .slice A n c ∧ NatIn w A n c := by
  rcases open_ints Tryz.underlying120 Tryz.underlying147 (by kernel_rfl) hf with ⟨e, _⟩ | ⟨a, n, c, zs, e, _, hl, hm, hz, _, hc, hwf⟩
  · simp at e
    subst e
    exact ⟨none, 0, 0, rfl, [], rfl, Nat.le_refl _, .inl rfl, AllW.nil⟩
  · simp at e
    subst e
    have hlz : n ≤ zs.length := by rw [hz]; split <;> omega
    have aw : AllW (zs.take n) := fun x hx => w32_of_wf (hwf x (List.mem_of_mem_take hx))
    refine ⟨some a, n, c, rfl, zs.take n, by rw [List.length_take]; omega, hl, ?_, aw⟩
    by_cases h0 : n = 0
    · exact .inl (by rw [h0]; simp)
    · have c0 := hc 0 (by omega)
      have e0 : a.add 0 = a := rfl
      rw [e0] at c0
      have hblk := World.block_lt_of_cell? _ _ c0
      have sp : a.spot = none := by
        unfold World.cell? at c0
        split at c0
        · cases hs : a.spot with
          | none => rfl
          | some s => rw [hs] at c0; simp at c0
        · cases c0
      obtain ⟨x1, x2, x3⟩ := a
      simp at sp
      subst sp
      refine .inr ⟨x1, x2, rfl, hblk, fun i x hi => ?_⟩
      have hlt : i < n := by
        rcases Nat.lt_or_ge i n with h | h
        · exact h
        · rw [List.getElem?_eq_none (by rw [List.length_take]; omega)] at hi; cases hi
      have ci := hc i (by omega)
      rw [List.getElem?_take, if_pos hlt] at hi
      have ex : zs.getD i 0 = x := by rw [List.getD_eq_getElem?_getD, hi]; rfl
      rw [ex] at ci
      unfold Addr.add at ci
      split at ci
      · rename_i h1
        subst h1
        simpa using ci
      · exact ci
theorem open_two (hv : Value.okWide Tryz.prog w r bb 163 v) (h : DataW.Trod enc Tryz.prog w base spare held 163 v d p) :
    ∃ a b : Int, Word a ∧ Word b ∧ v = .agg #[.int .u64 a, .int .u64 b] := by
  obtain ⟨c0, c1, y0, y1, m, rfl, rfl, rfl, hy0, hy1⟩ := open_agg2 Tryz.underlying163 (by kernel_rfl) cellsU128 hv h
  obtain ⟨a, e0, _, wa⟩ := DataW.trod_int Tryz.underlying34 hy0
  obtain ⟨b, e1, _, wb⟩ := DataW.trod_int Tryz.underlying34 hy1
  simp at e0 e1
  subst e0 e1
  exact ⟨a, b, word_of_wf wa, word_of_wf wb, rfl⟩
end
end Go.Proofs.YtgjgcehoakacoaaGreatDoor
