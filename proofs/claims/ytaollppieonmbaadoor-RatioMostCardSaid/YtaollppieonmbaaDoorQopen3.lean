/-
  How the arguments of layer 3's laws are read: a fraction (a bool and two slices of words), and a slice of fractions. Conditions: none.
-/
import Derived.Test.YtaollppieonmbaaDoorQin
import Derived.Test.YtaollppieonmbaaDoorQopen
import Derived.Deep.Slices
import Derived.Deep.Fields
import Derived.ChangeSame
namespace Go.Proofs.YtaollppieonmbaaDoor
open Go.ChangeShapes Go.WideShapes Go.ChangeAt Go.RowKit Go.Joins Go.Deep
set_option maxRecDepth 100000

section
variable {H : Type} {enc : TypeId × Value → H} {w : World} {base : Nat} {spare : Nat → Bool} {held : Bool} {r : Reach} {bb : Nat} {v : Value} {d : DataW H} {p : List MemPlace}
/-- A slice of words, as it lies in one cell. -/
theorem open_natcell {fuel : Nat} {x : DataW H × List MemPlace} (hf : DataW.trod enc Tryd.prog w base spare held fuel 23 [v] = some x) : ∃ (A : Option Addr) (n c : Nat), v = .slice A n c ∧ NatIn w A n c := by
  rcases open_ints Tryd.underlying23 Tryd.underlying80 (by kernel_rfl) hf with ⟨e, _⟩ | ⟨a, n, c, zs, e, _, hl, hm, hz, _, hc, hwf⟩
  · simp at e
    subst e
    exact ⟨none, 0, 0, rfl, [], rfl, Nat.le_refl _, .inl rfl, AllW.nil⟩
  · simp at e
    subst e
    have hlz : n ≤ zs.length := by rw [hz]; split <;> omega
    have aw : AllW (zs.take n) := fun x hx => w32_of_wf (hwf x (List.mem_of_mem_take hx))
    refine ⟨some a, n, c, rfl, zs.take n, by rw [List.length_take]; omega, hl, ?_, aw⟩
    by_cases h0 : n = 0
    · exact .inl (by rw [h0]; simp)
    · have c0 := hc 0 (by omega)
      have e0 : a.add 0 = a := rfl
      rw [e0] at c0
      have hblk := World.block_lt_of_cell? _ _ c0
      have sp : a.spot = none := by
        unfold World.cell? at c0
        split at c0
        · cases hs : a.spot with
          | none => rfl
          | some s => rw [hs] at c0; simp at c0
        · cases c0
      obtain ⟨x1, x2, x3⟩ := a
      simp at sp
      subst sp
      refine .inr ⟨x1, x2, rfl, hblk, fun i x hi => ?_⟩
      have hlt : i < n := by
        rcases Nat.lt_or_ge i n with h | h
        · exact h
        · rw [List.getElem?_eq_none (by rw [List.length_take]; omega)] at hi; cases hi
      have ci := hc i (by omega)
      rw [List.getElem?_take, if_pos hlt] at hi
      have ex : zs.getD i 0 = x := by rw [List.getD_eq_getElem?_getD, hi]; rfl
      rw [ex] at ci
      unfold Addr.add at ci
      split at ci
      · rename_i h1
        subst h1
        simpa using ci
      · exact ci
theorem open_rat (hv : Value.okWide Tryd.prog w r bb 25 v) (h : DataW.Trod enc Tryd.prog w base spare held 25 v d p) :
    ∃ (s : Bool) (A : Option Addr) (n c : Nat) (B : Option Addr) (m e : Nat), v = .agg #[.bool s, .slice A n c, .slice B m e] ∧ NatIn w A n c ∧ NatIn w B m e := by
  obtain ⟨v0, v1, v2, y0, y1, y2, k, rfl, -, -, h0, h1, h2⟩ := open_agg3 Tryd.underlying25 (by kernel_rfl) (by kernel_rfl) hv h
  obtain ⟨s, e0, _⟩ := DataW.trod_bool Tryd.underlying4 h0
  obtain ⟨A, n, c, rfl, hA⟩ := open_natcell h1
  obtain ⟨B, m, e, rfl, hB⟩ := open_natcell h2
  simp at e0
  subst e0
  exact ⟨s, A, n, c, B, m, e, rfl, hA, hB⟩
/-- An element of a slice of fractions. -/
theorem open_elem {fuel : Nat} {cs : List Value} {x : DataW H × List MemPlace} (h : DataW.trod enc Tryd.prog w base spare held fuel 25 cs = some x) : ∃ e : RW, cs = [.bool e.s, .slice e.A e.n e.c, .slice e.B e.m e.d] ∧ NatIn w e.A e.n e.c ∧ NatIn w e.B e.m e.d := by
  obtain ⟨xs, n, _, _, hl, hx, hf⟩ := DataW.trod_struct Tryd.underlying25 h
  have hl3 : cs.length = 3 := hl.trans (by kernel_rfl)
  match cs, hl3 with
  | [v0, v1, v2], _ =>
    have hx3 : xs.length = 3 := hx
    match xs, hx3 with
    | [y0, y1, y2], _ =>
      have f0 := hf 0 _ rfl
      have f1 := hf 1 _ rfl
      have f2 := hf 2 _ rfl
      have g0 : DataW.trod enc Tryd.prog w base spare held n 4 [v0] = some y0 := by
        have e : Tryd.prog.cellsOf 4 = 1 := by kernel_rfl
        simpa [e] using f0
      have g1 : DataW.trod enc Tryd.prog w base spare held n 23 [v1] = some y1 := by
        have e : Tryd.prog.cellsOf 23 = 1 := by kernel_rfl
        simpa [e] using f1
      have g2 : DataW.trod enc Tryd.prog w base spare held n 23 [v2] = some y2 := by
        have e : Tryd.prog.cellsOf 23 = 1 := by kernel_rfl
        simpa [e] using f2
      obtain ⟨s, e0, _⟩ := DataW.trod_bool Tryd.underlying4 g0
      obtain ⟨A, k, c, rfl, hA⟩ := open_natcell g1
      obtain ⟨B, m, e, rfl, hB⟩ := open_natcell g2
      simp at e0
      subst e0
      exact ⟨⟨s, A, k, c, B, m, e⟩, rfl, hA, hB⟩
theorem open_rats (hv : Value.okWide Tryd.prog w r bb 59 v) (h : DataW.Trod enc Tryd.prog w base spare held 59 v d p) :
    ∃ (A : Option Addr) (c : Nat) (es : List RW), v = .slice A es.length c ∧ es.length ≤ c ∧ RdR w A (es.map RW.v) ∧ ∀ e ∈ es, NatIn w e.A e.n e.c ∧ NatIn w e.B e.m e.d := by
  obtain ⟨A, n, c, rfl⟩ := okWide_slice Tryd.underlying59 hv
  obtain ⟨fuel, hf⟩ := h
  rcases open_slice Tryd.underlying59 hf with ⟨e, _⟩ | ⟨a, len, cap, m, k, D, Pl, e, _, hl, _, hmm, _, hel⟩
  · simp [Value.cells] at e
    obtain ⟨rfl, rfl, rfl⟩ := e
    exact ⟨none, 0, [], rfl, Nat.le_refl _, .inl rfl, fun e he => by cases he⟩
  · simp [Value.cells] at e
    obtain ⟨rfl, rfl, rfl⟩ := e
    have hC : Tryd.prog.cellsOf 25 = 3 := by kernel_rfl
    have hnm : n ≤ m := by rw [hmm]; split <;> omega
    have key : ∀ i : Nat, ∃ e : RW, i < n → w.cell? ((a.add (i * 3)).add 0) = some (.bool e.s) ∧ w.cell? ((a.add (i * 3)).add 1) = some (.slice e.A e.n e.c) ∧ w.cell? ((a.add (i * 3)).add 2) = some (.slice e.B e.m e.d) ∧ NatIn w e.A e.n e.c ∧ NatIn w e.B e.m e.d := by
      intro i
      by_cases hi : i < n
      · obtain ⟨cs', hcs, ht⟩ := hel i (by omega)
        rw [hC] at hcs
        obtain ⟨e, rfl, h1, h2⟩ := open_elem ht
        obtain ⟨_, _, hat⟩ := World.cells?_some hcs
        exact ⟨e, fun _ => ⟨by rw [hat 0 (by decide)]; rfl, by rw [hat 1 (by decide)]; rfl, by rw [hat 2 (by decide)]; rfl, h1, h2⟩⟩
      · exact ⟨⟨false, none, 0, 0, none, 0, 0⟩, fun h => absurd h hi⟩
    obtain ⟨f, hfx⟩ := Classical.axiomOfChoice key
    refine ⟨some a, c, (List.range n).map f, by simp, by simpa using hl, ?_, ?_⟩
    · by_cases h0 : n = 0
      · exact .inl (by rw [h0]; rfl)
      · have c0 := (hfx 0 (by omega)).1
        have e0 : (a.add (0 * 3)).add 0 = a := by rw [Nat.zero_mul]; rfl
        rw [e0] at c0
        have hblk := World.block_lt_of_cell? _ _ c0
        have sp : a.spot = none := by
          unfold World.cell? at c0
          split at c0
          · cases hs : a.spot with
            | none => rfl
            | some s => rw [hs] at c0; simp at c0
          · cases c0
        obtain ⟨x1, x2, x3⟩ := a
        simp at sp
        subst sp
        refine .inr ⟨x1, x2, rfl, hblk, fun i v hi => ?_⟩
        rw [List.map_map, List.getElem?_map] at hi
        have hlt : i < n := by
          rcases Nat.lt_or_ge i n with h | h
          · exact h
          · rw [List.getElem?_eq_none (by simpa using h)] at hi; cases hi
        rw [List.getElem?_range hlt] at hi
        obtain rfl := Option.some.inj hi
        obtain ⟨q0, q1, q2, _, _⟩ := hfx i hlt
        rw [Go.Deep.add_add] at q0 q1 q2
        have ad : ∀ j : Nat, Addr.add ⟨x1, x2, none⟩ j = ⟨x1, x2 + j, none⟩ := by
          intro j
          unfold Addr.add
          split
          · rename_i h1; subst h1; rfl
          · rfl
        rw [ad] at q0 q1 q2
        exact ⟨q0, q1, q2⟩
    · intro e he
      obtain ⟨i, hi, rfl⟩ := List.mem_map.1 he
      obtain ⟨_, _, _, q3, q4⟩ := hfx i (List.mem_range.1 hi)
      exact ⟨q3, q4⟩
end
end Go.Proofs.YtaollppieonmbaaDoor
