/-
  What a call that writes into one block alone leaves as it was. No function of the program.
-/
import Derived.Test.YtaollppieonmbaaDoorNadd
namespace Go.Proofs.YtaollppieonmbaaDoor
open Go.RowKit

/-- Of what was there, block g alone may have changed. -/
structure Only (g : Nat) (w w' : World) : Prop where
  base : Below g w w'
  rest : ∀ b, b ≠ g → b < w.heap.size → w'.heap[b]? = w.heap[b]?
theorem Only.refl (g : Nat) (w : World) : Only g w w := ⟨Below.refl _ _, fun _ _ _ => rfl⟩
theorem Only.drew {g : Nat} {w w' : World} (h : Only g w w') : Only g w w'.drew := ⟨h.base.drew, h.rest⟩
theorem Only.drewN {g : Nat} {w w' : World} (h : Only g w w') (n : Nat) : Only g w (w'.drewN n) := ⟨⟨h.base.os, h.base.tape, h.base.output, h.base.size, h.base.block⟩, h.rest⟩
theorem Only.set_ {g : Nat} {w w' : World} (h : Only g w w') (i : Nat) (u : Value) : Only g w (w'.setCell ⟨g, i, none⟩ u) :=
  ⟨h.base.setCell (Nat.le_refl _) u, fun b hb hl => (Below.heap_setCell w' ⟨g, i, none⟩ u b hb).trans (h.rest b hb hl)⟩
theorem Only.trans {g : Nat} {w w1 w2 : World} (h : Only g w w1) (k : Only g w1 w2) : Only g w w2 :=
  ⟨h.base.trans k.base, fun b hb hl => (k.rest b hb (Nat.lt_of_lt_of_le hl h.base.size)).trans (h.rest b hb hl)⟩
theorem Only.of_below {g : Nat} {w w' : World} (h : Below w.heap.size w w') (hg : g < w.heap.size) : Only g w w' :=
  ⟨h.mono (Nat.le_of_lt hg), fun b _ hl => h.block b hl⟩
theorem Only.below {g B : Nat} {w w1 w2 : World} (h : Below B w w1) (k : Only g w1 w2) (hB : B ≤ g) : Below B w w2 := h.trans (k.base.mono hB)
theorem Blk.only {g h : Nat} {w w' : World} {t : TypeId} {cs : Array Value} (b : Blk w h t cs) (k : Only g w w') (hg : h ≠ g) : Blk w' h t cs := (k.rest h hg b.lt).trans b
theorem Only.cell {g : Nat} {w w' : World} (k : Only g w w') {b i : Nat} (hb : b ≠ g) (hl : b < w.heap.size) : w'.cell? ⟨b, i, none⟩ = w.cell? ⟨b, i, none⟩ := by
  have := k.rest b hb hl
  simp only [World.cell?, this]
theorem Rn.only {g : Nat} {w w' : World} {A : Option Addr} {ws : List Int} (h : Rn w A ws) (k : Only g w w') (hA : ws ≠ [] → ∀ a, A = some a → a.block ≠ g) : Rn w' A ws := by
  by_cases h0 : ws = []
  · exact .inl h0
  rcases h with h | ⟨b, off, e, hg, hc⟩
  · exact .inl h
  · refine .inr ⟨b, off, e, Nat.lt_of_lt_of_le hg k.base.size, fun i x hi => ?_⟩
    rw [k.cell (hA h0 _ e) hg]
    exact hc i x hi
theorem Rn.ne {W : World} {g : Nat} {A : Option Addr} {ws : List Int} (h : Rn W A ws) (hg : W.heap.size ≤ g) : ws ≠ [] → ∀ a, A = some a → a.block ≠ g := fun h0 a ha => by
  rcases h with h | ⟨b, off, e, hb, hc⟩
  · exact absurd h h0
  · rw [e] at ha
    injection ha with ha
    subst ha
    show b ≠ g
    omega
end Go.Proofs.YtaollppieonmbaaDoor
