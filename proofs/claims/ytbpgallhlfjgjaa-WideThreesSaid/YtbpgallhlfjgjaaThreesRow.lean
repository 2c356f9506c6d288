/-
  WideThrees holds: for every two numbers of three words and every list of numbers of two words the law answers true and leaves its arguments as they were. Conditions: none.
-/
import Derived.Test.YtbpgallhlfjgjaaThrees
import Derived.Test.YtbpgallhlfjgjaaOpen
import Derived.Deep.SlicePairs
namespace Go.Proofs.Ytbpgallhlfjgjaa
open Go.ChangeShapes Go.WideShapes Go.ChangeAt Go.RowKit

theorem threes_walk (ah am al bh bm bl : Int) (A : Option Addr) (n c b0 off0 : Nat) (ps : List (Int × Int)) (h1 : Word ah) (h2 : Word am) (h3 : Word al) (h4 : Word bh) (h5 : Word bm) (h6 : Word bl) (hp : ps.length = n)
    (w : World) (hA : 0 < n → A = some ⟨b0, off0, none⟩) (hb0 : 0 < n → b0 < w.heap.size) (hw : ∀ p ∈ ps, Word p.1 ∧ Word p.2)
    (hc : ∀ (i : Nat) (p : Int × Int), ps[i]? = some p → w.cell? ⟨b0, off0 + i * 2, none⟩ = some (.int .u64 p.1) ∧ w.cell? ⟨b0, off0 + i * 2 + 1, none⟩ = some (.int .u64 p.2)) :
    Calls Try.prog 9 #[.agg #[.int .u64 ah, .int .u64 am, .int .u64 al], .agg #[.int .u64 bh, .int .u64 bm, .int .u64 bl], .slice A n c] w fun e w' => e = .returned (.bool true) ∧ Below w.heap.size w w' := by
  rcases Nat.lt_or_ge 300 n with h | h
  · exact threes_long ah am al bh bm bl A n c w h
  · exact threes_short ah am al bh bm bl h1 h2 h3 h4 h5 h6 A n c b0 off0 ps w h hp hA hb0 hw hc

def ival : Value → Int
  | .int _ x => x
  | _ => 0

section
variable {H : Type} {enc : TypeId × Value → H} {w : World} {base : Nat} {spare : Nat → Bool} {held : Bool} {r : Reach} {bb : Nat} {v : Value} {d : DataW H} {p : List MemPlace}
theorem open_pairs (hv : Value.okWide Try.prog w r bb 68 v) (h : DataW.Trod enc Try.prog w base spare held 68 v d p) :
    ∃ (A : Option Addr) (n c b off : Nat) (ps : List (Int × Int)), v = .slice A n c ∧ ps.length = n ∧ (0 < n → A = some ⟨b, off, none⟩) ∧ (0 < n → b < w.heap.size) ∧ (∀ q ∈ ps, Word q.1 ∧ Word q.2) ∧
      ∀ (i : Nat) (q : Int × Int), ps[i]? = some q → w.cell? ⟨b, off + i * 2, none⟩ = some (.int .u64 q.1) ∧ w.cell? ⟨b, off + i * 2 + 1, none⟩ = some (.int .u64 q.2) := by
  obtain ⟨A, n, c, rfl⟩ := okWide_slice Try.underlying68 hv
  obtain ⟨fuel, hf⟩ := h
  rcases Go.Deep.open_slice_pairs Try.underlying68 Try.underlying24 cellsU128 (by kernel_rfl) (by kernel_rfl) (by kernel_rfl) (by kernel_rfl) hf with ⟨e, _⟩ | ⟨a, len, cap, m, k, V0, V1, D0, D1, P0, P1, e, _, hl, _, hm, _, hi⟩
  · simp [Value.cells] at e
    obtain ⟨rfl, rfl, rfl⟩ := e
    exact ⟨none, 0, 0, 0, 0, [], rfl, rfl, fun h => absurd h (Nat.lt_irrefl 0), fun h => absurd h (Nat.lt_irrefl 0), fun q hq => (nomatch hq), fun i q hq => by simp at hq⟩
  · simp [Value.cells] at e
    obtain ⟨rfl, rfl, rfl⟩ := e
    have hlm : n ≤ m := by rw [hm]; split <;> omega
    have each : ∀ i, i < n → ∃ x y : Int, V0 i = .int .u64 x ∧ V1 i = .int .u64 y ∧ Word x ∧ Word y := fun i hlt => by
      obtain ⟨_, _, t0, t1⟩ := hi i (by omega)
      obtain ⟨x, e0, _, wx⟩ := DataW.trod_int Try.underlying22 t0
      obtain ⟨y, e1, _, wy⟩ := DataW.trod_int Try.underlying22 t1
      simp at e0 e1
      exact ⟨x, y, e0, e1, word_of_wf wx, word_of_wf wy⟩
    have sp : 0 < n → a.spot = none := fun h => by
      obtain ⟨c0, _, _, _⟩ := hi 0 (by omega)
      rw [Nat.zero_mul] at c0
      have e0 : a.add 0 = a := rfl
      rw [e0] at c0
      unfold World.cell? at c0
      split at c0
      · cases hs : a.spot with
        | none => rfl
        | some s => rw [hs] at c0; simp at c0
      · cases c0
    refine ⟨some a, n, c, a.block, a.off, (List.range n).map fun i => (ival (V0 i), ival (V1 i)), rfl, by simp, fun h => ?_, fun h => ?_, fun q hq => ?_, fun i q hq => ?_⟩
    · obtain ⟨x1, x2, x3⟩ := a
      have := sp h
      simp at this
      subst this
      rfl
    · obtain ⟨c0, _, _, _⟩ := hi 0 (by omega)
      exact World.block_lt_of_cell? _ _ c0
    · obtain ⟨i, hmem, rfl⟩ := List.mem_map.1 hq
      obtain ⟨x, y, e0, e1, wx, wy⟩ := each i (List.mem_range.1 hmem)
      rw [e0, e1]
      exact ⟨wx, wy⟩
    · have hlt : i < n := by
        rcases Nat.lt_or_ge i n with h | h
        · exact h
        · rw [List.getElem?_eq_none (by simp; omega)] at hq; cases hq
      rw [List.getElem?_map, List.getElem?_range hlt] at hq
      simp only [Option.map_some, Option.some.injEq] at hq
      subst hq
      obtain ⟨x, y, e0, e1, _, _⟩ := each i hlt
      obtain ⟨c0, c1, _, _⟩ := hi i (by omega)
      rw [e0] at c0
      rw [e1] at c1
      obtain ⟨x1, x2, x3⟩ := a
      have s0 := sp (by omega)
      simp at s0
      subst s0
      have ad : ∀ j, (⟨x1, x2, none⟩ : Addr).add j = ⟨x1, x2 + j, none⟩ := fun j => by
        unfold Addr.add
        split
        · rename_i h; rw [h]; rfl
        · rfl
      rw [ad] at c0 c1
      rw [e0, e1]
      exact ⟨c0, by rw [Nat.add_assoc]; exact c1⟩
end

set_option linter.unusedVariables false
set_option maxRecDepth 100000 in
theorem wideThrees_lifted (os : Os) (started : os.Started) (H : Type) (enc : TypeId × Value → H) :
    ReturnsInHanded {} Try.checked os 9 .any (Rows.wideThreesSpec.pre6 enc Try.prog Try.f9 Rows.wideThreesRow.domain false) (Rows.wideThreesSpec.post enc Try.prog Try.f9 false true false false) := by
  refine returnsInHanded_of_change (C := Try.checked) own started (by kernel_rfl) Try.func9
    (ChangeSpec.witness6 (enc := enc) (C := Try.checked) false ⟨#[], #[.agg #[.int .u64 0, .int .u64 0, .int .u64 0], .agg #[.int .u64 0, .int .u64 0, .int .u64 0], .slice none 0 0], []⟩ 8 (by kernel_rfl) (by kernel_rfl) (by kernel_rfl) (by kernel_rfl)) ?_
  intro W base args ds gs before hval0 hW hcnd _
  have hval : ∀ (j : Nat) t v, Try.f9.params[j]? = some t → args[j]? = some v → Value.okWide Try.prog W .any base t v := hval0
  have hW' := hW
  obtain ⟨p, q, hA0, hV, rfl, hfz, hnd⟩ := hW
  have hA : DataW.TrodAll enc Try.prog W 0 (fun _ => true) true Try.f9.params.toList args.toList ds p := hA0
  rw [Try.params9] at hA hval
  obtain ⟨v0, vs0, d0, ds0, p0, q0, hargs, rfl, rfl, h0, r0⟩ := trodAll_cons hA
  obtain ⟨v1, vs1, d1, ds1, p1, q1, rfl, rfl, rfl, h1, r1⟩ := trodAll_cons r0
  obtain ⟨v2, vs2, d2, ds2, p2, q2, rfl, rfl, rfl, h2, r2⟩ := trodAll_cons r1
  obtain ⟨rfl, rfl, rfl⟩ := trodAll_nil r2
  obtain rfl : args = #[v0, v1, v2] := by cases args; simp_all
  obtain ⟨rfl, rfl⟩ := trodVars_none hV
  have k0 := h0
  have lt0 : ∀ x ∈ p0, x.block < W.heap.size := by obtain ⟨m, hm⟩ := k0; exact DataW.trod_lt m _ _ _ hm
  obtain ⟨a0, b0, c0, wa0, wb0, wc0, rfl⟩ := open_three (hval 0 45 v0 rfl rfl) h0
  have k1 := h1
  have lt1 : ∀ x ∈ p1, x.block < W.heap.size := by obtain ⟨m, hm⟩ := k1; exact DataW.trod_lt m _ _ _ hm
  obtain ⟨a1, b1, c1, wa1, wb1, wc1, rfl⟩ := open_three (hval 1 45 v1 rfl rfl) h1
  have k2 := h2
  have lt2 : ∀ x ∈ p2, x.block < W.heap.size := by obtain ⟨m, hm⟩ := k2; exact DataW.trod_lt m _ _ _ hm
  obtain ⟨A2, n2, c2, b2, off2, ps2, rfl, hp2, hA2, hb2, hw2, hc2⟩ := open_pairs (hval 2 68 v2 rfl rfl) h2
  clear hA0 hval0
  refine (threes_walk a0 b0 c0 a1 b1 c1 A2 n2 c2 b2 off2 ps2 wa0 wb0 wc0 wa1 wb1 wc1 hp2 W hA2 hb2 hw2 hc2).mono fun e W' ⟨he, bel⟩ => ?_
  subst he
  exact ⟨_, rfl, _, _, _, [], _, [], hW', trodAll_mk1 (shut_bool Try.underlying4 _), (trodAll_cons_mk (Below.trod laidOut (by kernel_rfl) (of_decide_eq_true (by kernel_rfl)) k0 bel lt0) (trodAll_cons_mk (Below.trod laidOut (by kernel_rfl) (of_decide_eq_true (by kernel_rfl)) k1 bel lt1) (trodAll_cons_mk (Below.trod laidOut (by kernel_rfl) (of_decide_eq_true (by kernel_rfl)) k2 bel lt2) trodAll_mk0))), rfl, bel.frame _, fun h => by cases h⟩

theorem wideThrees_holds : Rows.WideThreesSaid :=
  OpenClaim.holds_of_wide 9 Try.f9 rfl rfl rfl rfl rfl rfl rfl ⟨rfl, rfl, rfl, rfl, rfl⟩ rfl rfl rfl rfl rfl (by kernel_rfl) Try.func9 (by kernel_rfl)
    (of_decide_eq_true (by kernel_rfl)) (by unfold Func.isWrapper; first | (rw [if_pos (by decide +kernel)]; kernel_rfl) | (rw [if_neg (by decide +kernel)]; exact ⟨rfl, rfl⟩))
    (fun os started H enc _ => wideThrees_lifted os started H enc)
#print axioms wideThrees_holds
end Go.Proofs.Ytbpgallhlfjgjaa
