/-
  How the arguments of layer 2's laws are read (a number is a slice of words of 32 bits), and what the listed variable gives. Conditions: none.
-/
import Derived.Test.YtgjgcehoakacoaaGreatDoorMQ
import Derived.ProofKit
import Derived.OpenShut
import Derived.ChangeOld
import Derived.LaidMore
import Derived.Stop.Joined
import Derived.Lib.SmallJoins
namespace Go.Proofs.YtgjgcehoakacoaaGreatDoor
open Go.ChangeShapes Go.WideShapes Go.ChangeAt Go.RowKit Go.Joins
set_option maxRecDepth 100000

theorem own : ownKnob Tryz.prog.godebug = none := by kernel_rfl
theorem laidOut : laidOutB Tryz.prog = true := by kernel_rfl
theorem w32_of_wf {x : Int} (h : (Lit.int .u32 x).wf = true) : W32 x := by
  simp [Lit.wf, IntKind.min, IntKind.max, IntKind.signed, IntKind.bits] at h
  exact ⟨by omega, by omega⟩
theorem word_of_wf {x : Int} (h : (Lit.int .u64 x).wf = true) : Word x := by
  simp [Lit.wf, IntKind.min, IntKind.max, IntKind.signed, IntKind.bits] at h
  exact ⟨by omega, by omega⟩
theorem i64_of_wf {x : Int} (h : (Lit.int .i64 x).wf = true) : -9223372036854775808 ≤ x ∧ x ≤ 9223372036854775807 := by
  simp [Lit.wf, IntKind.min, IntKind.max, IntKind.signed, IntKind.bits] at h
  exact ⟨by omega, by omega⟩

section
variable {H : Type} {enc : TypeId × Value → H} {w : World} {base : Nat} {spare : Nat → Bool} {held : Bool} {r : Reach} {bb : Nat} {v : Value} {d : DataW H} {p : List MemPlace}
theorem open_nat (hv : Value.okWide Tryz.prog w r bb 120 v) (h : DataW.Trod enc Tryz.prog w base spare held 120 v d p) :
    ∃ (A : Option Addr) (n c : Nat) (us : List Int), v = .slice A n c ∧ us.length = n ∧ n ≤ c ∧ Rn w A us ∧ AllW us := by
  obtain ⟨A, n, c, rfl⟩ := okWide_slice Tryz.underlying120 hv
  obtain ⟨fuel, hf⟩ := h
  rcases open_ints Tryz.underlying120 Tryz.underlying147 (by kernel_rfl) hf with ⟨e, _⟩ | ⟨a, len, cap, zs, e, _, hl, hm, hz, _, hc, hwf⟩
  · simp [Value.cells] at e
    obtain ⟨rfl, rfl, rfl⟩ := e
    exact ⟨none, 0, 0, [], rfl, rfl, Nat.le_refl _, .inl rfl, AllW.nil⟩
  · simp [Value.cells] at e
    obtain ⟨rfl, rfl, rfl⟩ := e
    have hlz : n ≤ zs.length := by rw [hz]; split <;> omega
    have aw : AllW (zs.take n) := fun x hx => w32_of_wf (hwf x (List.mem_of_mem_take hx))
    refine ⟨some a, n, c, zs.take n, rfl, by rw [List.length_take]; omega, hl, ?_, aw⟩
    by_cases h0 : n = 0
    · exact .inl (by rw [h0]; simp)
    · have c0 := hc 0 (by omega)
      have e0 : a.add 0 = a := rfl
      rw [e0] at c0
      have hblk := World.block_lt_of_cell? _ _ c0
      have sp : a.spot = none := by
        unfold World.cell? at c0
        split at c0
        · cases hs : a.spot with
          | none => rfl
          | some s => rw [hs] at c0; simp at c0
        · cases c0
      obtain ⟨x1, x2, x3⟩ := a
      simp at sp
      subst sp
      refine .inr ⟨x1, x2, rfl, hblk, fun i x hi => ?_⟩
      have hlt : i < n := by
        rcases Nat.lt_or_ge i n with h | h
        · exact h
        · rw [List.getElem?_eq_none (by rw [List.length_take]; omega)] at hi; cases hi
      have ci := hc i (by omega)
      rw [List.getElem?_take, if_pos hlt] at hi
      have ex : zs.getD i 0 = x := by rw [List.getD_eq_getElem?_getD, hi]; rfl
      rw [ex] at ci
      unfold Addr.add at ci
      split at ci
      · rename_i h1
        subst h1
        simpa using ci
      · exact ci
end

/-- What the rows list: the variable 4. -/
abbrev theLaid : List (String × DataW Unit) := [("math/bits.deBruijn32tab", Rows.laid_math_bits_deBruijn32tab)]
theorem gTab : Tryz.prog.globalNamed "math/bits.deBruijn32tab" = some 4 := by kernel_rfl
theorem tTab : (Tryz.prog.globals[4]?).map (·.type) = some 224 := by kernel_rfl
theorem door_met (os : Os) (args : Array Value) : laidMetH Tryz.prog theLaid ((World.doorLaid Tryz.prog 4000 os).forCall (fun _ _ => 0) ⟨#[], args, []⟩).memory :=
  laidMetH_of_parts3 (fuel := 8) (laidMet_of_run' 8 (by kernel_rfl) (by kernel_rfl)) (by kernel_rfl) (by kernel_rfl)
/-- Of the variable 4. -/
theorem tab_at (l : List (DataW Unit)) (hl : Rows.laid_math_bits_deBruijn32tab = DataW.agg l) (j : Nat) (hj : j < 32) : l[j]? = some (.lit (.int .u8 ((Lib.deBruijn32tab.getD j 0 : Nat) : Int))) := by
  unfold Rows.laid_math_bits_deBruijn32tab at hl
  injection hl with hl
  subst hl
  match j, hj with
  | 0, _ => rfl
  | 1, _ => rfl
  | 2, _ => rfl
  | 3, _ => rfl
  | 4, _ => rfl
  | 5, _ => rfl
  | 6, _ => rfl
  | 7, _ => rfl
  | 8, _ => rfl
  | 9, _ => rfl
  | 10, _ => rfl
  | 11, _ => rfl
  | 12, _ => rfl
  | 13, _ => rfl
  | 14, _ => rfl
  | 15, _ => rfl
  | 16, _ => rfl
  | 17, _ => rfl
  | 18, _ => rfl
  | 19, _ => rfl
  | 20, _ => rfl
  | 21, _ => rfl
  | 22, _ => rfl
  | 23, _ => rfl
  | 24, _ => rfl
  | 25, _ => rfl
  | 26, _ => rfl
  | 27, _ => rfl
  | 28, _ => rfl
  | 29, _ => rfl
  | 30, _ => rfl
  | 31, _ => rfl
  | n + 32, h => omega
theorem of_laid {W : World} (h : laidMetH Tryz.prog theLaid W) : TabOk W := by
  rw [MakeChecks.laidMetH_plain _ _ _ (by kernel_rfl)] at h
  obtain ⟨ps, ⟨g0, t0, cs0, f0, p0, q0, hg0, ht0, hv0, hd0, _, _⟩, _⟩ := h
  obtain rfl := Option.some.inj (gTab.symm.trans hg0)
  obtain rfl := Option.some.inj (tTab.symm.trans ht0)
  obtain ⟨xs, m1, rfl, hx1, hlen, hn, hel⟩ := DataW.trod_array Tryz.underlying224 hd0
  have c5 : Tryz.prog.cellsOf 5 = 1 := by kernel_rfl
  simp only [Prod.mk.injEq] at hx1
  have hx2 : Rows.laid_math_bits_deBruijn32tab = DataW.agg (xs.map (·.1)) := hx1.1
  intro j hj
  rw [World.var?_cell hg0 hv0 j]
  have he := hel j hj
  rw [c5, Nat.mul_one] at he
  have hjx : j < xs.length := by omega
  rw [List.getElem?_eq_getElem hjx] at he
  obtain ⟨k, e1, e2, _⟩ := DataW.trod_int Tryz.underlying5 he
  have e3 : (xs.map (·.1))[j]? = some (.lit (.int .u8 k)) := by rw [List.getElem?_map, List.getElem?_eq_getElem hjx, e2]; rfl
  have e5 := (tab_at _ hx2 j hj).symm.trans e3
  simp only [Option.some.injEq, DataW.lit.injEq, Lit.int.injEq, true_and] at e5
  have e6 : cs0.toList[j]? = some (.int .u8 k) := by
    have : ((cs0.toList.drop j).take 1)[0]? = some (.int .u8 k) := by rw [e1]; rfl
    rw [List.getElem?_take, if_pos (by decide), List.getElem?_drop] at this
    simpa using this
  rw [← Array.getElem?_toList, e6, e5]
end Go.Proofs.YtgjgcehoakacoaaGreatDoor
