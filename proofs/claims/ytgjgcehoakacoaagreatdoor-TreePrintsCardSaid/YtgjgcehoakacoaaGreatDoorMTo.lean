/-
  How programs, as arguments, are read: whatever is handed in is a tree of the kind that the walks speak of. Conditions: none.
  How layer 10's rows are opened: what the six listed variables give, a world in which all of them stand, and the wrap that keeps the world's shape. Conditions: none.
-/
import Derived.Test.YtgjgcehoakacoaaGreatDoorMTa
import Derived.Test.YtgjgcehoakacoaaGreatDoorOpenR
import Derived.Test.YtgjgcehoakacoaaGreatDoorMTe
import Derived.Lay
import Derived.HandedShaped
import Derived.Shelf.Vars
namespace Go.Proofs.YtgjgcehoakacoaaGreatDoor
open Go.ChangeShapes Go.WideShapes Go.ChangeAt Go.RowKit Go.Joins
set_option maxRecDepth 100000

instance : Inhabited Ex := ⟨.no⟩
instance : Inhabited St := ⟨.no⟩
instance : Inhabited De := ⟨⟨0, false, [], 0, 0, false, .no, .no⟩⟩
theorem str_eq (s : ByteArray) : s = ⟨s.data.toList.toArray⟩ := by
  obtain ⟨⟨l⟩⟩ := s
  rfl
theorem u8_of_wf {x : Int} (h : (Lit.int .u8 x).wf = true) : 0 ≤ x ∧ x ≤ 255 := by
  simp [Lit.wf, IntKind.min, IntKind.max, IntKind.signed, IntKind.bits] at h
  omega
theorem i32_of_wf {x : Int} (h : (Lit.int .i32 x).wf = true) : -2147483648 ≤ x ∧ x ≤ 2147483647 := by
  simp [Lit.wf, IntKind.min, IntKind.max, IntKind.signed, IntKind.bits] at h
  omega
section
variable {H : Type} {enc : TypeId × Value → H} {w : World} {base : Nat} {spare : Nat → Bool} {held : Bool}
/-- A slice of structs, each of which is read as one. -/
theorem open_list {α : Type} [Inhabited α] {ts te : TypeId} {sz : Nat} (hsz : 0 < sz) (ht : Tryz.prog.underlying ts = some (.slice te)) (hc : Tryz.prog.cellsOf te = sz) (vs : α → List Value) (P : α → Prop) {fuel : Nat} {cs : List Value} {x : DataW H × List MemPlace}
    (ih : ∀ n, n < fuel → ∀ cs x, DataW.trod enc Tryz.prog w base spare held n te cs = some x → ∃ a : α, cs = vs a ∧ P a) (h : DataW.trod enc Tryz.prog w base spare held fuel ts cs = some x) :
    ∃ (s : Sl) (k : Nat → α), cs = [.slice s.ao s.n s.c] ∧ s.ok ∧ Rw w w.heap.size s sz (fun i => vs (k i)) ∧ ∀ i, i < s.n → P (k i) := by
  rcases DataW.trod_slice ht h with ⟨rfl, -⟩ | ⟨a, len, cap, elems, rest, n, hn, rfl, -, hb, hl, hm, hlen, hel, -⟩
  · exact ⟨⟨none, 0, 0⟩, fun _ => default, rfl, ⟨Nat.le_refl _, Nat.zero_le _, fun _ => rfl⟩, fun a (ha : none = some a) => (by cases ha), fun i hi => absurd hi (Nat.not_lt_zero i)⟩
  · have key : ∀ i, i < len → ∃ e : α, (∃ cs', w.cells? base (a.add (i * sz)) sz = some cs' ∧ cs' = vs e) ∧ P e := fun i hi => by
      have h1 := hel i hi
      rw [hc, List.getElem?_eq_getElem (by omega)] at h1
      obtain ⟨cs', h2, h3⟩ := Option.bind_eq_some_iff.1 h1
      obtain ⟨e, h4, h5⟩ := ih n (by omega) cs' _ h3
      exact ⟨e, ⟨cs', h2, h4⟩, h5⟩
    obtain ⟨f, hf⟩ := Go.Deep.choose_lt key
    refine ⟨⟨some a, len, cap⟩, f, rfl, ⟨hl, hm, fun h => by cases h⟩, fun b hb' i hi => ?_, fun i hi => (hf i hi).2⟩
    obtain rfl := Option.some.inj hb'
    obtain ⟨cs', h1, h2⟩ := (hf i hi).1
    have hblk := World.cells?_block h1 hsz
    refine ⟨by rw [add_block] at hblk; exact hblk, fun j v hv => ?_⟩
    have h3 := World.cells?_some h1
    rw [← Go.Deep.add_add]
    have hj : j < sz := by
      rw [← h3.2.1, h2]
      exact (List.getElem?_eq_some_iff.1 hv).1
    rw [h3.2.2 j hj, h2]
    exact hv
/-- A struct's fields, one by one. -/
theorem field_of {t : TypeId} {fs : Array Field} {n : Nat} {cs : List Value} {xs : List (DataW H × List MemPlace)} (hl : xs.length = fs.size) (h : ∀ (i : Nat) (f : Field), fs[i]? = some f → DataW.trod enc Tryz.prog w base spare held n f.type ((cs.drop f.offset).take (Tryz.prog.cellsOf f.type)) = xs[i]?)
    (i : Nat) (f : Field) (hf : fs[i]? = some f) (hc : Tryz.prog.cellsOf f.type = t) : ∃ y, DataW.trod enc Tryz.prog w base spare held n f.type ((cs.drop f.offset).take t) = some y := by
  have h1 := h i f hf
  rw [hc] at h1
  have hi : i < xs.length := by rw [hl]; exact (Array.getElem?_eq_some_iff.1 hf).1
  rw [List.getElem?_eq_getElem hi] at h1
  exact ⟨_, h1⟩
theorem open_x : ∀ (fuel : Nat) (cs : List Value) (x : DataW H × List MemPlace), DataW.trod enc Tryz.prog w base spare held fuel 41 cs = some x → ∃ e : Ex, cs = e.h.vs ∧ e.In w.heap.size w := by
  intro fuel
  induction fuel using Nat.strongRecOn with
  | ind fuel ih =>
    intro cs x h
    obtain ⟨xs, n, rfl, -, hl, hxl, hf⟩ := DataW.trod_struct Tryz.underlying41 h
    rw [show Tryz.prog.cellsOf 41 = 7 by kernel_rfl] at hl
    obtain ⟨c0, c1, c2, c3, c4, c5, c6, rfl⟩ : ∃ c0 c1 c2 c3 c4 c5 c6, cs = [c0, c1, c2, c3, c4, c5, c6] := by
      match cs, hl with
      | [c0, c1, c2, c3, c4, c5, c6], _ => exact ⟨_, _, _, _, _, _, _, rfl⟩
    obtain ⟨y0, f0⟩ := field_of hxl hf 0 _ rfl (t := 1) (by kernel_rfl)
    obtain ⟨y1, f1⟩ := field_of hxl hf 1 _ rfl (t := 1) (by kernel_rfl)
    obtain ⟨y2, f2⟩ := field_of hxl hf 2 _ rfl (t := 1) (by kernel_rfl)
    obtain ⟨y3, f3⟩ := field_of hxl hf 3 _ rfl (t := 1) (by kernel_rfl)
    obtain ⟨y4, f4⟩ := field_of hxl hf 4 _ rfl (t := 1) (by kernel_rfl)
    obtain ⟨y5, f5⟩ := field_of hxl hf 5 _ rfl (t := 1) (by kernel_rfl)
    obtain ⟨y6, f6⟩ := field_of hxl hf 6 _ rfl (t := 1) (by kernel_rfl)
    obtain ⟨op, e0, -, w0⟩ := DataW.trod_int Tryz.underlying39 f0
    obtain ⟨ps, e1, -, w1⟩ := DataW.trod_int Tryz.underlying3 f1
    obtain ⟨bo, e2, -⟩ := DataW.trod_bool Tryz.underlying4 f2
    obtain ⟨it, e3, -, w3⟩ := DataW.trod_int Tryz.underlying21 f3
    obtain ⟨fl, e4, -, w4⟩ := DataW.trod_int Tryz.underlying35 f4
    obtain ⟨nm, e5, -, w5⟩ := DataW.trod_string Tryz.underlying9 f5
    obtain ⟨s, k, e6, hs, hr, hk⟩ := open_list (sz := 7) (by decide) Tryz.underlying38 (by kernel_rfl) (fun e : Ex => e.h.vs) (fun e => e.In w.heap.size w) (fun m hm cs x h => ih m (by omega) cs x h) f6
    obtain rfl : c0 = _ := List.head_eq_of_cons_eq e0
    obtain rfl : c1 = _ := List.head_eq_of_cons_eq e1
    obtain rfl : c2 = _ := List.head_eq_of_cons_eq e2
    obtain rfl : c3 = _ := List.head_eq_of_cons_eq e3
    obtain rfl : c4 = _ := List.head_eq_of_cons_eq e4
    obtain rfl : c5 = _ := List.head_eq_of_cons_eq e5
    obtain rfl : c6 = _ := List.head_eq_of_cons_eq e6
    exact ⟨.mk ⟨op, ps, bo, it, fl, nm.data.toList, s⟩ k, rfl, ⟨(u8_of_wf w0).1, (u8_of_wf w0).2, (i64_of_wf w1).1, (i64_of_wf w1).2, (i32_of_wf w3).1, (i32_of_wf w3).2, word_of_wf w4, by rw [← Lib.size_eq]; exact w5, hs⟩, hr, hk⟩
theorem open_s : ∀ (fuel : Nat) (cs : List Value) (x : DataW H × List MemPlace), DataW.trod enc Tryz.prog w base spare held fuel 43 cs = some x → ∃ s : St, cs = stvs s.h s.e.h ∧ s.In w.heap.size w := by
  intro fuel
  induction fuel using Nat.strongRecOn with
  | ind fuel ih =>
    intro cs x h
    obtain ⟨xs, n, rfl, -, hl, hxl, hf⟩ := DataW.trod_struct Tryz.underlying43 h
    rw [show Tryz.prog.cellsOf 43 = 15 by kernel_rfl] at hl
    obtain ⟨c0, c1, c2, c3, c4, c5, c6, c7, c8, c9, c10, c11, c12, c13, c14, rfl⟩ : ∃ c0 c1 c2 c3 c4 c5 c6 c7 c8 c9 c10 c11 c12 c13 c14, cs = [c0, c1, c2, c3, c4, c5, c6, c7, c8, c9, c10, c11, c12, c13, c14] := by
      match cs, hl with
      | [c0, c1, c2, c3, c4, c5, c6, c7, c8, c9, c10, c11, c12, c13, c14], _ => exact ⟨_, _, _, _, _, _, _, _, _, _, _, _, _, _, _, rfl⟩
    obtain ⟨y0, f0⟩ := field_of hxl hf 0 _ rfl (t := 1) (by kernel_rfl)
    obtain ⟨y1, f1⟩ := field_of hxl hf 1 _ rfl (t := 1) (by kernel_rfl)
    obtain ⟨y2, f2⟩ := field_of hxl hf 2 _ rfl (t := 1) (by kernel_rfl)
    obtain ⟨y3, f3⟩ := field_of hxl hf 3 _ rfl (t := 1) (by kernel_rfl)
    obtain ⟨y4, f4⟩ := field_of hxl hf 4 _ rfl (t := 7) (by kernel_rfl)
    obtain ⟨y5, f5⟩ := field_of hxl hf 5 _ rfl (t := 1) (by kernel_rfl)
    obtain ⟨y6, f6⟩ := field_of hxl hf 6 _ rfl (t := 1) (by kernel_rfl)
    obtain ⟨y7, f7⟩ := field_of hxl hf 7 _ rfl (t := 1) (by kernel_rfl)
    obtain ⟨y8, f8⟩ := field_of hxl hf 8 _ rfl (t := 1) (by kernel_rfl)
    obtain ⟨kd, e0, -, w0⟩ := DataW.trod_int Tryz.underlying37 f0
    obtain ⟨ps, e1, -, w1⟩ := DataW.trod_int Tryz.underlying3 f1
    obtain ⟨nm, e2, -, w2⟩ := DataW.trod_string Tryz.underlying9 f2
    obtain ⟨sX, kX, e3, hsX, hrX, hkX⟩ := open_list (sz := 7) (by decide) Tryz.underlying38 (by kernel_rfl) (fun e : Ex => e.h.vs) (fun e => e.In w.heap.size w) (fun m _ cs x h => open_x m cs x h) f3
    obtain ⟨e, e4, he⟩ := open_x n _ _ f4
    obtain ⟨lo, e5, -, w5⟩ := DataW.trod_int Tryz.underlying21 f5
    obtain ⟨hi, e6, -, w6⟩ := DataW.trod_int Tryz.underlying21 f6
    obtain ⟨sT, kT, e7, hsT, hrT, hkT⟩ := open_list (sz := 15) (by decide) Tryz.underlying23 (by kernel_rfl) (fun s : St => stvs s.h s.e.h) (fun s => s.In w.heap.size w) (fun m hm cs x h => ih m (by omega) cs x h) f7
    obtain ⟨sL, kL, e8, hsL, hrL, hkL⟩ := open_list (sz := 15) (by decide) Tryz.underlying23 (by kernel_rfl) (fun s : St => stvs s.h s.e.h) (fun s => s.In w.heap.size w) (fun m hm cs x h => ih m (by omega) cs x h) f8
    obtain rfl : c0 = _ := List.head_eq_of_cons_eq e0
    obtain rfl : c1 = _ := List.head_eq_of_cons_eq e1
    obtain rfl : c2 = _ := List.head_eq_of_cons_eq e2
    obtain rfl : c3 = _ := List.head_eq_of_cons_eq e3
    have q4 : [c4, c5, c6, c7, c8, c9, c10] = e.h.vs := e4
    simp only [EH.vs, List.cons.injEq, and_true] at q4
    obtain ⟨rfl, rfl, rfl, rfl, rfl, rfl, rfl⟩ := q4
    obtain rfl : c11 = _ := List.head_eq_of_cons_eq e5
    obtain rfl : c12 = _ := List.head_eq_of_cons_eq e6
    obtain rfl : c13 = _ := List.head_eq_of_cons_eq e7
    obtain rfl : c14 = _ := List.head_eq_of_cons_eq e8
    exact ⟨.mk ⟨kd, ps, nm.data.toList, sX, lo, hi, sT, sL⟩ kX e kT kL, rfl, ⟨(u8_of_wf w0).1, (u8_of_wf w0).2, (i64_of_wf w1).1, (i64_of_wf w1).2, (i32_of_wf w5).1, (i32_of_wf w5).2, (i32_of_wf w6).1, (i32_of_wf w6).2, by rw [← Lib.size_eq]; exact w2, hsX, hsT, hsL⟩, ⟨hsX, hrX, hkX⟩, he, hrT, hkT, hrL, hkL⟩
theorem open_d (fuel : Nat) (cs : List Value) (x : DataW H × List MemPlace) (h : DataW.trod enc Tryz.prog w base spare held fuel 54 cs = some x) : ∃ d : De, cs = dcvs d d.lo.h d.hi.h ∧ d.In w.heap.size w := by
  obtain ⟨xs, n, rfl, -, hl, hxl, hf⟩ := DataW.trod_struct Tryz.underlying54 h
  rw [show Tryz.prog.cellsOf 54 = 20 by kernel_rfl] at hl
  obtain ⟨c0, c1, c2, c3, c4, c5, c6, c7, c8, c9, c10, c11, c12, c13, c14, c15, c16, c17, c18, c19, rfl⟩ : ∃ c0 c1 c2 c3 c4 c5 c6 c7 c8 c9 c10 c11 c12 c13 c14 c15 c16 c17 c18 c19, cs = [c0, c1, c2, c3, c4, c5, c6, c7, c8, c9, c10, c11, c12, c13, c14, c15, c16, c17, c18, c19] := by
    match cs, hl with
    | [c0, c1, c2, c3, c4, c5, c6, c7, c8, c9, c10, c11, c12, c13, c14, c15, c16, c17, c18, c19], _ => exact ⟨_, _, _, _, _, _, _, _, _, _, _, _, _, _, _, _, _, _, _, _, rfl⟩
  obtain ⟨y0, f0⟩ := field_of hxl hf 0 _ rfl (t := 1) (by kernel_rfl)
  obtain ⟨y1, f1⟩ := field_of hxl hf 1 _ rfl (t := 1) (by kernel_rfl)
  obtain ⟨y2, f2⟩ := field_of hxl hf 2 _ rfl (t := 1) (by kernel_rfl)
  obtain ⟨y3, f3⟩ := field_of hxl hf 3 _ rfl (t := 1) (by kernel_rfl)
  obtain ⟨y4, f4⟩ := field_of hxl hf 4 _ rfl (t := 1) (by kernel_rfl)
  obtain ⟨y5, f5⟩ := field_of hxl hf 5 _ rfl (t := 1) (by kernel_rfl)
  obtain ⟨y6, f6⟩ := field_of hxl hf 6 _ rfl (t := 7) (by kernel_rfl)
  obtain ⟨y7, f7⟩ := field_of hxl hf 7 _ rfl (t := 7) (by kernel_rfl)
  obtain ⟨ps, e0, -, w0⟩ := DataW.trod_int Tryz.underlying3 f0
  obtain ⟨inp, e1, -⟩ := DataW.trod_bool Tryz.underlying4 f1
  obtain ⟨nm, e2, -, w2⟩ := DataW.trod_string Tryz.underlying9 f2
  obtain ⟨ty, e3, -, w3⟩ := DataW.trod_int Tryz.underlying52 f3
  obtain ⟨len, e4, -, w4⟩ := DataW.trod_int Tryz.underlying3 f4
  obtain ⟨rg, e5, -⟩ := DataW.trod_bool Tryz.underlying4 f5
  obtain ⟨lo, e6, hlo⟩ := open_x n _ _ f6
  obtain ⟨hi, e7, hhi⟩ := open_x n _ _ f7
  obtain rfl : c0 = _ := List.head_eq_of_cons_eq e0
  obtain rfl : c1 = _ := List.head_eq_of_cons_eq e1
  obtain rfl : c2 = _ := List.head_eq_of_cons_eq e2
  obtain rfl : c3 = _ := List.head_eq_of_cons_eq e3
  obtain rfl : c4 = _ := List.head_eq_of_cons_eq e4
  obtain rfl : c5 = _ := List.head_eq_of_cons_eq e5
  have q6 : [c6, c7, c8, c9, c10, c11, c12] = lo.h.vs := e6
  simp only [EH.vs, List.cons.injEq, and_true] at q6
  obtain ⟨rfl, rfl, rfl, rfl, rfl, rfl, rfl⟩ := q6
  have q7 : [c13, c14, c15, c16, c17, c18, c19] = hi.h.vs := e7
  simp only [EH.vs, List.cons.injEq, and_true] at q7
  obtain ⟨rfl, rfl, rfl, rfl, rfl, rfl, rfl⟩ := q7
  exact ⟨⟨ps, inp, nm.data.toList, ty, len, rg, lo, hi⟩, rfl, ⟨(i64_of_wf w0).1, (i64_of_wf w0).2, (u8_of_wf w3).1, (u8_of_wf w3).2, (i64_of_wf w4).1, (i64_of_wf w4).2, by rw [← Lib.size_eq]; exact w2⟩, hlo, hhi⟩
theorem open_p (fuel : Nat) (cs : List Value) (x : DataW H × List MemPlace) (h : DataW.trod enc Tryz.prog w base spare held fuel 25 cs = some x) : ∃ p : Pr, cs = [.int .i64 p.ticks, .slice p.ds.ao p.ds.n p.ds.c, .slice p.is.ao p.is.n p.is.c, .slice p.ss.ao p.ss.n p.ss.c] ∧ p.In w.heap.size w := by
  obtain ⟨xs, n, rfl, -, hl, hxl, hf⟩ := DataW.trod_struct Tryz.underlying25 h
  rw [show Tryz.prog.cellsOf 25 = 4 by kernel_rfl] at hl
  obtain ⟨c0, c1, c2, c3, rfl⟩ : ∃ c0 c1 c2 c3, cs = [c0, c1, c2, c3] := by
    match cs, hl with
    | [c0, c1, c2, c3], _ => exact ⟨_, _, _, _, rfl⟩
  obtain ⟨y0, f0⟩ := field_of hxl hf 0 _ rfl (t := 1) (by kernel_rfl)
  obtain ⟨y1, f1⟩ := field_of hxl hf 1 _ rfl (t := 1) (by kernel_rfl)
  obtain ⟨y2, f2⟩ := field_of hxl hf 2 _ rfl (t := 1) (by kernel_rfl)
  obtain ⟨y3, f3⟩ := field_of hxl hf 3 _ rfl (t := 1) (by kernel_rfl)
  obtain ⟨tk, e0, -, w0⟩ := DataW.trod_int Tryz.underlying3 f0
  obtain ⟨sD, kD, e1, hsD, hrD, hkD⟩ := open_list (sz := 20) (by decide) Tryz.underlying22 (by kernel_rfl) (fun d : De => dcvs d d.lo.h d.hi.h) (fun d => d.In w.heap.size w) (fun m _ cs x h => open_d m cs x h) f1
  obtain ⟨sI, kI, e2, hsI, hrI, hkI⟩ := open_list (sz := 15) (by decide) Tryz.underlying23 (by kernel_rfl) (fun s : St => stvs s.h s.e.h) (fun s => s.In w.heap.size w) (fun m _ cs x h => open_s m cs x h) f2
  obtain ⟨sS, kS, e3, hsS, hrS, hkS⟩ := open_list (sz := 15) (by decide) Tryz.underlying23 (by kernel_rfl) (fun s : St => stvs s.h s.e.h) (fun s => s.In w.heap.size w) (fun m _ cs x h => open_s m cs x h) f3
  obtain rfl : c0 = _ := List.head_eq_of_cons_eq e0
  obtain rfl : c1 = _ := List.head_eq_of_cons_eq e1
  obtain rfl : c2 = _ := List.head_eq_of_cons_eq e2
  obtain rfl : c3 = _ := List.head_eq_of_cons_eq e3
  exact ⟨⟨tk, sD, kD, sI, kI, sS, kS⟩, rfl, i64_of_wf w0, ⟨hsD, hrD, hkD⟩, ⟨hsI, hrI, hkI⟩, ⟨hsS, hrS, hkS⟩⟩
theorem open_prog {r : Reach} {bb : Nat} {v : Value} {d : DataW H} {p : List MemPlace} (hv : Value.okWide Tryz.prog w r bb 25 v) (h : DataW.Trod enc Tryz.prog w base spare held 25 v d p) : ∃ q : Pr, v = q.v ∧ q.In w.heap.size w := by
  unfold Value.okWide at hv
  rw [Tryz.underlying25] at hv
  obtain ⟨cs, rfl, -, -⟩ := hv
  obtain ⟨fuel, hf⟩ := h
  obtain ⟨q, e, hq⟩ := open_p fuel _ _ hf
  refine ⟨q, ?_, hq⟩
  have e' : cs.toList = _ := e
  unfold Pr.v
  congr 1
  exact Array.ext' e'
end
end Go.Proofs.YtgjgcehoakacoaaGreatDoor
namespace Go.Proofs.YtgjgcehoakacoaaGreatDoor
open Go.ChangeShapes Go.WideShapes Go.ChangeAt Go.RowKit Go.Joins
set_option maxRecDepth 100000

/-- What the rows list: five variables of the library, and the signs. -/
abbrev theLaid8 : List (String × DataW Unit) := [("math/bits.deBruijn32tab", Rows.laid_math_bits_deBruijn32tab), ("math/bits.deBruijn64tab", Rows.laid_math_bits_deBruijn64tab), ("internal/strconv.uint64pow10", Rows.laid_internal_strconv_uint64pow10), ("unicode/utf8.acceptRanges", Rows.laid_unicode_utf8_acceptRanges), ("flyball/tree.signs", Rows.laid_flyball_tree_signs), ("unicode/utf8.first", Rows.laid_unicode_utf8_first)]
theorem pow10_type : (Tryz.prog.globals[2]?).map (·.type) = some 196 := by kernel_rfl
theorem pow10_laid : (Rows.laid_internal_strconv_uint64pow10 : DataW Unit) = Lib.tabData .u64 Lib.pow10Tab := by kernel_rfl
theorem sign_at (xs : List (DataW Unit)) (h : (Rows.laid_flyball_tree_signs : DataW Unit) = .agg xs) (j : Nat) (hj : j < 12) : xs[j]? = some (.lit (.string (signB ((j : Int) + 5)))) := by
  have e : xs = [.lit (.string [43]), .lit (.string [45]), .lit (.string [42]), .lit (.string [47]), .lit (.string [60]), .lit (.string [60, 61]), .lit (.string [61, 61]), .lit (.string [33, 61]), .lit (.string [62]), .lit (.string [62, 61]), .lit (.string [38, 38]), .lit (.string [124, 124])] := (DataW.agg.inj h).symm
  subst e
  match j, hj with
  | 0, _ => rfl
  | 1, _ => rfl
  | 2, _ => rfl
  | 3, _ => rfl
  | 4, _ => rfl
  | 5, _ => rfl
  | 6, _ => rfl
  | 7, _ => rfl
  | 8, _ => rfl
  | 9, _ => rfl
  | 10, _ => rfl
  | 11, _ => rfl
/-- The tables that the walks ask of a world. -/
def E10 (W : World) : Prop := EnvOk W ∧ SgOk W
theorem tabs_of_laid8 {W : World} (h : laidMetH Tryz.prog theLaid8 W) : (TabOk W ∧ Lib.TabIs Tryz.prog W "internal/strconv.uint64pow10" .u64 Lib.pow10Tab) ∧ SgOk W := by
  rw [MakeChecks.laidMetH_plain _ _ _ (by kernel_rfl)] at h
  obtain ⟨ps, ⟨g0, t0, cs0, f0, p0, q0, hg0, ht0, hv0, hd0, ⟨g1, t1, cs1, f1, p1, q1, hg1, ht1, hv1, hd1, ⟨g2, t2, cs2, f2, p2, q2, hg2, ht2, hv2, hd2, ⟨g3, t3, cs3, f3, p3, q3, hg3, ht3, hv3, hd3, ⟨g4, t4, cs4, f4, p4, q4, hg4, ht4, hv4, hd4, _, _⟩, _⟩, _⟩, _⟩, _⟩, _⟩ := h
  refine ⟨⟨?_, ?_⟩, ?_⟩
  · obtain rfl := Option.some.inj (gTab.symm.trans hg0)
    obtain rfl := Option.some.inj (tTab.symm.trans ht0)
    obtain ⟨xs, m1, rfl, hx1, hlen, hn, hel⟩ := DataW.trod_array Tryz.underlying224 hd0
    have c5 : Tryz.prog.cellsOf 5 = 1 := by kernel_rfl
    simp only [Prod.mk.injEq] at hx1
    have hx2 : Rows.laid_math_bits_deBruijn32tab = DataW.agg (xs.map (·.1)) := hx1.1
    intro j hj
    rw [World.var?_cell hg0 hv0 j]
    have he := hel j hj
    rw [c5, Nat.mul_one] at he
    have hjx : j < xs.length := by omega
    rw [List.getElem?_eq_getElem hjx] at he
    obtain ⟨k, e1, e2, _⟩ := DataW.trod_int Tryz.underlying5 he
    have e3 : (xs.map (·.1))[j]? = some (.lit (.int .u8 k)) := by rw [List.getElem?_map, List.getElem?_eq_getElem hjx, e2]; rfl
    have e5 := (tab_at _ hx2 j hj).symm.trans e3
    simp only [Option.some.injEq, DataW.lit.injEq, Lit.int.injEq, true_and] at e5
    have e6 : cs0.toList[j]? = some (.int .u8 k) := by
      have : ((cs0.toList.drop j).take 1)[0]? = some (.int .u8 k) := by rw [e1]; rfl
      rw [List.getElem?_take, if_pos (by decide), List.getElem?_drop] at this
      simpa using this
    rw [← Array.getElem?_toList, e6, e5]
  · obtain rfl := Option.some.inj (pow10_var.symm.trans hg2)
    obtain rfl := Option.some.inj (pow10_type.symm.trans ht2)
    rw [pow10_laid] at hd2
    unfold Lib.TabIs
    rw [hv2, ← Lib.cells_of_tab Tryz.underlying196 Tryz.underlying34 (by kernel_rfl) (by kernel_rfl) hd2]
  · obtain rfl := Option.some.inj ((show Tryz.prog.globalNamed "flyball/tree.signs" = some 0 by kernel_rfl).symm.trans hg4)
    obtain rfl := Option.some.inj ((show (Tryz.prog.globals[0]?).map (·.type) = some 143 by kernel_rfl).symm.trans ht4)
    obtain ⟨xs, m1, rfl, hx1, hlen, hn, hel⟩ := DataW.trod_array Tryz.underlying143 hd4
    have c9 : Tryz.prog.cellsOf 9 = 1 := by kernel_rfl
    simp only [Prod.mk.injEq] at hx1
    have hx2 : Rows.laid_flyball_tree_signs = DataW.agg (xs.map (·.1)) := hx1.1
    intro j hj
    rw [World.var?_cell hg4 hv4 j]
    have he := hel j hj
    rw [c9, Nat.mul_one] at he
    have hjx : j < xs.length := by omega
    rw [List.getElem?_eq_getElem hjx] at he
    obtain ⟨s, e1, e2, _⟩ := DataW.trod_string Tryz.underlying9 he
    have e3 : (xs.map (·.1))[j]? = some (.lit (.string s.data.toList)) := by rw [List.getElem?_map, List.getElem?_eq_getElem hjx, e2]; rfl
    have e5 := (sign_at _ hx2 j hj).symm.trans e3
    simp only [Option.some.injEq, DataW.lit.injEq, Lit.string.injEq] at e5
    have e6 : cs4.toList[j]? = some (.string s) := by
      have : ((cs4.toList.drop j).take 1)[0]? = some (.string s) := by rw [e1]; rfl
      rw [List.getElem?_take, if_pos (by decide), List.getElem?_drop] at this
      simpa using this
    rw [← Array.getElem?_toList, e6, e5]
theorem env_of8 {W : World} (h : laidMetH Tryz.prog theLaid8 W) (hs : W.ShapedOpen Tryz.prog) : E10 W :=
  ⟨⟨(tabs_of_laid8 h).1.1, (tabs_of_laid8 h).1.2, cell_of_shapedOpen_int (zero := #[.int .i64 0]) (t := 3) hs (of_decide_eq_true (by kernel_rfl)) (by kernel_rfl) rfl (by kernel_rfl) (by kernel_rfl) Tryz.underlying3⟩, (tabs_of_laid8 h).2⟩
theorem laid8_met (os : Os) (args : Array Value) : laidMetH Tryz.prog theLaid8 ((World.laidAll Tryz.prog os theLaid8).forCall (fun _ _ => 0) ⟨#[], args, []⟩).memory := by
  rw [MakeChecks.laidMetH_plain _ _ _ (by kernel_rfl)]
  exact laidMet_laidAll _ (by kernel_rfl) (by kernel_rfl)
/-- The wrap, with the listed variables and the world's shape at hand. -/
theorem lift8 {H : Type} {enc : TypeId × Value → H} {os : Os} {f : FuncId} {fn : Func} {s : ChangeSpec} (started : os.Started) (noInit : Tryz.checked.prog.inits.idxOf? f = none) (hfn : Tryz.checked.prog.funcs[f]? = some fn)
    (witness : ∃ (w : World) (tape : Tape) (i : Input), w.os = os ∧ (w.forCall tape i).Shaped Tryz.checked.prog ∧ i.vars = [] ∧ Input.okWide Tryz.checked.prog (w.forCall tape i) .any w.heap.size f i ∧
      ((s.pre enc Tryz.checked.prog fn [] false (w.forCall tape i).memory i.args ∧ laidMetH Tryz.prog theLaid8 (w.forCall tape i).memory) ∧ sizedMet enc Tryz.checked.prog fn (OpenSpec.ofChange s) false (w.forCall tape i).memory i.args) ∧ ({} : Assume).holds Tryz.checked.prog (lone (Frame.enter Tryz.checked.prog f i.args .normal) [] (w.forCall tape i)))
    (walk : ∀ (W : World) (base : Nat) (args : Array Value) (ds gs : List (DataW H)) (before : List MemPlace),
      (∀ (j : Nat) t v, fn.params[j]? = some t → args[j]? = some v → Value.okWide Tryz.checked.prog W .any base t v) → DataW.Whole enc Tryz.checked.prog fn.params.toList s.vars false W args.toList ds gs before → E10 W →
      Calls Tryz.checked.prog f args W fun e W' => ∃ v, e = .returned v ∧ s.post enc Tryz.checked.prog fn false true false false W args v W') :
    ReturnsInHanded {} Tryz.checked os f .any (fun w args => (s.pre enc Tryz.checked.prog fn [] false w args ∧ laidMetH Tryz.prog theLaid8 w) ∧ sizedMet enc Tryz.checked.prog fn (OpenSpec.ofChange s) false w args) (s.post enc Tryz.checked.prog fn false true false false) := by
  refine returnsInHanded_of_calls own started noInit witness ?_
  intro w tape i _ hsh _ hok hpre _
  obtain ⟨_, _, _, fn', hfn', _, _, _, _, hval⟩ := hok
  obtain rfl : fn' = fn := Option.some.inj (hfn'.symm.trans hfn)
  obtain ⟨⟨⟨ds, gs, before, hw, -⟩, hx⟩, -⟩ := hpre
  refine (walk (w.forCall tape i) w.heap.size i.args ds gs before hval (DataW.Whole.of_heap (w' := w.forCall tape i) (by rfl) hw) (env_of8 (hx.of_heap (by rfl)) hsh)).mono fun e W' ⟨v, he, hp⟩ => ?_
  subst he
  exact ChangeSpec.post_blind hp
end Go.Proofs.YtgjgcehoakacoaaGreatDoor
