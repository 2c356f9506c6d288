/-
  ParseTrees holds, tied to the program's text. (part 29 of 35) Conditions: none beside what the card ties.
-/
import Derived.Test.YthmlhkllbichgaaGreatDoorVbb
import Derived.Test.YthmlhkllbichgaaGreatDoorVab
namespace Go.Proofs.YthmlhkllbichgaaGreatDoor
open Go.RowKit
set_option maxRecDepth 100000
theorem ta_hit (v : Value) (w : World) : (Instr.typeAssert (.iface 66 v) 20 66 true).run Tryz.prog w = .ok (.tuple #[v, .bool true]) w := by kernel_rfl
theorem ta_nil (w : World) : (Instr.typeAssert .nilIface 20 66 true).run Tryz.prog w = .ok (.tuple #[.agg #[.int .i64 0, .int .i64 0], .bool false]) w := by kernel_rfl
set_option maxHeartbeats 1600000 in
theorem pc_panicking (b1 b2 : Nat) (x y c p : Int) (older : List PanicEntry) (w : World) (h1 : Blk w b1 24 #[.int .i64 x]) (h2 : Blk w b2 3 #[.int .i64 y]) (hb : b1 ≠ b2) :
  CallsD Tryz.prog 27 #[.pointer (some ⟨b1, 0, none⟩), .pointer (some ⟨b2, 0, none⟩)] (.panicking ({ v := .iface 66 (.agg #[.int .i64 c, .int .i64 p]), recovered := false } :: older)) w fun e u' w' =>
   e = .returned (.tuple #[]) ∧ u' = .panicking ({ v := .iface 66 (.agg #[.int .i64 c, .int .i64 p]), recovered := true } :: older) ∧ Blk w' b1 24 #[.int .i64 c] ∧ Blk w' b2 3 #[.int .i64 p] ∧ Fx (Two b1 b2) w.heap.size w w' := by
 refine callsD_of_wpS Tryz.func27 rfl fun c₀ cs hu => ?_
 have hrec : recV (c₀ :: cs) = (.iface 66 (.agg #[.int .i64 c, .int .i64 p]), { c₀ with mode := .panicking ({ v := .iface 66 (.agg #[.int .i64 c, .int .i64 p]), recovered := true } :: older) } :: cs) := by
  simp [recV, recoverD, hu]
 refine wpS_seq_rec rfl rfl hrec ?_
 clear hrec
 have ta := ta_hit
 simp only [Tryz.ntmps27, List.size_toArray, List.length_cons, List.length_nil, Nat.reduceAdd, Nat.reduceSub, Array.replicate_succ, Array.replicate_zero, List.push_toArray, List.append_toArray, List.nil_append, List.cons_append]
 go_wp2_with fail
 have l1 := h1.lt
 have l2 := h2.lt
 have n1 := Hj (h1.alloc (.cells #[.int .i64 c, .int .i64 p] 66))
 have n2 := Hj (h2.alloc (.cells #[.int .i64 c, .int .i64 p] 66))
 have nf : Blk (w.alloc (.cells #[.int .i64 c, .int .i64 p] 66)) w.heap.size 66 #[.int .i64 c, .int .i64 p] := Blk.new _ _ _
 have HF := Hj (fx_alloc (Fx.refl (Two b1 b2) _ w) (.cells #[.int .i64 c, .int .i64 p] 66))
 have HB : Hid (b1 ≠ b2 ∧ b1 ≠ w.heap.size ∧ b2 ≠ w.heap.size) := ⟨hb, by omega, by omega⟩
 have HS0 : ((w.alloc (.cells #[.int .i64 c, .int .i64 p] 66)).drew).cell? ⟨w.heap.size, 0, none⟩ = some (.int .i64 c) ∧ ((w.alloc (.cells #[.int .i64 c, .int .i64 p] 66)).drew).cell? ⟨w.heap.size, 1, none⟩ = some (.int .i64 p) := ⟨nf.cell 0, nf.cell 1⟩
 have FN := Hj nf
 clear h1 h2 l1 l2 nf ta hb hu
 generalize w.alloc (.cells #[.int .i64 c, .int .i64 p] 66) = w1 at *
 refine region_tree (S := fun w' => w'.cell? ⟨w.heap.size, 0, none⟩ = some (.int .i64 c) ∧ w'.cell? ⟨w.heap.size, 1, none⟩ = some (.int .i64 p)) _ (.take 0 (.take 1 (.take 2 (.take 3 (.two 4 (.act 5 .done) 5 (.act 4 .done)))))) (by kernel_rfl) (by kernel_rfl) rfl (by kernel_rfl) (by kernel_rfl) (fun _ _ d _ _ h => by cases d <;> exact h) HS0 ?_
 clear HS0
 iterate 4
  refine WalkT.take (v := ?_) rfl (by rfl) ?_ ?_
  rotate_left
  ·(intro w' hSw; have s1 := hSw.1; have s2 := hSw.2; clear hSw; go_simp <;> with_reducible rfl)
  try simp only [Act.put, List.setIfInBounds_toArray, List.set_cons_zero, List.set_cons_succ]
 refine ⟨wpOp_of rfl (by rfl) (fun K' hK => ?_), wpOp_of rfl (by rfl) (fun K' hK => ?_)⟩
 ·have ma := n1.out.cell 0
  have za := n1.out.frozen 0
  go_simp
  have fa : Blk (w1.drew.setCell ⟨b1, 0, none⟩ (.int .i64 c)) w.heap.size 66 #[.int .i64 c, .int .i64 p] := (Blk.drew FN.out).far (p := ⟨b1, 0, none⟩) (Ne.symm HB.out.2.1) _
  have aa := Hj ((Blk.drew n1.out).set_ 0 (.int .i64 c))
  have ab : Blk (w1.drew.setCell ⟨b1, 0, none⟩ (.int .i64 c)) _ _ _ := (Blk.drew n2.out).far (p := ⟨b1, 0, none⟩) (Ne.symm HB.out.1) (.int .i64 c)
  have ff := Hj (fx_set (fx_bel HF.out (bel_drew (Below.refl _ w1))) (p := ⟨b1, 0, none⟩) (.inl (.inl rfl)) (.int .i64 c))
  refine hK.out _ _ ⟨fa.cell 0, fa.cell 1⟩ ?_
  clear hK K' ma za
  try simp only [Act.put]
  change WalkT _ _ _ _ _ _ (w1.drew.setCell ⟨b1, 0, none⟩ (.int .i64 c))
  generalize (w1.drew.setCell ⟨b1, 0, none⟩ (.int .i64 c)) = w5 at *
  refine WalkT.act rfl (by rfl) (fun K' hK => ?_)
  have mb := ab.cell 0
  have zb := ab.frozen 0
  go_simp
  have fb : Blk (w5.setCell ⟨b2, 0, none⟩ (.int .i64 p)) w.heap.size 66 #[.int .i64 c, .int .i64 p] := fa.far (p := ⟨b2, 0, none⟩) (Ne.symm HB.out.2.2) _
  refine hK.out _ _ ⟨fb.cell 0, fb.cell 1⟩ ?_
  clear hK K' mb zb
  try simp only [Act.put]
  refine WalkT.done ?_
  exact ⟨rfl, _, rfl, _, results_none rfl _ _ _, rfl, rfl, (aa.out.far (p := ⟨b2, 0, none⟩) HB.out.1 _), (ab.set_ 0 (.int .i64 p)), fx_set ff.out (p := ⟨b2, 0, none⟩) (.inl (.inr rfl)) _⟩
 ·have ma := n2.out.cell 0
  have za := n2.out.frozen 0
  go_simp
  have fa : Blk (w1.drew.setCell ⟨b2, 0, none⟩ (.int .i64 p)) w.heap.size 66 #[.int .i64 c, .int .i64 p] := (Blk.drew FN.out).far (p := ⟨b2, 0, none⟩) (Ne.symm HB.out.2.2) _
  have aa := Hj ((Blk.drew n2.out).set_ 0 (.int .i64 p))
  have ab : Blk (w1.drew.setCell ⟨b2, 0, none⟩ (.int .i64 p)) _ _ _ := (Blk.drew n1.out).far (p := ⟨b2, 0, none⟩) HB.out.1 (.int .i64 p)
  have ff := Hj (fx_set (fx_bel HF.out (bel_drew (Below.refl _ w1))) (p := ⟨b2, 0, none⟩) (.inl (.inr rfl)) (.int .i64 p))
  refine hK.out _ _ ⟨fa.cell 0, fa.cell 1⟩ ?_
  clear hK K' ma za
  try simp only [Act.put]
  change WalkT _ _ _ _ _ _ (w1.drew.setCell ⟨b2, 0, none⟩ (.int .i64 p))
  generalize (w1.drew.setCell ⟨b2, 0, none⟩ (.int .i64 p)) = w5 at *
  refine WalkT.act rfl (by rfl) (fun K' hK => ?_)
  have mb := ab.cell 0
  have zb := ab.frozen 0
  go_simp
  have fb : Blk (w5.setCell ⟨b1, 0, none⟩ (.int .i64 c)) w.heap.size 66 #[.int .i64 c, .int .i64 p] := fa.far (p := ⟨b1, 0, none⟩) (Ne.symm HB.out.2.1) _
  refine hK.out _ _ ⟨fb.cell 0, fb.cell 1⟩ ?_
  clear hK K' mb zb
  try simp only [Act.put]
  refine WalkT.done ?_
  exact ⟨rfl, _, rfl, _, results_none rfl _ _ _, rfl, rfl, (ab.set_ 0 (.int .i64 c)), (aa.out.far (p := ⟨b1, 0, none⟩) (Ne.symm HB.out.1) _), fx_set ff.out (p := ⟨b1, 0, none⟩) (.inl (.inl rfl)) _⟩
set_option maxHeartbeats 1600000 in
theorem pc_idle (b1 b2 : Nat) (w : World) :
  CallsD Tryz.prog 27 #[.pointer (some ⟨b1, 0, none⟩), .pointer (some ⟨b2, 0, none⟩)] .returning w fun e u' w' => e = .returned (.tuple #[]) ∧ u' = .returning ∧ Below w.heap.size w w' := by
 refine callsD_of_wpS Tryz.func27 rfl fun c₀ cs hu => ?_
 have hrec : recV (c₀ :: cs) = (.nilIface, { c₀ with mode := .returning } :: cs) := by
  cases c₀
  cases hu
  rfl
 refine wpS_seq_rec rfl rfl hrec ?_
 clear hrec
 have ta := ta_nil
 simp only [Tryz.ntmps27, List.size_toArray, List.length_cons, List.length_nil, Nat.reduceAdd, Nat.reduceSub, Array.replicate_succ, Array.replicate_zero, List.push_toArray, List.append_toArray, List.nil_append, List.cons_append]
 go_wp2_with fail
 exact ⟨rfl, _, rfl, _, results_none rfl _ _ _, rfl, rfl, bel_one w _⟩
set_option maxHeartbeats 1600000 in
theorem px_panicking (b1 b2 : Nat) (x y c p : Int) (older : List PanicEntry) (w : World) (h1 : Blk w b1 24 #[.int .i64 x]) (h2 : Blk w b2 3 #[.int .i64 y]) (hb : b1 ≠ b2) :
  CallsD Tryz.prog 39 #[.pointer (some ⟨b1, 0, none⟩), .pointer (some ⟨b2, 0, none⟩)] (.panicking ({ v := .iface 66 (.agg #[.int .i64 c, .int .i64 p]), recovered := false } :: older)) w fun e u' w' =>
   e = .returned (.tuple #[]) ∧ u' = .panicking ({ v := .iface 66 (.agg #[.int .i64 c, .int .i64 p]), recovered := true } :: older) ∧ Blk w' b1 24 #[.int .i64 c] ∧ Blk w' b2 3 #[.int .i64 p] ∧ Fx (Two b1 b2) w.heap.size w w' := by
 refine callsD_of_wpS Tryz.func39 rfl fun c₀ cs hu => ?_
 have hrec : recV (c₀ :: cs) = (.iface 66 (.agg #[.int .i64 c, .int .i64 p]), { c₀ with mode := .panicking ({ v := .iface 66 (.agg #[.int .i64 c, .int .i64 p]), recovered := true } :: older) } :: cs) := by
  simp [recV, recoverD, hu]
 refine wpS_seq_rec rfl rfl hrec ?_
 clear hrec
 have ta := ta_hit
 simp only [Tryz.ntmps39, List.size_toArray, List.length_cons, List.length_nil, Nat.reduceAdd, Nat.reduceSub, Array.replicate_succ, Array.replicate_zero, List.push_toArray, List.append_toArray, List.nil_append, List.cons_append]
 go_wp2_with fail
 have l1 := h1.lt
 have l2 := h2.lt
 have n1 := Hj (h1.alloc (.cells #[.int .i64 c, .int .i64 p] 66))
 have n2 := Hj (h2.alloc (.cells #[.int .i64 c, .int .i64 p] 66))
 have nf : Blk (w.alloc (.cells #[.int .i64 c, .int .i64 p] 66)) w.heap.size 66 #[.int .i64 c, .int .i64 p] := Blk.new _ _ _
 have HF := Hj (fx_alloc (Fx.refl (Two b1 b2) _ w) (.cells #[.int .i64 c, .int .i64 p] 66))
 have HB : Hid (b1 ≠ b2 ∧ b1 ≠ w.heap.size ∧ b2 ≠ w.heap.size) := ⟨hb, by omega, by omega⟩
 have HS0 : ((w.alloc (.cells #[.int .i64 c, .int .i64 p] 66)).drew).cell? ⟨w.heap.size, 0, none⟩ = some (.int .i64 c) ∧ ((w.alloc (.cells #[.int .i64 c, .int .i64 p] 66)).drew).cell? ⟨w.heap.size, 1, none⟩ = some (.int .i64 p) := ⟨nf.cell 0, nf.cell 1⟩
 have FN := Hj nf
 clear h1 h2 l1 l2 nf ta hb hu
 generalize w.alloc (.cells #[.int .i64 c, .int .i64 p] 66) = w1 at *
 refine region_tree (S := fun w' => w'.cell? ⟨w.heap.size, 0, none⟩ = some (.int .i64 c) ∧ w'.cell? ⟨w.heap.size, 1, none⟩ = some (.int .i64 p)) _ (.take 0 (.take 1 (.take 2 (.take 3 (.two 4 (.act 5 .done) 5 (.act 4 .done)))))) (by kernel_rfl) (by kernel_rfl) rfl (by kernel_rfl) (by kernel_rfl) (fun _ _ d _ _ h => by cases d <;> exact h) HS0 ?_
 clear HS0
 iterate 4
  refine WalkT.take (v := ?_) rfl (by rfl) ?_ ?_
  rotate_left
  ·(intro w' hSw; have s1 := hSw.1; have s2 := hSw.2; clear hSw; go_simp <;> with_reducible rfl)
  try simp only [Act.put, List.setIfInBounds_toArray, List.set_cons_zero, List.set_cons_succ]
 refine ⟨wpOp_of rfl (by rfl) (fun K' hK => ?_), wpOp_of rfl (by rfl) (fun K' hK => ?_)⟩
 ·have ma := n1.out.cell 0
  have za := n1.out.frozen 0
  go_simp
  have fa : Blk (w1.drew.setCell ⟨b1, 0, none⟩ (.int .i64 c)) w.heap.size 66 #[.int .i64 c, .int .i64 p] := (Blk.drew FN.out).far (p := ⟨b1, 0, none⟩) (Ne.symm HB.out.2.1) _
  have aa := Hj ((Blk.drew n1.out).set_ 0 (.int .i64 c))
  have ab : Blk (w1.drew.setCell ⟨b1, 0, none⟩ (.int .i64 c)) _ _ _ := (Blk.drew n2.out).far (p := ⟨b1, 0, none⟩) (Ne.symm HB.out.1) (.int .i64 c)
  have ff := Hj (fx_set (fx_bel HF.out (bel_drew (Below.refl _ w1))) (p := ⟨b1, 0, none⟩) (.inl (.inl rfl)) (.int .i64 c))
  refine hK.out _ _ ⟨fa.cell 0, fa.cell 1⟩ ?_
  clear hK K' ma za
  try simp only [Act.put]
  change WalkT _ _ _ _ _ _ (w1.drew.setCell ⟨b1, 0, none⟩ (.int .i64 c))
  generalize (w1.drew.setCell ⟨b1, 0, none⟩ (.int .i64 c)) = w5 at *
  refine WalkT.act rfl (by rfl) (fun K' hK => ?_)
  have mb := ab.cell 0
  have zb := ab.frozen 0
  go_simp
  have fb : Blk (w5.setCell ⟨b2, 0, none⟩ (.int .i64 p)) w.heap.size 66 #[.int .i64 c, .int .i64 p] := fa.far (p := ⟨b2, 0, none⟩) (Ne.symm HB.out.2.2) _
  refine hK.out _ _ ⟨fb.cell 0, fb.cell 1⟩ ?_
  clear hK K' mb zb
  try simp only [Act.put]
  refine WalkT.done ?_
  exact ⟨rfl, _, rfl, _, results_none rfl _ _ _, rfl, rfl, (aa.out.far (p := ⟨b2, 0, none⟩) HB.out.1 _), (ab.set_ 0 (.int .i64 p)), fx_set ff.out (p := ⟨b2, 0, none⟩) (.inl (.inr rfl)) _⟩
 ·have ma := n2.out.cell 0
  have za := n2.out.frozen 0
  go_simp
  have fa : Blk (w1.drew.setCell ⟨b2, 0, none⟩ (.int .i64 p)) w.heap.size 66 #[.int .i64 c, .int .i64 p] := (Blk.drew FN.out).far (p := ⟨b2, 0, none⟩) (Ne.symm HB.out.2.2) _
  have aa := Hj ((Blk.drew n2.out).set_ 0 (.int .i64 p))
  have ab : Blk (w1.drew.setCell ⟨b2, 0, none⟩ (.int .i64 p)) _ _ _ := (Blk.drew n1.out).far (p := ⟨b2, 0, none⟩) HB.out.1 (.int .i64 p)
  have ff := Hj (fx_set (fx_bel HF.out (bel_drew (Below.refl _ w1))) (p := ⟨b2, 0, none⟩) (.inl (.inr rfl)) (.int .i64 p))
  refine hK.out _ _ ⟨fa.cell 0, fa.cell 1⟩ ?_
  clear hK K' ma za
  try simp only [Act.put]
  change WalkT _ _ _ _ _ _ (w1.drew.setCell ⟨b2, 0, none⟩ (.int .i64 p))
  generalize (w1.drew.setCell ⟨b2, 0, none⟩ (.int .i64 p)) = w5 at *
  refine WalkT.act rfl (by rfl) (fun K' hK => ?_)
  have mb := ab.cell 0
  have zb := ab.frozen 0
  go_simp
  have fb : Blk (w5.setCell ⟨b1, 0, none⟩ (.int .i64 c)) w.heap.size 66 #[.int .i64 c, .int .i64 p] := fa.far (p := ⟨b1, 0, none⟩) (Ne.symm HB.out.2.1) _
  refine hK.out _ _ ⟨fb.cell 0, fb.cell 1⟩ ?_
  clear hK K' mb zb
  try simp only [Act.put]
  refine WalkT.done ?_
  exact ⟨rfl, _, rfl, _, results_none rfl _ _ _, rfl, rfl, (ab.set_ 0 (.int .i64 c)), (aa.out.far (p := ⟨b1, 0, none⟩) (Ne.symm HB.out.1) _), fx_set ff.out (p := ⟨b1, 0, none⟩) (.inl (.inl rfl)) _⟩
set_option maxHeartbeats 1600000 in
theorem px_idle (b1 b2 : Nat) (w : World) :
  CallsD Tryz.prog 39 #[.pointer (some ⟨b1, 0, none⟩), .pointer (some ⟨b2, 0, none⟩)] .returning w fun e u' w' => e = .returned (.tuple #[]) ∧ u' = .returning ∧ Below w.heap.size w w' := by
 refine callsD_of_wpS Tryz.func39 rfl fun c₀ cs hu => ?_
 have hrec : recV (c₀ :: cs) = (.nilIface, { c₀ with mode := .returning } :: cs) := by
  cases c₀
  cases hu
  rfl
 refine wpS_seq_rec rfl rfl hrec ?_
 clear hrec
 have ta := ta_nil
 simp only [Tryz.ntmps39, List.size_toArray, List.length_cons, List.length_nil, Nat.reduceAdd, Nat.reduceSub, Array.replicate_succ, Array.replicate_zero, List.push_toArray, List.append_toArray, List.nil_append, List.cons_append]
 go_wp2_with fail
 exact ⟨rfl, _, rfl, _, results_none rfl _ _ _, rfl, rfl, bel_one w _⟩
theorem results_row3 {P : Program} {fn : Func} {p q r : Tmp} {ty tq tr : TypeId} (h : fn.results = #[.cell p ty, .cell q tq, .cell r tr]) (tmps : Array Value) (w : World) (g : Nat) (t : TypeId) (cs : Array Value) (d : TypeDesc) (b c : Nat) (x y : Value)
  (hp : tmps.getD p undef = .pointer (some ⟨g, 0, none⟩)) (hq : tmps.getD q undef = .pointer (some ⟨b, 0, none⟩)) (hr : tmps.getD r undef = .pointer (some ⟨c, 0, none⟩)) (hg : Blk w g t cs)
  (hu : P.underlying ty = some d) (hd : (match d with | .struct _ | .array _ _ => true | _ => false) = true) (hi : (P.info? ty).map (·.size) = some cs.size)
  (hx : (loadVar tq ⟨b, 0, none⟩).run P w = .ok x w) (hy : (loadVar tr ⟨c, 0, none⟩).run P w = .ok y w) :
  (results fn tmps).run P w = .ok (.tuple #[.agg cs, x, y]) w := by
 have hp' : tmps[p]?.getD undef = .pointer (some ⟨g, 0, none⟩) := by simpa using hp
 have hq' : tmps[q]?.getD undef = .pointer (some ⟨b, 0, none⟩) := by simpa using hq
 have hr' : tmps[r]?.getD undef = .pointer (some ⟨c, 0, none⟩) := by simpa using hr
 simp [results, h, hp', hq', hr', asAddr, run_loadVar_row w g t ty cs (0, 0) d hg hu hd hi, hx, hy]
theorem ld_err {w : World} {b : Nat} {x : Value} (h : Blk w b 24 #[x]) : (loadVar 24 ⟨b, 0, none⟩).run Tryz.prog w = .ok x w := by
 have hc : w.cell? ⟨b, 0, none⟩ = some x := h.cell 0
 clear h
 go_simp
theorem ld_int {w : World} {b : Nat} {x : Value} (h : Blk w b 3 #[x]) : (loadVar 3 ⟨b, 0, none⟩).run Tryz.prog w = .ok x w := by
 have hc : w.cell? ⟨b, 0, none⟩ = some x := h.cell 0
 clear h
 go_simp
def Rs.er {α : Type} : Rs α → Int
 | .ok _ _ => 0
 | .no c _ => c
def Rs.pl {α : Type} : Rs α → Int
 | .ok _ _ => 0
 | .no _ p => p
def Rs.va {α : Type} (z : α) : Rs α → α
 | .ok a _ => a
 | .no _ _ => z
def rsP (l : List UInt8) : Rs Pr := if (lexV l).2.1 = 0 then prog ⟨(lexV l).1, 0, 0⟩ else .no (lexV l).2.1 ((lexV l).2.2 : Nat)
def rsX (l : List UInt8) : Rs Ex := if (lexV l).2.1 = 0 then oneX 24 ⟨(lexV l).1, 0, 0⟩ else .no (lexV l).2.1 ((lexV l).2.2 : Nat)
def noPr : Pr := ⟨0, ⟨none, 0, 0⟩, fun _ => zeroD, ⟨none, 0, 0⟩, fun _ => .no, ⟨none, 0, 0⟩, fun _ => .no⟩
theorem noPr_v (L : Nat) (w : World) : VP L noPr (prv 0 ⟨none, 0, 0⟩ ⟨none, 0, 0⟩ ⟨none, 0, 0⟩) w :=
 ⟨noPr, rfl, ⟨⟨by decide, by decide⟩, ⟨sl_no, (fun a ha => by cases ha), fun i hi => absurd hi (Nat.not_lt_zero i)⟩, xb_no, xb_no⟩,
  rfl, ⟨rfl, fun i hi => absurd hi (Nat.not_lt_zero i)⟩, ⟨rfl, fun i hi => absurd hi (Nat.not_lt_zero i)⟩, ⟨rfl, fun i hi => absurd hi (Nat.not_lt_zero i)⟩⟩
theorem XPr.fx {X D : Nat → Prop} {p : Pr} {w w' : World} (h : XPr D p w) (hf : Fx X w.heap.size w w') (hX : ∀ k, X k → ¬ D k) : XPr D p w' :=
 ⟨h.1, DsIn.stay h.2.1 (stay_fx hf hX) hf.size, SsIn.stay h.2.2.1 (stay_fx hf hX) hf.size, SsIn.stay h.2.2.2 (stay_fx hf hX) hf.size⟩
theorem XPr.imp {D D' : Nat → Prop} {p : Pr} {w : World} (h : XPr D p w) (hD : ∀ k, k < w.heap.size → D k → D' k) : XPr D' p w :=
 ⟨h.1, DsIn.stay h.2.1 (stay_imp hD w) (Nat.le_refl _), SsIn.stay h.2.2.1 (stay_imp hD w) (Nat.le_refl _), SsIn.stay h.2.2.2 (stay_imp hD w) (Nat.le_refl _)⟩
theorem XPr.bel {D : Nat → Prop} {p : Pr} {w w' : World} (h : XPr D p w) (hb : Below w.heap.size w w') : XPr D p w' := h.fx (X := fun _ => False) (Fx.of hb) (fun _ x => x.elim)
def Th3 (a b c : Nat) : Nat → Prop := fun k => k = a ∨ k = b ∨ k = c
theorem fx_bel_of {X : Nat → Prop} {a b c : World} (h : Below a.heap.size a b) (f : Fx X b.heap.size b c) (hX : ∀ k, k < a.heap.size → ¬ X k) : Below a.heap.size a c :=
 h.trans ((f.mono (Y := X) h.size (fun _ _ x => x)).bel hX)
theorem st_prW {ops : Array Oper} {rest : List Oper} {o : Oper} {a : Act} {w : World} {Q : Exit → Act → World → Prop} (t : Int) (d i s : Sl) (g : Nat) {old : Array Value} (hg : Blk w g 30 old) (hgd : o.guard = none) (x y : Operand) (ho : o.op = .store 30 x y) (hx : a.eval x = .pointer (some ⟨g, 0, none⟩)) (hy : a.eval y = prv t d i s) (hold : old.size = 4)
  (hw : ∀ w', Hid (Blk w' g 30 (prvs t d i s).toArray) → Hid (Wr1 g w w') → wpList Tryz.prog ops Q rest (a.put o.dst undef) w') : wpList Tryz.prog ops Q (o :: rest) a w :=
 st_pr t d i s g old hg hold hgd x y ho hx hy (hw _ (hg.rowS _) (wr1_row w g _))
def PTop {α : Type} (w : World) (r : Rs α) (z : α) (V : α → Value → World → Prop) (e : Ending) (w' : World) : Prop :=
 ∃ v, e = .returned (.tuple #[v, .int .i64 r.er, .int .i64 r.pl]) ∧ V (r.va z) v w' ∧ Below w.heap.size w w'
set_option maxHeartbeats 3200000 in
theorem ppParse_any (s : ByteArray) (w : World) (hE : Env9 w) : Calls Tryz.prog 9 #[.string s] w (PTop w (rsP s.data.toList) noPr (VP w.heap.size)) := by
 have hmf : ∀ (fn : Fn) (first cap : Array Value) (w : World), (Instr.makeFunc fn first cap).run Tryz.prog w = .ok (.func fn first cap) w := fun _ _ _ _ => rfl
 have BL : Below w.heap.size w (((w.alloc zPr).alloc (.cells #[.int .i64 0] 24)).alloc (.cells #[.int .i64 0] 3)) := bel_alloc (bel_alloc (bel_one w _) _) _
 have k0 : Blk (((w.alloc zPr).alloc (.cells #[.int .i64 0] 24)).alloc (.cells #[.int .i64 0] 3)) w.heap.size 30 (prvs 0 ⟨none, 0, 0⟩ ⟨none, 0, 0⟩ ⟨none, 0, 0⟩).toArray := ((Blk.new w _ _).alloc _).alloc _
 have k1 : Blk (((w.alloc zPr).alloc (.cells #[.int .i64 0] 24)).alloc (.cells #[.int .i64 0] 3)) (w.heap.size + 1) 24 #[.int .i64 0] := by
  have := (Blk.new (w.alloc zPr) 24 #[.int .i64 0]).alloc (.cells #[.int .i64 0] 3)
  rw [World.size_alloc] at this
  exact this
 have k2 : Blk (((w.alloc zPr).alloc (.cells #[.int .i64 0] 24)).alloc (.cells #[.int .i64 0] 3)) (w.heap.size + 1 + 1) 3 #[.int .i64 0] := by
  have := Blk.new ((w.alloc zPr).alloc (.cells #[.int .i64 0] 24)) 3 #[.int .i64 0]
  rw [World.size_alloc, World.size_alloc] at this
  exact this
 have HBL := Hj BL
 have HN := Hj (ppnewReader_any s _ (hE.below BL))
 have B0 := Hj k0
 have B1 := Hj k1
 have B2 := Hj k2
 have HNE : Hid (w.heap.size ≠ w.heap.size + 1 ∧ w.heap.size ≠ w.heap.size + 1 + 1 ∧ w.heap.size + 1 ≠ w.heap.size + 1 + 1) := (by show _ ∧ _ ∧ _; omega)
 have HLE : Hid (w.heap.size ≤ w.heap.size + 1 ∧ w.heap.size ≤ w.heap.size + 1 + 1) := (by show _ ∧ _; omega)
 have HRS : Hid (rsP s.data.toList = if (lexV s.data.toList).2.1 = 0 then prog ⟨(lexV s.data.toList).1, 0, 0⟩ else .no (lexV s.data.toList).2.1 ((lexV s.data.toList).2.2 : Nat)) := rfl
 clear BL k0 k1 k2 hE
 generalize rsP s.data.toList = Z at *
 generalize lexV s.data.toList = L at *
 go_enter_defers Tryz.func9, Tryz.ntmps9
 go_upto_region 2 with fail
 change (Code.region 2 _ _).wp _ _ _ (((w.alloc zPr).alloc (.cells #[.int .i64 0] 24)).alloc (.cells #[.int .i64 0] 3))
 generalize ((w.alloc zPr).alloc (.cells #[.int .i64 0] 24)).alloc (.cells #[.int .i64 0] 3) = w0 at *
 generalize w.heap.size + 1 + 1 = b2 at *
 generalize w.heap.size + 1 = b1 at *
 go_wp2_with fail
 refine HN.out.mono ?_
 intro e w1 hpn
 unfold PN at hpn
 clear HN
 by_cases c : L.2.1 = 0
 ·rw [if_pos c] at hpn
  obtain ⟨R, rfl, hR, rd, hb⟩ := hpn
  have B0_1 := Hj (B0.out.below hb B0.out.lt)
  have B1_1 := Hj (B1.out.below hb B1.out.lt)
  have B2_1 := Hj (B2.out.below hb B2.out.lt)
  have HB1 := Hj (bel_trans HBL.out hb)
  have HR0 : Hid (w.heap.size ≠ R ∧ b1 ≠ R ∧ b2 ≠ R ∧ w.heap.size ≤ R) := (by show _ ∧ _ ∧ _ ∧ _; have := B0.out.lt; have := B1.out.lt; have := B2.out.lt; omega)
  have HZ : Hid (Z = prog ⟨L.1, 0, 0⟩) := by show Z = _; rw [HRS.out, if_pos c]
  have HRD := Hj rd
  clear hb c HRS HBL B0 B1 B2 rd hR
  go_wp2_with fail
  refine (ppprogram_any R _ w1 HRD.out).mono ?_
  intro e w2 hpo
  cases hres : prog ⟨L.1, 0, 0⟩ with
  | no c q =>
   rw [hres] at hpo
   obtain ⟨rfl, f⟩ := hpo
   have E : Hid (Z = .no c q) := by show Z = _; rw [HZ.out, hres]
   have B0_2 := Hj (f.blk B0_1.out B0_1.out.lt HR0.out.1)
   have B1_2 := Hj (f.blk B1_1.out B1_1.out.lt HR0.out.2.1)
   have B2_2 := Hj (f.blk B2_1.out B2_1.out.lt HR0.out.2.2.1)
   have HB2 := Hj (fx_bel_of HB1.out f (fun k hk (x : k = R) => by have := HR0.out.2.2.2; omega))
   clear f hres HZ HRD B0_1 B1_1 B2_1 HB1
   go_wp2_with fail
   refine leaves_cons (f := 27) (args := #[.pointer (some ⟨b1, 0, none⟩), .pointer (some ⟨b2, 0, none⟩)]) (by simp) (by simp [go_sem]) ?_
   refine (pc_panicking b1 b2 0 0 c q [] w2 B1_2.out B2_2.out HNE.out.2.2).mono ?_
   rintro e u' w3 ⟨rfl, rfl, k1, k2, f3⟩
   refine ⟨_, results_row3 rfl _ w3 w.heap.size 30 (prvs 0 ⟨none, 0, 0⟩ ⟨none, 0, 0⟩ ⟨none, 0, 0⟩).toArray _ b1 b2 _ _ rfl rfl rfl (f3.blk B0_2.out B0_2.out.lt (fun x => x.elim HNE.out.1 HNE.out.2.1)) Tryz.underlying30 rfl (by kernel_rfl) (ld_err k1) (ld_int k2), ?_⟩
   rw [E.out]
   exact ⟨_, rfl, noPr_v _ _, fx_bel_of HB2.out f3 (fun k hk x => by have := HLE.out; rcases x with x | x <;> omega)⟩
  | ok p s2 =>
   rw [hres] at hpo
   obtain ⟨v, rfl, ⟨p', rfl, xp, ep⟩, h2, f⟩ := hpo
   have E : Hid (Z = .ok p s2) := by show Z = _; rw [HZ.out, hres]
   have B0_2 := Hj (f.blk B0_1.out B0_1.out.lt HR0.out.1)
   have B1_2 := Hj (f.blk B1_1.out B1_1.out.lt HR0.out.2.1)
   have B2_2 := Hj (f.blk B2_1.out B2_1.out.lt HR0.out.2.2.1)
   have HB2 := Hj (fx_bel_of HB1.out f (fun k hk (x : k = R) => by have := HR0.out.2.2.2; omega))
   have XP := Hj xp
   have EP := Hj ep
   have L1 : Hid (b1 < w1.heap.size ∧ b2 < w1.heap.size ∧ w.heap.size < w1.heap.size) := ⟨B1_1.out.lt, B2_1.out.lt, B0_1.out.lt⟩
   clear f h2 xp ep hres HZ HRD B0_1 B1_1 B2_1 HB1
   have ne12 := HNE.out.2.2
   have ne21 := Ne.symm HNE.out.2.2
   unfold Pr.v
   go_wp2_with (refine st_prW p'.ticks p'.ds p'.is p'.ss w.heap.size B0_2.out rfl _ _ rfl rfl rfl rfl ?_; intro w3 B0_3 WR; have B1_3 := Hj (WR.out.blk B1_2.out (Ne.symm HNE.out.1)); have B2_3 := Hj (WR.out.blk B2_2.out (Ne.symm HNE.out.2.1)); have m1 := B1_3.out.cell 0; have m2 := B2_3.out.cell 0; have z1 := B1_3.out.frozen 0; have z2 := B2_3.out.frozen 0)
   have F4 := fx_set (fx_set (WR.out.1.mono (Y := Th3 w.heap.size b1 b2) (Nat.le_refl _) (fun k _ x => .inl x)) (p := ⟨b1, 0, none⟩) (.inl (.inr (.inl rfl))) (.int .i64 0)) (p := ⟨b2, 0, none⟩) (.inl (.inr (.inr rfl))) (.int .i64 0)
   have e1 : Blk ((w3.setCell ⟨b1, 0, none⟩ (.int .i64 0)).setCell ⟨b2, 0, none⟩ (.int .i64 0)) b1 24 #[.int .i64 0] := (B1_3.out.set_ 0 (.int .i64 0)).far (p := ⟨b2, 0, none⟩) ne12 _
   have e2 : Blk ((w3.setCell ⟨b1, 0, none⟩ (.int .i64 0)).setCell ⟨b2, 0, none⟩ (.int .i64 0)) b2 3 #[.int .i64 0] := (B2_3.out.far (p := ⟨b1, 0, none⟩) ne21 (.int .i64 0)).set_ 0 (.int .i64 0)
   have e0 : Blk ((w3.setCell ⟨b1, 0, none⟩ (.int .i64 0)).setCell ⟨b2, 0, none⟩ (.int .i64 0)) w.heap.size 30 _ := (B0_3.out.far (p := ⟨b1, 0, none⟩) HNE.out.1 (.int .i64 0)).far (p := ⟨b2, 0, none⟩) HNE.out.2.1 (.int .i64 0)
   clear m1 m2 z1 z2 WR B0_2 B1_2 B2_2 B0_3 B1_3 B2_3
   generalize (w3.setCell ⟨b1, 0, none⟩ (.int .i64 0)).setCell ⟨b2, 0, none⟩ (.int .i64 0) = w4 at *
   refine leaves_cons (f := 27) (args := #[.pointer (some ⟨b1, 0, none⟩), .pointer (some ⟨b2, 0, none⟩)]) (by simp) (by simp [go_sem]) ?_
   refine (pc_idle b1 b2 w4).mono ?_
   rintro e u' w5 ⟨rfl, rfl, h5⟩
   refine ⟨_, results_row3 rfl _ w5 w.heap.size 30 (prvs p'.ticks p'.ds p'.is p'.ss).toArray _ b1 b2 _ _ rfl rfl rfl (e0.below h5 e0.lt) Tryz.underlying30 rfl (by kernel_rfl) (ld_err (e1.below h5 e1.lt)) (ld_int (e2.below h5 e2.lt)), ?_⟩
   rw [E.out]
   have hX : ∀ k, Th3 w.heap.size b1 b2 k → ¬ Fro w1.heap.size k := fun k x (y : w1.heap.size ≤ k) => by have := L1.out; rcases x with x | x | x <;> omega
   exact ⟨_, rfl, ⟨p', rfl, ((XP.out.fx F4 hX).bel h5).imp (fun k _ (x : w1.heap.size ≤ k) => Nat.le_trans (Nat.le_of_lt L1.out.2.2) x), EP.out⟩, bel_trans (fx_bel_of HB2.out F4 (fun k hk x => by have := HLE.out; rcases x with x | x | x <;> omega)) h5⟩
 ·rw [if_neg c] at hpn
  obtain ⟨rfl, hb⟩ := hpn
  have B0_2 := Hj (B0.out.below hb B0.out.lt)
  have B1_2 := Hj (B1.out.below hb B1.out.lt)
  have B2_2 := Hj (B2.out.below hb B2.out.lt)
  have HB2 := Hj (bel_trans HBL.out hb)
  have E : Hid (Z = .no L.2.1 (L.2.2 : Nat)) := by show Z = _; rw [HRS.out, if_neg c]
  clear hb c HRS HBL B0 B1 B2
  go_wp2_with fail
  refine leaves_cons (f := 27) (args := #[.pointer (some ⟨b1, 0, none⟩), .pointer (some ⟨b2, 0, none⟩)]) (by simp) (by simp [go_sem]) ?_
  refine (pc_panicking b1 b2 0 0 _ _ [] w1 B1_2.out B2_2.out HNE.out.2.2).mono ?_
  rintro e u' w3 ⟨rfl, rfl, k1, k2, f3⟩
  refine ⟨_, results_row3 rfl _ w3 w.heap.size 30 (prvs 0 ⟨none, 0, 0⟩ ⟨none, 0, 0⟩ ⟨none, 0, 0⟩).toArray _ b1 b2 _ _ rfl rfl rfl (f3.blk B0_2.out B0_2.out.lt (fun x => x.elim HNE.out.1 HNE.out.2.1)) Tryz.underlying30 rfl (by kernel_rfl) (ld_err k1) (ld_int k2), ?_⟩
  rw [E.out]
  exact ⟨_, rfl, noPr_v _ _, fx_bel_of HB2.out f3 (fun k hk x => by have := HLE.out; rcases x with x | x <;> omega)⟩
theorem noEx_v (L : Nat) (w : World) : VX L .no zeroH.v w := ⟨.no, rfl, trivial, Ex.eqv_refl _⟩
theorem st_exW {ops : Array Oper} {rest : List Oper} {o : Oper} {a : Act} {w : World} {Q : Exit → Act → World → Prop} (e : EH) (g : Nat) {old : Array Value} (hg : Blk w g 41 old) (hgd : o.guard = none) (x y : Operand) (ho : o.op = .store 41 x y) (hx : a.eval x = .pointer (some ⟨g, 0, none⟩)) (hy : a.eval y = e.v) (hold : old.size = 7)
  (hw : ∀ w', Hid (Blk w' g 41 e.va) → Hid (Wr1 g w w') → wpList Tryz.prog ops Q rest (a.put o.dst undef) w') : wpList Tryz.prog ops Q (o :: rest) a w :=
 st_ex e g old hg hold hgd x y ho hx hy (hw _ (hg.rowS _) (wr1_row w g _))
set_option maxHeartbeats 3200000 in
theorem ppExpr_top (s : ByteArray) (w : World) (hE : Env9 w) : Calls Tryz.prog 13 #[.string s] w (PTop w (rsX s.data.toList) Ex.no (VX w.heap.size)) := by
 have hmf : ∀ (fn : Fn) (first cap : Array Value) (w : World), (Instr.makeFunc fn first cap).run Tryz.prog w = .ok (.func fn first cap) w := fun _ _ _ _ => rfl
 have BL : Below w.heap.size w (((w.alloc zX).alloc (.cells #[.int .i64 0] 24)).alloc (.cells #[.int .i64 0] 3)) := bel_alloc (bel_alloc (bel_one w _) _) _
 have k0 : Blk (((w.alloc zX).alloc (.cells #[.int .i64 0] 24)).alloc (.cells #[.int .i64 0] 3)) w.heap.size 41 zeroH.va := ((Blk.new w _ _).alloc _).alloc _
 have k1 : Blk (((w.alloc zX).alloc (.cells #[.int .i64 0] 24)).alloc (.cells #[.int .i64 0] 3)) (w.heap.size + 1) 24 #[.int .i64 0] := by
  have := (Blk.new (w.alloc zX) 24 #[.int .i64 0]).alloc (.cells #[.int .i64 0] 3)
  rw [World.size_alloc] at this
  exact this
 have k2 : Blk (((w.alloc zX).alloc (.cells #[.int .i64 0] 24)).alloc (.cells #[.int .i64 0] 3)) (w.heap.size + 1 + 1) 3 #[.int .i64 0] := by
  have := Blk.new ((w.alloc zX).alloc (.cells #[.int .i64 0] 24)) 3 #[.int .i64 0]
  rw [World.size_alloc, World.size_alloc] at this
  exact this
 have HBL := Hj BL
 have HN := Hj (ppnewReader_any s _ (hE.below BL))
 have B0 := Hj k0
 have B1 := Hj k1
 have B2 := Hj k2
 have HNE : Hid (w.heap.size ≠ w.heap.size + 1 ∧ w.heap.size ≠ w.heap.size + 1 + 1 ∧ w.heap.size + 1 ≠ w.heap.size + 1 + 1) := (by show _ ∧ _ ∧ _; omega)
 have HLE : Hid (w.heap.size ≤ w.heap.size + 1 ∧ w.heap.size ≤ w.heap.size + 1 + 1) := (by show _ ∧ _; omega)
 have HRS : Hid (rsX s.data.toList = if (lexV s.data.toList).2.1 = 0 then oneX 24 ⟨(lexV s.data.toList).1, 0, 0⟩ else .no (lexV s.data.toList).2.1 ((lexV s.data.toList).2.2 : Nat)) := rfl
 clear BL k0 k1 k2 hE
 generalize rsX s.data.toList = Z at *
 generalize lexV s.data.toList = L at *
 go_enter_defers Tryz.func13, Tryz.ntmps13
 go_upto_region 2 with fail
 change (Code.region 2 _ _).wp _ _ _ (((w.alloc zX).alloc (.cells #[.int .i64 0] 24)).alloc (.cells #[.int .i64 0] 3))
 generalize ((w.alloc zX).alloc (.cells #[.int .i64 0] 24)).alloc (.cells #[.int .i64 0] 3) = w0 at *
 generalize w.heap.size + 1 + 1 = b2 at *
 generalize w.heap.size + 1 = b1 at *
 go_wp2_with fail
 refine HN.out.mono ?_
 intro e w1 hpn
 unfold PN at hpn
 clear HN
 by_cases c : L.2.1 = 0
 ·rw [if_pos c] at hpn
  obtain ⟨R, rfl, hR, rd, hb⟩ := hpn
  have B0_1 := Hj (B0.out.below hb B0.out.lt)
  have B1_1 := Hj (B1.out.below hb B1.out.lt)
  have B2_1 := Hj (B2.out.below hb B2.out.lt)
  have HB1 := Hj (bel_trans HBL.out hb)
  have HR0 : Hid (w.heap.size ≠ R ∧ b1 ≠ R ∧ b2 ≠ R ∧ w.heap.size ≤ R) := (by show _ ∧ _ ∧ _ ∧ _; have := B0.out.lt; have := B1.out.lt; have := B2.out.lt; omega)
  have HZ : Hid (Z = oneX 24 ⟨L.1, 0, 0⟩) := by show Z = _; rw [HRS.out, if_pos c]
  have HRD := Hj rd
  clear hb c HRS HBL B0 B1 B2 rd hR
  go_wp2_with fail
  refine (ppsingle_any R _ w1 HRD.out).mono ?_
  intro e w2 hpo
  cases hres : oneX 24 ⟨L.1, 0, 0⟩ with
  | no c q =>
   rw [hres] at hpo
   obtain ⟨rfl, f⟩ := hpo
   have E : Hid (Z = .no c q) := by show Z = _; rw [HZ.out, hres]
   have B0_2 := Hj (f.blk B0_1.out B0_1.out.lt HR0.out.1)
   have B1_2 := Hj (f.blk B1_1.out B1_1.out.lt HR0.out.2.1)
   have B2_2 := Hj (f.blk B2_1.out B2_1.out.lt HR0.out.2.2.1)
   have HB2 := Hj (fx_bel_of HB1.out f (fun k hk (x : k = R) => by have := HR0.out.2.2.2; omega))
   clear f hres HZ HRD B0_1 B1_1 B2_1 HB1
   go_wp2_with fail
   refine leaves_cons (f := 39) (args := #[.pointer (some ⟨b1, 0, none⟩), .pointer (some ⟨b2, 0, none⟩)]) (by simp) (by simp [go_sem]) ?_
   refine (px_panicking b1 b2 0 0 c q [] w2 B1_2.out B2_2.out HNE.out.2.2).mono ?_
   rintro e u' w3 ⟨rfl, rfl, k1, k2, f3⟩
   refine ⟨_, results_row3 rfl _ w3 w.heap.size 41 zeroH.va _ b1 b2 _ _ rfl rfl rfl (f3.blk B0_2.out B0_2.out.lt (fun x => x.elim HNE.out.1 HNE.out.2.1)) Tryz.underlying41 rfl (by kernel_rfl) (ld_err k1) (ld_int k2), ?_⟩
   rw [E.out]
   exact ⟨_, rfl, noEx_v _ _, fx_bel_of HB2.out f3 (fun k hk x => by have := HLE.out; rcases x with x | x <;> omega)⟩
  | ok p s2 =>
   rw [hres] at hpo
   obtain ⟨v, rfl, ⟨p', rfl, xp, ep⟩, h2, f⟩ := hpo
   have E : Hid (Z = .ok p s2) := by show Z = _; rw [HZ.out, hres]
   have B0_2 := Hj (f.blk B0_1.out B0_1.out.lt HR0.out.1)
   have B1_2 := Hj (f.blk B1_1.out B1_1.out.lt HR0.out.2.1)
   have B2_2 := Hj (f.blk B2_1.out B2_1.out.lt HR0.out.2.2.1)
   have HB2 := Hj (fx_bel_of HB1.out f (fun k hk (x : k = R) => by have := HR0.out.2.2.2; omega))
   have XP := Hj xp
   have EP := Hj ep
   have L1 : Hid (b1 < w1.heap.size ∧ b2 < w1.heap.size ∧ w.heap.size < w1.heap.size) := ⟨B1_1.out.lt, B2_1.out.lt, B0_1.out.lt⟩
   clear f h2 xp ep hres HZ HRD B0_1 B1_1 B2_1 HB1
   have ne12 := HNE.out.2.2
   have ne21 := Ne.symm HNE.out.2.2
   unfold EH.v
   go_wp2_with (refine st_exW p'.h w.heap.size B0_2.out rfl _ _ rfl rfl rfl rfl ?_; intro w3 B0_3 WR; have B1_3 := Hj (WR.out.blk B1_2.out (Ne.symm HNE.out.1)); have B2_3 := Hj (WR.out.blk B2_2.out (Ne.symm HNE.out.2.1)); have m1 := B1_3.out.cell 0; have m2 := B2_3.out.cell 0; have z1 := B1_3.out.frozen 0; have z2 := B2_3.out.frozen 0)
   have F4 := fx_set (fx_set (WR.out.1.mono (Y := Th3 w.heap.size b1 b2) (Nat.le_refl _) (fun k _ x => .inl x)) (p := ⟨b1, 0, none⟩) (.inl (.inr (.inl rfl))) (.int .i64 0)) (p := ⟨b2, 0, none⟩) (.inl (.inr (.inr rfl))) (.int .i64 0)
   have e1 : Blk ((w3.setCell ⟨b1, 0, none⟩ (.int .i64 0)).setCell ⟨b2, 0, none⟩ (.int .i64 0)) b1 24 #[.int .i64 0] := (B1_3.out.set_ 0 (.int .i64 0)).far (p := ⟨b2, 0, none⟩) ne12 _
   have e2 : Blk ((w3.setCell ⟨b1, 0, none⟩ (.int .i64 0)).setCell ⟨b2, 0, none⟩ (.int .i64 0)) b2 3 #[.int .i64 0] := (B2_3.out.far (p := ⟨b1, 0, none⟩) ne21 (.int .i64 0)).set_ 0 (.int .i64 0)
   have e0 : Blk ((w3.setCell ⟨b1, 0, none⟩ (.int .i64 0)).setCell ⟨b2, 0, none⟩ (.int .i64 0)) w.heap.size 41 _ := (B0_3.out.far (p := ⟨b1, 0, none⟩) HNE.out.1 (.int .i64 0)).far (p := ⟨b2, 0, none⟩) HNE.out.2.1 (.int .i64 0)
   clear m1 m2 z1 z2 WR B0_2 B1_2 B2_2 B0_3 B1_3 B2_3
   generalize (w3.setCell ⟨b1, 0, none⟩ (.int .i64 0)).setCell ⟨b2, 0, none⟩ (.int .i64 0) = w4 at *
   refine leaves_cons (f := 39) (args := #[.pointer (some ⟨b1, 0, none⟩), .pointer (some ⟨b2, 0, none⟩)]) (by simp) (by simp [go_sem]) ?_
   refine (px_idle b1 b2 w4).mono ?_
   rintro e u' w5 ⟨rfl, rfl, h5⟩
   refine ⟨_, results_row3 rfl _ w5 w.heap.size 41 p'.h.va _ b1 b2 _ _ rfl rfl rfl (e0.below h5 e0.lt) Tryz.underlying41 rfl (by kernel_rfl) (ld_err (e1.below h5 e1.lt)) (ld_int (e2.below h5 e2.lt)), ?_⟩
   rw [E.out]
   have hX : ∀ k, Th3 w.heap.size b1 b2 k → ¬ Fro w1.heap.size k := fun k x (y : w1.heap.size ≤ k) => by have := L1.out; rcases x with x | x | x <;> omega
   exact ⟨_, rfl, ⟨p', rfl, ((XP.out.fx F4 hX).bel h5).imp (fun k _ (x : w1.heap.size ≤ k) => Nat.le_trans (Nat.le_of_lt L1.out.2.2) x), EP.out⟩, bel_trans (fx_bel_of HB2.out F4 (fun k hk x => by have := HLE.out; rcases x with x | x | x <;> omega)) h5⟩
 ·rw [if_neg c] at hpn
  obtain ⟨rfl, hb⟩ := hpn
  have B0_2 := Hj (B0.out.below hb B0.out.lt)
  have B1_2 := Hj (B1.out.below hb B1.out.lt)
  have B2_2 := Hj (B2.out.below hb B2.out.lt)
  have HB2 := Hj (bel_trans HBL.out hb)
  have E : Hid (Z = .no L.2.1 (L.2.2 : Nat)) := by show Z = _; rw [HRS.out, if_neg c]
  clear hb c HRS HBL B0 B1 B2
  go_wp2_with fail
  refine leaves_cons (f := 39) (args := #[.pointer (some ⟨b1, 0, none⟩), .pointer (some ⟨b2, 0, none⟩)]) (by simp) (by simp [go_sem]) ?_
  refine (px_panicking b1 b2 0 0 _ _ [] w1 B1_2.out B2_2.out HNE.out.2.2).mono ?_
  rintro e u' w3 ⟨rfl, rfl, k1, k2, f3⟩
  refine ⟨_, results_row3 rfl _ w3 w.heap.size 41 zeroH.va _ b1 b2 _ _ rfl rfl rfl (f3.blk B0_2.out B0_2.out.lt (fun x => x.elim HNE.out.1 HNE.out.2.1)) Tryz.underlying41 rfl (by kernel_rfl) (ld_err k1) (ld_int k2), ?_⟩
  rw [E.out]
  exact ⟨_, rfl, noEx_v _ _, fx_bel_of HB2.out f3 (fun k hk x => by have := HLE.out; rcases x with x | x <;> omega)⟩
theorem St.eqv_hd {s : St} : ∀ {r : St}, s.eqv r → hsS s.h r.h = true ∧ r.h.ps = s.h.ps ∧ s.e.eqv r.e ∧ (s.h.xs.n = r.h.xs.n ∧ ∀ i, i < s.h.xs.n → (s.x i).eqv (r.x i)) ∧ (∀ i, i < s.h.ts.n → (s.t i).eqv (r.t i)) ∧ ∀ i, i < s.h.es.n → (s.l i).eqv (r.l i) := by
 intro r h
 cases s with
 | no => exact ⟨h.1, h.2.1, h.2.2.1, ⟨h.2.2.2.symm, fun i hi => absurd hi (Nat.not_lt_zero i)⟩, fun i hi => absurd hi (Nat.not_lt_zero i), fun i hi => absurd hi (Nat.not_lt_zero i)⟩
 | mk => exact h
theorem St.eqv_same {s : St} : ∀ {r : St}, s.eqv r → s.same r = true := by
 induction s using St.ind with
 | H s it il =>
  intro r h
  obtain ⟨h1, h2, h3, ⟨h4, h5⟩, h6, h7⟩ := St.eqv_hd h
  simp only [hsS, Bool.and_eq_true, decide_eq_true_eq, beq_iff_eq] at h1
  obtain ⟨⟨⟨⟨⟨g1, g2⟩, g3⟩, g4⟩, g5⟩, g6⟩ := h1
  exact St.same_iff.2 ⟨⟨g1, g2, g3, g4, g5, g6⟩, Ex.eqv_same h3, ⟨h4, fun i hi => Ex.eqv_same (h5 i hi)⟩, fun i hi => it i hi (h6 i hi), fun i hi => il i hi (h7 i hi)⟩
theorem al_succ {f : Nat → Bool} {n : Nat} (h : al f n = true) (g : f n = true) : al f (n + 1) = true := by simp only [al, h, g, Bool.and_self]
def SmX (B : Nat) (f : Nat) (e e' : Ex) : Prop := ∀ (w : World), e.In B w → e'.In B w → B ≤ w.heap.size → Calls Tryz.prog f #[e.h.v, e'.h.v] w fun r w' => r = .returned (.bool (e.same e')) ∧ Below w.heap.size w w'
def SmXs (B : Nat) (f : Nat) (xs : Array Value) (s : Sl) (k : Nat → Ex) (s' : Sl) (k' : Nat → Ex) : Prop :=
 ∀ (w : World), XsIn B w s k → XsIn B w s' k' → B ≤ w.heap.size → Calls Tryz.prog f (#[.slice s.ao s.n s.c, .slice s'.ao s'.n s'.c] ++ xs) w fun r w' => r = .returned (.bool (sameX s.n k s'.n k')) ∧ Below w.heap.size w w'
theorem Ex.same_eq (e e' : Ex) : e.same e' = (decide (e.h.op = e'.h.op) && (e.h.bo == e'.h.bo) && decide (e.h.it = e'.h.it) && decide (e.h.fl = e'.h.fl) && (e.h.nm == e'.h.nm) && sameX e.h.s.n e.k e'.h.s.n e'.k) := by
 rw [Ex.same_hd]
 simp only [hdS, sameX, Bool.and_assoc]
set_option maxHeartbeats 3200000 in
theorem tSameX_of (B : Nat) (e e' : Ex) (hl : SmXs B 51 #[.func (.func 22) #[] #[]] e.h.s e.k e'.h.s e'.k) : SmX B 22 e e' := by
 intro w hI hI' hB
 have HL := Hj hl
 have HI := Hj hI
 have HI' := Hj hI'
 have HB := Hj hB
 have g0 : (bx (bx w (xO e.h)) (xO e'.h)).heap[w.heap.size]? = some (xO e.h) := (bx_old _ _ (by rw [bx_size]; omega)).trans (bx_new _ _)
 have g1 : (bx (bx w (xO e.h)) (xO e'.h)).heap[w.heap.size + 1]? = some (xO e'.h) := by have := bx_new (bx w (xO e.h)) (xO e'.h); rwa [bx_size] at this
 obtain ⟨c0, -, c2, c3, c4, c5, c6⟩ := x_cells g0
 obtain ⟨d0, -, d2, d3, d4, d5, d6⟩ := x_cells g1
 have hz : (bx w (xO e.h)).heap.size = w.heap.size + 1 := bx_size _ _
 rw [Ex.same_eq]
 clear hl hI hI' hB g0 g1
 show Calls Tryz.prog 22 #[.agg #[.int .u8 e.h.op, .int .i64 e.h.ps, .bool e.h.bo, .int .i32 e.h.it, .int .u64 e.h.fl, .string ⟨e.h.nm.toArray⟩, .slice e.h.s.ao e.h.s.n e.h.s.c],
  .agg #[.int .u8 e'.h.op, .int .i64 e'.h.ps, .bool e'.h.bo, .int .i32 e'.h.it, .int .u64 e'.h.fl, .string ⟨e'.h.nm.toArray⟩, .slice e'.h.s.ao e'.h.s.n e'.h.s.c]] w _
 go_enter Tryz.func22, Tryz.ntmps22
 go_upto_region 1 with fail
 rw [bx_x, bx_x]
 go_wp2_with fail
 ·refine (HL.out _ (HI.out.xs.below (bx_bel (bx_bel (Below.refl _ _) (Nat.le_refl _) _) (Nat.le_refl _) _) HB.out) (HI'.out.xs.below (bx_bel (bx_bel (Below.refl _ _) (Nat.le_refl _) _) (Nat.le_refl _) _) HB.out) (by rw [bx_size, bx_size]; have := HB.out; omega)).mono ?_
  rintro r w' ⟨rfl, hb⟩
  have BB : Hid (Below w.heap.size w w') := (bx_bel (bx_bel (Below.refl _ _) (Nat.le_refl _) _) (Nat.le_refl _) _).trans (hb.mono (by rw [bx_size, bx_size]; omega))
  clear hb
  go_wp2_with fail
  go_ret
  exact ⟨by simp [*], BB.out⟩
 all_goals
  go_ret
  exact ⟨by simp [*], bx_bel (bx_bel (Below.refl _ _) (Nat.le_refl _) _) (Nat.le_refl _) _⟩
set_option maxHeartbeats 3200000 in
theorem tLstX_of (B : Nat) (s : Sl) (k : Nat → Ex) (s' : Sl) (k' : Nat → Ex) (ih : ∀ i, i < s.n → i < s'.n → SmX B 22 (k i) (k' i)) : SmXs B 51 #[.func (.func 22) #[] #[]] s k s' k' := by
 intro w hX hX' hB
 have HI := Hj hX
 have HI' := Hj hX'
 have IH := Hj ih
 have HB := Hj hB
 have hc := hX.1
 have hmx : s.n ≤ maxLen := Nat.le_trans hc.1 hc.2.1
 unfold maxLen at hmx
 have HM := Hj hmx
 obtain ⟨ao, n, c⟩ := s
 obtain ⟨ao', n', c'⟩ := s'
 dsimp only at *
 clear hX hX' hB hc hmx ih
 show Calls Tryz.prog 51 #[.slice ao n c, .slice ao' n' c', .func (.func 22) #[] #[]] w _
 by_cases hn : n = n'
 ·subst hn
  go_enter Tryz.func51, Tryz.ntmps51
  go_wp2_with fail
  go_loopg [16] n (fun gk i wr => ∃ j : Nat, i = .int .i64 (j : Int) ∧ Hid (gk = n - j ∧ j ≤ n) ∧ Hid (al (fun i => (k i).same (k' i)) j = true) ∧ Hid (Below w.heap.size w wr))
  case atStart => exact ⟨0, rfl, ⟨rfl, Nat.zero_le _⟩, rfl, Below.refl _ _⟩
  case round =>
   obtain ⟨j, rfl, HJ, HA, BEL⟩ := hrel
   by_cases hlt : j < n
   ·have z0 : (j : Int) < (n : Int) := by omega
    have ovi : IntKind.i64.wrap ((j : Int) + 1) = ((j + 1 : Nat) : Int) := by have := HM.out; rw [IntKind.wrap_i64]; omega
    obtain ⟨a, b, o, rfl, hA, hb, X, I⟩ := XsIn.at (HI.out.below BEL.out HB.out) (i := j) hlt
    obtain ⟨a', b', o', rfl, hA', hb', X', I'⟩ := XsIn.at (HI'.out.below BEL.out HB.out) (i := j) hlt
    have c0 := X.c0; have c1 := X.c1; have c2 := X.c2; have c3 := X.c3; have c4 := X.c4; have c5 := X.c5; have c6 := X.c6
    have BN := Hj (bx_bel (Below.refl _ _) (Nat.le_refl _) (xO (k j).h) : Below wr.heap.size wr (bx wr (xO (k j).h)))
    have hbw : b' < wr.heap.size := Nat.lt_of_lt_of_le hb' (Nat.le_trans HB.out BEL.out.size)
    have XD := X'.below hbw BN.out (Nat.le_refl _)
    have d0 := XD.c0; have d1 := XD.c1; have d2 := XD.c2; have d3 := XD.c3; have d4 := XD.c4; have d5 := XD.c5; have d6 := XD.c6
    obtain ⟨e0, e1, e2, e3, e4, e5, e6⟩ := x_cells (bx_new wr (xO (k j).h))
    have C := Hj (IH.out j hlt hlt (bx wr (xO (k j).h)).drew (I.below BN.out (Nat.le_trans HB.out BEL.out.size)).drew (I'.below BN.out (Nat.le_trans HB.out BEL.out.size)).drew (Nat.le_trans (Nat.le_trans HB.out BEL.out.size) BN.out.size))
    have HLT := Hj hlt
    clear X X' XD hb hb' hbw I I' hlt
    go_upto_region 6 with fail
    rw [bx_x]
    go_still_tail 6, (by kernel_rfl)
    change wpList _ _ _ _ _ (bx wr (xO (k j).h)).drew
    generalize hw2 : (bx wr (xO (k j).h)).drew = w2 at *
    have B2 : Hid (Below wr.heap.size wr w2) := by rw [← hw2]; exact Below.drew BN.out
    clear hw2 c0 c1 c2 c3 c4 c5 c6 d0 d1 d2 d3 d4 d5 d6 e0 e1 e2 e3 e4 e5 e6
    go_wp2_with fail
    refine C.out.mono ?_
    rintro r w3 ⟨rfl, hb3⟩
    have B3 := Hj (BEL.out.trans ((B2.out.trans (hb3.mono B2.out.size)).mono BEL.out.size))
    clear hb3 C B2 BN
    cases hs : (k j).same (k' j) with
    | true =>
     have HS := Hj hs
     clear hs
     go_wp2_with fail
     go_roundg (n - (j + 1))
     case measure => have := HJ.out; have := HLT.out; omega
     case rel => exact ⟨j + 1, by go_num, ⟨rfl, HLT.out⟩, al_succ HA.out HS.out, B3.out⟩
    | false =>
     have HS := Hj hs
     clear hs
     go_wp2_with fail
     go_ret
     refine ⟨?_, B3.out⟩
     have : al (fun i => (k i).same (k' i)) n = false := al_false.2 ⟨j, HLT.out, HS.out⟩
     simp [sameX, this]
   ·obtain rfl : j = n := by have := HJ.out; omega
    clear hlt
    go_wp2_with fail
    go_ret
    exact ⟨by simp [sameX, HA.out], BEL.out⟩
 ·have hn' : ¬ (n : Int) = (n' : Int) := by omega
  go_enter Tryz.func51, Tryz.ntmps51
  go_wp2_with fail
  go_ret
  exact ⟨by simp [sameX, hn], Below.refl _ _⟩
theorem tSameX_any (B : Nat) (e : Ex) : ∀ e', SmX B 22 e e' := by
 induction e using Ex.ind with
 | H e ih => exact fun e' => tSameX_of B _ e' (tLstX_of B e.h.s e.k e'.h.s e'.k fun i hi _ => ih i hi _)
theorem kept_obj {w w' : World} {k : Nat} {o : Obj} (hb : Below w.heap.size w w') (h : w.heap[k]? = some o) : w'.heap[k]? = some o := (hb.block k (Array.getElem?_eq_some_iff.1 h).1).trans h
theorem itoa_len {n : Int} (h0 : -9223372036854775808 ≤ n) (h1 : n ≤ 9223372036854775807) : (Lib.itoa n).length ≤ 21 := by
 have key : ∀ u : Nat, u < 18446744073709551616 → (Lib.decDigits u).length ≤ 20 := fun u hu => by
  rw [Lib.decDigits_length]
  by_cases h : 1 ≤ u
  ·have := Lib.numDigits_eq u h hu
   split at this <;> omega
  ·obtain rfl : u = 0 := by omega
   decide +kernel
 unfold Lib.itoa
 split
 ·have := key n.natAbs (by omega)
  first
   | (simp only [List.length_cons]; omega)
   | (simp only [List.length_append, List.length_cons, List.length_nil]; omega)
 ·first
   | exact Nat.le_trans (key _ (by omega)) (by decide)
theorem prT_len {f : Int} (hf : Word f) : (prT f).length ≤ 30 := by
 by_cases hc : fC f < 3
 ·obtain ⟨h1, -, h2, -⟩ := prB_is hf hc
  rw [h1, List.length_append]
  have : (if fS f = true then [45] else [] : List UInt8).length ≤ 1 := by split <;> decide
  omega
 ·unfold prT
  by_cases h4 : fC f = 4
  ·rw [if_pos h4]; decide
  ·rw [if_neg h4]
   have := cls_bd f
   rw [if_pos (show fC f = 3 by omega)]
   cases fS f <;> decide
theorem brk_len (b : Bool) (l : List UInt8) : (brk b l).length ≤ l.length + 2 := by
 cases b <;> simp [brk]
theorem sign_len (op : Int) : (signB op).length ≤ 2 := by
 unfold signB
 repeat (split; decide)
 decide
end Go.Proofs.YthmlhkllbichgaaGreatDoor
