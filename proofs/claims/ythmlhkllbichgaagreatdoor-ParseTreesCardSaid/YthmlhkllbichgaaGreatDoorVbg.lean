/-
  ParseTrees holds, tied to the program's text. (part 33 of 35) Conditions: none beside what the card ties.
-/
import Derived.Test.YthmlhkllbichgaaGreatDoorVbf
import Derived.Test.YthmlhkllbichgaaGreatDoorVab
import Derived.Test.YthmlhkllbichgaaGreatDoorVbc
namespace Go.Proofs.YthmlhkllbichgaaGreatDoor
open Go.RowKit
set_option maxRecDepth 100000
def binT (e : Ex) : List UInt8 := if opBin e.h.op then brk (argX e 0).bin ((argX e 0).txt prT) ++ [32] ++ signB e.h.op ++ [32] ++ brk (argX e 1).bin ((argX e 1).txt prT) else []
set_option maxHeartbeats 3200000 in
theorem wBin_of (B b : Nat) (e : Ex) (i0 : opBin e.h.op = true → OkX B (argX e 0)) (i1 : opBin e.h.op = true → OkX B (argX e 1)) (w : World) (hI : e.In B w) (hE : En B w) (hB : B ≤ w.heap.size) : Wrt B b 88 #[e.h.v] (binT e) w := by
 intro bs d hW hl
 have FX := Hj ((Fr.refl b hB).bx (xO e.h))
 have HW := Hj (hW.bx (xO e.h))
 have HI := Hj hI
 have HE := Hj hE
 have C0 := Hj fun w => isBin_any e.h.op w
 have HNE : Hid (w.heap.size ≠ b) := by have := hW.lt; show _ ≠ _; omega
 have HX := Hj (bx_new w (xO e.h))
 unfold binT at *
 obtain ⟨c0, c1, c2, c3, c4, c5, c6⟩ := x_cells (bx_new w (xO e.h))
 cases hb : opBin e.h.op with
 | false =>
  rw [hb] at C0
  clear hl hI hE hB hW i0 i1 hb
  show Calls Tryz.prog 88 #[.pointer (some ⟨b, 0, none⟩), .agg #[.int .u8 e.h.op, .int .i64 e.h.ps, .bool e.h.bo, .int .i32 e.h.it, .int .u64 e.h.fl, .string ⟨e.h.nm.toArray⟩, .slice e.h.s.ao e.h.s.n e.h.s.c]] w _
  go_enter Tryz.func88, Tryz.ntmps88
  go_upto_region 1 with fail
  rw [bx_x]
  go_wp2_with fail
  refine (C0.out _).mono ?_
  rintro r w1 ⟨rfl, rfl⟩
  go_wp2_with fail
  first | go_end0 | refine bodyPost_ret (results_none rfl _ _ _) rfl ?_
  exact ⟨rfl, by simpa using HW.out, FX.out⟩
 | true =>
  rw [hb] at hl C0
  simp only [if_true] at hl ⊢
  obtain ⟨s0, hs0⟩ : ∃ s, brk (argX e 0).bin ((argX e 0).txt prT) = s := ⟨_, rfl⟩
  obtain ⟨s1, hs1⟩ : ∃ s, brk (argX e 1).bin ((argX e 1).txt prT) = s := ⟨_, rfl⟩
  obtain ⟨i, hi, hop⟩ : ∃ i : Nat, i < 12 ∧ e.h.op = (i : Int) + 5 := by
   unfold opBin at hb
   have := of_decide_eq_true hb
   exact ⟨(e.h.op - 5).toNat, by omega, by omega⟩
  have hsg : signB e.h.op = signB ((i : Int) + 5) := by rw [hop]
  rw [hs0, hs1, hsg] at hl
  rw [hs0, hs1, hsg]
  obtain ⟨sg, hsg2⟩ : ∃ s, signB ((i : Int) + 5) = s := ⟨_, rfl⟩
  rw [hsg2] at hl ⊢
  simp only [List.length_append, List.length_cons, List.length_nil] at hl
  have A0 := Hj fun w hI hB => tArg_any B e 0 w hI hB
  have A1 := Hj fun w hI hB => tArg_any B e 1 w hI hB
  have O0 := Hj fun w hI hE hB h => wOpnd_of B b (argX e 0) (i0 hb) w (argX_in hI 0) hE hB bs d h (by rw [hs0]; omega)
  have O1 := Hj fun w hI hE hB h => wOpnd_of B b (argX e 1) (i1 hb) w (argX_in hI 1) hE hB (bs ++ s0 ++ [32] ++ sg ++ [32]) d h (by rw [hs1]; simp only [List.length_append, List.length_cons, List.length_nil]; omega)
  rw [hs0] at O0
  rw [hs1] at O1
  have S0 := Hj fun w h hB => wString_any B b (bs ++ s0) [32] d w h (by simp only [List.length_append, List.length_cons, List.length_nil]; omega) hB
  have S1 := Hj fun w h hB => wString_any B b (bs ++ s0 ++ [32]) sg d w h (by simp only [List.length_append, List.length_cons, List.length_nil]; omega) hB
  have S2 := Hj fun w h hB => wString_any B b (bs ++ s0 ++ [32] ++ sg) [32] d w h (by simp only [List.length_append, List.length_cons, List.length_nil]; omega) hB
  have SGI := Hj fun (w : World) (hE : En B w) => by have := hE.sg i hi; rw [hsg2] at this; exact this
  have ov : IntKind.u8.wrap (i : Int) = (i : Int) := by rw [IntKind.wrap_u8]; omega
  have hal : Tryz.prog.arrayLen 166 = 12 := by kernel_rfl
  have zi : (i : Int) < 12 := by omega
  have HOP := Hj hop
  clear hl hI hE hB hW i0 i1 hb hs0 hs1 hsg hsg2 hop hi
  show Calls Tryz.prog 88 #[.pointer (some ⟨b, 0, none⟩), .agg #[.int .u8 e.h.op, .int .i64 e.h.ps, .bool e.h.bo, .int .i32 e.h.it, .int .u64 e.h.fl, .string ⟨e.h.nm.toArray⟩, .slice e.h.s.ao e.h.s.n e.h.s.c]] w _
  go_enter Tryz.func88, Tryz.ntmps88
  go_upto_region 1 with fail
  rw [bx_x]
  go_wp2_with fail
  refine (C0.out _).mono ?_
  rintro r w1 ⟨rfl, rfl⟩
  go_wp2_with fail
  refine (A0.out _ (HI.out.below FX.out.1 (Nat.le_refl _)) FX.out.size).mono ?_
  rintro r w1 ⟨rfl, hb1⟩
  have G1 := Hj (FX.out.trans (Fr.of (b := b) hb1 FX.out.size))
  have W1 := Hj (HW.out.kept hb1)
  have X1 := Hj ((hb1.block _ (Array.getElem?_eq_some_iff.1 HX.out).1).trans HX.out)
  clear hb1 c0 c1 c2 c3 c4 c5 c6
  go_wp2_with fail
  refine (O0.out _ (HI.out.below G1.out.1 (Nat.le_refl _)) (HE.out.below G1.out.1 (Nat.le_refl _)) G1.out.size W1.out).mono ?_
  rintro r w2 ⟨rfl, hw2, hf2⟩
  have G2 := Hj (G1.out.trans hf2)
  have W2 := Hj hw2
  have X2 := Hj (hf2.x X1.out HNE.out)
  clear hw2 hf2
  go_wp2_with fail
  refine (S0.out _ W2.out G2.out.size).mono ?_
  rintro r w3 ⟨rfl, hw3, hf3⟩
  have G3 := Hj (G2.out.trans hf3)
  have W3 := Hj hw3
  have X3 := Hj (hf3.x X2.out HNE.out)
  clear hw3 hf3
  go_upto_region 4 with fail
  obtain ⟨c0, -⟩ := x_cells X3.out
  rw [HOP.out] at c0
  have sgc := SGI.out w3 (HE.out.below G3.out.1 (Nat.le_refl _))
  go_still_tail 8, (by kernel_rfl)
  change wpList _ _ _ _ _ w3.drew
  generalize hw4 : w3.drew = w4 at *
  have C4 := Hj (S1.out w4 (by rw [← hw4]; exact W3.out.drew) (by rw [← hw4]; exact G3.out.size))
  have G4 : Hid (Fr B b w w4) := by rw [← hw4]; exact G3.out.drew
  have X4 : Hid (w4.heap[w.heap.size]? = some (xO e.h)) := by rw [← hw4]; exact X3.out
  clear hw4 c0 sgc
  go_wp2_with fail
  refine C4.out.mono ?_
  rintro r w5 ⟨rfl, hw5, hf5⟩
  have G5 := Hj (G4.out.trans hf5)
  have W5 := Hj hw5
  have X5 := Hj (hf5.x X4.out HNE.out)
  clear hw5 hf5
  go_wp2_with fail
  refine (S2.out _ W5.out G5.out.size).mono ?_
  rintro r w6 ⟨rfl, hw6, hf6⟩
  have G6 := Hj (G5.out.trans hf6)
  have W6 := Hj hw6
  have X6 := hf6.x X5.out HNE.out
  obtain ⟨c0, c1, c2, c3, c4, c5, c6⟩ := x_cells X6
  clear hw6 hf6 X6
  go_wp2_with fail
  refine (A1.out _ (HI.out.below G6.out.1 (Nat.le_refl _)) G6.out.size).mono ?_
  rintro r w7 ⟨rfl, hb7⟩
  have G7 := Hj (G6.out.trans (Fr.of (b := b) hb7 G6.out.size))
  have W7 := Hj (W6.out.kept hb7)
  clear hb7 c0 c1 c2 c3 c4 c5 c6
  go_wp2_with fail
  refine (O1.out _ (HI.out.below G7.out.1 (Nat.le_refl _)) (HE.out.below G7.out.1 (Nat.le_refl _)) G7.out.size W7.out).mono ?_
  rintro r w8 ⟨rfl, hw8, hf8⟩
  have G8 := Hj (G7.out.trans hf8)
  clear hf8
  go_wp2_with fail
  go_end0
  exact ⟨rfl, by simpa using hw8, G8.out⟩
theorem arg_txt (F : Int → List UInt8) (e : Ex) : (if 0 < e.h.s.n then (e.k 0).txt F else []) = (argX e 0).txt F := by unfold argX; split <;> rfl
theorem arg_brk (F : Int → List UInt8) (e : Ex) (i : Nat) : (if i < e.h.s.n then brk (e.k i).bin ((e.k i).txt F) else []) = brk (argX e i).bin ((argX e i).txt F) := by unfold argX; split <;> rfl
theorem Ex.txt_arg (F : Int → List UInt8) (e : Ex) : e.txt F = headT F e.h ((argX e 0).txt F) (brk (argX e 0).bin ((argX e 0).txt F)) (brk (argX e 1).bin ((argX e 1).txt F)) := by
 rw [Ex.txt_eq, arg_txt, arg_brk, arg_brk]
set_option maxHeartbeats 3200000 in
theorem wX1 (B b : Nat) (e : Ex) (hop : e.h.op = 1) (w : World) (hI : e.In B w) (hE : En B w) (hB : B ≤ w.heap.size) : Wrt B b 50 #[e.h.v] (e.txt prT) w := by
 intro bs d hW hl
 have FX := Hj ((Fr.refl b hB).bx (xO e.h))
 have HW := Hj (hW.bx (xO e.h))
 have HI := Hj (hI.below FX.out.1 (Nat.le_refl _))
 have HE := Hj (hE.below FX.out.1 (Nat.le_refl _))
 have HNE : Hid (w.heap.size ≠ b) := by have := hW.lt; show _ ≠ _; omega
 have HX := Hj (bx_new w (xO e.h))
 have hok := hI.ok
 rw [Ex.txt_arg] at hl ⊢
 simp [headT, hop] at hl ⊢
 have C0 := Hj fun w => fbool_any e.h.bo w
 obtain ⟨q, hq⟩ : ∃ q : List UInt8, (if e.h.bo = true then [116, 114, 117, 101] else [102, 97, 108, 115, 101]) = q := ⟨_, rfl⟩
 rw [hq] at hl C0
 rw [hq]
 have C1 := Hj fun w h hB => wString_any B b bs q d w h hl hB
 obtain ⟨c0, c1, c2, c3, c4, c5, c6⟩ := x_cells (bx_new w (xO e.h))
 rw [hop] at c0
 clear hl hI hE hB hW hop hok
 show Calls Tryz.prog 50 #[.pointer (some ⟨b, 0, none⟩), .agg #[.int .u8 e.h.op, .int .i64 e.h.ps, .bool e.h.bo, .int .i32 e.h.it, .int .u64 e.h.fl, .string ⟨e.h.nm.toArray⟩, .slice e.h.s.ao e.h.s.n e.h.s.c]] w _
 go_enter Tryz.func50, Tryz.ntmps50
 go_upto_region 1 with fail
 rw [bx_x]
 go_upto_region 4 with fail
 refine wp_region_still_tail 6 (by kernel_rfl) (by kernel_rfl) ?_
 simp only [List.take_succ_cons, List.take_zero, List.drop_succ_cons, List.drop_zero]
 repeat still_step
 still_call (C0.out _)
 repeat still_step
 refine wpStill_nil ?_
 change wpList _ _ _ _ _ (bx w (xO e.h)).drew
 have C2 := Hj (C1.out _ HW.out.drew FX.out.size)
 have F2 := Hj FX.out.drew
 generalize (bx w (xO e.h)).drew = w2 at *
 clear c0 c1 c2 c3 c4 c5 c6 C1 C0 hq
 go_wp2_with fail
 refine C2.out.mono ?_
 rintro r w3 ⟨rfl, hw3, hf3⟩
 have F3 := Hj (F2.out.trans hf3)
 clear hf3
 go_wp2_with fail
 go_end0
 exact ⟨rfl, hw3, F3.out⟩
set_option maxHeartbeats 3200000 in
theorem wX2 (B b : Nat) (e : Ex) (hop : e.h.op = 2) (w : World) (hI : e.In B w) (hE : En B w) (hB : B ≤ w.heap.size) : Wrt B b 50 #[e.h.v] (e.txt prT) w := by
 intro bs d hW hl
 have FX := Hj ((Fr.refl b hB).bx (xO e.h))
 have HW := Hj (hW.bx (xO e.h))
 have HI := Hj (hI.below FX.out.1 (Nat.le_refl _))
 have HE := Hj (hE.below FX.out.1 (Nat.le_refl _))
 have HNE : Hid (w.heap.size ≠ b) := by have := hW.lt; show _ ≠ _; omega
 have HX := Hj (bx_new w (xO e.h))
 have hok := hI.ok
 rw [Ex.txt_arg] at hl ⊢
 simp [headT, hop] at hl ⊢
 have C1 := Hj (wInt_any B b bs d e.h.it _ HW.out HE.out (by have := hok.it0; omega) (by have := hok.it1; omega) hl FX.out.size)
 have i1 := hok.it0
 have i2 := hok.it1
 have ovi : IntKind.i64.wrap e.h.it = e.h.it := by rw [IntKind.wrap_i64]; omega
 obtain ⟨c0, c1, c2, c3, c4, c5, c6⟩ := x_cells (bx_new w (xO e.h))
 rw [hop] at c0
 clear hl hI hE hB hW hop hok
 show Calls Tryz.prog 50 #[.pointer (some ⟨b, 0, none⟩), .agg #[.int .u8 e.h.op, .int .i64 e.h.ps, .bool e.h.bo, .int .i32 e.h.it, .int .u64 e.h.fl, .string ⟨e.h.nm.toArray⟩, .slice e.h.s.ao e.h.s.n e.h.s.c]] w _
 go_enter Tryz.func50, Tryz.ntmps50
 go_upto_region 1 with fail
 rw [bx_x]
 go_wp2_with fail
 refine C1.out.mono ?_
 rintro r w1 ⟨rfl, hw1, hf1⟩
 have F1 := Hj (FX.out.trans hf1)
 clear hf1
 go_wp2_with fail
 go_end0
 exact ⟨rfl, by simpa using hw1, F1.out⟩
set_option maxHeartbeats 3200000 in
theorem wX3 (B b : Nat) (e : Ex) (hop : e.h.op = 3) (w : World) (hI : e.In B w) (hE : En B w) (hB : B ≤ w.heap.size) : Wrt B b 50 #[e.h.v] (e.txt prT) w := by
 intro bs d hW hl
 have FX := Hj ((Fr.refl b hB).bx (xO e.h))
 have HW := Hj (hW.bx (xO e.h))
 have HI := Hj (hI.below FX.out.1 (Nat.le_refl _))
 have HE := Hj (hE.below FX.out.1 (Nat.le_refl _))
 have HNE : Hid (w.heap.size ≠ b) := by have := hW.lt; show _ ≠ _; omega
 have HX := Hj (bx_new w (xO e.h))
 have hok := hI.ok
 rw [Ex.txt_arg] at hl ⊢
 simp [headT, hop] at hl ⊢
 have C1 := Hj fun w hE => print_any e.h.fl hok.fl w hE
 have C2 := Hj fun w h hB => wString_any B b bs (prT e.h.fl) d w h hl hB
 obtain ⟨c0, c1, c2, c3, c4, c5, c6⟩ := x_cells (bx_new w (xO e.h))
 rw [hop] at c0
 clear hl hI hE hB hW hop hok
 show Calls Tryz.prog 50 #[.pointer (some ⟨b, 0, none⟩), .agg #[.int .u8 e.h.op, .int .i64 e.h.ps, .bool e.h.bo, .int .i32 e.h.it, .int .u64 e.h.fl, .string ⟨e.h.nm.toArray⟩, .slice e.h.s.ao e.h.s.n e.h.s.c]] w _
 go_enter Tryz.func50, Tryz.ntmps50
 go_upto_region 1 with fail
 rw [bx_x]
 go_upto_region 8 with fail
 have KG := Hj fun w' (hb : Below (bx w (xO e.h)).heap.size (bx w (xO e.h)) w') => (hb.cell (p := ⟨w.heap.size, 4, none⟩) (by rw [bx_size]; exact Nat.lt_succ_self _)).trans c4
 have KX := Hj fun (w' : World) (h : w'.heap[w.heap.size]? = some (xO e.h)) => (x_cells h).2.2.2.2.1
 generalize bx w (xO e.h) = wx at *
 go_region_held3 (fun w' => w'.cell? ⟨w.heap.size, 4, none⟩ = some (.int .u64 e.h.fl)) (first | exact c4 | exact KG.out _ ((Below.drew (Below.refl _ _)).trans hb1) | exact KX.out _ (hf2.x ((hb1.block _ (Array.getElem?_eq_some_iff.1 HX.out).1).trans HX.out) HNE.out))
  (first
   | (go_at_call 83; refine (C1.out _ HE.out.env.drew).mono ?_; rintro r w1 ⟨rfl, hb1⟩)
   | (go_at_call 77; refine (C2.out _ (HW.out.drew.kept hb1) (Nat.le_trans FX.out.size hb1.size)).mono ?_; rintro r w2 ⟨rfl, hw2, hf2⟩))
 all_goals
  go_wp2_with fail
  go_end0
  exact ⟨rfl, by simpa using hw2, FX.out.trans ((Fr.of (Below.drew (Below.refl _ _)) FX.out.size).trans ((Fr.of hb1 FX.out.size).trans hf2))⟩
set_option maxHeartbeats 3200000 in
theorem wX4 (B b : Nat) (e : Ex) (i0 : 0 < e.h.s.n → OkX B (e.k 0)) (hop : e.h.op = 4) (w : World) (hI : e.In B w) (hE : En B w) (hB : B ≤ w.heap.size) : Wrt B b 50 #[e.h.v] (e.txt prT) w := by
 intro bs d hW hl
 have FX := Hj ((Fr.refl b hB).bx (xO e.h))
 have HW := Hj (hW.bx (xO e.h))
 have HI := Hj (hI.below FX.out.1 (Nat.le_refl _))
 have HE := Hj (hE.below FX.out.1 (Nat.le_refl _))
 have HNE : Hid (w.heap.size ≠ b) := by have := hW.lt; show _ ≠ _; omega
 have HX := Hj (bx_new w (xO e.h))
 have hok := hI.ok
 rw [Ex.txt_arg] at hl ⊢
 simp [headT, hop] at hl ⊢
 have e0 : (argX e 0).txt prT = (if 0 < e.h.s.n then (e.k 0).txt prT else []) := (arg_txt prT e).symm
 rw [e0] at hl ⊢
 have C1 := Hj (wPlc_of B b e.h.nm e.h.s e.k i0 _ HI.out.xs HE.out FX.out.size bs d HW.out hl)
 generalize nameT e.h.nm e.h.s.n (if 0 < e.h.s.n then (e.k 0).txt prT else []) = T at *
 obtain ⟨c0, c1, c2, c3, c4, c5, c6⟩ := x_cells (bx_new w (xO e.h))
 rw [hop] at c0
 clear hl hI hE hB hW hop hok
 show Calls Tryz.prog 50 #[.pointer (some ⟨b, 0, none⟩), .agg #[.int .u8 e.h.op, .int .i64 e.h.ps, .bool e.h.bo, .int .i32 e.h.it, .int .u64 e.h.fl, .string ⟨e.h.nm.toArray⟩, .slice e.h.s.ao e.h.s.n e.h.s.c]] w _
 go_enter Tryz.func50, Tryz.ntmps50
 go_upto_region 1 with fail
 rw [bx_x]
 go_wp2_with fail
 refine C1.out.mono ?_
 rintro r w1 ⟨rfl, hw1, hf1⟩
 have F1 := Hj (FX.out.trans hf1)
 clear hf1
 go_wp2_with fail
 go_end0
 exact ⟨rfl, hw1, F1.out⟩
set_option maxHeartbeats 3200000 in
theorem wX19 (B b : Nat) (e : Ex) (i0 : OkX B (argX e 0)) (hop : e.h.op = 19) (w : World) (hI : e.In B w) (hE : En B w) (hB : B ≤ w.heap.size) : Wrt B b 50 #[e.h.v] (e.txt prT) w := by
 intro bs d hW hl
 have FX := Hj ((Fr.refl b hB).bx (xO e.h))
 have HW := Hj (hW.bx (xO e.h))
 have HI := Hj (hI.below FX.out.1 (Nat.le_refl _))
 have HE := Hj (hE.below FX.out.1 (Nat.le_refl _))
 have HNE : Hid (w.heap.size ≠ b) := by have := hW.lt; show _ ≠ _; omega
 have HX := Hj (bx_new w (xO e.h))
 have hok := hI.ok
 rw [Ex.txt_arg] at hl ⊢
 simp [headT, hop] at hl ⊢
 have A0 : Hid (Calls Tryz.prog 86 #[.agg #[.int .u8 19, .int .i64 e.h.ps, .bool e.h.bo, .int .i32 e.h.it, .int .u64 e.h.fl, .string ⟨e.h.nm.toArray⟩, .slice e.h.s.ao e.h.s.n e.h.s.c], .int .i64 0] (bx w (xO e.h)) fun r w' => r = .returned (argX e 0).h.v ∧ Below (bx w (xO e.h)).heap.size (bx w (xO e.h)) w') := by
  show Calls _ _ _ _ _
  rw [← hop]
  exact tArg_any B e 0 _ HI.out FX.out.size
 have C1 := Hj fun w hI hE hB hW => wEnc_of B b (argX e 0) i0 [105, 110, 116, 40] [41] w hI hE hB bs d hW (by simp only [List.length_append, List.length_cons, List.length_nil] at hl ⊢; omega)
 have HA := Hj (argX_in HI.out 0)
 generalize argX e 0 = a at *
 generalize a.txt prT = T at *
 obtain ⟨c0, c1, c2, c3, c4, c5, c6⟩ := x_cells (bx_new w (xO e.h))
 rw [hop] at c0
 clear hl hI hE hB hW hop hok
 show Calls Tryz.prog 50 #[.pointer (some ⟨b, 0, none⟩), .agg #[.int .u8 e.h.op, .int .i64 e.h.ps, .bool e.h.bo, .int .i32 e.h.it, .int .u64 e.h.fl, .string ⟨e.h.nm.toArray⟩, .slice e.h.s.ao e.h.s.n e.h.s.c]] w _
 go_enter Tryz.func50, Tryz.ntmps50
 go_upto_region 1 with fail
 rw [bx_x]
 go_wp2_with fail
 refine A0.out.mono ?_
 rintro r w1 ⟨rfl, hb1⟩
 have HA1 := Hj (HA.out.below hb1 FX.out.size)
 have HE1 := Hj (HE.out.below hb1 FX.out.size)
 have W1 := Hj (HW.out.kept hb1)
 have F1 := Hj (FX.out.trans (Fr.of (b := b) hb1 FX.out.size))
 clear hb1 c0 c1 c2 c3 c4 c5 c6
 go_wp2_with fail
 refine (C1.out _ HA1.out HE1.out F1.out.size W1.out).mono ?_
 rintro r w2 ⟨rfl, hw2, hf2⟩
 have F2 := Hj (F1.out.trans hf2)
 clear hf2
 go_wp2_with fail
 go_end0
 exact ⟨rfl, by simpa using hw2, F2.out⟩
set_option maxHeartbeats 3200000 in
theorem wX20 (B b : Nat) (e : Ex) (i0 : OkX B (argX e 0)) (hop : e.h.op = 20) (w : World) (hI : e.In B w) (hE : En B w) (hB : B ≤ w.heap.size) : Wrt B b 50 #[e.h.v] (e.txt prT) w := by
 intro bs d hW hl
 have FX := Hj ((Fr.refl b hB).bx (xO e.h))
 have HW := Hj (hW.bx (xO e.h))
 have HI := Hj (hI.below FX.out.1 (Nat.le_refl _))
 have HE := Hj (hE.below FX.out.1 (Nat.le_refl _))
 have HNE : Hid (w.heap.size ≠ b) := by have := hW.lt; show _ ≠ _; omega
 have HX := Hj (bx_new w (xO e.h))
 have hok := hI.ok
 rw [Ex.txt_arg] at hl ⊢
 simp [headT, hop] at hl ⊢
 have A0 : Hid (Calls Tryz.prog 86 #[.agg #[.int .u8 20, .int .i64 e.h.ps, .bool e.h.bo, .int .i32 e.h.it, .int .u64 e.h.fl, .string ⟨e.h.nm.toArray⟩, .slice e.h.s.ao e.h.s.n e.h.s.c], .int .i64 0] (bx w (xO e.h)) fun r w' => r = .returned (argX e 0).h.v ∧ Below (bx w (xO e.h)).heap.size (bx w (xO e.h)) w') := by
  show Calls _ _ _ _ _
  rw [← hop]
  exact tArg_any B e 0 _ HI.out FX.out.size
 have C1 := Hj fun w hI hE hB hW => wEnc_of B b (argX e 0) i0 [102, 108, 111, 97, 116, 40] [41] w hI hE hB bs d hW (by simp only [List.length_append, List.length_cons, List.length_nil] at hl ⊢; omega)
 have HA := Hj (argX_in HI.out 0)
 generalize argX e 0 = a at *
 generalize a.txt prT = T at *
 obtain ⟨c0, c1, c2, c3, c4, c5, c6⟩ := x_cells (bx_new w (xO e.h))
 rw [hop] at c0
 clear hl hI hE hB hW hop hok
 show Calls Tryz.prog 50 #[.pointer (some ⟨b, 0, none⟩), .agg #[.int .u8 e.h.op, .int .i64 e.h.ps, .bool e.h.bo, .int .i32 e.h.it, .int .u64 e.h.fl, .string ⟨e.h.nm.toArray⟩, .slice e.h.s.ao e.h.s.n e.h.s.c]] w _
 go_enter Tryz.func50, Tryz.ntmps50
 go_upto_region 1 with fail
 rw [bx_x]
 go_wp2_with fail
 refine A0.out.mono ?_
 rintro r w1 ⟨rfl, hb1⟩
 have HA1 := Hj (HA.out.below hb1 FX.out.size)
 have HE1 := Hj (HE.out.below hb1 FX.out.size)
 have W1 := Hj (HW.out.kept hb1)
 have F1 := Hj (FX.out.trans (Fr.of (b := b) hb1 FX.out.size))
 clear hb1 c0 c1 c2 c3 c4 c5 c6
 go_wp2_with fail
 refine (C1.out _ HA1.out HE1.out F1.out.size W1.out).mono ?_
 rintro r w2 ⟨rfl, hw2, hf2⟩
 have F2 := Hj (F1.out.trans hf2)
 clear hf2
 go_wp2_with fail
 go_end0
 exact ⟨rfl, by simpa using hw2, F2.out⟩
set_option maxHeartbeats 3200000 in
theorem wX21 (B b : Nat) (e : Ex) (i0 : OkX B (argX e 0)) (hop : e.h.op = 21) (w : World) (hI : e.In B w) (hE : En B w) (hB : B ≤ w.heap.size) : Wrt B b 50 #[e.h.v] (e.txt prT) w := by
 intro bs d hW hl
 have FX := Hj ((Fr.refl b hB).bx (xO e.h))
 have HW := Hj (hW.bx (xO e.h))
 have HI := Hj (hI.below FX.out.1 (Nat.le_refl _))
 have HE := Hj (hE.below FX.out.1 (Nat.le_refl _))
 have HNE : Hid (w.heap.size ≠ b) := by have := hW.lt; show _ ≠ _; omega
 have HX := Hj (bx_new w (xO e.h))
 have hok := hI.ok
 rw [Ex.txt_arg] at hl ⊢
 simp [headT, hop] at hl ⊢
 have A0 : Hid (Calls Tryz.prog 86 #[.agg #[.int .u8 21, .int .i64 e.h.ps, .bool e.h.bo, .int .i32 e.h.it, .int .u64 e.h.fl, .string ⟨e.h.nm.toArray⟩, .slice e.h.s.ao e.h.s.n e.h.s.c], .int .i64 0] (bx w (xO e.h)) fun r w' => r = .returned (argX e 0).h.v ∧ Below (bx w (xO e.h)).heap.size (bx w (xO e.h)) w') := by
  show Calls _ _ _ _ _
  rw [← hop]
  exact tArg_any B e 0 _ HI.out FX.out.size
 have C1 := Hj fun w hI hE hB hW => wEnc_of B b (argX e 0) i0 [97, 98, 115, 40] [41] w hI hE hB bs d hW (by simp only [List.length_append, List.length_cons, List.length_nil] at hl ⊢; omega)
 have HA := Hj (argX_in HI.out 0)
 generalize argX e 0 = a at *
 generalize a.txt prT = T at *
 obtain ⟨c0, c1, c2, c3, c4, c5, c6⟩ := x_cells (bx_new w (xO e.h))
 rw [hop] at c0
 clear hl hI hE hB hW hop hok
 show Calls Tryz.prog 50 #[.pointer (some ⟨b, 0, none⟩), .agg #[.int .u8 e.h.op, .int .i64 e.h.ps, .bool e.h.bo, .int .i32 e.h.it, .int .u64 e.h.fl, .string ⟨e.h.nm.toArray⟩, .slice e.h.s.ao e.h.s.n e.h.s.c]] w _
 go_enter Tryz.func50, Tryz.ntmps50
 go_upto_region 1 with fail
 rw [bx_x]
 go_wp2_with fail
 refine A0.out.mono ?_
 rintro r w1 ⟨rfl, hb1⟩
 have HA1 := Hj (HA.out.below hb1 FX.out.size)
 have HE1 := Hj (HE.out.below hb1 FX.out.size)
 have W1 := Hj (HW.out.kept hb1)
 have F1 := Hj (FX.out.trans (Fr.of (b := b) hb1 FX.out.size))
 clear hb1 c0 c1 c2 c3 c4 c5 c6
 go_wp2_with fail
 refine (C1.out _ HA1.out HE1.out F1.out.size W1.out).mono ?_
 rintro r w2 ⟨rfl, hw2, hf2⟩
 have F2 := Hj (F1.out.trans hf2)
 clear hf2
 go_wp2_with fail
 go_end0
 exact ⟨rfl, by simpa using hw2, F2.out⟩
set_option maxHeartbeats 3200000 in
theorem wX17 (B b : Nat) (e : Ex) (i0 : OkX B (argX e 0)) (hop : e.h.op = 17) (w : World) (hI : e.In B w) (hE : En B w) (hB : B ≤ w.heap.size) : Wrt B b 50 #[e.h.v] (e.txt prT) w := by
 intro bs d hW hl
 have FX := Hj ((Fr.refl b hB).bx (xO e.h))
 have HW := Hj (hW.bx (xO e.h))
 have HI := Hj (hI.below FX.out.1 (Nat.le_refl _))
 have HE := Hj (hE.below FX.out.1 (Nat.le_refl _))
 have HNE : Hid (w.heap.size ≠ b) := by have := hW.lt; show _ ≠ _; omega
 have HX := Hj (bx_new w (xO e.h))
 have hok := hI.ok
 rw [Ex.txt_arg] at hl ⊢
 simp [headT, hop] at hl ⊢
 have A0 := Hj fun w hI hB => tArg_any B e 0 w hI hB
 have S0 := Hj (wString_any B b bs [45] d _ HW.out (by simp only [List.length_cons, List.length_nil]; omega) FX.out.size)
 have C1 := Hj fun w hI hE hB hW => wOpnd_of B b (argX e 0) i0 w hI hE hB (bs ++ [45]) d hW (by simp only [List.length_append, List.length_cons, List.length_nil]; omega)
 have HA := Hj (argX_in HI.out 0)
 generalize argX e 0 = a at *
 generalize brk a.bin (a.txt prT) = T at *
 obtain ⟨c0, c1, c2, c3, c4, c5, c6⟩ := x_cells (bx_new w (xO e.h))
 rw [hop] at c0
 clear hl hI hE hB hW hop hok
 show Calls Tryz.prog 50 #[.pointer (some ⟨b, 0, none⟩), .agg #[.int .u8 e.h.op, .int .i64 e.h.ps, .bool e.h.bo, .int .i32 e.h.it, .int .u64 e.h.fl, .string ⟨e.h.nm.toArray⟩, .slice e.h.s.ao e.h.s.n e.h.s.c]] w _
 go_enter Tryz.func50, Tryz.ntmps50
 go_upto_region 1 with fail
 rw [bx_x]
 clear c1 c2 c3 c4 c5 c6
 go_wp2_with fail
 refine S0.out.mono ?_
 rintro r w1 ⟨rfl, hw1, hf1⟩
 have F1 := Hj (FX.out.trans hf1)
 obtain ⟨c0, c1, c2, c3, c4, c5, c6⟩ := x_cells (hf1.x HX.out HNE.out)
 have A1 := Hj (A0.out w1 (HI.out.below hf1.1 (Nat.le_refl _)) F1.out.size)
 have HA1 := Hj (HA.out.below hf1.1 (Nat.le_refl _))
 have HE1 := Hj (HE.out.below hf1.1 (Nat.le_refl _))
 have W1 := Hj hw1
 clear hw1 hf1 A0 S0
 go_wp2_with fail
 refine A1.out.mono ?_
 rintro r w2 ⟨rfl, hb2⟩
 have HA2 := Hj (HA1.out.below hb2 F1.out.size)
 have HE2 := Hj (HE1.out.below hb2 F1.out.size)
 have W2 := Hj (W1.out.kept hb2)
 have F2 := Hj (F1.out.trans (Fr.of (b := b) hb2 F1.out.size))
 clear hb2 c0 c1 c2 c3 c4 c5 c6
 go_wp2_with fail
 refine (C1.out _ HA2.out HE2.out F2.out.size W2.out).mono ?_
 rintro r w3 ⟨rfl, hw3, hf3⟩
 have F3 := Hj (F2.out.trans hf3)
 clear hf3
 go_wp2_with fail
 go_end0
 exact ⟨rfl, by simpa using hw3, F3.out⟩
set_option maxHeartbeats 3200000 in
theorem wX18 (B b : Nat) (e : Ex) (i0 : OkX B (argX e 0)) (hop : e.h.op = 18) (w : World) (hI : e.In B w) (hE : En B w) (hB : B ≤ w.heap.size) : Wrt B b 50 #[e.h.v] (e.txt prT) w := by
 intro bs d hW hl
 have FX := Hj ((Fr.refl b hB).bx (xO e.h))
 have HW := Hj (hW.bx (xO e.h))
 have HI := Hj (hI.below FX.out.1 (Nat.le_refl _))
 have HE := Hj (hE.below FX.out.1 (Nat.le_refl _))
 have HNE : Hid (w.heap.size ≠ b) := by have := hW.lt; show _ ≠ _; omega
 have HX := Hj (bx_new w (xO e.h))
 have hok := hI.ok
 rw [Ex.txt_arg] at hl ⊢
 simp [headT, hop] at hl ⊢
 have A0 := Hj fun w hI hB => tArg_any B e 0 w hI hB
 have S0 := Hj (wString_any B b bs [33] d _ HW.out (by simp only [List.length_cons, List.length_nil]; omega) FX.out.size)
 have C1 := Hj fun w hI hE hB hW => wOpnd_of B b (argX e 0) i0 w hI hE hB (bs ++ [33]) d hW (by simp only [List.length_append, List.length_cons, List.length_nil]; omega)
 have HA := Hj (argX_in HI.out 0)
 generalize argX e 0 = a at *
 generalize brk a.bin (a.txt prT) = T at *
 obtain ⟨c0, c1, c2, c3, c4, c5, c6⟩ := x_cells (bx_new w (xO e.h))
 rw [hop] at c0
 clear hl hI hE hB hW hop hok
 show Calls Tryz.prog 50 #[.pointer (some ⟨b, 0, none⟩), .agg #[.int .u8 e.h.op, .int .i64 e.h.ps, .bool e.h.bo, .int .i32 e.h.it, .int .u64 e.h.fl, .string ⟨e.h.nm.toArray⟩, .slice e.h.s.ao e.h.s.n e.h.s.c]] w _
 go_enter Tryz.func50, Tryz.ntmps50
 go_upto_region 1 with fail
 rw [bx_x]
 clear c1 c2 c3 c4 c5 c6
 go_wp2_with fail
 refine S0.out.mono ?_
 rintro r w1 ⟨rfl, hw1, hf1⟩
 have F1 := Hj (FX.out.trans hf1)
 obtain ⟨c0, c1, c2, c3, c4, c5, c6⟩ := x_cells (hf1.x HX.out HNE.out)
 have A1 := Hj (A0.out w1 (HI.out.below hf1.1 (Nat.le_refl _)) F1.out.size)
 have HA1 := Hj (HA.out.below hf1.1 (Nat.le_refl _))
 have HE1 := Hj (HE.out.below hf1.1 (Nat.le_refl _))
 have W1 := Hj hw1
 clear hw1 hf1 A0 S0
 go_wp2_with fail
 refine A1.out.mono ?_
 rintro r w2 ⟨rfl, hb2⟩
 have HA2 := Hj (HA1.out.below hb2 F1.out.size)
 have HE2 := Hj (HE1.out.below hb2 F1.out.size)
 have W2 := Hj (W1.out.kept hb2)
 have F2 := Hj (F1.out.trans (Fr.of (b := b) hb2 F1.out.size))
 clear hb2 c0 c1 c2 c3 c4 c5 c6
 go_wp2_with fail
 refine (C1.out _ HA2.out HE2.out F2.out.size W2.out).mono ?_
 rintro r w3 ⟨rfl, hw3, hf3⟩
 have F3 := Hj (F2.out.trans hf3)
 clear hf3
 go_wp2_with fail
 go_end0
 exact ⟨rfl, by simpa using hw3, F3.out⟩
set_option maxHeartbeats 3200000 in
theorem wXd (B b : Nat) (e : Ex) (i0 : opBin e.h.op = true → OkX B (argX e 0)) (i1 : opBin e.h.op = true → OkX B (argX e 1)) (hop : ¬ e.h.op = 1 ∧ ¬ e.h.op = 2 ∧ ¬ e.h.op = 3 ∧ ¬ e.h.op = 4 ∧ ¬ e.h.op = 19 ∧ ¬ e.h.op = 20 ∧ ¬ e.h.op = 21 ∧ ¬ e.h.op = 17 ∧ ¬ e.h.op = 18) (w : World) (hI : e.In B w) (hE : En B w) (hB : B ≤ w.heap.size) : Wrt B b 50 #[e.h.v] (e.txt prT) w := by
 intro bs d hW hl
 have FX := Hj ((Fr.refl b hB).bx (xO e.h))
 have HW := Hj (hW.bx (xO e.h))
 have HI := Hj (hI.below FX.out.1 (Nat.le_refl _))
 have HE := Hj (hE.below FX.out.1 (Nat.le_refl _))
 have HNE : Hid (w.heap.size ≠ b) := by have := hW.lt; show _ ≠ _; omega
 have HX := Hj (bx_new w (xO e.h))
 have hok := hI.ok
 obtain ⟨k1, k2, k3, k4, k19, k20, k21, k17, k18⟩ := hop
 have eT : e.txt prT = binT e := by
  rw [Ex.txt_arg]
  unfold headT binT
  rw [if_neg k1, if_neg k2, if_neg k3, if_neg k4, if_neg k19, if_neg k20, if_neg k21, if_neg k17, if_neg k18]
 rw [eT] at hl ⊢
 have C1 := Hj (wBin_of B b e i0 i1 _ HI.out HE.out FX.out.size bs d HW.out hl)
 have q1 : (e.h.op == 1) = false := by simpa using k1
 have q2 : (e.h.op == 2) = false := by simpa using k2
 have q3 : (e.h.op == 3) = false := by simpa using k3
 have q4 : (e.h.op == 4) = false := by simpa using k4
 have q19 : (e.h.op == 19) = false := by simpa using k19
 have q20 : (e.h.op == 20) = false := by simpa using k20
 have q21 : (e.h.op == 21) = false := by simpa using k21
 have q17 : (e.h.op == 17) = false := by simpa using k17
 have q18 : (e.h.op == 18) = false := by simpa using k18
 obtain ⟨c0, c1, c2, c3, c4, c5, c6⟩ := x_cells (bx_new w (xO e.h))
 clear hl hI hE hB hW hok eT
 show Calls Tryz.prog 50 #[.pointer (some ⟨b, 0, none⟩), .agg #[.int .u8 e.h.op, .int .i64 e.h.ps, .bool e.h.bo, .int .i32 e.h.it, .int .u64 e.h.fl, .string ⟨e.h.nm.toArray⟩, .slice e.h.s.ao e.h.s.n e.h.s.c]] w _
 go_enter Tryz.func50, Tryz.ntmps50
 go_upto_region 1 with fail
 rw [bx_x]
 go_wp2_with fail
 refine C1.out.mono ?_
 rintro r w1 ⟨rfl, hw1, hf1⟩
 have F1 := Hj (FX.out.trans hf1)
 clear hf1
 go_wp2_with fail
 go_end0
 exact ⟨rfl, hw1, F1.out⟩
theorem okX_of (B : Nat) (e : Ex) (i0 : e.h.op ≠ 0 → OkX B (argX e 0)) (i1 : e.h.op ≠ 0 → OkX B (argX e 1)) : OkX B e := by
 intro b w hI hE hB
 by_cases h1 : e.h.op = 1
 ·exact wX1 B b e h1 w hI hE hB
 by_cases h2 : e.h.op = 2
 ·exact wX2 B b e h2 w hI hE hB
 by_cases h3 : e.h.op = 3
 ·exact wX3 B b e h3 w hI hE hB
 by_cases h4 : e.h.op = 4
 ·exact wX4 B b e (fun h => by have := i0 (by omega); rwa [argX, if_pos h] at this) h4 w hI hE hB
 by_cases h19 : e.h.op = 19
 ·exact wX19 B b e (i0 (by omega)) h19 w hI hE hB
 by_cases h20 : e.h.op = 20
 ·exact wX20 B b e (i0 (by omega)) h20 w hI hE hB
 by_cases h21 : e.h.op = 21
 ·exact wX21 B b e (i0 (by omega)) h21 w hI hE hB
 by_cases h17 : e.h.op = 17
 ·exact wX17 B b e (i0 (by omega)) h17 w hI hE hB
 by_cases h18 : e.h.op = 18
 ·exact wX18 B b e (i0 (by omega)) h18 w hI hE hB
 have hz : opBin e.h.op = true → e.h.op ≠ 0 := fun h h0 => by rw [h0] at h; cases h
 exact wXd B b e (fun h => i0 (hz h)) (fun h => i1 (hz h)) ⟨h1, h2, h3, h4, h19, h20, h21, h17, h18⟩ w hI hE hB
theorem okX_no (B : Nat) : OkX B .no := okX_of B .no (fun h => absurd rfl h) (fun h => absurd rfl h)
theorem okX_any (B : Nat) (e : Ex) : OkX B e := by
 induction e using Ex.ind with
 | H e ih =>
  have h : ∀ i, OkX B (argX e i) := fun i => by
   unfold argX
   split
   ·rename_i hi; exact ih i hi
   ·exact okX_no B
  exact okX_of B e (fun _ => h 0) (fun _ => h 1)
def wO : Obj := .cells #[.pointer none, .slice none 0 0, .int .i64 0] 89 (0, 0)
theorem wr_new {B : Nat} (w : World) (h : B ≤ w.heap.size) : Wr B w.heap.size [] 0 (bx w wO) := .inl ⟨h, _, bx_new w wO, World.ownsRow_nil _ _ _ _, by simp [Value.ownBlock]⟩
set_option maxHeartbeats 1600000 in
theorem tText_any (e : Ex) (B : Nat) (w : World) (hI : e.In B w) (hB : B ≤ w.heap.size) (hE : EnvOk w) (hS : SgOk w) (hl : (e.txt prT).length ≤ 140737488355328) :
  Calls Tryz.prog 21 #[e.h.v] w fun r w' => r = .returned (.string ⟨(e.txt prT).toArray⟩) ∧ Below w.heap.size w w' := by
 have hW := wr_new (B := w.heap.size) (bx w (xO e.h)) (by rw [bx_size]; omega)
 rw [bx_size] at hW
 have FX := Hj (((Fr.refl (w.heap.size + 1) (Nat.le_refl w.heap.size)).bx (xO e.h)).bx wO)
 have HX := Hj ((bx_old (bx w (xO e.h)) wO (by rw [bx_size]; omega)).trans (bx_new w (xO e.h)))
 obtain ⟨c0, c1, c2, c3, c4, c5, c6⟩ := x_cells HX.out
 have C1 := Hj (okX_any w.heap.size e (w.heap.size + 1) (bx (bx w (xO e.h)) wO) (hI.mono (bel_same FX.out.1 hB) hB) ((En.of hE hS).below FX.out.1 (Nat.le_refl _)) FX.out.size [] 0 hW (by simpa using hl))
 have C2 := Hj fun w' h hB => wStr_any w.heap.size (w.heap.size + 1) (e.txt prT) 0 w' h hB
 generalize e.txt prT = T at *
 have hz : (bx w (xO e.h)).heap.size = w.heap.size + 1 := bx_size _ _
 clear hI hE hS hl hW
 show Calls Tryz.prog 21 #[.agg #[.int .u8 e.h.op, .int .i64 e.h.ps, .bool e.h.bo, .int .i32 e.h.it, .int .u64 e.h.fl, .string ⟨e.h.nm.toArray⟩, .slice e.h.s.ao e.h.s.n e.h.s.c]] w _
 go_enter Tryz.func21, Tryz.ntmps21
 go_upto_region 1 with fail
 rw [bx_x]
 go_upto_region 2 with fail
 rw [show (bx w (xO e.h)).alloc (.cells #[.pointer none, .slice none 0 0, .int .i64 0] 89 (0, 0)) = bx (bx w (xO e.h)) wO from rfl]
 go_wp2_with fail
 refine C1.out.mono ?_
 rintro r w1 ⟨rfl, hw1, hf1⟩
 have F1 := Hj (FX.out.trans hf1)
 have W1 : Hid (Wr w.heap.size (w.heap.size + 1) T 0 w1) := hw1
 clear hw1 hf1 c0 c1 c2 c3 c4 c5 c6
 go_wp2_with fail
 refine (C2.out _ W1.out F1.out.size).mono ?_
 rintro r w2 ⟨rfl, hb2⟩
 have B2 := Hj (F1.out.1.trans hb2)
 clear hb2
 go_wp2_with fail
 go_ret
 exact ⟨rfl, B2.out⟩
def wkA : List UInt8 := [97, 32, 45, 32, 98, 32, 45, 32, 99, 32, 60, 32, 45, 100, 32, 42, 32, 50]
def wkB : List UInt8 := [97, 32, 60, 32, 98, 32, 60, 32, 99]
def wkC : List UInt8 := [116, 105, 99, 107, 115, 32, 53, 59, 32, 105, 110, 112, 117, 116, 32, 117, 58, 32, 102, 108, 111, 97, 116, 32, 105, 110, 32, 91, 45, 49, 46, 53, 44, 32, 50, 93, 59, 32, 118, 97, 114, 32, 120, 58, 32, 105, 110, 116, 91, 51, 93, 59, 32, 105, 110, 105, 116, 32, 123, 32, 125, 32, 115, 116, 101, 112, 32, 123, 32, 105, 102, 32, 117, 32, 60, 32, 49, 46, 48, 32, 123, 32, 120, 91, 48, 93, 32, 61, 32, 49, 59, 32, 125, 32, 101, 108, 115, 101, 32, 105, 102, 32, 116, 114, 117, 101, 32, 123, 32, 125, 32, 102, 111, 114, 32, 105, 32, 61, 32, 45, 49, 32, 46, 46, 32, 50, 32, 123, 32, 125, 32, 125]
def wkT : List UInt8 := [40, 40, 97, 32, 45, 32, 98, 41, 32, 45, 32, 99, 41, 32, 60, 32, 40, 45, 100, 32, 42, 32, 50, 41]
def ckA (r : Rs Ex) : Bool := match r with
 | .ok a _ => decide (a.h.op = 9 ∧ a.h.ps = 10 ∧ a.h.s.n = 2) && (a.txt prT == wkT)
 | .no _ _ => false
def ckC (r : Rs Pr) : Bool := match r with
 | .ok p _ => decide (p.ticks = 5 ∧ p.ds.n = 2 ∧ p.ss.n = 2 ∧ (p.s 0).h.es.n = 1 ∧ (p.d 0).rg = true ∧ (p.d 0).lo.h.fl = 13832806255468478464 ∧ (p.d 1).len = 3 ∧ (p.s 1).h.lo = -1)
 | .no _ _ => false
theorem wk_a : ckA (rsX wkA) = true := by decide +kernel
theorem wk_b : (rsX wkB).er = 110 ∧ (rsX wkB).pl = 6 := by decide +kernel
theorem wk_c : ckC (rsP wkC) = true := by decide +kernel
theorem addr_row {a : Addr} {sz b o : Nat} (h : a.add (0 * sz) = ⟨b, o, none⟩) : a = ⟨b, o, none⟩ := by
 rw [Nat.zero_mul] at h
 obtain ⟨b', o', x⟩ := a
 cases x with
 | none => simpa [Addr.add] using h
 | some x => simp [Addr.add] at h
theorem ss_row {B : Nat} {w : World} {s : Sl} {k : Nat → St} (h : SsIn B w s k) (h0 : 0 < s.n) : ∃ b o, s.ao = some ⟨b, o, none⟩ ∧ b < B ∧ ∀ i, i < s.n → S15 w b (o + i * 15) (k i).h (k i).e.h := by
 obtain ⟨a, b, o, ha, hA, hb, X, I⟩ := h.at h0
 have := addr_row hA
 subst this
 refine ⟨b, o, ha, hb, fun i hi => ?_⟩
 obtain ⟨a', b', o', ha', hA', hb', X', I'⟩ := h.at hi
 rw [ha] at ha'
 cases ha'
 have e : (⟨b, o + i * 15, none⟩ : Addr) = ⟨b', o', none⟩ := by rw [← hA', Addr.add_mid]
 cases e
 exact X'
theorem ds_row {B : Nat} {w : World} {s : Sl} {k : Nat → De} (h : DsIn B w s k) (h0 : 0 < s.n) : ∃ b o, s.ao = some ⟨b, o, none⟩ ∧ b < B ∧ ∀ i, i < s.n → D20 w b (o + i * 20) (k i) (k i).lo.h (k i).hi.h := by
 obtain ⟨a, b, o, ha, hA, hb, X, I⟩ := h.at h0
 have := addr_row hA
 subst this
 refine ⟨b, o, ha, hb, fun i hi => ?_⟩
 obtain ⟨a', b', o', ha', hA', hb', X', I'⟩ := h.at hi
 rw [ha] at ha'
 cases ha'
 have e : (⟨b, o + i * 20, none⟩ : Addr) = ⟨b', o', none⟩ := by rw [← hA', Addr.add_mid]
 cases e
 exact X'
theorem wkA_any (w : World) (h : Env9 w) : Calls Tryz.prog 13 #[.string ⟨wkA.toArray⟩] w fun r w' => ∃ a' : Ex, r = .returned (.tuple #[a'.h.v, .int .i64 0, .int .i64 0]) ∧ XO (Fro w.heap.size) a' w' ∧ (a'.h.op = 9 ∧ a'.h.ps = 10 ∧ a'.h.s.n = 2 ∧ a'.txt prT = wkT) ∧ Below w.heap.size w w' := by
 have K := wk_a
 have P := ppExpr_top ⟨wkA.toArray⟩ w h
 change Calls _ _ _ _ (PTop w (rsX wkA) .no (VX w.heap.size)) at P
 generalize rsX wkA = R at *
 cases R with
 | no c p => cases K
 | ok a s =>
  simp only [ckA, Bool.and_eq_true, decide_eq_true_eq, beq_iff_eq] at K
  refine P.mono ?_
  rintro r w' ⟨v, rfl, ⟨a', rfl, xa, ea⟩, hb⟩
  obtain ⟨h1, h2, h3⟩ := (Ex.eqv_iff _ _).1 ea
  obtain ⟨g1, g2, g3, g4, g5, g6, g7⟩ := Ex.same_iff.1 (Ex.eqv_same ea)
  exact ⟨a', rfl, xa, ⟨g1.trans K.1.1, h2.symm.trans K.1.2.1, g6.trans K.1.2.2, (Ex.same_txt prT (Ex.eqv_same ea)).trans K.2⟩, hb⟩
theorem wkB_any (w : World) (h : Env9 w) : Calls Tryz.prog 13 #[.string ⟨wkB.toArray⟩] w fun r w' => ∃ a' : Ex, r = .returned (.tuple #[a'.h.v, .int .i64 110, .int .i64 6]) ∧ Below w.heap.size w w' := by
 have K := wk_b
 have P := ppExpr_top ⟨wkB.toArray⟩ w h
 change Calls _ _ _ _ (PTop w (rsX wkB) .no (VX w.heap.size)) at P
 generalize rsX wkB = R at *
 refine P.mono ?_
 rintro r w' ⟨v, rfl, ⟨a', rfl, xa, ea⟩, hb⟩
 exact ⟨a', by rw [K.1, K.2], hb⟩
structure FacP (p : Pr) : Prop where
 tk : p.ticks = 5
 dn : p.ds.n = 2
 sn : p.ss.n = 2
 es : (p.s 0).h.es.n = 1
 rg : (p.d 0).rg = true
 fl : (p.d 0).lo.h.fl = 13832806255468478464
 ln : (p.d 1).len = 3
 lo : (p.s 1).h.lo = -1
theorem wkC_any (w : World) (h : Env9 w) : Calls Tryz.prog 9 #[.string ⟨wkC.toArray⟩] w fun r w' => ∃ p' : Pr, r = .returned (.tuple #[p'.v, .int .i64 0, .int .i64 0]) ∧ p'.In w'.heap.size w' ∧ FacP p' ∧ Below w.heap.size w w' := by
 have K := wk_c
 have P := ppParse_any ⟨wkC.toArray⟩ w h
 change Calls _ _ _ _ (PTop w (rsP wkC) noPr (VP w.heap.size)) at P
 generalize rsP wkC = R at *
 cases R with
 | no c p => cases K
 | ok p s =>
  simp only [ckC, decide_eq_true_eq] at K
  obtain ⟨k1, k2, k3, k4, k5, k6, k7, k8⟩ := K
  refine P.mono ?_
  rintro r w' ⟨v, rfl, ⟨p', rfl, xp, e1, ⟨e2, e3⟩, ⟨e4, e5⟩, ⟨e6, e7⟩⟩, hb⟩
  change p'.ticks = p.ticks at e1
  change p'.ds.n = p.ds.n at e2
  change p'.ss.n = p.ss.n at e6
  have hI : p'.In w'.heap.size w' := ⟨xp.1, DsIn.stay xp.2.1 (stay_up _ _) (Nat.le_refl _), SsIn.stay xp.2.2.1 (stay_up _ _) (Nat.le_refl _), SsIn.stay xp.2.2.2 (stay_up _ _) (Nat.le_refl _)⟩
  have d0 := e3 0 (by omega)
  have d1 := e3 1 (by omega)
  have s0 := e7 0 (by omega)
  have s1 := e7 1 (by omega)
  have t0 := St.same_iff.1 (St.eqv_same s0)
  have t1 := St.same_iff.1 (St.eqv_same s1)
  have l0 := Ex.same_iff.1 (Ex.eqv_same d0.2.1)
  exact ⟨p', rfl, hI, ⟨e1.trans k1, e2.trans k2, e6.trans k3, t0.1.2.2.2.2.2.trans k4, d0.1.2.2.2.2.2.trans k5, l0.2.2.2.1.trans k6, d1.1.2.2.2.2.1.trans k7, t1.1.2.2.1.trans k8⟩, hb⟩
set_option maxHeartbeats 6400000 in
theorem works11_any (w : World) (hE : Env9 w) (hS : SgOk w) : Calls Tryz.prog 7 #[] w fun r w' => r = .returned (.bool true) ∧ Below w.heap.size w w' := by
 have HE := Hj hE
 have HS := Hj hS
 have PA := Hj wkA_any
 have PB := Hj wkB_any
 have PC := Hj wkC_any
 clear hE hS
 go_enter Tryz.func7, Tryz.ntmps7
 go_wp2_with fail
 refine (PA.out w HE.out).mono ?_
 rintro r w1 ⟨a', rfl, xa, fa, b1⟩
 have BLb := bx_bel (Below.refl w1.heap.size w1) (Nat.le_refl _) (xO a'.h)
 have HXA := Hj ((xa.bel BLb).out)
 have HG1 : Hid ((bx w1 (xO a'.h)).heap[w1.heap.size]? = some (xO a'.h)) := bx_new w1 _
 have B1 := Hj (bel_trans b1 BLb)
 have FA := Hj fa
 have HE1 := Hj (HE.out.below B1.out)
 clear xa fa b1 BLb
 unfold EH.v
 go_upto_region 2 with fail
 rw [bx_x]
 change (Code.region 2 _ _).wp _ _ _ (bx w1 (xO a'.h))
 generalize w1.heap.size = ga at *
 generalize bx w1 (xO a'.h) = w2 at *
 go_wp2_with fail
 refine (PB.out w2 HE1.out).mono ?_
 rintro r w3 ⟨b', rfl, b3⟩
 have B3 := Hj (bel_trans b3 (bx_bel (Below.refl w3.heap.size w3) (Nat.le_refl _) (xO b'.h)))
 have HE3 := Hj (HE1.out.below B3.out)
 clear b3
 unfold EH.v
 go_upto_region 3 with fail
 rw [bx_x]
 change (Code.region 3 _ _).wp _ _ _ (bx w3 (xO b'.h))
 generalize w3.heap.size = gb at *
 generalize bx w3 (xO b'.h) = w4 at *
 go_wp2_with fail
 refine (PC.out w4 HE3.out).mono ?_
 rintro r w5 ⟨p', rfl, hI, fp, b5⟩
 have BLp := bx_bel (Below.refl w5.heap.size w5) (Nat.le_refl _) (pO p')
 have B5 := Hj (bel_trans B3.out (bel_trans b5 BLp))
 have HP := Hj (hI.below BLp (Nat.le_refl _))
 have HGp : Hid ((bx w5 (pO p')).heap[w5.heap.size]? = some (pO p')) := bx_new w5 _
 have GA := Hj (kept_obj B5.out HG1.out)
 have HXA5 := Hj (HXA.out.below B5.out (Nat.le_refl _))
 have HS5 := Hj ((HS.out.below B1.out).below B5.out)
 have HE5 := Hj (HE1.out.below B5.out)
 have BB := Hj (bel_trans B1.out B5.out)
 have HSZ := Hj B5.out.size
 clear hI b5 BLp HG1 HXA B1 B3 HE1 HE3 HE HS PA PB PC
 unfold Pr.v
 go_upto_region 4 with fail
 rw [bx_p]
 change (Code.region 4 _ _).wp _ _ _ (bx w5 (pO p'))
 generalize w5.heap.size = gp_ at *
 generalize bx w5 (pO p') = W at *
 obtain ⟨p1, p2, p3, p4⟩ := p_cells HGp.out
 obtain ⟨x0, x1, x2, x3, x4, x5, x6⟩ := x_cells GA.out
 obtain ⟨bd, od, hbd, hdB, DD⟩ := ds_row HP.out.2.1 (by rw [fp.dn]; decide)
 obtain ⟨bs, os, hbs, hsB, SS⟩ := ss_row HP.out.2.2.2 (by rw [fp.sn]; decide)
 have D0 := DD 0 (by rw [fp.dn]; decide)
 have D1 := DD 1 (by rw [fp.dn]; decide)
 have S0 := SS 0 (by rw [fp.sn]; decide)
 have S1 := SS 1 (by rw [fp.sn]; decide)
 rw [FA.out.1] at x0
 rw [FA.out.2.1] at x1
 rw [FA.out.2.2.1] at x6
 rw [hbd, fp.dn] at p2
 rw [hbs, fp.sn] at p4
 rw [fp.tk] at p1
 have d5 := D0.c5
 rw [fp.rg] at d5
 have d10 := D0.c10
 rw [fp.fl] at d10
 have d4 := D1.c4
 rw [fp.ln] at d4
 have s14 := S0.c14
 rw [fp.es] at s14
 have s11 := S1.c11
 rw [fp.lo] at s11
 simp only [Nat.zero_mul, Nat.add_zero, Nat.one_mul] at d5 d10 d4 s14 s11
 have T := tText_any a' w2.heap.size W HXA5.out HSZ.out HE5.out.env HS5.out (by rw [FA.out.2.2.2]; decide)
 unfold EH.v at T
 rw [FA.out.1, FA.out.2.1, FA.out.2.2.1, FA.out.2.2.2] at T
 have TT := Hj T
 have HF := Hj fp
 have QQ := Hj (And.intro p1 (And.intro p2 (And.intro p4 (And.intro d5 (And.intro d10 (And.intro d4 s11))))))
 clear T
 clear D0 D1 S0 S1 DD SS hbd hbs fp
 go_wp2_with fail
 refine TT.out.mono ?_
 rintro r w6 ⟨rfl, b6⟩
 clear p1 p2 p3 p4 x0 x1 x2 x3 x4 x5 x6 d5 d10 d4 s14 s11 TT
 have cc : ∀ (p : Addr) (v : Value), W.cell? p = some v → w6.cell? p = some v := fun p v h => (b6.cell (World.block_lt_of_cell? _ _ h)).trans h
 have p1 := cc _ _ QQ.out.1
 have p2 := cc _ _ QQ.out.2.1
 have p4 := cc _ _ QQ.out.2.2.1
 have d5 := cc _ _ QQ.out.2.2.2.1
 have d10 := cc _ _ QQ.out.2.2.2.2.1
 have d4 := cc _ _ QQ.out.2.2.2.2.2.1
 have s11 := cc _ _ QQ.out.2.2.2.2.2.2
 have BB6 := Hj (bel_trans BB.out b6)
 clear cc b6 QQ BB
 unfold wkT
 go_wp2_with fail
 go_ret
 exact ⟨rfl, BB6.out⟩
def Sat (t m x : Nat) : Prop := x ≤ 2 * m + 2 ∧ (t ≤ m → x = t) ∧ (m < t → m < x)
theorem Sat.more {t u m x : Nat} (h : Sat t m x) (hx : m < x) (hu : t ≤ u) : Sat u m x := by
 obtain ⟨h1, h2, h3⟩ := h
 refine ⟨h1, fun h => ?_, fun _ => hx⟩
 have := h2 (by omega)
 omega
theorem Sat.add {t u m x y : Nat} (h : Sat t m x) (hx : x ≤ m) (k : Sat u (m - x) y) : Sat (t + u) m (x + y) := by
 obtain ⟨h1, h2, h3⟩ := h
 obtain ⟨k1, k2, k3⟩ := k
 have e : t ≤ m := by
  rcases Nat.lt_or_ge m t with g | g
  ·have := h3 g; omega
  ·exact g
 have e1 := h2 e
 refine ⟨by omega, fun g => ?_, fun g => ?_⟩
 ·have := k2 (by omega); omega
 ·have := k3 (by omega); omega
theorem str_size' (l : List UInt8) : (⟨l.toArray⟩ : ByteArray).size = l.length := by rw [Lib.size_eq]
def WgX (B : Nat) (e : Ex) : Prop := ∀ (m : Nat) (w : World), e.In B w → B ≤ w.heap.size → m ≤ 100000 → Calls Tryz.prog 19 #[e.h.v, .int .i64 (m : Int)] w fun r w' => (∃ x : Nat, r = .returned (.int .i64 (x : Int)) ∧ Sat e.wt m x) ∧ Below w.heap.size w w'
set_option maxHeartbeats 3200000 in
theorem gWgX_of (B : Nat) (h : EH) (k : Nat → Ex) (ih : ∀ i, i < h.s.n → WgX B (k i)) (m : Nat) (w : World) (hok : h.ok) (hX0 : XsIn B w h.s k) (hB : B ≤ w.heap.size) (hm : m ≤ 100000) :
  Calls Tryz.prog 19 #[h.v, .int .i64 (m : Int)] w fun r w' => (∃ x : Nat, r = .returned (.int .i64 (x : Int)) ∧ Sat (1 + h.nm.length + sm (fun i => (k i).wt) h.s.n) m x) ∧ Below w.heap.size w w' := by
 obtain ⟨op, ps, bo, it, fl, nm, ⟨ao, n, c⟩⟩ := h
 dsimp only at ih hX0 ⊢
 have hX : XsIn B w ⟨ao, n, c⟩ k := hX0
 have HI := Hj hX
 have IH := Hj ih
 have HB := Hj hB
 have hc := hok.s
 have hnm := hok.nm
 have hmx : n ≤ maxLen := Nat.le_trans hc.1 hc.2.1
 dsimp only at hnm
 unfold maxLen at hmx hnm
 have HM := Hj hmx
 have HMM := Hj hm
 have hsz := str_size' nm
 obtain ⟨q, hq⟩ : ∃ q, min nm.length (m + 1) = q := ⟨_, rfl⟩
 have hq' : min ((nm.length : Nat) : Int) ((m : Int) + 1) = (q : Int) := by omega
 have S0 : Sat (1 + nm.length) m (1 + q) := ⟨by omega, fun _ => by omega, fun _ => by omega⟩
 have ov1 : IntKind.i64.wrap ((m : Int) + 1) = (m : Int) + 1 := by rw [IntKind.wrap_i64]; omega
 have ov2 : IntKind.i64.wrap (1 + (q : Int)) = ((1 + q : Nat) : Int) := by rw [IntKind.wrap_i64]; omega
 have c5 : (bx w (xO ⟨op, ps, bo, it, fl, nm, ⟨ao, n, c⟩⟩)).cell? ⟨w.heap.size, 5, none⟩ = some (.string ⟨nm.toArray⟩) := cell_obj (bx_new w (xO ⟨op, ps, bo, it, fl, nm, ⟨ao, n, c⟩⟩)) 5
 have S0 := Hj S0
 clear ih hok hX0 hX hB hc hnm hmx hm hq
 show Calls Tryz.prog 19 #[.agg #[.int .u8 op, .int .i64 ps, .bool bo, .int .i32 it, .int .u64 fl, .string ⟨nm.toArray⟩, .slice ao n c], .int .i64 (m : Int)] w _
 go_enter Tryz.func19, Tryz.ntmps19
 go_upto_region 1 with fail
 rw [bx_x w ⟨op, ps, bo, it, fl, nm, ⟨ao, n, c⟩⟩]
 go_wp2_with fail
 go_loopg [5, 6] n (fun gk t i wr => ∃ j x : Nat, i = .int .i64 (j : Int) ∧ t = .int .i64 (x : Int) ∧ Hid (gk = n - j ∧ j ≤ n) ∧ Hid (Sat (1 + nm.length + sm (fun i => (k i).wt) j) m x) ∧ Hid (Below (bx w (xO ⟨op, ps, bo, it, fl, nm, ⟨ao, n, c⟩⟩)).heap.size (bx w (xO ⟨op, ps, bo, it, fl, nm, ⟨ao, n, c⟩⟩)) wr))
 case atStart => exact ⟨0, 1 + q, rfl, by simp, ⟨rfl, Nat.zero_le _⟩, S0.out, Below.refl _ _⟩
 case round =>
  obtain ⟨j, x, rfl, rfl, HJ, HS, HBw⟩ := hrel
  have hz : (bx w (xO ⟨op, ps, bo, it, fl, nm, ⟨ao, n, c⟩⟩)).heap.size = w.heap.size + 1 := bx_size _ _
  have hBx : wr.heap[w.heap.size]? = some (xO ⟨op, ps, bo, it, fl, nm, ⟨ao, n, c⟩⟩) := (HBw.out.block _ (by omega)).trans (bx_new _ _)
  have c6 : wr.cell? ⟨w.heap.size, 6, none⟩ = some (.slice ao n c) := (x_cells hBx).2.2.2.2.2.2
  have BEL : Hid (Below w.heap.size w wr) := (bx_bel (Below.refl _ _) (Nat.le_refl _) _).trans (HBw.out.mono (by omega))
  have HZ := Hj hz
  clear hBx hz c5 hsz hq' ov1 ov2
  have hxb : x ≤ 200002 := by have := HS.out.1; have := HMM.out; omega
  by_cases hlt : j < n
  ·have z0 : (j : Int) < (n : Int) := by omega
   by_cases hle : x ≤ m
   ·have z1 : (x : Int) ≤ (m : Int) := by omega
    have ovi : IntKind.i64.wrap ((j : Int) + 1) = ((j + 1 : Nat) : Int) := by have := HM.out; rw [IntKind.wrap_i64]; omega
    obtain ⟨a, b, o, rfl, hA, hb, X, I⟩ := XsIn.at (HI.out.below BEL.out HB.out) (i := j) hlt
    have d0 := X.c0; have d1 := X.c1; have d2 := X.c2; have d3 := X.c3; have d4 := X.c4; have d5 := X.c5; have d6 := X.c6
    have C := Hj (IH.out j hlt (m - x) wr I (Nat.le_trans HB.out BEL.out.size) (by have := HMM.out; omega))
    have ovs : IntKind.i64.wrap ((m : Int) - (x : Int)) = ((m - x : Nat) : Int) := by rw [IntKind.wrap_i64]; have := HMM.out; omega
    have HLE := Hj hle
    have HLT := Hj hlt
    have hHM := HMM.out
    clear X I hb hle hlt
    go_wp2_with fail
    refine C.out.mono ?_
    rintro e w' ⟨⟨y, rfl, hy⟩, hb⟩
    have ov : IntKind.i64.wrap ((x : Int) + (y : Int)) = ((x + y : Nat) : Int) := by rw [IntKind.wrap_i64]; have := hy.1; omega
    have HY := Hj hy
    have HB2 := Hj (HBw.out.trans (hb.mono HBw.out.size))
    clear hy hb
    go_wp2_with fail
    go_roundg (n - (j + 1))
    case measure => have := HJ.out; have := HLT.out; omega
    case rel => exact ⟨j + 1, x + y, by go_num, rfl, ⟨rfl, HLT.out⟩, by have := HS.out.add HLE.out HY.out; rwa [Nat.add_assoc] at this, HB2.out⟩
   ·have z1 : ¬ (x : Int) ≤ (m : Int) := by omega
    have R := Hj (HS.out.more (u := 1 + nm.length + sm (fun i => (k i).wt) n) (by omega) (by have := sm_one (f := fun i => (k i).wt) hlt; omega))
    clear hlt hle
    go_wp2_with fail
    go_ret
    exact ⟨⟨x, rfl, R.out⟩, BEL.out⟩
  ·obtain rfl : j = n := by have := HJ.out; omega
   have z0 : ¬ (j : Int) < (j : Int) := by omega
   clear hlt
   go_wp2_with fail
   go_ret
   exact ⟨⟨x, rfl, HS.out⟩, BEL.out⟩
theorem gWgX_any (B : Nat) (e : Ex) : WgX B e := by
 induction e using Ex.ind with
 | H e ih =>
  intro m w hI hB hm
  rw [Ex.wt_eq]
  exact gWgX_of B e.h e.k ih m w hI.ok hI.xs hB hm
end Go.Proofs.YthmlhkllbichgaaGreatDoor
