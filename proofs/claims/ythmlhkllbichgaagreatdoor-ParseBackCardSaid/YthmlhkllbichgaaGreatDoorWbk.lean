/-
  ParseBack holds, tied to the program's text. (part 37 of 41) Conditions: none beside what the card ties.
-/
import Derived.Test.YthmlhkllbichgaaGreatDoorWbj
namespace Go.Proofs.YthmlhkllbichgaaGreatDoor
set_option maxHeartbeats 16000000
open Go.RowKit
set_option maxRecDepth 100000
def binT (e:Ex):List UInt8:=if opBin e.h.op then brk (argX e 0).bin ((argX e 0).txt prT)++[32]++signB e.h.op++[32]++brk (argX e 1).bin ((argX e 1).txt prT) else[]
theorem wBin_of (B b:Nat)(e:Ex)(i0:opBin e.h.op=true→OkX B (argX e 0))(i1:opBin e.h.op=true→OkX B (argX e 1))(w:World)(hI:e.In B w)(hE:En B w)(hB:B≤w.heap.size):Wrt B b 88 #[e.h.v] (binT e) w:=by
 intro bs d hW hl
 have FX:=Hj ((Fr.refl b hB).bx (xO e.h))
 have HW:=Hj (hW.bx (xO e.h))
 have HI:=Hj hI
 have HE:=Hj hE
 have C0:=Hj fun w=>isBin_any e.h.op w
 have HNE:Hid (w.heap.size≠b):=by have:=hW.lt;show _≠_;omega
 have HX:=Hj (bx_new w (xO e.h))
 unfold binT at *
 obtain⟨c0,c1,c2,c3,c4,c5,c6⟩:=x_cells (bx_new w (xO e.h))
 cases hb:opBin e.h.op with
 | false=>
  rw[hb]at C0
  clear hl hI hE hB hW i0 i1 hb
  show Calls Tryz.prog 88 #[.pointer (some ⟨b,0,none⟩),.agg #[.int .u8 e.h.op,.int .i64 e.h.ps,.bool e.h.bo,.int .i32 e.h.it,.int .u64 e.h.fl,.string ⟨e.h.nm.toArray⟩,.slice e.h.s.ao e.h.s.n e.h.s.c]] w _
  go_enter Tryz.func88,Tryz.ntmps88
  go_upto_region 1 with fail
  rw[bx_x]
  go_wp2_with fail
  refine(C0.out _).mono ?_
  rintro r w1 ⟨rfl,rfl⟩
  go_wp2_with fail
  first|go_end0|refine bodyPost_ret (results_none rfl _ _ _) rfl ?_
  exact⟨rfl,by simpa using HW.out,FX.out⟩
 | true=>
  rw[hb]at hl C0
  simp only[if_true]at hl ⊢
  obtain⟨s0,hs0⟩:∃s,brk (argX e 0).bin ((argX e 0).txt prT)=s:=⟨_,rfl⟩
  obtain⟨s1,hs1⟩:∃s,brk (argX e 1).bin ((argX e 1).txt prT)=s:=⟨_,rfl⟩
  obtain⟨i,hi,hop⟩:∃i:Nat,i<12∧e.h.op=(i:Int)+5:=by
   unfold opBin at hb
   have:=of_decide_eq_true hb
   exact⟨(e.h.op-5).toNat,by omega,by omega⟩
  have hsg:signB e.h.op=signB ((i:Int)+5):=by rw[hop]
  rw[hs0,hs1,hsg]at hl
  rw[hs0,hs1,hsg]
  obtain⟨sg,hsg2⟩:∃s,signB ((i:Int)+5)=s:=⟨_,rfl⟩
  rw[hsg2]at hl ⊢
  simp only[List.length_append,List.length_cons,List.length_nil]at hl
  have A0:=Hj fun w hI hB=>tArg_any B e 0 w hI hB
  have A1:=Hj fun w hI hB=>tArg_any B e 1 w hI hB
  have O0:=Hj fun w hI hE hB h=>wOpnd_of B b (argX e 0) (i0 hb) w (argX_in hI 0) hE hB bs d h (by rw[hs0];omega)
  have O1:=Hj fun w hI hE hB h=>wOpnd_of B b (argX e 1) (i1 hb) w (argX_in hI 1) hE hB (bs++s0++[32]++sg++[32]) d h (by rw[hs1];simp only[List.length_append,List.length_cons,List.length_nil];omega)
  rw[hs0]at O0
  rw[hs1]at O1
  have S0:=Hj fun w h hB=>wString_any B b (bs++s0) [32] d w h (by simp only[List.length_append,List.length_cons,List.length_nil];omega) hB
  have S1:=Hj fun w h hB=>wString_any B b (bs++s0++[32]) sg d w h (by simp only[List.length_append,List.length_cons,List.length_nil];omega) hB
  have S2:=Hj fun w h hB=>wString_any B b (bs++s0++[32]++sg) [32] d w h (by simp only[List.length_append,List.length_cons,List.length_nil];omega) hB
  have SGI:=Hj fun(w:World) (hE:En B w)=>by have:=hE.sg i hi;rw[hsg2]at this;exact this
  have ov:IntKind.u8.wrap (i:Int)=(i:Int):=by rw[IntKind.wrap_u8];omega
  have hal:Tryz.prog.arrayLen 166=12:=by kernel_rfl
  have zi:(i:Int)<12:=by omega
  have HOP:=Hj hop
  clear hl hI hE hB hW i0 i1 hb hs0 hs1 hsg hsg2 hop hi
  show Calls Tryz.prog 88 #[.pointer (some ⟨b,0,none⟩),.agg #[.int .u8 e.h.op,.int .i64 e.h.ps,.bool e.h.bo,.int .i32 e.h.it,.int .u64 e.h.fl,.string ⟨e.h.nm.toArray⟩,.slice e.h.s.ao e.h.s.n e.h.s.c]] w _
  go_enter Tryz.func88,Tryz.ntmps88
  go_upto_region 1 with fail
  rw[bx_x]
  go_wp2_with fail
  refine(C0.out _).mono ?_
  rintro r w1 ⟨rfl,rfl⟩
  go_wp2_with fail
  refine(A0.out _ (HI.out.below FX.out.1 (Nat.le_refl _)) FX.out.size).mono ?_
  rintro r w1 ⟨rfl,hb1⟩
  have G1:=Hj (FX.out.trans (Fr.of (b:=b) hb1 FX.out.size))
  have W1:=Hj (HW.out.kept hb1)
  have X1:=Hj ((hb1.block _ (Array.getElem?_eq_some_iff.1 HX.out).1).trans HX.out)
  clear hb1 c0 c1 c2 c3 c4 c5 c6
  go_wp2_with fail
  refine(O0.out _ (HI.out.below G1.out.1 (Nat.le_refl _)) (HE.out.below G1.out.1 (Nat.le_refl _)) G1.out.size W1.out).mono ?_
  rintro r w2 ⟨rfl,hw2,hf2⟩
  have G2:=Hj (G1.out.trans hf2)
  have W2:=Hj hw2
  have X2:=Hj (hf2.x X1.out HNE.out)
  clear hw2 hf2
  go_wp2_with fail
  refine(S0.out _ W2.out G2.out.size).mono ?_
  rintro r w3 ⟨rfl,hw3,hf3⟩
  have G3:=Hj (G2.out.trans hf3)
  have W3:=Hj hw3
  have X3:=Hj (hf3.x X2.out HNE.out)
  clear hw3 hf3
  go_upto_region 4 with fail
  obtain⟨c0, -⟩:=x_cells X3.out
  rw[HOP.out]at c0
  have sgc:=SGI.out w3 (HE.out.below G3.out.1 (Nat.le_refl _))
  go_still_tail 8,(by kernel_rfl)
  change wpList _ _ _ _ _ w3.drew
  generalize hw4:w3.drew=w4 at *
  have C4:=Hj (S1.out w4 (by rw[←hw4];exact W3.out.drew) (by rw[←hw4];exact G3.out.size))
  have G4:Hid (Fr B b w w4):=by rw[←hw4];exact G3.out.drew
  have X4:Hid (w4.heap[w.heap.size]? = some (xO e.h)):=by rw[←hw4];exact X3.out
  clear hw4 c0 sgc
  go_wp2_with fail
  refine C4.out.mono ?_
  rintro r w5 ⟨rfl,hw5,hf5⟩
  have G5:=Hj (G4.out.trans hf5)
  have W5:=Hj hw5
  have X5:=Hj (hf5.x X4.out HNE.out)
  clear hw5 hf5
  go_wp2_with fail
  refine(S2.out _ W5.out G5.out.size).mono ?_
  rintro r w6 ⟨rfl,hw6,hf6⟩
  have G6:=Hj (G5.out.trans hf6)
  have W6:=Hj hw6
  have X6:=hf6.x X5.out HNE.out
  obtain⟨c0,c1,c2,c3,c4,c5,c6⟩:=x_cells X6
  clear hw6 hf6 X6
  go_wp2_with fail
  refine(A1.out _ (HI.out.below G6.out.1 (Nat.le_refl _)) G6.out.size).mono ?_
  rintro r w7 ⟨rfl,hb7⟩
  have G7:=Hj (G6.out.trans (Fr.of (b:=b) hb7 G6.out.size))
  have W7:=Hj (W6.out.kept hb7)
  clear hb7 c0 c1 c2 c3 c4 c5 c6
  go_wp2_with fail
  refine(O1.out _ (HI.out.below G7.out.1 (Nat.le_refl _)) (HE.out.below G7.out.1 (Nat.le_refl _)) G7.out.size W7.out).mono ?_
  rintro r w8 ⟨rfl,hw8,hf8⟩
  have G8:=Hj (G7.out.trans hf8)
  clear hf8
  go_wp2_with fail
  go_end0
  exact⟨rfl,by simpa using hw8,G8.out⟩
theorem arg_txt (F:Int→List UInt8)(e:Ex):(if 0<e.h.s.n then(e.k 0).txt F else[])=(argX e 0).txt F:=by unfold argX;split<;>rfl
theorem arg_brk (F:Int→List UInt8)(e:Ex)(i:Nat):(if i<e.h.s.n then brk (e.k i).bin ((e.k i).txt F) else[])=brk (argX e i).bin ((argX e i).txt F):=by unfold argX;split<;>rfl
theorem Ex.txt_arg (F:Int→List UInt8)(e:Ex):e.txt F=headT F e.h ((argX e 0).txt F) (brk (argX e 0).bin ((argX e 0).txt F)) (brk (argX e 1).bin ((argX e 1).txt F)):=by
 rw[Ex.txt_eq,arg_txt,arg_brk,arg_brk]
theorem wX1 (B b:Nat)(e:Ex)(hop:e.h.op=1)(w:World)(hI:e.In B w)(hE:En B w)(hB:B≤w.heap.size):Wrt B b 50 #[e.h.v] (e.txt prT) w:=by
 intro bs d hW hl
 have FX:=Hj ((Fr.refl b hB).bx (xO e.h))
 have HW:=Hj (hW.bx (xO e.h))
 have HI:=Hj (hI.below FX.out.1 (Nat.le_refl _))
 have HE:=Hj (hE.below FX.out.1 (Nat.le_refl _))
 have HNE:Hid (w.heap.size≠b):=by have:=hW.lt;show _≠_;omega
 have HX:=Hj (bx_new w (xO e.h))
 have hok:=hI.ok
 rw[Ex.txt_arg]at hl ⊢
 simp[headT,hop]at hl ⊢
 have C0:=Hj fun w=>fbool_any e.h.bo w
 obtain⟨q,hq⟩:∃q:List UInt8,(if e.h.bo=true then[116,114,117,101] else[102,97,108,115,101])=q:=⟨_,rfl⟩
 rw[hq]at hl C0
 rw[hq]
 have C1:=Hj fun w h hB=>wString_any B b bs q d w h hl hB
 obtain⟨c0,c1,c2,c3,c4,c5,c6⟩:=x_cells (bx_new w (xO e.h))
 rw[hop]at c0
 clear hl hI hE hB hW hop hok
 show Calls Tryz.prog 50 #[.pointer (some ⟨b,0,none⟩),.agg #[.int .u8 e.h.op,.int .i64 e.h.ps,.bool e.h.bo,.int .i32 e.h.it,.int .u64 e.h.fl,.string ⟨e.h.nm.toArray⟩,.slice e.h.s.ao e.h.s.n e.h.s.c]] w _
 go_enter Tryz.func50,Tryz.ntmps50
 go_upto_region 1 with fail
 rw[bx_x]
 go_upto_region 4 with fail
 refine wp_region_still_tail 6 (by kernel_rfl) (by kernel_rfl) ?_
 simp only[List.take_succ_cons,List.take_zero,List.drop_succ_cons,List.drop_zero]
 repeat still_step
 still_call (C0.out _)
 repeat still_step
 refine wpStill_nil ?_
 change wpList _ _ _ _ _ (bx w (xO e.h)).drew
 have C2:=Hj (C1.out _ HW.out.drew FX.out.size)
 have F2:=Hj FX.out.drew
 generalize (bx w (xO e.h)).drew=w2 at *
 clear c0 c1 c2 c3 c4 c5 c6 C1 C0 hq
 go_wp2_with fail
 refine C2.out.mono ?_
 rintro r w3 ⟨rfl,hw3,hf3⟩
 have F3:=Hj (F2.out.trans hf3)
 clear hf3
 go_wp2_with fail
 go_end0
 exact⟨rfl,hw3,F3.out⟩
theorem wX2 (B b:Nat)(e:Ex)(hop:e.h.op=2)(w:World)(hI:e.In B w)(hE:En B w)(hB:B≤w.heap.size):Wrt B b 50 #[e.h.v] (e.txt prT) w:=by
 intro bs d hW hl
 have FX:=Hj ((Fr.refl b hB).bx (xO e.h))
 have HW:=Hj (hW.bx (xO e.h))
 have HI:=Hj (hI.below FX.out.1 (Nat.le_refl _))
 have HE:=Hj (hE.below FX.out.1 (Nat.le_refl _))
 have HNE:Hid (w.heap.size≠b):=by have:=hW.lt;show _≠_;omega
 have HX:=Hj (bx_new w (xO e.h))
 have hok:=hI.ok
 rw[Ex.txt_arg]at hl ⊢
 simp[headT,hop]at hl ⊢
 have C1:=Hj (wInt_any B b bs d e.h.it _ HW.out HE.out (by have:=hok.it0;omega) (by have:=hok.it1;omega) hl FX.out.size)
 have i1:=hok.it0
 have i2:=hok.it1
 have ovi:IntKind.i64.wrap e.h.it=e.h.it:=by rw[IntKind.wrap_i64];omega
 obtain⟨c0,c1,c2,c3,c4,c5,c6⟩:=x_cells (bx_new w (xO e.h))
 rw[hop]at c0
 clear hl hI hE hB hW hop hok
 show Calls Tryz.prog 50 #[.pointer (some ⟨b,0,none⟩),.agg #[.int .u8 e.h.op,.int .i64 e.h.ps,.bool e.h.bo,.int .i32 e.h.it,.int .u64 e.h.fl,.string ⟨e.h.nm.toArray⟩,.slice e.h.s.ao e.h.s.n e.h.s.c]] w _
 go_enter Tryz.func50,Tryz.ntmps50
 go_upto_region 1 with fail
 rw[bx_x]
 go_wp2_with fail
 refine C1.out.mono ?_
 rintro r w1 ⟨rfl,hw1,hf1⟩
 have F1:=Hj (FX.out.trans hf1)
 clear hf1
 go_wp2_with fail
 go_end0
 exact⟨rfl,by simpa using hw1,F1.out⟩
theorem wX3 (B b:Nat)(e:Ex)(hop:e.h.op=3)(w:World)(hI:e.In B w)(hE:En B w)(hB:B≤w.heap.size):Wrt B b 50 #[e.h.v] (e.txt prT) w:=by
 intro bs d hW hl
 have FX:=Hj ((Fr.refl b hB).bx (xO e.h))
 have HW:=Hj (hW.bx (xO e.h))
 have HI:=Hj (hI.below FX.out.1 (Nat.le_refl _))
 have HE:=Hj (hE.below FX.out.1 (Nat.le_refl _))
 have HNE:Hid (w.heap.size≠b):=by have:=hW.lt;show _≠_;omega
 have HX:=Hj (bx_new w (xO e.h))
 have hok:=hI.ok
 rw[Ex.txt_arg]at hl ⊢
 simp[headT,hop]at hl ⊢
 have C1:=Hj fun w hE=>print_any e.h.fl hok.fl w hE
 have C2:=Hj fun w h hB=>wString_any B b bs (prT e.h.fl) d w h hl hB
 obtain⟨c0,c1,c2,c3,c4,c5,c6⟩:=x_cells (bx_new w (xO e.h))
 rw[hop]at c0
 clear hl hI hE hB hW hop hok
 show Calls Tryz.prog 50 #[.pointer (some ⟨b,0,none⟩),.agg #[.int .u8 e.h.op,.int .i64 e.h.ps,.bool e.h.bo,.int .i32 e.h.it,.int .u64 e.h.fl,.string ⟨e.h.nm.toArray⟩,.slice e.h.s.ao e.h.s.n e.h.s.c]] w _
 go_enter Tryz.func50,Tryz.ntmps50
 go_upto_region 1 with fail
 rw[bx_x]
 go_upto_region 8 with fail
 have KG:=Hj fun w' (hb:Below (bx w (xO e.h)).heap.size (bx w (xO e.h)) w')=>(hb.cell (p:=⟨w.heap.size,4,none⟩) (by rw[bx_size];exact Nat.lt_succ_self _)).trans c4
 have KX:=Hj fun(w':World) (h:w'.heap[w.heap.size]? = some (xO e.h))=>(x_cells h).2.2.2.2.1
 generalize bx w (xO e.h)=wx at *
 go_region_held3 (fun w'=>w'.cell? ⟨w.heap.size,4,none⟩=some (.int .u64 e.h.fl)) (first|exact c4|exact KG.out _ ((Below.drew (Below.refl _ _)).trans hb1)|exact KX.out _ (hf2.x ((hb1.block _ (Array.getElem?_eq_some_iff.1 HX.out).1).trans HX.out) HNE.out))
  (first
   | (go_at_call 83;refine(C1.out _ HE.out.env.drew).mono ?_;rintro r w1 ⟨rfl,hb1⟩)
   | (go_at_call 77;refine(C2.out _ (HW.out.drew.kept hb1) (Nat.le_trans FX.out.size hb1.size)).mono ?_;rintro r w2 ⟨rfl,hw2,hf2⟩))
 all_goals
  go_wp2_with fail
  go_end0
  exact⟨rfl,by simpa using hw2,FX.out.trans ((Fr.of (Below.drew (Below.refl _ _)) FX.out.size).trans ((Fr.of hb1 FX.out.size).trans hf2))⟩
theorem wX4 (B b:Nat)(e:Ex)(i0:0<e.h.s.n→OkX B (e.k 0))(hop:e.h.op=4)(w:World)(hI:e.In B w)(hE:En B w)(hB:B≤w.heap.size):Wrt B b 50 #[e.h.v] (e.txt prT) w:=by
 intro bs d hW hl
 have FX:=Hj ((Fr.refl b hB).bx (xO e.h))
 have HW:=Hj (hW.bx (xO e.h))
 have HI:=Hj (hI.below FX.out.1 (Nat.le_refl _))
 have HE:=Hj (hE.below FX.out.1 (Nat.le_refl _))
 have HNE:Hid (w.heap.size≠b):=by have:=hW.lt;show _≠_;omega
 have HX:=Hj (bx_new w (xO e.h))
 have hok:=hI.ok
 rw[Ex.txt_arg]at hl ⊢
 simp[headT,hop]at hl ⊢
 have e0:(argX e 0).txt prT=(if 0<e.h.s.n then(e.k 0).txt prT else[]):=(arg_txt prT e).symm
 rw[e0]at hl ⊢
 have C1:=Hj (wPlc_of B b e.h.nm e.h.s e.k i0 _ HI.out.xs HE.out FX.out.size bs d HW.out hl)
 generalize nameT e.h.nm e.h.s.n (if 0<e.h.s.n then(e.k 0).txt prT else[])=T at *
 obtain⟨c0,c1,c2,c3,c4,c5,c6⟩:=x_cells (bx_new w (xO e.h))
 rw[hop]at c0
 clear hl hI hE hB hW hop hok
 show Calls Tryz.prog 50 #[.pointer (some ⟨b,0,none⟩),.agg #[.int .u8 e.h.op,.int .i64 e.h.ps,.bool e.h.bo,.int .i32 e.h.it,.int .u64 e.h.fl,.string ⟨e.h.nm.toArray⟩,.slice e.h.s.ao e.h.s.n e.h.s.c]] w _
 go_enter Tryz.func50,Tryz.ntmps50
 go_upto_region 1 with fail
 rw[bx_x]
 go_wp2_with fail
 refine C1.out.mono ?_
 rintro r w1 ⟨rfl,hw1,hf1⟩
 have F1:=Hj (FX.out.trans hf1)
 clear hf1
 go_wp2_with fail
 go_end0
 exact⟨rfl,hw1,F1.out⟩
theorem wX19 (B b:Nat)(e:Ex)(i0:OkX B (argX e 0))(hop:e.h.op=19)(w:World)(hI:e.In B w)(hE:En B w)(hB:B≤w.heap.size):Wrt B b 50 #[e.h.v] (e.txt prT) w:=by
 intro bs d hW hl
 have FX:=Hj ((Fr.refl b hB).bx (xO e.h))
 have HW:=Hj (hW.bx (xO e.h))
 have HI:=Hj (hI.below FX.out.1 (Nat.le_refl _))
 have HE:=Hj (hE.below FX.out.1 (Nat.le_refl _))
 have HNE:Hid (w.heap.size≠b):=by have:=hW.lt;show _≠_;omega
 have HX:=Hj (bx_new w (xO e.h))
 have hok:=hI.ok
 rw[Ex.txt_arg]at hl ⊢
 simp[headT,hop]at hl ⊢
 have A0:Hid (Calls Tryz.prog 86 #[.agg #[.int .u8 19,.int .i64 e.h.ps,.bool e.h.bo,.int .i32 e.h.it,.int .u64 e.h.fl,.string ⟨e.h.nm.toArray⟩,.slice e.h.s.ao e.h.s.n e.h.s.c],.int .i64 0] (bx w (xO e.h)) fun r w'=>r=.returned (argX e 0).h.v∧Below (bx w (xO e.h)).heap.size (bx w (xO e.h)) w'):=by
  show Calls _ _ _ _ _
  rw[←hop]
  exact tArg_any B e 0 _ HI.out FX.out.size
 have C1:=Hj fun w hI hE hB hW=>wEnc_of B b (argX e 0) i0 [105,110,116,40] [41] w hI hE hB bs d hW (by simp only[List.length_append,List.length_cons,List.length_nil]at hl ⊢;omega)
 have HA:=Hj (argX_in HI.out 0)
 generalize argX e 0=a at *
 generalize a.txt prT=T at *
 obtain⟨c0,c1,c2,c3,c4,c5,c6⟩:=x_cells (bx_new w (xO e.h))
 rw[hop]at c0
 clear hl hI hE hB hW hop hok
 show Calls Tryz.prog 50 #[.pointer (some ⟨b,0,none⟩),.agg #[.int .u8 e.h.op,.int .i64 e.h.ps,.bool e.h.bo,.int .i32 e.h.it,.int .u64 e.h.fl,.string ⟨e.h.nm.toArray⟩,.slice e.h.s.ao e.h.s.n e.h.s.c]] w _
 go_enter Tryz.func50,Tryz.ntmps50
 go_upto_region 1 with fail
 rw[bx_x]
 go_wp2_with fail
 refine A0.out.mono ?_
 rintro r w1 ⟨rfl,hb1⟩
 have HA1:=Hj (HA.out.below hb1 FX.out.size)
 have HE1:=Hj (HE.out.below hb1 FX.out.size)
 have W1:=Hj (HW.out.kept hb1)
 have F1:=Hj (FX.out.trans (Fr.of (b:=b) hb1 FX.out.size))
 clear hb1 c0 c1 c2 c3 c4 c5 c6
 go_wp2_with fail
 refine(C1.out _ HA1.out HE1.out F1.out.size W1.out).mono ?_
 rintro r w2 ⟨rfl,hw2,hf2⟩
 have F2:=Hj (F1.out.trans hf2)
 clear hf2
 go_wp2_with fail
 go_end0
 exact⟨rfl,by simpa using hw2,F2.out⟩
theorem wX20 (B b:Nat)(e:Ex)(i0:OkX B (argX e 0))(hop:e.h.op=20)(w:World)(hI:e.In B w)(hE:En B w)(hB:B≤w.heap.size):Wrt B b 50 #[e.h.v] (e.txt prT) w:=by
 intro bs d hW hl
 have FX:=Hj ((Fr.refl b hB).bx (xO e.h))
 have HW:=Hj (hW.bx (xO e.h))
 have HI:=Hj (hI.below FX.out.1 (Nat.le_refl _))
 have HE:=Hj (hE.below FX.out.1 (Nat.le_refl _))
 have HNE:Hid (w.heap.size≠b):=by have:=hW.lt;show _≠_;omega
 have HX:=Hj (bx_new w (xO e.h))
 have hok:=hI.ok
 rw[Ex.txt_arg]at hl ⊢
 simp[headT,hop]at hl ⊢
 have A0:Hid (Calls Tryz.prog 86 #[.agg #[.int .u8 20,.int .i64 e.h.ps,.bool e.h.bo,.int .i32 e.h.it,.int .u64 e.h.fl,.string ⟨e.h.nm.toArray⟩,.slice e.h.s.ao e.h.s.n e.h.s.c],.int .i64 0] (bx w (xO e.h)) fun r w'=>r=.returned (argX e 0).h.v∧Below (bx w (xO e.h)).heap.size (bx w (xO e.h)) w'):=by
  show Calls _ _ _ _ _
  rw[←hop]
  exact tArg_any B e 0 _ HI.out FX.out.size
 have C1:=Hj fun w hI hE hB hW=>wEnc_of B b (argX e 0) i0 [102,108,111,97,116,40] [41] w hI hE hB bs d hW (by simp only[List.length_append,List.length_cons,List.length_nil]at hl ⊢;omega)
 have HA:=Hj (argX_in HI.out 0)
 generalize argX e 0=a at *
 generalize a.txt prT=T at *
 obtain⟨c0,c1,c2,c3,c4,c5,c6⟩:=x_cells (bx_new w (xO e.h))
 rw[hop]at c0
 clear hl hI hE hB hW hop hok
 show Calls Tryz.prog 50 #[.pointer (some ⟨b,0,none⟩),.agg #[.int .u8 e.h.op,.int .i64 e.h.ps,.bool e.h.bo,.int .i32 e.h.it,.int .u64 e.h.fl,.string ⟨e.h.nm.toArray⟩,.slice e.h.s.ao e.h.s.n e.h.s.c]] w _
 go_enter Tryz.func50,Tryz.ntmps50
 go_upto_region 1 with fail
 rw[bx_x]
 go_wp2_with fail
 refine A0.out.mono ?_
 rintro r w1 ⟨rfl,hb1⟩
 have HA1:=Hj (HA.out.below hb1 FX.out.size)
 have HE1:=Hj (HE.out.below hb1 FX.out.size)
 have W1:=Hj (HW.out.kept hb1)
 have F1:=Hj (FX.out.trans (Fr.of (b:=b) hb1 FX.out.size))
 clear hb1 c0 c1 c2 c3 c4 c5 c6
 go_wp2_with fail
 refine(C1.out _ HA1.out HE1.out F1.out.size W1.out).mono ?_
 rintro r w2 ⟨rfl,hw2,hf2⟩
 have F2:=Hj (F1.out.trans hf2)
 clear hf2
 go_wp2_with fail
 go_end0
 exact⟨rfl,by simpa using hw2,F2.out⟩
theorem wX21 (B b:Nat)(e:Ex)(i0:OkX B (argX e 0))(hop:e.h.op=21)(w:World)(hI:e.In B w)(hE:En B w)(hB:B≤w.heap.size):Wrt B b 50 #[e.h.v] (e.txt prT) w:=by
 intro bs d hW hl
 have FX:=Hj ((Fr.refl b hB).bx (xO e.h))
 have HW:=Hj (hW.bx (xO e.h))
 have HI:=Hj (hI.below FX.out.1 (Nat.le_refl _))
 have HE:=Hj (hE.below FX.out.1 (Nat.le_refl _))
 have HNE:Hid (w.heap.size≠b):=by have:=hW.lt;show _≠_;omega
 have HX:=Hj (bx_new w (xO e.h))
 have hok:=hI.ok
 rw[Ex.txt_arg]at hl ⊢
 simp[headT,hop]at hl ⊢
 have A0:Hid (Calls Tryz.prog 86 #[.agg #[.int .u8 21,.int .i64 e.h.ps,.bool e.h.bo,.int .i32 e.h.it,.int .u64 e.h.fl,.string ⟨e.h.nm.toArray⟩,.slice e.h.s.ao e.h.s.n e.h.s.c],.int .i64 0] (bx w (xO e.h)) fun r w'=>r=.returned (argX e 0).h.v∧Below (bx w (xO e.h)).heap.size (bx w (xO e.h)) w'):=by
  show Calls _ _ _ _ _
  rw[←hop]
  exact tArg_any B e 0 _ HI.out FX.out.size
 have C1:=Hj fun w hI hE hB hW=>wEnc_of B b (argX e 0) i0 [97,98,115,40] [41] w hI hE hB bs d hW (by simp only[List.length_append,List.length_cons,List.length_nil]at hl ⊢;omega)
 have HA:=Hj (argX_in HI.out 0)
 generalize argX e 0=a at *
 generalize a.txt prT=T at *
 obtain⟨c0,c1,c2,c3,c4,c5,c6⟩:=x_cells (bx_new w (xO e.h))
 rw[hop]at c0
 clear hl hI hE hB hW hop hok
 show Calls Tryz.prog 50 #[.pointer (some ⟨b,0,none⟩),.agg #[.int .u8 e.h.op,.int .i64 e.h.ps,.bool e.h.bo,.int .i32 e.h.it,.int .u64 e.h.fl,.string ⟨e.h.nm.toArray⟩,.slice e.h.s.ao e.h.s.n e.h.s.c]] w _
 go_enter Tryz.func50,Tryz.ntmps50
 go_upto_region 1 with fail
 rw[bx_x]
 go_wp2_with fail
 refine A0.out.mono ?_
 rintro r w1 ⟨rfl,hb1⟩
 have HA1:=Hj (HA.out.below hb1 FX.out.size)
 have HE1:=Hj (HE.out.below hb1 FX.out.size)
 have W1:=Hj (HW.out.kept hb1)
 have F1:=Hj (FX.out.trans (Fr.of (b:=b) hb1 FX.out.size))
 clear hb1 c0 c1 c2 c3 c4 c5 c6
 go_wp2_with fail
 refine(C1.out _ HA1.out HE1.out F1.out.size W1.out).mono ?_
 rintro r w2 ⟨rfl,hw2,hf2⟩
 have F2:=Hj (F1.out.trans hf2)
 clear hf2
 go_wp2_with fail
 go_end0
 exact⟨rfl,by simpa using hw2,F2.out⟩
theorem wX17 (B b:Nat)(e:Ex)(i0:OkX B (argX e 0))(hop:e.h.op=17)(w:World)(hI:e.In B w)(hE:En B w)(hB:B≤w.heap.size):Wrt B b 50 #[e.h.v] (e.txt prT) w:=by
 intro bs d hW hl
 have FX:=Hj ((Fr.refl b hB).bx (xO e.h))
 have HW:=Hj (hW.bx (xO e.h))
 have HI:=Hj (hI.below FX.out.1 (Nat.le_refl _))
 have HE:=Hj (hE.below FX.out.1 (Nat.le_refl _))
 have HNE:Hid (w.heap.size≠b):=by have:=hW.lt;show _≠_;omega
 have HX:=Hj (bx_new w (xO e.h))
 have hok:=hI.ok
 rw[Ex.txt_arg]at hl ⊢
 simp[headT,hop]at hl ⊢
 have A0:=Hj fun w hI hB=>tArg_any B e 0 w hI hB
 have S0:=Hj (wString_any B b bs [45] d _ HW.out (by simp only[List.length_cons,List.length_nil];omega) FX.out.size)
 have C1:=Hj fun w hI hE hB hW=>wOpnd_of B b (argX e 0) i0 w hI hE hB (bs++[45]) d hW (by simp only[List.length_append,List.length_cons,List.length_nil];omega)
 have HA:=Hj (argX_in HI.out 0)
 generalize argX e 0=a at *
 generalize brk a.bin (a.txt prT)=T at *
 obtain⟨c0,c1,c2,c3,c4,c5,c6⟩:=x_cells (bx_new w (xO e.h))
 rw[hop]at c0
 clear hl hI hE hB hW hop hok
 show Calls Tryz.prog 50 #[.pointer (some ⟨b,0,none⟩),.agg #[.int .u8 e.h.op,.int .i64 e.h.ps,.bool e.h.bo,.int .i32 e.h.it,.int .u64 e.h.fl,.string ⟨e.h.nm.toArray⟩,.slice e.h.s.ao e.h.s.n e.h.s.c]] w _
 go_enter Tryz.func50,Tryz.ntmps50
 go_upto_region 1 with fail
 rw[bx_x]
 clear c1 c2 c3 c4 c5 c6
 go_wp2_with fail
 refine S0.out.mono ?_
 rintro r w1 ⟨rfl,hw1,hf1⟩
 have F1:=Hj (FX.out.trans hf1)
 obtain⟨c0,c1,c2,c3,c4,c5,c6⟩:=x_cells (hf1.x HX.out HNE.out)
 have A1:=Hj (A0.out w1 (HI.out.below hf1.1 (Nat.le_refl _)) F1.out.size)
 have HA1:=Hj (HA.out.below hf1.1 (Nat.le_refl _))
 have HE1:=Hj (HE.out.below hf1.1 (Nat.le_refl _))
 have W1:=Hj hw1
 clear hw1 hf1 A0 S0
 go_wp2_with fail
 refine A1.out.mono ?_
 rintro r w2 ⟨rfl,hb2⟩
 have HA2:=Hj (HA1.out.below hb2 F1.out.size)
 have HE2:=Hj (HE1.out.below hb2 F1.out.size)
 have W2:=Hj (W1.out.kept hb2)
 have F2:=Hj (F1.out.trans (Fr.of (b:=b) hb2 F1.out.size))
 clear hb2 c0 c1 c2 c3 c4 c5 c6
 go_wp2_with fail
 refine(C1.out _ HA2.out HE2.out F2.out.size W2.out).mono ?_
 rintro r w3 ⟨rfl,hw3,hf3⟩
 have F3:=Hj (F2.out.trans hf3)
 clear hf3
 go_wp2_with fail
 go_end0
 exact⟨rfl,by simpa using hw3,F3.out⟩
theorem wX18 (B b:Nat)(e:Ex)(i0:OkX B (argX e 0))(hop:e.h.op=18)(w:World)(hI:e.In B w)(hE:En B w)(hB:B≤w.heap.size):Wrt B b 50 #[e.h.v] (e.txt prT) w:=by
 intro bs d hW hl
 have FX:=Hj ((Fr.refl b hB).bx (xO e.h))
 have HW:=Hj (hW.bx (xO e.h))
 have HI:=Hj (hI.below FX.out.1 (Nat.le_refl _))
 have HE:=Hj (hE.below FX.out.1 (Nat.le_refl _))
 have HNE:Hid (w.heap.size≠b):=by have:=hW.lt;show _≠_;omega
 have HX:=Hj (bx_new w (xO e.h))
 have hok:=hI.ok
 rw[Ex.txt_arg]at hl ⊢
 simp[headT,hop]at hl ⊢
 have A0:=Hj fun w hI hB=>tArg_any B e 0 w hI hB
 have S0:=Hj (wString_any B b bs [33] d _ HW.out (by simp only[List.length_cons,List.length_nil];omega) FX.out.size)
 have C1:=Hj fun w hI hE hB hW=>wOpnd_of B b (argX e 0) i0 w hI hE hB (bs++[33]) d hW (by simp only[List.length_append,List.length_cons,List.length_nil];omega)
 have HA:=Hj (argX_in HI.out 0)
 generalize argX e 0=a at *
 generalize brk a.bin (a.txt prT)=T at *
 obtain⟨c0,c1,c2,c3,c4,c5,c6⟩:=x_cells (bx_new w (xO e.h))
 rw[hop]at c0
 clear hl hI hE hB hW hop hok
 show Calls Tryz.prog 50 #[.pointer (some ⟨b,0,none⟩),.agg #[.int .u8 e.h.op,.int .i64 e.h.ps,.bool e.h.bo,.int .i32 e.h.it,.int .u64 e.h.fl,.string ⟨e.h.nm.toArray⟩,.slice e.h.s.ao e.h.s.n e.h.s.c]] w _
 go_enter Tryz.func50,Tryz.ntmps50
 go_upto_region 1 with fail
 rw[bx_x]
 clear c1 c2 c3 c4 c5 c6
 go_wp2_with fail
 refine S0.out.mono ?_
 rintro r w1 ⟨rfl,hw1,hf1⟩
 have F1:=Hj (FX.out.trans hf1)
 obtain⟨c0,c1,c2,c3,c4,c5,c6⟩:=x_cells (hf1.x HX.out HNE.out)
 have A1:=Hj (A0.out w1 (HI.out.below hf1.1 (Nat.le_refl _)) F1.out.size)
 have HA1:=Hj (HA.out.below hf1.1 (Nat.le_refl _))
 have HE1:=Hj (HE.out.below hf1.1 (Nat.le_refl _))
 have W1:=Hj hw1
 clear hw1 hf1 A0 S0
 go_wp2_with fail
 refine A1.out.mono ?_
 rintro r w2 ⟨rfl,hb2⟩
 have HA2:=Hj (HA1.out.below hb2 F1.out.size)
 have HE2:=Hj (HE1.out.below hb2 F1.out.size)
 have W2:=Hj (W1.out.kept hb2)
 have F2:=Hj (F1.out.trans (Fr.of (b:=b) hb2 F1.out.size))
 clear hb2 c0 c1 c2 c3 c4 c5 c6
 go_wp2_with fail
 refine(C1.out _ HA2.out HE2.out F2.out.size W2.out).mono ?_
 rintro r w3 ⟨rfl,hw3,hf3⟩
 have F3:=Hj (F2.out.trans hf3)
 clear hf3
 go_wp2_with fail
 go_end0
 exact⟨rfl,by simpa using hw3,F3.out⟩
theorem wXd (B b:Nat)(e:Ex)(i0:opBin e.h.op=true→OkX B (argX e 0))(i1:opBin e.h.op=true→OkX B (argX e 1))(hop:¬e.h.op=1∧¬e.h.op=2∧¬e.h.op=3∧¬e.h.op=4∧¬e.h.op=19∧¬e.h.op=20∧¬e.h.op=21∧¬e.h.op=17∧¬e.h.op=18)(w:World)(hI:e.In B w)(hE:En B w)(hB:B≤w.heap.size):Wrt B b 50 #[e.h.v] (e.txt prT) w:=by
 intro bs d hW hl
 have FX:=Hj ((Fr.refl b hB).bx (xO e.h))
 have HW:=Hj (hW.bx (xO e.h))
 have HI:=Hj (hI.below FX.out.1 (Nat.le_refl _))
 have HE:=Hj (hE.below FX.out.1 (Nat.le_refl _))
 have HNE:Hid (w.heap.size≠b):=by have:=hW.lt;show _≠_;omega
 have HX:=Hj (bx_new w (xO e.h))
 have hok:=hI.ok
 obtain⟨k1,k2,k3,k4,k19,k20,k21,k17,k18⟩:=hop
 have eT:e.txt prT=binT e:=by
  rw[Ex.txt_arg]
  unfold headT binT
  rw[if_neg k1,if_neg k2,if_neg k3,if_neg k4,if_neg k19,if_neg k20,if_neg k21,if_neg k17,if_neg k18]
 rw[eT]at hl ⊢
 have C1:=Hj (wBin_of B b e i0 i1 _ HI.out HE.out FX.out.size bs d HW.out hl)
 have q1:(e.h.op == 1)=false:=by simpa using k1
 have q2:(e.h.op == 2)=false:=by simpa using k2
 have q3:(e.h.op == 3)=false:=by simpa using k3
 have q4:(e.h.op == 4)=false:=by simpa using k4
 have q19:(e.h.op == 19)=false:=by simpa using k19
 have q20:(e.h.op == 20)=false:=by simpa using k20
 have q21:(e.h.op == 21)=false:=by simpa using k21
 have q17:(e.h.op == 17)=false:=by simpa using k17
 have q18:(e.h.op == 18)=false:=by simpa using k18
 obtain⟨c0,c1,c2,c3,c4,c5,c6⟩:=x_cells (bx_new w (xO e.h))
 clear hl hI hE hB hW hok eT
 show Calls Tryz.prog 50 #[.pointer (some ⟨b,0,none⟩),.agg #[.int .u8 e.h.op,.int .i64 e.h.ps,.bool e.h.bo,.int .i32 e.h.it,.int .u64 e.h.fl,.string ⟨e.h.nm.toArray⟩,.slice e.h.s.ao e.h.s.n e.h.s.c]] w _
 go_enter Tryz.func50,Tryz.ntmps50
 go_upto_region 1 with fail
 rw[bx_x]
 go_wp2_with fail
 refine C1.out.mono ?_
 rintro r w1 ⟨rfl,hw1,hf1⟩
 have F1:=Hj (FX.out.trans hf1)
 clear hf1
 go_wp2_with fail
 go_end0
 exact⟨rfl,hw1,F1.out⟩
theorem okX_of (B:Nat)(e:Ex)(i0:e.h.op≠0→OkX B (argX e 0))(i1:e.h.op≠0→OkX B (argX e 1)):OkX B e:=by
 intro b w hI hE hB
 by_cases h1:e.h.op=1
 ·exact wX1 B b e h1 w hI hE hB
 by_cases h2:e.h.op=2
 ·exact wX2 B b e h2 w hI hE hB
 by_cases h3:e.h.op=3
 ·exact wX3 B b e h3 w hI hE hB
 by_cases h4:e.h.op=4
 ·exact wX4 B b e (fun h=>by have:=i0 (by omega);rwa [argX,if_pos h]at this) h4 w hI hE hB
 by_cases h19:e.h.op=19
 ·exact wX19 B b e (i0 (by omega)) h19 w hI hE hB
 by_cases h20:e.h.op=20
 ·exact wX20 B b e (i0 (by omega)) h20 w hI hE hB
 by_cases h21:e.h.op=21
 ·exact wX21 B b e (i0 (by omega)) h21 w hI hE hB
 by_cases h17:e.h.op=17
 ·exact wX17 B b e (i0 (by omega)) h17 w hI hE hB
 by_cases h18:e.h.op=18
 ·exact wX18 B b e (i0 (by omega)) h18 w hI hE hB
 have hz:opBin e.h.op=true→e.h.op≠0:=fun h h0=>by rw[h0]at h;cases h
 exact wXd B b e (fun h=>i0 (hz h)) (fun h=>i1 (hz h)) ⟨h1,h2,h3,h4,h19,h20,h21,h17,h18⟩ w hI hE hB
theorem okX_no (B:Nat):OkX B .no:=okX_of B .no (fun h=>absurd rfl h) (fun h=>absurd rfl h)
theorem okX_any (B:Nat)(e:Ex):OkX B e:=by
 induction e using Ex.ind with
 | H e ih=>
  have h:∀i,OkX B (argX e i):=fun i=>by
   unfold argX
   split
   ·rename_i hi;exact ih i hi
   ·exact okX_no B
  exact okX_of B e (fun _=>h 0) (fun _=>h 1)
end Go.Proofs.YthmlhkllbichgaaGreatDoor
