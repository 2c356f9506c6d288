/-
  ParseParses: a source's tree, or what is wrong with it, is the reference's. (part 30 of 38) Conditions: none beside what the card ties.
-/
import Derived.Test.YthmlhkllbichgaaGreatDoorVbc
import Derived.Test.YthmlhkllbichgaaGreatDoorVac
import Derived.Test.YthmlhkllbichgaaGreatDoorVba
namespace Go.Proofs.YthmlhkllbichgaaGreatDoor
set_option maxHeartbeats 16000000
open Go.RowKit
set_option maxRecDepth 100000
def binT (e:Ex):List UInt8:=if opBin e.h.op then brk (argX e 0).bin ((argX e 0).txt prT)++[32]++signB e.h.op++[32]++brk (argX e 1).bin ((argX e 1).txt prT) else[]
theorem wBin_of (B b:Nat)(e:Ex)(i0:opBin e.h.op=true→OkX B (argX e 0))(i1:opBin e.h.op=true→OkX B (argX e 1))(w:World)(hI:e.In B w)(hE:En B w)(hB:B≤w.heap.size):Wrt B b 88 #[e.h.v] (binT e) w:=by
 intro bs d hW hl;have FX:=Hj ((Fr.refl b hB).bx (xO e.h));have HW:=Hj (hW.bx (xO e.h));have HI:=Hj hI;have HE:=Hj hE;have C0:=Hj fun w=>isBin_any e.h.op w;have HNE:Hid (w.heap.size≠b):=by have:=hW.lt;show _≠_;omega
 have HX:=Hj (bx_new w (xO e.h));unfold binT at *;obtain⟨c0,c1,c2,c3,c4,c5,c6⟩:=x_cells (bx_new w (xO e.h))
 cases hb:opBin e.h.op with
 | false=>
  rw[hb]at C0;clear hl hI hE hB hW i0 i1 hb;show Calls Tryz.prog 88 #[.pointer (some ⟨b,0,none⟩),.agg #[.int .u8 e.h.op,.int .i64 e.h.ps,.bool e.h.bo,.int .i32 e.h.it,.int .u64 e.h.fl,.string ⟨e.h.nm.toArray⟩,.slice e.h.s.ao e.h.s.n e.h.s.c]] w _;go_enter Tryz.func88,Tryz.ntmps88;go_upto_region 1 with fail;rw[bx_x];go_wp2_with fail;refine(C0.out _).mono ?_;rintro r w1 ⟨rfl,rfl⟩;go_wp2_with fail
  first|go_end0|refine bodyPost_ret (results_none rfl _ _ _) rfl ?_
  exact⟨rfl,by simpa using HW.out,FX.out⟩
 | true=>
  rw[hb]at hl C0;simp only[if_true]at hl ⊢;obtain⟨s0,hs0⟩:∃s,brk (argX e 0).bin ((argX e 0).txt prT)=s:=⟨_,rfl⟩;obtain⟨s1,hs1⟩:∃s,brk (argX e 1).bin ((argX e 1).txt prT)=s:=⟨_,rfl⟩
  obtain⟨i,hi,hop⟩:∃i:Nat,i<12∧e.h.op=(i:Int)+5:=by
   unfold opBin at hb;have:=of_decide_eq_true hb;exact⟨(e.h.op-5).toNat,by omega,by omega⟩
  have hsg:signB e.h.op=signB ((i:Int)+5):=by rw[hop]
  rw[hs0,hs1,hsg]at hl;rw[hs0,hs1,hsg];obtain⟨sg,hsg2⟩:∃s,signB ((i:Int)+5)=s:=⟨_,rfl⟩;rw[hsg2]at hl ⊢;simp only[List.length_append,List.length_cons,List.length_nil]at hl;have A0:=Hj fun w hI hB=>tArg_any B e 0 w hI hB;have A1:=Hj fun w hI hB=>tArg_any B e 1 w hI hB;have O0:=Hj fun w hI hE hB h=>wOpnd_of B b (argX e 0) (i0 hb) w (argX_in hI 0) hE hB bs d h (by rw[hs0];omega);have O1:=Hj fun w hI hE hB h=>wOpnd_of B b (argX e 1) (i1 hb) w (argX_in hI 1) hE hB (bs++s0++[32]++sg++[32]) d h (by rw[hs1];simp only[List.length_append,List.length_cons,List.length_nil];omega);rw[hs0]at O0;rw[hs1]at O1;have S0:=Hj fun w h hB=>wString_any B b (bs++s0) [32] d w h (by simp only[List.length_append,List.length_cons,List.length_nil];omega) hB;have S1:=Hj fun w h hB=>wString_any B b (bs++s0++[32]) sg d w h (by simp only[List.length_append,List.length_cons,List.length_nil];omega) hB;have S2:=Hj fun w h hB=>wString_any B b (bs++s0++[32]++sg) [32] d w h (by simp only[List.length_append,List.length_cons,List.length_nil];omega) hB;have SGI:=Hj fun(w:World) (hE:En B w)=>by have:=hE.sg i hi;rw[hsg2]at this;exact this
  have ov:IntKind.u8.wrap (i:Int)=(i:Int):=by rw[IntKind.wrap_u8];omega
  have hal:Tryz.prog.arrayLen 166=12:=by kernel_rfl
  have zi:(i:Int)<12:=by omega
  have HOP:=Hj hop;clear hl hI hE hB hW i0 i1 hb hs0 hs1 hsg hsg2 hop hi;show Calls Tryz.prog 88 #[.pointer (some ⟨b,0,none⟩),.agg #[.int .u8 e.h.op,.int .i64 e.h.ps,.bool e.h.bo,.int .i32 e.h.it,.int .u64 e.h.fl,.string ⟨e.h.nm.toArray⟩,.slice e.h.s.ao e.h.s.n e.h.s.c]] w _;go_enter Tryz.func88,Tryz.ntmps88;go_upto_region 1 with fail;rw[bx_x];go_wp2_with fail;refine(C0.out _).mono ?_;rintro r w1 ⟨rfl,rfl⟩;go_wp2_with fail;refine(A0.out _ (HI.out.below FX.out.1 (Nat.le_refl _)) FX.out.size).mono ?_;rintro r w1 ⟨rfl,hb1⟩;have G1:=Hj (FX.out.trans (Fr.of (b:=b) hb1 FX.out.size));have W1:=Hj (HW.out.kept hb1);have X1:=Hj ((hb1.block _ (Array.getElem?_eq_some_iff.1 HX.out).1).trans HX.out);clear hb1 c0 c1 c2 c3 c4 c5 c6;go_wp2_with fail;refine(O0.out _ (HI.out.below G1.out.1 (Nat.le_refl _)) (HE.out.below G1.out.1 (Nat.le_refl _)) G1.out.size W1.out).mono ?_;rintro r w2 ⟨rfl,hw2,hf2⟩;have G2:=Hj (G1.out.trans hf2);have W2:=Hj hw2;have X2:=Hj (hf2.x X1.out HNE.out);clear hw2 hf2;go_wp2_with fail;refine(S0.out _ W2.out G2.out.size).mono ?_;rintro r w3 ⟨rfl,hw3,hf3⟩;have G3:=Hj (G2.out.trans hf3);have W3:=Hj hw3;have X3:=Hj (hf3.x X2.out HNE.out);clear hw3 hf3;go_upto_region 4 with fail;obtain⟨c0, -⟩:=x_cells X3.out
  rw[HOP.out]at c0;have sgc:=SGI.out w3 (HE.out.below G3.out.1 (Nat.le_refl _))
  go_still_tail 8,(by kernel_rfl)
  change wpList _ _ _ _ _ w3.drew;generalize hw4:w3.drew=w4 at *;have C4:=Hj (S1.out w4 (by rw[←hw4];exact W3.out.drew) (by rw[←hw4];exact G3.out.size));have G4:Hid (Fr B b w w4):=by rw[←hw4];exact G3.out.drew
  have X4:Hid (w4.heap[w.heap.size]? = some (xO e.h)):=by rw[←hw4];exact X3.out
  clear hw4 c0 sgc;go_wp2_with fail;refine C4.out.mono ?_;rintro r w5 ⟨rfl,hw5,hf5⟩;have G5:=Hj (G4.out.trans hf5);have W5:=Hj hw5;have X5:=Hj (hf5.x X4.out HNE.out);clear hw5 hf5;go_wp2_with fail;refine(S2.out _ W5.out G5.out.size).mono ?_;rintro r w6 ⟨rfl,hw6,hf6⟩;have G6:=Hj (G5.out.trans hf6);have W6:=Hj hw6;have X6:=hf6.x X5.out HNE.out;obtain⟨c0,c1,c2,c3,c4,c5,c6⟩:=x_cells X6;clear hw6 hf6 X6;go_wp2_with fail;refine(A1.out _ (HI.out.below G6.out.1 (Nat.le_refl _)) G6.out.size).mono ?_;rintro r w7 ⟨rfl,hb7⟩;have G7:=Hj (G6.out.trans (Fr.of (b:=b) hb7 G6.out.size));have W7:=Hj (W6.out.kept hb7);clear hb7 c0 c1 c2 c3 c4 c5 c6;go_wp2_with fail;refine(O1.out _ (HI.out.below G7.out.1 (Nat.le_refl _)) (HE.out.below G7.out.1 (Nat.le_refl _)) G7.out.size W7.out).mono ?_;rintro r w8 ⟨rfl,hw8,hf8⟩;have G8:=Hj (G7.out.trans hf8);clear hf8;go_wp2_with fail
  go_end0
  exact⟨rfl,by simpa using hw8,G8.out⟩
theorem arg_txt (F:Int→List UInt8)(e:Ex):(if 0<e.h.s.n then(e.k 0).txt F else[])=(argX e 0).txt F:=by unfold argX;split<;>rfl
theorem arg_brk (F:Int→List UInt8)(e:Ex)(i:Nat):(if i<e.h.s.n then brk (e.k i).bin ((e.k i).txt F) else[])=brk (argX e i).bin ((argX e i).txt F):=by unfold argX;split<;>rfl
theorem Ex.txt_arg (F:Int→List UInt8)(e:Ex):e.txt F=headT F e.h ((argX e 0).txt F) (brk (argX e 0).bin ((argX e 0).txt F)) (brk (argX e 1).bin ((argX e 1).txt F)):=by
 rw[Ex.txt_eq,arg_txt,arg_brk,arg_brk]
theorem wX1 (B b:Nat)(e:Ex)(hop:e.h.op=1)(w:World)(hI:e.In B w)(hE:En B w)(hB:B≤w.heap.size):Wrt B b 50 #[e.h.v] (e.txt prT) w:=by
 intro bs d hW hl;have FX:=Hj ((Fr.refl b hB).bx (xO e.h));have HW:=Hj (hW.bx (xO e.h));have HI:=Hj (hI.below FX.out.1 (Nat.le_refl _));have HE:=Hj (hE.below FX.out.1 (Nat.le_refl _));have HNE:Hid (w.heap.size≠b):=by have:=hW.lt;show _≠_;omega
 have HX:=Hj (bx_new w (xO e.h));have hok:=hI.ok;rw[Ex.txt_arg]at hl ⊢
 simp[headT,hop]at hl ⊢
 have C0:=Hj fun w=>fbool_any e.h.bo w;obtain⟨q,hq⟩:∃q:List UInt8,(if e.h.bo=true then[116,114,117,101] else[102,97,108,115,101])=q:=⟨_,rfl⟩;rw[hq]at hl C0;rw[hq];have C1:=Hj fun w h hB=>wString_any B b bs q d w h hl hB;obtain⟨c0,c1,c2,c3,c4,c5,c6⟩:=x_cells (bx_new w (xO e.h));rw[hop]at c0;clear hl hI hE hB hW hop hok;show Calls Tryz.prog 50 #[.pointer (some ⟨b,0,none⟩),.agg #[.int .u8 e.h.op,.int .i64 e.h.ps,.bool e.h.bo,.int .i32 e.h.it,.int .u64 e.h.fl,.string ⟨e.h.nm.toArray⟩,.slice e.h.s.ao e.h.s.n e.h.s.c]] w _;go_enter Tryz.func50,Tryz.ntmps50;go_upto_region 1 with fail;rw[bx_x];go_upto_region 4 with fail;refine wp_region_still_tail 6 (by kernel_rfl) (by kernel_rfl) ?_;simp only[List.take_succ_cons,List.take_zero,List.drop_succ_cons,List.drop_zero]
 repeat still_step
 still_call (C0.out _)
 repeat still_step
 refine wpStill_nil ?_;change wpList _ _ _ _ _ (bx w (xO e.h)).drew;have C2:=Hj (C1.out _ HW.out.drew FX.out.size);have F2:=Hj FX.out.drew;generalize (bx w (xO e.h)).drew=w2 at *;clear c0 c1 c2 c3 c4 c5 c6 C1 C0 hq;go_wp2_with fail;refine C2.out.mono ?_;rintro r w3 ⟨rfl,hw3,hf3⟩;have F3:=Hj (F2.out.trans hf3);clear hf3;go_wp2_with fail
 go_end0
 exact⟨rfl,hw3,F3.out⟩
theorem wX2 (B b:Nat)(e:Ex)(hop:e.h.op=2)(w:World)(hI:e.In B w)(hE:En B w)(hB:B≤w.heap.size):Wrt B b 50 #[e.h.v] (e.txt prT) w:=by
 intro bs d hW hl;have FX:=Hj ((Fr.refl b hB).bx (xO e.h));have HW:=Hj (hW.bx (xO e.h));have HI:=Hj (hI.below FX.out.1 (Nat.le_refl _));have HE:=Hj (hE.below FX.out.1 (Nat.le_refl _));have HNE:Hid (w.heap.size≠b):=by have:=hW.lt;show _≠_;omega
 have HX:=Hj (bx_new w (xO e.h));have hok:=hI.ok;rw[Ex.txt_arg]at hl ⊢
 simp[headT,hop]at hl ⊢
 have C1:=Hj (wInt_any B b bs d e.h.it _ HW.out HE.out (by have:=hok.it0;omega) (by have:=hok.it1;omega) hl FX.out.size);have i1:=hok.it0;have i2:=hok.it1;have ovi:IntKind.i64.wrap e.h.it=e.h.it:=by rw[IntKind.wrap_i64];omega
 obtain⟨c0,c1,c2,c3,c4,c5,c6⟩:=x_cells (bx_new w (xO e.h));rw[hop]at c0;clear hl hI hE hB hW hop hok;show Calls Tryz.prog 50 #[.pointer (some ⟨b,0,none⟩),.agg #[.int .u8 e.h.op,.int .i64 e.h.ps,.bool e.h.bo,.int .i32 e.h.it,.int .u64 e.h.fl,.string ⟨e.h.nm.toArray⟩,.slice e.h.s.ao e.h.s.n e.h.s.c]] w _;go_enter Tryz.func50,Tryz.ntmps50;go_upto_region 1 with fail;rw[bx_x];go_wp2_with fail;refine C1.out.mono ?_;rintro r w1 ⟨rfl,hw1,hf1⟩;have F1:=Hj (FX.out.trans hf1);clear hf1;go_wp2_with fail
 go_end0
 exact⟨rfl,by simpa using hw1,F1.out⟩
theorem wX3 (B b:Nat)(e:Ex)(hop:e.h.op=3)(w:World)(hI:e.In B w)(hE:En B w)(hB:B≤w.heap.size):Wrt B b 50 #[e.h.v] (e.txt prT) w:=by
 intro bs d hW hl;have FX:=Hj ((Fr.refl b hB).bx (xO e.h));have HW:=Hj (hW.bx (xO e.h));have HI:=Hj (hI.below FX.out.1 (Nat.le_refl _));have HE:=Hj (hE.below FX.out.1 (Nat.le_refl _));have HNE:Hid (w.heap.size≠b):=by have:=hW.lt;show _≠_;omega
 have HX:=Hj (bx_new w (xO e.h));have hok:=hI.ok;rw[Ex.txt_arg]at hl ⊢
 simp[headT,hop]at hl ⊢
 have C1:=Hj fun w hE=>print_any e.h.fl hok.fl w hE;have C2:=Hj fun w h hB=>wString_any B b bs (prT e.h.fl) d w h hl hB;obtain⟨c0,c1,c2,c3,c4,c5,c6⟩:=x_cells (bx_new w (xO e.h));rw[hop]at c0;clear hl hI hE hB hW hop hok;show Calls Tryz.prog 50 #[.pointer (some ⟨b,0,none⟩),.agg #[.int .u8 e.h.op,.int .i64 e.h.ps,.bool e.h.bo,.int .i32 e.h.it,.int .u64 e.h.fl,.string ⟨e.h.nm.toArray⟩,.slice e.h.s.ao e.h.s.n e.h.s.c]] w _;go_enter Tryz.func50,Tryz.ntmps50;go_upto_region 1 with fail;rw[bx_x];go_upto_region 8 with fail;have KG:=Hj fun w' (hb:Below (bx w (xO e.h)).heap.size (bx w (xO e.h)) w')=>(hb.cell (p:=⟨w.heap.size,4,none⟩) (by rw[bx_size];exact Nat.lt_succ_self _)).trans c4;have KX:=Hj fun(w':World) (h:w'.heap[w.heap.size]? = some (xO e.h))=>(x_cells h).2.2.2.2.1;generalize bx w (xO e.h)=wx at *
 go_region_held3 (fun w'=>w'.cell? ⟨w.heap.size,4,none⟩=some (.int .u64 e.h.fl)) (first|exact c4|exact KG.out _ ((Below.drew (Below.refl _ _)).trans hb1)|exact KX.out _ (hf2.x ((hb1.block _ (Array.getElem?_eq_some_iff.1 HX.out).1).trans HX.out) HNE.out))
  (first
   | (go_at_call 83;refine(C1.out _ HE.out.env.drew).mono ?_;rintro r w1 ⟨rfl,hb1⟩)
   | (go_at_call 77;refine(C2.out _ (HW.out.drew.kept hb1) (Nat.le_trans FX.out.size hb1.size)).mono ?_;rintro r w2 ⟨rfl,hw2,hf2⟩))
 all_goals
  go_wp2_with fail
  go_end0
  exact⟨rfl,by simpa using hw2,FX.out.trans ((Fr.of (Below.drew (Below.refl _ _)) FX.out.size).trans ((Fr.of hb1 FX.out.size).trans hf2))⟩
theorem wX4 (B b:Nat)(e:Ex)(i0:0<e.h.s.n→OkX B (e.k 0))(hop:e.h.op=4)(w:World)(hI:e.In B w)(hE:En B w)(hB:B≤w.heap.size):Wrt B b 50 #[e.h.v] (e.txt prT) w:=by
 intro bs d hW hl;have FX:=Hj ((Fr.refl b hB).bx (xO e.h));have HW:=Hj (hW.bx (xO e.h));have HI:=Hj (hI.below FX.out.1 (Nat.le_refl _));have HE:=Hj (hE.below FX.out.1 (Nat.le_refl _));have HNE:Hid (w.heap.size≠b):=by have:=hW.lt;show _≠_;omega
 have HX:=Hj (bx_new w (xO e.h));have hok:=hI.ok;rw[Ex.txt_arg]at hl ⊢
 simp[headT,hop]at hl ⊢
 have e0:(argX e 0).txt prT=(if 0<e.h.s.n then(e.k 0).txt prT else[]):=(arg_txt prT e).symm;rw[e0]at hl ⊢;have C1:=Hj (wPlc_of B b e.h.nm e.h.s e.k i0 _ HI.out.xs HE.out FX.out.size bs d HW.out hl);generalize nameT e.h.nm e.h.s.n (if 0<e.h.s.n then(e.k 0).txt prT else[])=T at *;obtain⟨c0,c1,c2,c3,c4,c5,c6⟩:=x_cells (bx_new w (xO e.h));rw[hop]at c0;clear hl hI hE hB hW hop hok;show Calls Tryz.prog 50 #[.pointer (some ⟨b,0,none⟩),.agg #[.int .u8 e.h.op,.int .i64 e.h.ps,.bool e.h.bo,.int .i32 e.h.it,.int .u64 e.h.fl,.string ⟨e.h.nm.toArray⟩,.slice e.h.s.ao e.h.s.n e.h.s.c]] w _;go_enter Tryz.func50,Tryz.ntmps50;go_upto_region 1 with fail;rw[bx_x];go_wp2_with fail;refine C1.out.mono ?_;rintro r w1 ⟨rfl,hw1,hf1⟩;have F1:=Hj (FX.out.trans hf1);clear hf1;go_wp2_with fail
 go_end0
 exact⟨rfl,hw1,F1.out⟩
theorem wX19 (B b:Nat)(e:Ex)(i0:OkX B (argX e 0))(hop:e.h.op=19)(w:World)(hI:e.In B w)(hE:En B w)(hB:B≤w.heap.size):Wrt B b 50 #[e.h.v] (e.txt prT) w:=by
 intro bs d hW hl;have FX:=Hj ((Fr.refl b hB).bx (xO e.h));have HW:=Hj (hW.bx (xO e.h));have HI:=Hj (hI.below FX.out.1 (Nat.le_refl _));have HE:=Hj (hE.below FX.out.1 (Nat.le_refl _));have HNE:Hid (w.heap.size≠b):=by have:=hW.lt;show _≠_;omega
 have HX:=Hj (bx_new w (xO e.h));have hok:=hI.ok;rw[Ex.txt_arg]at hl ⊢
 simp[headT,hop]at hl ⊢
 have A0:Hid (Calls Tryz.prog 86 #[.agg #[.int .u8 19,.int .i64 e.h.ps,.bool e.h.bo,.int .i32 e.h.it,.int .u64 e.h.fl,.string ⟨e.h.nm.toArray⟩,.slice e.h.s.ao e.h.s.n e.h.s.c],.int .i64 0] (bx w (xO e.h)) fun r w'=>r=.returned (argX e 0).h.v∧Below (bx w (xO e.h)).heap.size (bx w (xO e.h)) w'):=by
  show Calls _ _ _ _ _;rw[←hop];exact tArg_any B e 0 _ HI.out FX.out.size
 have C1:=Hj fun w hI hE hB hW=>wEnc_of B b (argX e 0) i0 [105,110,116,40] [41] w hI hE hB bs d hW (by simp only[List.length_append,List.length_cons,List.length_nil]at hl ⊢;omega);have HA:=Hj (argX_in HI.out 0);generalize argX e 0=a at *;generalize a.txt prT=T at *;obtain⟨c0,c1,c2,c3,c4,c5,c6⟩:=x_cells (bx_new w (xO e.h));rw[hop]at c0;clear hl hI hE hB hW hop hok;show Calls Tryz.prog 50 #[.pointer (some ⟨b,0,none⟩),.agg #[.int .u8 e.h.op,.int .i64 e.h.ps,.bool e.h.bo,.int .i32 e.h.it,.int .u64 e.h.fl,.string ⟨e.h.nm.toArray⟩,.slice e.h.s.ao e.h.s.n e.h.s.c]] w _;go_enter Tryz.func50,Tryz.ntmps50;go_upto_region 1 with fail;rw[bx_x];go_wp2_with fail;refine A0.out.mono ?_;rintro r w1 ⟨rfl,hb1⟩;have HA1:=Hj (HA.out.below hb1 FX.out.size);have HE1:=Hj (HE.out.below hb1 FX.out.size);have W1:=Hj (HW.out.kept hb1);have F1:=Hj (FX.out.trans (Fr.of (b:=b) hb1 FX.out.size));clear hb1 c0 c1 c2 c3 c4 c5 c6;go_wp2_with fail;refine(C1.out _ HA1.out HE1.out F1.out.size W1.out).mono ?_;rintro r w2 ⟨rfl,hw2,hf2⟩;have F2:=Hj (F1.out.trans hf2);clear hf2;go_wp2_with fail
 go_end0
 exact⟨rfl,by simpa using hw2,F2.out⟩
theorem wX20 (B b:Nat)(e:Ex)(i0:OkX B (argX e 0))(hop:e.h.op=20)(w:World)(hI:e.In B w)(hE:En B w)(hB:B≤w.heap.size):Wrt B b 50 #[e.h.v] (e.txt prT) w:=by
 intro bs d hW hl;have FX:=Hj ((Fr.refl b hB).bx (xO e.h));have HW:=Hj (hW.bx (xO e.h));have HI:=Hj (hI.below FX.out.1 (Nat.le_refl _));have HE:=Hj (hE.below FX.out.1 (Nat.le_refl _));have HNE:Hid (w.heap.size≠b):=by have:=hW.lt;show _≠_;omega
 have HX:=Hj (bx_new w (xO e.h));have hok:=hI.ok;rw[Ex.txt_arg]at hl ⊢
 simp[headT,hop]at hl ⊢
 have A0:Hid (Calls Tryz.prog 86 #[.agg #[.int .u8 20,.int .i64 e.h.ps,.bool e.h.bo,.int .i32 e.h.it,.int .u64 e.h.fl,.string ⟨e.h.nm.toArray⟩,.slice e.h.s.ao e.h.s.n e.h.s.c],.int .i64 0] (bx w (xO e.h)) fun r w'=>r=.returned (argX e 0).h.v∧Below (bx w (xO e.h)).heap.size (bx w (xO e.h)) w'):=by
  show Calls _ _ _ _ _;rw[←hop];exact tArg_any B e 0 _ HI.out FX.out.size
 have C1:=Hj fun w hI hE hB hW=>wEnc_of B b (argX e 0) i0 [102,108,111,97,116,40] [41] w hI hE hB bs d hW (by simp only[List.length_append,List.length_cons,List.length_nil]at hl ⊢;omega);have HA:=Hj (argX_in HI.out 0);generalize argX e 0=a at *;generalize a.txt prT=T at *;obtain⟨c0,c1,c2,c3,c4,c5,c6⟩:=x_cells (bx_new w (xO e.h));rw[hop]at c0;clear hl hI hE hB hW hop hok;show Calls Tryz.prog 50 #[.pointer (some ⟨b,0,none⟩),.agg #[.int .u8 e.h.op,.int .i64 e.h.ps,.bool e.h.bo,.int .i32 e.h.it,.int .u64 e.h.fl,.string ⟨e.h.nm.toArray⟩,.slice e.h.s.ao e.h.s.n e.h.s.c]] w _;go_enter Tryz.func50,Tryz.ntmps50;go_upto_region 1 with fail;rw[bx_x];go_wp2_with fail;refine A0.out.mono ?_;rintro r w1 ⟨rfl,hb1⟩;have HA1:=Hj (HA.out.below hb1 FX.out.size);have HE1:=Hj (HE.out.below hb1 FX.out.size);have W1:=Hj (HW.out.kept hb1);have F1:=Hj (FX.out.trans (Fr.of (b:=b) hb1 FX.out.size));clear hb1 c0 c1 c2 c3 c4 c5 c6;go_wp2_with fail;refine(C1.out _ HA1.out HE1.out F1.out.size W1.out).mono ?_;rintro r w2 ⟨rfl,hw2,hf2⟩;have F2:=Hj (F1.out.trans hf2);clear hf2;go_wp2_with fail
 go_end0
 exact⟨rfl,by simpa using hw2,F2.out⟩
theorem wX21 (B b:Nat)(e:Ex)(i0:OkX B (argX e 0))(hop:e.h.op=21)(w:World)(hI:e.In B w)(hE:En B w)(hB:B≤w.heap.size):Wrt B b 50 #[e.h.v] (e.txt prT) w:=by
 intro bs d hW hl;have FX:=Hj ((Fr.refl b hB).bx (xO e.h));have HW:=Hj (hW.bx (xO e.h));have HI:=Hj (hI.below FX.out.1 (Nat.le_refl _));have HE:=Hj (hE.below FX.out.1 (Nat.le_refl _));have HNE:Hid (w.heap.size≠b):=by have:=hW.lt;show _≠_;omega
 have HX:=Hj (bx_new w (xO e.h));have hok:=hI.ok;rw[Ex.txt_arg]at hl ⊢
 simp[headT,hop]at hl ⊢
 have A0:Hid (Calls Tryz.prog 86 #[.agg #[.int .u8 21,.int .i64 e.h.ps,.bool e.h.bo,.int .i32 e.h.it,.int .u64 e.h.fl,.string ⟨e.h.nm.toArray⟩,.slice e.h.s.ao e.h.s.n e.h.s.c],.int .i64 0] (bx w (xO e.h)) fun r w'=>r=.returned (argX e 0).h.v∧Below (bx w (xO e.h)).heap.size (bx w (xO e.h)) w'):=by
  show Calls _ _ _ _ _;rw[←hop];exact tArg_any B e 0 _ HI.out FX.out.size
 have C1:=Hj fun w hI hE hB hW=>wEnc_of B b (argX e 0) i0 [97,98,115,40] [41] w hI hE hB bs d hW (by simp only[List.length_append,List.length_cons,List.length_nil]at hl ⊢;omega);have HA:=Hj (argX_in HI.out 0);generalize argX e 0=a at *;generalize a.txt prT=T at *;obtain⟨c0,c1,c2,c3,c4,c5,c6⟩:=x_cells (bx_new w (xO e.h));rw[hop]at c0;clear hl hI hE hB hW hop hok;show Calls Tryz.prog 50 #[.pointer (some ⟨b,0,none⟩),.agg #[.int .u8 e.h.op,.int .i64 e.h.ps,.bool e.h.bo,.int .i32 e.h.it,.int .u64 e.h.fl,.string ⟨e.h.nm.toArray⟩,.slice e.h.s.ao e.h.s.n e.h.s.c]] w _;go_enter Tryz.func50,Tryz.ntmps50;go_upto_region 1 with fail;rw[bx_x];go_wp2_with fail;refine A0.out.mono ?_;rintro r w1 ⟨rfl,hb1⟩;have HA1:=Hj (HA.out.below hb1 FX.out.size);have HE1:=Hj (HE.out.below hb1 FX.out.size);have W1:=Hj (HW.out.kept hb1);have F1:=Hj (FX.out.trans (Fr.of (b:=b) hb1 FX.out.size));clear hb1 c0 c1 c2 c3 c4 c5 c6;go_wp2_with fail;refine(C1.out _ HA1.out HE1.out F1.out.size W1.out).mono ?_;rintro r w2 ⟨rfl,hw2,hf2⟩;have F2:=Hj (F1.out.trans hf2);clear hf2;go_wp2_with fail
 go_end0
 exact⟨rfl,by simpa using hw2,F2.out⟩
theorem wX17 (B b:Nat)(e:Ex)(i0:OkX B (argX e 0))(hop:e.h.op=17)(w:World)(hI:e.In B w)(hE:En B w)(hB:B≤w.heap.size):Wrt B b 50 #[e.h.v] (e.txt prT) w:=by
 intro bs d hW hl;have FX:=Hj ((Fr.refl b hB).bx (xO e.h));have HW:=Hj (hW.bx (xO e.h));have HI:=Hj (hI.below FX.out.1 (Nat.le_refl _));have HE:=Hj (hE.below FX.out.1 (Nat.le_refl _));have HNE:Hid (w.heap.size≠b):=by have:=hW.lt;show _≠_;omega
 have HX:=Hj (bx_new w (xO e.h));have hok:=hI.ok;rw[Ex.txt_arg]at hl ⊢
 simp[headT,hop]at hl ⊢
 have A0:=Hj fun w hI hB=>tArg_any B e 0 w hI hB;have S0:=Hj (wString_any B b bs [45] d _ HW.out (by simp only[List.length_cons,List.length_nil];omega) FX.out.size);have C1:=Hj fun w hI hE hB hW=>wOpnd_of B b (argX e 0) i0 w hI hE hB (bs++[45]) d hW (by simp only[List.length_append,List.length_cons,List.length_nil];omega);have HA:=Hj (argX_in HI.out 0);generalize argX e 0=a at *;generalize brk a.bin (a.txt prT)=T at *;obtain⟨c0,c1,c2,c3,c4,c5,c6⟩:=x_cells (bx_new w (xO e.h));rw[hop]at c0;clear hl hI hE hB hW hop hok;show Calls Tryz.prog 50 #[.pointer (some ⟨b,0,none⟩),.agg #[.int .u8 e.h.op,.int .i64 e.h.ps,.bool e.h.bo,.int .i32 e.h.it,.int .u64 e.h.fl,.string ⟨e.h.nm.toArray⟩,.slice e.h.s.ao e.h.s.n e.h.s.c]] w _;go_enter Tryz.func50,Tryz.ntmps50;go_upto_region 1 with fail;rw[bx_x];clear c1 c2 c3 c4 c5 c6;go_wp2_with fail;refine S0.out.mono ?_;rintro r w1 ⟨rfl,hw1,hf1⟩;have F1:=Hj (FX.out.trans hf1);obtain⟨c0,c1,c2,c3,c4,c5,c6⟩:=x_cells (hf1.x HX.out HNE.out);have A1:=Hj (A0.out w1 (HI.out.below hf1.1 (Nat.le_refl _)) F1.out.size);have HA1:=Hj (HA.out.below hf1.1 (Nat.le_refl _));have HE1:=Hj (HE.out.below hf1.1 (Nat.le_refl _));have W1:=Hj hw1;clear hw1 hf1 A0 S0;go_wp2_with fail;refine A1.out.mono ?_
 rintro r w2 ⟨rfl,hb2⟩;have HA2:=Hj (HA1.out.below hb2 F1.out.size);have HE2:=Hj (HE1.out.below hb2 F1.out.size);have W2:=Hj (W1.out.kept hb2);have F2:=Hj (F1.out.trans (Fr.of (b:=b) hb2 F1.out.size));clear hb2 c0 c1 c2 c3 c4 c5 c6;go_wp2_with fail;refine(C1.out _ HA2.out HE2.out F2.out.size W2.out).mono ?_;rintro r w3 ⟨rfl,hw3,hf3⟩;have F3:=Hj (F2.out.trans hf3);clear hf3;go_wp2_with fail
 go_end0
 exact⟨rfl,by simpa using hw3,F3.out⟩
theorem wX18 (B b:Nat)(e:Ex)(i0:OkX B (argX e 0))(hop:e.h.op=18)(w:World)(hI:e.In B w)(hE:En B w)(hB:B≤w.heap.size):Wrt B b 50 #[e.h.v] (e.txt prT) w:=by
 intro bs d hW hl;have FX:=Hj ((Fr.refl b hB).bx (xO e.h));have HW:=Hj (hW.bx (xO e.h));have HI:=Hj (hI.below FX.out.1 (Nat.le_refl _));have HE:=Hj (hE.below FX.out.1 (Nat.le_refl _));have HNE:Hid (w.heap.size≠b):=by have:=hW.lt;show _≠_;omega
 have HX:=Hj (bx_new w (xO e.h));have hok:=hI.ok;rw[Ex.txt_arg]at hl ⊢
 simp[headT,hop]at hl ⊢
 have A0:=Hj fun w hI hB=>tArg_any B e 0 w hI hB;have S0:=Hj (wString_any B b bs [33] d _ HW.out (by simp only[List.length_cons,List.length_nil];omega) FX.out.size);have C1:=Hj fun w hI hE hB hW=>wOpnd_of B b (argX e 0) i0 w hI hE hB (bs++[33]) d hW (by simp only[List.length_append,List.length_cons,List.length_nil];omega);have HA:=Hj (argX_in HI.out 0);generalize argX e 0=a at *;generalize brk a.bin (a.txt prT)=T at *;obtain⟨c0,c1,c2,c3,c4,c5,c6⟩:=x_cells (bx_new w (xO e.h));rw[hop]at c0;clear hl hI hE hB hW hop hok;show Calls Tryz.prog 50 #[.pointer (some ⟨b,0,none⟩),.agg #[.int .u8 e.h.op,.int .i64 e.h.ps,.bool e.h.bo,.int .i32 e.h.it,.int .u64 e.h.fl,.string ⟨e.h.nm.toArray⟩,.slice e.h.s.ao e.h.s.n e.h.s.c]] w _;go_enter Tryz.func50,Tryz.ntmps50;go_upto_region 1 with fail;rw[bx_x];clear c1 c2 c3 c4 c5 c6;go_wp2_with fail;refine S0.out.mono ?_;rintro r w1 ⟨rfl,hw1,hf1⟩;have F1:=Hj (FX.out.trans hf1);obtain⟨c0,c1,c2,c3,c4,c5,c6⟩:=x_cells (hf1.x HX.out HNE.out);have A1:=Hj (A0.out w1 (HI.out.below hf1.1 (Nat.le_refl _)) F1.out.size);have HA1:=Hj (HA.out.below hf1.1 (Nat.le_refl _));have HE1:=Hj (HE.out.below hf1.1 (Nat.le_refl _));have W1:=Hj hw1;clear hw1 hf1 A0 S0;go_wp2_with fail;refine A1.out.mono ?_
 rintro r w2 ⟨rfl,hb2⟩;have HA2:=Hj (HA1.out.below hb2 F1.out.size);have HE2:=Hj (HE1.out.below hb2 F1.out.size);have W2:=Hj (W1.out.kept hb2);have F2:=Hj (F1.out.trans (Fr.of (b:=b) hb2 F1.out.size));clear hb2 c0 c1 c2 c3 c4 c5 c6;go_wp2_with fail;refine(C1.out _ HA2.out HE2.out F2.out.size W2.out).mono ?_;rintro r w3 ⟨rfl,hw3,hf3⟩;have F3:=Hj (F2.out.trans hf3);clear hf3;go_wp2_with fail
 go_end0
 exact⟨rfl,by simpa using hw3,F3.out⟩
theorem wXd (B b:Nat)(e:Ex)(i0:opBin e.h.op=true→OkX B (argX e 0))(i1:opBin e.h.op=true→OkX B (argX e 1))(hop:¬e.h.op=1∧¬e.h.op=2∧¬e.h.op=3∧¬e.h.op=4∧¬e.h.op=19∧¬e.h.op=20∧¬e.h.op=21∧¬e.h.op=17∧¬e.h.op=18)(w:World)(hI:e.In B w)(hE:En B w)(hB:B≤w.heap.size):Wrt B b 50 #[e.h.v] (e.txt prT) w:=by
 intro bs d hW hl;have FX:=Hj ((Fr.refl b hB).bx (xO e.h));have HW:=Hj (hW.bx (xO e.h));have HI:=Hj (hI.below FX.out.1 (Nat.le_refl _));have HE:=Hj (hE.below FX.out.1 (Nat.le_refl _));have HNE:Hid (w.heap.size≠b):=by have:=hW.lt;show _≠_;omega
 have HX:=Hj (bx_new w (xO e.h));have hok:=hI.ok;obtain⟨k1,k2,k3,k4,k19,k20,k21,k17,k18⟩:=hop
 have eT:e.txt prT=binT e:=by
  rw[Ex.txt_arg];unfold headT binT;rw[if_neg k1,if_neg k2,if_neg k3,if_neg k4,if_neg k19,if_neg k20,if_neg k21,if_neg k17,if_neg k18]
 rw[eT]at hl ⊢;have C1:=Hj (wBin_of B b e i0 i1 _ HI.out HE.out FX.out.size bs d HW.out hl);have q1:(e.h.op == 1)=false:=by simpa using k1
 have q2:(e.h.op == 2)=false:=by simpa using k2
 have q3:(e.h.op == 3)=false:=by simpa using k3
 have q4:(e.h.op == 4)=false:=by simpa using k4
 have q19:(e.h.op == 19)=false:=by simpa using k19
 have q20:(e.h.op == 20)=false:=by simpa using k20
 have q21:(e.h.op == 21)=false:=by simpa using k21
 have q17:(e.h.op == 17)=false:=by simpa using k17
 have q18:(e.h.op == 18)=false:=by simpa using k18
 obtain⟨c0,c1,c2,c3,c4,c5,c6⟩:=x_cells (bx_new w (xO e.h));clear hl hI hE hB hW hok eT;show Calls Tryz.prog 50 #[.pointer (some ⟨b,0,none⟩),.agg #[.int .u8 e.h.op,.int .i64 e.h.ps,.bool e.h.bo,.int .i32 e.h.it,.int .u64 e.h.fl,.string ⟨e.h.nm.toArray⟩,.slice e.h.s.ao e.h.s.n e.h.s.c]] w _;go_enter Tryz.func50,Tryz.ntmps50;go_upto_region 1 with fail;rw[bx_x];go_wp2_with fail;refine C1.out.mono ?_;rintro r w1 ⟨rfl,hw1,hf1⟩;have F1:=Hj (FX.out.trans hf1);clear hf1;go_wp2_with fail
 go_end0
 exact⟨rfl,hw1,F1.out⟩
theorem okX_of (B:Nat)(e:Ex)(i0:e.h.op≠0→OkX B (argX e 0))(i1:e.h.op≠0→OkX B (argX e 1)):OkX B e:=by
 intro b w hI hE hB
 by_cases h1:e.h.op=1
 ·exact wX1 B b e h1 w hI hE hB
 by_cases h2:e.h.op=2
 ·exact wX2 B b e h2 w hI hE hB
 by_cases h3:e.h.op=3
 ·exact wX3 B b e h3 w hI hE hB
 by_cases h4:e.h.op=4
 ·exact wX4 B b e (fun h=>by have:=i0 (by omega);rwa [argX,if_pos h]at this) h4 w hI hE hB
 by_cases h19:e.h.op=19
 ·exact wX19 B b e (i0 (by omega)) h19 w hI hE hB
 by_cases h20:e.h.op=20
 ·exact wX20 B b e (i0 (by omega)) h20 w hI hE hB
 by_cases h21:e.h.op=21
 ·exact wX21 B b e (i0 (by omega)) h21 w hI hE hB
 by_cases h17:e.h.op=17
 ·exact wX17 B b e (i0 (by omega)) h17 w hI hE hB
 by_cases h18:e.h.op=18
 ·exact wX18 B b e (i0 (by omega)) h18 w hI hE hB
 have hz:opBin e.h.op=true→e.h.op≠0:=fun h h0=>by rw[h0]at h;cases h
 exact wXd B b e (fun h=>i0 (hz h)) (fun h=>i1 (hz h)) ⟨h1,h2,h3,h4,h19,h20,h21,h17,h18⟩ w hI hE hB
theorem okX_no (B:Nat):OkX B .no:=okX_of B .no (fun h=>absurd rfl h) (fun h=>absurd rfl h)
theorem okX_any (B:Nat)(e:Ex):OkX B e:=by
 induction e using Ex.ind with
 | H e ih=>
  have h:∀i,OkX B (argX e i):=fun i=>by
   unfold argX;split
   ·rename_i hi;exact ih i hi
   ·exact okX_no B
  exact okX_of B e (fun _=>h 0) (fun _=>h 1)
def wO:Obj:=.cells #[.pointer none,.slice none 0 0,.int .i64 0] 89 (0,0)
theorem wr_new {B:Nat}(w:World)(h:B≤w.heap.size):Wr B w.heap.size [] 0 (bx w wO):=.inl ⟨h,_,bx_new w wO,World.ownsRow_nil _ _ _ _,by simp[Value.ownBlock]⟩
theorem tText_any (e:Ex)(B:Nat)(w:World)(hI:e.In B w)(hB:B≤w.heap.size)(hE:EnvOk w)(hS:SgOk w)(hl:(e.txt prT).length≤140737488355328) :
  Calls Tryz.prog 21 #[e.h.v] w fun r w'=>r=.returned (.string ⟨(e.txt prT).toArray⟩)∧Below w.heap.size w w':=by
 have hW:=wr_new (B:=w.heap.size) (bx w (xO e.h)) (by rw[bx_size];omega);rw[bx_size]at hW;have FX:=Hj (((Fr.refl (w.heap.size+1) (Nat.le_refl w.heap.size)).bx (xO e.h)).bx wO);have HX:=Hj ((bx_old (bx w (xO e.h)) wO (by rw[bx_size];omega)).trans (bx_new w (xO e.h)));obtain⟨c0,c1,c2,c3,c4,c5,c6⟩:=x_cells HX.out;have C1:=Hj (okX_any w.heap.size e (w.heap.size+1) (bx (bx w (xO e.h)) wO) (hI.mono (bel_same FX.out.1 hB) hB) ((En.of hE hS).below FX.out.1 (Nat.le_refl _)) FX.out.size [] 0 hW (by simpa using hl));have C2:=Hj fun w' h hB=>wStr_any w.heap.size (w.heap.size+1) (e.txt prT) 0 w' h hB;generalize e.txt prT=T at *;have hz:(bx w (xO e.h)).heap.size=w.heap.size+1:=bx_size _ _;clear hI hE hS hl hW;show Calls Tryz.prog 21 #[.agg #[.int .u8 e.h.op,.int .i64 e.h.ps,.bool e.h.bo,.int .i32 e.h.it,.int .u64 e.h.fl,.string ⟨e.h.nm.toArray⟩,.slice e.h.s.ao e.h.s.n e.h.s.c]] w _;go_enter Tryz.func21,Tryz.ntmps21;go_upto_region 1 with fail;rw[bx_x];go_upto_region 2 with fail;rw[show(bx w (xO e.h)).alloc (.cells #[.pointer none,.slice none 0 0,.int .i64 0] 89 (0,0))=bx (bx w (xO e.h)) wO from rfl];go_wp2_with fail;refine C1.out.mono ?_;rintro r w1 ⟨rfl,hw1,hf1⟩;have F1:=Hj (FX.out.trans hf1)
 have W1:Hid (Wr w.heap.size (w.heap.size+1) T 0 w1):=hw1;clear hw1 hf1 c0 c1 c2 c3 c4 c5 c6;go_wp2_with fail;refine(C2.out _ W1.out F1.out.size).mono ?_;rintro r w2 ⟨rfl,hb2⟩;have B2:=Hj (F1.out.1.trans hb2);clear hb2;go_wp2_with fail;go_ret;exact⟨rfl,B2.out⟩
def wkA:List UInt8:=[97,32,45,32,98,32,45,32,99,32,60,32,45,100,32,42,32,50]
def wkB:List UInt8:=[97,32,60,32,98,32,60,32,99]
def wkC:List UInt8:=[116,105,99,107,115,32,53,59,32,105,110,112,117,116,32,117,58,32,102,108,111,97,116,32,105,110,32,91,45,49,46,53,44,32,50,93,59,32,118,97,114,32,120,58,32,105,110,116,91,51,93,59,32,105,110,105,116,32,123,32,125,32,115,116,101,112,32,123,32,105,102,32,117,32,60,32,49,46,48,32,123,32,120,91,48,93,32,61,32,49,59,32,125,32,101,108,115,101,32,105,102,32,116,114,117,101,32,123,32,125,32,102,111,114,32,105,32,61,32,45,49,32,46,46,32,50,32,123,32,125,32,125]
def wkT:List UInt8:=[40,40,97,32,45,32,98,41,32,45,32,99,41,32,60,32,40,45,100,32,42,32,50,41]
def ckA (r:Rs Ex):Bool:=match r with
 | .ok a _=>decide (a.h.op=9∧a.h.ps=10∧a.h.s.n=2) && (a.txt prT == wkT)
 | .no _ _=>false
def ckC (r:Rs Pr):Bool:=match r with
 | .ok p _=>decide (p.ticks=5∧p.ds.n=2∧p.ss.n=2∧(p.s 0).h.es.n=1∧(p.d 0).rg=true∧(p.d 0).lo.h.fl=13832806255468478464∧(p.d 1).len=3∧(p.s 1).h.lo = -1)
 | .no _ _=>false
theorem wk_a:ckA (rsX wkA)=true:=by decide +kernel
theorem wk_b:(rsX wkB).er=110∧(rsX wkB).pl=6:=by decide +kernel
theorem wk_c:ckC (rsP wkC)=true:=by decide +kernel
theorem addr_row {a:Addr}{sz b o:Nat}(h:a.add (0*sz)=⟨b,o,none⟩):a=⟨b,o,none⟩:=by
 rw[Nat.zero_mul]at h;obtain⟨b',o',x⟩:=a
 cases x with
 | none=>simpa [Addr.add] using h
 | some x=>simp[Addr.add]at h
theorem ss_row {B:Nat}{w:World}{s:Sl}{k:Nat→St}(h:SsIn B w s k)(h0:0<s.n):∃b o,s.ao=some ⟨b,o,none⟩∧b<B∧∀i,i<s.n→S15 w b (o+i*15) (k i).h (k i).e.h:=by
 obtain⟨a,b,o,ha,hA,hb,X,I⟩:=h.at h0;have:=addr_row hA;subst this;refine⟨b,o,ha,hb,fun i hi=>?_⟩;obtain⟨a',b',o',ha',hA',hb',X',I'⟩:=h.at hi;rw[ha]at ha';cases ha';have e:(⟨b,o+i*15,none⟩:Addr)=⟨b',o',none⟩:=by rw[←hA',Addr.add_mid]
 cases e;exact X'
theorem ds_row {B:Nat}{w:World}{s:Sl}{k:Nat→De}(h:DsIn B w s k)(h0:0<s.n):∃b o,s.ao=some ⟨b,o,none⟩∧b<B∧∀i,i<s.n→D20 w b (o+i*20) (k i) (k i).lo.h (k i).hi.h:=by
 obtain⟨a,b,o,ha,hA,hb,X,I⟩:=h.at h0;have:=addr_row hA;subst this;refine⟨b,o,ha,hb,fun i hi=>?_⟩;obtain⟨a',b',o',ha',hA',hb',X',I'⟩:=h.at hi;rw[ha]at ha';cases ha';have e:(⟨b,o+i*20,none⟩:Addr)=⟨b',o',none⟩:=by rw[←hA',Addr.add_mid]
 cases e;exact X'
theorem wkA_any (w:World)(h:Env9 w):Calls Tryz.prog 13 #[.string ⟨wkA.toArray⟩] w fun r w'=>∃a':Ex,r=.returned (.tuple #[a'.h.v,.int .i64 0,.int .i64 0])∧XO (Fro w.heap.size) a' w'∧(a'.h.op=9∧a'.h.ps=10∧a'.h.s.n=2∧a'.txt prT=wkT)∧Below w.heap.size w w':=by
 have K:=wk_a;have P:=ppExpr_top ⟨wkA.toArray⟩ w h;change Calls _ _ _ _ (PTop w (rsX wkA) .no (VX w.heap.size))at P;generalize rsX wkA=R at *
 cases R with
 | no c p=>cases K
 | ok a s=>
  simp only[ckA,Bool.and_eq_true,decide_eq_true_eq,beq_iff_eq]at K;refine P.mono ?_;rintro r w' ⟨v,rfl,⟨a',rfl,xa,ea⟩,hb⟩;obtain⟨h1,h2,h3⟩:=(Ex.eqv_iff _ _).1 ea;obtain⟨g1,g2,g3,g4,g5,g6,g7⟩:=Ex.same_iff.1 (Ex.eqv_same ea);exact⟨a',rfl,xa,⟨g1.trans K.1.1,h2.symm.trans K.1.2.1,g6.trans K.1.2.2,(Ex.same_txt prT (Ex.eqv_same ea)).trans K.2⟩,hb⟩
theorem wkB_any (w:World)(h:Env9 w):Calls Tryz.prog 13 #[.string ⟨wkB.toArray⟩] w fun r w'=>∃a':Ex,r=.returned (.tuple #[a'.h.v,.int .i64 110,.int .i64 6])∧Below w.heap.size w w':=by
 have K:=wk_b;have P:=ppExpr_top ⟨wkB.toArray⟩ w h;change Calls _ _ _ _ (PTop w (rsX wkB) .no (VX w.heap.size))at P;generalize rsX wkB=R at *;refine P.mono ?_;rintro r w' ⟨v,rfl,⟨a',rfl,xa,ea⟩,hb⟩;exact⟨a',by rw[K.1,K.2],hb⟩
structure FacP (p:Pr):Prop where
 tk:p.ticks=5
 dn:p.ds.n=2
 sn:p.ss.n=2
 es:(p.s 0).h.es.n=1
 rg:(p.d 0).rg=true
 fl:(p.d 0).lo.h.fl=13832806255468478464
 ln:(p.d 1).len=3
 lo:(p.s 1).h.lo = -1
theorem wkC_any (w:World)(h:Env9 w):Calls Tryz.prog 9 #[.string ⟨wkC.toArray⟩] w fun r w'=>∃p':Pr,r=.returned (.tuple #[p'.v,.int .i64 0,.int .i64 0])∧p'.In w'.heap.size w'∧FacP p'∧Below w.heap.size w w':=by
 have K:=wk_c;have P:=ppParse_any ⟨wkC.toArray⟩ w h;change Calls _ _ _ _ (PTop w (rsP wkC) noPr (VP w.heap.size))at P;generalize rsP wkC=R at *
 cases R with
 | no c p=>cases K
 | ok p s=>
  simp only[ckC,decide_eq_true_eq]at K;obtain⟨k1,k2,k3,k4,k5,k6,k7,k8⟩:=K;refine P.mono ?_;rintro r w' ⟨v,rfl,⟨p',rfl,xp,e1,⟨e2,e3⟩,⟨e4,e5⟩,⟨e6,e7⟩⟩,hb⟩;change p'.ticks=p.ticks at e1;change p'.ds.n=p.ds.n at e2;change p'.ss.n=p.ss.n at e6;have hI:p'.In w'.heap.size w':=⟨xp.1,DsIn.stay xp.2.1 (stay_up _ _) (Nat.le_refl _),SsIn.stay xp.2.2.1 (stay_up _ _) (Nat.le_refl _),SsIn.stay xp.2.2.2 (stay_up _ _) (Nat.le_refl _)⟩;have d0:=e3 0 (by omega);have d1:=e3 1 (by omega);have s0:=e7 0 (by omega);have s1:=e7 1 (by omega);have t0:=St.same_iff.1 (St.eqv_same s0);have t1:=St.same_iff.1 (St.eqv_same s1);have l0:=Ex.same_iff.1 (Ex.eqv_same d0.2.1);exact⟨p',rfl,hI,⟨e1.trans k1,e2.trans k2,e6.trans k3,t0.1.2.2.2.2.2.trans k4,d0.1.2.2.2.2.2.trans k5,l0.2.2.2.1.trans k6,d1.1.2.2.2.2.1.trans k7,t1.1.2.2.1.trans k8⟩,hb⟩
theorem works11_any (w:World)(hE:Env9 w)(hS:SgOk w):Calls Tryz.prog 7 #[] w fun r w'=>r=.returned (.bool true)∧Below w.heap.size w w':=by
 have HE:=Hj hE;have HS:=Hj hS;have PA:=Hj wkA_any;have PB:=Hj wkB_any;have PC:=Hj wkC_any;clear hE hS;go_enter Tryz.func7,Tryz.ntmps7;go_wp2_with fail;refine(PA.out w HE.out).mono ?_;rintro r w1 ⟨a',rfl,xa,fa,b1⟩;have BLb:=bx_bel (Below.refl w1.heap.size w1) (Nat.le_refl _) (xO a'.h);have HXA:=Hj ((xa.bel BLb).out);have HG1:Hid ((bx w1 (xO a'.h)).heap[w1.heap.size]? = some (xO a'.h)):=bx_new w1 _;have B1:=Hj (bel_trans b1 BLb);have FA:=Hj fa;have HE1:=Hj (HE.out.below B1.out);clear xa fa b1 BLb;unfold EH.v;go_upto_region 2 with fail;rw[bx_x];change (Code.region 2 _ _).wp _ _ _ (bx w1 (xO a'.h));generalize w1.heap.size=ga at *;generalize bx w1 (xO a'.h)=w2 at *;go_wp2_with fail;refine(PB.out w2 HE1.out).mono ?_;rintro r w3 ⟨b',rfl,b3⟩;have B3:=Hj (bel_trans b3 (bx_bel (Below.refl w3.heap.size w3) (Nat.le_refl _) (xO b'.h)));have HE3:=Hj (HE1.out.below B3.out);clear b3;unfold EH.v;go_upto_region 3 with fail;rw[bx_x];change (Code.region 3 _ _).wp _ _ _ (bx w3 (xO b'.h));generalize w3.heap.size=gb at *;generalize bx w3 (xO b'.h)=w4 at *;go_wp2_with fail;refine(PC.out w4 HE3.out).mono ?_;rintro r w5 ⟨p',rfl,hI,fp,b5⟩;have BLp:=bx_bel (Below.refl w5.heap.size w5) (Nat.le_refl _) (pO p')
 have B5:=Hj (bel_trans B3.out (bel_trans b5 BLp));have HP:=Hj (hI.below BLp (Nat.le_refl _));have HGp:Hid ((bx w5 (pO p')).heap[w5.heap.size]? = some (pO p')):=bx_new w5 _;have GA:=Hj (kept_obj B5.out HG1.out);have HXA5:=Hj (HXA.out.below B5.out (Nat.le_refl _));have HS5:=Hj ((HS.out.below B1.out).below B5.out);have HE5:=Hj (HE1.out.below B5.out);have BB:=Hj (bel_trans B1.out B5.out);have HSZ:=Hj B5.out.size;clear hI b5 BLp HG1 HXA B1 B3 HE1 HE3 HE HS PA PB PC;unfold Pr.v;go_upto_region 4 with fail;rw[bx_p];change (Code.region 4 _ _).wp _ _ _ (bx w5 (pO p'));generalize w5.heap.size=gp_ at *;generalize bx w5 (pO p')=W at *;obtain⟨p1,p2,p3,p4⟩:=p_cells HGp.out;obtain⟨x0,x1,x2,x3,x4,x5,x6⟩:=x_cells GA.out;obtain⟨bd,od,hbd,hdB,DD⟩:=ds_row HP.out.2.1 (by rw[fp.dn];decide);obtain⟨bs,os,hbs,hsB,SS⟩:=ss_row HP.out.2.2.2 (by rw[fp.sn];decide);have D0:=DD 0 (by rw[fp.dn];decide);have D1:=DD 1 (by rw[fp.dn];decide);have S0:=SS 0 (by rw[fp.sn];decide);have S1:=SS 1 (by rw[fp.sn];decide);rw[FA.out.1]at x0;rw[FA.out.2.1]at x1;rw[FA.out.2.2.1]at x6;rw[hbd,fp.dn]at p2;rw[hbs,fp.sn]at p4;rw[fp.tk]at p1;have d5:=D0.c5;rw[fp.rg]at d5;have d10:=D0.c10;rw[fp.fl]at d10;have d4:=D1.c4;rw[fp.ln]at d4;have s14:=S0.c14;rw[fp.es]at s14
 have s11:=S1.c11;rw[fp.lo]at s11;simp only[Nat.zero_mul,Nat.add_zero,Nat.one_mul]at d5 d10 d4 s14 s11;have T:=tText_any a' w2.heap.size W HXA5.out HSZ.out HE5.out.env HS5.out (by rw[FA.out.2.2.2];decide);unfold EH.v at T;rw[FA.out.1,FA.out.2.1,FA.out.2.2.1,FA.out.2.2.2]at T;have TT:=Hj T;have HF:=Hj fp;have QQ:=Hj (And.intro p1 (And.intro p2 (And.intro p4 (And.intro d5 (And.intro d10 (And.intro d4 s11))))));clear T;clear D0 D1 S0 S1 DD SS hbd hbs fp;go_wp2_with fail;refine TT.out.mono ?_;rintro r w6 ⟨rfl,b6⟩;clear p1 p2 p3 p4 x0 x1 x2 x3 x4 x5 x6 d5 d10 d4 s14 s11 TT;have cc:∀(p:Addr) (v:Value),W.cell? p=some v→w6.cell? p=some v:=fun p v h=>(b6.cell (World.block_lt_of_cell? _ _ h)).trans h;have p1:=cc _ _ QQ.out.1;have p2:=cc _ _ QQ.out.2.1;have p4:=cc _ _ QQ.out.2.2.1;have d5:=cc _ _ QQ.out.2.2.2.1;have d10:=cc _ _ QQ.out.2.2.2.2.1;have d4:=cc _ _ QQ.out.2.2.2.2.2.1;have s11:=cc _ _ QQ.out.2.2.2.2.2.2;have BB6:=Hj (bel_trans BB.out b6);clear cc b6 QQ BB;unfold wkT;go_wp2_with fail;go_ret;exact⟨rfl,BB6.out⟩
def tkAt (l:List Tk)(i:Nat):Tk:=l.getD i noT
theorem tksC_at {l:List Tk}{i j:Nat}{v:Value}(hi:i<l.length)(hv:(tkCs (tkAt l i))[j]? = some v):(tksC l)[i*5+j]? = some v:=by
 induction l generalizing i with
 | nil=>simp at hi
 | cons t r ih=>
  have hj:j<5:=(List.getElem?_eq_some_iff.1 hv).1;show(tkCs t++tksC r)[i*5+j]? = some v
  cases i with
  | zero=>rw[List.getElem?_append_left (by show 0*5+j<5;omega),Nat.zero_mul,Nat.zero_add];exact hv
  | succ i=>
   rw[List.getElem?_append_right (by show 5≤_;omega),show(i+1)*5+j-(tkCs t).length=i*5+j by show(i+1)*5+j-5=_;omega];exact ih (by simpa using hi) hv
theorem good_at {l:List Tk}(h:Good l):∀i,i<l.length→Good (l.drop i):=by
 induction l with
 | nil=>exact h.elim
 | cons t r ih=>
  intro i hi
  cases i with
  | zero=>exact h
  | succ i=>
   rcases h with⟨e, -⟩|⟨-,h⟩
   ·subst e;simp at hi
   ·exact ih h i (by simpa using hi)
theorem drop_hd (l:List Tk)(i:Nat):(l.drop i).headD noT=tkAt l i:=by
 rw[tkAt,List.getD_eq_getElem?_getD,List.headD_eq_head?_getD,List.head?_drop]
theorem hd_at {l:List Tk}(h:Good l){i:Nat}(hi:i<l.length):Hd (tkAt l i):=by rw[←drop_hd];exact(good_at h i hi).hd
structure RW (R T o c:Nat) (l:List Tk) (i:Nat) (e a n x:Int) (w:World):Prop where
 tr:T<R
 blk:Blk w R 74 #[.slice (some ⟨T,o,none⟩) l.length c,.int .i64 (i:Int),.int .i64 e,.int .i64 a,.int .i64 n,.int .i64 x]
 row:w.rangeAt T o (tksC l)
 lc:l.length≤c
 cm:c≤maxLen
 good:Good l
 hi:i<l.length
def Gh {α:Type}(r:Rs α)(l:List Tk)(i:Nat)(e a n x:Int):Prop:=
 match r with
 | .ok _ s=>e=0∧a=0∧n=s.ns∧x=s.nx∧s.ts=l.drop i∧s.ns≤200∧s.nx≤2000
 | .no c p=>e=c∧a=p∧c≠0
def U {α:Type}(R:Nat)(r:Rs α)(w:World):Prop:=∃T o c l i e a n x,RW R T o c l i e a n x w∧Gh r l i e a n x
theorem RW.fx {R T o c:Nat}{l:List Tk}{i:Nat}{e a n x:Int}{w w':World}{X:Nat→Prop}{B:Nat}(h:RW R T o c l i e a n x w)(hf:Fx X B w w')(hR:R<B)(hX:∀k,k≤R→¬X k):RW R T o c l i e a n x w':=
 ⟨h.tr,hf.blk h.blk hR (hX R (Nat.le_refl _)),rangeAt_blk h.row (hf.block T (Nat.lt_trans h.tr hR) (hX T (Nat.le_of_lt h.tr))),h.lc,h.cm,h.good,h.hi⟩
theorem RW.lt {R T o c:Nat}{l:List Tk}{i:Nat}{e a n x:Int}{w:World}(h:RW R T o c l i e a n x w):R<w.heap.size:=h.blk.lt
theorem RW.below {R T o c:Nat}{l:List Tk}{i:Nat}{e a n x:Int}{w w':World}(h:RW R T o c l i e a n x w)(hb:Below w.heap.size w w'):RW R T o c l i e a n x w':=h.fx (Fx.of (X:=fun _=>False) hb) h.lt fun _ _ x=>x
theorem RW.nums {R T o c:Nat}{l:List Tk}{i i':Nat}{e a n x e' a' n' x':Int}{w w':World}(h:RW R T o c l i e a n x w)(hb:Blk w' R 74 #[.slice (some ⟨T,o,none⟩) l.length c,.int .i64 (i':Int),.int .i64 e',.int .i64 a',.int .i64 n',.int .i64 x'])(hf:Fx (On R) w.heap.size w w')(hi:i'<l.length):RW R T o c l i' e' a' n' x' w':=
 ⟨h.tr,hb,rangeAt_blk h.row (hf.block T (Nat.lt_trans h.tr h.lt) (fun(q:T=R)=>Nat.ne_of_lt h.tr q)),h.lc,h.cm,h.good,hi⟩
theorem U.lt {α:Type}{R:Nat}{r:Rs α}{w:World}(h:U R r w):R<w.heap.size:=by
 obtain⟨T,o,c,l,i,e,a,n,x,H, -⟩:=h;exact H.lt
theorem U.fx {α:Type}{R:Nat}{r:Rs α}{w w':World}{X:Nat→Prop}{B:Nat}(h:U R r w)(hf:Fx X B w w')(hR:R<B)(hX:∀k,k≤R→¬X k):U R r w':=by
 obtain⟨T,o,c,l,i,e,a,n,x,H,g⟩:=h;exact⟨T,o,c,l,i,e,a,n,x,H.fx hf hR hX,g⟩
theorem U.below {α:Type}{R:Nat}{r:Rs α}{w w':World}(h:U R r w)(hb:Below w.heap.size w w'):U R r w':=h.fx (Fx.of (X:=fun _=>False) hb) h.lt fun _ _ x=>x
theorem U.good {α:Type}{R:Nat}{a:α}{s:PS}{w:World}(h:U R (.ok a s) w):Good s.ts:=by
 obtain⟨T,o,c,l,i,e,a,n,x,H, -, -, -, -,g, -⟩:=h;rw[g];exact good_at H.good i H.hi
def Rs.st {α:Type}:Rs α→Rs Unit
 | .ok _ s=>.ok () s
 | .no c p=>.no c p
theorem U.of {α β:Type}{R:Nat}{r:Rs α}{q:Rs β}{w:World}(h:U R r w)(e:r.st=q.st):U R q w:=by
 obtain⟨T,o,c,l,i,e',a,n,x,H,g⟩:=h;refine⟨T,o,c,l,i,e',a,n,x,H,?_⟩
 cases r with
 | ok a s=>
  cases q with
  | ok b s'=>cases e;exact g
  | no c p=>cases e
 | no c p=>
  cases q with
  | ok b s'=>cases e
  | no c' p'=>cases e;exact g
def zT:Obj:=.cells #[.int .u8 0,.int .i64 0,.string ⟨#[]⟩,.int .i32 0,.int .u64 0] 62
theorem rrtok_w (R T o c:Nat)(l:List Tk)(i:Nat)(e a n x:Int)(w:World)(h:RW R T o c l i e a n x w):Calls Tryz.prog 35 #[.pointer (some ⟨R,0,none⟩)] w fun r w'=>r=.returned (tkAt l i).v∧Below w.heap.size w w':=by
 have r0:w.cell? ⟨R,0,none⟩=some (.slice (some ⟨T,o,none⟩) l.length c):=h.blk.cell 0;have r1:w.cell? ⟨R,1,none⟩=some (.int .i64 (i:Int)):=h.blk.cell 1
 have g:∀j v,(tkCs (tkAt l i))[j]? = some v→w.cell? ⟨T,o+i*5+j,none⟩=some v:=fun j v hv=>by
  have:=h.row (i*5+j) v (tksC_at h.hi hv);rw[←Nat.add_assoc]at this;exact this
 have c0:w.cell? ⟨T,o+i*5,none⟩=some (.int .u8 (tkAt l i).kd):=g 0 _ rfl;have c1:w.cell? ⟨T,o+i*5+1,none⟩=some (.int .i64 (tkAt l i).ps):=g 1 _ rfl;have c2:w.cell? ⟨T,o+i*5+2,none⟩=some (.string ⟨(tkAt l i).tx.toArray⟩):=g 2 _ rfl;have c3:w.cell? ⟨T,o+i*5+3,none⟩=some (.int .i32 (tkAt l i).nn):=g 3 _ rfl;have c4:w.cell? ⟨T,o+i*5+4,none⟩=some (.int .u64 (tkAt l i).ff):=g 4 _ rfl;have hi:=h.hi;have lR:=h.lt;have lT:T<w.heap.size:=Nat.lt_trans h.tr h.lt;generalize tkAt l i=t at *;clear g h;generalize l.length=m at *;go_enter Tryz.func35,Tryz.ntmps35;have HST:Hid (∀p v,p.block<w.heap.size→w.cell? p=some v→((w.alloc zT).drew).cell? p=some v):=fun p v hp hv=>(bel_same (bel_drew (bel_one w zT)) (Nat.le_refl _) p hp).trans hv;go_wp2_with fail;have NB:Blk ((w.alloc zT).drew) w.heap.size 62 #[.int .u8 0,.int .i64 0,.string ⟨#[]⟩,.int .i32 0,.int .u64 0]:=Blk.drew (Blk.new w _ _);have HNB:=Hj NB;have HB:Hid (Below w.heap.size w ((w.alloc zT).drew)):=bel_drew (bel_one w zT);have HS0:=And.intro (HST.out _ _ lR r0) (And.intro (HST.out _ _ lR r1) (And.intro (HST.out _ _ lT c0) (And.intro (HST.out _ _ lT c1) (And.intro (HST.out _ _ lT c2) (And.intro (HST.out _ _ lT c3) (HST.out _ _ lT c4))))))
 clear r0 r1 c0 c1 c2 c3 c4 HST NB;change Code.wp _ _ _ _ (w.alloc zT);refine region_tree (S:=fun w'=>w'.cell? ⟨R,0,none⟩=some (.slice (some ⟨T,o,none⟩) m c)∧w'.cell? ⟨R,1,none⟩=some (.int .i64 (i:Int))∧w'.cell? ⟨T,o+i*5,none⟩=some (.int .u8 t.kd)∧w'.cell? ⟨T,o+i*5+1,none⟩=some (.int .i64 t.ps)∧w'.cell? ⟨T,o+i*5+2,none⟩=some (.string ⟨t.tx.toArray⟩)∧w'.cell? ⟨T,o+i*5+3,none⟩=some (.int .i32 t.nn)∧w'.cell? ⟨T,o+i*5+4,none⟩=some (.int .u64 t.ff)) _ (.take 0 (.take 1 (.take 2 (.take 3 (.take 4 (.take 5 (.take 6 (.take 7 (.take 8 (.take 9 (.act 10 .done))))))))))) (by kernel_rfl) (by kernel_rfl) rfl (by kernel_rfl) (by kernel_rfl) (fun _ _ d _ _ h=>by cases d<;>exact h) HS0 ?_;generalize (w.alloc zT).drew=w1 at *
 iterate 10
  refine WalkT.take (v:=?_) rfl (by rfl) ?_ ?_;rotate_left
  ·(intro w' hSw;obtain⟨r0,r1,c0,c1,c2,c3,c4⟩:=hSw;go_simp<;>with_reducible rfl)
  try simp only[Act.put,List.setIfInBounds_toArray,List.set_cons_zero,List.set_cons_succ]
 have OT:Hid (∀p v,p.block<w.heap.size→w1.cell? p=some v→(w1.setRow w.heap.size t.vs).cell? p=some v):=fun p v hp hv=>(World.cell?_of_block (a:=p) (setRow_other w1 w.heap.size p.block t.vs (Nat.ne_of_lt hp))).trans hv;refine WalkT.act rfl (by rfl) (fun K' hK=>?_);refine wp_store_row 62 _ _ rfl w.heap.size t.vs rfl rfl 62 _ HNB.out (by kernel_rfl) rfl (by simp[Tk.vs,Value.oneCell']) ?_;obtain⟨r0,r1,c0,c1,c2,c3,c4⟩:=HS0;refine hK.out _ _ ⟨OT.out _ _ lR r0,OT.out _ _ lR r1,OT.out _ _ lT c0,OT.out _ _ lT c1,OT.out _ _ lT c2,OT.out _ _ lT c3,OT.out _ _ lT c4⟩ ?_;clear hK K' r0 r1 c0 c1 c2 c3 c4 OT;try simp only[Act.put]
 refine WalkT.done ?_;go_wp2_with fail;exact bodyPost_ret (rs_tok rfl _ _ w.heap.size t rfl (HNB.out.rowS _)) rfl ⟨rfl,HB.out.trans (((wr1_row w1 w.heap.size t.vs).1.mono HB.out.size (fun _ _ x=>x)).bel (fun k hk (x:k=w.heap.size)=>Nat.ne_of_lt hk x))⟩
end Go.Proofs.YthmlhkllbichgaaGreatDoor
