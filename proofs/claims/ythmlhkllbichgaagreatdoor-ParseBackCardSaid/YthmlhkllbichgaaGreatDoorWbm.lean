/-
  ParseBack holds, tied to the program's text. (part 39 of 41) Conditions: none beside what the card ties.
-/
import Derived.Test.YthmlhkllbichgaaGreatDoorWbl
import Derived.Test.YthmlhkllbichgaaGreatDoorWao
namespace Go.Proofs.YthmlhkllbichgaaGreatDoor
set_option maxHeartbeats 16000000
open Go.RowKit
set_option maxRecDepth 100000
def bndT (a c:Ex):List UInt8:=[32,105,110,32,91]++a.txt prT++[44,32]++c.txt prT++[93]
theorem boxes2 (w:World)(o o':Obj):(bx (bx w o) o').heap[w.heap.size]? = some o∧(bx (bx w o) o').heap[w.heap.size+1]? = some o'∧(bx (bx w o) o').heap.size=w.heap.size+2:=
 ⟨(bx_old _ _ (by rw[bx_size];omega)).trans (bx_new _ _),by have:=bx_new (bx w o) o';rwa [bx_size]at this,by rw[bx_size,bx_size]⟩
theorem wBnd_any (B b:Nat)(p q:Ex)(w:World)(hI:p.In B w)(hJ:q.In B w)(hE:En B w)(hB:B≤w.heap.size):Wrt B b 124 #[p.h.v,q.h.v] (bndT p q) w:=by
 intro bs d hW hl
 unfold bndT at hl ⊢
 obtain⟨g0,g1,z2⟩:=boxes2 w (xO p.h) (xO q.h)
 have FX:=Hj (((Fr.refl b hB).bx (xO p.h)).bx (xO q.h))
 have HW:=Hj ((hW.bx (xO p.h)).bx (xO q.h))
 have HI:=Hj hI
 have HJ:=Hj hJ
 have HE:=Hj hE
 have HNE:Hid (w.heap.size≠b∧w.heap.size+1≠b):=by have:=hW.lt;show _∧_;omega
 have HX:=Hj (And.intro g0 g1)
 have hz:(bx w (xO p.h)).heap.size=w.heap.size+1:=bx_size _ _
 have hP:=fun bs w hI hE hB h hl=>okX_any B p b w hI hE hB bs d h hl
 have hQ:=fun bs w hI hE hB h hl=>okX_any B q b w hI hE hB bs d h hl
 generalize p.txt prT=P at *
 generalize q.txt prT=Q at *
 have S0:=Hj fun w h hB=>wString_any B b bs [32,105,110,32,91] d w h (by simp only[List.length_append,List.length_cons,List.length_nil]at hl ⊢;omega) hB
 have S1:=Hj fun w hI hE hB h=>hP (bs++[32,105,110,32,91]) w hI hE hB h (by simp only[List.length_append,List.length_cons,List.length_nil]at hl ⊢;omega)
 have S2:=Hj fun w h hB=>wString_any B b (bs++[32,105,110,32,91]++P) [44,32] d w h (by simp only[List.length_append,List.length_cons,List.length_nil]at hl ⊢;omega) hB
 have S3:=Hj fun w hI hE hB h=>hQ (bs++[32,105,110,32,91]++P++[44,32]) w hI hE hB h (by simp only[List.length_append,List.length_cons,List.length_nil]at hl ⊢;omega)
 have S4:=Hj fun w h hB=>wString_d B b (bs++[32,105,110,32,91]++P++[44,32]++Q) [93] d w h (by simp only[List.length_append,List.length_cons,List.length_nil]at hl ⊢;omega) hB
 clear hl hI hJ hE hB hW hP hQ g0 g1 z2
 show Calls Tryz.prog 124 #[.pointer (some ⟨b,0,none⟩),.agg #[.int .u8 p.h.op,.int .i64 p.h.ps,.bool p.h.bo,.int .i32 p.h.it,.int .u64 p.h.fl,.string ⟨p.h.nm.toArray⟩,.slice p.h.s.ao p.h.s.n p.h.s.c],.agg #[.int .u8 q.h.op,.int .i64 q.h.ps,.bool q.h.bo,.int .i32 q.h.it,.int .u64 q.h.fl,.string ⟨q.h.nm.toArray⟩,.slice q.h.s.ao q.h.s.n q.h.s.c]] w _
 go_enter_defers Tryz.func124,Tryz.ntmps124
 go_upto_region 1 with fail
 rw[bx_x,bx_x]
 go_wp2_with fail
 refine(S0.out _ HW.out FX.out.size).mono ?_
 rintro r w1 ⟨rfl,hw1,hf1⟩
 have W1:=Hj hw1
 have F1:=Hj (FX.out.trans hf1)
 have hx0:=hf1.x HX.out.1 HNE.out.1
 have hx1:=hf1.x HX.out.2 HNE.out.2
 obtain⟨c0,c1,c2,c3,c4,c5,c6⟩:=x_cells hx0
 have X1:=Hj hx1
 clear hw1 hf1 hx0 hx1
 go_wp2_with fail
 refine(S1.out _ (HI.out.below F1.out.1 (Nat.le_refl _)) (HE.out.below F1.out.1 (Nat.le_refl _)) F1.out.size W1.out).mono ?_
 rintro r w2 ⟨rfl,hw2,hf2⟩
 have W2:=Hj hw2
 have F2:=Hj (F1.out.trans hf2)
 have X2:=Hj (hf2.x X1.out HNE.out.2)
 clear hw2 hf2 c0 c1 c2 c3 c4 c5 c6
 go_wp2_with fail
 refine(S2.out _ W2.out F2.out.size).mono ?_
 rintro r w3 ⟨rfl,hw3,hf3⟩
 have W3:=Hj hw3
 have F3:=Hj (F2.out.trans hf3)
 obtain⟨c0,c1,c2,c3,c4,c5,c6⟩:=x_cells (hf3.x X2.out HNE.out.2)
 clear hw3 hf3
 go_wp2_with fail
 refine(S3.out _ (HJ.out.below F3.out.1 (Nat.le_refl _)) (HE.out.below F3.out.1 (Nat.le_refl _)) F3.out.size W3.out).mono ?_
 rintro r w4 ⟨rfl,hw4,hf4⟩
 have W4:=Hj hw4
 have F4:=Hj (F3.out.trans hf4)
 clear hw4 hf4 c0 c1 c2 c3 c4 c5 c6
 go_wp2_with fail
 refine leaves_cons (f:=77) (args:=#[.pointer (some ⟨b,0,none⟩),.string ⟨#[93]⟩]) (by simp) (by simp[go_sem]) ?_
 refine(S4.out _ W4.out F4.out.size).mono ?_
 rintro r u' w5 ⟨rfl,rfl,hw5,hf5⟩
 exact⟨.tuple #[],by simp[results,Tryz.results124,go_sem],rfl,by simpa using hw5,F4.out.trans hf5⟩
theorem De.In.lo {B:Nat}{w:World}{d:De}(h:d.In B w):d.lo.In B w:=h.2.1
theorem De.In.hi {B:Nat}{w:World}{d:De}(h:d.In B w):d.hi.In B w:=h.2.2
theorem De.txt_parts (p:De):p.txt prT=(if p.inp=true then[105,110,112,117,116,32] else[118,97,114,32])++p.nm++[58,32]++typT p.ty++(if 0<p.len then[91]++Lib.itoa p.len++[93] else[])++(if p.rg=true then bndT p.lo p.hi else[])++[59,10]:=rfl
theorem wDe111 (B b:Nat)(p:De)(h1:p.inp=true)(h2:0<p.len)(h3:p.rg=true)(w:World)(hI:p.In B w)(hE:En B w)(hB:B≤w.heap.size):Wrt B b 79 #[dcv p p.lo.h p.hi.h] (p.txt prT) w:=by
 intro bs d hW hl
 rw[De.txt_parts,h1,h3,if_pos h2]at hl ⊢
 have FX:=Hj ((Fr.refl b hB).bx (dO p p.lo.h p.hi.h))
 have HW:=Hj (hW.bx (dO p p.lo.h p.hi.h))
 have HI:=Hj hI
 have HE:=Hj hE
 have HNE:Hid (w.heap.size≠b):=by have:=hW.lt;show _≠_;omega
 have HX:=Hj (bx_new w (dO p p.lo.h p.hi.h))
 have T0:=Hj fun w=>typN_any p.ty w
 simp only[if_true]at hl ⊢
 have hok:=hI.1
 have i0:=hok.len0
 have i1:=hok.len1
 have hN:=fun bs w h hE hl hB=>wInt_any B b bs d p.len w h hE (by omega) (by omega) hl hB
 generalize Lib.itoa p.len=N at *
 have hR:=fun bs w hI hE hB h hl=>wBnd_any B b p.lo p.hi w (De.In.lo hI) (De.In.hi hI) hE hB bs d h hl
 generalize bndT p.lo p.hi=R at *
 generalize typT p.ty=T at *
 have S0:=Hj fun w h hB=>wString_any B b (bs) [105,110,112,117,116,32] d w h (by simp only[List.length_append,List.length_cons,List.length_nil]at hl ⊢;omega) hB
 have S1:=Hj fun w h hB=>wString_any B b (bs++[105,110,112,117,116,32]) p.nm d w h (by simp only[List.length_append,List.length_cons,List.length_nil]at hl ⊢;omega) hB
 have S2:=Hj fun w h hB=>wString_any B b (bs++[105,110,112,117,116,32]++p.nm) [58,32] d w h (by simp only[List.length_append,List.length_cons,List.length_nil]at hl ⊢;omega) hB
 have S3:=Hj fun w h hB=>wString_any B b (bs++[105,110,112,117,116,32]++p.nm++[58,32]) T d w h (by simp only[List.length_append,List.length_cons,List.length_nil]at hl ⊢;omega) hB
 have S4:=Hj fun w h hB=>wString_any B b (bs++[105,110,112,117,116,32]++p.nm++[58,32]++T) [91] d w h (by simp only[List.length_append,List.length_cons,List.length_nil]at hl ⊢;omega) hB
 have S5:=Hj fun w h hE hB=>hN (bs++[105,110,112,117,116,32]++p.nm++[58,32]++T++[91]) w h hE (by simp only[List.length_append,List.length_cons,List.length_nil]at hl ⊢;omega) hB
 have S6:=Hj fun w h hB=>wString_any B b (bs++[105,110,112,117,116,32]++p.nm++[58,32]++T++[91]++N) [93] d w h (by simp only[List.length_append,List.length_cons,List.length_nil]at hl ⊢;omega) hB
 have S7:=Hj fun w hI hE hB h=>hR (bs++[105,110,112,117,116,32]++p.nm++[58,32]++T++[91]++N++[93]) w hI hE hB h (by simp only[List.length_append,List.length_cons,List.length_nil]at hl ⊢;omega)
 have S8:=Hj fun w h hB=>wString_any B b (bs++[105,110,112,117,116,32]++p.nm++[58,32]++T++[91]++N++[93]++R) [59,10] d w h (by simp only[List.length_append,List.length_cons,List.length_nil]at hl ⊢;omega) hB
 have z0:(0:Int)<p.len:=h2
 clear hl hI hE hB hW hok i0 i1 hN hR
 have c1:=(d_cells HX.out).c1
 rw[h1]at c1
 have R3:=Hj h3
 clear h1 h2 h3
 show Calls Tryz.prog 79 #[.pointer (some ⟨b,0,none⟩),.agg #[.int .i64 p.ps,.bool p.inp,.string ⟨p.nm.toArray⟩,.int .u8 p.ty,.int .i64 p.len,.bool p.rg,.int .u8 p.lo.h.op,.int .i64 p.lo.h.ps,.bool p.lo.h.bo,.int .i32 p.lo.h.it,.int .u64 p.lo.h.fl,.string ⟨p.lo.h.nm.toArray⟩,.slice p.lo.h.s.ao p.lo.h.s.n p.lo.h.s.c,.int .u8 p.hi.h.op,.int .i64 p.hi.h.ps,.bool p.hi.h.bo,.int .i32 p.hi.h.it,.int .u64 p.hi.h.fl,.string ⟨p.hi.h.nm.toArray⟩,.slice p.hi.h.s.ao p.hi.h.s.n p.hi.h.s.c]] w _
 go_enter Tryz.func79,Tryz.ntmps79
 go_upto_region 1 with fail
 rw[bx_d]
 go_wp2_with fail
 refine(S0.out _ HW.out FX.out.size).mono ?_
 rintro r w1 ⟨rfl,hw1,hf1⟩
 have W1:=Hj hw1
 have F1:=Hj (FX.out.trans hf1)
 have X1:=Hj (hf1.d HX.out HNE.out)
 clear hw1 hf1
 have XC:=d_cells X1.out
 have c2:=XC.c2
 clear XC
 go_upto_region 4 with fail
 go_still_tail 5,(by kernel_rfl)
 change wpList _ _ _ _ _ w1.drew
 have D1:=Hj (W1.out.drew)
 have E1:=Hj F1.out.drew
 have Y1:Hid (w1.drew.heap[w.heap.size]? = some (dO p p.lo.h p.hi.h)):=X1.out
 generalize w1.drew=v1 at *
 go_wp2_with fail
 refine(S1.out _ D1.out E1.out.size).mono ?_
 rintro r w2 ⟨rfl,hw2,hf2⟩
 have W2:=Hj hw2
 have F2:=Hj (E1.out.trans hf2)
 have X2:=Hj (hf2.d Y1.out HNE.out)
 clear hw2 hf2
 go_wp2_with fail
 refine(S2.out _ W2.out F2.out.size).mono ?_
 rintro r w3 ⟨rfl,hw3,hf3⟩
 have W3:=Hj hw3
 have F3:=Hj (F2.out.trans hf3)
 have X3:=Hj (hf3.d X2.out HNE.out)
 clear hw3 hf3
 have XC:=d_cells X3.out
 have c3:=XC.c3
 clear XC
 go_upto_region 6 with fail
 refine wp_region_still_tail 6 (by kernel_rfl) (by kernel_rfl) ?_
 simp only[List.take_succ_cons,List.take_zero,List.drop_succ_cons,List.drop_zero]
 repeat still_step
 still_call (T0.out _)
 repeat still_step
 refine wpStill_nil ?_
 change wpList _ _ _ _ _ w3.drew
 have D3:=Hj (W3.out.drew)
 have E3:=Hj F3.out.drew
 have Y3:Hid (w3.drew.heap[w.heap.size]? = some (dO p p.lo.h p.hi.h)):=X3.out
 generalize w3.drew=v3 at *
 go_wp2_with fail
 refine(S3.out _ D3.out E3.out.size).mono ?_
 rintro r w4 ⟨rfl,hw4,hf4⟩
 have W4:=Hj hw4
 have F4:=Hj (E3.out.trans hf4)
 have X4:=Hj (hf4.d Y3.out HNE.out)
 clear hw4 hf4
 have XC:=d_cells X4.out
 have c4:=XC.c4
 have c5:=XC.c5
 rw[R3.out]at c5
 clear XC
 go_wp2_with fail
 refine(S4.out _ W4.out F4.out.size).mono ?_
 rintro r w5 ⟨rfl,hw5,hf5⟩
 have W5:=Hj hw5
 have F5:=Hj (F4.out.trans hf5)
 have X5:=Hj (hf5.d X4.out HNE.out)
 clear hw5 hf5
 have XC:=d_cells X5.out
 have c4:=XC.c4
 clear XC
 go_wp2_with fail
 refine(S5.out _ W5.out (HE.out.below F5.out.1 (Nat.le_refl _)) F5.out.size).mono ?_
 rintro r w6 ⟨rfl,hw6,hf6⟩
 have W6:=Hj hw6
 have F6:=Hj (F5.out.trans hf6)
 have X6:=Hj (hf6.d X5.out HNE.out)
 clear hw6 hf6
 go_wp2_with fail
 refine(S6.out _ W6.out F6.out.size).mono ?_
 rintro r w7 ⟨rfl,hw7,hf7⟩
 have W7:=Hj hw7
 have F7:=Hj (F6.out.trans hf7)
 have X7:=Hj (hf7.d X6.out HNE.out)
 clear hw7 hf7
 have XC:=d_cells X7.out
 have c5:=XC.c5
 have c6:=XC.c6
 have c7:=XC.c7
 have c8:=XC.c8
 have c9:=XC.c9
 have c10:=XC.c10
 have c11:=XC.c11
 have c12:=XC.c12
 have c13:=XC.c13
 have c14:=XC.c14
 have c15:=XC.c15
 have c16:=XC.c16
 have c17:=XC.c17
 have c18:=XC.c18
 have c19:=XC.c19
 rw[R3.out]at c5
 clear XC
 go_wp2_with fail
 refine(S7.out _ (HI.out.below F7.out.1 (Nat.le_refl _)) (HE.out.below F7.out.1 (Nat.le_refl _)) F7.out.size W7.out).mono ?_
 rintro r w8 ⟨rfl,hw8,hf8⟩
 have W8:=Hj hw8
 have F8:=Hj (F7.out.trans hf8)
 have X8:=Hj (hf8.d X7.out HNE.out)
 clear hw8 hf8
 go_wp2_with fail
 refine(S8.out _ W8.out F8.out.size).mono ?_
 rintro r w9 ⟨rfl,hw9,hf9⟩
 have W9:=Hj hw9
 have F9:=Hj (F8.out.trans hf9)
 have X9:=Hj (hf9.d X8.out HNE.out)
 clear hw9 hf9
 go_wp2_with fail
 go_end0
 exact⟨rfl,by simpa using W9.out,F9.out⟩
theorem wDe110 (B b:Nat)(p:De)(h1:p.inp=true)(h2:0<p.len)(h3:p.rg=false)(w:World)(hI:p.In B w)(hE:En B w)(hB:B≤w.heap.size):Wrt B b 79 #[dcv p p.lo.h p.hi.h] (p.txt prT) w:=by
 intro bs d hW hl
 rw[De.txt_parts,h1,h3,if_pos h2]at hl ⊢
 have FX:=Hj ((Fr.refl b hB).bx (dO p p.lo.h p.hi.h))
 have HW:=Hj (hW.bx (dO p p.lo.h p.hi.h))
 have HI:=Hj hI
 have HE:=Hj hE
 have HNE:Hid (w.heap.size≠b):=by have:=hW.lt;show _≠_;omega
 have HX:=Hj (bx_new w (dO p p.lo.h p.hi.h))
 have T0:=Hj fun w=>typN_any p.ty w
 simp only[if_true,Bool.false_eq_true,if_false,List.append_nil]at hl ⊢
 have hok:=hI.1
 have i0:=hok.len0
 have i1:=hok.len1
 have hN:=fun bs w h hE hl hB=>wInt_any B b bs d p.len w h hE (by omega) (by omega) hl hB
 generalize Lib.itoa p.len=N at *
 generalize typT p.ty=T at *
 have S0:=Hj fun w h hB=>wString_any B b (bs) [105,110,112,117,116,32] d w h (by simp only[List.length_append,List.length_cons,List.length_nil]at hl ⊢;omega) hB
 have S1:=Hj fun w h hB=>wString_any B b (bs++[105,110,112,117,116,32]) p.nm d w h (by simp only[List.length_append,List.length_cons,List.length_nil]at hl ⊢;omega) hB
 have S2:=Hj fun w h hB=>wString_any B b (bs++[105,110,112,117,116,32]++p.nm) [58,32] d w h (by simp only[List.length_append,List.length_cons,List.length_nil]at hl ⊢;omega) hB
 have S3:=Hj fun w h hB=>wString_any B b (bs++[105,110,112,117,116,32]++p.nm++[58,32]) T d w h (by simp only[List.length_append,List.length_cons,List.length_nil]at hl ⊢;omega) hB
 have S4:=Hj fun w h hB=>wString_any B b (bs++[105,110,112,117,116,32]++p.nm++[58,32]++T) [91] d w h (by simp only[List.length_append,List.length_cons,List.length_nil]at hl ⊢;omega) hB
 have S5:=Hj fun w h hE hB=>hN (bs++[105,110,112,117,116,32]++p.nm++[58,32]++T++[91]) w h hE (by simp only[List.length_append,List.length_cons,List.length_nil]at hl ⊢;omega) hB
 have S6:=Hj fun w h hB=>wString_any B b (bs++[105,110,112,117,116,32]++p.nm++[58,32]++T++[91]++N) [93] d w h (by simp only[List.length_append,List.length_cons,List.length_nil]at hl ⊢;omega) hB
 have S7:=Hj fun w h hB=>wString_any B b (bs++[105,110,112,117,116,32]++p.nm++[58,32]++T++[91]++N++[93]) [59,10] d w h (by simp only[List.length_append,List.length_cons,List.length_nil]at hl ⊢;omega) hB
 have z0:(0:Int)<p.len:=h2
 clear hl hI hE hB hW hok i0 i1 hN
 have c1:=(d_cells HX.out).c1
 rw[h1]at c1
 have R3:=Hj h3
 clear h1 h2 h3
 show Calls Tryz.prog 79 #[.pointer (some ⟨b,0,none⟩),.agg #[.int .i64 p.ps,.bool p.inp,.string ⟨p.nm.toArray⟩,.int .u8 p.ty,.int .i64 p.len,.bool p.rg,.int .u8 p.lo.h.op,.int .i64 p.lo.h.ps,.bool p.lo.h.bo,.int .i32 p.lo.h.it,.int .u64 p.lo.h.fl,.string ⟨p.lo.h.nm.toArray⟩,.slice p.lo.h.s.ao p.lo.h.s.n p.lo.h.s.c,.int .u8 p.hi.h.op,.int .i64 p.hi.h.ps,.bool p.hi.h.bo,.int .i32 p.hi.h.it,.int .u64 p.hi.h.fl,.string ⟨p.hi.h.nm.toArray⟩,.slice p.hi.h.s.ao p.hi.h.s.n p.hi.h.s.c]] w _
 go_enter Tryz.func79,Tryz.ntmps79
 go_upto_region 1 with fail
 rw[bx_d]
 go_wp2_with fail
 refine(S0.out _ HW.out FX.out.size).mono ?_
 rintro r w1 ⟨rfl,hw1,hf1⟩
 have W1:=Hj hw1
 have F1:=Hj (FX.out.trans hf1)
 have X1:=Hj (hf1.d HX.out HNE.out)
 clear hw1 hf1
 have XC:=d_cells X1.out
 have c2:=XC.c2
 clear XC
 go_upto_region 4 with fail
 go_still_tail 5,(by kernel_rfl)
 change wpList _ _ _ _ _ w1.drew
 have D1:=Hj (W1.out.drew)
 have E1:=Hj F1.out.drew
 have Y1:Hid (w1.drew.heap[w.heap.size]? = some (dO p p.lo.h p.hi.h)):=X1.out
 generalize w1.drew=v1 at *
 go_wp2_with fail
 refine(S1.out _ D1.out E1.out.size).mono ?_
 rintro r w2 ⟨rfl,hw2,hf2⟩
 have W2:=Hj hw2
 have F2:=Hj (E1.out.trans hf2)
 have X2:=Hj (hf2.d Y1.out HNE.out)
 clear hw2 hf2
 go_wp2_with fail
 refine(S2.out _ W2.out F2.out.size).mono ?_
 rintro r w3 ⟨rfl,hw3,hf3⟩
 have W3:=Hj hw3
 have F3:=Hj (F2.out.trans hf3)
 have X3:=Hj (hf3.d X2.out HNE.out)
 clear hw3 hf3
 have XC:=d_cells X3.out
 have c3:=XC.c3
 clear XC
 go_upto_region 6 with fail
 refine wp_region_still_tail 6 (by kernel_rfl) (by kernel_rfl) ?_
 simp only[List.take_succ_cons,List.take_zero,List.drop_succ_cons,List.drop_zero]
 repeat still_step
 still_call (T0.out _)
 repeat still_step
 refine wpStill_nil ?_
 change wpList _ _ _ _ _ w3.drew
 have D3:=Hj (W3.out.drew)
 have E3:=Hj F3.out.drew
 have Y3:Hid (w3.drew.heap[w.heap.size]? = some (dO p p.lo.h p.hi.h)):=X3.out
 generalize w3.drew=v3 at *
 go_wp2_with fail
 refine(S3.out _ D3.out E3.out.size).mono ?_
 rintro r w4 ⟨rfl,hw4,hf4⟩
 have W4:=Hj hw4
 have F4:=Hj (E3.out.trans hf4)
 have X4:=Hj (hf4.d Y3.out HNE.out)
 clear hw4 hf4
 have XC:=d_cells X4.out
 have c4:=XC.c4
 have c5:=XC.c5
 rw[R3.out]at c5
 clear XC
 go_wp2_with fail
 refine(S4.out _ W4.out F4.out.size).mono ?_
 rintro r w5 ⟨rfl,hw5,hf5⟩
 have W5:=Hj hw5
 have F5:=Hj (F4.out.trans hf5)
 have X5:=Hj (hf5.d X4.out HNE.out)
 clear hw5 hf5
 have XC:=d_cells X5.out
 have c4:=XC.c4
 clear XC
 go_wp2_with fail
 refine(S5.out _ W5.out (HE.out.below F5.out.1 (Nat.le_refl _)) F5.out.size).mono ?_
 rintro r w6 ⟨rfl,hw6,hf6⟩
 have W6:=Hj hw6
 have F6:=Hj (F5.out.trans hf6)
 have X6:=Hj (hf6.d X5.out HNE.out)
 clear hw6 hf6
 go_wp2_with fail
 refine(S6.out _ W6.out F6.out.size).mono ?_
 rintro r w7 ⟨rfl,hw7,hf7⟩
 have W7:=Hj hw7
 have F7:=Hj (F6.out.trans hf7)
 have X7:=Hj (hf7.d X6.out HNE.out)
 clear hw7 hf7
 have XC:=d_cells X7.out
 have c5:=XC.c5
 rw[R3.out]at c5
 clear XC
 go_wp2_with fail
 refine(S7.out _ W7.out F7.out.size).mono ?_
 rintro r w8 ⟨rfl,hw8,hf8⟩
 have W8:=Hj hw8
 have F8:=Hj (F7.out.trans hf8)
 have X8:=Hj (hf8.d X7.out HNE.out)
 clear hw8 hf8
 go_wp2_with fail
 go_end0
 exact⟨rfl,by simpa using W8.out,F8.out⟩
theorem wDe101 (B b:Nat)(p:De)(h1:p.inp=true)(h2:¬0<p.len)(h3:p.rg=true)(w:World)(hI:p.In B w)(hE:En B w)(hB:B≤w.heap.size):Wrt B b 79 #[dcv p p.lo.h p.hi.h] (p.txt prT) w:=by
 intro bs d hW hl
 rw[De.txt_parts,h1,h3,if_neg h2]at hl ⊢
 have FX:=Hj ((Fr.refl b hB).bx (dO p p.lo.h p.hi.h))
 have HW:=Hj (hW.bx (dO p p.lo.h p.hi.h))
 have HI:=Hj hI
 have HE:=Hj hE
 have HNE:Hid (w.heap.size≠b):=by have:=hW.lt;show _≠_;omega
 have HX:=Hj (bx_new w (dO p p.lo.h p.hi.h))
 have T0:=Hj fun w=>typN_any p.ty w
 simp only[if_true,List.append_nil]at hl ⊢
 have hR:=fun bs w hI hE hB h hl=>wBnd_any B b p.lo p.hi w (De.In.lo hI) (De.In.hi hI) hE hB bs d h hl
 generalize bndT p.lo p.hi=R at *
 generalize typT p.ty=T at *
 have S0:=Hj fun w h hB=>wString_any B b (bs) [105,110,112,117,116,32] d w h (by simp only[List.length_append,List.length_cons,List.length_nil]at hl ⊢;omega) hB
 have S1:=Hj fun w h hB=>wString_any B b (bs++[105,110,112,117,116,32]) p.nm d w h (by simp only[List.length_append,List.length_cons,List.length_nil]at hl ⊢;omega) hB
 have S2:=Hj fun w h hB=>wString_any B b (bs++[105,110,112,117,116,32]++p.nm) [58,32] d w h (by simp only[List.length_append,List.length_cons,List.length_nil]at hl ⊢;omega) hB
 have S3:=Hj fun w h hB=>wString_any B b (bs++[105,110,112,117,116,32]++p.nm++[58,32]) T d w h (by simp only[List.length_append,List.length_cons,List.length_nil]at hl ⊢;omega) hB
 have S4:=Hj fun w hI hE hB h=>hR (bs++[105,110,112,117,116,32]++p.nm++[58,32]++T) w hI hE hB h (by simp only[List.length_append,List.length_cons,List.length_nil]at hl ⊢;omega)
 have S5:=Hj fun w h hB=>wString_any B b (bs++[105,110,112,117,116,32]++p.nm++[58,32]++T++R) [59,10] d w h (by simp only[List.length_append,List.length_cons,List.length_nil]at hl ⊢;omega) hB
 have z0:¬(0:Int)<p.len:=h2
 clear hl hI hE hB hW hR
 have c1:=(d_cells HX.out).c1
 rw[h1]at c1
 have R3:=Hj h3
 clear h1 h2 h3
 show Calls Tryz.prog 79 #[.pointer (some ⟨b,0,none⟩),.agg #[.int .i64 p.ps,.bool p.inp,.string ⟨p.nm.toArray⟩,.int .u8 p.ty,.int .i64 p.len,.bool p.rg,.int .u8 p.lo.h.op,.int .i64 p.lo.h.ps,.bool p.lo.h.bo,.int .i32 p.lo.h.it,.int .u64 p.lo.h.fl,.string ⟨p.lo.h.nm.toArray⟩,.slice p.lo.h.s.ao p.lo.h.s.n p.lo.h.s.c,.int .u8 p.hi.h.op,.int .i64 p.hi.h.ps,.bool p.hi.h.bo,.int .i32 p.hi.h.it,.int .u64 p.hi.h.fl,.string ⟨p.hi.h.nm.toArray⟩,.slice p.hi.h.s.ao p.hi.h.s.n p.hi.h.s.c]] w _
 go_enter Tryz.func79,Tryz.ntmps79
 go_upto_region 1 with fail
 rw[bx_d]
 go_wp2_with fail
 refine(S0.out _ HW.out FX.out.size).mono ?_
 rintro r w1 ⟨rfl,hw1,hf1⟩
 have W1:=Hj hw1
 have F1:=Hj (FX.out.trans hf1)
 have X1:=Hj (hf1.d HX.out HNE.out)
 clear hw1 hf1
 have XC:=d_cells X1.out
 have c2:=XC.c2
 clear XC
 go_upto_region 4 with fail
 go_still_tail 5,(by kernel_rfl)
 change wpList _ _ _ _ _ w1.drew
 have D1:=Hj (W1.out.drew)
 have E1:=Hj F1.out.drew
 have Y1:Hid (w1.drew.heap[w.heap.size]? = some (dO p p.lo.h p.hi.h)):=X1.out
 generalize w1.drew=v1 at *
 go_wp2_with fail
 refine(S1.out _ D1.out E1.out.size).mono ?_
 rintro r w2 ⟨rfl,hw2,hf2⟩
 have W2:=Hj hw2
 have F2:=Hj (E1.out.trans hf2)
 have X2:=Hj (hf2.d Y1.out HNE.out)
 clear hw2 hf2
 go_wp2_with fail
 refine(S2.out _ W2.out F2.out.size).mono ?_
 rintro r w3 ⟨rfl,hw3,hf3⟩
 have W3:=Hj hw3
 have F3:=Hj (F2.out.trans hf3)
 have X3:=Hj (hf3.d X2.out HNE.out)
 clear hw3 hf3
 have XC:=d_cells X3.out
 have c3:=XC.c3
 clear XC
 go_upto_region 6 with fail
 refine wp_region_still_tail 6 (by kernel_rfl) (by kernel_rfl) ?_
 simp only[List.take_succ_cons,List.take_zero,List.drop_succ_cons,List.drop_zero]
 repeat still_step
 still_call (T0.out _)
 repeat still_step
 refine wpStill_nil ?_
 change wpList _ _ _ _ _ w3.drew
 have D3:=Hj (W3.out.drew)
 have E3:=Hj F3.out.drew
 have Y3:Hid (w3.drew.heap[w.heap.size]? = some (dO p p.lo.h p.hi.h)):=X3.out
 generalize w3.drew=v3 at *
 go_wp2_with fail
 refine(S3.out _ D3.out E3.out.size).mono ?_
 rintro r w4 ⟨rfl,hw4,hf4⟩
 have W4:=Hj hw4
 have F4:=Hj (E3.out.trans hf4)
 have X4:=Hj (hf4.d Y3.out HNE.out)
 clear hw4 hf4
 have XC:=d_cells X4.out
 have c4:=XC.c4
 have c5:=XC.c5
 have c6:=XC.c6
 have c7:=XC.c7
 have c8:=XC.c8
 have c9:=XC.c9
 have c10:=XC.c10
 have c11:=XC.c11
 have c12:=XC.c12
 have c13:=XC.c13
 have c14:=XC.c14
 have c15:=XC.c15
 have c16:=XC.c16
 have c17:=XC.c17
 have c18:=XC.c18
 have c19:=XC.c19
 rw[R3.out]at c5
 clear XC
 go_wp2_with fail
 refine(S4.out _ (HI.out.below F4.out.1 (Nat.le_refl _)) (HE.out.below F4.out.1 (Nat.le_refl _)) F4.out.size W4.out).mono ?_
 rintro r w5 ⟨rfl,hw5,hf5⟩
 have W5:=Hj hw5
 have F5:=Hj (F4.out.trans hf5)
 have X5:=Hj (hf5.d X4.out HNE.out)
 clear hw5 hf5
 go_wp2_with fail
 refine(S5.out _ W5.out F5.out.size).mono ?_
 rintro r w6 ⟨rfl,hw6,hf6⟩
 have W6:=Hj hw6
 have F6:=Hj (F5.out.trans hf6)
 have X6:=Hj (hf6.d X5.out HNE.out)
 clear hw6 hf6
 go_wp2_with fail
 go_end0
 exact⟨rfl,by simpa using W6.out,F6.out⟩
theorem wDe100 (B b:Nat)(p:De)(h1:p.inp=true)(h2:¬0<p.len)(h3:p.rg=false)(w:World)(hI:p.In B w)(hE:En B w)(hB:B≤w.heap.size):Wrt B b 79 #[dcv p p.lo.h p.hi.h] (p.txt prT) w:=by
 intro bs d hW hl
 rw[De.txt_parts,h1,h3,if_neg h2]at hl ⊢
 have FX:=Hj ((Fr.refl b hB).bx (dO p p.lo.h p.hi.h))
 have HW:=Hj (hW.bx (dO p p.lo.h p.hi.h))
 have HI:=Hj hI
 have HE:=Hj hE
 have HNE:Hid (w.heap.size≠b):=by have:=hW.lt;show _≠_;omega
 have HX:=Hj (bx_new w (dO p p.lo.h p.hi.h))
 have T0:=Hj fun w=>typN_any p.ty w
 simp only[if_true,Bool.false_eq_true,if_false,List.append_nil]at hl ⊢
 generalize typT p.ty=T at *
 have S0:=Hj fun w h hB=>wString_any B b (bs) [105,110,112,117,116,32] d w h (by simp only[List.length_append,List.length_cons,List.length_nil]at hl ⊢;omega) hB
 have S1:=Hj fun w h hB=>wString_any B b (bs++[105,110,112,117,116,32]) p.nm d w h (by simp only[List.length_append,List.length_cons,List.length_nil]at hl ⊢;omega) hB
 have S2:=Hj fun w h hB=>wString_any B b (bs++[105,110,112,117,116,32]++p.nm) [58,32] d w h (by simp only[List.length_append,List.length_cons,List.length_nil]at hl ⊢;omega) hB
 have S3:=Hj fun w h hB=>wString_any B b (bs++[105,110,112,117,116,32]++p.nm++[58,32]) T d w h (by simp only[List.length_append,List.length_cons,List.length_nil]at hl ⊢;omega) hB
 have S4:=Hj fun w h hB=>wString_any B b (bs++[105,110,112,117,116,32]++p.nm++[58,32]++T) [59,10] d w h (by simp only[List.length_append,List.length_cons,List.length_nil]at hl ⊢;omega) hB
 have z0:¬(0:Int)<p.len:=h2
 clear hl hI hE hB hW
 have c1:=(d_cells HX.out).c1
 rw[h1]at c1
 have R3:=Hj h3
 clear h1 h2 h3
 show Calls Tryz.prog 79 #[.pointer (some ⟨b,0,none⟩),.agg #[.int .i64 p.ps,.bool p.inp,.string ⟨p.nm.toArray⟩,.int .u8 p.ty,.int .i64 p.len,.bool p.rg,.int .u8 p.lo.h.op,.int .i64 p.lo.h.ps,.bool p.lo.h.bo,.int .i32 p.lo.h.it,.int .u64 p.lo.h.fl,.string ⟨p.lo.h.nm.toArray⟩,.slice p.lo.h.s.ao p.lo.h.s.n p.lo.h.s.c,.int .u8 p.hi.h.op,.int .i64 p.hi.h.ps,.bool p.hi.h.bo,.int .i32 p.hi.h.it,.int .u64 p.hi.h.fl,.string ⟨p.hi.h.nm.toArray⟩,.slice p.hi.h.s.ao p.hi.h.s.n p.hi.h.s.c]] w _
 go_enter Tryz.func79,Tryz.ntmps79
 go_upto_region 1 with fail
 rw[bx_d]
 go_wp2_with fail
 refine(S0.out _ HW.out FX.out.size).mono ?_
 rintro r w1 ⟨rfl,hw1,hf1⟩
 have W1:=Hj hw1
 have F1:=Hj (FX.out.trans hf1)
 have X1:=Hj (hf1.d HX.out HNE.out)
 clear hw1 hf1
 have XC:=d_cells X1.out
 have c2:=XC.c2
 clear XC
 go_upto_region 4 with fail
 go_still_tail 5,(by kernel_rfl)
 change wpList _ _ _ _ _ w1.drew
 have D1:=Hj (W1.out.drew)
 have E1:=Hj F1.out.drew
 have Y1:Hid (w1.drew.heap[w.heap.size]? = some (dO p p.lo.h p.hi.h)):=X1.out
 generalize w1.drew=v1 at *
 go_wp2_with fail
 refine(S1.out _ D1.out E1.out.size).mono ?_
 rintro r w2 ⟨rfl,hw2,hf2⟩
 have W2:=Hj hw2
 have F2:=Hj (E1.out.trans hf2)
 have X2:=Hj (hf2.d Y1.out HNE.out)
 clear hw2 hf2
 go_wp2_with fail
 refine(S2.out _ W2.out F2.out.size).mono ?_
 rintro r w3 ⟨rfl,hw3,hf3⟩
 have W3:=Hj hw3
 have F3:=Hj (F2.out.trans hf3)
 have X3:=Hj (hf3.d X2.out HNE.out)
 clear hw3 hf3
 have XC:=d_cells X3.out
 have c3:=XC.c3
 clear XC
 go_upto_region 6 with fail
 refine wp_region_still_tail 6 (by kernel_rfl) (by kernel_rfl) ?_
 simp only[List.take_succ_cons,List.take_zero,List.drop_succ_cons,List.drop_zero]
 repeat still_step
 still_call (T0.out _)
 repeat still_step
 refine wpStill_nil ?_
 change wpList _ _ _ _ _ w3.drew
 have D3:=Hj (W3.out.drew)
 have E3:=Hj F3.out.drew
 have Y3:Hid (w3.drew.heap[w.heap.size]? = some (dO p p.lo.h p.hi.h)):=X3.out
 generalize w3.drew=v3 at *
 go_wp2_with fail
 refine(S3.out _ D3.out E3.out.size).mono ?_
 rintro r w4 ⟨rfl,hw4,hf4⟩
 have W4:=Hj hw4
 have F4:=Hj (E3.out.trans hf4)
 have X4:=Hj (hf4.d Y3.out HNE.out)
 clear hw4 hf4
 have XC:=d_cells X4.out
 have c4:=XC.c4
 have c5:=XC.c5
 rw[R3.out]at c5
 clear XC
 go_wp2_with fail
 refine(S4.out _ W4.out F4.out.size).mono ?_
 rintro r w5 ⟨rfl,hw5,hf5⟩
 have W5:=Hj hw5
 have F5:=Hj (F4.out.trans hf5)
 have X5:=Hj (hf5.d X4.out HNE.out)
 clear hw5 hf5
 go_wp2_with fail
 go_end0
 exact⟨rfl,by simpa using W5.out,F5.out⟩
theorem wDe011 (B b:Nat)(p:De)(h1:p.inp=false)(h2:0<p.len)(h3:p.rg=true)(w:World)(hI:p.In B w)(hE:En B w)(hB:B≤w.heap.size):Wrt B b 79 #[dcv p p.lo.h p.hi.h] (p.txt prT) w:=by
 intro bs d hW hl
 rw[De.txt_parts,h1,h3,if_pos h2]at hl ⊢
 have FX:=Hj ((Fr.refl b hB).bx (dO p p.lo.h p.hi.h))
 have HW:=Hj (hW.bx (dO p p.lo.h p.hi.h))
 have HI:=Hj hI
 have HE:=Hj hE
 have HNE:Hid (w.heap.size≠b):=by have:=hW.lt;show _≠_;omega
 have HX:=Hj (bx_new w (dO p p.lo.h p.hi.h))
 have T0:=Hj fun w=>typN_any p.ty w
 simp only[if_true,Bool.false_eq_true,if_false]at hl ⊢
 have hok:=hI.1
 have i0:=hok.len0
 have i1:=hok.len1
 have hN:=fun bs w h hE hl hB=>wInt_any B b bs d p.len w h hE (by omega) (by omega) hl hB
 generalize Lib.itoa p.len=N at *
 have hR:=fun bs w hI hE hB h hl=>wBnd_any B b p.lo p.hi w (De.In.lo hI) (De.In.hi hI) hE hB bs d h hl
 generalize bndT p.lo p.hi=R at *
 generalize typT p.ty=T at *
 have S0:=Hj fun w h hB=>wString_any B b (bs) [118,97,114,32] d w h (by simp only[List.length_append,List.length_cons,List.length_nil]at hl ⊢;omega) hB
 have S1:=Hj fun w h hB=>wString_any B b (bs++[118,97,114,32]) p.nm d w h (by simp only[List.length_append,List.length_cons,List.length_nil]at hl ⊢;omega) hB
 have S2:=Hj fun w h hB=>wString_any B b (bs++[118,97,114,32]++p.nm) [58,32] d w h (by simp only[List.length_append,List.length_cons,List.length_nil]at hl ⊢;omega) hB
 have S3:=Hj fun w h hB=>wString_any B b (bs++[118,97,114,32]++p.nm++[58,32]) T d w h (by simp only[List.length_append,List.length_cons,List.length_nil]at hl ⊢;omega) hB
 have S4:=Hj fun w h hB=>wString_any B b (bs++[118,97,114,32]++p.nm++[58,32]++T) [91] d w h (by simp only[List.length_append,List.length_cons,List.length_nil]at hl ⊢;omega) hB
 have S5:=Hj fun w h hE hB=>hN (bs++[118,97,114,32]++p.nm++[58,32]++T++[91]) w h hE (by simp only[List.length_append,List.length_cons,List.length_nil]at hl ⊢;omega) hB
 have S6:=Hj fun w h hB=>wString_any B b (bs++[118,97,114,32]++p.nm++[58,32]++T++[91]++N) [93] d w h (by simp only[List.length_append,List.length_cons,List.length_nil]at hl ⊢;omega) hB
 have S7:=Hj fun w hI hE hB h=>hR (bs++[118,97,114,32]++p.nm++[58,32]++T++[91]++N++[93]) w hI hE hB h (by simp only[List.length_append,List.length_cons,List.length_nil]at hl ⊢;omega)
 have S8:=Hj fun w h hB=>wString_any B b (bs++[118,97,114,32]++p.nm++[58,32]++T++[91]++N++[93]++R) [59,10] d w h (by simp only[List.length_append,List.length_cons,List.length_nil]at hl ⊢;omega) hB
 have z0:(0:Int)<p.len:=h2
 clear hl hI hE hB hW hok i0 i1 hN hR
 have c1:=(d_cells HX.out).c1
 rw[h1]at c1
 have R3:=Hj h3
 clear h1 h2 h3
 show Calls Tryz.prog 79 #[.pointer (some ⟨b,0,none⟩),.agg #[.int .i64 p.ps,.bool p.inp,.string ⟨p.nm.toArray⟩,.int .u8 p.ty,.int .i64 p.len,.bool p.rg,.int .u8 p.lo.h.op,.int .i64 p.lo.h.ps,.bool p.lo.h.bo,.int .i32 p.lo.h.it,.int .u64 p.lo.h.fl,.string ⟨p.lo.h.nm.toArray⟩,.slice p.lo.h.s.ao p.lo.h.s.n p.lo.h.s.c,.int .u8 p.hi.h.op,.int .i64 p.hi.h.ps,.bool p.hi.h.bo,.int .i32 p.hi.h.it,.int .u64 p.hi.h.fl,.string ⟨p.hi.h.nm.toArray⟩,.slice p.hi.h.s.ao p.hi.h.s.n p.hi.h.s.c]] w _
 go_enter Tryz.func79,Tryz.ntmps79
 go_upto_region 1 with fail
 rw[bx_d]
 go_wp2_with fail
 refine(S0.out _ HW.out FX.out.size).mono ?_
 rintro r w1 ⟨rfl,hw1,hf1⟩
 have W1:=Hj hw1
 have F1:=Hj (FX.out.trans hf1)
 have X1:=Hj (hf1.d HX.out HNE.out)
 clear hw1 hf1
 have XC:=d_cells X1.out
 have c2:=XC.c2
 clear XC
 go_upto_region 4 with fail
 go_still_tail 5,(by kernel_rfl)
 change wpList _ _ _ _ _ w1.drew
 have D1:=Hj (W1.out.drew)
 have E1:=Hj F1.out.drew
 have Y1:Hid (w1.drew.heap[w.heap.size]? = some (dO p p.lo.h p.hi.h)):=X1.out
 generalize w1.drew=v1 at *
 go_wp2_with fail
 refine(S1.out _ D1.out E1.out.size).mono ?_
 rintro r w2 ⟨rfl,hw2,hf2⟩
 have W2:=Hj hw2
 have F2:=Hj (E1.out.trans hf2)
 have X2:=Hj (hf2.d Y1.out HNE.out)
 clear hw2 hf2
 go_wp2_with fail
 refine(S2.out _ W2.out F2.out.size).mono ?_
 rintro r w3 ⟨rfl,hw3,hf3⟩
 have W3:=Hj hw3
 have F3:=Hj (F2.out.trans hf3)
 have X3:=Hj (hf3.d X2.out HNE.out)
 clear hw3 hf3
 have XC:=d_cells X3.out
 have c3:=XC.c3
 clear XC
 go_upto_region 6 with fail
 refine wp_region_still_tail 6 (by kernel_rfl) (by kernel_rfl) ?_
 simp only[List.take_succ_cons,List.take_zero,List.drop_succ_cons,List.drop_zero]
 repeat still_step
 still_call (T0.out _)
 repeat still_step
 refine wpStill_nil ?_
 change wpList _ _ _ _ _ w3.drew
 have D3:=Hj (W3.out.drew)
 have E3:=Hj F3.out.drew
 have Y3:Hid (w3.drew.heap[w.heap.size]? = some (dO p p.lo.h p.hi.h)):=X3.out
 generalize w3.drew=v3 at *
 go_wp2_with fail
 refine(S3.out _ D3.out E3.out.size).mono ?_
 rintro r w4 ⟨rfl,hw4,hf4⟩
 have W4:=Hj hw4
 have F4:=Hj (E3.out.trans hf4)
 have X4:=Hj (hf4.d Y3.out HNE.out)
 clear hw4 hf4
 have XC:=d_cells X4.out
 have c4:=XC.c4
 have c5:=XC.c5
 rw[R3.out]at c5
 clear XC
 go_wp2_with fail
 refine(S4.out _ W4.out F4.out.size).mono ?_
 rintro r w5 ⟨rfl,hw5,hf5⟩
 have W5:=Hj hw5
 have F5:=Hj (F4.out.trans hf5)
 have X5:=Hj (hf5.d X4.out HNE.out)
 clear hw5 hf5
 have XC:=d_cells X5.out
 have c4:=XC.c4
 clear XC
 go_wp2_with fail
 refine(S5.out _ W5.out (HE.out.below F5.out.1 (Nat.le_refl _)) F5.out.size).mono ?_
 rintro r w6 ⟨rfl,hw6,hf6⟩
 have W6:=Hj hw6
 have F6:=Hj (F5.out.trans hf6)
 have X6:=Hj (hf6.d X5.out HNE.out)
 clear hw6 hf6
 go_wp2_with fail
 refine(S6.out _ W6.out F6.out.size).mono ?_
 rintro r w7 ⟨rfl,hw7,hf7⟩
 have W7:=Hj hw7
 have F7:=Hj (F6.out.trans hf7)
 have X7:=Hj (hf7.d X6.out HNE.out)
 clear hw7 hf7
 have XC:=d_cells X7.out
 have c5:=XC.c5
 have c6:=XC.c6
 have c7:=XC.c7
 have c8:=XC.c8
 have c9:=XC.c9
 have c10:=XC.c10
 have c11:=XC.c11
 have c12:=XC.c12
 have c13:=XC.c13
 have c14:=XC.c14
 have c15:=XC.c15
 have c16:=XC.c16
 have c17:=XC.c17
 have c18:=XC.c18
 have c19:=XC.c19
 rw[R3.out]at c5
 clear XC
 go_wp2_with fail
 refine(S7.out _ (HI.out.below F7.out.1 (Nat.le_refl _)) (HE.out.below F7.out.1 (Nat.le_refl _)) F7.out.size W7.out).mono ?_
 rintro r w8 ⟨rfl,hw8,hf8⟩
 have W8:=Hj hw8
 have F8:=Hj (F7.out.trans hf8)
 have X8:=Hj (hf8.d X7.out HNE.out)
 clear hw8 hf8
 go_wp2_with fail
 refine(S8.out _ W8.out F8.out.size).mono ?_
 rintro r w9 ⟨rfl,hw9,hf9⟩
 have W9:=Hj hw9
 have F9:=Hj (F8.out.trans hf9)
 have X9:=Hj (hf9.d X8.out HNE.out)
 clear hw9 hf9
 go_wp2_with fail
 go_end0
 exact⟨rfl,by simpa using W9.out,F9.out⟩
theorem wDe010 (B b:Nat)(p:De)(h1:p.inp=false)(h2:0<p.len)(h3:p.rg=false)(w:World)(hI:p.In B w)(hE:En B w)(hB:B≤w.heap.size):Wrt B b 79 #[dcv p p.lo.h p.hi.h] (p.txt prT) w:=by
 intro bs d hW hl
 rw[De.txt_parts,h1,h3,if_pos h2]at hl ⊢
 have FX:=Hj ((Fr.refl b hB).bx (dO p p.lo.h p.hi.h))
 have HW:=Hj (hW.bx (dO p p.lo.h p.hi.h))
 have HI:=Hj hI
 have HE:=Hj hE
 have HNE:Hid (w.heap.size≠b):=by have:=hW.lt;show _≠_;omega
 have HX:=Hj (bx_new w (dO p p.lo.h p.hi.h))
 have T0:=Hj fun w=>typN_any p.ty w
 simp only[Bool.false_eq_true,if_false,List.append_nil]at hl ⊢
 have hok:=hI.1
 have i0:=hok.len0
 have i1:=hok.len1
 have hN:=fun bs w h hE hl hB=>wInt_any B b bs d p.len w h hE (by omega) (by omega) hl hB
 generalize Lib.itoa p.len=N at *
 generalize typT p.ty=T at *
 have S0:=Hj fun w h hB=>wString_any B b (bs) [118,97,114,32] d w h (by simp only[List.length_append,List.length_cons,List.length_nil]at hl ⊢;omega) hB
 have S1:=Hj fun w h hB=>wString_any B b (bs++[118,97,114,32]) p.nm d w h (by simp only[List.length_append,List.length_cons,List.length_nil]at hl ⊢;omega) hB
 have S2:=Hj fun w h hB=>wString_any B b (bs++[118,97,114,32]++p.nm) [58,32] d w h (by simp only[List.length_append,List.length_cons,List.length_nil]at hl ⊢;omega) hB
 have S3:=Hj fun w h hB=>wString_any B b (bs++[118,97,114,32]++p.nm++[58,32]) T d w h (by simp only[List.length_append,List.length_cons,List.length_nil]at hl ⊢;omega) hB
 have S4:=Hj fun w h hB=>wString_any B b (bs++[118,97,114,32]++p.nm++[58,32]++T) [91] d w h (by simp only[List.length_append,List.length_cons,List.length_nil]at hl ⊢;omega) hB
 have S5:=Hj fun w h hE hB=>hN (bs++[118,97,114,32]++p.nm++[58,32]++T++[91]) w h hE (by simp only[List.length_append,List.length_cons,List.length_nil]at hl ⊢;omega) hB
 have S6:=Hj fun w h hB=>wString_any B b (bs++[118,97,114,32]++p.nm++[58,32]++T++[91]++N) [93] d w h (by simp only[List.length_append,List.length_cons,List.length_nil]at hl ⊢;omega) hB
 have S7:=Hj fun w h hB=>wString_any B b (bs++[118,97,114,32]++p.nm++[58,32]++T++[91]++N++[93]) [59,10] d w h (by simp only[List.length_append,List.length_cons,List.length_nil]at hl ⊢;omega) hB
 have z0:(0:Int)<p.len:=h2
 clear hl hI hE hB hW hok i0 i1 hN
 have c1:=(d_cells HX.out).c1
 rw[h1]at c1
 have R3:=Hj h3
 clear h1 h2 h3
 show Calls Tryz.prog 79 #[.pointer (some ⟨b,0,none⟩),.agg #[.int .i64 p.ps,.bool p.inp,.string ⟨p.nm.toArray⟩,.int .u8 p.ty,.int .i64 p.len,.bool p.rg,.int .u8 p.lo.h.op,.int .i64 p.lo.h.ps,.bool p.lo.h.bo,.int .i32 p.lo.h.it,.int .u64 p.lo.h.fl,.string ⟨p.lo.h.nm.toArray⟩,.slice p.lo.h.s.ao p.lo.h.s.n p.lo.h.s.c,.int .u8 p.hi.h.op,.int .i64 p.hi.h.ps,.bool p.hi.h.bo,.int .i32 p.hi.h.it,.int .u64 p.hi.h.fl,.string ⟨p.hi.h.nm.toArray⟩,.slice p.hi.h.s.ao p.hi.h.s.n p.hi.h.s.c]] w _
 go_enter Tryz.func79,Tryz.ntmps79
 go_upto_region 1 with fail
 rw[bx_d]
 go_wp2_with fail
 refine(S0.out _ HW.out FX.out.size).mono ?_
 rintro r w1 ⟨rfl,hw1,hf1⟩
 have W1:=Hj hw1
 have F1:=Hj (FX.out.trans hf1)
 have X1:=Hj (hf1.d HX.out HNE.out)
 clear hw1 hf1
 have XC:=d_cells X1.out
 have c2:=XC.c2
 clear XC
 go_upto_region 4 with fail
 go_still_tail 5,(by kernel_rfl)
 change wpList _ _ _ _ _ w1.drew
 have D1:=Hj (W1.out.drew)
 have E1:=Hj F1.out.drew
 have Y1:Hid (w1.drew.heap[w.heap.size]? = some (dO p p.lo.h p.hi.h)):=X1.out
 generalize w1.drew=v1 at *
 go_wp2_with fail
 refine(S1.out _ D1.out E1.out.size).mono ?_
 rintro r w2 ⟨rfl,hw2,hf2⟩
 have W2:=Hj hw2
 have F2:=Hj (E1.out.trans hf2)
 have X2:=Hj (hf2.d Y1.out HNE.out)
 clear hw2 hf2
 go_wp2_with fail
 refine(S2.out _ W2.out F2.out.size).mono ?_
 rintro r w3 ⟨rfl,hw3,hf3⟩
 have W3:=Hj hw3
 have F3:=Hj (F2.out.trans hf3)
 have X3:=Hj (hf3.d X2.out HNE.out)
 clear hw3 hf3
 have XC:=d_cells X3.out
 have c3:=XC.c3
 clear XC
 go_upto_region 6 with fail
 refine wp_region_still_tail 6 (by kernel_rfl) (by kernel_rfl) ?_
 simp only[List.take_succ_cons,List.take_zero,List.drop_succ_cons,List.drop_zero]
 repeat still_step
 still_call (T0.out _)
 repeat still_step
 refine wpStill_nil ?_
 change wpList _ _ _ _ _ w3.drew
 have D3:=Hj (W3.out.drew)
 have E3:=Hj F3.out.drew
 have Y3:Hid (w3.drew.heap[w.heap.size]? = some (dO p p.lo.h p.hi.h)):=X3.out
 generalize w3.drew=v3 at *
 go_wp2_with fail
 refine(S3.out _ D3.out E3.out.size).mono ?_
 rintro r w4 ⟨rfl,hw4,hf4⟩
 have W4:=Hj hw4
 have F4:=Hj (E3.out.trans hf4)
 have X4:=Hj (hf4.d Y3.out HNE.out)
 clear hw4 hf4
 have XC:=d_cells X4.out
 have c4:=XC.c4
 have c5:=XC.c5
 rw[R3.out]at c5
 clear XC
 go_wp2_with fail
 refine(S4.out _ W4.out F4.out.size).mono ?_
 rintro r w5 ⟨rfl,hw5,hf5⟩
 have W5:=Hj hw5
 have F5:=Hj (F4.out.trans hf5)
 have X5:=Hj (hf5.d X4.out HNE.out)
 clear hw5 hf5
 have XC:=d_cells X5.out
 have c4:=XC.c4
 clear XC
 go_wp2_with fail
 refine(S5.out _ W5.out (HE.out.below F5.out.1 (Nat.le_refl _)) F5.out.size).mono ?_
 rintro r w6 ⟨rfl,hw6,hf6⟩
 have W6:=Hj hw6
 have F6:=Hj (F5.out.trans hf6)
 have X6:=Hj (hf6.d X5.out HNE.out)
 clear hw6 hf6
 go_wp2_with fail
 refine(S6.out _ W6.out F6.out.size).mono ?_
 rintro r w7 ⟨rfl,hw7,hf7⟩
 have W7:=Hj hw7
 have F7:=Hj (F6.out.trans hf7)
 have X7:=Hj (hf7.d X6.out HNE.out)
 clear hw7 hf7
 have XC:=d_cells X7.out
 have c5:=XC.c5
 rw[R3.out]at c5
 clear XC
 go_wp2_with fail
 refine(S7.out _ W7.out F7.out.size).mono ?_
 rintro r w8 ⟨rfl,hw8,hf8⟩
 have W8:=Hj hw8
 have F8:=Hj (F7.out.trans hf8)
 have X8:=Hj (hf8.d X7.out HNE.out)
 clear hw8 hf8
 go_wp2_with fail
 go_end0
 exact⟨rfl,by simpa using W8.out,F8.out⟩
theorem wDe001 (B b:Nat)(p:De)(h1:p.inp=false)(h2:¬0<p.len)(h3:p.rg=true)(w:World)(hI:p.In B w)(hE:En B w)(hB:B≤w.heap.size):Wrt B b 79 #[dcv p p.lo.h p.hi.h] (p.txt prT) w:=by
 intro bs d hW hl
 rw[De.txt_parts,h1,h3,if_neg h2]at hl ⊢
 have FX:=Hj ((Fr.refl b hB).bx (dO p p.lo.h p.hi.h))
 have HW:=Hj (hW.bx (dO p p.lo.h p.hi.h))
 have HI:=Hj hI
 have HE:=Hj hE
 have HNE:Hid (w.heap.size≠b):=by have:=hW.lt;show _≠_;omega
 have HX:=Hj (bx_new w (dO p p.lo.h p.hi.h))
 have T0:=Hj fun w=>typN_any p.ty w
 simp only[if_true,Bool.false_eq_true,if_false,List.append_nil]at hl ⊢
 have hR:=fun bs w hI hE hB h hl=>wBnd_any B b p.lo p.hi w (De.In.lo hI) (De.In.hi hI) hE hB bs d h hl
 generalize bndT p.lo p.hi=R at *
 generalize typT p.ty=T at *
 have S0:=Hj fun w h hB=>wString_any B b (bs) [118,97,114,32] d w h (by simp only[List.length_append,List.length_cons,List.length_nil]at hl ⊢;omega) hB
 have S1:=Hj fun w h hB=>wString_any B b (bs++[118,97,114,32]) p.nm d w h (by simp only[List.length_append,List.length_cons,List.length_nil]at hl ⊢;omega) hB
 have S2:=Hj fun w h hB=>wString_any B b (bs++[118,97,114,32]++p.nm) [58,32] d w h (by simp only[List.length_append,List.length_cons,List.length_nil]at hl ⊢;omega) hB
 have S3:=Hj fun w h hB=>wString_any B b (bs++[118,97,114,32]++p.nm++[58,32]) T d w h (by simp only[List.length_append,List.length_cons,List.length_nil]at hl ⊢;omega) hB
 have S4:=Hj fun w hI hE hB h=>hR (bs++[118,97,114,32]++p.nm++[58,32]++T) w hI hE hB h (by simp only[List.length_append,List.length_cons,List.length_nil]at hl ⊢;omega)
 have S5:=Hj fun w h hB=>wString_any B b (bs++[118,97,114,32]++p.nm++[58,32]++T++R) [59,10] d w h (by simp only[List.length_append,List.length_cons,List.length_nil]at hl ⊢;omega) hB
 have z0:¬(0:Int)<p.len:=h2
 clear hl hI hE hB hW hR
 have c1:=(d_cells HX.out).c1
 rw[h1]at c1
 have R3:=Hj h3
 clear h1 h2 h3
 show Calls Tryz.prog 79 #[.pointer (some ⟨b,0,none⟩),.agg #[.int .i64 p.ps,.bool p.inp,.string ⟨p.nm.toArray⟩,.int .u8 p.ty,.int .i64 p.len,.bool p.rg,.int .u8 p.lo.h.op,.int .i64 p.lo.h.ps,.bool p.lo.h.bo,.int .i32 p.lo.h.it,.int .u64 p.lo.h.fl,.string ⟨p.lo.h.nm.toArray⟩,.slice p.lo.h.s.ao p.lo.h.s.n p.lo.h.s.c,.int .u8 p.hi.h.op,.int .i64 p.hi.h.ps,.bool p.hi.h.bo,.int .i32 p.hi.h.it,.int .u64 p.hi.h.fl,.string ⟨p.hi.h.nm.toArray⟩,.slice p.hi.h.s.ao p.hi.h.s.n p.hi.h.s.c]] w _
 go_enter Tryz.func79,Tryz.ntmps79
 go_upto_region 1 with fail
 rw[bx_d]
 go_wp2_with fail
 refine(S0.out _ HW.out FX.out.size).mono ?_
 rintro r w1 ⟨rfl,hw1,hf1⟩
 have W1:=Hj hw1
 have F1:=Hj (FX.out.trans hf1)
 have X1:=Hj (hf1.d HX.out HNE.out)
 clear hw1 hf1
 have XC:=d_cells X1.out
 have c2:=XC.c2
 clear XC
 go_upto_region 4 with fail
 go_still_tail 5,(by kernel_rfl)
 change wpList _ _ _ _ _ w1.drew
 have D1:=Hj (W1.out.drew)
 have E1:=Hj F1.out.drew
 have Y1:Hid (w1.drew.heap[w.heap.size]? = some (dO p p.lo.h p.hi.h)):=X1.out
 generalize w1.drew=v1 at *
 go_wp2_with fail
 refine(S1.out _ D1.out E1.out.size).mono ?_
 rintro r w2 ⟨rfl,hw2,hf2⟩
 have W2:=Hj hw2
 have F2:=Hj (E1.out.trans hf2)
 have X2:=Hj (hf2.d Y1.out HNE.out)
 clear hw2 hf2
 go_wp2_with fail
 refine(S2.out _ W2.out F2.out.size).mono ?_
 rintro r w3 ⟨rfl,hw3,hf3⟩
 have W3:=Hj hw3
 have F3:=Hj (F2.out.trans hf3)
 have X3:=Hj (hf3.d X2.out HNE.out)
 clear hw3 hf3
 have XC:=d_cells X3.out
 have c3:=XC.c3
 clear XC
 go_upto_region 6 with fail
 refine wp_region_still_tail 6 (by kernel_rfl) (by kernel_rfl) ?_
 simp only[List.take_succ_cons,List.take_zero,List.drop_succ_cons,List.drop_zero]
 repeat still_step
 still_call (T0.out _)
 repeat still_step
 refine wpStill_nil ?_
 change wpList _ _ _ _ _ w3.drew
 have D3:=Hj (W3.out.drew)
 have E3:=Hj F3.out.drew
 have Y3:Hid (w3.drew.heap[w.heap.size]? = some (dO p p.lo.h p.hi.h)):=X3.out
 generalize w3.drew=v3 at *
 go_wp2_with fail
 refine(S3.out _ D3.out E3.out.size).mono ?_
 rintro r w4 ⟨rfl,hw4,hf4⟩
 have W4:=Hj hw4
 have F4:=Hj (E3.out.trans hf4)
 have X4:=Hj (hf4.d Y3.out HNE.out)
 clear hw4 hf4
 have XC:=d_cells X4.out
 have c4:=XC.c4
 have c5:=XC.c5
 have c6:=XC.c6
 have c7:=XC.c7
 have c8:=XC.c8
 have c9:=XC.c9
 have c10:=XC.c10
 have c11:=XC.c11
 have c12:=XC.c12
 have c13:=XC.c13
 have c14:=XC.c14
 have c15:=XC.c15
 have c16:=XC.c16
 have c17:=XC.c17
 have c18:=XC.c18
 have c19:=XC.c19
 rw[R3.out]at c5
 clear XC
 go_wp2_with fail
 refine(S4.out _ (HI.out.below F4.out.1 (Nat.le_refl _)) (HE.out.below F4.out.1 (Nat.le_refl _)) F4.out.size W4.out).mono ?_
 rintro r w5 ⟨rfl,hw5,hf5⟩
 have W5:=Hj hw5
 have F5:=Hj (F4.out.trans hf5)
 have X5:=Hj (hf5.d X4.out HNE.out)
 clear hw5 hf5
 go_wp2_with fail
 refine(S5.out _ W5.out F5.out.size).mono ?_
 rintro r w6 ⟨rfl,hw6,hf6⟩
 have W6:=Hj hw6
 have F6:=Hj (F5.out.trans hf6)
 have X6:=Hj (hf6.d X5.out HNE.out)
 clear hw6 hf6
 go_wp2_with fail
 go_end0
 exact⟨rfl,by simpa using W6.out,F6.out⟩
theorem wDe000 (B b:Nat)(p:De)(h1:p.inp=false)(h2:¬0<p.len)(h3:p.rg=false)(w:World)(hI:p.In B w)(hE:En B w)(hB:B≤w.heap.size):Wrt B b 79 #[dcv p p.lo.h p.hi.h] (p.txt prT) w:=by
 intro bs d hW hl
 rw[De.txt_parts,h1,h3,if_neg h2]at hl ⊢
 have FX:=Hj ((Fr.refl b hB).bx (dO p p.lo.h p.hi.h))
 have HW:=Hj (hW.bx (dO p p.lo.h p.hi.h))
 have HI:=Hj hI
 have HE:=Hj hE
 have HNE:Hid (w.heap.size≠b):=by have:=hW.lt;show _≠_;omega
 have HX:=Hj (bx_new w (dO p p.lo.h p.hi.h))
 have T0:=Hj fun w=>typN_any p.ty w
 simp only[Bool.false_eq_true,if_false,List.append_nil]at hl ⊢
 generalize typT p.ty=T at *
 have S0:=Hj fun w h hB=>wString_any B b (bs) [118,97,114,32] d w h (by simp only[List.length_append,List.length_cons,List.length_nil]at hl ⊢;omega) hB
 have S1:=Hj fun w h hB=>wString_any B b (bs++[118,97,114,32]) p.nm d w h (by simp only[List.length_append,List.length_cons,List.length_nil]at hl ⊢;omega) hB
 have S2:=Hj fun w h hB=>wString_any B b (bs++[118,97,114,32]++p.nm) [58,32] d w h (by simp only[List.length_append,List.length_cons,List.length_nil]at hl ⊢;omega) hB
 have S3:=Hj fun w h hB=>wString_any B b (bs++[118,97,114,32]++p.nm++[58,32]) T d w h (by simp only[List.length_append,List.length_cons,List.length_nil]at hl ⊢;omega) hB
 have S4:=Hj fun w h hB=>wString_any B b (bs++[118,97,114,32]++p.nm++[58,32]++T) [59,10] d w h (by simp only[List.length_append,List.length_cons,List.length_nil]at hl ⊢;omega) hB
 have z0:¬(0:Int)<p.len:=h2
 clear hl hI hE hB hW
 have c1:=(d_cells HX.out).c1
 rw[h1]at c1
 have R3:=Hj h3
 clear h1 h2 h3
 show Calls Tryz.prog 79 #[.pointer (some ⟨b,0,none⟩),.agg #[.int .i64 p.ps,.bool p.inp,.string ⟨p.nm.toArray⟩,.int .u8 p.ty,.int .i64 p.len,.bool p.rg,.int .u8 p.lo.h.op,.int .i64 p.lo.h.ps,.bool p.lo.h.bo,.int .i32 p.lo.h.it,.int .u64 p.lo.h.fl,.string ⟨p.lo.h.nm.toArray⟩,.slice p.lo.h.s.ao p.lo.h.s.n p.lo.h.s.c,.int .u8 p.hi.h.op,.int .i64 p.hi.h.ps,.bool p.hi.h.bo,.int .i32 p.hi.h.it,.int .u64 p.hi.h.fl,.string ⟨p.hi.h.nm.toArray⟩,.slice p.hi.h.s.ao p.hi.h.s.n p.hi.h.s.c]] w _
 go_enter Tryz.func79,Tryz.ntmps79
 go_upto_region 1 with fail
 rw[bx_d]
 go_wp2_with fail
 refine(S0.out _ HW.out FX.out.size).mono ?_
 rintro r w1 ⟨rfl,hw1,hf1⟩
 have W1:=Hj hw1
 have F1:=Hj (FX.out.trans hf1)
 have X1:=Hj (hf1.d HX.out HNE.out)
 clear hw1 hf1
 have XC:=d_cells X1.out
 have c2:=XC.c2
 clear XC
 go_upto_region 4 with fail
 go_still_tail 5,(by kernel_rfl)
 change wpList _ _ _ _ _ w1.drew
 have D1:=Hj (W1.out.drew)
 have E1:=Hj F1.out.drew
 have Y1:Hid (w1.drew.heap[w.heap.size]? = some (dO p p.lo.h p.hi.h)):=X1.out
 generalize w1.drew=v1 at *
 go_wp2_with fail
 refine(S1.out _ D1.out E1.out.size).mono ?_
 rintro r w2 ⟨rfl,hw2,hf2⟩
 have W2:=Hj hw2
 have F2:=Hj (E1.out.trans hf2)
 have X2:=Hj (hf2.d Y1.out HNE.out)
 clear hw2 hf2
 go_wp2_with fail
 refine(S2.out _ W2.out F2.out.size).mono ?_
 rintro r w3 ⟨rfl,hw3,hf3⟩
 have W3:=Hj hw3
 have F3:=Hj (F2.out.trans hf3)
 have X3:=Hj (hf3.d X2.out HNE.out)
 clear hw3 hf3
 have XC:=d_cells X3.out
 have c3:=XC.c3
 clear XC
 go_upto_region 6 with fail
 refine wp_region_still_tail 6 (by kernel_rfl) (by kernel_rfl) ?_
 simp only[List.take_succ_cons,List.take_zero,List.drop_succ_cons,List.drop_zero]
 repeat still_step
 still_call (T0.out _)
 repeat still_step
 refine wpStill_nil ?_
 change wpList _ _ _ _ _ w3.drew
 have D3:=Hj (W3.out.drew)
 have E3:=Hj F3.out.drew
 have Y3:Hid (w3.drew.heap[w.heap.size]? = some (dO p p.lo.h p.hi.h)):=X3.out
 generalize w3.drew=v3 at *
 go_wp2_with fail
 refine(S3.out _ D3.out E3.out.size).mono ?_
 rintro r w4 ⟨rfl,hw4,hf4⟩
 have W4:=Hj hw4
 have F4:=Hj (E3.out.trans hf4)
 have X4:=Hj (hf4.d Y3.out HNE.out)
 clear hw4 hf4
 have XC:=d_cells X4.out
 have c4:=XC.c4
 have c5:=XC.c5
 rw[R3.out]at c5
 clear XC
 go_wp2_with fail
 refine(S4.out _ W4.out F4.out.size).mono ?_
 rintro r w5 ⟨rfl,hw5,hf5⟩
 have W5:=Hj hw5
 have F5:=Hj (F4.out.trans hf5)
 have X5:=Hj (hf5.d X4.out HNE.out)
 clear hw5 hf5
 go_wp2_with fail
 go_end0
 exact⟨rfl,by simpa using W5.out,F5.out⟩
theorem wDe_any (B b:Nat)(p:De)(w:World)(hI:p.In B w)(hE:En B w)(hB:B≤w.heap.size):Wrt B b 79 #[dcv p p.lo.h p.hi.h] (p.txt prT) w:=by
 cases h1:p.inp<;>cases h3:p.rg<;>by_cases h2:0<p.len
 ·exact wDe010 B b p h1 h2 h3 w hI hE hB
 ·exact wDe000 B b p h1 h2 h3 w hI hE hB
 ·exact wDe011 B b p h1 h2 h3 w hI hE hB
 ·exact wDe001 B b p h1 h2 h3 w hI hE hB
 ·exact wDe110 B b p h1 h2 h3 w hI hE hB
 ·exact wDe100 B b p h1 h2 h3 w hI hE hB
 ·exact wDe111 B b p h1 h2 h3 w hI hE hB
 ·exact wDe101 B b p h1 h2 h3 w hI hE hB
theorem Pr.txt_parts (p:Pr):p.txt prT=[116,105,99,107,115,32]++Lib.itoa p.ticks++[59,10]++cat (fun i=>(p.d i).txt prT) p.ds.n++[105,110,105,116]++blkT p.is.n p.i 0++[10,115,116,101,112]++blkT p.ss.n p.s 0++[10]:=by
 unfold Pr.txt blkT
 simp[tabs]
theorem wPrg_any (B b:Nat)(p:Pr)(w:World)(hI:p.In B w)(hE:En B w)(hB:B≤w.heap.size)(hW:Wr B b [] 0 w)(hwt:p.wt≤90000)(hl:(p.txt prT).length≤140737488355328) :
  Calls Tryz.prog 43 #[.pointer (some ⟨b,0,none⟩),p.v] w fun r w'=>r=.returned (.tuple #[])∧Wr B b (p.txt prT) 0 w'∧Fr B b w w':=by
 obtain⟨tk,⟨ao,n,c⟩,k,is,ki,ss,ks⟩:=p
 rw[Pr.txt_parts]at hl ⊢
 unfold Pr.wt at hwt
 dsimp only at hl hwt ⊢
 have FX:=Hj ((Fr.refl b hB).bx (pO ⟨tk,⟨ao,n,c⟩,k,is,ki,ss,ks⟩))
 have HW:=Hj (hW.bx (pO ⟨tk,⟨ao,n,c⟩,k,is,ki,ss,ks⟩))
 have HI:=Hj hI
 have HE:=Hj hE
 have HNE:Hid (w.heap.size≠b):=by have:=hW.lt;show _≠_;omega
 have HX:=Hj (bx_new w (pO ⟨tk,⟨ao,n,c⟩,k,is,ki,ss,ks⟩))
 obtain⟨t0,t1⟩:-9223372036854775808≤tk∧tk≤9223372036854775807:=hI.1
 have hN:=fun bs w h hE hl hB=>wInt_any B b bs 0 tk w h hE t0 t1 hl hB
 have h1:=fun w hX hE hB bs h hl=>wBlk_any B b is ki w hX hE hB bs 0 h (by omega) hl
 have h2:=fun w hX hE hB bs h hl=>wBlk_any B b ss ks w hX hE hB bs 0 h (by omega) hl
 generalize Lib.itoa tk=N at *
 generalize blkT is.n ki 0=P at *
 generalize blkT ss.n ks 0=Q at *
 have hmx:n≤maxLen:=Nat.le_trans hI.2.1.1.1 hI.2.1.1.2.1
 have HD:Hid (DsIn B w ⟨ao,n,c⟩ k):=hI.2.1
 unfold maxLen at hmx
 have HM:=Hj hmx
 have S0:=Hj fun w h hB=>wString_any B b [] [116,105,99,107,115,32] 0 w h (by simp only[List.length_append,List.length_cons,List.length_nil]at hl ⊢;omega) hB
 have S1:=Hj fun w h hE hB=>hN [116,105,99,107,115,32] w h hE (by simp only[List.length_append,List.length_cons,List.length_nil]at hl ⊢;omega) hB
 have S2:=Hj fun w h hB=>wString_any B b ([116,105,99,107,115,32]++N) [59,10] 0 w h (by simp only[List.length_append,List.length_cons,List.length_nil]at hl ⊢;omega) hB
 have S3:=Hj fun(j:Nat) (hj:j<n) w hI hE hB h=>wDe_any B b (k j) w hI hE hB ([116,105,99,107,115,32]++N++[59,10]++cat (fun i=>(k i).txt prT) j) 0 h (by
  have h1:(cat (fun i=>(k i).txt prT) (j+1)).length≤(cat (fun i=>(k i).txt prT) n).length:=by rw[cat_len,cat_len];exact sm_le (by omega)
  have h2:(cat (fun i=>(k i).txt prT) (j+1)).length=(cat (fun i=>(k i).txt prT) j).length+((k j).txt prT).length:=List.length_append
  simp only[List.length_append,List.length_cons,List.length_nil]at hl ⊢;omega)
 generalize hC:cat (fun i=>(k i).txt prT) n=C at *
 have S4:=Hj fun w h hB=>wString_any B b ([116,105,99,107,115,32]++N++[59,10]++C) [105,110,105,116] 0 w h (by simp only[List.length_append,List.length_cons,List.length_nil]at hl ⊢;omega) hB
 have S5:=Hj fun w hX hE hB h=>h1 w hX hE hB ([116,105,99,107,115,32]++N++[59,10]++C++[105,110,105,116]) h (by simp only[List.length_append,List.length_cons,List.length_nil]at hl ⊢;omega)
 have S6:=Hj fun w h hB=>wString_any B b ([116,105,99,107,115,32]++N++[59,10]++C++[105,110,105,116]++P) [10,115,116,101,112] 0 w h (by simp only[List.length_append,List.length_cons,List.length_nil]at hl ⊢;omega) hB
 have S7:=Hj fun w hX hE hB h=>h2 w hX hE hB ([116,105,99,107,115,32]++N++[59,10]++C++[105,110,105,116]++P++[10,115,116,101,112]) h (by simp only[List.length_append,List.length_cons,List.length_nil]at hl ⊢;omega)
 have S8:=Hj fun w h hB=>wString_any B b ([116,105,99,107,115,32]++N++[59,10]++C++[105,110,105,116]++P++[10,115,116,101,112]++Q) [10] 0 w h (by simp only[List.length_append,List.length_cons,List.length_nil]at hl ⊢;omega) hB
 have HC:=Hj hC
 clear hl hI hE hB hW hwt t0 t1 hN h1 h2 hmx hC
 show Calls Tryz.prog 43 #[.pointer (some ⟨b,0,none⟩),.agg #[.int .i64 tk,.slice ao n c,.slice is.ao is.n is.c,.slice ss.ao ss.n ss.c]] w _
 go_enter Tryz.func43,Tryz.ntmps43
 go_upto_region 1 with fail
 rw[bx_p w ⟨tk,⟨ao,n,c⟩,k,is,ki,ss,ks⟩]
 go_wp2_with fail
 refine(S0.out _ HW.out FX.out.size).mono ?_
 rintro r w1 ⟨rfl,hw1,hf1⟩
 have W1:=Hj hw1
 have F1:=Hj (FX.out.trans hf1)
 have X1:=Hj (hf1.p HX.out HNE.out)
 obtain⟨c0, -⟩:=p_cells X1.out
 dsimp only at c0
 clear hw1 hf1
 go_wp2_with fail
 refine(S1.out _ W1.out (HE.out.below F1.out.1 (Nat.le_refl _)) F1.out.size).mono ?_
 rintro r w2 ⟨rfl,hw2,hf2⟩
 have W2:=Hj hw2
 have F2:=Hj (F1.out.trans hf2)
 have X2:=Hj (hf2.p X1.out HNE.out)
 clear hw2 hf2 c0
 go_wp2_with fail
 refine(S2.out _ W2.out F2.out.size).mono ?_
 rintro r w3 ⟨rfl,hw3,hf3⟩
 have W3:=Hj hw3
 have F3:=Hj (F2.out.trans hf3)
 have X3:=Hj (hf3.p X2.out HNE.out)
 obtain⟨-,c1, -⟩:=p_cells X3.out
 dsimp only at c1
 clear hw3 hf3
 go_wp2_with fail
 go_loopg [21] n (fun gk i wr=>∃j:Nat,i=.int .i64 (j:Int)∧Hid (gk=n-j∧j≤n)∧Hid (Wr B b ([116,105,99,107,115,32]++N++[59,10]++cat (fun i=>(k i).txt prT) j) 0 wr)∧Hid (Fr B b w wr)∧Hid (wr.heap[w.heap.size]? = some (pO ⟨tk,⟨ao,n,c⟩,k,is,ki,ss,ks⟩)))
 case atStart=>exact⟨0,rfl,⟨rfl,Nat.zero_le _⟩,by show Wr _ _ _ _ _;simpa [cat] using W3.out,F3.out,X3.out⟩
 case round=>
  obtain⟨j,rfl,HJ,HWj,HF,HXj⟩:=hrel
  clear c1
  by_cases hlt:j<n
  ·have z0:(j:Int)<(n:Int):=by omega
   have ovi:IntKind.i64.wrap ((j:Int)+1)=((j+1:Nat):Int):=by have:=HM.out;rw[IntKind.wrap_i64];omega
   obtain⟨a,b1,o,rfl,hA,hb1,X,I⟩:=DsIn.at (HD.out.below HF.out.1 (Nat.le_refl _)) (i:=j) hlt
   have RC:=Hj (d20_range X)
   have FX:=Hj ((Fr.refl b HF.out.size).bx (dO (k j) (k j).lo.h (k j).hi.h))
   have RA:=Hj (dO_range (bx_new wr (dO (k j) (k j).lo.h (k j).hi.h)))
   have C1:=Hj (S3.out j hlt _ (I.below FX.out.1 (Nat.le_refl _)) ((HE.out.below HF.out.1 (Nat.le_refl _)).below FX.out.1 (Nat.le_refl _)) FX.out.size (HWj.out.bx _))
   have HLT:=Hj hlt
   rw[dcv_eq]at C1
   have O1:=Hj (dcvs_one (k j) (k j).lo.h (k j).hi.h)
   rw[dO_eq]at C1 FX RA
   obtain⟨V1,hV1⟩:∃V,dcvs (k j) (k j).lo.h (k j).hi.h=V:=⟨_,rfl⟩
   have L1:=Hj (show(Tryz.prog.info? 56).map (·.size)=some V1.length∧V1.length=20 by rw[←hV1];exact⟨by kernel_rfl,rfl⟩)
   rw[hV1]at C1 FX RA RC O1
   clear X hb1 I hlt hV1
   as_aux_lemma=>
    go_upto_region 7 with(first
     | refine wpList_load_mid rfl 56 _ rfl b1 o rfl V1 _ RC.out Tryz.underlying56 rfl L1.out.1 ?_
     | refine store_bx rfl 56 _ _ rfl wr _ V1.toArray rfl rfl (by rw[List.size_toArray];exact L1.out.1) (by have h:V1.toArray.size=20:=(by rw[List.size_toArray];exact L1.out.2);rw[h];rfl) O1.out ?_)
    as_aux_lemma=>
     clear RC O1
     generalize bx wr (.cells V1.toArray 56 (0,0))=wb at *
     go_wp2_with (refine wpList_load_mid rfl 56 _ rfl wr.heap.size 0 rfl V1 _ RA.out Tryz.underlying56 rfl L1.out.1 ?_)
     refine C1.out.mono ?_
     rintro r w4 ⟨rfl,hw4,hf4⟩
     have W4:=Hj hw4
     have F4:=Hj (HF.out.trans (FX.out.trans hf4))
     have X4:=Hj ((FX.out.trans hf4).p HXj.out HNE.out)
     clear hw4 hf4 RA L1 C1
     go_wp2_with fail
     go_roundg (n-(j+1))
     case measure=>have:=HJ.out;have:=HLT.out;omega
     case rel=>exact⟨j+1,by go_num,⟨rfl,HLT.out⟩,by have:=W4.out;rwa [List.append_assoc]at this,F4.out,X4.out⟩
  ·as_aux_lemma=>
    obtain rfl:j=n:=by have:=HJ.out;omega
    have z0:¬(j:Int)<(j:Int):=by omega
    rw[HC.out]at HWj
    clear hlt
    go_wp2_with fail
    refine(S4.out _ HWj.out HF.out.size).mono ?_
    rintro r w4 ⟨rfl,hw4,hf4⟩
    have W4:=Hj hw4
    have F4:=Hj (HF.out.trans hf4)
    have X4:=Hj (hf4.p HXj.out HNE.out)
    obtain⟨-, -,c2, -⟩:=p_cells X4.out
    dsimp only at c2
    clear hw4 hf4
    go_wp2_with fail
    refine(S5.out _ (HI.out.2.2.1.below F4.out.1 (Nat.le_refl _)) (HE.out.below F4.out.1 (Nat.le_refl _)) F4.out.size W4.out).mono ?_
    rintro r w5 ⟨rfl,hw5,hf5⟩
    have W5:=Hj hw5
    have F5:=Hj (F4.out.trans hf5)
    have X5:=Hj (hf5.p X4.out HNE.out)
    clear hw5 hf5 c2
    go_wp2_with fail
    refine(S6.out _ W5.out F5.out.size).mono ?_
    rintro r w6 ⟨rfl,hw6,hf6⟩
    have W6:=Hj hw6
    have F6:=Hj (F5.out.trans hf6)
    obtain⟨-, -, -,c3⟩:=p_cells (hf6.p X5.out HNE.out)
    dsimp only at c3
    clear hw6 hf6
    go_wp2_with fail
    refine(S7.out _ (HI.out.2.2.2.below F6.out.1 (Nat.le_refl _)) (HE.out.below F6.out.1 (Nat.le_refl _)) F6.out.size W6.out).mono ?_
    rintro r w7 ⟨rfl,hw7,hf7⟩
    have W7:=Hj hw7
    have F7:=Hj (F6.out.trans hf7)
    clear hw7 hf7 c3
    go_wp2_with fail
    refine(S8.out _ W7.out F7.out.size).mono ?_
    rintro r w8 ⟨rfl,hw8,hf8⟩
    have F8:=Hj (F7.out.trans hf8)
    clear hf8
    go_wp2_with fail
    go_end0
    exact⟨rfl,by simpa using hw8,F8.out⟩
def wO:Obj:=.cells #[.pointer none,.slice none 0 0,.int .i64 0] 89 (0,0)
theorem wr_new {B:Nat}(w:World)(h:B≤w.heap.size):Wr B w.heap.size [] 0 (bx w wO):=.inl ⟨h,_,bx_new w wO,World.ownsRow_nil _ _ _ _,by simp[Value.ownBlock]⟩
theorem tPrint_any (p:Pr)(w:World)(hI:p.In w.heap.size w)(hE:EnvOk w)(hS:SgOk w)(hwt:p.wt≤90000)(hl:(p.txt prT).length≤140737488355328) :
  Calls Tryz.prog 17 #[p.v] w fun r w'=>r=.returned (.string ⟨(p.txt prT).toArray⟩)∧Below w.heap.size w w':=by
 have hW:=wr_new (B:=w.heap.size) (bx w (pO p)) (by rw[bx_size];omega)
 rw[bx_size]at hW
 have FX:=Hj (((Fr.refl (w.heap.size+1) (Nat.le_refl w.heap.size)).bx (pO p)).bx wO)
 have HX:=Hj ((bx_old (bx w (pO p)) wO (by rw[bx_size];omega)).trans (bx_new w (pO p)))
 obtain⟨c0,c1,c2,c3⟩:=p_cells HX.out
 have C1:=Hj (wPrg_any w.heap.size (w.heap.size+1) p (bx (bx w (pO p)) wO) (hI.below FX.out.1 (Nat.le_refl _)) ((En.of hE hS).below FX.out.1 (Nat.le_refl _)) FX.out.size hW hwt hl)
 have C2:=Hj fun w' h hB=>wStr_any w.heap.size (w.heap.size+1) (p.txt prT) 0 w' h hB
 generalize p.txt prT=T at *
 have hz:(bx w (pO p)).heap.size=w.heap.size+1:=bx_size _ _
 clear hI hE hS hwt hl hW
 show Calls Tryz.prog 17 #[.agg #[.int .i64 p.ticks,.slice p.ds.ao p.ds.n p.ds.c,.slice p.is.ao p.is.n p.is.c,.slice p.ss.ao p.ss.n p.ss.c]] w _
 go_enter Tryz.func17,Tryz.ntmps17
 go_upto_region 1 with fail
 rw[bx_p]
 go_upto_region 2 with fail
 rw[show(bx w (pO p)).alloc (.cells #[.pointer none,.slice none 0 0,.int .i64 0] 89 (0,0))=bx (bx w (pO p)) wO from rfl]
 go_wp2_with fail
 refine C1.out.mono ?_
 rintro r w1 ⟨rfl,hw1,hf1⟩
 have F1:=Hj (FX.out.trans hf1)
 have W1:=Hj hw1
 clear hw1 hf1 c0 c1 c2 c3
 go_wp2_with fail
 refine(C2.out _ W1.out F1.out.size).mono ?_
 rintro r w2 ⟨rfl,hb2⟩
 have B2:=Hj (F1.out.1.trans hb2)
 clear hb2
 go_wp2_with fail
 go_ret
 exact⟨rfl,B2.out⟩
theorem tText_any (e:Ex)(B:Nat)(w:World)(hI:e.In B w)(hB:B≤w.heap.size)(hE:EnvOk w)(hS:SgOk w)(hl:(e.txt prT).length≤140737488355328) :
  Calls Tryz.prog 21 #[e.h.v] w fun r w'=>r=.returned (.string ⟨(e.txt prT).toArray⟩)∧Below w.heap.size w w':=by
 have hW:=wr_new (B:=w.heap.size) (bx w (xO e.h)) (by rw[bx_size];omega)
 rw[bx_size]at hW
 have FX:=Hj (((Fr.refl (w.heap.size+1) (Nat.le_refl w.heap.size)).bx (xO e.h)).bx wO)
 have HX:=Hj ((bx_old (bx w (xO e.h)) wO (by rw[bx_size];omega)).trans (bx_new w (xO e.h)))
 obtain⟨c0,c1,c2,c3,c4,c5,c6⟩:=x_cells HX.out
 have C1:=Hj (okX_any w.heap.size e (w.heap.size+1) (bx (bx w (xO e.h)) wO) (hI.mono (bel_same FX.out.1 hB) hB) ((En.of hE hS).below FX.out.1 (Nat.le_refl _)) FX.out.size [] 0 hW (by simpa using hl))
 have C2:=Hj fun w' h hB=>wStr_any w.heap.size (w.heap.size+1) (e.txt prT) 0 w' h hB
 generalize e.txt prT=T at *
 have hz:(bx w (xO e.h)).heap.size=w.heap.size+1:=bx_size _ _
 clear hI hE hS hl hW
 show Calls Tryz.prog 21 #[.agg #[.int .u8 e.h.op,.int .i64 e.h.ps,.bool e.h.bo,.int .i32 e.h.it,.int .u64 e.h.fl,.string ⟨e.h.nm.toArray⟩,.slice e.h.s.ao e.h.s.n e.h.s.c]] w _
 go_enter Tryz.func21,Tryz.ntmps21
 go_upto_region 1 with fail
 rw[bx_x]
 go_upto_region 2 with fail
 rw[show(bx w (xO e.h)).alloc (.cells #[.pointer none,.slice none 0 0,.int .i64 0] 89 (0,0))=bx (bx w (xO e.h)) wO from rfl]
 go_wp2_with fail
 refine C1.out.mono ?_
 rintro r w1 ⟨rfl,hw1,hf1⟩
 have F1:=Hj (FX.out.trans hf1)
 have W1:Hid (Wr w.heap.size (w.heap.size+1) T 0 w1):=hw1
 clear hw1 hf1 c0 c1 c2 c3 c4 c5 c6
 go_wp2_with fail
 refine(C2.out _ W1.out F1.out.size).mono ?_
 rintro r w2 ⟨rfl,hb2⟩
 have B2:=Hj (F1.out.1.trans hb2)
 clear hb2
 go_wp2_with fail
 go_ret
 exact⟨rfl,B2.out⟩
end Go.Proofs.YthmlhkllbichgaaGreatDoor
