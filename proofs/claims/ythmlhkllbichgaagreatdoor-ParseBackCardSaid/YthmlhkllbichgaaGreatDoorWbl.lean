/-
  ParseBack holds, tied to the program's text. (part 38 of 41) Conditions: none beside what the card ties.
-/
import Derived.Test.YthmlhkllbichgaaGreatDoorWbk
namespace Go.Proofs.YthmlhkllbichgaaGreatDoor
set_option maxHeartbeats 16000000
open Go.RowKit
set_option maxRecDepth 100000
def Wrd (B b:Nat)(f:FuncId)(xs:Array Value)(W:Nat)(l:Nat→List UInt8)(w:World):Prop:=∀(bs:List UInt8) (d:Nat),Wr B b bs d w→d+W≤100000→bs.length+(l d).length≤140737488355328 →
 Calls Tryz.prog f (#[.pointer (some ⟨b,0,none⟩)]++xs) w fun r w'=>r=.returned (.tuple #[])∧Wr B b (bs++l d) d w'∧Fr B b w w'
def OkS (B:Nat)(s:St):Prop:=∀(b:Nat) (w:World),s.In B w→En B w→B≤w.heap.size→Wrd B b 125 #[stv s.h s.e.h] s.wt (s.txt prT) w
def blkT (n:Nat)(k:Nat→St)(d:Nat):List UInt8:=[32,123,10]++cat (fun i=>(k i).txt prT (d+1)) n++tabs d++[125]
theorem Wr.deep {B b:Nat}{bs:List UInt8}{d d':Nat}{w:World}(h:Wr B b bs d w){z:Int}(hz:z=d'):Wr B b bs d' (w.setCell ⟨b,2,none⟩ (.int .i64 z)):=by
 subst hz
 have key:∀p,WrAt B b p bs d w→WrAt B b p bs d' (w.setCell ⟨b,2,none⟩ (.int .i64 (d':Int))):=by
  rintro p ⟨hB,v,h1,h2,h3⟩
  refine⟨hB,v,by simp[World.setCell,Array.getElem?_modify,h1],⟨h2.1,?_⟩,h3⟩
  rcases h2.2 with h|⟨g,cap,cur,e1,e2,e3,e4⟩
  ·exact .inl h
  ·refine .inr ⟨g,cap,cur,e1,e2,?_,e4⟩
   rw[Below.heap_setCell _ _ _ _ (fun e=>h3 (by rw[e1,e];rfl))]
   exact e3
 exact h.imp (key _) (key _)
theorem Wr.cell2 {B b:Nat}{bs:List UInt8}{d:Nat}{w:World}(h:Wr B b bs d w):w.cell? ⟨b,2,none⟩=some (.int .i64 (d:Int))∧w.frozen? ⟨b,2,none⟩=false:=by
 obtain⟨p, -,v,h1, -⟩:=h.at
 exact⟨cell_obj h1 2,frozen_obj h1 2⟩
theorem wBlk_of (B b:Nat)(s:Sl)(k:Nat→St)(ih:∀i,i<s.n→OkS B (k i))(w:World)(hX:SsIn B w s k)(hE:En B w)(hB:B≤w.heap.size):Wrd B b 80 #[.slice s.ao s.n s.c] (1+sm (fun i=>(k i).wt) s.n) (blkT s.n k) w:=by
 intro bs d hW hd hl
 have HX:=Hj hX
 have IH:=Hj ih
 have HE:=Hj hE
 have HB:=Hj hB
 have HBb:=Hj hW.le
 have hmx:s.n≤maxLen:=Nat.le_trans hX.1.1 hX.1.2.1
 unfold maxLen at hmx
 have HM:=Hj hmx
 obtain⟨ao,n,c⟩:=s
 dsimp only at *
 unfold blkT at hl ⊢
 simp only[List.length_append,List.length_cons,List.length_nil]at hl
 have hl2:bs.length+4+(cat (fun i=>(k i).txt prT (d+1)) n).length+d≤140737488355328:=by simp only[tabs,List.length_replicate]at hl;omega
 have HL:=Hj hl2
 have S1:=Hj (wString_any B b bs [32,123,10] d w hW (by simp only[List.length_cons,List.length_nil];omega) hB)
 have S2:=Hj fun w h hB=>wInd_any B b (bs++[32,123,10]++cat (fun i=>(k i).txt prT (d+1)) n) d w h (by simp only[List.length_append,List.length_cons,List.length_nil];omega) hB
 have S3:=Hj fun w h hB=>wString_any B b (bs++[32,123,10]++cat (fun i=>(k i).txt prT (d+1)) n++tabs d) [125] d w h (by simp only[tabs,List.length_append,List.length_cons,List.length_nil,List.length_replicate];omega) hB
 have HD:=Hj hd
 have ovd:IntKind.i64.wrap ((d:Int)+1)=((d+1:Nat):Int):=by rw[IntKind.wrap_i64];omega
 clear hX ih hE hB hW hd hl hl2 hmx
 show Calls Tryz.prog 80 #[.pointer (some ⟨b,0,none⟩),.slice ao n c] w _
 go_enter Tryz.func80,Tryz.ntmps80
 go_wp2_with fail
 refine S1.out.mono ?_
 rintro r w1 ⟨rfl,hw1,hf1⟩
 obtain⟨e1,e2⟩:=hw1.cell2
 have W1:=Hj (hw1.deep (d':=d+1) rfl)
 have F1:=Hj (hf1.setCell HBb.out 2 (.int .i64 ((d+1:Nat):Int)))
 clear hw1 hf1 S1
 go_wp2_with fail
 rw[show(.int .i64 ((d:Int)+1):Value)=.int .i64 ((d+1:Nat):Int)from rfl]
 generalize w1.setCell ⟨b,2,none⟩ (.int .i64 ((d+1:Nat):Int))=w2 at *
 clear e1 e2
 go_loopg [19] n (fun gk i wr=>∃j:Nat,i=.int .i64 (j:Int)∧Hid (gk=n-j∧j≤n)∧Hid (Wr B b (bs++[32,123,10]++cat (fun i=>(k i).txt prT (d+1)) j) (d+1) wr)∧Hid (Fr B b w wr))
 case atStart=>exact⟨0,rfl,⟨rfl,Nat.zero_le _⟩,by show Wr _ _ _ _ _;simpa [cat] using W1.out,F1.out⟩
 case round=>
  obtain⟨j,rfl,HJ,HWj,HF⟩:=hrel
  by_cases hlt:j<n
  ·have z0:(j:Int)<(n:Int):=by omega
   have ovi:IntKind.i64.wrap ((j:Int)+1)=((j+1:Nat):Int):=by have:=HM.out;rw[IntKind.wrap_i64];omega
   obtain⟨a,b1,o,rfl,hA,hb1,X,I⟩:=SsIn.at (HX.out.below HF.out.1 (Nat.le_refl _)) (i:=j) hlt
   have c0:=X.c0;have c1:=X.c1;have c2:=X.c2;have c3:=X.c3;have c4:=X.c4;have c5:=X.c5;have c6:=X.c6;have c7:=X.c7;have c8:=X.c8;have c9:=X.c9;have c10:=X.c10;have c11:=X.c11;have c12:=X.c12;have c13:=X.c13;have c14:=X.c14
   have FX:=Hj ((Fr.refl b HF.out.size).bx (sO (k j).h (k j).e.h))
   have hle:(cat (fun i=>(k i).txt prT (d+1)) (j+1)).length≤(cat (fun i=>(k i).txt prT (d+1)) n).length:=by rw[cat_len,cat_len];exact sm_le (by omega)
   have hln:(cat (fun i=>(k i).txt prT (d+1)) (j+1)).length=(cat (fun i=>(k i).txt prT (d+1)) j).length+((k j).txt prT (d+1)).length:=List.length_append
   have C:=Hj (IH.out j hlt b _ (I.below FX.out.1 (Nat.le_refl _)) ((HE.out.below HF.out.1 (Nat.le_refl _)).below FX.out.1 (Nat.le_refl _)) FX.out.size _ (d+1) (HWj.out.bx _) (by have:=HD.out;have:=sm_one (f:=fun i=>(k i).wt) hlt;omega) (by have:=HL.out;simp only[List.length_append,List.length_cons,List.length_nil];omega))
   have HLT:=Hj hlt
   clear X hb1 I hlt hle hln
   go_wp2_with fail
   refine C.out.mono ?_
   rintro r w3 ⟨rfl,hw3,hf3⟩
   have W3:=Hj hw3
   have F3:=Hj (HF.out.trans (FX.out.trans hf3))
   clear hw3 hf3
   go_wp2_with fail
   go_roundg (n-(j+1))
   case measure=>have:=HJ.out;have:=HLT.out;omega
   case rel=>exact⟨j+1,by go_num,⟨rfl,HLT.out⟩,by have:=W3.out;rwa [List.append_assoc]at this,F3.out⟩
  ·obtain rfl:j=n:=by have:=HJ.out;omega
   have z0:¬(j:Int)<(j:Int):=by omega
   obtain⟨e1,e2⟩:=HWj.out.cell2
   have W4:=Hj (HWj.out.deep (d':=d) rfl)
   have F4:=Hj (HF.out.setCell HBb.out 2 (.int .i64 (d:Int)))
   have ovm:wrap64 (d:Int)=(d:Int):=IntWalk.wrap64_in _ (by have:=HD.out;omega)
   clear hlt
   go_wp2_with fail
   generalize wr.setCell ⟨b,2,none⟩ (.int .i64 (d:Int))=w4 at *
   refine(S2.out _ W4.out F4.out.size).mono ?_
   rintro r w5 ⟨rfl,hw5,hf5⟩
   have W5:=Hj hw5
   have F5:=Hj (F4.out.trans hf5)
   clear hw5 hf5
   go_wp2_with fail
   refine(S3.out _ W5.out F5.out.size).mono ?_
   rintro r w6 ⟨rfl,hw6,hf6⟩
   have F6:=Hj (F5.out.trans hf6)
   clear hf6
   go_wp2_with fail
   go_end0
   exact⟨rfl,by simpa using hw6,F6.out⟩
def asgT (s:St)(d:Nat):List UInt8:=tabs d++nameT s.h.nm s.h.xs.n (if 0<s.h.xs.n then(s.x 0).txt prT else[])++[32,61,32]++s.e.txt prT++[59,10]
def chcT (s:St)(d:Nat):List UInt8:=tabs d++[105,102,32]++s.e.txt prT++blkT s.h.ts.n s.t d++(if 0<s.h.es.n then[32,101,108,115,101]++blkT s.h.es.n s.l d else[])++[10]
def lopT (s:St)(d:Nat):List UInt8:=tabs d++[102,111,114,32]++s.h.nm++[32,61,32]++Lib.itoa s.h.lo++[32,46,46,32]++Lib.itoa s.h.hi++blkT s.h.ts.n s.t d++[10]
theorem wAsg_any (B b:Nat)(s:St)(w:World)(hI:s.In B w)(hE:En B w)(hB:B≤w.heap.size):Wrd B b 157 #[stv s.h s.e.h] s.wt (asgT s) w:=by
 intro bs d hW hd hl
 have FX:=Hj ((Fr.refl b hB).bx (sO s.h s.e.h))
 have HW:=Hj (hW.bx (sO s.h s.e.h))
 have HI:=Hj hI
 have HE:=Hj hE
 have HNE:Hid (w.heap.size≠b):=by have:=hW.lt;show _≠_;omega
 have HX:=Hj (bx_new w (sO s.h s.e.h))
 unfold asgT at hl ⊢
 have hP:=fun w hX hE hB=>wPlc_of B b s.h.nm s.h.xs s.x (fun _=>okX_any B _) w hX hE hB
 generalize nameT s.h.nm s.h.xs.n (if 0<s.h.xs.n then(s.x 0).txt prT else[])=T at *
 have hX:=fun w hI hE hB=>okX_any B s.e b w hI hE hB
 generalize s.e.txt prT=U at *
 have S0:=Hj fun w h hB=>wInd_any B b bs d w h (by simp only[List.length_append,List.length_cons,List.length_nil,tabs,List.length_replicate]at hl ⊢;omega) hB
 have S1:=Hj fun w hX hE hB h=>hP w hX hE hB (bs++tabs d) d h (by simp only[List.length_append,List.length_cons,List.length_nil,tabs,List.length_replicate]at hl ⊢;omega)
 have S2:=Hj fun w h hB=>wString_any B b (bs++tabs d++T) [32,61,32] d w h (by simp only[List.length_append,List.length_cons,List.length_nil,tabs,List.length_replicate]at hl ⊢;omega) hB
 have S3:=Hj fun w hI hE hB h=>hX w hI hE hB (bs++tabs d++T++[32,61,32]) d h (by simp only[List.length_append,List.length_cons,List.length_nil,tabs,List.length_replicate]at hl ⊢;omega)
 have S4:=Hj fun w h hB=>wString_any B b (bs++tabs d++T++[32,61,32]++U) [59,10] d w h (by simp only[List.length_append,List.length_cons,List.length_nil,tabs,List.length_replicate]at hl ⊢;omega) hB
 clear hl hI hE hB hW hd hP hX
 show Calls Tryz.prog 157 #[.pointer (some ⟨b,0,none⟩),.agg #[.int .u8 s.h.kd,.int .i64 s.h.ps,.string ⟨s.h.nm.toArray⟩,.slice s.h.xs.ao s.h.xs.n s.h.xs.c,.int .u8 s.e.h.op,.int .i64 s.e.h.ps,.bool s.e.h.bo,.int .i32 s.e.h.it,.int .u64 s.e.h.fl,.string ⟨s.e.h.nm.toArray⟩,.slice s.e.h.s.ao s.e.h.s.n s.e.h.s.c,.int .i32 s.h.lo,.int .i32 s.h.hi,.slice s.h.ts.ao s.h.ts.n s.h.ts.c,.slice s.h.es.ao s.h.es.n s.h.es.c]] w _
 go_enter Tryz.func157,Tryz.ntmps157
 go_upto_region 1 with fail
 rw[bx_s]
 go_wp2_with fail
 refine(S0.out _ HW.out FX.out.size).mono ?_
 rintro r w1 ⟨rfl,hw1,hf1⟩
 have W1:=Hj hw1
 have F1:=Hj (FX.out.trans hf1)
 have X1:=Hj (hf1.s HX.out HNE.out)
 clear hw1 hf1
 have XC:=s_cells X1.out
 have c2:=XC.c2
 have c3:=XC.c3
 clear XC
 go_wp2_with fail
 refine(S1.out _ (HI.out.xs.below F1.out.1 (Nat.le_refl _)) (HE.out.below F1.out.1 (Nat.le_refl _)) F1.out.size W1.out).mono ?_
 rintro r w2 ⟨rfl,hw2,hf2⟩
 have W2:=Hj hw2
 have F2:=Hj (F1.out.trans hf2)
 have X2:=Hj (hf2.s X1.out HNE.out)
 clear hw2 hf2
 go_wp2_with fail
 refine(S2.out _ W2.out F2.out.size).mono ?_
 rintro r w3 ⟨rfl,hw3,hf3⟩
 have W3:=Hj hw3
 have F3:=Hj (F2.out.trans hf3)
 have X3:=Hj (hf3.s X2.out HNE.out)
 clear hw3 hf3
 have XC:=s_cells X3.out
 have c4:=XC.c4
 have c5:=XC.c5
 have c6:=XC.c6
 have c7:=XC.c7
 have c8:=XC.c8
 have c9:=XC.c9
 have c10:=XC.c10
 clear XC
 go_wp2_with fail
 refine(S3.out _ (HI.out.ex.below F3.out.1 (Nat.le_refl _)) (HE.out.below F3.out.1 (Nat.le_refl _)) F3.out.size W3.out).mono ?_
 rintro r w4 ⟨rfl,hw4,hf4⟩
 have W4:=Hj hw4
 have F4:=Hj (F3.out.trans hf4)
 have X4:=Hj (hf4.s X3.out HNE.out)
 clear hw4 hf4
 go_wp2_with fail
 refine(S4.out _ W4.out F4.out.size).mono ?_
 rintro r w5 ⟨rfl,hw5,hf5⟩
 have W5:=Hj hw5
 have F5:=Hj (F4.out.trans hf5)
 have X5:=Hj (hf5.s X4.out HNE.out)
 clear hw5 hf5
 go_wp2_with fail
 go_end0
 exact⟨rfl,by simpa using W5.out,F5.out⟩
theorem wChc_of (B b:Nat)(s:St)(it:∀i,i<s.h.ts.n→OkS B (s.t i))(il:∀i,i<s.h.es.n→OkS B (s.l i))(w:World)(hI:s.In B w)(hE:En B w)(hB:B≤w.heap.size):Wrd B b 158 #[stv s.h s.e.h] s.wt (chcT s) w:=by
 intro bs d hW hd hl
 have FX:=Hj ((Fr.refl b hB).bx (sO s.h s.e.h))
 have HW:=Hj (hW.bx (sO s.h s.e.h))
 have HI:=Hj hI
 have HE:=Hj hE
 have HNE:Hid (w.heap.size≠b):=by have:=hW.lt;show _≠_;omega
 have HX:=Hj (bx_new w (sO s.h s.e.h))
 unfold chcT at hl ⊢
 have hwt:=St.wt_eq s
 have hX:=fun w hI hE hB=>okX_any B s.e b w hI hE hB
 generalize s.e.txt prT=U at *
 have hT:=fun w hX hE hB bs h hl=>wBlk_of B b s.h.ts s.t it w hX hE hB bs d h (by omega) hl
 have hL:=fun w hX hE hB bs h hl=>wBlk_of B b s.h.es s.l il w hX hE hB bs d h (by omega) hl
 generalize blkT s.h.ts.n s.t d=T at *
 generalize blkT s.h.es.n s.l d=L at *
 have hmn:=hI.es.1.2.1
 have hmn2:=hI.es.1.1
 unfold maxLen at hmn
 have S0:=Hj fun w h hB=>wInd_any B b bs d w h (by simp only[List.length_append,List.length_cons,List.length_nil,tabs,List.length_replicate]at hl ⊢;omega) hB
 have S1:=Hj fun w h hB=>wString_any B b (bs++tabs d) [105,102,32] d w h (by simp only[List.length_append,List.length_cons,List.length_nil,tabs,List.length_replicate]at hl ⊢;omega) hB
 have S2:=Hj fun w hI hE hB h=>hX w hI hE hB (bs++tabs d++[105,102,32]) d h (by simp only[List.length_append,List.length_cons,List.length_nil,tabs,List.length_replicate]at hl ⊢;omega)
 have S3:=Hj fun w hX hE hB h=>hT w hX hE hB (bs++tabs d++[105,102,32]++U) h (by simp only[List.length_append,List.length_cons,List.length_nil,tabs,List.length_replicate]at hl ⊢;omega)
 by_cases hn:0<s.h.es.n
 ·have z0:(0:Int)<(s.h.es.n:Int):=by omega
  simp only[if_pos hn]at hl ⊢
  have S4:=Hj fun w h hB=>wString_any B b (bs++tabs d++[105,102,32]++U++T) [32,101,108,115,101] d w h (by simp only[List.length_append,List.length_cons,List.length_nil,tabs,List.length_replicate]at hl ⊢;omega) hB
  have S5:=Hj fun w hX hE hB h=>hL w hX hE hB (bs++tabs d++[105,102,32]++U++T++[32,101,108,115,101]) h (by simp only[List.length_append,List.length_cons,List.length_nil,tabs,List.length_replicate]at hl ⊢;omega)
  have S6:=Hj fun w h hB=>wString_any B b (bs++tabs d++[105,102,32]++U++T++[32,101,108,115,101]++L) [10] d w h (by simp only[List.length_append,List.length_cons,List.length_nil,tabs,List.length_replicate]at hl ⊢;omega) hB
  clear hl hI hE hB hW hd hX hT hL hn hwt hmn hmn2 it il
  show Calls Tryz.prog 158 #[.pointer (some ⟨b,0,none⟩),.agg #[.int .u8 s.h.kd,.int .i64 s.h.ps,.string ⟨s.h.nm.toArray⟩,.slice s.h.xs.ao s.h.xs.n s.h.xs.c,.int .u8 s.e.h.op,.int .i64 s.e.h.ps,.bool s.e.h.bo,.int .i32 s.e.h.it,.int .u64 s.e.h.fl,.string ⟨s.e.h.nm.toArray⟩,.slice s.e.h.s.ao s.e.h.s.n s.e.h.s.c,.int .i32 s.h.lo,.int .i32 s.h.hi,.slice s.h.ts.ao s.h.ts.n s.h.ts.c,.slice s.h.es.ao s.h.es.n s.h.es.c]] w _
  go_enter Tryz.func158,Tryz.ntmps158
  go_upto_region 1 with fail
  rw[bx_s]
  go_wp2_with fail
  refine(S0.out _ HW.out FX.out.size).mono ?_
  rintro r w1 ⟨rfl,hw1,hf1⟩
  have W1:=Hj hw1
  have F1:=Hj (FX.out.trans hf1)
  have X1:=Hj (hf1.s HX.out HNE.out)
  clear hw1 hf1
  go_wp2_with fail
  refine(S1.out _ W1.out F1.out.size).mono ?_
  rintro r w2 ⟨rfl,hw2,hf2⟩
  have W2:=Hj hw2
  have F2:=Hj (F1.out.trans hf2)
  have X2:=Hj (hf2.s X1.out HNE.out)
  clear hw2 hf2
  have XC:=s_cells X2.out
  have c4:=XC.c4
  have c5:=XC.c5
  have c6:=XC.c6
  have c7:=XC.c7
  have c8:=XC.c8
  have c9:=XC.c9
  have c10:=XC.c10
  clear XC
  go_wp2_with fail
  refine(S2.out _ (HI.out.ex.below F2.out.1 (Nat.le_refl _)) (HE.out.below F2.out.1 (Nat.le_refl _)) F2.out.size W2.out).mono ?_
  rintro r w3 ⟨rfl,hw3,hf3⟩
  have W3:=Hj hw3
  have F3:=Hj (F2.out.trans hf3)
  have X3:=Hj (hf3.s X2.out HNE.out)
  clear hw3 hf3
  have XC:=s_cells X3.out
  have c13:=XC.c13
  clear XC
  clear c4 c5 c6 c7 c8 c9 c10
  go_wp2_with fail
  refine(S3.out _ (HI.out.ts.below F3.out.1 (Nat.le_refl _)) (HE.out.below F3.out.1 (Nat.le_refl _)) F3.out.size W3.out).mono ?_
  rintro r w4 ⟨rfl,hw4,hf4⟩
  have W4:=Hj hw4
  have F4:=Hj (F3.out.trans hf4)
  have X4:=Hj (hf4.s X3.out HNE.out)
  clear hw4 hf4
  have XC:=s_cells X4.out
  have c14:=XC.c14
  clear XC
  go_wp2_with fail
  refine(S4.out _ W4.out F4.out.size).mono ?_
  rintro r w5 ⟨rfl,hw5,hf5⟩
  have W5:=Hj hw5
  have F5:=Hj (F4.out.trans hf5)
  have X5:=Hj (hf5.s X4.out HNE.out)
  clear hw5 hf5
  have XC:=s_cells X5.out
  have c14:=XC.c14
  clear XC
  go_wp2_with fail
  refine(S5.out _ (HI.out.es.below F5.out.1 (Nat.le_refl _)) (HE.out.below F5.out.1 (Nat.le_refl _)) F5.out.size W5.out).mono ?_
  rintro r w6 ⟨rfl,hw6,hf6⟩
  have W6:=Hj hw6
  have F6:=Hj (F5.out.trans hf6)
  have X6:=Hj (hf6.s X5.out HNE.out)
  clear hw6 hf6
  go_wp2_with fail
  refine(S6.out _ W6.out F6.out.size).mono ?_
  rintro r w7 ⟨rfl,hw7,hf7⟩
  have W7:=Hj hw7
  have F7:=Hj (F6.out.trans hf7)
  have X7:=Hj (hf7.s X6.out HNE.out)
  clear hw7 hf7
  go_wp2_with fail
  go_end0
  exact⟨rfl,by simpa using W7.out,F7.out⟩
 ·have z0:¬(0:Int)<(s.h.es.n:Int):=by omega
  have z1:s.h.es.n=0:=by omega
  simp only[if_neg hn,List.append_nil]at hl ⊢
  have S4:=Hj fun w h hB=>wString_any B b (bs++tabs d++[105,102,32]++U++T) [10] d w h (by simp only[List.length_append,List.length_cons,List.length_nil,tabs,List.length_replicate]at hl ⊢;omega) hB
  clear hl hI hE hB hW hd hX hT hL hn hwt hmn hmn2 it il
  have Z1:=Hj z1
  clear z1
  show Calls Tryz.prog 158 #[.pointer (some ⟨b,0,none⟩),.agg #[.int .u8 s.h.kd,.int .i64 s.h.ps,.string ⟨s.h.nm.toArray⟩,.slice s.h.xs.ao s.h.xs.n s.h.xs.c,.int .u8 s.e.h.op,.int .i64 s.e.h.ps,.bool s.e.h.bo,.int .i32 s.e.h.it,.int .u64 s.e.h.fl,.string ⟨s.e.h.nm.toArray⟩,.slice s.e.h.s.ao s.e.h.s.n s.e.h.s.c,.int .i32 s.h.lo,.int .i32 s.h.hi,.slice s.h.ts.ao s.h.ts.n s.h.ts.c,.slice s.h.es.ao s.h.es.n s.h.es.c]] w _
  go_enter Tryz.func158,Tryz.ntmps158
  go_upto_region 1 with fail
  rw[bx_s]
  go_wp2_with fail
  refine(S0.out _ HW.out FX.out.size).mono ?_
  rintro r w1 ⟨rfl,hw1,hf1⟩
  have W1:=Hj hw1
  have F1:=Hj (FX.out.trans hf1)
  have X1:=Hj (hf1.s HX.out HNE.out)
  clear hw1 hf1
  go_wp2_with fail
  refine(S1.out _ W1.out F1.out.size).mono ?_
  rintro r w2 ⟨rfl,hw2,hf2⟩
  have W2:=Hj hw2
  have F2:=Hj (F1.out.trans hf2)
  have X2:=Hj (hf2.s X1.out HNE.out)
  clear hw2 hf2
  have XC:=s_cells X2.out
  have c4:=XC.c4
  have c5:=XC.c5
  have c6:=XC.c6
  have c7:=XC.c7
  have c8:=XC.c8
  have c9:=XC.c9
  have c10:=XC.c10
  clear XC
  go_wp2_with fail
  refine(S2.out _ (HI.out.ex.below F2.out.1 (Nat.le_refl _)) (HE.out.below F2.out.1 (Nat.le_refl _)) F2.out.size W2.out).mono ?_
  rintro r w3 ⟨rfl,hw3,hf3⟩
  have W3:=Hj hw3
  have F3:=Hj (F2.out.trans hf3)
  have X3:=Hj (hf3.s X2.out HNE.out)
  clear hw3 hf3
  have XC:=s_cells X3.out
  have c13:=XC.c13
  clear XC
  clear c4 c5 c6 c7 c8 c9 c10
  go_wp2_with fail
  refine(S3.out _ (HI.out.ts.below F3.out.1 (Nat.le_refl _)) (HE.out.below F3.out.1 (Nat.le_refl _)) F3.out.size W3.out).mono ?_
  rintro r w4 ⟨rfl,hw4,hf4⟩
  have W4:=Hj hw4
  have F4:=Hj (F3.out.trans hf4)
  have X4:=Hj (hf4.s X3.out HNE.out)
  clear hw4 hf4
  have XC:=s_cells X4.out
  have c14:=XC.c14
  clear XC
  go_wp2_with fail
  refine(S4.out _ W4.out F4.out.size).mono ?_
  rintro r w5 ⟨rfl,hw5,hf5⟩
  have W5:=Hj hw5
  have F5:=Hj (F4.out.trans hf5)
  have X5:=Hj (hf5.s X4.out HNE.out)
  clear hw5 hf5
  go_wp2_with fail
  go_end0
  exact⟨rfl,by simpa using W5.out,F5.out⟩
theorem wLop_of (B b:Nat)(s:St)(it:∀i,i<s.h.ts.n→OkS B (s.t i))(w:World)(hI:s.In B w)(hE:En B w)(hB:B≤w.heap.size):Wrd B b 159 #[stv s.h s.e.h] s.wt (lopT s) w:=by
 intro bs d hW hd hl
 have FX:=Hj ((Fr.refl b hB).bx (sO s.h s.e.h))
 have HW:=Hj (hW.bx (sO s.h s.e.h))
 have HI:=Hj hI
 have HE:=Hj hE
 have HNE:Hid (w.heap.size≠b):=by have:=hW.lt;show _≠_;omega
 have HX:=Hj (bx_new w (sO s.h s.e.h))
 unfold lopT at hl ⊢
 have hwt:=St.wt_eq s
 have hok:=hI.ok
 have l0:=hok.lo0;have l1:=hok.lo1;have i0:=hok.hi0;have i1:=hok.hi1
 have hT:=fun w hX hE hB bs h hl=>wBlk_of B b s.h.ts s.t it w hX hE hB bs d h (by omega) hl
 have hL:=fun bs w h hE hl hB=>wInt_any B b bs d s.h.lo w h hE (by omega) (by omega) hl hB
 have hH:=fun bs w h hE hl hB=>wInt_any B b bs d s.h.hi w h hE (by omega) (by omega) hl hB
 have ol:IntKind.i64.wrap s.h.lo=s.h.lo:=by rw[IntKind.wrap_i64];omega
 have oh:IntKind.i64.wrap s.h.hi=s.h.hi:=by rw[IntKind.wrap_i64];omega
 generalize blkT s.h.ts.n s.t d=T at *
 generalize Lib.itoa s.h.lo=L at *
 generalize Lib.itoa s.h.hi=H at *
 have S0:=Hj fun w h hB=>wInd_any B b bs d w h (by simp only[List.length_append,List.length_cons,List.length_nil,tabs,List.length_replicate]at hl ⊢;omega) hB
 have S1:=Hj fun w h hB=>wString_any B b (bs++tabs d) [102,111,114,32] d w h (by simp only[List.length_append,List.length_cons,List.length_nil,tabs,List.length_replicate]at hl ⊢;omega) hB
 have S2:=Hj fun w h hB=>wString_any B b (bs++tabs d++[102,111,114,32]) s.h.nm d w h (by simp only[List.length_append,List.length_cons,List.length_nil,tabs,List.length_replicate]at hl ⊢;omega) hB
 have S3:=Hj fun w h hB=>wString_any B b (bs++tabs d++[102,111,114,32]++s.h.nm) [32,61,32] d w h (by simp only[List.length_append,List.length_cons,List.length_nil,tabs,List.length_replicate]at hl ⊢;omega) hB
 have S4:=Hj fun w h hE hB=>hL (bs++tabs d++[102,111,114,32]++s.h.nm++[32,61,32]) w h hE (by simp only[List.length_append,List.length_cons,List.length_nil,tabs,List.length_replicate]at hl ⊢;omega) hB
 have S5:=Hj fun w h hB=>wString_any B b (bs++tabs d++[102,111,114,32]++s.h.nm++[32,61,32]++L) [32,46,46,32] d w h (by simp only[List.length_append,List.length_cons,List.length_nil,tabs,List.length_replicate]at hl ⊢;omega) hB
 have S6:=Hj fun w h hE hB=>hH (bs++tabs d++[102,111,114,32]++s.h.nm++[32,61,32]++L++[32,46,46,32]) w h hE (by simp only[List.length_append,List.length_cons,List.length_nil,tabs,List.length_replicate]at hl ⊢;omega) hB
 have S7:=Hj fun w hX hE hB h=>hT w hX hE hB (bs++tabs d++[102,111,114,32]++s.h.nm++[32,61,32]++L++[32,46,46,32]++H) h (by simp only[List.length_append,List.length_cons,List.length_nil,tabs,List.length_replicate]at hl ⊢;omega)
 have S8:=Hj fun w h hB=>wString_any B b (bs++tabs d++[102,111,114,32]++s.h.nm++[32,61,32]++L++[32,46,46,32]++H++T) [10] d w h (by simp only[List.length_append,List.length_cons,List.length_nil,tabs,List.length_replicate]at hl ⊢;omega) hB
 clear hl hI hE hB hW hd hT hL hH hwt hok it l0 l1 i0 i1
 show Calls Tryz.prog 159 #[.pointer (some ⟨b,0,none⟩),.agg #[.int .u8 s.h.kd,.int .i64 s.h.ps,.string ⟨s.h.nm.toArray⟩,.slice s.h.xs.ao s.h.xs.n s.h.xs.c,.int .u8 s.e.h.op,.int .i64 s.e.h.ps,.bool s.e.h.bo,.int .i32 s.e.h.it,.int .u64 s.e.h.fl,.string ⟨s.e.h.nm.toArray⟩,.slice s.e.h.s.ao s.e.h.s.n s.e.h.s.c,.int .i32 s.h.lo,.int .i32 s.h.hi,.slice s.h.ts.ao s.h.ts.n s.h.ts.c,.slice s.h.es.ao s.h.es.n s.h.es.c]] w _
 go_enter Tryz.func159,Tryz.ntmps159
 go_upto_region 1 with fail
 rw[bx_s]
 go_wp2_with fail
 refine(S0.out _ HW.out FX.out.size).mono ?_
 rintro r w1 ⟨rfl,hw1,hf1⟩
 have W1:=Hj hw1
 have F1:=Hj (FX.out.trans hf1)
 have X1:=Hj (hf1.s HX.out HNE.out)
 clear hw1 hf1
 go_wp2_with fail
 refine(S1.out _ W1.out F1.out.size).mono ?_
 rintro r w2 ⟨rfl,hw2,hf2⟩
 have W2:=Hj hw2
 have F2:=Hj (F1.out.trans hf2)
 have X2:=Hj (hf2.s X1.out HNE.out)
 clear hw2 hf2
 have XC:=s_cells X2.out
 have c2:=XC.c2
 clear XC
 go_upto_region 3 with fail
 go_still_tail 5,(by kernel_rfl)
 change wpList _ _ _ _ _ w2.drew
 have D2:=Hj (W2.out.drew)
 have E2:=Hj F2.out.drew
 have Y2:Hid (w2.drew.heap[w.heap.size]? = some (sO s.h s.e.h)):=X2.out
 generalize w2.drew=w2d at *
 clear c2
 go_wp2_with fail
 refine(S2.out _ D2.out E2.out.size).mono ?_
 rintro r w3 ⟨rfl,hw3,hf3⟩
 have W3:=Hj hw3
 have F3:=Hj (E2.out.trans hf3)
 have X3:=Hj (hf3.s Y2.out HNE.out)
 clear hw3 hf3
 go_wp2_with fail
 refine(S3.out _ W3.out F3.out.size).mono ?_
 rintro r w4 ⟨rfl,hw4,hf4⟩
 have W4:=Hj hw4
 have F4:=Hj (F3.out.trans hf4)
 have X4:=Hj (hf4.s X3.out HNE.out)
 clear hw4 hf4
 have XC:=s_cells X4.out
 have c11:=XC.c11
 clear XC
 go_wp2_with fail
 refine(S4.out _ W4.out (HE.out.below F4.out.1 (Nat.le_refl _)) F4.out.size).mono ?_
 rintro r w5 ⟨rfl,hw5,hf5⟩
 have W5:=Hj hw5
 have F5:=Hj (F4.out.trans hf5)
 have X5:=Hj (hf5.s X4.out HNE.out)
 clear hw5 hf5
 go_wp2_with fail
 refine(S5.out _ W5.out F5.out.size).mono ?_
 rintro r w6 ⟨rfl,hw6,hf6⟩
 have W6:=Hj hw6
 have F6:=Hj (F5.out.trans hf6)
 have X6:=Hj (hf6.s X5.out HNE.out)
 clear hw6 hf6
 have XC:=s_cells X6.out
 have c12:=XC.c12
 clear XC
 go_wp2_with fail
 refine(S6.out _ W6.out (HE.out.below F6.out.1 (Nat.le_refl _)) F6.out.size).mono ?_
 rintro r w7 ⟨rfl,hw7,hf7⟩
 have W7:=Hj hw7
 have F7:=Hj (F6.out.trans hf7)
 have X7:=Hj (hf7.s X6.out HNE.out)
 clear hw7 hf7
 have XC:=s_cells X7.out
 have c13:=XC.c13
 clear XC
 go_wp2_with fail
 refine(S7.out _ (HI.out.ts.below F7.out.1 (Nat.le_refl _)) (HE.out.below F7.out.1 (Nat.le_refl _)) F7.out.size W7.out).mono ?_
 rintro r w8 ⟨rfl,hw8,hf8⟩
 have W8:=Hj hw8
 have F8:=Hj (F7.out.trans hf8)
 have X8:=Hj (hf8.s X7.out HNE.out)
 clear hw8 hf8
 go_wp2_with fail
 refine(S8.out _ W8.out F8.out.size).mono ?_
 rintro r w9 ⟨rfl,hw9,hf9⟩
 have W9:=Hj hw9
 have F9:=Hj (F8.out.trans hf9)
 have X9:=Hj (hf9.s X8.out HNE.out)
 clear hw9 hf9
 go_wp2_with fail
 go_end0
 exact⟨rfl,by simpa using W9.out,F9.out⟩
theorem St.txt_kind (s:St)(d:Nat):s.txt prT d=if s.h.kd=1 then asgT s d else if s.h.kd=2 then chcT s d else if s.h.kd=3 then lopT s d else[]:=by
 rw[St.txt_eq]
 unfold lineT asgT chcT lopT blkT
 by_cases h1:s.h.kd=1
 ·rw[if_pos h1,if_pos h1]
 rw[if_neg h1,if_neg h1]
 by_cases h2:s.h.kd=2
 ·rw[if_pos h2,if_pos h2]
  by_cases h0:0<s.h.es.n
  ·rw[if_pos h0,if_pos h0];simp
  ·rw[if_neg h0,if_neg h0];simp
 rw[if_neg h2,if_neg h2]
 by_cases h3:s.h.kd=3
 ·rw[if_pos h3,if_pos h3];simp
 ·rw[if_neg h3,if_neg h3]
theorem wSt1 (B b:Nat)(s:St)  (h1:s.h.kd=1)(w:World)(hI:s.In B w)(hE:En B w)(hB:B≤w.heap.size):Wrd B b 125 #[stv s.h s.e.h] s.wt (s.txt prT) w:=by
 intro bs d hW hd hl
 rw[St.txt_kind,if_pos h1]at hl ⊢
 have FX:=Hj ((Fr.refl b hB).bx (sO s.h s.e.h))
 have HW:=Hj (hW.bx (sO s.h s.e.h))
 have C1:=Hj (wAsg_any B b s _ (hI.below FX.out.1 (Nat.le_refl _)) (hE.below FX.out.1 (Nat.le_refl _)) FX.out.size bs d HW.out hd hl)
 generalize asgT s d=T at *
 have q1:(s.h.kd == 1)=true:=by simp[h1]
 have XC:=s_cells (bx_new w (sO s.h s.e.h))
 have c0:=XC.c0
 have c1:=XC.c1
 have c2:=XC.c2
 have c3:=XC.c3
 have c4:=XC.c4
 have c5:=XC.c5
 have c6:=XC.c6
 have c7:=XC.c7
 have c8:=XC.c8
 have c9:=XC.c9
 have c10:=XC.c10
 have c11:=XC.c11
 have c12:=XC.c12
 have c13:=XC.c13
 have c14:=XC.c14
 clear XC hI hE hB hW hd hl h1
 show Calls Tryz.prog 125 #[.pointer (some ⟨b,0,none⟩),.agg #[.int .u8 s.h.kd,.int .i64 s.h.ps,.string ⟨s.h.nm.toArray⟩,.slice s.h.xs.ao s.h.xs.n s.h.xs.c,.int .u8 s.e.h.op,.int .i64 s.e.h.ps,.bool s.e.h.bo,.int .i32 s.e.h.it,.int .u64 s.e.h.fl,.string ⟨s.e.h.nm.toArray⟩,.slice s.e.h.s.ao s.e.h.s.n s.e.h.s.c,.int .i32 s.h.lo,.int .i32 s.h.hi,.slice s.h.ts.ao s.h.ts.n s.h.ts.c,.slice s.h.es.ao s.h.es.n s.h.es.c]] w _
 go_enter Tryz.func125,Tryz.ntmps125
 go_upto_region 1 with fail
 rw[bx_s]
 go_wp2_with fail
 refine C1.out.mono ?_
 rintro r w1 ⟨rfl,hw1,hf1⟩
 have F1:=Hj (FX.out.trans hf1)
 clear hf1 c0 c1 c2 c3 c4 c5 c6 c7 c8 c9 c10 c11 c12 c13 c14
 go_wp2_with fail
 go_end0
 exact⟨rfl,hw1,F1.out⟩
theorem wSt2 (B b:Nat)(s:St)(it:∀i,i<s.h.ts.n→OkS B (s.t i))(il:∀i,i<s.h.es.n→OkS B (s.l i))(h1:¬s.h.kd=1)(h2:s.h.kd=2)(w:World)(hI:s.In B w)(hE:En B w)(hB:B≤w.heap.size):Wrd B b 125 #[stv s.h s.e.h] s.wt (s.txt prT) w:=by
 intro bs d hW hd hl
 rw[St.txt_kind,if_neg h1,if_pos h2]at hl ⊢
 have FX:=Hj ((Fr.refl b hB).bx (sO s.h s.e.h))
 have HW:=Hj (hW.bx (sO s.h s.e.h))
 have C1:=Hj (wChc_of B b s it il _ (hI.below FX.out.1 (Nat.le_refl _)) (hE.below FX.out.1 (Nat.le_refl _)) FX.out.size bs d HW.out hd hl)
 generalize chcT s d=T at *
 have q1:(s.h.kd == 1)=false:=by simp[h1]
 have q2:(s.h.kd == 2)=true:=by simp[h2]
 have XC:=s_cells (bx_new w (sO s.h s.e.h))
 have c0:=XC.c0
 have c1:=XC.c1
 have c2:=XC.c2
 have c3:=XC.c3
 have c4:=XC.c4
 have c5:=XC.c5
 have c6:=XC.c6
 have c7:=XC.c7
 have c8:=XC.c8
 have c9:=XC.c9
 have c10:=XC.c10
 have c11:=XC.c11
 have c12:=XC.c12
 have c13:=XC.c13
 have c14:=XC.c14
 clear XC hI hE hB hW hd hl h1 h2 it il
 show Calls Tryz.prog 125 #[.pointer (some ⟨b,0,none⟩),.agg #[.int .u8 s.h.kd,.int .i64 s.h.ps,.string ⟨s.h.nm.toArray⟩,.slice s.h.xs.ao s.h.xs.n s.h.xs.c,.int .u8 s.e.h.op,.int .i64 s.e.h.ps,.bool s.e.h.bo,.int .i32 s.e.h.it,.int .u64 s.e.h.fl,.string ⟨s.e.h.nm.toArray⟩,.slice s.e.h.s.ao s.e.h.s.n s.e.h.s.c,.int .i32 s.h.lo,.int .i32 s.h.hi,.slice s.h.ts.ao s.h.ts.n s.h.ts.c,.slice s.h.es.ao s.h.es.n s.h.es.c]] w _
 go_enter Tryz.func125,Tryz.ntmps125
 go_upto_region 1 with fail
 rw[bx_s]
 go_wp2_with fail
 refine C1.out.mono ?_
 rintro r w1 ⟨rfl,hw1,hf1⟩
 have F1:=Hj (FX.out.trans hf1)
 clear hf1 c0 c1 c2 c3 c4 c5 c6 c7 c8 c9 c10 c11 c12 c13 c14
 go_wp2_with fail
 go_end0
 exact⟨rfl,hw1,F1.out⟩
theorem wSt3 (B b:Nat)(s:St)(it:∀i,i<s.h.ts.n→OkS B (s.t i))(h1:¬s.h.kd=1)(h2:¬s.h.kd=2)(h3:s.h.kd=3)(w:World)(hI:s.In B w)(hE:En B w)(hB:B≤w.heap.size):Wrd B b 125 #[stv s.h s.e.h] s.wt (s.txt prT) w:=by
 intro bs d hW hd hl
 rw[St.txt_kind,if_neg h1,if_neg h2,if_pos h3]at hl ⊢
 have FX:=Hj ((Fr.refl b hB).bx (sO s.h s.e.h))
 have HW:=Hj (hW.bx (sO s.h s.e.h))
 have C1:=Hj (wLop_of B b s it _ (hI.below FX.out.1 (Nat.le_refl _)) (hE.below FX.out.1 (Nat.le_refl _)) FX.out.size bs d HW.out hd hl)
 generalize lopT s d=T at *
 have q1:(s.h.kd == 1)=false:=by simp[h1]
 have q2:(s.h.kd == 2)=false:=by simp[h2]
 have q3:(s.h.kd == 3)=true:=by simp[h3]
 have XC:=s_cells (bx_new w (sO s.h s.e.h))
 have c0:=XC.c0
 have c1:=XC.c1
 have c2:=XC.c2
 have c3:=XC.c3
 have c4:=XC.c4
 have c5:=XC.c5
 have c6:=XC.c6
 have c7:=XC.c7
 have c8:=XC.c8
 have c9:=XC.c9
 have c10:=XC.c10
 have c11:=XC.c11
 have c12:=XC.c12
 have c13:=XC.c13
 have c14:=XC.c14
 clear XC hI hE hB hW hd hl h1 h2 h3 it
 show Calls Tryz.prog 125 #[.pointer (some ⟨b,0,none⟩),.agg #[.int .u8 s.h.kd,.int .i64 s.h.ps,.string ⟨s.h.nm.toArray⟩,.slice s.h.xs.ao s.h.xs.n s.h.xs.c,.int .u8 s.e.h.op,.int .i64 s.e.h.ps,.bool s.e.h.bo,.int .i32 s.e.h.it,.int .u64 s.e.h.fl,.string ⟨s.e.h.nm.toArray⟩,.slice s.e.h.s.ao s.e.h.s.n s.e.h.s.c,.int .i32 s.h.lo,.int .i32 s.h.hi,.slice s.h.ts.ao s.h.ts.n s.h.ts.c,.slice s.h.es.ao s.h.es.n s.h.es.c]] w _
 go_enter Tryz.func125,Tryz.ntmps125
 go_upto_region 1 with fail
 rw[bx_s]
 go_wp2_with fail
 refine C1.out.mono ?_
 rintro r w1 ⟨rfl,hw1,hf1⟩
 have F1:=Hj (FX.out.trans hf1)
 clear hf1 c0 c1 c2 c3 c4 c5 c6 c7 c8 c9 c10 c11 c12 c13 c14
 go_wp2_with fail
 go_end0
 exact⟨rfl,hw1,F1.out⟩
theorem wSt0 (B b:Nat)(s:St)  (h1:¬s.h.kd=1)(h2:¬s.h.kd=2)(h3:¬s.h.kd=3)(w:World)(hB:B≤w.heap.size):Wrd B b 125 #[stv s.h s.e.h] s.wt (s.txt prT) w:=by
 intro bs d hW hd hl
 rw[St.txt_kind,if_neg h1,if_neg h2,if_neg h3]at hl ⊢
 have FX:=Hj ((Fr.refl b hB).bx (sO s.h s.e.h))
 have HW:=Hj (hW.bx (sO s.h s.e.h))
 have q1:(s.h.kd == 1)=false:=by simp[h1]
 have q2:(s.h.kd == 2)=false:=by simp[h2]
 have q3:(s.h.kd == 3)=false:=by simp[h3]
 have XC:=s_cells (bx_new w (sO s.h s.e.h))
 have c0:=XC.c0
 have c1:=XC.c1
 have c2:=XC.c2
 have c3:=XC.c3
 have c4:=XC.c4
 have c5:=XC.c5
 have c6:=XC.c6
 have c7:=XC.c7
 have c8:=XC.c8
 have c9:=XC.c9
 have c10:=XC.c10
 have c11:=XC.c11
 have c12:=XC.c12
 have c13:=XC.c13
 have c14:=XC.c14
 clear XC hB hW hd hl h1 h2 h3
 show Calls Tryz.prog 125 #[.pointer (some ⟨b,0,none⟩),.agg #[.int .u8 s.h.kd,.int .i64 s.h.ps,.string ⟨s.h.nm.toArray⟩,.slice s.h.xs.ao s.h.xs.n s.h.xs.c,.int .u8 s.e.h.op,.int .i64 s.e.h.ps,.bool s.e.h.bo,.int .i32 s.e.h.it,.int .u64 s.e.h.fl,.string ⟨s.e.h.nm.toArray⟩,.slice s.e.h.s.ao s.e.h.s.n s.e.h.s.c,.int .i32 s.h.lo,.int .i32 s.h.hi,.slice s.h.ts.ao s.h.ts.n s.h.ts.c,.slice s.h.es.ao s.h.es.n s.h.es.c]] w _
 go_enter Tryz.func125,Tryz.ntmps125
 go_upto_region 1 with fail
 rw[bx_s]
 go_wp2_with fail
 go_end0
 exact⟨rfl,by simpa using HW.out,FX.out⟩
theorem okS_any (B:Nat)(s:St):OkS B s:=by
 induction s using St.ind with
 | H s it il=>
  intro b w hI hE hB
  by_cases h1:s.h.kd=1
  ·exact wSt1 B b s h1 w hI hE hB
  by_cases h2:s.h.kd=2
  ·exact wSt2 B b s it il h1 h2 w hI hE hB
  by_cases h3:s.h.kd=3
  ·exact wSt3 B b s it h1 h2 h3 w hI hE hB
  exact wSt0 B b s h1 h2 h3 w hB
theorem wBlk_any (B b:Nat)(s:Sl)(k:Nat→St)(w:World)(hX:SsIn B w s k)(hE:En B w)(hB:B≤w.heap.size):Wrd B b 80 #[.slice s.ao s.n s.c] (1+sm (fun i=>(k i).wt) s.n) (blkT s.n k) w:=
 wBlk_of B b s k (fun i _=>okS_any B (k i)) w hX hE hB
end Go.Proofs.YthmlhkllbichgaaGreatDoor
