/-
  Whatever program is handed in, CheckChecks answers true. (part 37 of 38) Conditions: none beside what the card ties.
-/
import Derived.Test.YtkbicfffokegeaaGreatDoorCbj
namespace Go.Proofs.YtkbicfffokegeaaGreatDoor
set_option maxHeartbeats 16000000
open Go.ChangeShapes Go.WideShapes Go.ChangeAt Go.RowKit Go.Joins
set_option maxRecDepth 100000
instance:Inhabited Ex:=⟨.no⟩
instance:Inhabited St:=⟨.no⟩
instance:Inhabited De:=⟨⟨0,false,[],0,0,false,.no,.no⟩⟩
theorem lA {x:Int}(h:(Lit.int .u8 x).wf=true):0≤x∧x≤255:=by
 simp[Lit.wf,IntKind.min,IntKind.max,IntKind.signed,IntKind.bits]at h
 omega
theorem jK {x:Int}(h:(Lit.int .i32 x).wf=true):-2147483648≤x∧x≤2147483647:=by
 simp[Lit.wf,IntKind.min,IntKind.max,IntKind.signed,IntKind.bits]at h
 omega
section
variable {H:Type} {enc:TypeId×Value→H} {w:World} {base:Nat} {spare:Nat→Bool} {held:Bool}
theorem iJ {α:Type}[Inhabited α]{ts te:TypeId}{sz:Nat}(hsz:0<sz)(ht:Tryz.prog.underlying ts=some (.slice te))(hc:Tryz.prog.cellsOf te=sz)(vs:α→List Value)(P:α→Prop){fuel:Nat}{cs:List Value}{x:DataW H×List MemPlace}
  (ih:∀n,n<fuel→∀cs x,DataW.trod enc Tryz.prog w base spare held n te cs=some x→∃a:α,cs=vs a∧P a) (h:DataW.trod enc Tryz.prog w base spare held fuel ts cs=some x) :
  ∃(s:Sl) (k:Nat→α),cs=[.slice s.ao s.n s.c]∧s.ok∧Rw w w.heap.size s sz (fun i=>vs (k i))∧∀i,i<s.n→P (k i):=by
 rcases DataW.trod_slice ht h with⟨rfl, -⟩|⟨a,len,cap,elems,rest,n,hn,rfl, -,hb,hl,hm,hlen,hel, -⟩
 ·exact⟨⟨none,0,0⟩,fun _=>default,rfl,⟨aD _,Nat.zero_le _,fun _=>rfl⟩,fun a (ha:none=some a)=>(by cases ha),fun i hi=>absurd hi (Nat.not_lt_zero i)⟩
 ·have key:∀i,i<len→∃e:α,(∃cs',w.cells? base (a.add (i*sz)) sz=some cs'∧cs'=vs e)∧P e:=fun i hi=>by
   have h1:=hel i hi;rw[hc,List.getElem?_eq_getElem (by omega)]at h1;obtain⟨cs',h2,h3⟩:=Option.bind_eq_some_iff.1 h1;obtain⟨e,h4,h5⟩:=ih n (by omega) cs' _ h3;exact⟨e,⟨cs',h2,h4⟩,h5⟩
  obtain⟨f,hf⟩:=Go.Deep.choose_lt key;refine⟨⟨some a,len,cap⟩,f,rfl,⟨hl,hm,fun h=>by cases h⟩,fun b hb' i hi=>?_,fun i hi=>(hf i hi).2⟩;obtain rfl:=Option.some.inj hb';obtain⟨cs',h1,h2⟩:=(hf i hi).1;have hblk:=World.cells?_block h1 hsz;refine⟨by rw[oJ]at hblk;exact hblk,fun j v hv=>?_⟩;have h3:=World.cells?_some h1;rw[←Go.Deep.add_add]
  have hj:j<sz:=by
   rw[←h3.2.1,h2];exact(List.getElem?_eq_some_iff.1 hv).1
  rw[h3.2.2 j hj,h2];exact hv
theorem bQ {t:TypeId}{fs:Array Field}{n:Nat}{cs:List Value}{xs:List (DataW H×List MemPlace)}(hl:xs.length=fs.size)(h:∀(i:Nat) (f:Field),fs[i]? = some f→DataW.trod enc Tryz.prog w base spare held n f.type ((cs.drop f.offset).take (Tryz.prog.cellsOf f.type))=xs[i]?)
  (i:Nat) (f:Field) (hf:fs[i]? = some f) (hc:Tryz.prog.cellsOf f.type=t):∃y,DataW.trod enc Tryz.prog w base spare held n f.type ((cs.drop f.offset).take t)=some y:=by
 have h1:=h i f hf;rw[hc]at h1;have hi:i<xs.length:=by rw[hl];exact(Array.getElem?_eq_some_iff.1 hf).1
 rw[List.getElem?_eq_getElem hi]at h1;exact⟨_,h1⟩
theorem aAn:∀(fuel:Nat) (cs:List Value) (x:DataW H×List MemPlace),DataW.trod enc Tryz.prog w base spare held fuel 42 cs=some x→∃e:Ex,cs=e.h.vs∧e.In w.heap.size w:=by
 intro fuel
 induction fuel using Nat.strongRecOn with
 | ind fuel ih=>
  intro cs x h;obtain⟨xs,n,rfl, -,hl,hxl,hf⟩:=DataW.trod_struct Tryz.underlying42 h;rw[show Tryz.prog.cellsOf 42=7 by kernel_rfl]at hl
  obtain⟨c0,c1,c2,c3,c4,c5,c6,rfl⟩:∃c0 c1 c2 c3 c4 c5 c6,cs=[c0,c1,c2,c3,c4,c5,c6]:=by
   match cs,hl with
   | [c0,c1,c2,c3,c4,c5,c6],_=>exact⟨_,_,_,_,_,_,_,rfl⟩
  obtain⟨y0,f0⟩:=bQ hxl hf 0 _ rfl (t:=1) (by kernel_rfl);obtain⟨y1,f1⟩:=bQ hxl hf 1 _ rfl (t:=1) (by kernel_rfl);obtain⟨y2,f2⟩:=bQ hxl hf 2 _ rfl (t:=1) (by kernel_rfl);obtain⟨y3,f3⟩:=bQ hxl hf 3 _ rfl (t:=1) (by kernel_rfl);obtain⟨y4,f4⟩:=bQ hxl hf 4 _ rfl (t:=1) (by kernel_rfl);obtain⟨y5,f5⟩:=bQ hxl hf 5 _ rfl (t:=1) (by kernel_rfl);obtain⟨y6,f6⟩:=bQ hxl hf 6 _ rfl (t:=1) (by kernel_rfl);obtain⟨op,e0, -,w0⟩:=DataW.trod_int Tryz.underlying37 f0;obtain⟨ps,e1, -,w1⟩:=DataW.trod_int Tryz.underlying3 f1;obtain⟨bo,e2, -⟩:=DataW.trod_bool Tryz.underlying4 f2;obtain⟨it,e3, -,w3⟩:=DataW.trod_int Tryz.underlying21 f3;obtain⟨fl,e4, -,w4⟩:=DataW.trod_int Tryz.underlying39 f4;obtain⟨nm,e5, -,w5⟩:=DataW.trod_string Tryz.underlying9 f5;obtain⟨s,k,e6,hs,hr,hk⟩:=iJ (sz:=7) (by decide) Tryz.underlying40 (by kernel_rfl) (fun e:Ex=>e.h.vs) (fun e=>e.In w.heap.size w) (fun m hm cs x h=>ih m (by omega) cs x h) f6;obtain rfl:c0=_:=List.head_eq_of_cons_eq e0;obtain rfl:c1=_:=List.head_eq_of_cons_eq e1;obtain rfl:c2=_:=List.head_eq_of_cons_eq e2;obtain rfl:c3=_:=List.head_eq_of_cons_eq e3;obtain rfl:c4=_:=List.head_eq_of_cons_eq e4
  obtain rfl:c5=_:=List.head_eq_of_cons_eq e5;obtain rfl:c6=_:=List.head_eq_of_cons_eq e6;exact⟨.mk ⟨op,ps,bo,it,fl,nm.data.toList,s⟩ k,rfl,⟨(lA w0).1,(lA w0).2,(fH w1).1,(fH w1).2,(jK w3).1,(jK w3).2,aCy w4,by rw[←Lib.size_eq];exact w5,hs⟩,hr,hk⟩
theorem aHs:∀(fuel:Nat) (cs:List Value) (x:DataW H×List MemPlace),DataW.trod enc Tryz.prog w base spare held fuel 48 cs=some x→∃s:St,cs=aS s.h s.e.h∧s.In w.heap.size w:=by
 intro fuel
 induction fuel using Nat.strongRecOn with
 | ind fuel ih=>
  intro cs x h;obtain⟨xs,n,rfl, -,hl,hxl,hf⟩:=DataW.trod_struct Tryz.underlying48 h;rw[show Tryz.prog.cellsOf 48=15 by kernel_rfl]at hl
  obtain⟨c0,c1,c2,c3,c4,c5,c6,c7,c8,c9,c10,c11,c12,c13,c14,rfl⟩:∃c0 c1 c2 c3 c4 c5 c6 c7 c8 c9 c10 c11 c12 c13 c14,cs=[c0,c1,c2,c3,c4,c5,c6,c7,c8,c9,c10,c11,c12,c13,c14]:=by
   match cs,hl with
   | [c0,c1,c2,c3,c4,c5,c6,c7,c8,c9,c10,c11,c12,c13,c14],_=>exact⟨_,_,_,_,_,_,_,_,_,_,_,_,_,_,_,rfl⟩
  obtain⟨y0,f0⟩:=bQ hxl hf 0 _ rfl (t:=1) (by kernel_rfl);obtain⟨y1,f1⟩:=bQ hxl hf 1 _ rfl (t:=1) (by kernel_rfl);obtain⟨y2,f2⟩:=bQ hxl hf 2 _ rfl (t:=1) (by kernel_rfl);obtain⟨y3,f3⟩:=bQ hxl hf 3 _ rfl (t:=1) (by kernel_rfl);obtain⟨y4,f4⟩:=bQ hxl hf 4 _ rfl (t:=7) (by kernel_rfl);obtain⟨y5,f5⟩:=bQ hxl hf 5 _ rfl (t:=1) (by kernel_rfl);obtain⟨y6,f6⟩:=bQ hxl hf 6 _ rfl (t:=1) (by kernel_rfl);obtain⟨y7,f7⟩:=bQ hxl hf 7 _ rfl (t:=1) (by kernel_rfl);obtain⟨y8,f8⟩:=bQ hxl hf 8 _ rfl (t:=1) (by kernel_rfl);obtain⟨kd,e0, -,w0⟩:=DataW.trod_int Tryz.underlying46 f0;obtain⟨ps,e1, -,w1⟩:=DataW.trod_int Tryz.underlying3 f1;obtain⟨nm,e2, -,w2⟩:=DataW.trod_string Tryz.underlying9 f2;obtain⟨sX,kX,e3,hsX,hrX,hkX⟩:=iJ (sz:=7) (by decide) Tryz.underlying40 (by kernel_rfl) (fun e:Ex=>e.h.vs) (fun e=>e.In w.heap.size w) (fun m _ cs x h=>aAn m cs x h) f3;obtain⟨e,e4,he⟩:=aAn n _ _ f4;obtain⟨lo,e5, -,w5⟩:=DataW.trod_int Tryz.underlying21 f5;obtain⟨hi,e6, -,w6⟩:=DataW.trod_int Tryz.underlying21 f6
  obtain⟨sT,kT,e7,hsT,hrT,hkT⟩:=iJ (sz:=15) (by decide) Tryz.underlying23 (by kernel_rfl) (fun s:St=>aS s.h s.e.h) (fun s=>s.In w.heap.size w) (fun m hm cs x h=>ih m (by omega) cs x h) f7;obtain⟨sL,kL,e8,hsL,hrL,hkL⟩:=iJ (sz:=15) (by decide) Tryz.underlying23 (by kernel_rfl) (fun s:St=>aS s.h s.e.h) (fun s=>s.In w.heap.size w) (fun m hm cs x h=>ih m (by omega) cs x h) f8;obtain rfl:c0=_:=List.head_eq_of_cons_eq e0;obtain rfl:c1=_:=List.head_eq_of_cons_eq e1;obtain rfl:c2=_:=List.head_eq_of_cons_eq e2;obtain rfl:c3=_:=List.head_eq_of_cons_eq e3;have q4:[c4,c5,c6,c7,c8,c9,c10]=e.h.vs:=e4;simp only[EH.vs,List.cons.injEq,and_true]at q4;obtain⟨rfl,rfl,rfl,rfl,rfl,rfl,rfl⟩:=q4;obtain rfl:c11=_:=List.head_eq_of_cons_eq e5;obtain rfl:c12=_:=List.head_eq_of_cons_eq e6;obtain rfl:c13=_:=List.head_eq_of_cons_eq e7;obtain rfl:c14=_:=List.head_eq_of_cons_eq e8;exact⟨.mk ⟨kd,ps,nm.data.toList,sX,lo,hi,sT,sL⟩ kX e kT kL,rfl,⟨(lA w0).1,(lA w0).2,(fH w1).1,(fH w1).2,(jK w5).1,(jK w5).2,(jK w6).1,(jK w6).2,by rw[←Lib.size_eq];exact w2,hsX,hsT,hsL⟩,⟨hsX,hrX,hkX⟩,he,hrT,hkT,hrL,hkL⟩
theorem aLG (fuel:Nat)(cs:List Value)(x:DataW H×List MemPlace)(h:DataW.trod enc Tryz.prog w base spare held fuel 44 cs=some x):∃d:De,cs=dM d d.lo.h d.hi.h∧d.In w.heap.size w:=by
 obtain⟨xs,n,rfl, -,hl,hxl,hf⟩:=DataW.trod_struct Tryz.underlying44 h;rw[show Tryz.prog.cellsOf 44=20 by kernel_rfl]at hl
 obtain⟨c0,c1,c2,c3,c4,c5,c6,c7,c8,c9,c10,c11,c12,c13,c14,c15,c16,c17,c18,c19,rfl⟩:∃c0 c1 c2 c3 c4 c5 c6 c7 c8 c9 c10 c11 c12 c13 c14 c15 c16 c17 c18 c19,cs=[c0,c1,c2,c3,c4,c5,c6,c7,c8,c9,c10,c11,c12,c13,c14,c15,c16,c17,c18,c19]:=by
  match cs,hl with
  | [c0,c1,c2,c3,c4,c5,c6,c7,c8,c9,c10,c11,c12,c13,c14,c15,c16,c17,c18,c19],_=>exact⟨_,_,_,_,_,_,_,_,_,_,_,_,_,_,_,_,_,_,_,_,rfl⟩
 obtain⟨y0,f0⟩:=bQ hxl hf 0 _ rfl (t:=1) (by kernel_rfl);obtain⟨y1,f1⟩:=bQ hxl hf 1 _ rfl (t:=1) (by kernel_rfl);obtain⟨y2,f2⟩:=bQ hxl hf 2 _ rfl (t:=1) (by kernel_rfl);obtain⟨y3,f3⟩:=bQ hxl hf 3 _ rfl (t:=1) (by kernel_rfl);obtain⟨y4,f4⟩:=bQ hxl hf 4 _ rfl (t:=1) (by kernel_rfl);obtain⟨y5,f5⟩:=bQ hxl hf 5 _ rfl (t:=1) (by kernel_rfl);obtain⟨y6,f6⟩:=bQ hxl hf 6 _ rfl (t:=7) (by kernel_rfl);obtain⟨y7,f7⟩:=bQ hxl hf 7 _ rfl (t:=7) (by kernel_rfl);obtain⟨ps,e0, -,w0⟩:=DataW.trod_int Tryz.underlying3 f0;obtain⟨inp,e1, -⟩:=DataW.trod_bool Tryz.underlying4 f1;obtain⟨nm,e2, -,w2⟩:=DataW.trod_string Tryz.underlying9 f2;obtain⟨ty,e3, -,w3⟩:=DataW.trod_int Tryz.underlying36 f3;obtain⟨len,e4, -,w4⟩:=DataW.trod_int Tryz.underlying3 f4;obtain⟨rg,e5, -⟩:=DataW.trod_bool Tryz.underlying4 f5;obtain⟨lo,e6,hlo⟩:=aAn n _ _ f6;obtain⟨hi,e7,hhi⟩:=aAn n _ _ f7;obtain rfl:c0=_:=List.head_eq_of_cons_eq e0;obtain rfl:c1=_:=List.head_eq_of_cons_eq e1;obtain rfl:c2=_:=List.head_eq_of_cons_eq e2;obtain rfl:c3=_:=List.head_eq_of_cons_eq e3;obtain rfl:c4=_:=List.head_eq_of_cons_eq e4;obtain rfl:c5=_:=List.head_eq_of_cons_eq e5;have q6:[c6,c7,c8,c9,c10,c11,c12]=lo.h.vs:=e6
 simp only[EH.vs,List.cons.injEq,and_true]at q6;obtain⟨rfl,rfl,rfl,rfl,rfl,rfl,rfl⟩:=q6;have q7:[c13,c14,c15,c16,c17,c18,c19]=hi.h.vs:=e7;simp only[EH.vs,List.cons.injEq,and_true]at q7;obtain⟨rfl,rfl,rfl,rfl,rfl,rfl,rfl⟩:=q7;exact⟨⟨ps,inp,nm.data.toList,ty,len,rg,lo,hi⟩,rfl,⟨(fH w0).1,(fH w0).2,(lA w3).1,(lA w3).2,(fH w4).1,(fH w4).2,by rw[←Lib.size_eq];exact w2⟩,hlo,hhi⟩
theorem aLF (fuel:Nat)(cs:List Value)(x:DataW H×List MemPlace)(h:DataW.trod enc Tryz.prog w base spare held fuel 25 cs=some x):∃p:Pr,cs=[.int .i64 p.ticks,.slice p.ds.ao p.ds.n p.ds.c,.slice p.is.ao p.is.n p.is.c,.slice p.ss.ao p.ss.n p.ss.c]∧p.In w.heap.size w:=by
 obtain⟨xs,n,rfl, -,hl,hxl,hf⟩:=DataW.trod_struct Tryz.underlying25 h;rw[show Tryz.prog.cellsOf 25=4 by kernel_rfl]at hl
 obtain⟨c0,c1,c2,c3,rfl⟩:∃c0 c1 c2 c3,cs=[c0,c1,c2,c3]:=by
  match cs,hl with
  | [c0,c1,c2,c3],_=>exact⟨_,_,_,_,rfl⟩
 obtain⟨y0,f0⟩:=bQ hxl hf 0 _ rfl (t:=1) (by kernel_rfl);obtain⟨y1,f1⟩:=bQ hxl hf 1 _ rfl (t:=1) (by kernel_rfl);obtain⟨y2,f2⟩:=bQ hxl hf 2 _ rfl (t:=1) (by kernel_rfl);obtain⟨y3,f3⟩:=bQ hxl hf 3 _ rfl (t:=1) (by kernel_rfl);obtain⟨tk,e0, -,w0⟩:=DataW.trod_int Tryz.underlying3 f0;obtain⟨sD,kD,e1,hsD,hrD,hkD⟩:=iJ (sz:=20) (by decide) Tryz.underlying22 (by kernel_rfl) (fun d:De=>dM d d.lo.h d.hi.h) (fun d=>d.In w.heap.size w) (fun m _ cs x h=>aLG m cs x h) f1;obtain⟨sI,kI,e2,hsI,hrI,hkI⟩:=iJ (sz:=15) (by decide) Tryz.underlying23 (by kernel_rfl) (fun s:St=>aS s.h s.e.h) (fun s=>s.In w.heap.size w) (fun m _ cs x h=>aHs m cs x h) f2;obtain⟨sS,kS,e3,hsS,hrS,hkS⟩:=iJ (sz:=15) (by decide) Tryz.underlying23 (by kernel_rfl) (fun s:St=>aS s.h s.e.h) (fun s=>s.In w.heap.size w) (fun m _ cs x h=>aHs m cs x h) f3;obtain rfl:c0=_:=List.head_eq_of_cons_eq e0;obtain rfl:c1=_:=List.head_eq_of_cons_eq e1;obtain rfl:c2=_:=List.head_eq_of_cons_eq e2;obtain rfl:c3=_:=List.head_eq_of_cons_eq e3;exact⟨⟨tk,sD,kD,sI,kI,sS,kS⟩,rfl,fH w0,⟨hsD,hrD,hkD⟩,⟨hsI,hrI,hkI⟩,⟨hsS,hrS,hkS⟩⟩
theorem aFq {r:Reach}{bb:Nat}{v:Value}{d:DataW H}{p:List MemPlace}(hv:Value.okWide Tryz.prog w r bb 25 v)(h:DataW.Trod enc Tryz.prog w base spare held 25 v d p):∃q:Pr,v=q.v∧q.In w.heap.size w:=by
 unfold Value.okWide at hv;rw[Tryz.underlying25]at hv;obtain⟨cs,rfl, -, -⟩:=hv;obtain⟨fuel,hf⟩:=h;obtain⟨q,e,hq⟩:=aLF fuel _ _ hf;refine⟨q,?_,hq⟩;have e':cs.toList=_:=e;unfold Pr.v
 congr 1
 exact Array.ext' e'
end
end Go.Proofs.YtkbicfffokegeaaGreatDoor
