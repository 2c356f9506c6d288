/-
  Whatever program is handed in, CheckChecks answers true. (part 32 of 38) Conditions: none beside what the card ties.
-/
import Derived.Test.YtkbicfffokegeaaGreatDoorCav
namespace Go.Proofs.YtkbicfffokegeaaGreatDoor
set_option maxHeartbeats 16000000
open Go.RowKit
set_option maxRecDepth 100000
def pP (R M:Nat):Nat→Prop:=fun k=>k=R∨k=M
theorem vJ (h:SH)(e:EH):stv h e=.agg (aS h e).toArray:=rfl
theorem aJl (h:SH)(e:EH):sO h e=.cells (aS h e).toArray 48 (0,0):=rfl
theorem pC {w:World}{k:Nat}{h:SH}{e:EH}(g:w.heap[k]? = some (sO h e)):w.rangeAt k 0 (aS h e):=by
 intro j v hv;rw[Nat.zero_add,aK g j,←Array.getElem?_toList];exact hv
theorem aCE (h:SH)(e:EH):((aS h e).toArray.all (·.oneCell'))=true:=by simp[aS,Value.oneCell']
def aAX (w0:World)(R M:Nat)(s:St):Prop:=∀(S:Sc) (n:Nat) (w:World),S.good→n≤1000000+S.loops.length→Below w0.heap.size w0 w→Ckr R M n S w →
 Calls Tryz.prog 39 #[.pointer (some ⟨R,0,none⟩),stv s.h s.e.h] w fun r w'=>r=unE (s.ck aU S)∧Fx (pP R M) w.heap.size w w'∧(s.ck aU S=.ok ()→Ckr R M n S w')
theorem xN {w0 w w':World}{R M:Nat}(hb:Below w0.heap.size w0 w)(hf:Fx (pP R M) w.heap.size w w')(hR:w0.heap.size≤R)(hM:w0.heap.size≤M):Below w0.heap.size w0 w':=
 hb.trans ((hf.mono hb.size (fun _ _ x=>x)).bel (fun k hk (x:k=R∨k=M)=>by omega))
theorem jY (w0:World)(R M:Nat)(hR:w0.heap.size≤R)(hM:w0.heap.size≤M)(sl:Sl)(k:Nat→St)(ih:∀i,i<sl.n→aAX w0 R M (k i))(hI:gL w0.heap.size w0 sl k)(hn:sl.n≤1000000)
  (S:Sc) (n:Nat) (w:World) (hS:S.good) (hnn:n≤1000000+S.loops.length) (hb:Below w0.heap.size w0 w) (hC:Ckr R M n S w) :
  Calls Tryz.prog 23 #[.pointer (some ⟨R,0,none⟩),.slice sl.ao sl.n sl.c] w fun r w'=>r=unE (cP (fun i=>(k i).ck aU S) sl.n)∧Fx (pP R M) w.heap.size w w'∧(cP (fun i=>(k i).ck aU S) sl.n=.ok ()→Ckr R M n S w'):=by
 have IH:=Hj ih;have HI:=Hj hI;have HM:=Hj hn;have HS:=Hj hS;have HN:=Hj hnn;have HB:=Hj hb;have HC:=Hj hC;have HRM:=Hj (And.intro hR hM);clear ih hI hn hS hnn hb hC hR hM;obtain⟨ao,m,c⟩:=sl;dsimp only at *;go_enter Tryz.func23,Tryz.ntmps23;go_wp2_with fail
 go_loopg [8] m (fun gk i wr=>∃j:Nat,i=.int .i64 (j:Int)∧Hid (gk=m-j∧j≤m)∧Hid (cP (fun i=>(k i).ck aU S) j=.ok ())∧Hid (Ckr R M n S wr)∧Hid (Fx (pP R M) w.heap.size w wr))
 case atStart=>exact⟨0,rfl,⟨rfl,Nat.zero_le _⟩,rfl,HC.out,Fx.refl _ _ _⟩
 case round=>
  obtain⟨j,rfl,HJ,HL,HCr,HF⟩:=hrel;have BW:=Hj (xN HB.out HF.out HRM.out.1 HRM.out.2)
  by_cases hlt:j<m
  ·have z0:(j:Int)<(m:Int):=by omega
   have ovi:IntKind.i64.wrap ((j:Int)+1)=((j+1:Nat):Int):=by have:=HM.out;rw[IntKind.wrap_i64];omega
   obtain⟨a,b,o,rfl,hA,hb1,h4⟩:=(HI.out.below BW.out (aD _)).2.1.at HI.out.1 hlt rfl;have RC:=Hj (show wr.rangeAt b o (aS (k j).h (k j).e.h)from h4);have BX:=Hj (bS (Below.refl wr.heap.size wr) (aD _) (sO (k j).h (k j).e.h));have RA:=Hj (pC (cD wr (sO (k j).h (k j).e.h)));have C1:=Hj (IH.out j hlt S n (bx wr (sO (k j).h (k j).e.h)) HS.out HN.out (BW.out.trans (BX.out.mono BW.out.size)) (HCr.out.bel BX.out));have HLT:=Hj hlt;rw[vJ]at C1;have O1:=Hj (aCE (k j).h (k j).e.h);rw[aJl]at C1 BX RA;obtain⟨V1,hV1⟩:∃V,aS (k j).h (k j).e.h=V:=⟨_,rfl⟩;have L1:=Hj (show(Tryz.prog.info? 48).map (·.size)=some V1.length∧V1.length=15 by rw[←hV1];exact⟨by kernel_rfl,rfl⟩);rw[hV1]at C1 BX RA RC O1;clear hb1 hlt hV1 h4 HCr
   go_upto_region 3 with(first
    | refine wpList_load_mid rfl 48 _ rfl b o rfl V1 _ RC.out Tryz.underlying48 rfl L1.out.1 ?_
    | refine vL rfl 48 _ _ rfl wr _ V1.toArray rfl rfl (by rw[List.size_toArray];exact L1.out.1) (by have h:V1.toArray.size=15:=(by rw[List.size_toArray];exact L1.out.2);rw[h];rfl) O1.out ?_)
   clear RC O1;generalize bx wr (.cells V1.toArray 48 (0,0))=wb at *
   go_wp2_with (refine wpList_load_mid rfl 48 _ rfl wr.heap.size 0 rfl V1 _ RA.out Tryz.underlying48 rfl L1.out.1 ?_)
   refine C1.out.mono ?_;rintro r w4 ⟨rfl,hf4,hck⟩;have F4:=Hj (aJ HF.out (aJ (Fx.of BX.out) hf4));have HCK:=Hj hck;clear RA L1 C1 hf4 hck BX HF BW
   cases hc:(k j).ck aU S with
   | no c p=>
    have E:Hid (cP (fun i=>(k i).ck aU S) m=.no c p):=yT hc HL.out m HLT.out;clear hc;dsimp only[unE];go_wp2_with fail;refine⟨rfl,?_,F4.out,fun h=>?_⟩
    ·rw[E.out];rfl
    ·rw[E.out]at h;cases h
   | ok u=>
    have NXT:Hid (cP (fun i=>(k i).ck aU S) (j+1)=.ok ()):=by show cP _ (j+1)=_;simp only[cP,HL.out,Ck.bind,hc]
    have CK:=Hj (HCK.out hc);clear hc HCK;dsimp only[unE];go_wp2_with fail
    go_roundg (m-(j+1))
    case measure=>have:=HJ.out;have:=HLT.out;omega
    case rel=>exact⟨j+1,by go_num,⟨rfl,HLT.out⟩,NXT.out,CK.out,F4.out⟩
  ·obtain rfl:j=m:=by have:=HJ.out;omega
   have z0:¬(j:Int)<(j:Int):=by omega
   clear hlt;go_wp2_with fail;refine bodyPost_end (results_none rfl _ _ _) rfl ⟨?_,HF.out,fun _=>HCr.out⟩;rw[HL.out];rfl
theorem Ckf.put {R M n:Nat}{f:List UInt8→Option Mn}{st:Bool}{lp:Int}{w:World}(h:Ckf R M n f st lp w)(hn:n<maxLen){x:List UInt8}(hx:x.length≤maxLen)(m:Mn) :
  ∃w',(Instr.mapUpdate 65 (.map (some M)) (.string ⟨x.toArray⟩) (mnV m)).run Tryz.prog w=.ok () w'∧Ckf R M (n+1) (fun y=>if y=x then some m else f y) st lp w'∧Fx (On M) w.heap.size w w':=by
 obtain⟨w4,h4,h5,h6⟩:=h.mp.put hn hx m;exact⟨w4,h4,⟨(jM (B:=w.heap.size) h6).blk h.blk h.blk.lt (fun x=>h.ne x),h5,h.ne⟩,jM h6⟩
theorem Ckf.del {R M n:Nat}{f:List UInt8→Option Mn}{st:Bool}{lp:Int}{w:World}(h:Ckf R M (n+1) f st lp w){x:List UInt8}(hx:x.length≤maxLen)(hf:(f x).isSome=true)(ty:TypeId) :
  ∃w',(Builtin.delete_ #[65,9] ty #[.map (some M),.string ⟨x.toArray⟩]).run Tryz.prog w=.ok (.tuple #[]) w'∧Ckf R M n (fun y=>if y=x then none else f y) st lp w'∧Fx (On M) w.heap.size w w':=by
 obtain⟨w4,h4,h5,h6⟩:=h.mp.del hx hf ty;exact⟨w4,h4,⟨(jM (B:=w.heap.size) h6).blk h.blk h.blk.lt (fun x=>h.ne x),h5,h.ne⟩,jM h6⟩
theorem Ckf.lp {R M n:Nat}{f:List UInt8→Option Mn}{st:Bool}{lp:Int}{w:World}(h:Ckf R M n f st lp w)(lq:Int) :
  Ckf R M n f st lq (w.setCell ⟨R,2,none⟩ (.int .i64 lq))∧Fx (On R) w.heap.size w (w.setCell ⟨R,2,none⟩ (.int .i64 lq)):=
 ⟨⟨h.blk.set_ 2 (.int .i64 lq),h.mp.blk (Below.heap_setCell _ _ _ _ (by show M≠R;exact fun e=>h.ne e.symm)),h.ne⟩,bJ (X:=On R) (Fx.refl _ _ _) (p:=⟨R,2,none⟩) (.inl rfl) _⟩
theorem sE (S:Sc)(x:List UInt8):mnS (S.inner x)=fun y=>if y=x then some ⟨2,2,false⟩else mnS S y:=by
 funext y
 unfold mnS Sc.inner
 by_cases e:y=x
 ·subst e;simp
 ·simp only[List.mem_append,List.mem_singleton,e,or_false,if_false]
  rfl
theorem qL (S:Sc)(x:List UInt8):(mnS S x).isSome=true↔(S.find x).isSome=true∨x∈S.loops:=by
 unfold mnS
 by_cases e:x∈S.loops
 ·simp[e]
 ·simp[e]
theorem aHF {S:Sc}{x:List UInt8}(h:¬(mnS S x).isSome=true):(fun y=>if y=x then none else mnS (S.inner x) y)=mnS S:=by
 rw[sE]
 funext y
 by_cases e:y=x
 ·subst e
  rw[if_pos rfl]
  cases hm:mnS S y with
  | none=>rfl
  | some m=>rw[hm]at h;exact absurd rfl h
 ·rw[if_neg e]
  dsimp only;rw[if_neg e]
theorem zY {ops:Array Oper}{rest:List Oper}{o:Oper}{a:Act}{w:World}{Q:Exit→Act→World→Prop}(hg:o.guard=none)(m x:Operand)(ty:TypeId)(ht:o.type=ty)(hop:o.op=Op.call { callee:=Callee.builtin Builtin.delete,args:=#[m,x],argTypes:=#[65,9] })
  (M:Nat) (key:Value) (hm:a.eval m=.map (some M)) (hx:a.eval x=key) (w':World) (hrun:(Builtin.delete_ #[65,9] ty #[.map (some M),key]).run Tryz.prog w=.ok (.tuple #[]) w')
  (hK:wpList Tryz.prog ops Q rest (a.put o.dst (.tuple #[])) w'):wpList Tryz.prog ops Q (o::rest) a w:=by
 refine wpList_plain hg fun K' hK'=>?_;unfold Oper.wp
 simp[execOp,hop,resolve,invoke,builtin,hm,hx,ht,hrun,Result.andThen]
 exact hK' _ _ hK
theorem vE {r:Ck Unit}{c p:Int}(h:r=.no c p):Ending.panicked (wV c p)=unE r:=by rw[h];rfl
theorem aLh {r:Ck Unit}(h:r=.ok ()):Ending.returned (.tuple #[])=unE r:=by rw[h];rfl
theorem aBI {r:Ck Unit}{c p:Int}{P:Prop}(h:r=.no c p)(k:r=.ok ()):P:=by rw[h]at k;cases k
theorem rmM {R M:Nat}{w w':World}(h:Fx (On M) w.heap.size w w'):Fx (pP R M) w.heap.size w w':=h.mono (aD _) fun _ _ x=>.inr x
theorem rmR {R M:Nat}{w w':World}(h:Fx (On R) w.heap.size w w'):Fx (pP R M) w.heap.size w w':=h.mono (aD _) fun _ _ x=>.inl x
theorem jS {R M k:Nat}{w w':World}{o:Obj}(h:Fx (pP R M) w.heap.size w w')(hk:k<w.heap.size)(h1:k≠R)(h2:k≠M)(g:w.heap[k]? = some o):w'.heap[k]? = some o:=
 (h.block k hk (fun x=>x.elim h1 h2)).trans g
def loC (S:Sc)(s:St):Ck Unit:=
 if aU s.h.nm=false then .no 120 s.h.ps
 else if(S.find s.h.nm).isSome=true∨s.h.nm∈S.loops then .no 121 s.h.ps
 else if 16≤s.h.hi-s.h.lo∨2≤S.loops.length then .no 123 s.h.ps
 else cP (fun i=>(s.t i).ck aU (S.inner s.h.nm)) s.h.ts.n
theorem aFU (w0:World)(R M:Nat)(hE:Env9 w0)(hR:w0.heap.size≤R)(hM:w0.heap.size≤M)(s:St)(ih:∀i,i<s.h.ts.n→aAX w0 R M (s.t i))(hI:s.In w0.heap.size w0)(hw:s.wt≤1000000)
  (S:Sc) (n:Nat) (w:World) (hS:S.good) (hnn:n≤1000000+S.loops.length) (hb:Below w0.heap.size w0 w) (hC:Ckr R M n S w) :
  Calls Tryz.prog 61 #[.pointer (some ⟨R,0,none⟩),stv s.h s.e.h] w fun r w'=>r=unE (loC S s)∧Fx (pP R M) w.heap.size w w'∧(loC S s=.ok ()→Ckr R M n S w'):=by
 rw[St.wt_eq]at hw;have hnm:s.h.nm.length≤1000000:=by omega
 have hts:s.h.ts.n≤1000000:=by
  have:∀m,m≤sm (fun i=>(s.t i).wt) m:=by
   intro m
   induction m with
   | zero=>exact aD _
   | succ m im=>
    have:1≤(s.t m).wt:=by rw[St.wt_eq];omega
    show m+1≤sm (fun i=>(s.t i).wt) m+(s.t m).wt;omega
  have:=this s.h.ts.n;omega
 have hok:=hI.ok
 have BL:Hid (∀(n':Nat) (w':World),n'≤1000000+(S.loops.length+1)→Below w0.heap.size w0 w'→Ckr R M n' (S.inner s.h.nm) w'→Calls Tryz.prog 23 #[.pointer (some ⟨R,0,none⟩),.slice s.h.ts.ao s.h.ts.n s.h.ts.c] w' fun r w''=>r=unE (cP (fun i=>(s.t i).ck aU (S.inner s.h.nm)) s.h.ts.n)∧Fx (pP R M) w'.heap.size w' w''∧(cP (fun i=>(s.t i).ck aU (S.inner s.h.nm)) s.h.ts.n=.ok ()→Ckr R M n' (S.inner s.h.nm) w'')):=fun n' w' h1 h2 h3=>
  jY w0 R M hR hM s.h.ts s.t ih hI.ts hts (S.inner s.h.nm) n' w' hS (by show n'≤1000000+(S.loops++[s.h.nm]).length;simp;omega) h2 h3
 have BX:=bS (Below.refl w.heap.size w) (aD _) (sO s.h s.e.h)
 have EN:Hid (∀w',Below (bx w (sO s.h s.e.h)).heap.size (bx w (sO s.h s.e.h)) w'→Calls Tryz.prog 15 #[.string ⟨s.h.nm.toArray⟩] w' fun r w''=>r=.returned (.bool (aU s.h.nm))∧Below w'.heap.size w' w''):=fun w' h=>
  tD ⟨s.h.nm.toArray⟩ w' (by rw[Lib.size_eq];exact aF hnm (by decide)) (((hE.below hb).below BX).below h)
 have HC1:Hid (Ckr R M n S (bx w (sO s.h s.e.h))):=Ckf.bel hC BX;have G:=Hj (cD w (sO s.h s.e.h));have B1:=Hj BX;have HB:=Hj hb;have HNN:=Hj hnn;have HRL:Hid (R<w.heap.size∧M<w.heap.size):=⟨hC.blk.lt,hC.mp.lt⟩;have HRM:=Hj (And.intro hR hM);have HNM:=Hj hnm;have hlo:=hok.lo0;have hlo1:=hok.lo1;have hhi:=hok.hi0;have hhi1:=hok.hi1;have HSZ:Hid ((bx w (sO s.h s.e.h)).heap.size=w.heap.size+1):=cJ _ _;unfold loC;generalize cP (fun i=>(s.t i).ck aU (S.inner s.h.nm)) s.h.ts.n=Y at *;clear hok hI hE ih hw hts hnm hS hnn hb hC hR hM BX;generalize s.e.h=e at *;generalize s.h=h at *;obtain⟨LC,hLC⟩:∃LC,LC=(if aU h.nm=false then Ck.no 120 h.ps else if(S.find h.nm).isSome=true∨h.nm∈S.loops then .no 121 h.ps else if 16≤h.hi - h.lo∨2≤S.loops.length then .no 123 h.ps else Y):=⟨_,rfl⟩;rw[←hLC];have HLC:=Hj hLC;clear hLC;show Calls Tryz.prog 61 #[.pointer (some ⟨R,0,none⟩),.agg #[.int .u8 h.kd,.int .i64 h.ps,.string ⟨h.nm.toArray⟩,.slice h.xs.ao h.xs.n h.xs.c,.int .u8 e.op,.int .i64 e.ps,.bool e.bo,.int .i32 e.it,.int .u64 e.fl,.string ⟨e.nm.toArray⟩,.slice e.s.ao e.s.n e.s.c,.int .i32 h.lo,.int .i32 h.hi,.slice h.ts.ao h.ts.n h.ts.c,.slice h.es.ao h.es.n h.es.c]] w _;go_enter Tryz.func61,Tryz.ntmps61
 go_upto_region 1 with fail;rw[aCj w h e];generalize bx w (sO h e)=w1 at *
 have KG:Hid (∀w',Below w1.heap.size w1 w'→(w'.cell? ⟨w.heap.size,2,none⟩=some (.string ⟨h.nm.toArray⟩)∧w'.cell? ⟨w.heap.size,1,none⟩=some (.int .i64 h.ps))):=fun w' hw=>by
  have D:=bX (aV hw G.out);exact⟨D.c2,D.c1⟩
 cases hin:aU h.nm with
 | false=>
  have E:Hid (LC=.no 120 h.ps):=by show LC=_;rw[HLC.out,if_pos hin]
  rw[hin]at EN;clear hin HLC BL;refine aL (S:=fun w'=>w'.cell? ⟨w.heap.size,2,none⟩=some (.string ⟨h.nm.toArray⟩)∧w'.cell? ⟨w.heap.size,1,none⟩=some (.int .i64 h.ps)) _ [(0,true),(1,true),(3,true),(4,true),(2,false),(5,false)] (by kernel_rfl) (by kernel_rfl) rfl (by kernel_rfl) (by kernel_rfl) (fun _ _ d _ _ h=>by cases d<;>exact h) (KG.out _ (aH (Below.refl _ _))) ?_
  iterate 4
   refine Walk.take (v:=?_) rfl (by rfl) ?_ ?_;rotate_left
   ·(intro w' hSw;(try dsimp only at hSw);go_simp<;>with_reducible rfl)
   try simp only[Act.put,aA,aC,aB]
  refine Walk.act rfl (by rfl) (fun K hK=>?_);go_simp;go_at_call 15;refine(EN.out _ (aH (Below.refl _ _))).mono ?_;rintro r v1 ⟨rfl,b1⟩;dsimp only;have X1:Below w1.heap.size w1 v1:=aG (aH (Below.refl _ _)) b1;refine hK.out _ _ (KG.out _ X1) ?_;clear hK K;try simp only[Act.put,aA,aC,aB]
  refine Walk.act rfl (by rfl) (fun K hK=>?_);go_simp;go_at_call 20;refine(aT _ _ _ _).mono ?_;rintro r v2 ⟨rfl,e2⟩;dsimp only[muE];exact⟨rfl,vE E.out,Fx.of (aG B1.out (e2 ▸ X1)),fun k=>aBI E.out k⟩
 | true=>
  have HI1:=Hj hin;rw[hin]at EN;clear hin;refine aL (S:=fun w'=>w'.cell? ⟨w.heap.size,2,none⟩=some (.string ⟨h.nm.toArray⟩)∧w'.cell? ⟨w.heap.size,1,none⟩=some (.int .i64 h.ps)) _ [(0,true),(1,true),(3,true),(4,true),(2,false),(5,false)] (by kernel_rfl) (by kernel_rfl) rfl (by kernel_rfl) (by kernel_rfl) (fun _ _ d _ _ h=>by cases d<;>exact h) (KG.out _ (aH (Below.refl _ _))) ?_
  iterate 4
   refine Walk.take (v:=?_) rfl (by rfl) ?_ ?_;rotate_left
   ·(intro w' hSw;(try dsimp only at hSw);go_simp<;>with_reducible rfl)
   try simp only[Act.put,aA,aC,aB]
  refine Walk.act rfl (by rfl) (fun K hK=>?_);go_simp;go_at_call 15;refine(EN.out _ (aH (Below.refl _ _))).mono ?_;rintro r v1 ⟨rfl,b1⟩;dsimp only;have X1:Below w1.heap.size w1 v1:=aG (aH (Below.refl _ _)) b1;refine hK.out _ _ (KG.out _ X1) ?_;clear hK K;try simp only[Act.put,aA,aC,aB]
  refine Walk.act rfl (by rfl) (fun K hK=>?_);go_simp;go_at_call 20;refine(aT _ _ _ _).mono ?_;rintro r v2 ⟨rfl,e2⟩;dsimp only[muE];have X2:Below w1.heap.size w1 v2:=e2 ▸ X1;refine hK.out _ _ (KG.out _ X2) ?_;clear hK K;try simp only[Act.put,aA,aC,aB]
  refine Walk.done ?_;have B2:=Hj (aG B1.out X2);have G2:=Hj (aV X2 G.out);have HC2:Hid (Ckr R M n S v2):=HC1.out.bel X2;clear KG X1 X2 b1 e2 EN B1 G HC1;go_upto_region 2 with fail;generalize v2=w2 at *;have KN:Hid (∀w',Below w2.heap.size w2 w'→Calls Tryz.prog 28 #[.pointer (some ⟨R,0,none⟩),.string ⟨h.nm.toArray⟩] w' fun r w''=>r=.returned (.bool (mnS S h.nm).isSome)∧Below w'.heap.size w' w''):=fun w' hb=>nM R M n _ _ _ h.nm w' (HC2.out.bel hb) (aF HNM.out (by decide))
  have KG:Hid (∀w',Below w2.heap.size w2 w'→(w'.cell? ⟨w.heap.size,2,none⟩=some (.string ⟨h.nm.toArray⟩)∧w'.cell? ⟨w.heap.size,1,none⟩=some (.int .i64 h.ps))):=fun w' hw=>by
   have D:=bX (aV hw G2.out);exact⟨D.c2,D.c1⟩
  cases hk:(mnS S h.nm).isSome with
  | true=>
   have E:Hid (LC=.no 121 h.ps):=by show LC=_;rw[HLC.out,if_neg (by rw[HI1.out];simp),if_pos ((qL S h.nm).1 hk)]
   rw[hk]at KN;clear hk HLC BL;refine aL (S:=fun w'=>w'.cell? ⟨w.heap.size,2,none⟩=some (.string ⟨h.nm.toArray⟩)∧w'.cell? ⟨w.heap.size,1,none⟩=some (.int .i64 h.ps)) _ [(0,true),(1,true),(2,true),(5,true),(6,true),(3,false),(4,true),(7,false)] (by kernel_rfl) (by kernel_rfl) rfl (by kernel_rfl) (by kernel_rfl) (fun _ _ d _ _ h=>by cases d<;>exact h) (KG.out _ (aH (Below.refl _ _))) ?_
   iterate 5
    refine Walk.take (v:=?_) rfl (by rfl) ?_ ?_;rotate_left
    ·(intro w' hSw;(try dsimp only at hSw);go_simp<;>with_reducible rfl)
    try simp only[Act.put,aA,aC,aB]
   refine Walk.act rfl (by rfl) (fun K hK=>?_);go_simp;go_at_call 28;refine(KN.out _ (aH (Below.refl _ _))).mono ?_;rintro r v1 ⟨rfl,b1⟩;dsimp only;have X1:Below w2.heap.size w2 v1:=aG (aH (Below.refl _ _)) b1;refine hK.out _ _ (KG.out _ X1) ?_;clear hK K;try simp only[Act.put,aA,aC,aB]
   iterate 1
    refine Walk.take (v:=?_) rfl (by rfl) ?_ ?_;rotate_left
    ·(intro w' hSw;(try dsimp only at hSw);go_simp<;>with_reducible rfl)
    try simp only[Act.put,aA,aC,aB]
   refine Walk.act rfl (by rfl) (fun K hK=>?_);go_simp;go_at_call 20;refine(aT _ _ _ _).mono ?_;rintro r v2 ⟨rfl,e2⟩;dsimp only[muE];exact⟨rfl,vE E.out,Fx.of (aG B2.out (e2 ▸ X1)),fun k=>aBI E.out k⟩
  | false=>
   have HK1:Hid (¬(mnS S h.nm).isSome=true):=by show ¬_;rw[hk];simp
   rw[hk]at KN;clear hk;refine aL (S:=fun w'=>w'.cell? ⟨w.heap.size,2,none⟩=some (.string ⟨h.nm.toArray⟩)∧w'.cell? ⟨w.heap.size,1,none⟩=some (.int .i64 h.ps)) _ [(0,true),(1,true),(2,true),(5,true),(6,true),(3,false),(4,true),(7,false)] (by kernel_rfl) (by kernel_rfl) rfl (by kernel_rfl) (by kernel_rfl) (fun _ _ d _ _ h=>by cases d<;>exact h) (KG.out _ (aH (Below.refl _ _))) ?_
   iterate 5
    refine Walk.take (v:=?_) rfl (by rfl) ?_ ?_;rotate_left
    ·(intro w' hSw;(try dsimp only at hSw);go_simp<;>with_reducible rfl)
    try simp only[Act.put,aA,aC,aB]
   refine Walk.act rfl (by rfl) (fun K hK=>?_);go_simp;go_at_call 28;refine(KN.out _ (aH (Below.refl _ _))).mono ?_;rintro r v1 ⟨rfl,b1⟩;dsimp only;have X1:Below w2.heap.size w2 v1:=aG (aH (Below.refl _ _)) b1;refine hK.out _ _ (KG.out _ X1) ?_;clear hK K;try simp only[Act.put,aA,aC,aB]
   iterate 1
    refine Walk.take (v:=?_) rfl (by rfl) ?_ ?_;rotate_left
    ·(intro w' hSw;(try dsimp only at hSw);go_simp<;>with_reducible rfl)
    try simp only[Act.put,aA,aC,aB]
   refine Walk.act rfl (by rfl) (fun K hK=>?_);go_simp;go_at_call 20;refine(aT _ _ _ _).mono ?_;rintro r v2 ⟨rfl,e2⟩;dsimp only[muE];have X2:Below w2.heap.size w2 v2:=e2 ▸ X1;refine hK.out _ _ (KG.out _ X2) ?_;clear hK K;try simp only[Act.put,aA,aC,aB]
   refine Walk.done ?_;have B3:=Hj (aG B2.out X2);have G3:=Hj (aV X2 G2.out);have HC3:Hid (Ckr R M n S v2):=HC2.out.bel X2;clear KG X1 X2 b1 e2 KN B2 G2 HC2;go_upto_region 3 with fail;generalize v2=w3 at *;have HGK:Hid (w.heap.size<w3.heap.size∧w.heap.size≠R∧w.heap.size≠M):=by have:=HRL.out;exact⟨(Array.getElem?_eq_some_iff.1 G3.out).1,by omega,by omega⟩
   have D:=bX G3.out;have c1:=D.c1;have c11:=D.c11;have c12:=D.c12;have o1:IntKind.i64.wrap h.hi=h.hi:=by rw[IntKind.wrap_i64];omega
   have o2:IntKind.i64.wrap h.lo=h.lo:=by rw[IntKind.wrap_i64];omega
   have o3:IntKind.i64.wrap (h.hi-h.lo)=h.hi-h.lo:=by rw[IntKind.wrap_i64];omega
   clear D hlo hlo1 hhi hhi1
   by_cases hd:h.hi-h.lo<16
   ·go_wp2_with fail
    refine(aT _ _ _ _).mono ?_;rintro r w4 ⟨rfl,e4⟩;rw[e4];clear e4 w4;dsimp only[muE];have HD:=Hj hd;clear c11 c12 o1 o2 o3 hd;go_upto_region 4 with fail;have r2:w3.cell? ⟨R,2,none⟩=some (.int .i64 (S.loops.length:Int)):=HC3.out.blk.cell 2
    by_cases hl:S.loops.length<2
    ·have z0:(S.loops.length:Int)<2:=by omega
     have E:Hid (LC=Y):=by
      show LC=Y;rw[HLC.out,if_neg (by rw[HI1.out];simp),if_neg (fun h=>HK1.out ((qL S _).2 h)),if_neg (by have:=HD.out;omega)]
     have HL:=Hj hl;clear hl HLC
     go_still_tail 7,(by kernel_rfl)
     change wpList _ _ _ _ _ w3.drew;have B4:=Hj (aH B3.out);have G4:Hid (w3.drew.heap[w.heap.size]? = some (sO h e)):=G3.out;have HC4:Hid (Ckr R M n S w3.drew):=HC3.out.bel (aH (Below.refl _ w3));have HGK4:Hid (w.heap.size<w3.drew.heap.size∧w.heap.size≠R∧w.heap.size≠M):=HGK.out;clear r2 c1 B3 G3 HC3 HGK z0;generalize w3.drew=w4 at *;go_wp2_with fail;refine(aT _ _ _ _).mono ?_;rintro r w5 ⟨rfl,e5⟩;rw[e5];clear e5 w5;dsimp only[muE];have r0:w4.cell? ⟨R,0,none⟩=some (.map (some M)):=HC4.out.blk.cell 0;have c2:=(bX G4.out).c2;go_upto_region 5 with fail
     go_still_tail 7,(by kernel_rfl)
     change wpList _ _ _ _ _ w4.drew;obtain⟨w6,hr,hck,hfx⟩:=Ckf.put (HC4.out.bel (aH (Below.refl _ w4))) (by have:=HNN.out;have:=HL.out;unfold maxLen;omega) (aF HNM.out (by decide)) ⟨2,2,false⟩;rw[←sE]at hck;have hr':(Instr.mapUpdate 65 (.map (some M)) (.string ⟨h.nm.toArray⟩) (.agg #[.int .i64 2,.int .u8 2,.bool false])).run Tryz.prog w4.drew=.ok () w6:=hr;have F6:Hid (Fx (pP R M) w.heap.size w w6):=aJ (Fx.of (aH B4.out)) (rmM hfx);have G6:Hid (w6.heap[w.heap.size]? = some (sO h e)):=jS (R:=R) (M:=M) (rmM hfx) HGK4.out.1 HGK4.out.2.1 HGK4.out.2.2 G4.out;have HC6:=Hj hck;have HG6:Hid (w.heap.size<w6.heap.size):=aE HGK4.out.1 hfx.size;have d2:w6.cell? ⟨R,2,none⟩=some (.int .i64 (S.loops.length:Int)):=hck.blk.cell 2;have f2:=hck.blk.frozen 2;have o4:IntKind.i64.wrap ((S.loops.length:Int)+1)=(S.loops.length:Int)+1:=by have:=HL.out;rw[IntKind.wrap_i64];omega
     clear hr hck hfx r0 c2 B4 G4 HC4;generalize w4.drew=w5 at *;go_upto_region 7 with fail;obtain⟨hc7,hf7⟩:=HC6.out.lp ((S.loops.length:Int)+1);have F7:=Hj (aJ F6.out (rmR (M:=M) hf7));have G7:Hid ((w6.setCell ⟨R,2,none⟩ (.int .i64 ((S.loops.length:Int)+1))).heap[w.heap.size]? = some (sO h e)):=jS (R:=R) (M:=M) (rmR hf7) HG6.out HGK4.out.2.1 HGK4.out.2.2 G6.out
     have HC7:Hid (Ckr R M (n+1) (S.inner h.nm) (w6.setCell ⟨R,2,none⟩ (.int .i64 ((S.loops.length:Int)+1)))):=by
      show Ckf _ _ _ _ _ _ _;have e1:((S.inner h.nm).loops.length:Int)=(S.loops.length:Int)+1:=by show(((S.loops++[h.nm]).length:Nat):Int)=_;simp
      rw[e1];exact hc7
     have HG7:Hid (w.heap.size<(w6.setCell ⟨R,2,none⟩ (.int .i64 ((S.loops.length:Int)+1))).heap.size):=aE HG6.out hf7.size;clear hc7 hf7 d2 f2 o4 hr' F6 G6 HC6 HG6;generalize w6.setCell ⟨R,2,none⟩ (.int .i64 ((S.loops.length:Int)+1))=w7 at *;have C8:=Hj (BL.out (n+1) w7 (by have:=HNN.out;omega) (xN HB.out F7.out HRM.out.1 HRM.out.2) HC7.out);have c13:=(bX G7.out).c13;clear BL;go_wp2_with fail;refine C8.out.mono ?_;rintro r w8 ⟨rfl,hf8,hck8⟩;have F8:=Hj (aJ F7.out hf8);have G8:Hid (w8.heap[w.heap.size]? = some (sO h e)):=jS hf8 HG7.out HGK4.out.2.1 HGK4.out.2.2 G7.out;have HG8:Hid (w.heap.size<w8.heap.size):=aE HG7.out hf8.size;have CK8:=Hj hck8;clear C8 c13 hf8 hck8 F7 G7 HG7 HC7
     cases Y with
     | no c p=>
      dsimp only[unE];go_wp2_with fail;exact⟨rfl,vE E.out,F8.out,fun k=>aBI E.out k⟩
     | ok u=>
      have HC8:Hid (Ckf R M (n+1) (mnS (S.inner h.nm)) S.init ((S.loops.length:Int)+1) w8):=by
       have:=CK8.out rfl;have e1:((S.inner h.nm).loops.length:Int)=(S.loops.length:Int)+1:=by show(((S.loops++[h.nm]).length:Nat):Int)=_;simp
       unfold Ckr at this;rw[e1]at this;exact this
      clear CK8;dsimp only[unE];have d2:w8.cell? ⟨R,2,none⟩=some (.int .i64 ((S.loops.length:Int)+1)):=HC8.out.blk.cell 2;have f2:=HC8.out.blk.frozen 2;have o5:wrap64 (S.loops.length:Int)=(S.loops.length:Int):=by have:=HL.out;unfold wrap64;omega
      go_upto_region 9 with fail;obtain⟨hc9,hf9⟩:=HC8.out.lp (S.loops.length:Int);have F9:=Hj (aJ F8.out (rmR (M:=M) hf9));have G9:Hid ((w8.setCell ⟨R,2,none⟩ (.int .i64 (S.loops.length:Int))).heap[w.heap.size]? = some (sO h e)):=jS (R:=R) (M:=M) (rmR hf9) HG8.out HGK4.out.2.1 HGK4.out.2.2 G8.out;have HC9:=Hj hc9;clear hc9 hf9 d2 f2 o5 F8 G8 HG8 HC8;generalize w8.setCell ⟨R,2,none⟩ (.int .i64 (S.loops.length:Int))=w9 at *;have r0:w9.cell? ⟨R,0,none⟩=some (.map (some M)):=HC9.out.blk.cell 0;have c2:=(bX G9.out).c2
      go_still_tail 6,(by kernel_rfl)
      change wpList _ _ _ _ _ w9.drew;obtain⟨w11,hr,hck,hfx⟩:=Ckf.del (HC9.out.bel (aH (Below.refl _ w9))) (aF HNM.out (by decide)) (by rw[sE];simp) 0;have HKm:=aHF HK1.out;rw[HKm]at hck;refine zY rfl _ _ 0 rfl rfl M _ rfl rfl w11 hr ?_;have F11:Hid (Fx (pP R M) w.heap.size w w11):=aJ (aJ F9.out (Fx.of (aH (Below.refl _ w9)))) (rmM hfx);clear hr hfx r0 c2 HKm;go_wp2_with fail;refine bodyPost_end (results_none rfl _ _ _) rfl ⟨aLh E.out,F11.out,fun _=>hck⟩
    ·have z0:¬(S.loops.length:Int)<2:=by omega
     have E:Hid (LC=.no 123 h.ps):=by
      show LC=_;rw[HLC.out,if_neg (by rw[HI1.out];simp),if_neg (fun h=>HK1.out ((qL S _).2 h)),if_pos (by omega)]
     clear hl HLC BL
     go_still_tail 7,(by kernel_rfl)
     change wpList _ _ _ _ _ w3.drew;have B4:=Hj (aH B3.out);generalize w3.drew=w4 at *;go_wp2_with fail;refine(aT _ _ _ _).mono ?_;rintro r w5 ⟨rfl,e5⟩;rw[e5];clear e5 w5;dsimp only[muE];go_wp2_with fail;exact⟨rfl,vE E.out,Fx.of B4.out,fun k=>aBI E.out k⟩
   ·have E:Hid (LC=.no 123 h.ps):=by
     show LC=_;rw[HLC.out,if_neg (by rw[HI1.out];simp),if_neg (fun h=>HK1.out ((qL S _).2 h)),if_pos (by omega)]
    clear HLC BL;go_wp2_with fail;refine(aT _ _ _ _).mono ?_;rintro r w4 ⟨rfl,e4⟩;rw[e4];clear e4 w4;dsimp only[muE];go_wp2_with fail;exact⟨rfl,vE E.out,Fx.of B3.out,fun k=>aBI E.out k⟩
theorem pS (t:Nat→St)(m:Nat):m≤sm (fun i=>(t i).wt) m:=by
 induction m with
 | zero=>exact aD _
 | succ m im=>
  have:1≤(t m).wt:=by rw[St.wt_eq];omega
  show m+1≤sm (fun i=>(t i).wt) m+(t m).wt;omega
theorem aDG (w0:World)(R M:Nat)(s:St)(k1:s.h.kd=1)(hI:s.In w0.heap.size w0)(hw:sm (fun i=>(s.x i).wt) s.h.xs.n≤1000000∧s.e.wt≤1000000):aAX w0 R M s:=by
 intro S n w hS hnn hb hC;have BX:=bS (Below.refl w.heap.size w) (aD _) (sO s.h s.e.h);have HB1:=hb.trans (BX.mono hb.size);have HC1:Ckr R M n S (bx w (sO s.h s.e.h)):=Ckf.bel hC BX;have hI1:=hI.below HB1 (aD _);have G:=Hj (cD w (sO s.h s.e.h));have B1:=Hj BX;rw[St.ck_eq];rw[if_pos k1];have C:=Hj (aAM w0.heap.size R M n S hS s _ HC1 hI1 HB1.size hw);have RA:=Hj (pC G.out);have HC:=Hj HC1;have c0:=(bX G.out).c0;rw[k1]at c0;clear hI1 hI hw HB1 hb hC HC1 hS hnn BX;generalize lQ S s.h s.x s.e=Y at *;rw[vJ]at C;obtain⟨V1,hV1⟩:∃V,aS s.h s.e.h=V:=⟨_,rfl⟩;have L1:=Hj (show(Tryz.prog.info? 48).map (·.size)=some V1.length∧V1.length=15 by rw[←hV1];exact⟨by kernel_rfl,rfl⟩);rw[hV1]at C RA;clear hV1;generalize s.e.h=e at *;generalize s.h=h at *;clear k1;show Calls Tryz.prog 39 #[.pointer (some ⟨R,0,none⟩),.agg #[.int .u8 h.kd,.int .i64 h.ps,.string ⟨h.nm.toArray⟩,.slice h.xs.ao h.xs.n h.xs.c,.int .u8 e.op,.int .i64 e.ps,.bool e.bo,.int .i32 e.it,.int .u64 e.fl,.string ⟨e.nm.toArray⟩,.slice e.s.ao e.s.n e.s.c,.int .i32 h.lo,.int .i32 h.hi,.slice h.ts.ao h.ts.n h.ts.c,.slice h.es.ao h.es.n h.es.c]] w _;go_enter Tryz.func39,Tryz.ntmps39;go_upto_region 1 with fail
 rw[aCj w h e];generalize bx w (sO h e)=w1 at *
 go_wp2_with (refine wpList_load_mid rfl 48 _ rfl w.heap.size 0 rfl V1 _ RA.out Tryz.underlying48 rfl L1.out.1 ?_)
 refine C.out.mono ?_;rintro r w2 ⟨rfl,b2⟩;have B2:=Hj (aG B1.out b2);have HC2:Hid (Ckr R M n S w2):=HC.out.bel b2;clear C RA b2 HC c0
 cases Y with
 | no c p=>
  dsimp only[unE];go_wp2_with fail;exact⟨rfl,rfl,Fx.of B2.out,fun k=>by cases k⟩
 | ok u=>
  dsimp only[unE];go_wp2_with fail;exact bodyPost_end (results_none rfl _ _ _) rfl ⟨rfl,Fx.of B2.out,HC2.out⟩
theorem aFS (w0:World)(R M:Nat)(hE:Env9 w0)(hR:w0.heap.size≤R)(hM:w0.heap.size≤M)(s:St)(iht:∀i,i<s.h.ts.n→aAX w0 R M (s.t i))(ihl:∀i,i<s.h.es.n→aAX w0 R M (s.l i))(hI:s.In w0.heap.size w0)(hw:s.wt≤1000000):aAX w0 R M s:=by
 intro S n w hS hnn hb hC;have hw2:=hw;rw[St.wt_eq]at hw2;have nt:=pS s.t s.h.ts.n;have nl:=pS s.l s.h.es.n;have BX:=bS (Below.refl w.heap.size w) (aD _) (sO s.h s.e.h);have HB1:=hb.trans (BX.mono hb.size);have HC1:Ckr R M n S (bx w (sO s.h s.e.h)):=Ckf.bel hC BX;have hI1:=hI.below HB1 (aD _);have G:=Hj (cD w (sO s.h s.e.h));have B1:=Hj BX;have HRL:Hid (w.heap.size≠R∧w.heap.size≠M):=by have:=hC.blk.lt;have:=hC.mp.lt;exact⟨by omega,by omega⟩
 rw[St.ck_eq]
 by_cases k1:s.h.kd=1
 ·have:=aDG w0 R M s k1 hI ⟨by omega,by omega⟩ S n w hS hnn hb hC
  rw[St.ck_eq]at this;exact this
 ·rw[if_neg k1]
  by_cases k2:s.h.kd=2
  ·rw[if_pos k2]
   have C:=Hj (mJ w0.heap.size R M n S hS s.e 1 _ HC1 hI1.ex HB1.size (by omega));have CT:=Hj fun w' hb' hc'=>jY w0 R M hR hM s.h.ts s.t iht hI.ts (by omega) S n w' hS hnn hb' hc';have CL:=Hj fun w' hb' hc'=>jY w0 R M hR hM s.h.es s.l ihl hI.es (by omega) S n w' hS hnn hb' hc';have HC:=Hj HC1;have HB:=Hj HB1;have HRM:=Hj (And.intro hR hM);have D:=bX G.out;have c0:=D.c0;rw[k2]at c0;have d4:=D.c4;have d5:=D.c5;have d6:=D.c6;have d7:=D.c7;have d8:=D.c8;have d9:=D.c9;have d10:=D.c10;clear hI1 hI hw hw2 nt nl iht ihl hE HB1 hb hC HC1 hS hnn BX D hR hM k1;generalize cP (fun i=>(s.t i).ck aU S) s.h.ts.n=YT at *;generalize cP (fun i=>(s.l i).ck aU S) s.h.es.n=YL at *;obtain⟨Z,hZ⟩:∃Z:Ck Unit,((s.e.ck S).bind fun u=>dC (u == 1) 122 s.e.h.ps)=Z:=⟨_,rfl⟩
   have hY:((s.e.ck S).bind fun ty=>(dC (ty == 1) 122 s.e.h.ps).bind fun _=>YT.bind fun _=>YL)=Z.bind fun _=>YT.bind fun _=>YL:=by
    rw[←hZ]
    cases s.e.ck S<;>rfl
   rw[hY];rw[hZ]at C;clear hY hZ;clear k2;have HLT:Hid (w.heap.size<(bx w (sO s.h s.e.h)).heap.size):=by rw[cJ];exact Nat.lt_succ_self _
   generalize s.e.h=e at *;generalize s.h=h at *;show Calls Tryz.prog 39 #[.pointer (some ⟨R,0,none⟩),.agg #[.int .u8 h.kd,.int .i64 h.ps,.string ⟨h.nm.toArray⟩,.slice h.xs.ao h.xs.n h.xs.c,.int .u8 e.op,.int .i64 e.ps,.bool e.bo,.int .i32 e.it,.int .u64 e.fl,.string ⟨e.nm.toArray⟩,.slice e.s.ao e.s.n e.s.c,.int .i32 h.lo,.int .i32 h.hi,.slice h.ts.ao h.ts.n h.ts.c,.slice h.es.ao h.es.n h.es.c]] w _;go_enter Tryz.func39,Tryz.ntmps39;go_upto_region 1 with fail;rw[aCj w h e];generalize bx w (sO h e)=w1 at *;go_wp2_with fail;refine C.out.mono ?_;rintro r w2 ⟨rfl,b2⟩;have B2:=Hj (aG B1.out b2);have HB2:=Hj (HB.out.trans (b2.mono HB.out.size));have HC2:Hid (Ckr R M n S w2):=HC.out.bel b2;have G2:=Hj (aV b2 G.out);have HLT2:Hid (w.heap.size<w2.heap.size):=aE HLT.out b2.size;clear C b2 HC c0 d4 d5 d6 d7 d8 d9 d10 B1 HB G HLT
   cases Z with
   | no c p=>
    dsimp only[unE];go_wp2_with fail;exact⟨rfl,rfl,Fx.of B2.out,fun k=>by cases k⟩
   | ok u=>
    dsimp only[unE];have c7:=(bX G2.out).c13;have T:=Hj (CT.out w2 HB2.out HC2.out);go_wp2_with fail;refine T.out.mono ?_;rintro r w3 ⟨rfl,f3,ck3⟩;have F3:=Hj (aJ (Fx.of B2.out) f3);have HB3:=Hj (xN HB2.out f3 HRM.out.1 HRM.out.2);have G3:=Hj (jS f3 HLT2.out HRL.out.1 HRL.out.2 G2.out);have CK3:=Hj ck3;clear T CT f3 ck3 c7 B2 HB2 HC2 G2 HLT2
    cases YT with
    | no c p=>
     dsimp only[unE];go_wp2_with fail;exact⟨rfl,rfl,F3.out,fun k=>by cases k⟩
    | ok u=>
     dsimp only[unE];have c8:=(bX G3.out).c14;have T:=Hj (CL.out w3 HB3.out (CK3.out rfl));go_wp2_with fail;refine T.out.mono ?_;rintro r w4 ⟨rfl,f4,ck4⟩;have F4:=Hj (aJ F3.out f4);have CK4:=Hj ck4;clear T CL f4 ck4 c8
     cases YL with
     | no c p=>
      dsimp only[unE];go_wp2_with fail;exact⟨rfl,rfl,F4.out,fun k=>by cases k⟩
     | ok u=>
      dsimp only[unE];go_wp2_with fail;exact bodyPost_end (results_none rfl _ _ _) rfl ⟨rfl,F4.out,fun _=>CK4.out trivial⟩
  ·rw[if_neg k2]
   by_cases k3:s.h.kd=3
   ·rw[if_pos k3]
    have C:=Hj (aFU w0 R M hE hR hM s iht hI hw S n _ hS hnn HB1 HC1);unfold loC at C;have RA:=Hj (pC G.out);have c0:=(bX G.out).c0;rw[k3]at c0;clear hI1 hI hw hw2 nt nl iht ihl hE HB1 hb hC HC1 hS hnn BX k1 k2 hR hM;obtain⟨Y,hY⟩:∃Y:Ck Unit,(if aU s.h.nm=false then .no 120 s.h.ps else if(S.find s.h.nm).isSome=true∨s.h.nm∈S.loops then .no 121 s.h.ps else if 16≤s.h.hi - s.h.lo∨2≤S.loops.length then .no 123 s.h.ps else cP (fun i=>(s.t i).ck aU (S.inner s.h.nm)) s.h.ts.n)=Y:=⟨_,rfl⟩;rw[hY]at C ⊢;clear hY;rw[vJ]at C;obtain⟨V1,hV1⟩:∃V,aS s.h s.e.h=V:=⟨_,rfl⟩;have L1:=Hj (show(Tryz.prog.info? 48).map (·.size)=some V1.length∧V1.length=15 by rw[←hV1];exact⟨by kernel_rfl,rfl⟩);rw[hV1]at C RA;clear hV1;generalize s.e.h=e at *;generalize s.h=h at *;clear k3;show Calls Tryz.prog 39 #[.pointer (some ⟨R,0,none⟩),.agg #[.int .u8 h.kd,.int .i64 h.ps,.string ⟨h.nm.toArray⟩,.slice h.xs.ao h.xs.n h.xs.c,.int .u8 e.op,.int .i64 e.ps,.bool e.bo,.int .i32 e.it,.int .u64 e.fl,.string ⟨e.nm.toArray⟩,.slice e.s.ao e.s.n e.s.c,.int .i32 h.lo,.int .i32 h.hi,.slice h.ts.ao h.ts.n h.ts.c,.slice h.es.ao h.es.n h.es.c]] w _;go_enter Tryz.func39,Tryz.ntmps39;go_upto_region 1 with fail;rw[aCj w h e]
    generalize bx w (sO h e)=w1 at *
    go_wp2_with (refine wpList_load_mid rfl 48 _ rfl w.heap.size 0 rfl V1 _ RA.out Tryz.underlying48 rfl L1.out.1 ?_)
    refine C.out.mono ?_;rintro r w2 ⟨rfl,f2,ck2⟩;have F2:=Hj (aJ (Fx.of B1.out) f2);have CK2:=Hj ck2;clear C RA f2 ck2 c0
    cases Y with
    | no c p=>
     dsimp only[unE];go_wp2_with fail;exact⟨rfl,rfl,F2.out,fun k=>by cases k⟩
    | ok u=>
     dsimp only[unE];go_wp2_with fail;exact bodyPost_end (results_none rfl _ _ _) rfl ⟨rfl,F2.out,CK2.out trivial⟩
   ·rw[if_neg k3]
    have D:=bX G.out;have c0:=D.c0;have c1:=D.c1;clear hI1 hI hw hw2 nt nl iht ihl hE HB1 hb hC HC1 hS hnn BX hR hM D;generalize s.e.h=e at *;generalize s.h=h at *;show Calls Tryz.prog 39 #[.pointer (some ⟨R,0,none⟩),.agg #[.int .u8 h.kd,.int .i64 h.ps,.string ⟨h.nm.toArray⟩,.slice h.xs.ao h.xs.n h.xs.c,.int .u8 e.op,.int .i64 e.ps,.bool e.bo,.int .i32 e.it,.int .u64 e.fl,.string ⟨e.nm.toArray⟩,.slice e.s.ao e.s.n e.s.c,.int .i32 h.lo,.int .i32 h.hi,.slice h.ts.ao h.ts.n h.ts.c,.slice h.es.ao h.es.n h.es.c]] w _;go_enter Tryz.func39,Tryz.ntmps39;go_upto_region 1 with fail;rw[aCj w h e];generalize bx w (sO h e)=w1 at *;go_wp2_with fail;refine(xL _ _ _).mono ?_;rintro r w2 ⟨rfl,e2⟩;rw[e2];go_wp2_with fail;exact⟨rfl,rfl,Fx.of B1.out,fun k=>by cases k⟩
theorem xI (w0:World)(R M:Nat)(hE:Env9 w0)(hR:w0.heap.size≤R)(hM:w0.heap.size≤M)(s:St)(hI:s.In w0.heap.size w0)(hw:s.wt≤1000000):aAX w0 R M s:=by
 induction s using St.ind with
 | H s it il=>
  have hw2:=hw;rw[St.wt_eq]at hw2;exact aFS w0 R M hE hR hM s (fun i hi=>it i hi (hI.ts.2.2 i hi) (by have:=iD (f:=fun i=>(s.t i).wt) hi;omega)) (fun i hi=>il i hi (hI.es.2.2 i hi) (by have:=iD (f:=fun i=>(s.l i).wt) hi;omega)) hI hw
end Go.Proofs.YtkbicfffokegeaaGreatDoor
