/-
  Whatever program is handed in, CheckChecks answers true. (part 33 of 38) Conditions: none beside what the card ties.
-/
import Derived.Test.YtkbicfffokegeaaGreatDoorCbf
import Derived.Test.YtkbicfffokegeaaGreatDoorCbe
namespace Go.Proofs.YtkbicfffokegeaaGreatDoor
set_option maxHeartbeats 16000000
open Go.RowKit
set_option maxRecDepth 100000
def fD (d:Nat→De)(n:Nat)(x:List UInt8):Option Mn:=(fd d x n).map fun i=>kB (d i)
theorem aKk {d:Nat→De}{n:Nat}(h:fd d (d n).nm n=none):(fun y=>if y=(d n).nm then some (kB (d n))else fD d n y)=fD d (n+1):=by
 funext y
 unfold fD;simp only[fd]
 by_cases e:y=(d n).nm
 ·subst e
  rw[if_pos rfl,h]
  simp
 ·rw[if_neg e]
  cases hf:fd d y n with
  | some i=>rfl
  | none=>rw[if_neg (fun h=>e h.symm)]
theorem aDB (n:Nat)(d:Nat→De)(b:Bool):mnS ⟨n,d,[],b⟩=fD d n:=by
 funext y
 unfold mnS fD Sc.find
 simp
theorem aFL {d:De}(h:raN d=true):d.cells=max d.len 1:=by
 unfold De.cells;have hl:=uL h;unfold raN at h
 cases hi:d.inp with
 | true=>
  rw[hi]at h
  simp at h
  rw[h.1.1,if_neg (by simp)];rfl
 | false=>
  by_cases c:0<d.len
  ·rw[if_pos ⟨rfl,c⟩];omega
  ·rw[if_neg (by simp;omega)];omega
def unC (r:Ck Int):Ending:=match r with
 | .ok _=>.returned (.tuple #[])
 | .no c p=>.panicked (wV c p)
theorem pZ {r:Ck Int}{c p:Int}(h:r=.no c p):Ending.panicked (wV c p)=unC r:=by rw[h];rfl
theorem aJa {r:Ck Int}{c:Int}(h:r=.ok c):Ending.returned (.tuple #[])=unC r:=by rw[h];rfl
theorem wH {r:Ck Int}{c p a:Int}{P:Prop}(h:r=.no c p)(k:r=.ok a):P:=by rw[h]at k;cases k
theorem oY {o:Oper}{a:Act}{w:World}(ty:TypeId)(x:Operand)(ho:o.op=.load ty x)(b off:Nat)(hx:a.eval x=.pointer (some ⟨b,off,none⟩))(cs:List Value)(d:TypeDesc)(hc:w.rangeAt b off cs)
  (hu:Tryz.prog.underlying ty=some d) (hd:d.isRow=true) (hi:(Tryz.prog.info? ty).map (·.size)=some cs.length):(execOp a.eval o).run Tryz.prog w=.ok (.value (.agg cs.toArray)) w:=by
 unfold execOp;simp only[ho,hx,Instr.loadAt,Instr.sureAddr,Sem.run_bind,Sem.run_pure,Result.andThen_ok,run_loadVar_mid w b off ty cs d hc hu hd hi]
theorem aCh (w0:World)(R M:Nat)(hE:Env9 w0)(hM:w0.heap.size≤M)(sl:Sl)(d:Nat→De)(hI:gF w0.heap.size w0 sl d)(hw:sm (fun i=>(d i).wt) sl.n≤1000000)
  (w:World) (hb:Below w0.heap.size w0 w) (hC:Ckf R M 0 (fD d 0) false 0 w) :
  Calls Tryz.prog 22 #[.pointer (some ⟨R,0,none⟩),.slice sl.ao sl.n sl.c] w fun r w'=>r=unC (gV aU raN d sl.n)∧Fx (On M) w.heap.size w w'∧(∀c,gV aU raN d sl.n=.ok c→Ckf R M sl.n (fD d sl.n) false 0 w'):=by
 have hwt:∀m,m≤sm (fun i=>(d i).wt) m:=by
  intro m
  induction m with
  | zero=>exact aD _
  | succ m im=>
   have:1≤(d m).wt:=by unfold De.wt;omega
   show m+1≤sm (fun i=>(d i).wt) m+(d m).wt;omega
 have HW:Hid (∀i,i<sl.n→(d i).nm.length≤1000000):=fun i hi=>by have:=iD (f:=fun i=>(d i).wt) hi;have e:(d i).wt=1+(d i).nm.length+(d i).lo.wt+(d i).hi.wt:=rfl;omega
 have HN:Hid (sl.n≤1000000):=aF (hwt sl.n) hw;have HI:=Hj hI;have HB:=Hj hb;have HC:=Hj hC;have HM:=Hj hM;have HE:=Hj hE;have HMR:Hid (M<w.heap.size∧R<w.heap.size):=⟨hC.mp.lt,hC.blk.lt⟩;clear hwt hI hw hb hC hM hE;obtain⟨ao,m,c0⟩:=sl;dsimp only at *;go_enter Tryz.func22,Tryz.ntmps22;go_wp2_with fail
 go_loopg [4,9] m (fun gk u i wr=>∃(j:Nat) (c:Int),i=.int .i64 (j:Int)∧u=.int .i64 c∧Hid (gk=m-j∧j≤m∧0≤c∧c≤96)∧Hid (gV aU raN d j=.ok c)∧Hid (Ckf R M j (fD d j) false 0 wr)∧Hid (Fx (On M) w.heap.size w wr))
 case atStart=>exact⟨0,0,rfl,rfl,⟨rfl,Nat.zero_le _,by decide,by decide⟩,rfl,HC.out,Fx.refl _ _ _⟩
 case round=>
  obtain⟨j,c,rfl,rfl,HJ,HL,HCr,HF⟩:=hrel;have BW:Hid (Below w0.heap.size w0 wr):=HB.out.trans ((HF.out.mono HB.out.size (fun _ _ x=>x)).bel (fun k hk (x:k=M)=>by have:=HM.out;omega))
  by_cases hlt:j<m
  ·have z0:(j:Int)<(m:Int):=by omega
   have ovi:IntKind.i64.wrap ((j:Int)+1)=((j+1:Nat):Int):=by have:=HN.out;rw[IntKind.wrap_i64];omega
   have E:Hid (∀q,j<q→∀e p,deC aU raN d j c=.no e p→gV aU raN d q=.no e p):=fun q hq e p h=>zP h HL.out q hq;have NXT:Hid (∀c',deC aU raN d j c=.ok c'→gV aU raN d (j+1)=.ok c'):=fun c' h=>by simp only[gV,HL.out,Ck.bind,h]
   obtain⟨a,b,o,rfl,hA,hb1,h4⟩:=(HI.out.below BW.out (aD _)).2.1.at HI.out.1 hlt rfl;have ID:=(HI.out.below BW.out (aD _)).2.2 j hlt;have OK:=Hj (And.intro ID.2.1.ok ID.2.2.ok);have HNM:=Hj (HW.out j hlt);have RC:=Hj (show wr.rangeAt b o (dM (d j) (d j).lo.h (d j).hi.h)from h4);have BX:=Hj (bS (Below.refl wr.heap.size wr) (aD _) (dO (d j) (d j).lo.h (d j).hi.h));have GD:=Hj (cD wr (dO (d j) (d j).lo.h (d j).hi.h));have HCw:Hid (Ckf R M j (fD d j) false 0 (bx wr (dO (d j) (d j).lo.h (d j).hi.h))):=HCr.out.bel BX.out;have EW:=Hj (HE.out.below BW.out);have HLT:=Hj hlt;have O1:=Hj (aCc (d j) (d j).lo.h (d j).hi.h);rw[aEH]at BX HCw GD;obtain⟨V1,hV1⟩:∃V,dM (d j) (d j).lo.h (d j).hi.h=V:=⟨_,rfl⟩;have HV1:=Hj hV1;have L1:=Hj (show(Tryz.prog.info? 44).map (·.size)=some V1.length∧V1.length=20 by rw[←hV1];exact⟨by kernel_rfl,rfl⟩);rw[hV1]at BX HCw GD RC O1;clear hb1 hlt hV1 h4 HCr ID BW
   go_upto_region 4 with(first
    | refine wpList_load_mid rfl 44 _ rfl b o rfl V1 _ RC.out Tryz.underlying44 rfl L1.out.1 ?_
    | refine vL rfl 44 _ _ rfl wr _ V1.toArray rfl rfl (by rw[List.size_toArray];exact L1.out.1) (by have h:V1.toArray.size=20:=(by rw[List.size_toArray];exact L1.out.2);rw[h];rfl) O1.out ?_)
   clear RC O1;have GD':Hid ((bx wr (.cells V1.toArray 44 (0,0))).heap[wr.heap.size]? = some (dO (d j) (d j).lo.h (d j).hi.h)):=by rw[aEH,HV1.out];exact GD
   clear GD;have GD:=Hj GD'.out;clear GD';generalize bx wr (.cells V1.toArray 44 (0,0))=wv at *;try simp only[Act.put]
   have EN:Hid (∀w',Below wv.heap.size wv w'→Calls Tryz.prog 15 #[.string ⟨(d j).nm.toArray⟩] w' fun r w''=>r=.returned (.bool (aU (d j).nm))∧Below w'.heap.size w' w''):=fun w' h=>tD ⟨(d j).nm.toArray⟩ w' (by rw[Lib.size_eq];exact aF HNM.out (by decide)) ((EW.out.below BX.out).below h)
   have KG:Hid (∀w',Below wv.heap.size wv w'→(w'.cell? ⟨wr.heap.size,2,none⟩=some (.string ⟨(d j).nm.toArray⟩)∧w'.cell? ⟨wr.heap.size,0,none⟩=some (.int .i64 (d j).ps))):=fun w' hw=>by
    have D:=cA (aV hw GD.out);exact⟨D.c2,D.c0⟩
   cases hin:aU (d j).nm with
   | false=>
    rw[hin]at EN;have hE1:deC aU raN d j c=.no 120 (d j).ps:=by unfold deC;rw[if_pos hin]
    refine aL (S:=fun w'=>w'.cell? ⟨wr.heap.size,2,none⟩=some (.string ⟨(d j).nm.toArray⟩)∧w'.cell? ⟨wr.heap.size,0,none⟩=some (.int .i64 (d j).ps)) _ [(0,true),(1,true),(3,true),(4,true),(2,false),(5,false)] (by kernel_rfl) (by kernel_rfl) rfl (by kernel_rfl) (by kernel_rfl) (fun _ _ d _ _ h=>by cases d<;>exact h) (KG.out _ (aH (Below.refl _ _))) ?_
    iterate 4
     refine Walk.take (v:=?_) rfl (by rfl) ?_ ?_;rotate_left
     ·(intro w' hSw;(try dsimp only at hSw);go_simp<;>with_reducible rfl)
     try simp only[Act.put,aA,aC,aB]
    refine Walk.act rfl (by rfl) (fun K hK=>?_);go_simp;go_at_call 15;refine(EN.out _ (aH (Below.refl _ _))).mono ?_;rintro r v1 ⟨rfl,b1⟩;dsimp only;have X1:Below wv.heap.size wv v1:=aG (aH (Below.refl _ _)) b1;refine hK.out _ _ (KG.out _ X1) ?_;clear hK K;try simp only[Act.put,aA,aC,aB]
    refine Walk.act rfl (by rfl) (fun K hK=>?_);go_simp;go_at_call 20;refine(aT _ _ _ _).mono ?_;rintro r v2 ⟨rfl,e2⟩;dsimp only[muE];exact⟨rfl,pZ (E.out m HLT.out _ _ hE1),aZ HF.out (aG BX.out (e2 ▸ X1)),fun c k=>wH (E.out m HLT.out _ _ hE1) k⟩
   | true=>
    rw[hin]at EN;have D1:=Hj hin;refine aL (S:=fun w'=>w'.cell? ⟨wr.heap.size,2,none⟩=some (.string ⟨(d j).nm.toArray⟩)∧w'.cell? ⟨wr.heap.size,0,none⟩=some (.int .i64 (d j).ps)) _ [(0,true),(1,true),(3,true),(4,true),(2,false),(5,false)] (by kernel_rfl) (by kernel_rfl) rfl (by kernel_rfl) (by kernel_rfl) (fun _ _ d _ _ h=>by cases d<;>exact h) (KG.out _ (aH (Below.refl _ _))) ?_
    iterate 4
     refine Walk.take (v:=?_) rfl (by rfl) ?_ ?_;rotate_left
     ·(intro w' hSw;(try dsimp only at hSw);go_simp<;>with_reducible rfl)
     try simp only[Act.put,aA,aC,aB]
    refine Walk.act rfl (by rfl) (fun K hK=>?_);go_simp;go_at_call 15;refine(EN.out _ (aH (Below.refl _ _))).mono ?_;rintro r v1 ⟨rfl,b1⟩;dsimp only;have X1:Below wv.heap.size wv v1:=aG (aH (Below.refl _ _)) b1;refine hK.out _ _ (KG.out _ X1) ?_;clear hK K;try simp only[Act.put,aA,aC,aB]
    refine Walk.act rfl (by rfl) (fun K hK=>?_);go_simp;go_at_call 20;refine(aT _ _ _ _).mono ?_;rintro r v2 ⟨rfl,e2⟩;dsimp only[muE];have X2:Below wv.heap.size wv v2:=e2 ▸ X1;refine hK.out _ _ (KG.out _ X2) ?_;clear hK K;try simp only[Act.put,aA,aC,aB]
    refine Walk.done ?_;have BX2:=Hj (aG BX.out X2);have GD2:=Hj (aV X2 GD.out);have HC2:Hid (Ckf R M j (fD d j) false 0 v2):=HCw.out.bel X2;clear EN hin;clear KG X1 X2 b1 e2 BX GD HCw wv;have BX:=Hj BX2.out;have GD:=Hj GD2.out;have HCw:=Hj HC2.out;clear BX2 GD2 HC2;generalize v2=wv at *;go_upto_region 5 with fail;have KN:Hid (∀w',Below wv.heap.size wv w'→Calls Tryz.prog 28 #[.pointer (some ⟨R,0,none⟩),.string ⟨(d j).nm.toArray⟩] w' fun r w''=>r=.returned (.bool (fD d j (d j).nm).isSome)∧Below w'.heap.size w' w''):=fun w' hb=>nM R M j _ _ _ (d j).nm w' (HCw.out.bel hb) (aF HNM.out (by decide))
    have KG:Hid (∀w',Below wv.heap.size wv w'→(w'.cell? ⟨wr.heap.size,2,none⟩=some (.string ⟨(d j).nm.toArray⟩)∧w'.cell? ⟨wr.heap.size,0,none⟩=some (.int .i64 (d j).ps))):=fun w' hw=>by
     have D:=cA (aV hw GD.out);exact⟨D.c2,D.c0⟩
    cases hk:(fD d j (d j).nm).isSome with
    | true=>
     rw[hk]at KN
     have hE1:deC aU raN d j c=.no 121 (d j).ps:=by
      unfold deC;have hk2:(fd d (d j).nm j).isSome=true:=by unfold fD at hk;simpa using hk
      rw[if_neg (by rw[D1.out];simp),if_pos hk2]
     refine aL (S:=fun w'=>w'.cell? ⟨wr.heap.size,2,none⟩=some (.string ⟨(d j).nm.toArray⟩)∧w'.cell? ⟨wr.heap.size,0,none⟩=some (.int .i64 (d j).ps)) _ [(0,true),(1,true),(2,true),(5,true),(6,true),(3,false),(4,true),(7,false)] (by kernel_rfl) (by kernel_rfl) rfl (by kernel_rfl) (by kernel_rfl) (fun _ _ d _ _ h=>by cases d<;>exact h) (KG.out _ (aH (Below.refl _ _))) ?_
     iterate 5
      refine Walk.take (v:=?_) rfl (by rfl) ?_ ?_;rotate_left
      ·(intro w' hSw;(try dsimp only at hSw);go_simp<;>with_reducible rfl)
      try simp only[Act.put,aA,aC,aB]
     refine Walk.act rfl (by rfl) (fun K hK=>?_);go_simp;go_at_call 28;refine(KN.out _ (aH (Below.refl _ _))).mono ?_;rintro r v1 ⟨rfl,b1⟩;dsimp only;have X1:Below wv.heap.size wv v1:=aG (aH (Below.refl _ _)) b1;refine hK.out _ _ (KG.out _ X1) ?_;clear hK K;try simp only[Act.put,aA,aC,aB]
     iterate 1
      refine Walk.take (v:=?_) rfl (by rfl) ?_ ?_;rotate_left
      ·(intro w' hSw;(try dsimp only at hSw);go_simp<;>with_reducible rfl)
      try simp only[Act.put,aA,aC,aB]
     refine Walk.act rfl (by rfl) (fun K hK=>?_);go_simp;go_at_call 20;refine(aT _ _ _ _).mono ?_;rintro r v2 ⟨rfl,e2⟩;dsimp only[muE];exact⟨rfl,pZ (E.out m HLT.out _ _ hE1),aZ HF.out (aG BX.out (e2 ▸ X1)),fun c k=>wH (E.out m HLT.out _ _ hE1) k⟩
    | false=>
     rw[hk]at KN;have D2:Hid (fd d (d j).nm j=none):=by show _=_;unfold fD at hk;cases hq:fd d (d j).nm j with|none=>rfl|some i=>rw[hq]at hk;cases hk
     refine aL (S:=fun w'=>w'.cell? ⟨wr.heap.size,2,none⟩=some (.string ⟨(d j).nm.toArray⟩)∧w'.cell? ⟨wr.heap.size,0,none⟩=some (.int .i64 (d j).ps)) _ [(0,true),(1,true),(2,true),(5,true),(6,true),(3,false),(4,true),(7,false)] (by kernel_rfl) (by kernel_rfl) rfl (by kernel_rfl) (by kernel_rfl) (fun _ _ d _ _ h=>by cases d<;>exact h) (KG.out _ (aH (Below.refl _ _))) ?_
     iterate 5
      refine Walk.take (v:=?_) rfl (by rfl) ?_ ?_;rotate_left
      ·(intro w' hSw;(try dsimp only at hSw);go_simp<;>with_reducible rfl)
      try simp only[Act.put,aA,aC,aB]
     refine Walk.act rfl (by rfl) (fun K hK=>?_);go_simp;go_at_call 28;refine(KN.out _ (aH (Below.refl _ _))).mono ?_;rintro r v1 ⟨rfl,b1⟩;dsimp only;have X1:Below wv.heap.size wv v1:=aG (aH (Below.refl _ _)) b1;refine hK.out _ _ (KG.out _ X1) ?_;clear hK K;try simp only[Act.put,aA,aC,aB]
     iterate 1
      refine Walk.take (v:=?_) rfl (by rfl) ?_ ?_;rotate_left
      ·(intro w' hSw;(try dsimp only at hSw);go_simp<;>with_reducible rfl)
      try simp only[Act.put,aA,aC,aB]
     refine Walk.act rfl (by rfl) (fun K hK=>?_);go_simp;go_at_call 20;refine(aT _ _ _ _).mono ?_;rintro r v2 ⟨rfl,e2⟩;dsimp only[muE];have X2:Below wv.heap.size wv v2:=e2 ▸ X1;refine hK.out _ _ (KG.out _ X2) ?_;clear hK K;try simp only[Act.put,aA,aC,aB]
     refine Walk.done ?_;have BX2:=Hj (aG BX.out X2);have GD2:=Hj (aV X2 GD.out);have HC2:Hid (Ckf R M j (fD d j) false 0 v2):=HCw.out.bel X2;clear KN hk;clear KG X1 X2 b1 e2 BX GD HCw wv;have BX:=Hj BX2.out;have GD:=Hj GD2.out;have HCw:=Hj HC2.out;clear BX2 GD2 HC2;generalize v2=wv at *;go_upto_region 6 with fail;have TN:Hid (∀w',Calls Tryz.prog 37 #[.int .u8 (d j).ty] w' fun r w''=>r=.returned (.bool (decide (1≤(d j).ty∧(d j).ty≤3)))∧Below w'.heap.size w' w''):=fun w'=>(aAK (d j).ty w').mono fun r w'' h=>⟨h.1,h.2 ▸ Below.refl _ _⟩
     have KG:Hid (∀w',Below wv.heap.size wv w'→(w'.cell? ⟨wr.heap.size,3,none⟩=some (.int .u8 (d j).ty)∧w'.cell? ⟨wr.heap.size,0,none⟩=some (.int .i64 (d j).ps))):=fun w' hw=>by
      have D:=cA (aV hw GD.out);exact⟨D.c3,D.c0⟩
     cases ht:decide (1≤(d j).ty∧(d j).ty≤3) with
     | false=>
      rw[ht]at TN
      have hE1:deC aU raN d j c=.no 122 (d j).ps:=by
       unfold deC;rw[if_neg (by rw[D1.out];simp),if_neg (by rw[D2.out];simp),if_pos (of_decide_eq_false ht)]
      refine aL (S:=fun w'=>w'.cell? ⟨wr.heap.size,3,none⟩=some (.int .u8 (d j).ty)∧w'.cell? ⟨wr.heap.size,0,none⟩=some (.int .i64 (d j).ps)) _ [(0,true),(1,true),(3,true),(4,true),(2,false),(5,false)] (by kernel_rfl) (by kernel_rfl) rfl (by kernel_rfl) (by kernel_rfl) (fun _ _ d _ _ h=>by cases d<;>exact h) (KG.out _ (aH (Below.refl _ _))) ?_
      iterate 4
       refine Walk.take (v:=?_) rfl (by rfl) ?_ ?_;rotate_left
       ·(intro w' hSw;(try dsimp only at hSw);go_simp<;>with_reducible rfl)
       try simp only[Act.put,aA,aC,aB]
      refine Walk.act rfl (by rfl) (fun K hK=>?_);go_simp;go_at_call 37;refine(TN.out _).mono ?_;rintro r v1 ⟨rfl,b1⟩;dsimp only;have X1:Below wv.heap.size wv v1:=aG (aH (Below.refl _ _)) b1;refine hK.out _ _ (KG.out _ X1) ?_;clear hK K;try simp only[Act.put,aA,aC,aB]
      refine Walk.act rfl (by rfl) (fun K hK=>?_);go_simp;go_at_call 20;refine(aT _ _ _ _).mono ?_;rintro r v2 ⟨rfl,e2⟩;dsimp only[muE];exact⟨rfl,pZ (E.out m HLT.out _ _ hE1),aZ HF.out (aG BX.out (e2 ▸ X1)),fun c k=>wH (E.out m HLT.out _ _ hE1) k⟩
     | true=>
      rw[ht]at TN;have D3:=Hj (of_decide_eq_true ht);refine aL (S:=fun w'=>w'.cell? ⟨wr.heap.size,3,none⟩=some (.int .u8 (d j).ty)∧w'.cell? ⟨wr.heap.size,0,none⟩=some (.int .i64 (d j).ps)) _ [(0,true),(1,true),(3,true),(4,true),(2,false),(5,false)] (by kernel_rfl) (by kernel_rfl) rfl (by kernel_rfl) (by kernel_rfl) (fun _ _ d _ _ h=>by cases d<;>exact h) (KG.out _ (aH (Below.refl _ _))) ?_
      iterate 4
       refine Walk.take (v:=?_) rfl (by rfl) ?_ ?_;rotate_left
       ·(intro w' hSw;(try dsimp only at hSw);go_simp<;>with_reducible rfl)
       try simp only[Act.put,aA,aC,aB]
      refine Walk.act rfl (by rfl) (fun K hK=>?_);go_simp;go_at_call 37;refine(TN.out _).mono ?_;rintro r v1 ⟨rfl,b1⟩;dsimp only;have X1:Below wv.heap.size wv v1:=aG (aH (Below.refl _ _)) b1;refine hK.out _ _ (KG.out _ X1) ?_;clear hK K;try simp only[Act.put,aA,aC,aB]
      refine Walk.act rfl (by rfl) (fun K hK=>?_);go_simp;go_at_call 20;refine(aT _ _ _ _).mono ?_;rintro r v2 ⟨rfl,e2⟩;dsimp only[muE];have X2:Below wv.heap.size wv v2:=e2 ▸ X1;refine hK.out _ _ (KG.out _ X2) ?_;clear hK K;try simp only[Act.put,aA,aC,aB]
      refine Walk.done ?_;have BX2:=Hj (aG BX.out X2);have GD2:=Hj (aV X2 GD.out);have HC2:Hid (Ckf R M j (fD d j) false 0 v2):=HCw.out.bel X2;clear TN ht;clear KG X1 X2 b1 e2 BX GD HCw wv;have BX:=Hj BX2.out;have GD:=Hj GD2.out;have HCw:=Hj HC2.out;clear BX2 GD2 HC2;generalize v2=wv at *;go_upto_region 7 with fail
      have FN:Hid (∀w',Calls Tryz.prog 38 #[.agg V1.toArray] w' fun r w''=>r=.returned (.bool (raN (d j)))∧Below w'.heap.size w' w''):=by
       intro w';have:=yG (d j) (d j).lo.h (d j).hi.h w' OK.out.1 OK.out.2;rw[aDE,HV1.out]at this;exact this
      have KG:Hid (∀w',Below wv.heap.size wv w'→(w'.rangeAt wr.heap.size 0 V1∧w'.cell? ⟨wr.heap.size,0,none⟩=some (.int .i64 (d j).ps))):=fun w' hw=>by
       have D:=xC (aV hw GD.out);rw[HV1.out]at D;exact⟨D,(cA (aV hw GD.out)).c0⟩
      cases hr:raN (d j) with
      | false=>
       rw[hr]at FN
       have hE1:deC aU raN d j c=.no 123 (d j).ps:=by
        unfold deC;rw[if_neg (by rw[D1.out];simp),if_neg (by rw[D2.out];simp),if_neg (by have:=D3.out;exact fun h=>h this),if_pos hr]
       refine aL (S:=fun w'=>w'.rangeAt wr.heap.size 0 V1∧w'.cell? ⟨wr.heap.size,0,none⟩=some (.int .i64 (d j).ps)) _ [(0,true),(2,true),(3,true),(1,false),(4,false)] (by kernel_rfl) (by kernel_rfl) rfl (by kernel_rfl) (by kernel_rfl) (fun _ _ d _ _ h=>by cases d<;>exact h) (KG.out _ (aH (Below.refl _ _))) ?_;refine Walk.take (v:=.agg V1.toArray) rfl (by rfl) (fun w' hSw=>oY 44 _ rfl wr.heap.size 0 rfl V1 _ hSw.1 Tryz.underlying44 rfl L1.out.1) ?_;try simp only[Act.put,aA,aC,aB]
       iterate 2
        refine Walk.take (v:=?_) rfl (by rfl) ?_ ?_;rotate_left
        ·(intro w' hSw;have s2:=hSw.2;clear hSw;go_simp<;>with_reducible rfl)
        try simp only[Act.put,aA,aC,aB]
       refine Walk.act rfl (by rfl) (fun K hK=>?_);go_simp;go_at_call 38;refine(FN.out _).mono ?_;rintro r v1 ⟨rfl,b1⟩;dsimp only;have X1:Below wv.heap.size wv v1:=aG (aH (Below.refl _ _)) b1;refine hK.out _ _ (KG.out _ X1) ?_;clear hK K;try simp only[Act.put,aA,aC,aB]
       refine Walk.act rfl (by rfl) (fun K hK=>?_);go_simp;go_at_call 20;refine(aT _ _ _ _).mono ?_;rintro r v2 ⟨rfl,e2⟩;dsimp only[muE];exact⟨rfl,pZ (E.out m HLT.out _ _ hE1),aZ HF.out (aG BX.out (e2 ▸ X1)),fun c k=>wH (E.out m HLT.out _ _ hE1) k⟩
      | true=>
       rw[hr]at FN;have D4:=Hj hr;refine aL (S:=fun w'=>w'.rangeAt wr.heap.size 0 V1∧w'.cell? ⟨wr.heap.size,0,none⟩=some (.int .i64 (d j).ps)) _ [(0,true),(2,true),(3,true),(1,false),(4,false)] (by kernel_rfl) (by kernel_rfl) rfl (by kernel_rfl) (by kernel_rfl) (fun _ _ d _ _ h=>by cases d<;>exact h) (KG.out _ (aH (Below.refl _ _))) ?_;refine Walk.take (v:=.agg V1.toArray) rfl (by rfl) (fun w' hSw=>oY 44 _ rfl wr.heap.size 0 rfl V1 _ hSw.1 Tryz.underlying44 rfl L1.out.1) ?_;try simp only[Act.put,aA,aC,aB]
       iterate 2
        refine Walk.take (v:=?_) rfl (by rfl) ?_ ?_;rotate_left
        ·(intro w' hSw;have s2:=hSw.2;clear hSw;go_simp<;>with_reducible rfl)
        try simp only[Act.put,aA,aC,aB]
       refine Walk.act rfl (by rfl) (fun K hK=>?_);go_simp;go_at_call 38;refine(FN.out _).mono ?_;rintro r v1 ⟨rfl,b1⟩;dsimp only;have X1:Below wv.heap.size wv v1:=aG (aH (Below.refl _ _)) b1;refine hK.out _ _ (KG.out _ X1) ?_;clear hK K;try simp only[Act.put,aA,aC,aB]
       refine Walk.act rfl (by rfl) (fun K hK=>?_);go_simp;go_at_call 20;refine(aT _ _ _ _).mono ?_;rintro r v2 ⟨rfl,e2⟩;dsimp only[muE];have X2:Below wv.heap.size wv v2:=e2 ▸ X1;refine hK.out _ _ (KG.out _ X2) ?_;clear hK K;try simp only[Act.put,aA,aC,aB]
       refine Walk.done ?_;have BX2:=Hj (aG BX.out X2);have GD2:=Hj (aV X2 GD.out);have HC2:Hid (Ckf R M j (fD d j) false 0 v2):=HCw.out.bel X2;clear FN hr;clear KG X1 X2 b1 e2 BX GD HCw wv;have BX:=Hj BX2.out;have GD:=Hj GD2.out;have HCw:=Hj HC2.out;clear BX2 GD2 HC2;generalize v2=wv at *;have HLEN:Hid (0≤(d j).len∧(d j).len≤16∧(d j).cells=max (d j).len 1):=⟨(uL D4.out).1,(uL D4.out).2,aFL D4.out⟩;have q4:=(cA GD.out).c4;have q0:=(cA GD.out).c0;go_upto_region 9 with fail;have hwr:wrap64 (c+max (d j).len 1)=c+(d j).cells:=by have h1:=HLEN.out;have h2:=HJ.out;rw[h1.2.2];unfold wrap64;omega
       rw[hwr];clear hwr q4;generalize hcc:c+(d j).cells=cc at *;have HCC:Hid (c+(d j).cells=cc∧1≤cc):=by have h1:=HLEN.out;have h2:=HJ.out;exact⟨hcc,by rw[h1.2.2]at hcc;omega⟩
       clear hcc
       by_cases hcl:cc≤96
       ·have DE:Hid (deC aU raN d j c=.ok cc):=by
         show deC aU raN d j c=_;unfold deC;rw[if_neg (by rw[D1.out];simp),if_neg (by rw[D2.out];simp),if_neg (by have:=D3.out;exact fun h=>h this),if_neg (by rw[D4.out];simp),if_neg (by rw[HCC.out.1];omega),HCC.out.1]
        have HCL:=Hj hcl;go_wp2_with fail;refine(aT _ _ _ _).mono ?_;rintro r v3 ⟨rfl,e3⟩;rw[e3];clear e3 v3 hcl;dsimp only[muE];have RA:Hid (wv.rangeAt wr.heap.size 0 V1):=by have:=xC GD.out;rw[HV1.out]at this;exact this
        have DN:=Hj (yH R M j (fD d j) false 0 (d j) (d j).lo.h (d j).hi.h wv HCw.out (aF HNM.out (by decide)) (by have:=HN.out;have:=HLT.out;unfold maxLen;omega));rw[aKk D2.out,aDE,HV1.out]at DN;clear q0
        go_wp2_with (refine wpList_load_mid rfl 44 _ rfl wr.heap.size 0 rfl V1 _ RA.out Tryz.underlying44 rfl L1.out.1 ?_)
        refine DN.out.mono ?_;rintro r v4 ⟨rfl,hck,hfx⟩;have F4:=Hj (aJ (aZ HF.out BX.out) hfx);have CK:=Hj hck;clear hck hfx DN RA BX HF GD HCw;go_wp2_with fail
        go_roundg (m-(j+1))
        case measure=>have:=HJ.out;have:=HLT.out;omega
        case rel=>exact⟨j+1,cc,by go_num,rfl,⟨rfl,HLT.out,by have:=HCC.out;omega,HCL.out⟩,NXT.out _ DE.out,CK.out,F4.out⟩
       ·have hE1:deC aU raN d j c=.no 123 (d j).ps:=by
         unfold deC;rw[if_neg (by rw[D1.out];simp),if_neg (by rw[D2.out];simp),if_neg (by have:=D3.out;exact fun h=>h this),if_neg (by rw[D4.out];simp),if_pos (by rw[HCC.out.1];omega)]
        have HE1:=Hj hE1;clear hE1;go_wp2_with fail;refine(aT _ _ _ _).mono ?_;rintro r v3 ⟨rfl,e3⟩;rw[e3];clear e3 v3;dsimp only[muE];go_wp2_with fail;exact⟨rfl,pZ (E.out m HLT.out _ _ HE1.out),aZ HF.out BX.out,fun c k=>wH (E.out m HLT.out _ _ HE1.out) k⟩
  ·obtain rfl:j=m:=by have:=HJ.out;omega
   have z0:¬(j:Int)<(j:Int):=by omega
   clear hlt;go_wp2_with fail;refine bodyPost_end (results_none rfl _ _ _) rfl ⟨aJa HL.out,HF.out,fun _ _=>HCr.out⟩
theorem aGp (v:Value)(w:World):(Instr.typeAssert (.iface 59 v) 20 59 true).run Tryz.prog w=.ok (.tuple #[v,.bool true]) w:=by kernel_rfl
theorem aGo (w:World):(Instr.typeAssert .nilIface 20 59 true).run Tryz.prog w=.ok (.tuple #[.agg #[.int .i64 0,.int .i64 0],.bool false]) w:=by kernel_rfl
theorem aHo (b1 b2:Nat)(x y c p:Int)(older:List PanicEntry)(w:World)(h1:Blk w b1 28 #[.int .i64 x])(h2:Blk w b2 3 #[.int .i64 y])(hb:b1≠b2) :
  CallsD Tryz.prog 19 #[.pointer (some ⟨b1,0,none⟩),.pointer (some ⟨b2,0,none⟩)] (.panicking ({ v:=.iface 59 (.agg #[.int .i64 c,.int .i64 p]),recovered:=false }::older)) w fun e u' w'=>
   e=.returned (.tuple #[])∧u'=.panicking ({ v:=.iface 59 (.agg #[.int .i64 c,.int .i64 p]),recovered:=true }::older)∧Blk w' b1 28 #[.int .i64 c]∧Blk w' b2 3 #[.int .i64 p]∧Fx (Two b1 b2) w.heap.size w w':=by
 refine callsD_of_wpS Tryz.func19 rfl fun c₀ cs hu=>?_
 have hrec:aBv (c₀::cs)=(.iface 59 (.agg #[.int .i64 c,.int .i64 p]),{ c₀ with mode:=.panicking ({ v:=.iface 59 (.agg #[.int .i64 c,.int .i64 p]),recovered:=true }::older) }::cs):=by
  simp[aBv,recoverD,hu]
 refine kG rfl rfl hrec ?_;clear hrec;have ta:=aGp;simp only[Tryz.ntmps19,List.size_toArray,List.length_cons,List.length_nil,Nat.reduceAdd,Nat.reduceSub,Array.replicate_succ,Array.replicate_zero,List.push_toArray,List.append_toArray,List.nil_append,List.cons_append];go_wp2_with fail;have l1:=h1.lt;have l2:=h2.lt;have n1:=Hj (h1.alloc (.cells #[.int .i64 c,.int .i64 p] 59));have n2:=Hj (h2.alloc (.cells #[.int .i64 c,.int .i64 p] 59));have nf:Blk (w.alloc (.cells #[.int .i64 c,.int .i64 p] 59)) w.heap.size 59 #[.int .i64 c,.int .i64 p]:=Blk.new _ _ _;have HF:=Hj (lL (Fx.refl (Two b1 b2) _ w) (.cells #[.int .i64 c,.int .i64 p] 59));have HB:Hid (b1≠b2∧b1≠w.heap.size∧b2≠w.heap.size):=⟨hb,by omega,by omega⟩;have HS0:((w.alloc (.cells #[.int .i64 c,.int .i64 p] 59)).drew).cell? ⟨w.heap.size,0,none⟩=some (.int .i64 c)∧((w.alloc (.cells #[.int .i64 c,.int .i64 p] 59)).drew).cell? ⟨w.heap.size,1,none⟩=some (.int .i64 p):=⟨nf.cell 0,nf.cell 1⟩;have FN:=Hj nf;clear h1 h2 l1 l2 nf ta hb hu;generalize w.alloc (.cells #[.int .i64 c,.int .i64 p] 59)=w1 at *
 refine bY (S:=fun w'=>w'.cell? ⟨w.heap.size,0,none⟩=some (.int .i64 c)∧w'.cell? ⟨w.heap.size,1,none⟩=some (.int .i64 p)) _ (.take 0 (.take 1 (.take 2 (.take 3 (.two 4 (.act 5 .done) 5 (.act 4 .done)))))) (by kernel_rfl) (by kernel_rfl) rfl (by kernel_rfl) (by kernel_rfl) (fun _ _ d _ _ h=>by cases d<;>exact h) HS0 ?_;clear HS0
 iterate 4
  refine aN.take (v:=?_) rfl (by rfl) ?_ ?_;rotate_left
  ·(intro w' hSw;have s1:=hSw.1;have s2:=hSw.2;clear hSw;go_simp<;>with_reducible rfl)
  try simp only[Act.put,aA,aC,aB]
 refine⟨bF rfl (by rfl) (fun K' hK=>?_),bF rfl (by rfl) (fun K' hK=>?_)⟩
 ·have ma:=n1.out.cell 0
  have za:=n1.out.frozen 0;go_simp;have fa:Blk (w1.drew.setCell ⟨b1,0,none⟩ (.int .i64 c)) w.heap.size 59 #[.int .i64 c,.int .i64 p]:=(Blk.drew FN.out).far (p:=⟨b1,0,none⟩) (Ne.symm HB.out.2.1) _;have aa:=Hj ((Blk.drew n1.out).set_ 0 (.int .i64 c));have ab:Blk (w1.drew.setCell ⟨b1,0,none⟩ (.int .i64 c)) _ _ _:=(Blk.drew n2.out).far (p:=⟨b1,0,none⟩) (Ne.symm HB.out.1) (.int .i64 c);have ff:=Hj (bJ (aZ HF.out (aH (Below.refl _ w1))) (p:=⟨b1,0,none⟩) (.inl (.inl rfl)) (.int .i64 c));refine hK.out _ _ ⟨fa.cell 0,fa.cell 1⟩ ?_;clear hK K' ma za;try simp only[Act.put]
  change aN _ _ _ _ _ _ (w1.drew.setCell ⟨b1,0,none⟩ (.int .i64 c));generalize (w1.drew.setCell ⟨b1,0,none⟩ (.int .i64 c))=w5 at *;refine aN.act rfl (by rfl) (fun K' hK=>?_);have mb:=ab.cell 0;have zb:=ab.frozen 0;go_simp;have fb:Blk (w5.setCell ⟨b2,0,none⟩ (.int .i64 p)) w.heap.size 59 #[.int .i64 c,.int .i64 p]:=fa.far (p:=⟨b2,0,none⟩) (Ne.symm HB.out.2.2) _;refine hK.out _ _ ⟨fb.cell 0,fb.cell 1⟩ ?_;clear hK K' mb zb;try simp only[Act.put]
  refine aN.done ?_;exact⟨rfl,_,rfl,_,results_none rfl _ _ _,rfl,rfl,(aa.out.far (p:=⟨b2,0,none⟩) HB.out.1 _),(ab.set_ 0 (.int .i64 p)),bJ ff.out (p:=⟨b2,0,none⟩) (.inl (.inr rfl)) _⟩
 ·have ma:=n2.out.cell 0
  have za:=n2.out.frozen 0;go_simp;have fa:Blk (w1.drew.setCell ⟨b2,0,none⟩ (.int .i64 p)) w.heap.size 59 #[.int .i64 c,.int .i64 p]:=(Blk.drew FN.out).far (p:=⟨b2,0,none⟩) (Ne.symm HB.out.2.2) _;have aa:=Hj ((Blk.drew n2.out).set_ 0 (.int .i64 p));have ab:Blk (w1.drew.setCell ⟨b2,0,none⟩ (.int .i64 p)) _ _ _:=(Blk.drew n1.out).far (p:=⟨b2,0,none⟩) HB.out.1 (.int .i64 p);have ff:=Hj (bJ (aZ HF.out (aH (Below.refl _ w1))) (p:=⟨b2,0,none⟩) (.inl (.inr rfl)) (.int .i64 p));refine hK.out _ _ ⟨fa.cell 0,fa.cell 1⟩ ?_;clear hK K' ma za;try simp only[Act.put]
  change aN _ _ _ _ _ _ (w1.drew.setCell ⟨b2,0,none⟩ (.int .i64 p));generalize (w1.drew.setCell ⟨b2,0,none⟩ (.int .i64 p))=w5 at *;refine aN.act rfl (by rfl) (fun K' hK=>?_);have mb:=ab.cell 0;have zb:=ab.frozen 0;go_simp;have fb:Blk (w5.setCell ⟨b1,0,none⟩ (.int .i64 c)) w.heap.size 59 #[.int .i64 c,.int .i64 p]:=fa.far (p:=⟨b1,0,none⟩) (Ne.symm HB.out.2.1) _;refine hK.out _ _ ⟨fb.cell 0,fb.cell 1⟩ ?_;clear hK K' mb zb;try simp only[Act.put]
  refine aN.done ?_;exact⟨rfl,_,rfl,_,results_none rfl _ _ _,rfl,rfl,(ab.set_ 0 (.int .i64 c)),(aa.out.far (p:=⟨b1,0,none⟩) (Ne.symm HB.out.1) _),bJ ff.out (p:=⟨b1,0,none⟩) (.inl (.inl rfl)) _⟩
theorem aNz (b1 b2:Nat)(w:World) :
  CallsD Tryz.prog 19 #[.pointer (some ⟨b1,0,none⟩),.pointer (some ⟨b2,0,none⟩)] .returning w fun e u' w'=>e=.returned (.tuple #[])∧u'=.returning∧Below w.heap.size w w':=by
 refine callsD_of_wpS Tryz.func19 rfl fun c₀ cs hu=>?_
 have hrec:aBv (c₀::cs)=(.nilIface,{ c₀ with mode:=.returning }::cs):=by
  cases c₀;cases hu;rfl
 refine kG rfl rfl hrec ?_;clear hrec;have ta:=aGo;simp only[Tryz.ntmps19,List.size_toArray,List.length_cons,List.length_nil,Nat.reduceAdd,Nat.reduceSub,Array.replicate_succ,Array.replicate_zero,List.push_toArray,List.append_toArray,List.nil_append,List.cons_append];go_wp2_with fail;exact⟨rfl,_,rfl,_,results_none rfl _ _ _,rfl,rfl,aY w _⟩
theorem eK {P:Program}{fn:Func}{q r:Tmp}{tq tr:TypeId}(h:fn.results=#[.cell q tq,.cell r tr])(tmps:Array Value)(w:World)(b c:Nat)(x y:Value)
  (hq:tmps.getD q undef=.pointer (some ⟨b,0,none⟩)) (hr:tmps.getD r undef=.pointer (some ⟨c,0,none⟩))
  (hx:(loadVar tq ⟨b,0,none⟩).run P w=.ok x w) (hy:(loadVar tr ⟨c,0,none⟩).run P w=.ok y w) :
  (results fn tmps).run P w=.ok (.tuple #[x,y]) w:=by
 have hq':tmps[q]?.getD undef=.pointer (some ⟨b,0,none⟩):=by simpa using hq
 have hr':tmps[r]?.getD undef=.pointer (some ⟨c,0,none⟩):=by simpa using hr
 simp[results,h,hq',hr',asAddr,hx,hy]
theorem aAI (d:Nat→De)(m:Nat):m≤sm (fun i=>(d i).wt) m:=by
 induction m with
 | zero=>exact aD _
 | succ m im=>
  have:1≤(d m).wt:=by unfold De.wt;omega
  show m+1≤sm (fun i=>(d i).wt) m+(d m).wt;omega
theorem sV (w:World):Calls Tryz.prog 21 #[] w fun r w'=>∃R M,r=.returned (.pointer (some ⟨R,0,none⟩))∧w.heap.size≤R∧w.heap.size≤M∧Ckf R M 0 (fun _=>none) false 0 w'∧Below w.heap.size w w':=by
 have hmm:=@run_makeMap Tryz.prog;have B1:=Hj (aI (aY w (.map #[] 0)) (.cells #[.map (some w.heap.size),.bool false,.int .i64 0] 67));have MP:=Hj ((Mp.made w).blk (w':=(w.alloc (.map #[] 0)).alloc (.cells #[.map (some w.heap.size),.bool false,.int .i64 0] 67)) (Below.heap_alloc _ _ _ (by rw[World.size_alloc];exact Nat.lt_succ_self _)))
 have BK:Hid (Blk ((w.alloc (.map #[] 0)).alloc (.cells #[.map (some w.heap.size),.bool false,.int .i64 0] 67)) (w.heap.size+1) 67 #[.map (some w.heap.size),.bool false,.int .i64 0]):=by
  have:=Blk.new (w.alloc (.map #[] 0)) 67 #[.map (some w.heap.size),.bool false,.int .i64 0];rw[World.size_alloc]at this;exact this
 go_enter Tryz.func21,Tryz.ntmps21;go_wp2_with fail;go_ret;exact⟨_,w.heap.size,rfl,by omega,aD _,⟨BK.out,MP.out,by omega⟩,B1.out⟩
theorem Ckf.st {R M n:Nat}{f:List UInt8→Option Mn}{st:Bool}{lp:Int}{w:World}(h:Ckf R M n f st lp w)(su:Bool) :
  Ckf R M n f su lp (w.setCell ⟨R,1,none⟩ (.bool su))∧Fx (On R) w.heap.size w (w.setCell ⟨R,1,none⟩ (.bool su)):=
 ⟨⟨h.blk.set_ 1 (.bool su),h.mp.blk (Below.heap_setCell _ _ _ _ (by show M≠R;exact fun e=>h.ne e.symm)),h.ne⟩,bJ (X:=On R) (Fx.refl _ _ _) (p:=⟨R,1,none⟩) (.inl rfl) _⟩
theorem Pr.ck_ticks {nam:List UInt8→Bool}{ran:De→Bool}{p:Pr}(h:¬(1≤p.ticks∧p.ticks≤2147483647)):p.ck nam ran=.no 123 0:=if_pos h
theorem Pr.ck_go {nam:List UInt8→Bool}{ran:De→Bool}{p:Pr}(h:1≤p.ticks∧p.ticks≤2147483647):p.ck nam ran=(gV nam ran p.d p.ds.n).bind fun _=>(cP (fun i=>(p.i i).ck nam ⟨p.ds.n,p.d,[],true⟩) p.is.n).bind fun _=>cP (fun i=>(p.s i).ck nam ⟨p.ds.n,p.d,[],false⟩) p.ss.n:=if_neg (not_not_intro h)
theorem aCi (p:Pr)(w:World)(hE:Env9 w)(hI:p.In w.heap.size w)(hwd:sm (fun i=>(p.d i).wt) p.ds.n≤1000000)(hwi:p.is.n≤1000000)(hws:p.ss.n≤1000000)
  (hSt:∀R M,w.heap.size≤R→w.heap.size≤M→(∀i,i<p.is.n→aAX w R M (p.i i))∧∀i,i<p.ss.n→aAX w R M (p.s i)) :
  Calls Tryz.prog 9 #[p.v] w fun r w'=>r=.returned (.tuple #[.int .i64 (p.ck aU raN).er,.int .i64 (p.ck aU raN).pl])∧Below w.heap.size w w':=by
 have hmf:∀(fn:Fn) (first cap:Array Value) (w:World),(Instr.makeFunc fn first cap).run Tryz.prog w=.ok (.func fn first cap) w:=fun _ _ _ _=>rfl;have BL:Below w.heap.size w (((bx w (pO p)).alloc (.cells #[.int .i64 0] 28)).alloc (.cells #[.int .i64 0] 3)):=aI (aI (bS (Below.refl _ _) (aD _) _) _) _
 have k1:Blk (((bx w (pO p)).alloc (.cells #[.int .i64 0] 28)).alloc (.cells #[.int .i64 0] 3)) (w.heap.size+1) 28 #[.int .i64 0]:=by
  have:=(Blk.new (bx w (pO p)) 28 #[.int .i64 0]).alloc (.cells #[.int .i64 0] 3);rw[cJ]at this;exact this
 have k2:Blk (((bx w (pO p)).alloc (.cells #[.int .i64 0] 28)).alloc (.cells #[.int .i64 0] 3)) (w.heap.size+1+1) 3 #[.int .i64 0]:=by
  have:=Blk.new ((bx w (pO p)).alloc (.cells #[.int .i64 0] 28)) 3 #[.int .i64 0];rw[World.size_alloc,cJ]at this;exact this
 have G0:Hid ((((bx w (pO p)).alloc (.cells #[.int .i64 0] 28)).alloc (.cells #[.int .i64 0] 3)).heap[w.heap.size]? = some (pO p)):=
  aV (aI (aY (bx w (pO p)) _) _) (cD w (pO p))
 have HBL:=Hj BL;have K1:=Hj k1;have K2:=Hj k2;have HNE:Hid (w.heap.size+1≠w.heap.size+1+1):=by show _≠_;omega
 have HLE:Hid (w.heap.size≤w.heap.size+1∧w.heap.size≤w.heap.size+1+1):=by show _∧_;omega
 have DC:=Hj fun R M (hM:w.heap.size≤M) w' hb hC=>aCh w R M hE hM p.ds p.d hI.2.1 hwd w' hb hC;have BI:=Hj fun R M (hR:w.heap.size≤R) (hM:w.heap.size≤M) (hS:Sc.good ⟨p.ds.n,p.d,[],true⟩) w' hb hC=>jY w R M hR hM p.is p.i (hSt R M hR hM).1 hI.2.2.1 hwi ⟨p.ds.n,p.d,[],true⟩ p.ds.n w' hS (by have:p.ds.n≤sm (fun i=>(p.d i).wt) p.ds.n:=aAI p.d p.ds.n;omega) hb hC;have BS:=Hj fun R M (hR:w.heap.size≤R) (hM:w.heap.size≤M) (hS:Sc.good ⟨p.ds.n,p.d,[],false⟩) w' hb hC=>jY w R M hR hM p.ss p.s (hSt R M hR hM).2 hI.2.2.2 hws ⟨p.ds.n,p.d,[],false⟩ p.ds.n w' hS (by have:p.ds.n≤sm (fun i=>(p.d i).wt) p.ds.n:=aAI p.d p.ds.n;omega) hb hC;have GD:Hid (∀c,gV aU raN p.d p.ds.n=.ok c→∀b,Sc.good ⟨p.ds.n,p.d,[],b⟩):=fun c h b i hi=>(uL (aKn h i hi).2.2.2).1;have hmm:Hid (p.ticks=p.ticks):=rfl;obtain⟨CK,hCK⟩:∃CK,p.ck aU raN=CK:=⟨_,rfl⟩;have HT:=Hj (Pr.ck_ticks (nam:=aU) (ran:=raN) (p:=p));have HG:=Hj (Pr.ck_go (nam:=aU) (ran:=raN) (p:=p));rw[hCK]at HT HG ⊢;clear BL k1 k2 hE hI hwd hwi hws hSt hCK hmm;generalize cP (fun i=>(p.i i).ck aU ⟨p.ds.n,p.d,[],true⟩) p.is.n=YI at *;generalize cP (fun i=>(p.s i).ck aU ⟨p.ds.n,p.d,[],false⟩) p.ss.n=YS at *
 generalize gV aU raN p.d p.ds.n=YD at *;unfold Pr.v
 go_enter_defers Tryz.func9,Tryz.ntmps9
 go_upto_region 2 with fail;rw[aIJ];change (Code.region 2 _ _).wp _ _ _ (((bx w (pO p)).alloc (.cells #[.int .i64 0] 28)).alloc (.cells #[.int .i64 0] 3));have HSZ:Hid (w.heap.size+1+1<(((bx w (pO p)).alloc (.cells #[.int .i64 0] 28)).alloc (.cells #[.int .i64 0] 3)).heap.size):=K2.out.lt;generalize ((bx w (pO p)).alloc (.cells #[.int .i64 0] 28)).alloc (.cells #[.int .i64 0] 3)=w1 at *;generalize w.heap.size+1+1=b2 at *;generalize w.heap.size+1=b1 at *;have p0:=(eF G0.out).1;have K1_1:=Hj K1.out;have K2_1:=Hj K2.out;have G_1:=Hj G0.out;have HB_1:=Hj HBL.out;clear K1 K2 G0 HBL
 by_cases ht1:1≤p.ticks
 ·by_cases ht2:p.ticks≤2147483647
  ·have HGO:=Hj (HG.out ⟨ht1,ht2⟩)
   clear HT HG;go_wp2_with fail;refine(aT _ _ _ _).mono ?_;rintro r w2 ⟨rfl,e2⟩;rw[e2];clear e2 w2 ht1 ht2 p0;dsimp only[muE];go_wp2_with fail;refine(sV w1).mono ?_;rintro r w2 ⟨R,M,rfl,hR,hM,ck2,bb2⟩
   have NR:Hid (b1≠R∧b1≠M∧b2≠R∧b2≠M∧w.heap.size≠R∧w.heap.size≠M∧w.heap.size≤R∧w.heap.size≤M):=by
    have h1:=K1_1.out.lt;have h2:=K2_1.out.lt;have h3:=(Array.getElem?_eq_some_iff.1 G_1.out).1;show _∧_;refine⟨by omega,by omega,by omega,by omega,by omega,by omega,by omega,by omega⟩
   have K1_2:=Hj (Fx.blk (Fx.of (X:=pP R M) bb2) K1_1.out K1_1.out.lt (fun x=>x.elim NR.out.1 NR.out.2.1));have K2_2:=Hj (Fx.blk (Fx.of (X:=pP R M) bb2) K2_1.out K2_1.out.lt (fun x=>x.elim NR.out.2.2.1 NR.out.2.2.2.1));have G_2:=Hj (jS (Fx.of (X:=pP R M) bb2) (Array.getElem?_eq_some_iff.1 G_1.out).1 NR.out.2.2.2.2.1 NR.out.2.2.2.2.2.1 G_1.out);have HB_2:=Hj (cH HB_1.out (Fx.of (X:=pP R M) bb2) (fun k hk (x:k=R∨k=M)=>by have:=NR.out.2.2.2.2.2.2;omega));clear K1_1 K2_1 G_1 HB_1;have D2:=Hj (DC.out R M NR.out.2.2.2.2.2.2.2 w2 HB_2.out (show Ckf R M 0 (fD p.d 0) false 0 w2 from ck2));have p1:=(eF G_2.out).2.1;clear hR hM ck2 bb2 DC;go_wp2_with fail;refine D2.out.mono ?_;rintro r w3 ⟨rfl,f3,ck3⟩;have F3:=Hj (rmM (R:=R) f3);have K1_3:=Hj (Fx.blk F3.out K1_2.out K1_2.out.lt (fun x=>x.elim NR.out.1 NR.out.2.1));have K2_3:=Hj (Fx.blk F3.out K2_2.out K2_2.out.lt (fun x=>x.elim NR.out.2.2.1 NR.out.2.2.2.1));have G_3:=Hj (jS F3.out (Array.getElem?_eq_some_iff.1 G_2.out).1 NR.out.2.2.2.2.1 NR.out.2.2.2.2.2.1 G_2.out);have HB_3:=Hj (cH HB_2.out F3.out (fun k hk (x:k=R∨k=M)=>by have:=NR.out.2.2.2.2.2.2;omega));clear K1_2 K2_2 G_2 HB_2;have CK3:=Hj ck3;clear D2 p1 f3 ck3 F3
   cases YD with
   | no c q=>
    have E:Hid (CK=.no c q):=by show CK=_;rw[HGO.out];rfl
    dsimp only[unC];go_wp2_with fail;refine leaves_cons (f:=19) (args:=#[.pointer (some ⟨b1,0,none⟩),.pointer (some ⟨b2,0,none⟩)]) (by simp) (by simp[go_sem]) ?_;refine(aHo b1 b2 0 0 c q [] w3 K1_3.out K2_3.out HNE.out).mono ?_;rintro e u' wz ⟨rfl,rfl,k1,k2,f3⟩;refine⟨_,eK rfl _ wz b1 b2 _ _ rfl rfl (mE k1) (mD k2),?_⟩;rw[E.out];exact⟨rfl,cH HB_3 f3 (fun k hk x=>by have:=HLE.out;rcases x with x|x<;>omega)⟩
   | ok c=>
    have CC:=Hj (CK3.out c rfl);have GG:=Hj (GD.out c rfl);clear CK3 GD;dsimp only[unC];have d1:w3.cell? ⟨R,1,none⟩=some (.bool false):=CC.out.blk.cell 1;have z1:=CC.out.blk.frozen 1;go_upto_region 6 with fail;obtain⟨ck4,f4⟩:=CC.out.st true;have F4:=Hj (rmR (M:=M) f4);rw[←aDB p.ds.n p.d true]at ck4;clear f4 d1 z1 CC;have K1_4:=Hj (Fx.blk F4.out K1_3.out K1_3.out.lt (fun x=>x.elim NR.out.1 NR.out.2.1));have K2_4:=Hj (Fx.blk F4.out K2_3.out K2_3.out.lt (fun x=>x.elim NR.out.2.2.1 NR.out.2.2.2.1));have G_4:=Hj (jS F4.out (Array.getElem?_eq_some_iff.1 G_3.out).1 NR.out.2.2.2.2.1 NR.out.2.2.2.2.2.1 G_3.out);have HB_4:=Hj (cH HB_3.out F4.out (fun k hk (x:k=R∨k=M)=>by have:=NR.out.2.2.2.2.2.2;omega));clear K1_3 K2_3 G_3 HB_3;clear F4;generalize w3.setCell ⟨R,1,none⟩ (.bool true)=w4 at *;have D4:=Hj (BI.out R M NR.out.2.2.2.2.2.2.1 NR.out.2.2.2.2.2.2.2 (GG.out true) w4 HB_4.out (show Ckr R M p.ds.n ⟨p.ds.n,p.d,[],true⟩ w4 from ck4));have p2:=(eF G_4.out).2.2.1;clear ck4 BI;go_wp2_with fail;refine D4.out.mono ?_;rintro r w5 ⟨rfl,f5,ck5⟩;have F5:=Hj f5;have K1_5:=Hj (Fx.blk F5.out K1_4.out K1_4.out.lt (fun x=>x.elim NR.out.1 NR.out.2.1))
    have K2_5:=Hj (Fx.blk F5.out K2_4.out K2_4.out.lt (fun x=>x.elim NR.out.2.2.1 NR.out.2.2.2.1));have G_5:=Hj (jS F5.out (Array.getElem?_eq_some_iff.1 G_4.out).1 NR.out.2.2.2.2.1 NR.out.2.2.2.2.2.1 G_4.out);have HB_5:=Hj (cH HB_4.out F5.out (fun k hk (x:k=R∨k=M)=>by have:=NR.out.2.2.2.2.2.2;omega));clear K1_4 K2_4 G_4 HB_4;have CK5:=Hj ck5;clear D4 p2 f5 ck5 F5
    cases YI with
    | no c q=>
     have E:Hid (CK=.no c q):=by show CK=_;rw[HGO.out];rfl
     dsimp only[unE];go_wp2_with fail;refine leaves_cons (f:=19) (args:=#[.pointer (some ⟨b1,0,none⟩),.pointer (some ⟨b2,0,none⟩)]) (by simp) (by simp[go_sem]) ?_;refine(aHo b1 b2 0 0 c q [] w5 K1_5.out K2_5.out HNE.out).mono ?_;rintro e u' wz ⟨rfl,rfl,k1,k2,f3⟩;refine⟨_,eK rfl _ wz b1 b2 _ _ rfl rfl (mE k1) (mD k2),?_⟩;rw[E.out];exact⟨rfl,cH HB_5 f3 (fun k hk x=>by have:=HLE.out;rcases x with x|x<;>omega)⟩
    | ok u=>
     have CC:Hid (Ckf R M p.ds.n (fD p.d p.ds.n) true 0 w5):=by
      have:=CK5.out rfl;unfold Ckr at this;rw[aDB]at this;exact this
     clear CK5;dsimp only[unE];have d1:w5.cell? ⟨R,1,none⟩=some (.bool true):=CC.out.blk.cell 1;have z1:=CC.out.blk.frozen 1;go_upto_region 8 with fail;obtain⟨ck6,f6⟩:=CC.out.st false;have F6:=Hj (rmR (M:=M) f6);rw[←aDB p.ds.n p.d false]at ck6;clear f6 d1 z1 CC;have K1_6:=Hj (Fx.blk F6.out K1_5.out K1_5.out.lt (fun x=>x.elim NR.out.1 NR.out.2.1));have K2_6:=Hj (Fx.blk F6.out K2_5.out K2_5.out.lt (fun x=>x.elim NR.out.2.2.1 NR.out.2.2.2.1));have G_6:=Hj (jS F6.out (Array.getElem?_eq_some_iff.1 G_5.out).1 NR.out.2.2.2.2.1 NR.out.2.2.2.2.2.1 G_5.out);have HB_6:=Hj (cH HB_5.out F6.out (fun k hk (x:k=R∨k=M)=>by have:=NR.out.2.2.2.2.2.2;omega));clear K1_5 K2_5 G_5 HB_5;clear F6;generalize w5.setCell ⟨R,1,none⟩ (.bool false)=w6 at *;have D6:=Hj (BS.out R M NR.out.2.2.2.2.2.2.1 NR.out.2.2.2.2.2.2.2 (GG.out false) w6 HB_6.out (show Ckr R M p.ds.n ⟨p.ds.n,p.d,[],false⟩ w6 from ck6));have p3:=(eF G_6.out).2.2.2;clear ck6 BS;go_wp2_with fail;refine D6.out.mono ?_;rintro r w7 ⟨rfl,f7,ck7⟩;have F7:=Hj f7;have K1_7:=Hj (Fx.blk F7.out K1_6.out K1_6.out.lt (fun x=>x.elim NR.out.1 NR.out.2.1));have K2_7:=Hj (Fx.blk F7.out K2_6.out K2_6.out.lt (fun x=>x.elim NR.out.2.2.1 NR.out.2.2.2.1))
     have G_7:=Hj (jS F7.out (Array.getElem?_eq_some_iff.1 G_6.out).1 NR.out.2.2.2.2.1 NR.out.2.2.2.2.2.1 G_6.out);have HB_7:=Hj (cH HB_6.out F7.out (fun k hk (x:k=R∨k=M)=>by have:=NR.out.2.2.2.2.2.2;omega));clear K1_6 K2_6 G_6 HB_6;clear D6 p3 f7 ck7 F7
     cases YS with
     | no c q=>
      have E:Hid (CK=.no c q):=by show CK=_;rw[HGO.out];rfl
      dsimp only[unE];go_wp2_with fail;refine leaves_cons (f:=19) (args:=#[.pointer (some ⟨b1,0,none⟩),.pointer (some ⟨b2,0,none⟩)]) (by simp) (by simp[go_sem]) ?_;refine(aHo b1 b2 0 0 c q [] w7 K1_7.out K2_7.out HNE.out).mono ?_;rintro e u' wz ⟨rfl,rfl,k1,k2,f3⟩;refine⟨_,eK rfl _ wz b1 b2 _ _ rfl rfl (mE k1) (mD k2),?_⟩;rw[E.out];exact⟨rfl,cH HB_7 f3 (fun k hk x=>by have:=HLE.out;rcases x with x|x<;>omega)⟩
     | ok u=>
      have E:Hid (CK=.ok u):=by show CK=_;rw[HGO.out];rfl
      dsimp only[unE];have m1:=K1_7.out.cell 0;have m2:=K2_7.out.cell 0;have y1:=K1_7.out.frozen 0;have y2:=K2_7.out.frozen 0;have ne12:=HNE.out;have ne21:=Ne.symm HNE.out;go_wp2_with fail;have F8:=bJ (bJ (Fx.refl (Two b1 b2) w7.heap.size w7) (p:=⟨b1,0,none⟩) (.inl (.inl rfl)) (.int .i64 0)) (p:=⟨b2,0,none⟩) (.inl (.inr rfl)) (.int .i64 0);have e1:Blk ((w7.setCell ⟨b1,0,none⟩ (.int .i64 0)).setCell ⟨b2,0,none⟩ (.int .i64 0)) b1 28 #[.int .i64 0]:=(K1_7.out.set_ 0 (.int .i64 0)).far (p:=⟨b2,0,none⟩) ne12 _;have e2:Blk ((w7.setCell ⟨b1,0,none⟩ (.int .i64 0)).setCell ⟨b2,0,none⟩ (.int .i64 0)) b2 3 #[.int .i64 0]:=(K2_7.out.far (p:=⟨b1,0,none⟩) ne21 (.int .i64 0)).set_ 0 (.int .i64 0);clear m1 m2 y1 y2;generalize (w7.setCell ⟨b1,0,none⟩ (.int .i64 0)).setCell ⟨b2,0,none⟩ (.int .i64 0)=w8 at *;refine leaves_cons (f:=19) (args:=#[.pointer (some ⟨b1,0,none⟩),.pointer (some ⟨b2,0,none⟩)]) (by simp) (by simp[go_sem]) ?_;refine(aNz b1 b2 w8).mono ?_;rintro e u' w9 ⟨rfl,rfl,h9⟩;refine⟨_,eK rfl _ w9 b1 b2 _ _ rfl rfl (mE (e1.below h9 e1.lt)) (mD (e2.below h9 e2.lt)),?_⟩;rw[E.out];exact⟨rfl,aG (cH HB_7.out F8 (fun k hk x=>by have:=HLE.out;rcases x with x|x<;>omega)) h9⟩
  ·have E:Hid (CK=.no 123 0):=HT.out (fun h=>ht2 h.2)
   clear HT HG;go_wp2_with fail;refine(aT _ _ _ _).mono ?_;rintro r w2 ⟨rfl,e2⟩;rw[e2];clear e2 w2;dsimp only[muE];go_wp2_with fail;refine leaves_cons (f:=19) (args:=#[.pointer (some ⟨b1,0,none⟩),.pointer (some ⟨b2,0,none⟩)]) (by simp) (by simp[go_sem]) ?_;refine(aHo b1 b2 0 0 123 0 [] w1 K1_1.out K2_1.out HNE.out).mono ?_;rintro e u' wz ⟨rfl,rfl,k1,k2,f3⟩;refine⟨_,eK rfl _ wz b1 b2 _ _ rfl rfl (mE k1) (mD k2),?_⟩;rw[E.out];exact⟨rfl,cH HB_1 f3 (fun k hk x=>by have:=HLE.out;rcases x with x|x<;>omega)⟩
 ·have E:Hid (CK=.no 123 0):=HT.out (fun h=>ht1 h.1)
  clear HT HG;go_wp2_with fail;refine(aT _ _ _ _).mono ?_;rintro r w2 ⟨rfl,e2⟩;rw[e2];clear e2 w2;dsimp only[muE];go_wp2_with fail;refine leaves_cons (f:=19) (args:=#[.pointer (some ⟨b1,0,none⟩),.pointer (some ⟨b2,0,none⟩)]) (by simp) (by simp[go_sem]) ?_;refine(aHo b1 b2 0 0 123 0 [] w1 K1_1.out K2_1.out HNE.out).mono ?_;rintro e u' wz ⟨rfl,rfl,k1,k2,f3⟩;refine⟨_,eK rfl _ wz b1 b2 _ _ rfl rfl (mE k1) (mD k2),?_⟩;rw[E.out];exact⟨rfl,cH HB_1 f3 (fun k hk x=>by have:=HLE.out;rcases x with x|x<;>omega)⟩
theorem tT (p:Pr)(w:World)(hE:Env9 w)(hI:p.In w.heap.size w)(hw:p.wt≤1000000) :
  Calls Tryz.prog 9 #[p.v] w fun r w'=>r=.returned (.tuple #[.int .i64 (p.ck aU raN).er,.int .i64 (p.ck aU raN).pl])∧Below w.heap.size w w':=by
 have hwi:p.is.n≤1000000:=by have:=pS p.i p.is.n;unfold Pr.wt at hw;omega
 have hws:p.ss.n≤1000000:=by have:=pS p.s p.ss.n;unfold Pr.wt at hw;omega
 exact aCi p w hE hI (by unfold Pr.wt at hw;omega) hwi hws fun R M hR hM=>⟨fun i hi=>xI w R M hE hR hM (p.i i) (hI.2.2.1.2.2 i hi) (by have:=iD (f:=fun i=>(p.i i).wt) hi;unfold Pr.wt at hw;omega),fun i hi=>xI w R M hE hR hM (p.s i) (hI.2.2.2.2.2 i hi) (by have:=iD (f:=fun i=>(p.s i).wt) hi;unfold Pr.wt at hw;omega)⟩
end Go.Proofs.YtkbicfffokegeaaGreatDoor
