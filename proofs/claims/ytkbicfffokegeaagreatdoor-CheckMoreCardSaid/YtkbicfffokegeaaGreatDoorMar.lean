/-
  Whatever program and statement are handed in, CheckMore answers true. (part 18 of 30) Conditions: none beside what the card ties.
-/
import Derived.Test.YtkbicfffokegeaaGreatDoorMaq
import Derived.Test.YtkbicfffokegeaaGreatDoorMac
import Derived.StillTailTactics
import Derived.Test.YtkbicfffokegeaaGreatDoorMan
namespace Go.Proofs.YtkbicfffokegeaaGreatDoor
set_option maxHeartbeats 16000000
open Go.RowKit
set_option maxRecDepth 100000
def fD (d:Nat→De)(n:Nat)(x:List UInt8):Option Mn:=(fd d x n).map fun i=>mnOf (d i)
theorem fD_succ {d:Nat→De}{n:Nat}(h:fd d (d n).nm n=none):(fun y=>if y=(d n).nm then some (mnOf (d n))else fD d n y)=fD d (n+1):=by
 funext y
 unfold fD;simp only[fd]
 by_cases e:y=(d n).nm
 ·subst e
  rw[if_pos rfl,h]
  simp
 ·rw[if_neg e]
  cases hf:fd d y n with
  | some i=>rfl
  | none=>rw[if_neg (fun h=>e h.symm)]
theorem fD_mnS (n:Nat)(d:Nat→De)(b:Bool):mnS ⟨n,d,[],b⟩=fD d n:=by
 funext y
 unfold mnS fD Sc.find
 simp
theorem deC_cells {d:De}(h:raN d=true):d.cells=max d.len 1:=by
 unfold De.cells;have hl:=raN_len h;unfold raN at h
 cases hi:d.inp with
 | true=>
  rw[hi]at h
  simp at h
  rw[h.1.1,if_neg (by simp)];rfl
 | false=>
  by_cases c:0<d.len
  ·rw[if_pos ⟨rfl,c⟩];omega
  ·rw[if_neg (by simp;omega)];omega
def unC (r:Ck Int):Ending:=match r with
 | .ok _=>.returned (.tuple #[])
 | .no c p=>.panicked (fl12 c p)
theorem unE_no2 {r:Ck Int}{c p:Int}(h:r=.no c p):Ending.panicked (fl12 c p)=unC r:=by rw[h];rfl
theorem unE_ok2 {r:Ck Int}{c:Int}(h:r=.ok c):Ending.returned (.tuple #[])=unC r:=by rw[h];rfl
theorem no_ok2 {r:Ck Int}{c p a:Int}{P:Prop}(h:r=.no c p)(k:r=.ok a):P:=by rw[h]at k;cases k
theorem take_row12 {o:Oper}{a:Act}{w:World}(ty:TypeId)(x:Operand)(ho:o.op=.load ty x)(b off:Nat)(hx:a.eval x=.pointer (some ⟨b,off,none⟩))(cs:List Value)(d:TypeDesc)(hc:w.rangeAt b off cs)
  (hu:Tryz.prog.underlying ty=some d) (hd:d.isRow=true) (hi:(Tryz.prog.info? ty).map (·.size)=some cs.length):(execOp a.eval o).run Tryz.prog w=.ok (.value (.agg cs.toArray)) w:=by
 unfold execOp;simp only[ho,hx,Instr.loadAt,Instr.sureAddr,Sem.run_bind,Sem.run_pure,Result.andThen_ok,run_loadVar_mid w b off ty cs d hc hu hd hi]
theorem ccdecls_any (w0:World)(R M:Nat)(hE:Env9 w0)(hM:w0.heap.size≤M)(sl:Sl)(d:Nat→De)(hI:DsIn w0.heap.size w0 sl d)(hw:sm (fun i=>(d i).wt) sl.n≤1000000)
  (w:World) (hb:Below w0.heap.size w0 w) (hC:Ckf R M 0 (fD d 0) false 0 w) :
  Calls Tryz.prog 22 #[.pointer (some ⟨R,0,none⟩),.slice sl.ao sl.n sl.c] w fun r w'=>r=unC (desC isnV raN d sl.n)∧Fx (On M) w.heap.size w w'∧(∀c,desC isnV raN d sl.n=.ok c→Ckf R M sl.n (fD d sl.n) false 0 w'):=by
 have hwt:∀m,m≤sm (fun i=>(d i).wt) m:=by
  intro m
  induction m with
  | zero=>exact Nat.le_refl _
  | succ m im=>
   have:1≤(d m).wt:=by unfold De.wt;omega
   show m+1≤sm (fun i=>(d i).wt) m+(d m).wt;omega
 have HW:Hid (∀i,i<sl.n→(d i).nm.length≤1000000):=fun i hi=>by have:=sm_one (f:=fun i=>(d i).wt) hi;have e:(d i).wt=1+(d i).nm.length+(d i).lo.wt+(d i).hi.wt:=rfl;omega
 have HN:Hid (sl.n≤1000000):=Nat.le_trans (hwt sl.n) hw;have HI:=Hj hI;have HB:=Hj hb;have HC:=Hj hC;have HM:=Hj hM;have HE:=Hj hE;have HMR:Hid (M<w.heap.size∧R<w.heap.size):=⟨hC.mp.lt,hC.blk.lt⟩;clear hwt hI hw hb hC hM hE;obtain⟨ao,m,c0⟩:=sl;dsimp only at *;go_enter Tryz.func22,Tryz.ntmps22;go_wp2_with fail
 go_loopg [4,9] m (fun gk u i wr=>∃(j:Nat) (c:Int),i=.int .i64 (j:Int)∧u=.int .i64 c∧Hid (gk=m-j∧j≤m∧0≤c∧c≤96)∧Hid (desC isnV raN d j=.ok c)∧Hid (Ckf R M j (fD d j) false 0 wr)∧Hid (Fx (On M) w.heap.size w wr))
 case atStart=>exact⟨0,0,rfl,rfl,⟨rfl,Nat.zero_le _,by decide,by decide⟩,rfl,HC.out,Fx.refl _ _ _⟩
 case round=>
  obtain⟨j,c,rfl,rfl,HJ,HL,HCr,HF⟩:=hrel;have BW:Hid (Below w0.heap.size w0 wr):=HB.out.trans ((HF.out.mono HB.out.size (fun _ _ x=>x)).bel (fun k hk (x:k=M)=>by have:=HM.out;omega))
  by_cases hlt:j<m
  ·have z0:(j:Int)<(m:Int):=by omega
   have ovi:IntKind.i64.wrap ((j:Int)+1)=((j+1:Nat):Int):=by have:=HN.out;rw[IntKind.wrap_i64];omega
   have E:Hid (∀q,j<q→∀e p,deC isnV raN d j c=.no e p→desC isnV raN d q=.no e p):=fun q hq e p h=>desC_stop h HL.out q hq;have NXT:Hid (∀c',deC isnV raN d j c=.ok c'→desC isnV raN d (j+1)=.ok c'):=fun c' h=>by simp only[desC,HL.out,Ck.bind,h]
   obtain⟨a,b,o,rfl,hA,hb1,h4⟩:=(HI.out.below BW.out (Nat.le_refl _)).2.1.at HI.out.1 hlt rfl;have ID:=(HI.out.below BW.out (Nat.le_refl _)).2.2 j hlt;have OK:=Hj (And.intro ID.2.1.ok ID.2.2.ok);have HNM:=Hj (HW.out j hlt);have RC:=Hj (show wr.rangeAt b o (dcvs (d j) (d j).lo.h (d j).hi.h)from h4);have BX:=Hj (bx_bel (Below.refl wr.heap.size wr) (Nat.le_refl _) (dO (d j) (d j).lo.h (d j).hi.h));have GD:=Hj (bx_new wr (dO (d j) (d j).lo.h (d j).hi.h));have HCw:Hid (Ckf R M j (fD d j) false 0 (bx wr (dO (d j) (d j).lo.h (d j).hi.h))):=HCr.out.bel BX.out;have EW:=Hj (HE.out.below BW.out);have HLT:=Hj hlt;have O1:=Hj (dcvs_one (d j) (d j).lo.h (d j).hi.h);rw[dO_eq]at BX HCw GD;obtain⟨V1,hV1⟩:∃V,dcvs (d j) (d j).lo.h (d j).hi.h=V:=⟨_,rfl⟩;have HV1:=Hj hV1;have L1:=Hj (show(Tryz.prog.info? 44).map (·.size)=some V1.length∧V1.length=20 by rw[←hV1];exact⟨by kernel_rfl,rfl⟩);rw[hV1]at BX HCw GD RC O1;clear hb1 hlt hV1 h4 HCr ID BW
   go_upto_region 4 with(first
    | refine wpList_load_mid rfl 44 _ rfl b o rfl V1 _ RC.out Tryz.underlying44 rfl L1.out.1 ?_
    | refine store_bx rfl 44 _ _ rfl wr _ V1.toArray rfl rfl (by rw[List.size_toArray];exact L1.out.1) (by have h:V1.toArray.size=20:=(by rw[List.size_toArray];exact L1.out.2);rw[h];rfl) O1.out ?_)
   clear RC O1;have GD':Hid ((bx wr (.cells V1.toArray 44 (0,0))).heap[wr.heap.size]? = some (dO (d j) (d j).lo.h (d j).hi.h)):=by rw[dO_eq,HV1.out];exact GD
   clear GD;have GD:=Hj GD'.out;clear GD';generalize bx wr (.cells V1.toArray 44 (0,0))=wv at *;try simp only[Act.put]
   have EN:Hid (∀w',Below wv.heap.size wv w'→Calls Tryz.prog 15 #[.string ⟨(d j).nm.toArray⟩] w' fun r w''=>r=.returned (.bool (isnV (d j).nm))∧Below w'.heap.size w' w''):=fun w' h=>xIsName_any ⟨(d j).nm.toArray⟩ w' (by rw[Lib.size_eq];exact Nat.le_trans HNM.out (by decide)) ((EW.out.below BX.out).below h)
   have KG:Hid (∀w',Below wv.heap.size wv w'→(w'.cell? ⟨wr.heap.size,2,none⟩=some (.string ⟨(d j).nm.toArray⟩)∧w'.cell? ⟨wr.heap.size,0,none⟩=some (.int .i64 (d j).ps))):=fun w' hw=>by
    have D:=d_cells (keptO hw GD.out);exact⟨D.c2,D.c0⟩
   cases hin:isnV (d j).nm with
   | false=>
    rw[hin]at EN;have hE1:deC isnV raN d j c=.no 120 (d j).ps:=by unfold deC;rw[if_pos hin]
    refine region_plan (S:=fun w'=>w'.cell? ⟨wr.heap.size,2,none⟩=some (.string ⟨(d j).nm.toArray⟩)∧w'.cell? ⟨wr.heap.size,0,none⟩=some (.int .i64 (d j).ps)) _ [(0,true),(1,true),(3,true),(4,true),(2,false),(5,false)] (by kernel_rfl) (by kernel_rfl) rfl (by kernel_rfl) (by kernel_rfl) (fun _ _ d _ _ h=>by cases d<;>exact h) (KG.out _ (bel_drew (Below.refl _ _))) ?_
    iterate 4
     refine Walk.take (v:=?_) rfl (by rfl) ?_ ?_;rotate_left
     ·(intro w' hSw;(try dsimp only at hSw);go_simp<;>with_reducible rfl)
     try simp only[Act.put,List.setIfInBounds_toArray,List.set_cons_zero,List.set_cons_succ]
    refine Walk.act rfl (by rfl) (fun K hK=>?_);go_simp;go_at_call 15;refine(EN.out _ (bel_drew (Below.refl _ _))).mono ?_;rintro r v1 ⟨rfl,b1⟩;dsimp only;have X1:Below wv.heap.size wv v1:=bel_trans (bel_drew (Below.refl _ _)) b1;refine hK.out _ _ (KG.out _ X1) ?_;clear hK K;try simp only[Act.put,List.setIfInBounds_toArray,List.set_cons_zero,List.set_cons_succ]
    refine Walk.act rfl (by rfl) (fun K hK=>?_);go_simp;go_at_call 20;refine(ccmust_any _ _ _ _).mono ?_;rintro r v2 ⟨rfl,e2⟩;dsimp only[muE];exact⟨rfl,unE_no2 (E.out m HLT.out _ _ hE1),fx_bel HF.out (bel_trans BX.out (e2 ▸ X1)),fun c k=>no_ok2 (E.out m HLT.out _ _ hE1) k⟩
   | true=>
    rw[hin]at EN;have D1:=Hj hin;refine region_plan (S:=fun w'=>w'.cell? ⟨wr.heap.size,2,none⟩=some (.string ⟨(d j).nm.toArray⟩)∧w'.cell? ⟨wr.heap.size,0,none⟩=some (.int .i64 (d j).ps)) _ [(0,true),(1,true),(3,true),(4,true),(2,false),(5,false)] (by kernel_rfl) (by kernel_rfl) rfl (by kernel_rfl) (by kernel_rfl) (fun _ _ d _ _ h=>by cases d<;>exact h) (KG.out _ (bel_drew (Below.refl _ _))) ?_
    iterate 4
     refine Walk.take (v:=?_) rfl (by rfl) ?_ ?_;rotate_left
     ·(intro w' hSw;(try dsimp only at hSw);go_simp<;>with_reducible rfl)
     try simp only[Act.put,List.setIfInBounds_toArray,List.set_cons_zero,List.set_cons_succ]
    refine Walk.act rfl (by rfl) (fun K hK=>?_);go_simp;go_at_call 15;refine(EN.out _ (bel_drew (Below.refl _ _))).mono ?_;rintro r v1 ⟨rfl,b1⟩;dsimp only;have X1:Below wv.heap.size wv v1:=bel_trans (bel_drew (Below.refl _ _)) b1;refine hK.out _ _ (KG.out _ X1) ?_;clear hK K;try simp only[Act.put,List.setIfInBounds_toArray,List.set_cons_zero,List.set_cons_succ]
    refine Walk.act rfl (by rfl) (fun K hK=>?_);go_simp;go_at_call 20;refine(ccmust_any _ _ _ _).mono ?_;rintro r v2 ⟨rfl,e2⟩;dsimp only[muE];have X2:Below wv.heap.size wv v2:=e2 ▸ X1;refine hK.out _ _ (KG.out _ X2) ?_;clear hK K;try simp only[Act.put,List.setIfInBounds_toArray,List.set_cons_zero,List.set_cons_succ]
    refine Walk.done ?_;have BX2:=Hj (bel_trans BX.out X2);have GD2:=Hj (keptO X2 GD.out);have HC2:Hid (Ckf R M j (fD d j) false 0 v2):=HCw.out.bel X2;clear EN hin;clear KG X1 X2 b1 e2 BX GD HCw wv;have BX:=Hj BX2.out;have GD:=Hj GD2.out;have HCw:=Hj HC2.out;clear BX2 GD2 HC2;generalize v2=wv at *;go_upto_region 5 with fail;have KN:Hid (∀w',Below wv.heap.size wv w'→Calls Tryz.prog 28 #[.pointer (some ⟨R,0,none⟩),.string ⟨(d j).nm.toArray⟩] w' fun r w''=>r=.returned (.bool (fD d j (d j).nm).isSome)∧Below w'.heap.size w' w''):=fun w' hb=>ccknows_any R M j _ _ _ (d j).nm w' (HCw.out.bel hb) (Nat.le_trans HNM.out (by decide))
    have KG:Hid (∀w',Below wv.heap.size wv w'→(w'.cell? ⟨wr.heap.size,2,none⟩=some (.string ⟨(d j).nm.toArray⟩)∧w'.cell? ⟨wr.heap.size,0,none⟩=some (.int .i64 (d j).ps))):=fun w' hw=>by
     have D:=d_cells (keptO hw GD.out);exact⟨D.c2,D.c0⟩
    cases hk:(fD d j (d j).nm).isSome with
    | true=>
     rw[hk]at KN
     have hE1:deC isnV raN d j c=.no 121 (d j).ps:=by
      unfold deC;have hk2:(fd d (d j).nm j).isSome=true:=by unfold fD at hk;simpa using hk
      rw[if_neg (by rw[D1.out];simp),if_pos hk2]
     refine region_plan (S:=fun w'=>w'.cell? ⟨wr.heap.size,2,none⟩=some (.string ⟨(d j).nm.toArray⟩)∧w'.cell? ⟨wr.heap.size,0,none⟩=some (.int .i64 (d j).ps)) _ [(0,true),(1,true),(2,true),(5,true),(6,true),(3,false),(4,true),(7,false)] (by kernel_rfl) (by kernel_rfl) rfl (by kernel_rfl) (by kernel_rfl) (fun _ _ d _ _ h=>by cases d<;>exact h) (KG.out _ (bel_drew (Below.refl _ _))) ?_
     iterate 5
      refine Walk.take (v:=?_) rfl (by rfl) ?_ ?_;rotate_left
      ·(intro w' hSw;(try dsimp only at hSw);go_simp<;>with_reducible rfl)
      try simp only[Act.put,List.setIfInBounds_toArray,List.set_cons_zero,List.set_cons_succ]
     refine Walk.act rfl (by rfl) (fun K hK=>?_);go_simp;go_at_call 28;refine(KN.out _ (bel_drew (Below.refl _ _))).mono ?_;rintro r v1 ⟨rfl,b1⟩;dsimp only;have X1:Below wv.heap.size wv v1:=bel_trans (bel_drew (Below.refl _ _)) b1;refine hK.out _ _ (KG.out _ X1) ?_;clear hK K;try simp only[Act.put,List.setIfInBounds_toArray,List.set_cons_zero,List.set_cons_succ]
     iterate 1
      refine Walk.take (v:=?_) rfl (by rfl) ?_ ?_;rotate_left
      ·(intro w' hSw;(try dsimp only at hSw);go_simp<;>with_reducible rfl)
      try simp only[Act.put,List.setIfInBounds_toArray,List.set_cons_zero,List.set_cons_succ]
     refine Walk.act rfl (by rfl) (fun K hK=>?_);go_simp;go_at_call 20;refine(ccmust_any _ _ _ _).mono ?_;rintro r v2 ⟨rfl,e2⟩;dsimp only[muE];exact⟨rfl,unE_no2 (E.out m HLT.out _ _ hE1),fx_bel HF.out (bel_trans BX.out (e2 ▸ X1)),fun c k=>no_ok2 (E.out m HLT.out _ _ hE1) k⟩
    | false=>
     rw[hk]at KN;have D2:Hid (fd d (d j).nm j=none):=by show _=_;unfold fD at hk;cases hq:fd d (d j).nm j with|none=>rfl|some i=>rw[hq]at hk;cases hk
     refine region_plan (S:=fun w'=>w'.cell? ⟨wr.heap.size,2,none⟩=some (.string ⟨(d j).nm.toArray⟩)∧w'.cell? ⟨wr.heap.size,0,none⟩=some (.int .i64 (d j).ps)) _ [(0,true),(1,true),(2,true),(5,true),(6,true),(3,false),(4,true),(7,false)] (by kernel_rfl) (by kernel_rfl) rfl (by kernel_rfl) (by kernel_rfl) (fun _ _ d _ _ h=>by cases d<;>exact h) (KG.out _ (bel_drew (Below.refl _ _))) ?_
     iterate 5
      refine Walk.take (v:=?_) rfl (by rfl) ?_ ?_;rotate_left
      ·(intro w' hSw;(try dsimp only at hSw);go_simp<;>with_reducible rfl)
      try simp only[Act.put,List.setIfInBounds_toArray,List.set_cons_zero,List.set_cons_succ]
     refine Walk.act rfl (by rfl) (fun K hK=>?_);go_simp;go_at_call 28;refine(KN.out _ (bel_drew (Below.refl _ _))).mono ?_;rintro r v1 ⟨rfl,b1⟩;dsimp only;have X1:Below wv.heap.size wv v1:=bel_trans (bel_drew (Below.refl _ _)) b1;refine hK.out _ _ (KG.out _ X1) ?_;clear hK K;try simp only[Act.put,List.setIfInBounds_toArray,List.set_cons_zero,List.set_cons_succ]
     iterate 1
      refine Walk.take (v:=?_) rfl (by rfl) ?_ ?_;rotate_left
      ·(intro w' hSw;(try dsimp only at hSw);go_simp<;>with_reducible rfl)
      try simp only[Act.put,List.setIfInBounds_toArray,List.set_cons_zero,List.set_cons_succ]
     refine Walk.act rfl (by rfl) (fun K hK=>?_);go_simp;go_at_call 20;refine(ccmust_any _ _ _ _).mono ?_;rintro r v2 ⟨rfl,e2⟩;dsimp only[muE];have X2:Below wv.heap.size wv v2:=e2 ▸ X1;refine hK.out _ _ (KG.out _ X2) ?_;clear hK K;try simp only[Act.put,List.setIfInBounds_toArray,List.set_cons_zero,List.set_cons_succ]
     refine Walk.done ?_;have BX2:=Hj (bel_trans BX.out X2);have GD2:=Hj (keptO X2 GD.out);have HC2:Hid (Ckf R M j (fD d j) false 0 v2):=HCw.out.bel X2;clear KN hk;clear KG X1 X2 b1 e2 BX GD HCw wv;have BX:=Hj BX2.out;have GD:=Hj GD2.out;have HCw:=Hj HC2.out;clear BX2 GD2 HC2;generalize v2=wv at *;go_upto_region 6 with fail;have TN:Hid (∀w',Calls Tryz.prog 37 #[.int .u8 (d j).ty] w' fun r w''=>r=.returned (.bool (decide (1≤(d j).ty∧(d j).ty≤3)))∧Below w'.heap.size w' w''):=fun w'=>(ccisType_any (d j).ty w').mono fun r w'' h=>⟨h.1,h.2 ▸ Below.refl _ _⟩
     have KG:Hid (∀w',Below wv.heap.size wv w'→(w'.cell? ⟨wr.heap.size,3,none⟩=some (.int .u8 (d j).ty)∧w'.cell? ⟨wr.heap.size,0,none⟩=some (.int .i64 (d j).ps))):=fun w' hw=>by
      have D:=d_cells (keptO hw GD.out);exact⟨D.c3,D.c0⟩
     cases ht:decide (1≤(d j).ty∧(d j).ty≤3) with
     | false=>
      rw[ht]at TN
      have hE1:deC isnV raN d j c=.no 122 (d j).ps:=by
       unfold deC;rw[if_neg (by rw[D1.out];simp),if_neg (by rw[D2.out];simp),if_pos (of_decide_eq_false ht)]
      refine region_plan (S:=fun w'=>w'.cell? ⟨wr.heap.size,3,none⟩=some (.int .u8 (d j).ty)∧w'.cell? ⟨wr.heap.size,0,none⟩=some (.int .i64 (d j).ps)) _ [(0,true),(1,true),(3,true),(4,true),(2,false),(5,false)] (by kernel_rfl) (by kernel_rfl) rfl (by kernel_rfl) (by kernel_rfl) (fun _ _ d _ _ h=>by cases d<;>exact h) (KG.out _ (bel_drew (Below.refl _ _))) ?_
      iterate 4
       refine Walk.take (v:=?_) rfl (by rfl) ?_ ?_;rotate_left
       ·(intro w' hSw;(try dsimp only at hSw);go_simp<;>with_reducible rfl)
       try simp only[Act.put,List.setIfInBounds_toArray,List.set_cons_zero,List.set_cons_succ]
      refine Walk.act rfl (by rfl) (fun K hK=>?_);go_simp;go_at_call 37;refine(TN.out _).mono ?_;rintro r v1 ⟨rfl,b1⟩;dsimp only;have X1:Below wv.heap.size wv v1:=bel_trans (bel_drew (Below.refl _ _)) b1;refine hK.out _ _ (KG.out _ X1) ?_;clear hK K;try simp only[Act.put,List.setIfInBounds_toArray,List.set_cons_zero,List.set_cons_succ]
      refine Walk.act rfl (by rfl) (fun K hK=>?_);go_simp;go_at_call 20;refine(ccmust_any _ _ _ _).mono ?_;rintro r v2 ⟨rfl,e2⟩;dsimp only[muE];exact⟨rfl,unE_no2 (E.out m HLT.out _ _ hE1),fx_bel HF.out (bel_trans BX.out (e2 ▸ X1)),fun c k=>no_ok2 (E.out m HLT.out _ _ hE1) k⟩
     | true=>
      rw[ht]at TN;have D3:=Hj (of_decide_eq_true ht);refine region_plan (S:=fun w'=>w'.cell? ⟨wr.heap.size,3,none⟩=some (.int .u8 (d j).ty)∧w'.cell? ⟨wr.heap.size,0,none⟩=some (.int .i64 (d j).ps)) _ [(0,true),(1,true),(3,true),(4,true),(2,false),(5,false)] (by kernel_rfl) (by kernel_rfl) rfl (by kernel_rfl) (by kernel_rfl) (fun _ _ d _ _ h=>by cases d<;>exact h) (KG.out _ (bel_drew (Below.refl _ _))) ?_
      iterate 4
       refine Walk.take (v:=?_) rfl (by rfl) ?_ ?_;rotate_left
       ·(intro w' hSw;(try dsimp only at hSw);go_simp<;>with_reducible rfl)
       try simp only[Act.put,List.setIfInBounds_toArray,List.set_cons_zero,List.set_cons_succ]
      refine Walk.act rfl (by rfl) (fun K hK=>?_);go_simp;go_at_call 37;refine(TN.out _).mono ?_;rintro r v1 ⟨rfl,b1⟩;dsimp only;have X1:Below wv.heap.size wv v1:=bel_trans (bel_drew (Below.refl _ _)) b1;refine hK.out _ _ (KG.out _ X1) ?_;clear hK K;try simp only[Act.put,List.setIfInBounds_toArray,List.set_cons_zero,List.set_cons_succ]
      refine Walk.act rfl (by rfl) (fun K hK=>?_);go_simp;go_at_call 20;refine(ccmust_any _ _ _ _).mono ?_;rintro r v2 ⟨rfl,e2⟩;dsimp only[muE];have X2:Below wv.heap.size wv v2:=e2 ▸ X1;refine hK.out _ _ (KG.out _ X2) ?_;clear hK K;try simp only[Act.put,List.setIfInBounds_toArray,List.set_cons_zero,List.set_cons_succ]
      refine Walk.done ?_;have BX2:=Hj (bel_trans BX.out X2);have GD2:=Hj (keptO X2 GD.out);have HC2:Hid (Ckf R M j (fD d j) false 0 v2):=HCw.out.bel X2;clear TN ht;clear KG X1 X2 b1 e2 BX GD HCw wv;have BX:=Hj BX2.out;have GD:=Hj GD2.out;have HCw:=Hj HC2.out;clear BX2 GD2 HC2;generalize v2=wv at *;go_upto_region 7 with fail
      have FN:Hid (∀w',Calls Tryz.prog 38 #[.agg V1.toArray] w' fun r w''=>r=.returned (.bool (raN (d j)))∧Below w'.heap.size w' w''):=by
       intro w';have:=cchasForm_any (d j) (d j).lo.h (d j).hi.h w' OK.out.1 OK.out.2;rw[dcv_eq,HV1.out]at this;exact this
      have KG:Hid (∀w',Below wv.heap.size wv w'→(w'.rangeAt wr.heap.size 0 V1∧w'.cell? ⟨wr.heap.size,0,none⟩=some (.int .i64 (d j).ps))):=fun w' hw=>by
       have D:=dO_range (keptO hw GD.out);rw[HV1.out]at D;exact⟨D,(d_cells (keptO hw GD.out)).c0⟩
      cases hr:raN (d j) with
      | false=>
       rw[hr]at FN
       have hE1:deC isnV raN d j c=.no 123 (d j).ps:=by
        unfold deC;rw[if_neg (by rw[D1.out];simp),if_neg (by rw[D2.out];simp),if_neg (by have:=D3.out;exact fun h=>h this),if_pos hr]
       refine region_plan (S:=fun w'=>w'.rangeAt wr.heap.size 0 V1∧w'.cell? ⟨wr.heap.size,0,none⟩=some (.int .i64 (d j).ps)) _ [(0,true),(2,true),(3,true),(1,false),(4,false)] (by kernel_rfl) (by kernel_rfl) rfl (by kernel_rfl) (by kernel_rfl) (fun _ _ d _ _ h=>by cases d<;>exact h) (KG.out _ (bel_drew (Below.refl _ _))) ?_;refine Walk.take (v:=.agg V1.toArray) rfl (by rfl) (fun w' hSw=>take_row12 44 _ rfl wr.heap.size 0 rfl V1 _ hSw.1 Tryz.underlying44 rfl L1.out.1) ?_;try simp only[Act.put,List.setIfInBounds_toArray,List.set_cons_zero,List.set_cons_succ]
       iterate 2
        refine Walk.take (v:=?_) rfl (by rfl) ?_ ?_;rotate_left
        ·(intro w' hSw;have s2:=hSw.2;clear hSw;go_simp<;>with_reducible rfl)
        try simp only[Act.put,List.setIfInBounds_toArray,List.set_cons_zero,List.set_cons_succ]
       refine Walk.act rfl (by rfl) (fun K hK=>?_);go_simp;go_at_call 38;refine(FN.out _).mono ?_;rintro r v1 ⟨rfl,b1⟩;dsimp only;have X1:Below wv.heap.size wv v1:=bel_trans (bel_drew (Below.refl _ _)) b1;refine hK.out _ _ (KG.out _ X1) ?_;clear hK K;try simp only[Act.put,List.setIfInBounds_toArray,List.set_cons_zero,List.set_cons_succ]
       refine Walk.act rfl (by rfl) (fun K hK=>?_);go_simp;go_at_call 20;refine(ccmust_any _ _ _ _).mono ?_;rintro r v2 ⟨rfl,e2⟩;dsimp only[muE];exact⟨rfl,unE_no2 (E.out m HLT.out _ _ hE1),fx_bel HF.out (bel_trans BX.out (e2 ▸ X1)),fun c k=>no_ok2 (E.out m HLT.out _ _ hE1) k⟩
      | true=>
       rw[hr]at FN;have D4:=Hj hr;refine region_plan (S:=fun w'=>w'.rangeAt wr.heap.size 0 V1∧w'.cell? ⟨wr.heap.size,0,none⟩=some (.int .i64 (d j).ps)) _ [(0,true),(2,true),(3,true),(1,false),(4,false)] (by kernel_rfl) (by kernel_rfl) rfl (by kernel_rfl) (by kernel_rfl) (fun _ _ d _ _ h=>by cases d<;>exact h) (KG.out _ (bel_drew (Below.refl _ _))) ?_;refine Walk.take (v:=.agg V1.toArray) rfl (by rfl) (fun w' hSw=>take_row12 44 _ rfl wr.heap.size 0 rfl V1 _ hSw.1 Tryz.underlying44 rfl L1.out.1) ?_;try simp only[Act.put,List.setIfInBounds_toArray,List.set_cons_zero,List.set_cons_succ]
       iterate 2
        refine Walk.take (v:=?_) rfl (by rfl) ?_ ?_;rotate_left
        ·(intro w' hSw;have s2:=hSw.2;clear hSw;go_simp<;>with_reducible rfl)
        try simp only[Act.put,List.setIfInBounds_toArray,List.set_cons_zero,List.set_cons_succ]
       refine Walk.act rfl (by rfl) (fun K hK=>?_);go_simp;go_at_call 38;refine(FN.out _).mono ?_;rintro r v1 ⟨rfl,b1⟩;dsimp only;have X1:Below wv.heap.size wv v1:=bel_trans (bel_drew (Below.refl _ _)) b1;refine hK.out _ _ (KG.out _ X1) ?_;clear hK K;try simp only[Act.put,List.setIfInBounds_toArray,List.set_cons_zero,List.set_cons_succ]
       refine Walk.act rfl (by rfl) (fun K hK=>?_);go_simp;go_at_call 20;refine(ccmust_any _ _ _ _).mono ?_;rintro r v2 ⟨rfl,e2⟩;dsimp only[muE];have X2:Below wv.heap.size wv v2:=e2 ▸ X1;refine hK.out _ _ (KG.out _ X2) ?_;clear hK K;try simp only[Act.put,List.setIfInBounds_toArray,List.set_cons_zero,List.set_cons_succ]
       refine Walk.done ?_;have BX2:=Hj (bel_trans BX.out X2);have GD2:=Hj (keptO X2 GD.out);have HC2:Hid (Ckf R M j (fD d j) false 0 v2):=HCw.out.bel X2;clear FN hr;clear KG X1 X2 b1 e2 BX GD HCw wv;have BX:=Hj BX2.out;have GD:=Hj GD2.out;have HCw:=Hj HC2.out;clear BX2 GD2 HC2;generalize v2=wv at *;have HLEN:Hid (0≤(d j).len∧(d j).len≤16∧(d j).cells=max (d j).len 1):=⟨(raN_len D4.out).1,(raN_len D4.out).2,deC_cells D4.out⟩;have q4:=(d_cells GD.out).c4;have q0:=(d_cells GD.out).c0;go_upto_region 9 with fail;have hwr:wrap64 (c+max (d j).len 1)=c+(d j).cells:=by have h1:=HLEN.out;have h2:=HJ.out;rw[h1.2.2];unfold wrap64;omega
       rw[hwr];clear hwr q4;generalize hcc:c+(d j).cells=cc at *;have HCC:Hid (c+(d j).cells=cc∧1≤cc):=by have h1:=HLEN.out;have h2:=HJ.out;exact⟨hcc,by rw[h1.2.2]at hcc;omega⟩
       clear hcc
       by_cases hcl:cc≤96
       ·have DE:Hid (deC isnV raN d j c=.ok cc):=by
         show deC isnV raN d j c=_;unfold deC;rw[if_neg (by rw[D1.out];simp),if_neg (by rw[D2.out];simp),if_neg (by have:=D3.out;exact fun h=>h this),if_neg (by rw[D4.out];simp),if_neg (by rw[HCC.out.1];omega),HCC.out.1]
        have HCL:=Hj hcl;go_wp2_with fail;refine(ccmust_any _ _ _ _).mono ?_;rintro r v3 ⟨rfl,e3⟩;rw[e3];clear e3 v3 hcl;dsimp only[muE];have RA:Hid (wv.rangeAt wr.heap.size 0 V1):=by have:=dO_range GD.out;rw[HV1.out]at this;exact this
        have DN:=Hj (ccdeclare_any R M j (fD d j) false 0 (d j) (d j).lo.h (d j).hi.h wv HCw.out (Nat.le_trans HNM.out (by decide)) (by have:=HN.out;have:=HLT.out;unfold maxLen;omega));rw[fD_succ D2.out,dcv_eq,HV1.out]at DN;clear q0
        go_wp2_with (refine wpList_load_mid rfl 44 _ rfl wr.heap.size 0 rfl V1 _ RA.out Tryz.underlying44 rfl L1.out.1 ?_)
        refine DN.out.mono ?_;rintro r v4 ⟨rfl,hck,hfx⟩;have F4:=Hj (fx_trans (fx_bel HF.out BX.out) hfx);have CK:=Hj hck;clear hck hfx DN RA BX HF GD HCw;go_wp2_with fail
        go_roundg (m-(j+1))
        case measure=>have:=HJ.out;have:=HLT.out;omega
        case rel=>exact⟨j+1,cc,by go_num,rfl,⟨rfl,HLT.out,by have:=HCC.out;omega,HCL.out⟩,NXT.out _ DE.out,CK.out,F4.out⟩
       ·have hE1:deC isnV raN d j c=.no 123 (d j).ps:=by
         unfold deC;rw[if_neg (by rw[D1.out];simp),if_neg (by rw[D2.out];simp),if_neg (by have:=D3.out;exact fun h=>h this),if_neg (by rw[D4.out];simp),if_pos (by rw[HCC.out.1];omega)]
        have HE1:=Hj hE1;clear hE1;go_wp2_with fail;refine(ccmust_any _ _ _ _).mono ?_;rintro r v3 ⟨rfl,e3⟩;rw[e3];clear e3 v3;dsimp only[muE];go_wp2_with fail;exact⟨rfl,unE_no2 (E.out m HLT.out _ _ HE1.out),fx_bel HF.out BX.out,fun c k=>no_ok2 (E.out m HLT.out _ _ HE1.out) k⟩
  ·obtain rfl:j=m:=by have:=HJ.out;omega
   have z0:¬(j:Int)<(j:Int):=by omega
   clear hlt;go_wp2_with fail;refine bodyPost_end (results_none rfl _ _ _) rfl ⟨unE_ok2 HL.out,HF.out,fun _ _=>HCr.out⟩
structure Dh (a b:De):Prop where
 inp:a.inp=b.inp
 nm:a.nm=b.nm
 ty:a.ty=b.ty
 len:a.len=b.len
structure Sh (S S':Sc):Prop where
 n:S.n=S'.n
 d:∀i,i<S.n→Dh (S.d i) (S'.d i)
 loops:S.loops=S'.loops
 init:S.init=S'.init
theorem fd_congr {d d':Nat→De}{x:List UInt8}{n:Nat}(h:∀i,i<n→(d i).nm=(d' i).nm):fd d x n=fd d' x n:=by
 induction n with
 | zero=>rfl
 | succ n ih=>simp only[fd];rw[ih fun i hi=>h i (by omega),h n (by omega)]
theorem Sh.find {S S':Sc}(h:Sh S S')(x:List UInt8):S'.find x=S.find x:=by
 unfold Sc.find;rw[←h.n];exact(fd_congr fun i hi=>(h.d i hi).nm).symm
theorem Sh.inner {S S':Sc}(h:Sh S S')(x:List UInt8):Sh (S.inner x) (S'.inner x):=⟨h.n,h.d,by show S.loops++[x]=S'.loops++[x];rw[h.loops],h.init⟩
theorem seqC_congr {f f':Nat→Ck Unit}{n:Nat}(h:∀i,i<n→f' i=f i):seqC f' n=seqC f n:=by
 induction n with
 | zero=>rfl
 | succ n ih=>simp only[seqC];rw[ih fun i hi=>h i (by omega),h n (by omega)]
def Ck.nz {α:Type}(r:Ck α):Prop:=∀e p,r=.no e p→120≤e∧e≤125
theorem nz_ok {α:Type}(a:α):(Ck.ok a).nz:=fun _ _ h=>by cases h
theorem nz_no {α:Type}{e p:Int}(h:120≤e∧e≤125):(Ck.no e p:Ck α).nz:=fun _ _ g=>by cases g;exact h
theorem nz_bind {α β:Type}{r:Ck α}{f:α→Ck β}(h:r.nz)(g:∀a,(f a).nz):(r.bind f).nz:=by
 cases r with
 | ok a=>exact g a
 | no e p=>exact nz_no (h e p rfl)
theorem nz_er {α:Type}{r:Ck α}(h:r.nz):r.er=0↔∃a,r=.ok a:=by
 cases r with
 | ok a=>exact⟨fun _=>⟨a,rfl⟩,fun _=>rfl⟩
 | no e p=>
  have:=h e p rfl;exact⟨fun(g:e=0)=>by omega,fun⟨a,g⟩=>by cases g⟩
theorem nz_cks {f:Nat→Ck Int}{n:Nat}(h:∀i,i<n→(f i).nz):(cks f n).nz:=by
 induction n with
 | zero=>exact nz_ok _
 | succ n ih=>exact nz_bind (ih fun i hi=>h i (by omega)) fun l=>nz_bind (h n (by omega)) fun t=>nz_ok _
theorem nz_seqC {f:Nat→Ck Unit}{n:Nat}(h:∀i,i<n→(f i).nz):(seqC f n).nz:=by
 induction n with
 | zero=>exact nz_ok _
 | succ n ih=>exact nz_bind (ih fun i hi=>h i (by omega)) fun _=>h n (by omega)
theorem nz_want {c:Bool}{e p:Int}(h:120≤e∧e≤125):(wantC c e p).nz:=by
 unfold wantC;split
 ·exact nz_ok _
 ·exact nz_no h
theorem nz_look {S:Sc}{x:List UInt8}{p:Int}:(S.look x p).nz:=by
 unfold Sc.look;split
 ·exact nz_ok _
 ·split
  ·exact nz_no (by decide)
  ·split
   ·exact nz_no (by decide)
   ·exact nz_ok _
theorem nz_ops {t long:Int}{n:Nat}{p:Int}{a:Ck Int}(h:0<n→a.nz):(opsC t long n p a).nz:=by
 unfold opsC;split
 ·split
  ·rename_i c
   refine nz_bind (h (by omega)) fun u=>?_;split
   ·exact nz_ok _
   ·exact nz_no (by decide)
  ·exact nz_no (by decide)
 ·split
  ·exact nz_ok _
  ·exact nz_no (by decide)
theorem Ex.ck_nz (S:Sc)(e:Ex):(e.ck S).nz:=by
 induction e using Ex.ind with
 | H e ih=>
  rw[Ex.ck_eq S e];split
  ·exact nz_bind nz_look fun tl=>nz_ops fun h=>ih 0 h
  ·refine nz_bind (nz_cks fun i hi=>ih i hi) fun l=>?_
   split
   ·exact nz_no (by decide)
   ·split
    ·exact nz_no (by decide)
    ·exact nz_ok _
theorem nz_asg {S:Sc}{h:SH}{x:Nat→Ex}{e:Ex}:(asgC S h x e).nz:=by
 unfold asgC;split
 ·exact nz_no (by decide)
 ·split
  ·exact nz_no (by decide)
  ·split
   ·exact nz_no (by decide)
   ·split
    ·exact nz_no (by decide)
    ·refine nz_bind ?_ fun _=>nz_bind (Ex.ck_nz _ _) fun t=>nz_want (by decide)
     split
     ·exact nz_bind (Ex.ck_nz _ _) fun t=>nz_want (by decide)
     ·exact nz_ok _
theorem St.ck_nz {nam:List UInt8→Bool}(s:St):∀S:Sc,(s.ck nam S).nz:=by
 induction s using St.ind with
 | H s it il=>
  intro S;rw[St.ck_eq nam s S];split
  ·exact nz_asg
  ·split
   ·exact nz_bind (Ex.ck_nz _ _) fun ty=>nz_bind (nz_want (by decide)) fun _=>nz_bind (nz_seqC fun i hi=>it i hi S) fun _=>nz_seqC fun i hi=>il i hi S
   ·split
    ·split
     ·exact nz_no (by decide)
     ·split
      ·exact nz_no (by decide)
      ·split
       ·exact nz_no (by decide)
       ·exact nz_seqC fun i hi=>it i hi _
    ·exact nz_no (by decide)
theorem nz_de {nam:List UInt8→Bool}{ran:De→Bool}{d:Nat→De}{i:Nat}{c:Int}:(deC nam ran d i c).nz:=by
 unfold deC
 repeat (split;exact nz_no (by decide))
 exact nz_ok _
theorem nz_des {nam:List UInt8→Bool}{ran:De→Bool}{d:Nat→De}(n:Nat):(desC nam ran d n).nz:=by
 induction n with
 | zero=>exact nz_ok _
 | succ n ih=>exact nz_bind ih fun c=>nz_de
theorem Pr.ck_nz {nam:List UInt8→Bool}{ran:De→Bool}(p:Pr):(p.ck nam ran).nz:=by
 unfold Pr.ck;split
 ·exact nz_no (by decide)
 ·exact nz_bind (nz_des _) fun _=>nz_bind (nz_seqC fun i _=>St.ck_nz _ _) fun _=>nz_seqC fun i _=>St.ck_nz _ _
theorem bind_ok_iff {α:Type}{r:Ck α}{f:α→Ck Unit}:r.bind f=.ok ()↔∃a,r=.ok a∧f a=.ok ():=by
 cases r with
 | ok a=>exact⟨fun h=>⟨a,rfl,h⟩,fun⟨b,h1,h2⟩=>by cases h1;exact h2⟩
 | no e p=>exact⟨fun h=>(by cases h),fun⟨b,h1,_⟩=>by cases h1⟩
theorem want_ok {c:Bool}{e p:Int}:wantC c e p=.ok ()↔c=true:=by
 unfold wantC;split
 ·exact⟨fun _=>by assumption,fun _=>rfl⟩
 ·rename_i h
  exact⟨fun g=>(by cases g),fun g=>absurd g h⟩
theorem desC_ok {nam:List UInt8→Bool}{ran:De→Bool}{d:Nat→De}{n:Nat}{c:Int}(h:desC nam ran d n=.ok c):∀i,i<n→nam (d i).nm=true∧fd d (d i).nm i=none∧(1≤(d i).ty∧(d i).ty≤3)∧ran (d i)=true:=by
 induction n generalizing c with
 | zero=>intro i hi;omega
 | succ n ih=>
  simp only[desC]at h
  cases h1:desC nam ran d n with
  | no e p=>rw[h1]at h;cases h
  | ok c1=>
   rw[h1]at h;replace h:deC nam ran d n c1=.ok c:=h;intro i hi;rcases Nat.lt_succ_iff_lt_or_eq.1 hi with h4|rfl
   ·exact ih h1 i h4
   ·unfold deC at h
    split at h
    ·cases h
    ·split at h
     ·cases h
     ·split at h
      ·cases h
      ·split at h
       ·cases h
       ·rename_i g1 g2 g3 g4
        refine⟨by simpa using g1,?_,Decidable.not_not.1 g3,by simpa using g4⟩
        cases hf:fd d (d i).nm i with
        | none=>rfl
        | some k=>rw[hf]at g2;exact absurd rfl g2
theorem fd_uniq {d:Nat→De}{n:Nat}(hu:∀i,i<n→fd d (d i).nm i=none){i:Nat}(hi:i<n):fd d (d i).nm n=some i:=by
 cases hf:fd d (d i).nm n with
 | none=>exact absurd rfl (fd_none hf i hi)
 | some k=>
  obtain⟨g1,g2,g3⟩:=fd_lt hf;rcases Nat.lt_trichotomy k i with h|h|h
  ·exact absurd g2 (fd_none (hu i hi) k h)
  ·rw[h]
  ·exact absurd rfl (g3 i h)
theorem asgC_ok {S:Sc}{h:SH}{x:Nat→Ex}{e:Ex}(hl:S.loops=[])(hx:h.xs.n=0):asgC S h x e=.ok ()↔∃i t,S.find h.nm=some i∧(S.d i).inp=false∧¬0<(S.d i).len∧e.ck S=.ok t∧t=(S.d i).ty:=by
 unfold asgC;rw[if_neg (by rw[hl];exact List.not_mem_nil)]
 cases hf:S.find h.nm with
 | none=>exact⟨fun g=>(by cases g),fun⟨i,t,g,_⟩=>(by cases g)⟩
 | some i=>
  simp only
  cases hi:(S.d i).inp with
  | true=>exact⟨fun g=>(by rw[if_pos rfl]at g;cases g),fun⟨j,t,g1,g2,_⟩=>by cases g1;rw[hi]at g2;cases g2⟩
  | false=>
   rw[if_neg (by decide),hx]
   by_cases hl:0<(S.d i).len
   ·rw[if_pos (.inl ⟨hl,by decide⟩)]
    exact⟨fun g=>(by cases g),fun⟨j,t,g1,_,g3,_⟩=>by cases g1;exact absurd hl g3⟩
   ·rw[if_neg (by rintro(⟨g,_⟩|⟨_,g⟩);exact hl g;exact g rfl),if_neg hl]
    show(e.ck S).bind _=.ok ()↔_;rw[bind_ok_iff];constructor
    ·rintro⟨t,g1,g2⟩
     exact⟨i,t,rfl,hi,hl,g1,by simpa using want_ok.1 g2⟩
    ·rintro⟨j,t,g1,g2,g3,g4,g5⟩
     cases g1;exact⟨t,g4,want_ok.2 (by simpa using g5)⟩
theorem Pr.ck_more {nam:List UInt8→Bool}{ran:De→Bool}(hr:∀d,ran d=true→d.inp=false→0≤d.len){p q:Pr}{h:SH}{x:Nat→Ex}{e:Ex}(hp:p.ck nam ran=.ok ())
  (tk:q.ticks=p.ticks) (dn:q.ds.n=p.ds.n) (iN:q.is.n=p.is.n) (ii:∀i,i<p.is.n→q.i i=p.i i) (sN:q.ss.n=p.ss.n+1) (si:∀i,i<p.ss.n→q.s i=p.s i) (sl:∀S,(q.s p.ss.n).ck nam S=asgC S h x e) (hx:h.xs.n=0)
  (hd:q.d=p.d) :
  q.ck nam ran=.ok ()↔∃i t,i<p.ds.n∧(p.d i).nm=h.nm∧(p.d i).inp=false∧(p.d i).len=0∧e.ck ⟨p.ds.n,p.d,[],false⟩=.ok t∧(p.d i).ty=t:=by
 unfold Pr.ck at hp ⊢
 by_cases c:¬(1≤p.ticks∧p.ticks≤2147483647)
 ·rw[if_pos c]at hp;cases hp
 ·rw[if_neg c]at hp
  rw[tk,if_neg c,dn,iN,sN,hd]
  cases h1:desC nam ran p.d p.ds.n with
  | no a b=>rw[h1]at hp;cases hp
  | ok cc=>
   rw[h1]at hp;have D:=desC_ok h1;have g1:seqC (fun i=>(q.i i).ck nam ⟨p.ds.n,p.d,[],true⟩) p.is.n=seqC (fun i=>(p.i i).ck nam ⟨p.ds.n,p.d,[],true⟩) p.is.n:=seqC_congr fun i hi=>by rw[ii i hi]
   have g2:seqC (fun i=>(q.s i).ck nam ⟨p.ds.n,p.d,[],false⟩) p.ss.n=seqC (fun i=>(p.s i).ck nam ⟨p.ds.n,p.d,[],false⟩) p.ss.n:=seqC_congr fun i hi=>by rw[si i hi]
   show(seqC _ p.is.n).bind (fun _=>(seqC _ p.ss.n).bind fun _=>(q.s p.ss.n).ck nam ⟨p.ds.n,p.d,[],false⟩)=.ok ()↔_;rw[g1,g2,sl];replace hp:(seqC (fun i=>(p.i i).ck nam ⟨p.ds.n,p.d,[],true⟩) p.is.n).bind (fun _=>seqC (fun i=>(p.s i).ck nam ⟨p.ds.n,p.d,[],false⟩) p.ss.n)=.ok ():=hp;obtain⟨_,k1,k2⟩:=bind_ok_iff.1 hp;rw[k1,k2];show asgC ⟨p.ds.n,p.d,[],false⟩ h x e=.ok ()↔_;rw[asgC_ok rfl hx];constructor
   ·rintro⟨i,t,f1,f2,f3,f4,f5⟩
    obtain⟨m1,m2, -⟩:=fd_lt (show fd p.d h.nm p.ds.n=some i from f1);have:=hr _ (D i m1).2.2.2 f2;exact⟨i,t,m1,m2,f2,by have f3:¬0<(p.d i).len:=f3;omega,f4,f5.symm⟩
   ·rintro⟨i,t,f1,f2,f3,f4,f5,f6⟩
    refine⟨i,t,?_,f3,by show ¬0<(p.d i).len;omega,f5,f6.symm⟩;show fd p.d h.nm p.ds.n=some i;rw[←f2];exact fd_uniq (fun j hj=>(D j hj).2.1) f1
theorem ppfail_any (c p:Int)(w:World):Calls Tryz.prog 80 #[.int .i64 c,.int .i64 p] w fun e w'=>e=.panicked (flP c p)∧w'=w:=by
 go_enter Tryz.func80,Tryz.ntmps80;go_wp2_with fail;exact⟨rfl,rfl,rfl⟩
theorem ppnext_any (R d:Nat)(s:PS)(w:World)(h:Rdr R d s w):Calls Tryz.prog 99 #[.pointer (some ⟨R,0,none⟩)] w fun e w'=>e=.returned s.hd.v∧Below w.heap.size w w':=by
 obtain⟨T,o,c,C⟩:=h.rc;have hp:=C.good.pos;have r0:w.cell? ⟨R,0,none⟩=some (.slice (some ⟨T,o,none⟩) s.ts.length c):=C.blk.cell 0;have lR:=C.blk.lt;have lT:T<w.heap.size:=Nat.lt_trans C.tr C.blk.lt;have c0:=C.c0;have c1:=C.c1;have c2:=C.c2;have c3:=C.c3;have c4:=C.c4;have ht:s.hd.v=.agg #[.int .u8 s.hd.kd,.int .i64 s.hd.ps,.string ⟨s.hd.tx.toArray⟩,.int .i32 s.hd.nn,.int .u64 s.hd.ff]:=rfl;generalize s.ts.length=n at *;have hn:¬n=0:=by omega
 clear C h;go_enter Tryz.func99,Tryz.ntmps99;go_wp2_with fail;exact bodyPost_ret (v:=s.hd.v) (by rw[ht];simp[results,Tryz.results99,go_sem]) rfl ⟨rfl,(Below.refl _ _).alloc (Nat.le_refl _) _⟩
theorem pptake_any (R d:Nat)(s:PS)(w:World)(h:Rdr R d s w)(hk:s.hd.kd≠0) :
  Calls Tryz.prog 100 #[.pointer (some ⟨R,0,none⟩)] w fun e w'=>e=.returned s.hd.v∧Rdr R d s.tk w'∧Fx (On R) w.heap.size w w':=by
 obtain⟨T,o,c,C⟩:=h.rc;have hg:=C.good.tail hk;have hl:=tk_len C.good;have hp:0<s.tk.ts.length:=hg.pos;have r0:w.cell? ⟨R,0,none⟩=some (.slice (some ⟨T,o,none⟩) s.ts.length c):=C.blk.cell 0;have f0:w.frozen? ⟨R,0,none⟩=false:=C.blk.frozen 0;have lR:=C.blk.lt;have nT:=C.tr;have lT:T<w.heap.size:=Nat.lt_trans C.tr C.blk.lt;have lc:=C.lc;have cm:=C.cm;have c0:=C.c0;have c1:=C.c1;have c2:=C.c2;have c3:=C.c3;have c4:=C.c4;have ht:s.hd.v=.agg #[.int .u8 s.hd.kd,.int .i64 s.hd.ps,.string ⟨s.hd.tx.toArray⟩,.int .i32 s.hd.nn,.int .u64 s.hd.ff]:=rfl;have CC:=Hj C;have HL:=Hj hl;have HP:Hid (0<s.tk.ts.length):=hp;unfold maxLen at cm;generalize hN:s.ts.length=n at *;have HN:=Hj hN;clear hN;have hn:¬n=0:=by omega
 have hn1:1≤n:=by omega
 have hc:¬c=1:=by omega
 clear C h hp hl hg;go_enter Tryz.func100,Tryz.ntmps100;go_wp2_with fail;refine bodyPost_ret (v:=s.hd.v) (by rw[ht];simp[results,Tryz.results100,go_sem]) rfl ⟨rfl,?_,?_⟩
 ·have b:=CC.out.blk.set_ 0 (.slice (some ⟨T,o+5,none⟩) (n-1) (c-1))
  rw[←HN.out]at b;refine CC.out.tk hk (by rw[←HN.out];exact(b.alloc _).alloc _) ?_;rw[Below.heap_alloc _ _ _ (by rw[World.size_alloc,World.size_setCell];omega),Below.heap_alloc _ _ _ (by rw[World.size_setCell];omega),Below.heap_setCell _ _ _ _ (by simp;omega)]
 ·exact fx_alloc (fx_alloc (fx_set (X:=On R) (Fx.refl _ _ _) (p:=⟨R,0,none⟩) (.inl rfl) _) _) _
theorem tkv_kd (t:Tk)(w:World):(Instr.field 133 t.v 0).run Tryz.prog w=.ok (.int .u8 t.kd) w:=by kernel_rfl
theorem tkv_ps (t:Tk)(w:World):(Instr.field 133 t.v 1).run Tryz.prog w=.ok (.int .i64 t.ps) w:=by kernel_rfl
theorem tkv_tx (t:Tk)(w:World):(Instr.field 133 t.v 2).run Tryz.prog w=.ok (.string ⟨t.tx.toArray⟩) w:=by kernel_rfl
theorem tkv_nn (t:Tk)(w:World):(Instr.field 133 t.v 3).run Tryz.prog w=.ok (.int .i32 t.nn) w:=by kernel_rfl
theorem tkv_ff (t:Tk)(w:World):(Instr.field 133 t.v 4).run Tryz.prog w=.ok (.int .u64 t.ff) w:=by kernel_rfl
theorem ppsees_any (R d:Nat)(s:PS)(x:List UInt8)(w:World)(h:Rdr R d s w) :
  Calls Tryz.prog 101 #[.pointer (some ⟨R,0,none⟩),.string ⟨x.toArray⟩] w fun e w'=>e=.returned (.bool (s.hd.tx == x))∧Below w.heap.size w w':=by
 have ft:=fun w=>tkv_tx s.hd w;go_enter Tryz.func101,Tryz.ntmps101;go_wp2_with fail;refine(ppnext_any R d s w h).mono ?_;rintro e w1 ⟨rfl,hb⟩;go_wp2_with fail;go_ret;exact⟨rfl,hb⟩
theorem pprefuse_any (R d:Nat)(s:PS)(w:World)(h:Rdr R d s w) :
  Calls Tryz.prog 98 #[.pointer (some ⟨R,0,none⟩)] w fun e w'=>e=.panicked (flP 110 s.hd.ps)∧Below w.heap.size w w':=by
 have ft:=fun w=>tkv_ps s.hd w;go_enter Tryz.func98,Tryz.ntmps98;go_wp2_with fail;refine(ppnext_any R d s w h).mono ?_;rintro e w1 ⟨rfl,hb⟩;go_wp2_with fail;refine(ppfail_any _ _ _).mono ?_;rintro e w2 ⟨rfl,rfl⟩;go_wp2_with fail;exact⟨rfl,rfl,hb⟩
theorem beq_yes {a b:List UInt8}(h:a=b):(a == b)=true:=by simp[h]
theorem beq_no {a b:List UInt8}(h:¬a=b):(a == b)=false:=by simp[h]
def acS (s:PS)(x:List UInt8):PS:=if s.hd.tx=x then s.tk else s
theorem ppaccept_any (R d:Nat)(s:PS)(x:List UInt8)(hx:x≠[])(w:World)(h:Rdr R d s w) :
  Calls Tryz.prog 97 #[.pointer (some ⟨R,0,none⟩),.string ⟨x.toArray⟩] w fun e w'=>e=.returned (.bool (s.hd.tx == x))∧Rdr R d (acS s x) w'∧Fx (On R) w.heap.size w w':=by
 have HS:=Hj (ppsees_any R d s x w h)
 by_cases c:s.hd.tx=x
 ·have e1:=beq_yes c
  have e2:acS s x=s.tk:=if_pos c;have hk:s.hd.kd≠0:=h.good.kd (by rw[←PS.hd,c];exact hx);rw[e1]at HS ⊢;rw[e2];clear e1 e2;go_enter Tryz.func97,Tryz.ntmps97;go_wp2_with fail;refine HS.out.mono ?_;rintro e w1 ⟨rfl,hb⟩;have h1:=h.below hb h.lt;clear HS h;go_wp2_with fail;refine(pptake_any R d s w1 h1 hk).mono ?_;rintro e w2 ⟨rfl,hr,hf⟩;have F:=fx_trans (Fx.of hb) hf;clear hf hb h1;go_wp2_with fail;go_ret;exact⟨rfl,hr,F⟩
 ·have e1:=beq_no c
  have e2:acS s x=s:=if_neg c;rw[e1]at HS ⊢;rw[e2];clear e1 e2;go_enter Tryz.func97,Tryz.ntmps97;go_wp2_with fail;refine HS.out.mono ?_;rintro e w1 ⟨rfl,hb⟩;have h1:=h.below hb h.lt;clear HS h;go_wp2_with fail;go_ret;exact⟨rfl,h1,Fx.of hb⟩
theorem ppexpect_any (R d:Nat)(s:PS)(x:List UInt8)(hx:x≠[])(w:World)(h:Rdr R d s w) :
  Calls Tryz.prog 81 #[.pointer (some ⟨R,0,none⟩),.string ⟨x.toArray⟩] w (PO R d w (expT x s) V0):=by
 have HS:=Hj (ppaccept_any R d s x hx w h)
 by_cases c:s.hd.tx=x
 ·have e1:=beq_yes c
  have e2:acS s x=s.tk:=if_pos c;have e3:expT x s=.ok () s.tk:=if_pos c;rw[e1,e2]at HS;rw[e3];clear e1 e2 e3 h;go_enter Tryz.func81,Tryz.ntmps81;go_wp2_with fail;refine HS.out.mono ?_;rintro e w1 ⟨rfl,hr,hf⟩;clear HS;go_wp2_with fail
  go_end0
  exact⟨_,rfl,rfl,hr,hf⟩
 ·have e1:=beq_no c
  have e2:acS s x=s:=if_neg c;have e3:expT x s=.no 110 s.hd.ps:=if_neg c;rw[e1,e2]at HS;rw[e3];clear e1 e2 e3 h;go_enter Tryz.func81,Tryz.ntmps81;go_wp2_with fail;refine HS.out.mono ?_;rintro e w1 ⟨rfl,hr,hf⟩;clear HS;go_wp2_with fail;refine(pprefuse_any R d s w1 hr).mono ?_;rintro e w2 ⟨rfl,hb⟩;have F:=fx_bel hf hb;clear hf hb hr;go_wp2_with fail;exact⟨rfl,rfl,F⟩
theorem pptakeKind_any (R d:Nat)(s:PS)(k:Int)(hk:k≠0)(w:World)(h:Rdr R d s w) :
  Calls Tryz.prog 82 #[.pointer (some ⟨R,0,none⟩),.int .u8 k] w (PO R d w (kindT k s) fun t v _=>v=t.v):=by
 have ft:=fun w=>tkv_kd s.hd w
 by_cases c:s.hd.kd=k
 ·have e3:kindT k s=.ok s.hd s.tk:=if_pos c
  have hk':s.hd.kd≠0:=by rw[c];exact hk
  rw[e3];clear e3 hk;subst c;have B:Hid (Blk (w.alloc (.cells #[.int .u8 0,.int .i64 0,.string ⟨#[]⟩,.int .i32 0,.int .u64 0] 133)) w.heap.size 133 #[.int .u8 0,.int .i64 0,.string ⟨#[]⟩,.int .i32 0,.int .u64 0]):=Blk.new _ _ _;have HR:=Hj h.lt;go_enter Tryz.func82,Tryz.ntmps82;go_wp2_with fail;refine(ppnext_any R d s _ (h.alloc _)).mono ?_;rintro e w1 ⟨rfl,hb⟩;have h1:=(h.alloc _).below hb (h.alloc _).lt;have F:=fx_bel (X:=On R) (fx_alloc (Fx.refl _ _ w) _) hb;have b1:=B.out.below hb B.out.lt;have H1:=Hj h1;clear h hb B;go_wp2_with fail;refine(pptake_any R d s _ H1.out hk').mono ?_;rintro e w2 ⟨rfl,h2,hf⟩;have hRs:R<w.heap.size:=HR.out;have B2:=Hj (hf.blk b1 b1.lt (fun x=>by unfold On at x;omega));have F2:=Hj (fx_trans F hf);have H2:=Hj h2;clear F hf h1 h2 b1
  go_wp2_with (refine st_tok s.hd w.heap.size _ B2.out rfl rfl _ _ rfl rfl rfl ?_)
  exact bodyPost_ret (rs_tok rfl _ _ w.heap.size s.hd rfl (B2.out.rowS _)) rfl ⟨_,rfl,rfl,H2.out.row hRs _,fx_row F2.out (.inr (Nat.le_refl _)) _⟩
 ·have e3:kindT k s=.no 110 s.hd.ps:=if_neg c
  rw[e3];clear e3;go_enter Tryz.func82,Tryz.ntmps82;go_wp2_with fail;refine(ppnext_any R d s _ (h.alloc _)).mono ?_;rintro e w1 ⟨rfl,hb⟩;have h1:=(h.alloc _).below hb (h.alloc _).lt;have F:=fx_bel (X:=On R) (fx_alloc (Fx.refl _ _ w) _) hb;clear h hb;go_wp2_with fail;refine(pprefuse_any R d s _ h1).mono ?_;rintro e w2 ⟨rfl,hf⟩;have F2:=fx_bel F hf;clear F hf h1;go_wp2_with fail;exact⟨rfl,rfl,F2⟩
theorem ppcount_any (R j n:Nat)(m p:Int)(w:World)(hc:w.cell? ⟨R,j,none⟩=some (.int .i64 (n:Int)))(hz:w.frozen? ⟨R,j,none⟩=false)(hn:(n:Int)<1000000) :
  Calls Tryz.prog 102 #[.pointer (some ⟨R,j,none⟩),.int .i64 m,.int .i64 p] w fun e w'=>if(n:Int)=m then e=.panicked (flP 112 p)∧w'=w else e=.returned (.tuple #[])∧w'=w.setCell ⟨R,j,none⟩ (.int .i64 ((n:Int)+1)):=by
 by_cases c:(n:Int)=m
 ·simp only[if_pos c]
  go_enter Tryz.func102,Tryz.ntmps102;go_wp2_with fail;refine(ppfail_any _ _ _).mono ?_;rintro e w2 ⟨rfl,rfl⟩;go_wp2_with fail;exact⟨rfl,rfl,rfl⟩
 ·simp only[if_neg c]
  have ov:IntKind.i64.wrap ((n:Int)+1)=(n:Int)+1:=by rw[IntKind.wrap_i64];omega
  clear hn;go_enter Tryz.func102,Tryz.ntmps102;go_wp2_with fail;exact bodyPost_end (results_none rfl _ _ _) rfl ⟨rfl,rfl⟩
theorem ppcomplete_any (R d:Nat)(s:PS)(e:EH)(w:World)(h:Rdr R d s w)(e0:Ex)(he:e0.h.ps=e.ps) :
  Calls Tryz.prog 228 #[.pointer (some ⟨R,0,none⟩),e.v] w (PO R d w (whole e0 s) fun _ v _=>v=e.v):=by
 obtain⟨T,o,c,C⟩:=h.rc;have CC:=Hj C;have r3:w.cell? ⟨R,3,none⟩=some (.int .i64 (s.nx:Int)):=C.blk.cell 3;have f3:w.frozen? ⟨R,3,none⟩=false:=C.blk.frozen 3;have lR:=C.blk.lt;have nx:=C.nx;clear C h;show Calls Tryz.prog 228 #[.pointer (some ⟨R,0,none⟩),.agg #[.int .u8 e.op,.int .i64 e.ps,.bool e.bo,.int .i32 e.it,.int .u64 e.fl,.string ⟨e.nm.toArray⟩,.slice e.s.ao e.s.n e.s.c]] w _;go_enter Tryz.func228,Tryz.ntmps228;have OB:Hid (Blk (bx w (xO e)) w.heap.size 42 e.va):=bx_ex w e;have KC:=Hj (ppcount_any R 3 s.nx 2000 e.ps);go_upto_region 1 with fail;rw[bx_x];have z1:(bx w (xO e)).heap.size=w.heap.size+1:=bx_size _ _;have F0:Below w.heap.size w (bx w (xO e)):=bx_bel (Below.refl _ _) (Nat.le_refl _) _;generalize bx w (xO e)=wx at *;have OB2:=Hj (OB.out.alloc zX);have NB:Hid (Blk (wx.alloc zX) (w.heap.size+1) 42 zeroH.va):=by rw[←z1];exact Blk.new _ _ _
 have F1:=bel_drew (bel_alloc F0 zX);have e1:(wx.alloc zX).cell? ⟨w.heap.size,1,none⟩=some (.int .i64 e.ps):=OB2.out.cell 1;clear F0 OB z1;change (Code.region 1 _ _).wp _ _ _ (wx.alloc zX);generalize wx.alloc zX=wy at *
 go_still_tail 5,(by kernel_rfl)
 have HC:Hid (RdC R d T o c s wy.drew):=CC.out.below F1 lR;have F2:=Hj F1;have OB3:Hid (Blk wy.drew w.heap.size 42 e.va):=OB2.out;have NB3:Hid (Blk wy.drew (w.heap.size+1) 42 zeroH.va):=NB.out;clear OB2 NB e1 F1;change wpList _ _ _ _ _ wy.drew;generalize wy.drew=wz at *;have KK:=KC.out wz (HC.out.blk.cell 3) (HC.out.blk.frozen 3) (by omega)
 by_cases c:s.nx=2000
 ·have e3:whole e0 s=.no 112 e.ps:=by rw[←he];exact if_pos c
  simp only[if_pos (show(s.nx:Int)=2000 by omega)]at KK;have KK2:=Hj KK;have E3:=Hj e3;clear KC KK e3 he;go_wp2_with fail;refine KK2.out.mono ?_;rintro r w2 ⟨rfl,rfl⟩;clear KK2;go_wp2_with fail;refine⟨rfl,?_⟩;rw[E3.out];exact⟨rfl,Fx.of F2.out⟩
 ·have e3:whole e0 s=.ok e0 ⟨s.ts,s.ns,s.nx+1⟩:=if_neg c
  simp only[if_neg (show ¬(s.nx:Int)=2000 by omega)]at KK;have KK2:=Hj KK;have E3:=Hj e3;clear KC KK e3 he;have HL:=Hj lR;have HN:Hid (s.nx+1≤2000):=by show s.nx+1≤2000;omega
  clear lR nx;go_wp2_with fail;refine KK2.out.mono ?_;rintro r w2 ⟨rfl,rfl⟩;clear KK2;have b1:=HC.out.blk.set_ 3 (.int .i64 ((s.nx:Int)+1));have hr:Hid (Rdr R d ⟨s.ts,s.ns,s.nx+1⟩ (wz.setCell ⟨R,3,none⟩ (.int .i64 ((s.nx:Int)+1)))):=HC.out.nums b1 (Below.heap_setCell _ _ _ _ (Nat.ne_of_lt HC.out.tr)) HC.out.ns HN.out HC.out.dp;have OB4:=Hj (OB3.out.far (p:=⟨R,3,none⟩) (Nat.ne_of_gt HL.out) (.int .i64 ((s.nx:Int)+1)));have NB4:=Hj (NB3.out.far (p:=⟨R,3,none⟩) (Nat.ne_of_gt (Nat.lt_succ_of_lt HL.out)) (.int .i64 ((s.nx:Int)+1)));have F3:=Hj (fx_set (X:=On R) (Fx.of F2.out) (p:=⟨R,3,none⟩) (.inl rfl) (.int .i64 ((s.nx:Int)+1)));clear b1 OB3 NB3 HC F2;generalize wz.setCell _ _=wu at *
  go_wp2_with (first
   | refine ld_ex e w.heap.size OB4.out rfl _ rfl rfl ?_
   | refine st_ex e (w.heap.size+1) _ NB4.out rfl rfl _ _ rfl rfl rfl ?_)
  refine bodyPost_ret (rs_ex rfl _ _ (w.heap.size+1) e rfl (NB4.out.rowS _)) rfl ?_;rw[E3.out];exact⟨_,rfl,rfl,hr.out.row (Nat.lt_succ_of_lt HL.out) _,fx_row F3.out (.inr (Nat.le_succ _)) _⟩
end Go.Proofs.YtkbicfffokegeaaGreatDoor
