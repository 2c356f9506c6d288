/-
  Whatever program and statement are handed in, CheckMore answers true. (part 28 of 30) Conditions: none beside what the card ties.
-/
import Derived.Test.YtkbicfffokegeaaGreatDoorMba
import Derived.Test.YtkbicfffokegeaaGreatDoorMab
import Derived.Test.YtkbicfffokegeaaGreatDoorMaz
import Derived.Test.YtkbicfffokegeaaGreatDoorMak
import Derived.Deep.RegionLaw
import Derived.Test.YtkbicfffokegeaaGreatDoorMax
import Derived.Test.YtkbicfffokegeaaGreatDoorMar
import Derived.Deep.LoopGhost
namespace Go.Proofs.YtkbicfffokegeaaGreatDoor
set_option maxHeartbeats 16000000
open Go.RowKit
set_option maxRecDepth 100000
theorem results_t12 {P:Program}{fn:Func}{p q r:Tmp}{tq tr:TypeId}(h:fn.results=#[.tmp p,.cell q tq,.cell r tr])(tmps:Array Value)(w:World)(b c:Nat)(x y z:Value)
  (hp:tmps.getD p undef=z) (hq:tmps.getD q undef=.pointer (some ⟨b,0,none⟩)) (hr:tmps.getD r undef=.pointer (some ⟨c,0,none⟩))
  (hx:(loadVar tq ⟨b,0,none⟩).run P w=.ok x w) (hy:(loadVar tr ⟨c,0,none⟩).run P w=.ok y w) :
  (results fn tmps).run P w=.ok (.tuple #[z,x,y]) w:=by
 have hp':tmps[p]?.getD undef=z:=by simpa using hp
 have hq':tmps[q]?.getD undef=.pointer (some ⟨b,0,none⟩):=by simpa using hq
 have hr':tmps[r]?.getD undef=.pointer (some ⟨c,0,none⟩):=by simpa using hr
 simp[results,h,hp',hq',hr',asAddr,hx,hy]
theorem fD_old {d:Nat→De}{n i:Nat}(h:fd d (d n).nm n=some i):fD d (n+1)=fD d n:=by
 funext y
 unfold fD;simp only[fd]
 cases hf:fd d y n with
 | some k=>rfl
 | none=>
  by_cases e:(d n).nm=y
  ·subst e;rw[hf]at h;cases h
  ·rw[if_neg e]
theorem ccTypeOf_any (p:Pr)(e:Ex)(w:World)(hI:p.In w.heap.size w)(hX:e.In w.heap.size w)(hw:p.wt≤1000000)(hwe:e.wt≤1000000)(hS:Sc.good ⟨p.ds.n,p.d,[],false⟩) :
  Calls Tryz.prog 13 #[p.v,e.h.v] w fun r w'=>r=.returned (.tuple #[.int .u8 ((e.ck ⟨p.ds.n,p.d,[],false⟩).va 0),.int .i64 (e.ck ⟨p.ds.n,p.d,[],false⟩).er,.int .i64 (e.ck ⟨p.ds.n,p.d,[],false⟩).pl])∧Below w.heap.size w w':=by
 have hmf:∀(fn:Fn) (first cap:Array Value) (w:World),(Instr.makeFunc fn first cap).run Tryz.prog w=.ok (.func fn first cap) w:=fun _ _ _ _=>rfl;have hwd:p.ds.n≤1000000:=by have:=de_rows p.d p.ds.n;unfold Pr.wt at hw;omega
 have HW:Hid (∀i,i<p.ds.n→(p.d i).nm.length≤1000000):=fun i hi=>by have:=sm_one (f:=fun i=>(p.d i).wt) hi;have e:(p.d i).wt=1+(p.d i).nm.length+(p.d i).lo.wt+(p.d i).hi.wt:=rfl;unfold Pr.wt at hw;omega
 have BL:Below w.heap.size w ((((bx (bx w (pO p)) (xO e.h))).alloc (.cells #[.int .i64 0] 28)).alloc (.cells #[.int .i64 0] 3)):=bel_alloc (bel_alloc (bx_bel (bx_bel (Below.refl _ _) (Nat.le_refl _) _) (Nat.le_refl _) _) _) _
 have k1:Blk ((((bx (bx w (pO p)) (xO e.h))).alloc (.cells #[.int .i64 0] 28)).alloc (.cells #[.int .i64 0] 3)) (w.heap.size+1+1) 28 #[.int .i64 0]:=by
  have:=(Blk.new (bx (bx w (pO p)) (xO e.h)) 28 #[.int .i64 0]).alloc (.cells #[.int .i64 0] 3);rw[bx_size,bx_size]at this;exact this
 have k2:Blk ((((bx (bx w (pO p)) (xO e.h))).alloc (.cells #[.int .i64 0] 28)).alloc (.cells #[.int .i64 0] 3)) (w.heap.size+1+1+1) 3 #[.int .i64 0]:=by
  have:=Blk.new ((bx (bx w (pO p)) (xO e.h)).alloc (.cells #[.int .i64 0] 28)) 3 #[.int .i64 0];rw[World.size_alloc,bx_size,bx_size]at this;exact this
 have G0:Hid (((((bx (bx w (pO p)) (xO e.h))).alloc (.cells #[.int .i64 0] 28)).alloc (.cells #[.int .i64 0] 3)).heap[w.heap.size]? = some (pO p)):=
  keptO (bel_alloc (bel_one (bx (bx w (pO p)) (xO e.h)) _) _) (keptO (bx_bel (Below.refl _ _) (Nat.le_refl _) _) (bx_new w (pO p)))
 have GX:Hid (((((bx (bx w (pO p)) (xO e.h))).alloc (.cells #[.int .i64 0] 28)).alloc (.cells #[.int .i64 0] 3)).heap[w.heap.size+1]? = some (xO e.h)):=by
  have:=bx_new (bx w (pO p)) (xO e.h);rw[bx_size]at this;exact keptO (bel_alloc (bel_one (bx (bx w (pO p)) (xO e.h)) _) _) this
 have HBL:=Hj BL;have K1:=Hj k1;have K2:=Hj k2;have HNE:Hid (w.heap.size+1+1≠w.heap.size+1+1+1):=by show _≠_;omega
 have HLE:Hid (w.heap.size≤w.heap.size+1+1∧w.heap.size≤w.heap.size+1+1+1):=by show _∧_;omega
 have CX:=Hj fun R M w' hc hb=>ccexpr_any w.heap.size R M p.ds.n ⟨p.ds.n,p.d,[],false⟩ hS e w' hc (hX.below hb (Nat.le_refl _)) hb.size hwe;have HI:=Hj hI;have HN:=Hj hwd;clear BL k1 k2 hI hw hwd hX hwe hS;generalize e.ck ⟨p.ds.n,p.d,[],false⟩=Z at *;generalize e.h=h at *;unfold Pr.v;show Calls Tryz.prog 13 #[.agg #[.int .i64 p.ticks,.slice p.ds.ao p.ds.n p.ds.c,.slice p.is.ao p.is.n p.is.c,.slice p.ss.ao p.ss.n p.ss.c],.agg #[.int .u8 h.op,.int .i64 h.ps,.bool h.bo,.int .i32 h.it,.int .u64 h.fl,.string ⟨h.nm.toArray⟩,.slice h.s.ao h.s.n h.s.c]] w _
 go_enter_defers Tryz.func13,Tryz.ntmps13
 go_upto_region 2 with fail;rw[bx_p,bx_x];change (Code.region 2 _ _).wp _ _ _ ((((bx (bx w (pO p)) (xO h))).alloc (.cells #[.int .i64 0] 28)).alloc (.cells #[.int .i64 0] 3));generalize (((bx (bx w (pO p)) (xO h))).alloc (.cells #[.int .i64 0] 28)).alloc (.cells #[.int .i64 0] 3)=w1 at *;generalize w.heap.size+1+1+1=b2 at *;generalize w.heap.size+1+1=b1 at *;generalize hgx:w.heap.size+1=gx at *;have HGX:Hid (w.heap.size+1=gx):=hgx;clear hgx;have K1_1:=Hj K1.out;have K2_1:=Hj K2.out;have G_1:=Hj G0.out;have HB_1:=Hj HBL.out;have GX_1:=Hj GX.out;clear K1 K2 G0 HBL GX;go_wp2_with fail;refine(ccnewChecker_any w1).mono ?_;rintro r w2 ⟨R,M,rfl,hR,hM,ck2,bb2⟩
 have NR:Hid (b1≠R∧b1≠M∧b2≠R∧b2≠M∧w.heap.size≠R∧w.heap.size≠M∧w.heap.size≤R∧w.heap.size≤M∧gx≠R∧gx≠M):=by
  have h1:=K1_1.out.lt;have h2:=K2_1.out.lt;have h3:=(Array.getElem?_eq_some_iff.1 G_1.out).1;have h4:=(Array.getElem?_eq_some_iff.1 GX_1.out).1;show _∧_;refine⟨by omega,by omega,by omega,by omega,by omega,by omega,by omega,by omega,by omega,by omega⟩
 have K1_2:=Hj (Fx.blk (Fx.of (X:=RM12 R M) bb2) K1_1.out K1_1.out.lt (fun x=>x.elim NR.out.1 NR.out.2.1));have K2_2:=Hj (Fx.blk (Fx.of (X:=RM12 R M) bb2) K2_1.out K2_1.out.lt (fun x=>x.elim NR.out.2.2.1 NR.out.2.2.2.1));have G_2:=Hj (rm_obj (Fx.of (X:=RM12 R M) bb2) (Array.getElem?_eq_some_iff.1 G_1.out).1 NR.out.2.2.2.2.1 NR.out.2.2.2.2.2.1 G_1.out);have GX_2:=Hj (rm_obj (Fx.of (X:=RM12 R M) bb2) (Array.getElem?_eq_some_iff.1 GX_1.out).1 NR.out.2.2.2.2.2.2.2.2.1 NR.out.2.2.2.2.2.2.2.2.2 GX_1.out);have HB_2:=Hj (fx_bel_of HB_1.out (Fx.of (X:=RM12 R M) bb2) (fun k hk (x:k=R∨k=M)=>by have:=NR.out.2.2.2.2.2.2;omega));clear K1_1 K2_1 G_1 GX_1 HB_1;have CK2:Hid (Ckf R M 0 (fD p.d 0) false 0 w2):=ck2;have p1:=(p_cells G_2.out).2.1;clear hR hM ck2 bb2;go_wp2_with fail;generalize hm:p.ds.n=m at *;have HMM:=Hj hm;clear hm;generalize hao:p.ds.ao=ao at *;have HAO:=Hj hao;clear hao
 go_loopg [15] m (fun gk i wr=>∃j:Nat,i=.int .i64 (j:Int)∧Hid (gk=m-j∧j≤m)∧Hid (Ckf R M j (fD p.d j) false 0 wr)∧Hid (Fx (On M) w2.heap.size w2 wr))
 case atStart=>exact⟨0,rfl,⟨rfl,Nat.zero_le _⟩,CK2.out,Fx.refl _ _ _⟩
 case round=>
  obtain⟨j,rfl,HJ,HCr,HF⟩:=hrel;have BW:=Hj (fx_bel_of HB_2.out HF.out (fun k hk (x:k=M)=>by have:=NR.out.2.2.2.2.2.2.2.1;omega))
  by_cases hlt:j<m
  ·have z0:(j:Int)<(m:Int):=by omega
   have ovi:IntKind.i64.wrap ((j:Int)+1)=((j+1:Nat):Int):=by have:=HN.out;rw[IntKind.wrap_i64];omega
   have hlt':j<p.ds.n:=by rw[HMM.out];exact hlt
   obtain⟨a,b,o,ha,hA,hb1,h4⟩:=(HI.out.below BW.out (Nat.le_refl _)).2.1.2.1.at HI.out.2.1.1 hlt' rfl;have HNM:=Hj (HW.out j hlt);have RC:=Hj (show wr.rangeAt b o (dcvs (p.d j) (p.d j).lo.h (p.d j).hi.h)from h4);have BX:=Hj (bx_bel (Below.refl wr.heap.size wr) (Nat.le_refl _) (dO (p.d j) (p.d j).lo.h (p.d j).hi.h));have GD:=Hj (bx_new wr (dO (p.d j) (p.d j).lo.h (p.d j).hi.h));have HCw:Hid (Ckf R M j (fD p.d j) false 0 (bx wr (dO (p.d j) (p.d j).lo.h (p.d j).hi.h))):=HCr.out.bel BX.out;have HLT:=Hj hlt;have O1:=Hj (dcvs_one (p.d j) (p.d j).lo.h (p.d j).hi.h);rw[dO_eq]at BX HCw GD;obtain⟨V1,hV1⟩:∃V,dcvs (p.d j) (p.d j).lo.h (p.d j).hi.h=V:=⟨_,rfl⟩;have HV1:=Hj hV1;have L1:=Hj (show(Tryz.prog.info? 44).map (·.size)=some V1.length∧V1.length=20 by rw[←hV1];exact⟨by kernel_rfl,rfl⟩);rw[hV1]at BX HCw GD RC O1;rw[HAO.out]at ha;subst ha;clear hb1 hlt hlt' hV1 h4 HCr BW
   go_upto_region 6 with(first
    | refine wpList_load_mid rfl 44 _ rfl b o rfl V1 _ RC.out Tryz.underlying44 rfl L1.out.1 ?_
    | refine store_bx rfl 44 _ _ rfl wr _ V1.toArray rfl rfl (by rw[List.size_toArray];exact L1.out.1) (by have h:V1.toArray.size=20:=(by rw[List.size_toArray];exact L1.out.2);rw[h];rfl) O1.out ?_)
   clear RC O1;have GD':Hid ((bx wr (.cells V1.toArray 44 (0,0))).heap[wr.heap.size]? = some (dO (p.d j) (p.d j).lo.h (p.d j).hi.h)):=by rw[dO_eq,HV1.out];exact GD
   clear GD;generalize bx wr (.cells V1.toArray 44 (0,0))=wv at *;try simp only[Act.put]
   have q2:=(d_cells GD'.out).c2;have KN:=Hj (ccknows_any R M j _ _ _ (p.d j).nm wv HCw.out (Nat.le_trans HNM.out (by decide)))
   cases hf:fd p.d (p.d j).nm j with
   | some i=>
    have hk:(fD p.d j (p.d j).nm).isSome=true:=by unfold fD;rw[hf];rfl
    rw[hk]at KN;have FE:=Hj (fD_old hf);clear hk hf;go_wp2_with fail;refine KN.out.mono ?_;rintro r v1 ⟨rfl,b1'⟩;have F1:=Hj (fx_bel HF.out (bel_trans BX.out b1'))
    have C1:Hid (Ckf R M (j+1) (fD p.d (j+1)) false 0 v1):=by
     have:=HCw.out.bel b1';show Ckf R M (j+1) (fD p.d (j+1)) false 0 v1;rw[FE.out];exact⟨this.blk,this.mp.mono (Nat.le_succ _),this.ne⟩
    clear KN b1' BX HCw GD' HF q2;go_wp2_with fail
    go_roundg (m-(j+1))
    case measure=>have:=HJ.out;have:=HLT.out;omega
    case rel=>exact⟨j+1,by go_num,⟨rfl,HLT.out⟩,C1.out,F1.out⟩
   | none=>
    have hk:(fD p.d j (p.d j).nm).isSome=false:=by unfold fD;rw[hf];rfl
    rw[hk]at KN;have D2:=Hj hf;clear hk hf;go_wp2_with fail;refine KN.out.mono ?_;rintro r v1 ⟨rfl,b1'⟩;have GD1:=Hj (keptO b1' GD'.out);have BX1:=Hj (bel_trans BX.out b1');have HC1:Hid (Ckf R M j (fD p.d j) false 0 v1):=HCw.out.bel b1';have RA:Hid (v1.rangeAt wr.heap.size 0 V1):=by have:=dO_range GD1.out;rw[HV1.out]at this;exact this
    have DN:=Hj (ccdeclare_any R M j (fD p.d j) false 0 (p.d j) (p.d j).lo.h (p.d j).hi.h v1 HC1.out (Nat.le_trans HNM.out (by decide)) (by have:=HN.out;have:=HLT.out;unfold maxLen;omega));rw[fD_succ D2.out,dcv_eq,HV1.out]at DN;clear KN b1' BX HCw GD' q2 GD1 HC1
    go_wp2_with (refine wpList_load_mid rfl 44 _ rfl wr.heap.size 0 rfl V1 _ RA.out Tryz.underlying44 rfl L1.out.1 ?_)
    refine DN.out.mono ?_;rintro r v4 ⟨rfl,hck,hfx⟩;have F4:=Hj (fx_trans (fx_bel HF.out BX1.out) hfx);have CK:=Hj hck;clear hck hfx DN RA BX1 HF;go_wp2_with fail
    go_roundg (m-(j+1))
    case measure=>have:=HJ.out;have:=HLT.out;omega
    case rel=>exact⟨j+1,by go_num,⟨rfl,HLT.out⟩,CK.out,F4.out⟩
  ·obtain rfl:j=m:=by have:=HJ.out;omega
   have z0:¬(j:Int)<(j:Int):=by omega
   have F3:=Hj (rmM (R:=R) HF.out);have K1_3:=Hj (Fx.blk F3.out K1_2.out K1_2.out.lt (fun x=>x.elim NR.out.1 NR.out.2.1));have K2_3:=Hj (Fx.blk F3.out K2_2.out K2_2.out.lt (fun x=>x.elim NR.out.2.2.1 NR.out.2.2.2.1));have G_3:=Hj (rm_obj F3.out (Array.getElem?_eq_some_iff.1 G_2.out).1 NR.out.2.2.2.2.1 NR.out.2.2.2.2.2.1 G_2.out);have GX_3:=Hj (rm_obj F3.out (Array.getElem?_eq_some_iff.1 GX_2.out).1 NR.out.2.2.2.2.2.2.2.2.1 NR.out.2.2.2.2.2.2.2.2.2 GX_2.out);have HB_3:=Hj (fx_bel_of HB_2.out F3.out (fun k hk (x:k=R∨k=M)=>by have:=NR.out.2.2.2.2.2.2;omega));clear K1_2 K2_2 G_2 GX_2 HB_2
   have CC:Hid (Ckr R M j ⟨j,p.d,[],false⟩ wr):=by
    show Ckf _ _ _ _ _ _ _;rw[fD_mnS];exact HCr.out
   have X3:=Hj (CX.out R M wr CC.out HB_3.out);obtain⟨x0,x1,x2,x3,x4,x5,x6⟩:=x_cells GX_3.out;clear hlt F3 CX HF BW HCr;go_wp2_with fail;refine X3.out.mono ?_;rintro r w5 ⟨rfl,b5⟩;have K1_5:=Hj (Fx.blk (Fx.of (X:=RM12 R M) b5) K1_3.out K1_3.out.lt (fun x=>x.elim NR.out.1 NR.out.2.1));have K2_5:=Hj (Fx.blk (Fx.of (X:=RM12 R M) b5) K2_3.out K2_3.out.lt (fun x=>x.elim NR.out.2.2.1 NR.out.2.2.2.1));have G_5:=Hj (rm_obj (Fx.of (X:=RM12 R M) b5) (Array.getElem?_eq_some_iff.1 G_3.out).1 NR.out.2.2.2.2.1 NR.out.2.2.2.2.2.1 G_3.out);have GX_5:=Hj (rm_obj (Fx.of (X:=RM12 R M) b5) (Array.getElem?_eq_some_iff.1 GX_3.out).1 NR.out.2.2.2.2.2.2.2.2.1 NR.out.2.2.2.2.2.2.2.2.2 GX_3.out);have HB_5:=Hj (fx_bel_of HB_3.out (Fx.of (X:=RM12 R M) b5) (fun k hk (x:k=R∨k=M)=>by have:=NR.out.2.2.2.2.2.2;omega));clear K1_3 K2_3 G_3 GX_3 HB_3;clear X3 b5 x0 x1 x2 x3 x4 x5 x6
   cases Z with
   | no c q=>
    dsimp only[ckE,Ck.er,Ck.pl,Ck.va];go_wp2_with fail;refine leaves_cons (f:=27) (args:=#[.pointer (some ⟨b1,0,none⟩),.pointer (some ⟨b2,0,none⟩)]) (by simp) (by simp[go_sem]) ?_;refine(tk12 b1 b2 0 0 c q [] w5 K1_5.out K2_5.out HNE.out).mono ?_;rintro e u' wz ⟨rfl,rfl,k1,k2,f3⟩;refine⟨_,results_t12 rfl _ wz b1 b2 _ _ _ rfl rfl rfl (ld_err k1) (ld_int k2),?_⟩;exact⟨rfl,fx_bel_of HB_5 f3 (fun k hk x=>by have:=HLE.out;rcases x with x|x<;>omega)⟩
   | ok u=>
    dsimp only[ckE,Ck.er,Ck.pl,Ck.va];have m1:=K1_5.out.cell 0;have m2:=K2_5.out.cell 0;have y1:=K1_5.out.frozen 0;have y2:=K2_5.out.frozen 0;have ne12:=HNE.out;have ne21:=Ne.symm HNE.out;go_wp2_with fail;have F8:=fx_set (fx_set (Fx.refl (Two b1 b2) w5.heap.size w5) (p:=⟨b1,0,none⟩) (.inl (.inl rfl)) (.int .i64 0)) (p:=⟨b2,0,none⟩) (.inl (.inr rfl)) (.int .i64 0);have e1:Blk ((w5.setCell ⟨b1,0,none⟩ (.int .i64 0)).setCell ⟨b2,0,none⟩ (.int .i64 0)) b1 28 #[.int .i64 0]:=(K1_5.out.set_ 0 (.int .i64 0)).far (p:=⟨b2,0,none⟩) ne12 _;have e2:Blk ((w5.setCell ⟨b1,0,none⟩ (.int .i64 0)).setCell ⟨b2,0,none⟩ (.int .i64 0)) b2 3 #[.int .i64 0]:=(K2_5.out.far (p:=⟨b1,0,none⟩) ne21 (.int .i64 0)).set_ 0 (.int .i64 0);clear m1 m2 y1 y2;generalize (w5.setCell ⟨b1,0,none⟩ (.int .i64 0)).setCell ⟨b2,0,none⟩ (.int .i64 0)=w8 at *;refine leaves_cons (f:=27) (args:=#[.pointer (some ⟨b1,0,none⟩),.pointer (some ⟨b2,0,none⟩)]) (by simp) (by simp[go_sem]) ?_;refine(ti12 b1 b2 w8).mono ?_;rintro e u' w9 ⟨rfl,rfl,h9⟩;refine⟨_,results_t12 rfl _ w9 b1 b2 _ _ _ rfl rfl rfl (ld_err (e1.below h9 e1.lt)) (ld_int (e2.below h9 e2.lt)),?_⟩
    exact⟨rfl,bel_trans (fx_bel_of HB_5.out F8 (fun k hk x=>by have:=HLE.out;rcases x with x|x<;>omega)) h9⟩
end Go.Proofs.YtkbicfffokegeaaGreatDoor
namespace Go.Proofs.YtkbicfffokegeaaGreatDoor
set_option maxHeartbeats 16000000
open Go.RowKit Go.Maps
set_option maxRecDepth 100000
theorem moreC_row {w:World}{B n:Nat}{K:Nat→St}{b:St}{v:Value}(h:w.ownsRow B 48 15 v (n+1) (rowC K n++stvs b.h b.e.h)):w.ownsRow B 48 15 v (n+1) (rowC (fun i=>if i<n then K i else b) (n+1)):=by
 have e:rowC (fun i=>if i<n then K i else b) (n+1)=rowC K n++stvs b.h b.e.h:=by
  rw[rowC,rowC_congr (J:=K) (fun i hi=>by rw[if_pos hi]),if_neg (Nat.lt_irrefl n)]
 rw[e];exact h
theorem stm_slice (h:SH)(e:EH):Tryz.prog.builtSlice 48 1 [(0,stv h e)]=some (stvs h e).toArray:=by kernel_rfl
theorem bs_st {ops:Array Oper}{rest:List Oper}{o:Oper}{a:Act}{w:World}{Q:Exit→Act→World→Prop}(h:SH)(e:EH)(hgd:o.guard=none)(x:Operand)(ho:o.op=.buildSlice 23 1 #[(0,x)])(hx:a.eval x=stv h e)
  (hw:∀g w',Hid (g=w.heap.size)→Hid (Blk w' g 48 (stvs h e).toArray)→Hid (Below w.heap.size w w')→wpList Tryz.prog ops Q rest (a.put o.dst (.slice (some ⟨g,0,none⟩) 1 1)) w'):wpList Tryz.prog ops Q (o::rest) a w:=by
 refine Great.wpList_buildSliceTo hgd 23 48 1 #[(0,x)] ho w.heap.size rfl o.dst rfl Tryz.underlying23 (stvs h e).toArray ?_ (hw _ _ rfl (Blk.new w _ _) (bel_one w _));have e1:((#[(0,x)]:Array (Nat×Operand)).map fun(i,x)=>(i,a.eval x)).toList=[(0,stv h e)]:=by simp[hx]
 rw[e1];exact stm_slice h e
theorem new_stm {w:World}{g:Nat}{h:SH}{e:EH}(hb:Blk w g 48 (stvs h e).toArray)(j:Nat)(u:Value)(hu:(stvs h e)[j]? = some u):w.cell? ((⟨g,0,none⟩:Addr).add j)=some u:=by
 rw[Addr.add_mid,Nat.zero_add];exact(hb.cell j).trans (by rw[List.getElem?_toArray];exact hu)
end Go.Proofs.YtkbicfffokegeaaGreatDoor
namespace Go.Proofs.YtkbicfffokegeaaGreatDoor
set_option maxHeartbeats 16000000
open Go.RowKit
set_option maxRecDepth 100000
def Sat (t m x:Nat):Prop:=x≤2*m+2∧(t≤m→x=t)∧(m<t→m<x)
theorem Sat.more {t u m x:Nat}(h:Sat t m x)(hx:m<x)(hu:t≤u):Sat u m x:=by
 obtain⟨h1,h2,h3⟩:=h;refine⟨h1,fun h=>?_,fun _=>hx⟩;have:=h2 (by omega);omega
theorem Sat.add {t u m x y:Nat}(h:Sat t m x)(hx:x≤m)(k:Sat u (m-x) y):Sat (t+u) m (x+y):=by
 obtain⟨h1,h2,h3⟩:=h;obtain⟨k1,k2,k3⟩:=k
 have e:t≤m:=by
  rcases Nat.lt_or_ge m t with g|g
  ·have:=h3 g;omega
  ·exact g
 have e1:=h2 e;refine⟨by omega,fun g=>?_,fun g=>?_⟩
 ·have:=k2 (by omega);omega
 ·have:=k3 (by omega);omega
theorem str_size' (l:List UInt8):(⟨l.toArray⟩:ByteArray).size=l.length:=by rw[Lib.size_eq]
def WgX (B:Nat)(e:Ex):Prop:=∀(m:Nat) (w:World),e.In B w→B≤w.heap.size→m≤100000→Calls Tryz.prog 12 #[e.h.v,.int .i64 (m:Int)] w fun r w'=>(∃x:Nat,r=.returned (.int .i64 (x:Int))∧Sat e.wt m x)∧Below w.heap.size w w'
theorem gWgX_of (B:Nat)(h:EH)(k:Nat→Ex)(ih:∀i,i<h.s.n→WgX B (k i))(m:Nat)(w:World)(hok:h.ok)(hX0:XsIn B w h.s k)(hB:B≤w.heap.size)(hm:m≤100000) :
  Calls Tryz.prog 12 #[h.v,.int .i64 (m:Int)] w fun r w'=>(∃x:Nat,r=.returned (.int .i64 (x:Int))∧Sat (1+h.nm.length+sm (fun i=>(k i).wt) h.s.n) m x)∧Below w.heap.size w w':=by
 obtain⟨op,ps,bo,it,fl,nm,⟨ao,n,c⟩⟩:=h;dsimp only at ih hX0 ⊢;have hX:XsIn B w ⟨ao,n,c⟩ k:=hX0;have HI:=Hj hX;have IH:=Hj ih;have HB:=Hj hB;have hc:=hok.s;have hnm:=hok.nm;have hmx:n≤maxLen:=Nat.le_trans hc.1 hc.2.1;dsimp only at hnm;unfold maxLen at hmx hnm;have HM:=Hj hmx;have HMM:=Hj hm;have hsz:=str_size' nm;obtain⟨q,hq⟩:∃q,min nm.length (m+1)=q:=⟨_,rfl⟩;have hq':min ((nm.length:Nat):Int) ((m:Int)+1)=(q:Int):=by omega
 have S0:Sat (1+nm.length) m (1+q):=⟨by omega,fun _=>by omega,fun _=>by omega⟩;have ov1:IntKind.i64.wrap ((m:Int)+1)=(m:Int)+1:=by rw[IntKind.wrap_i64];omega
 have ov2:IntKind.i64.wrap (1+(q:Int))=((1+q:Nat):Int):=by rw[IntKind.wrap_i64];omega
 have c5:(bx w (xO ⟨op,ps,bo,it,fl,nm,⟨ao,n,c⟩⟩)).cell? ⟨w.heap.size,5,none⟩=some (.string ⟨nm.toArray⟩):=cell_obj (bx_new w (xO ⟨op,ps,bo,it,fl,nm,⟨ao,n,c⟩⟩)) 5;have S0:=Hj S0;clear ih hok hX0 hX hB hc hnm hmx hm hq;show Calls Tryz.prog 12 #[.agg #[.int .u8 op,.int .i64 ps,.bool bo,.int .i32 it,.int .u64 fl,.string ⟨nm.toArray⟩,.slice ao n c],.int .i64 (m:Int)] w _;go_enter Tryz.func12,Tryz.ntmps12;go_upto_region 1 with fail;rw[bx_x w ⟨op,ps,bo,it,fl,nm,⟨ao,n,c⟩⟩];go_wp2_with fail
 go_loopg [5,6] n (fun gk t i wr=>∃j x:Nat,i=.int .i64 (j:Int)∧t=.int .i64 (x:Int)∧Hid (gk=n-j∧j≤n)∧Hid (Sat (1+nm.length+sm (fun i=>(k i).wt) j) m x)∧Hid (Below (bx w (xO ⟨op,ps,bo,it,fl,nm,⟨ao,n,c⟩⟩)).heap.size (bx w (xO ⟨op,ps,bo,it,fl,nm,⟨ao,n,c⟩⟩)) wr))
 case atStart=>exact⟨0,1+q,rfl,by simp,⟨rfl,Nat.zero_le _⟩,S0.out,Below.refl _ _⟩
 case round=>
  obtain⟨j,x,rfl,rfl,HJ,HS,HBw⟩:=hrel;have hz:(bx w (xO ⟨op,ps,bo,it,fl,nm,⟨ao,n,c⟩⟩)).heap.size=w.heap.size+1:=bx_size _ _;have hBx:wr.heap[w.heap.size]? = some (xO ⟨op,ps,bo,it,fl,nm,⟨ao,n,c⟩⟩):=(HBw.out.block _ (by omega)).trans (bx_new _ _);have c6:wr.cell? ⟨w.heap.size,6,none⟩=some (.slice ao n c):=(x_cells hBx).2.2.2.2.2.2;have BEL:Hid (Below w.heap.size w wr):=(bx_bel (Below.refl _ _) (Nat.le_refl _) _).trans (HBw.out.mono (by omega));have HZ:=Hj hz;clear hBx hz c5 hsz hq' ov1 ov2;have hxb:x≤200002:=by have:=HS.out.1;have:=HMM.out;omega
  by_cases hlt:j<n
  ·have z0:(j:Int)<(n:Int):=by omega
   by_cases hle:x≤m
   ·have z1:(x:Int)≤(m:Int):=by omega
    have ovi:IntKind.i64.wrap ((j:Int)+1)=((j+1:Nat):Int):=by have:=HM.out;rw[IntKind.wrap_i64];omega
    obtain⟨a,b,o,rfl,hA,hb,X,I⟩:=XsIn.at (HI.out.below BEL.out HB.out) (i:=j) hlt;have d0:=X.c0;have d1:=X.c1;have d2:=X.c2;have d3:=X.c3;have d4:=X.c4;have d5:=X.c5;have d6:=X.c6;have C:=Hj (IH.out j hlt (m-x) wr I (Nat.le_trans HB.out BEL.out.size) (by have:=HMM.out;omega));have ovs:IntKind.i64.wrap ((m:Int)-(x:Int))=((m-x:Nat):Int):=by rw[IntKind.wrap_i64];have:=HMM.out;omega
    have HLE:=Hj hle;have HLT:=Hj hlt;have hHM:=HMM.out;clear X I hb hle hlt;go_wp2_with fail;refine C.out.mono ?_;rintro e w' ⟨⟨y,rfl,hy⟩,hb⟩;have ov:IntKind.i64.wrap ((x:Int)+(y:Int))=((x+y:Nat):Int):=by rw[IntKind.wrap_i64];have:=hy.1;omega
    have HY:=Hj hy;have HB2:=Hj (HBw.out.trans (hb.mono HBw.out.size));clear hy hb;go_wp2_with fail
    go_roundg (n-(j+1))
    case measure=>have:=HJ.out;have:=HLT.out;omega
    case rel=>exact⟨j+1,x+y,by go_num,rfl,⟨rfl,HLT.out⟩,by have:=HS.out.add HLE.out HY.out;rwa [Nat.add_assoc]at this,HB2.out⟩
   ·have z1:¬(x:Int)≤(m:Int):=by omega
    have R:=Hj (HS.out.more (u:=1+nm.length+sm (fun i=>(k i).wt) n) (by omega) (by have:=sm_one (f:=fun i=>(k i).wt) hlt;omega));clear hlt hle;go_wp2_with fail;go_ret;exact⟨⟨x,rfl,R.out⟩,BEL.out⟩
  ·obtain rfl:j=n:=by have:=HJ.out;omega
   have z0:¬(j:Int)<(j:Int):=by omega
   clear hlt;go_wp2_with fail;go_ret;exact⟨⟨x,rfl,HS.out⟩,BEL.out⟩
theorem gWgX_any (B:Nat)(e:Ex):WgX B e:=by
 induction e using Ex.ind with
 | H e ih=>
  intro m w hI hB hm;rw[Ex.wt_eq];exact gWgX_of B e.h e.k ih m w hI.ok hI.xs hB hm
theorem gWgXs_any (B:Nat)(s:Sl)(k:Nat→Ex)(m:Nat)(w:World)(hX:XsIn B w s k)(hB:B≤w.heap.size)(hm:m≤100000) :
  Calls Tryz.prog 35 #[.slice s.ao s.n s.c,.int .i64 (m:Int)] w fun r w'=>(∃x:Nat,r=.returned (.int .i64 (x:Int))∧Sat (sm (fun i=>(k i).wt) s.n) m x)∧Below w.heap.size w w':=by
 have HI:=Hj hX;have HB:=Hj hB;have hc:=hX.1;have hmx:s.n≤maxLen:=Nat.le_trans hc.1 hc.2.1;unfold maxLen at hmx;have HM:=Hj hmx;have HMM:=Hj hm;obtain⟨ao,n,c⟩:=s;dsimp only at *;clear hX hB hc hmx hm;go_enter Tryz.func35,Tryz.ntmps35;go_wp2_with fail
 go_loopg [5,6] n (fun gk t i wr=>∃j x:Nat,i=.int .i64 (j:Int)∧t=.int .i64 (x:Int)∧Hid (gk=n-j∧j≤n)∧Hid (Sat (sm (fun i=>(k i).wt) j) m x)∧Hid (Below w.heap.size w wr))
 case atStart=>exact⟨0,0,rfl,rfl,⟨rfl,Nat.zero_le _⟩,⟨by omega,fun _=>rfl,fun h=>by simp[sm]at h⟩,Below.refl _ _⟩
 case round=>
  obtain⟨j,x,rfl,rfl,HJ,HS,BEL⟩:=hrel;have hxb:x≤200002:=by have:=HS.out.1;have:=HMM.out;omega
  by_cases hlt:j<n
  ·have z0:(j:Int)<(n:Int):=by omega
   by_cases hle:x≤m
   ·have z1:(x:Int)≤(m:Int):=by omega
    have ovi:IntKind.i64.wrap ((j:Int)+1)=((j+1:Nat):Int):=by have:=HM.out;rw[IntKind.wrap_i64];omega
    obtain⟨a,b,o,rfl,hA,hb,X,I⟩:=XsIn.at (HI.out.below BEL.out HB.out) (i:=j) hlt;have d0:=X.c0;have d1:=X.c1;have d2:=X.c2;have d3:=X.c3;have d4:=X.c4;have d5:=X.c5;have d6:=X.c6;have C:=Hj (gWgX_any B (k j) (m-x) wr I (Nat.le_trans HB.out BEL.out.size) (by have:=HMM.out;omega));have ovs:IntKind.i64.wrap ((m:Int)-(x:Int))=((m-x:Nat):Int):=by rw[IntKind.wrap_i64];have:=HMM.out;omega
    have HLE:=Hj hle;have HLT:=Hj hlt;have hHM:=HMM.out;clear X I hb hle hlt;go_wp2_with fail;refine C.out.mono ?_;rintro e w' ⟨⟨y,rfl,hy⟩,hb⟩;have ov:IntKind.i64.wrap ((x:Int)+(y:Int))=((x+y:Nat):Int):=by rw[IntKind.wrap_i64];have:=hy.1;omega
    have HY:=Hj hy;have HB2:=Hj (BEL.out.trans (hb.mono BEL.out.size));clear hy hb;go_wp2_with fail
    go_roundg (n-(j+1))
    case measure=>have:=HJ.out;have:=HLT.out;omega
    case rel=>exact⟨j+1,x+y,by go_num,rfl,⟨rfl,HLT.out⟩,by have:=HS.out.add HLE.out HY.out;exact this,HB2.out⟩
   ·have z1:¬(x:Int)≤(m:Int):=by omega
    have R:=Hj (HS.out.more (u:=sm (fun i=>(k i).wt) n) (by omega) (sm_le (by omega)));clear hlt hle;go_wp2_with fail;go_ret;exact⟨⟨x,rfl,R.out⟩,BEL.out⟩
  ·obtain rfl:j=n:=by have:=HJ.out;omega
   have z0:¬(j:Int)<(j:Int):=by omega
   clear hlt;go_wp2_with fail;go_ret;exact⟨⟨x,rfl,HS.out⟩,BEL.out⟩
theorem Sat.head {t m x l q:Nat}(h:Sat t m x)(hx:x≤m)(hq:min l (m+1)=q):Sat (t+(1+l)) m (x+1+q):=by
 obtain⟨h1,h2,h3⟩:=h
 have e:t=x:=by
  rcases Nat.lt_or_ge m t with g|g
  ·have:=h3 g;omega
  ·exact(h2 g).symm
 exact⟨by omega,fun _=>by omega,fun _=>by omega⟩
def WgSs (B:Nat)(s:Sl)(k:Nat→St):Prop:=∀(m:Nat) (w:World),SsIn B w s k→B≤w.heap.size→m≤100000 →
 Calls Tryz.prog 18 #[.slice s.ao s.n s.c,.int .i64 (m:Int)] w fun r w'=>(∃x:Nat,r=.returned (.int .i64 (x:Int))∧Sat (sm (fun i=>(k i).wt) s.n) m x)∧Below w.heap.size w w'
theorem gWgS_of (B:Nat)(s:Sl)(k:Nat→St)(ih:∀i,i<s.n→WgSs B (k i).h.ts (k i).t∧WgSs B (k i).h.es (k i).l):WgSs B s k:=by
 intro m w hX hB hm;have HI:=Hj hX;have IH:=Hj ih;have HB:=Hj hB;have hc:=hX.1;have hmx:s.n≤maxLen:=Nat.le_trans hc.1 hc.2.1;unfold maxLen at hmx;have HM:=Hj hmx;have HMM:=Hj hm;obtain⟨ao,n,c⟩:=s;dsimp only at *;clear hX hB hc hmx hm ih;go_enter Tryz.func18,Tryz.ntmps18;go_wp2_with fail
 go_loopg [5,6] n (fun gk t i wr=>∃j x:Nat,i=.int .i64 (j:Int)∧t=.int .i64 (x:Int)∧Hid (gk=n-j∧j≤n)∧Hid (Sat (sm (fun i=>(k i).wt) j) m x)∧Hid (Below w.heap.size w wr))
 case atStart=>exact⟨0,0,rfl,rfl,⟨rfl,Nat.zero_le _⟩,⟨by omega,fun _=>rfl,fun h=>by simp[sm]at h⟩,Below.refl _ _⟩
 case round=>
  obtain⟨j,x,rfl,rfl,HJ,HS,BEL⟩:=hrel;have hxb:x≤200002:=by have:=HS.out.1;have:=HMM.out;omega
  by_cases hlt:j<n
  ·have z0:(j:Int)<(n:Int):=by omega
   by_cases hle:x≤m
   ·have z1:(x:Int)≤(m:Int):=by omega
    have ovi:IntKind.i64.wrap ((j:Int)+1)=((j+1:Nat):Int):=by have:=HM.out;rw[IntKind.wrap_i64];omega
    obtain⟨a,b,o,rfl,hA,hb,X,I⟩:=SsIn.at (HI.out.below BEL.out HB.out) (i:=j) hlt;have d2:=X.c2;have d3:=X.c3;have XX:=Hj (And.intro hb X);have II:=Hj I;have hsz:=str_size' (k j).h.nm;obtain⟨q,hq⟩:∃q,min (k j).h.nm.length (m+1)=q:=⟨_,rfl⟩;have hq':min (((k j).h.nm.length:Nat):Int) ((m:Int)+1)=(q:Int):=by omega
    have S1:=Hj (HS.out.head hle hq);have HLT:=Hj hlt;have hHM:=HMM.out;have HW:=Hj (show sm (fun i=>(k i).wt) (j+1)=sm (fun i=>(k i).wt) j+(k j).wt from rfl);have HE:=Hj (St.wt_eq (k j));have ov0:IntKind.i64.wrap ((m:Int)+1)=(m:Int)+1:=by rw[IntKind.wrap_i64];omega
    have ov1:IntKind.i64.wrap ((x:Int)+1)=(x:Int)+1:=by rw[IntKind.wrap_i64];omega
    have ov2:IntKind.i64.wrap ((x:Int)+1+(q:Int))=((x+1+q:Nat):Int):=by rw[IntKind.wrap_i64];omega
    obtain⟨x1,hx1⟩:∃x1,x+1+q=x1:=⟨_,rfl⟩;have hx1':((x+1+q:Nat):Int)=(x1:Int):=by omega
    rw[hx1']at ov2;rw[hx1]at S1;clear X I hb hle hlt hq hx1 hx1';go_upto_region 6 with fail;have HX1:Hid (x1≤200002):=by have:=S1.out.1;have:=HMM.out;show _≤_;omega
    by_cases h1:x1≤m
    ·have y1:(x1:Int)≤(m:Int):=by omega
     have C1:=Hj (gWgXs_any B (k j).h.xs (k j).x (m-x1) wr (II.out.xs) (Nat.le_trans HB.out BEL.out.size) (by have:=HMM.out;omega));have os1:IntKind.i64.wrap ((m:Int)-(x1:Int))=((m-x1:Nat):Int):=by rw[IntKind.wrap_i64];have:=HMM.out;omega
     have HL1:=Hj h1;clear h1;go_wp2_with fail;refine C1.out.mono ?_;rintro e w1 ⟨⟨y,rfl,hy⟩,hb⟩;have S2:=Hj (S1.out.add HL1.out hy);have ov:IntKind.i64.wrap ((x1:Int)+(y:Int))=((x1+y:Nat):Int):=by rw[IntKind.wrap_i64];have:=hy.1;have:=HX1.out;have:=HMM.out;omega
     have BEL1:=Hj (BEL.out.trans (hb.mono BEL.out.size));have BEL1':Hid (Below wr.heap.size wr w1):=hb;obtain⟨x2,hx⟩:∃z,x1+y=z:=⟨_,rfl⟩;have hx':((x1+y:Nat):Int)=(x2:Int):=by omega
     rw[hx']at ov;rw[hx]at S2;go_upto_region 8 with fail;clear hy hb hx hx' os1 y1 ov C1 d2 d3 hsz hq' ov0 ov1 ov2;have HX2:Hid (x2≤200002):=by have:=S2.out.1;have:=HMM.out;show _≤_;omega
     by_cases h2:x2≤m
     ·have y2:(x2:Int)≤(m:Int):=by omega
      have XC:=XX.out.2.below XX.out.1 BEL1'.out (Nat.le_trans HB.out BEL.out.size);have d4:=XC.c4;have d5:=XC.c5;have d6:=XC.c6;have d7:=XC.c7;have d8:=XC.c8;have d9:=XC.c9;have d10:=XC.c10;clear XC;have C2:=Hj (gWgX_any B (k j).e (m-x2) w1 (II.out.ex.below (BEL1'.out) (Nat.le_trans HB.out BEL.out.size)) (Nat.le_trans HB.out BEL1.out.size) (by have:=HMM.out;omega));have os2:IntKind.i64.wrap ((m:Int)-(x2:Int))=((m-x2:Nat):Int):=by rw[IntKind.wrap_i64];have:=HMM.out;omega
      have HL2:=Hj h2;clear h2;go_wp2_with fail;refine C2.out.mono ?_;rintro e w2 ⟨⟨y,rfl,hy⟩,hb⟩;have S3:=Hj (S2.out.add HL2.out hy);have ov:IntKind.i64.wrap ((x2:Int)+(y:Int))=((x2+y:Nat):Int):=by rw[IntKind.wrap_i64];have:=hy.1;have:=HX2.out;have:=HMM.out;omega
      have BEL2:=Hj (BEL1.out.trans (hb.mono BEL1.out.size));have BEL2':=Hj (BEL1'.out.trans (hb.mono BEL1'.out.size));obtain⟨x3,hx⟩:∃z,x2+y=z:=⟨_,rfl⟩;have hx':((x2+y:Nat):Int)=(x3:Int):=by omega
      rw[hx']at ov;rw[hx]at S3;go_upto_region 10 with fail;clear hy hb hx hx' os2 y2 ov C2 d4 d5 d6 d7 d8 d9 d10;have HX3:Hid (x3≤200002):=by have:=S3.out.1;have:=HMM.out;show _≤_;omega
      by_cases h3:x3≤m
      ·have y3:(x3:Int)≤(m:Int):=by omega
       have XC:=XX.out.2.below XX.out.1 BEL2'.out (Nat.le_trans HB.out BEL.out.size);have d13:=XC.c13;clear XC;have C3:=Hj ((IH.out j HLT.out).1 (m-x3) w2 (II.out.ts.below (BEL2'.out) (Nat.le_trans HB.out BEL.out.size)) (Nat.le_trans HB.out BEL2.out.size) (by have:=HMM.out;omega));have os3:IntKind.i64.wrap ((m:Int)-(x3:Int))=((m-x3:Nat):Int):=by rw[IntKind.wrap_i64];have:=HMM.out;omega
       have HL3:=Hj h3;clear h3;go_wp2_with fail;refine C3.out.mono ?_;rintro e w3 ⟨⟨y,rfl,hy⟩,hb⟩;have S4:=Hj (S3.out.add HL3.out hy);have ov:IntKind.i64.wrap ((x3:Int)+(y:Int))=((x3+y:Nat):Int):=by rw[IntKind.wrap_i64];have:=hy.1;have:=HX3.out;have:=HMM.out;omega
       have BEL3:=Hj (BEL2.out.trans (hb.mono BEL2.out.size));have BEL3':=Hj (BEL2'.out.trans (hb.mono BEL2'.out.size));obtain⟨x4,hx⟩:∃z,x3+y=z:=⟨_,rfl⟩;have hx':((x3+y:Nat):Int)=(x4:Int):=by omega
       rw[hx']at ov;rw[hx]at S4;go_upto_region 12 with fail;clear hy hb hx hx' os3 y3 ov C3 d13;have HX4:Hid (x4≤200002):=by have:=S4.out.1;have:=HMM.out;show _≤_;omega
       by_cases h4:x4≤m
       ·have y4:(x4:Int)≤(m:Int):=by omega
        have XC:=XX.out.2.below XX.out.1 BEL3'.out (Nat.le_trans HB.out BEL.out.size);have d14:=XC.c14;clear XC;have C4:=Hj ((IH.out j HLT.out).2 (m-x4) w3 (II.out.es.below (BEL3'.out) (Nat.le_trans HB.out BEL.out.size)) (Nat.le_trans HB.out BEL3.out.size) (by have:=HMM.out;omega));have os4:IntKind.i64.wrap ((m:Int)-(x4:Int))=((m-x4:Nat):Int):=by rw[IntKind.wrap_i64];have:=HMM.out;omega
        have HL4:=Hj h4;clear h4;go_wp2_with fail;refine C4.out.mono ?_;rintro e w4 ⟨⟨y,rfl,hy⟩,hb⟩;have S5:=Hj (S4.out.add HL4.out hy);have ov:IntKind.i64.wrap ((x4:Int)+(y:Int))=((x4+y:Nat):Int):=by rw[IntKind.wrap_i64];have:=hy.1;have:=HX4.out;have:=HMM.out;omega
        have BEL4:=Hj (BEL3.out.trans (hb.mono BEL3.out.size));have BEL4':=Hj (BEL3'.out.trans (hb.mono BEL3'.out.size));obtain⟨x5,hx⟩:∃z,x4+y=z:=⟨_,rfl⟩;have hx':((x4+y:Nat):Int)=(x5:Int):=by omega
        rw[hx']at ov;rw[hx]at S5;clear hy hb hx hx' C4;go_wp2_with fail
        go_roundg (n-(j+1))
        case measure=>have:=HJ.out;have:=HLT.out;omega
        case rel=>exact⟨j+1,x5,by go_num,rfl,⟨rfl,HLT.out⟩,by have:=S5.out;rw[HW.out,HE.out];rwa [show sm (fun i=>(k i).wt) j+(1+(k j).h.nm.length)+sm (fun i=>((k j).x i).wt) (k j).h.xs.n+(k j).e.wt+sm (fun i=>((k j).t i).wt) (k j).h.ts.n+sm (fun i=>((k j).l i).wt) (k j).h.es.n=sm (fun i=>(k i).wt) j+(1+(k j).h.nm.length+sm (fun i=>((k j).x i).wt) (k j).h.xs.n+(k j).e.wt+sm (fun i=>((k j).t i).wt) (k j).h.ts.n+sm (fun i=>((k j).l i).wt) (k j).h.es.n) by omega]at this,BEL4.out⟩
       ·have y4:¬(x4:Int)≤(m:Int):=by omega
        have HL4:=Hj h4;clear h4;go_wp2_with fail
        go_roundg (n-(j+1))
        case measure=>have:=HJ.out;have:=HLT.out;omega
        case rel=>exact⟨j+1,x4,by go_num,rfl,⟨rfl,HLT.out⟩,S4.out.more (by have:=HL4.out;omega) (by rw[HW.out,HE.out];omega),BEL3.out⟩
      ·have y3:¬(x3:Int)≤(m:Int):=by omega
       have HL3:=Hj h3;clear h3;go_wp2_with fail
       go_roundg (n-(j+1))
       case measure=>have:=HJ.out;have:=HLT.out;omega
       case rel=>exact⟨j+1,x3,by go_num,rfl,⟨rfl,HLT.out⟩,S3.out.more (by have:=HL3.out;omega) (by rw[HW.out,HE.out];omega),BEL2.out⟩
     ·have y2:¬(x2:Int)≤(m:Int):=by omega
      have HL2:=Hj h2;clear h2;go_wp2_with fail
      go_roundg (n-(j+1))
      case measure=>have:=HJ.out;have:=HLT.out;omega
      case rel=>exact⟨j+1,x2,by go_num,rfl,⟨rfl,HLT.out⟩,S2.out.more (by have:=HL2.out;omega) (by rw[HW.out,HE.out];omega),BEL1.out⟩
    ·have y1:¬(x1:Int)≤(m:Int):=by omega
     have HL1:=Hj h1;clear h1 d2 d3 hsz hq' ov0 ov1 ov2;go_wp2_with fail
     go_roundg (n-(j+1))
     case measure=>have:=HJ.out;have:=HLT.out;omega
     case rel=>exact⟨j+1,x1,by go_num,rfl,⟨rfl,HLT.out⟩,S1.out.more (by have:=HL1.out;omega) (by rw[HW.out,HE.out];omega),BEL.out⟩
   ·have z1:¬(x:Int)≤(m:Int):=by omega
    have R:=Hj (HS.out.more (u:=sm (fun i=>(k i).wt) n) (by omega) (sm_le (by omega)));clear hlt hle;go_wp2_with fail;go_ret;exact⟨⟨x,rfl,R.out⟩,BEL.out⟩
  ·obtain rfl:j=n:=by have:=HJ.out;omega
   have z0:¬(j:Int)<(j:Int):=by omega
   clear hlt;go_wp2_with fail;go_ret;exact⟨⟨x,rfl,HS.out⟩,BEL.out⟩
theorem gWgS_e (B:Nat)(s:St):WgSs B s.h.ts s.t∧WgSs B s.h.es s.l:=by
 induction s using St.ind with
 | H s it il=>exact⟨gWgS_of B s.h.ts s.t it,gWgS_of B s.h.es s.l il⟩
theorem gWgS_any (B:Nat)(s:Sl)(k:Nat→St):WgSs B s k:=gWgS_of B s k fun i _=>gWgS_e B (k i)
theorem gWeigh_any (p:Pr)(B m:Nat)(w:World)(hp:p.In B w)(hB:B≤w.heap.size)(hm:m≤100000) :
  Calls Tryz.prog 8 #[p.v,.int .i64 (m:Int)] w fun r w'=>(∃x:Nat,r=.returned (.int .i64 (x:Int))∧Sat p.wt m x)∧Below w.heap.size w w':=by
 obtain⟨tk,⟨ao,n,c⟩,k,is,ki,ss,ks⟩:=p;have HI:Hid (DsIn B w ⟨ao,n,c⟩ k):=hp.2.1;have I1:Hid (SsIn B w is ki):=hp.2.2.1;have I2:Hid (SsIn B w ss ks):=hp.2.2.2;have HB:=Hj hB;have hc:=hp.2.1.1;have hmx:n≤maxLen:=Nat.le_trans hc.1 hc.2.1;unfold maxLen at hmx;have HM:=Hj hmx;have HMM:=Hj hm;have hz:(bx w (pO ⟨tk,⟨ao,n,c⟩,k,is,ki,ss,ks⟩)).heap.size=w.heap.size+1:=bx_size _ _;have HZ:=Hj hz;clear hp hB hc hmx hm hz;show Calls Tryz.prog 8 #[.agg #[.int .i64 tk,.slice ao n c,.slice is.ao is.n is.c,.slice ss.ao ss.n ss.c],.int .i64 (m:Int)] w _;go_enter Tryz.func8,Tryz.ntmps8;go_upto_region 1 with fail;rw[bx_p w ⟨tk,⟨ao,n,c⟩,k,is,ki,ss,ks⟩];go_wp2_with fail
 go_loopg [5,6] n (fun gk t i wr=>∃j x:Nat,i=.int .i64 (j:Int)∧t=.int .i64 (x:Int)∧Hid (gk=n-j∧j≤n)∧Hid (Sat (sm (fun i=>(k i).wt) j) m x)∧Hid (Below (bx w (pO ⟨tk,⟨ao,n,c⟩,k,is,ki,ss,ks⟩)).heap.size (bx w (pO ⟨tk,⟨ao,n,c⟩,k,is,ki,ss,ks⟩)) wr))
 case atStart=>exact⟨0,0,rfl,rfl,⟨rfl,Nat.zero_le _⟩,⟨by omega,fun _=>rfl,fun h=>by simp[sm]at h⟩,Below.refl _ _⟩
 case round=>
  obtain⟨j,x,rfl,rfl,HJ,HS,HBw⟩:=hrel;have hBx:wr.heap[w.heap.size]? = some (pO ⟨tk,⟨ao,n,c⟩,k,is,ki,ss,ks⟩):=(HBw.out.block _ (by have:=HZ.out;omega)).trans (bx_new _ _);obtain⟨-,c1,c2,c3⟩:=p_cells hBx;dsimp only at c1 c2 c3;have BEL:Hid (Below w.heap.size w wr):=(bx_bel (Below.refl _ _) (Nat.le_refl _) _).trans (HBw.out.mono (by have:=HZ.out;omega));have HP:=Hj hBx;have hxb:x≤200002:=by have:=HS.out.1;have:=HMM.out;omega
  clear hBx
  by_cases hlt:j<n
  ·have z0:(j:Int)<(n:Int):=by omega
   by_cases hle:x≤m
   ·have z1:(x:Int)≤(m:Int):=by omega
    have ovi:IntKind.i64.wrap ((j:Int)+1)=((j+1:Nat):Int):=by have:=HM.out;rw[IntKind.wrap_i64];omega
    obtain⟨a,b,o,rfl,hA,hb,X,I⟩:=DsIn.at (HI.out.below BEL.out HB.out) (i:=j) hlt;have d2:=X.c2;have XX:=Hj (And.intro hb X);have II:=Hj I;have hsz:=str_size' (k j).nm;obtain⟨q,hq⟩:∃q,min (k j).nm.length (m+1)=q:=⟨_,rfl⟩;have hq':min (((k j).nm.length:Nat):Int) ((m:Int)+1)=(q:Int):=by omega
    have S1:=Hj (HS.out.head hle hq);have HLT:=Hj hlt;have hHM:=HMM.out;have HW:=Hj (show sm (fun i=>(k i).wt) (j+1)=sm (fun i=>(k i).wt) j+(1+(k j).nm.length+(k j).lo.wt+(k j).hi.wt)from rfl);have ov0:IntKind.i64.wrap ((m:Int)+1)=(m:Int)+1:=by rw[IntKind.wrap_i64];omega
    have ov1:IntKind.i64.wrap ((x:Int)+1)=(x:Int)+1:=by rw[IntKind.wrap_i64];omega
    have ov2:IntKind.i64.wrap ((x:Int)+1+(q:Int))=((x+1+q:Nat):Int):=by rw[IntKind.wrap_i64];omega
    obtain⟨x1,hx1⟩:∃x1,x+1+q=x1:=⟨_,rfl⟩;have hx1':((x+1+q:Nat):Int)=(x1:Int):=by omega
    rw[hx1']at ov2;rw[hx1]at S1;clear X I hb hle hlt hq hx1 hx1' c2 c3;go_upto_region 6 with fail;have HX1:Hid (x1≤200002):=by have:=S1.out.1;have:=HMM.out;show _≤_;omega
    by_cases h1:x1≤m
    ·have y1:(x1:Int)≤(m:Int):=by omega
     have XC:=XX.out.2;have d6:=XC.c6;have d7:=XC.c7;have d8:=XC.c8;have d9:=XC.c9;have d10:=XC.c10;have d11:=XC.c11;have d12:=XC.c12;clear XC;have C1:=Hj (gWgX_any B (k j).lo (m-x1) wr II.out.2.1 (Nat.le_trans HB.out BEL.out.size) (by have:=HMM.out;omega));have os1:IntKind.i64.wrap ((m:Int)-(x1:Int))=((m-x1:Nat):Int):=by rw[IntKind.wrap_i64];have:=HMM.out;omega
     have HL1:=Hj h1;clear h1;go_wp2_with fail;refine C1.out.mono ?_;rintro e w1 ⟨⟨y,rfl,hy⟩,hb⟩;have S2:=Hj (S1.out.add HL1.out hy);have ov:IntKind.i64.wrap ((x1:Int)+(y:Int))=((x1+y:Nat):Int):=by rw[IntKind.wrap_i64];have:=hy.1;have:=HX1.out;have:=HMM.out;omega
     have BEL1:=Hj (BEL.out.trans (hb.mono BEL.out.size));have BEL1':Hid (Below wr.heap.size wr w1):=hb;obtain⟨x2,hx⟩:∃z,x1+y=z:=⟨_,rfl⟩;have hx':((x1+y:Nat):Int)=(x2:Int):=by omega
     rw[hx']at ov;rw[hx]at S2;go_upto_region 8 with fail;clear hy hb hx hx' os1 y1 ov C1 d2 hsz hq' ov0 ov1 ov2 c1 d6 d7 d8 d9 d10 d11 d12;have HX2:Hid (x2≤200002):=by have:=S2.out.1;have:=HMM.out;show _≤_;omega
     by_cases h2:x2≤m
     ·have y2:(x2:Int)≤(m:Int):=by omega
      have XC:=XX.out.2.below XX.out.1 BEL1'.out (Nat.le_trans HB.out BEL.out.size);have c1:=(p_cells ((BEL1'.out.block _ (Array.getElem?_eq_some_iff.1 HP.out).1).trans HP.out)).2.1;dsimp only at c1;have d13:=XC.c13;have d14:=XC.c14;have d15:=XC.c15;have d16:=XC.c16;have d17:=XC.c17;have d18:=XC.c18;have d19:=XC.c19;clear XC;have C2:=Hj (gWgX_any B (k j).hi (m-x2) w1 (II.out.2.2.below BEL1'.out (Nat.le_trans HB.out BEL.out.size)) (Nat.le_trans HB.out BEL1.out.size) (by have:=HMM.out;omega));have os2:IntKind.i64.wrap ((m:Int)-(x2:Int))=((m-x2:Nat):Int):=by rw[IntKind.wrap_i64];have:=HMM.out;omega
      have HL2:=Hj h2;clear h2;go_wp2_with fail;refine C2.out.mono ?_;rintro e w2 ⟨⟨y,rfl,hy⟩,hb⟩;have S3:=Hj (S2.out.add HL2.out hy);have ov:IntKind.i64.wrap ((x2:Int)+(y:Int))=((x2+y:Nat):Int):=by rw[IntKind.wrap_i64];have:=hy.1;have:=HX2.out;have:=HMM.out;omega
      have BEL2:=Hj (BEL1.out.trans (hb.mono BEL1.out.size));have BEL2':=Hj (BEL1'.out.trans (hb.mono BEL1'.out.size));obtain⟨x3,hx⟩:∃z,x2+y=z:=⟨_,rfl⟩;have hx':((x2+y:Nat):Int)=(x3:Int):=by omega
      rw[hx']at ov;rw[hx]at S3;clear hy hb hx hx' C2;go_wp2_with fail
      go_roundg (n-(j+1))
      case measure=>have:=HJ.out;have:=HLT.out;omega
      case rel=>exact⟨j+1,x3,by go_num,rfl,⟨rfl,HLT.out⟩,by have:=S3.out;rw[HW.out];rwa [show sm (fun i=>(k i).wt) j+(1+(k j).nm.length)+(k j).lo.wt+(k j).hi.wt=sm (fun i=>(k i).wt) j+(1+(k j).nm.length+(k j).lo.wt+(k j).hi.wt) by omega]at this,HBw.out.trans (BEL2'.out.mono HBw.out.size)⟩
     ·have y2:¬(x2:Int)≤(m:Int):=by omega
      have HL2:=Hj h2;clear h2;go_wp2_with fail
      go_roundg (n-(j+1))
      case measure=>have:=HJ.out;have:=HLT.out;omega
      case rel=>exact⟨j+1,x2,by go_num,rfl,⟨rfl,HLT.out⟩,S2.out.more (by have:=HL2.out;omega) (by rw[HW.out];omega),HBw.out.trans (BEL1'.out.mono HBw.out.size)⟩
    ·have y1:¬(x1:Int)≤(m:Int):=by omega
     have HL1:=Hj h1;clear h1 d2 hsz hq' ov0 ov1 ov2;go_wp2_with fail
     go_roundg (n-(j+1))
     case measure=>have:=HJ.out;have:=HLT.out;omega
     case rel=>exact⟨j+1,x1,by go_num,rfl,⟨rfl,HLT.out⟩,S1.out.more (by have:=HL1.out;omega) (by rw[HW.out];omega),HBw.out⟩
   ·have z1:¬(x:Int)≤(m:Int):=by omega
    have SN:=Hj (HS.out.more (u:=sm (fun i=>(k i).wt) n) (by omega) (sm_le (by omega)));clear hlt;have R:=Hj (SN.out.more (u:=(⟨tk,⟨ao,n,c⟩,k,is,ki,ss,ks⟩:Pr).wt) (by omega) (by unfold Pr.wt;dsimp only;omega));clear hle c2 c3;go_wp2_with fail;go_ret;exact⟨⟨x,rfl,R.out⟩,BEL.out⟩
  ·obtain rfl:j=n:=by have:=HJ.out;omega
   have z0:¬(j:Int)<(j:Int):=by omega
   have SN:=HS;clear hlt;have HX:Hid (x≤200002):=hxb;clear hxb
   by_cases hle:x≤m
   ·have z1:(x:Int)≤(m:Int):=by omega
    have C1:=Hj (gWgS_any B is ki (m-x) wr (I1.out.below BEL.out HB.out) (Nat.le_trans HB.out BEL.out.size) (by have:=HMM.out;omega));have os1:IntKind.i64.wrap ((m:Int)-(x:Int))=((m-x:Nat):Int):=by rw[IntKind.wrap_i64];have:=HMM.out;omega
    have HL1:=Hj hle;clear hle;go_wp2_with fail;refine C1.out.mono ?_;rintro e w1 ⟨⟨y,rfl,hy⟩,hb⟩;have S1:=Hj (SN.out.add HL1.out hy);have ov:IntKind.i64.wrap ((x:Int)+(y:Int))=((x+y:Nat):Int):=by rw[IntKind.wrap_i64];have:=hy.1;have:=HX.out;have:=HMM.out;omega
    have BEL1:=Hj (BEL.out.trans (hb.mono BEL.out.size));have c3:=(p_cells ((hb.block _ (Array.getElem?_eq_some_iff.1 HP.out).1).trans HP.out)).2.2.2;dsimp only at c3;obtain⟨x2,hx⟩:∃z,x+y=z:=⟨_,rfl⟩;have hx':((x+y:Nat):Int)=(x2:Int):=by omega
    rw[hx']at ov;rw[hx]at S1;go_upto_region 12 with fail;clear hy hb hx hx' os1 z1 ov C1 c1 c2;have HX2:Hid (x2≤200002):=by have:=S1.out.1;have:=HMM.out;show _≤_;omega
    by_cases h2:x2≤m
    ·have z1:(x2:Int)≤(m:Int):=by omega
     have C1:=Hj (gWgS_any B ss ks (m-x2) w1 (I2.out.below BEL1.out HB.out) (Nat.le_trans HB.out BEL1.out.size) (by have:=HMM.out;omega));have os1:IntKind.i64.wrap ((m:Int)-(x2:Int))=((m-x2:Nat):Int):=by rw[IntKind.wrap_i64];have:=HMM.out;omega
     have HL2:=Hj h2;clear h2;go_wp2_with fail;refine C1.out.mono ?_;rintro e w2 ⟨⟨y,rfl,hy⟩,hb⟩;have S2:=Hj (S1.out.add HL2.out hy);have ov:IntKind.i64.wrap ((x2:Int)+(y:Int))=((x2+y:Nat):Int):=by rw[IntKind.wrap_i64];have:=hy.1;have:=HX2.out;have:=HMM.out;omega
     have BEL2:=Hj (BEL1.out.trans (hb.mono BEL1.out.size));clear hy hb;go_wp2_with fail;go_ret;exact⟨⟨x2+y,by simp,S2.out⟩,BEL2.out⟩
    ·have z1:¬(x2:Int)≤(m:Int):=by omega
     have R:=Hj (S1.out.more (u:=(⟨tk,⟨ao,j,c⟩,k,is,ki,ss,ks⟩:Pr).wt) (by omega) (by unfold Pr.wt;dsimp only;omega));clear h2;go_wp2_with fail;go_ret;exact⟨⟨x2,rfl,R.out⟩,BEL1.out⟩
   ·have z1:¬(x:Int)≤(m:Int):=by omega
    have R:=Hj (SN.out.more (u:=(⟨tk,⟨ao,j,c⟩,k,is,ki,ss,ks⟩:Pr).wt) (by omega) (by unfold Pr.wt;dsimp only;omega));clear hle c2 c3;go_wp2_with fail;go_ret;exact⟨⟨x,rfl,R.out⟩,BEL.out⟩
end Go.Proofs.YtkbicfffokegeaaGreatDoor
