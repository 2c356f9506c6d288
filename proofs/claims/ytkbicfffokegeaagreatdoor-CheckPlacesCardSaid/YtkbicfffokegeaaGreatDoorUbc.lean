/-
  Layer 12's checks answer true, whatever program is handed in. (part 29 of 35) Conditions: none beside what the card ties.
-/
import Derived.Test.YtkbicfffokegeaaGreatDoorUbb
import Derived.Test.YtkbicfffokegeaaGreatDoorUaz
import Derived.Test.YtkbicfffokegeaaGreatDoorUak
import Derived.Deep.DeepCutAuto
import Derived.Test.YtkbicfffokegeaaGreatDoorUai
namespace Go.Proofs.YtkbicfffokegeaaGreatDoor
set_option maxHeartbeats 16000000
open Go.RowKit
set_option maxRecDepth 100000
theorem wt_rows (t:Nat→St)(m:Nat):m≤sm (fun i=>(t i).wt) m:=by
 induction m with
 | zero=>exact Nat.le_refl _
 | succ m im=>
  have:1≤(t m).wt:=by rw[St.wt_eq];omega
  show m+1≤sm (fun i=>(t i).wt) m+(t m).wt;omega
theorem ccstmt_asg (w0:World)(R M:Nat)(s:St)(k1:s.h.kd=1)(hI:s.In w0.heap.size w0)(hw:sm (fun i=>(s.x i).wt) s.h.xs.n≤1000000∧s.e.wt≤1000000):CkSt w0 R M s:=by
 intro S n w hS hnn hb hC;have BX:=bx_bel (Below.refl w.heap.size w) (Nat.le_refl _) (sO s.h s.e.h);have HB1:=hb.trans (BX.mono hb.size);have HC1:Ckr R M n S (bx w (sO s.h s.e.h)):=Ckf.bel hC BX;have hI1:=hI.below HB1 (Nat.le_refl _);have G:=Hj (bx_new w (sO s.h s.e.h));have B1:=Hj BX;rw[St.ck_eq];rw[if_pos k1];have C:=Hj (ccassign_any w0.heap.size R M n S hS s _ HC1 hI1 HB1.size hw);have RA:=Hj (sO_range12 G.out);have HC:=Hj HC1;have c0:=(s_cells G.out).c0;rw[k1]at c0;clear hI1 hI hw HB1 hb hC HC1 hS hnn BX;generalize asgC S s.h s.x s.e=Y at *;rw[stv_eq12]at C;obtain⟨V1,hV1⟩:∃V,stvs s.h s.e.h=V:=⟨_,rfl⟩;have L1:=Hj (show(Tryz.prog.info? 48).map (·.size)=some V1.length∧V1.length=15 by rw[←hV1];exact⟨by kernel_rfl,rfl⟩);rw[hV1]at C RA;clear hV1;generalize s.e.h=e at *;generalize s.h=h at *;clear k1;show Calls Tryz.prog 39 #[.pointer (some ⟨R,0,none⟩),.agg #[.int .u8 h.kd,.int .i64 h.ps,.string ⟨h.nm.toArray⟩,.slice h.xs.ao h.xs.n h.xs.c,.int .u8 e.op,.int .i64 e.ps,.bool e.bo,.int .i32 e.it,.int .u64 e.fl,.string ⟨e.nm.toArray⟩,.slice e.s.ao e.s.n e.s.c,.int .i32 h.lo,.int .i32 h.hi,.slice h.ts.ao h.ts.n h.ts.c,.slice h.es.ao h.es.n h.es.c]] w _;go_enter Tryz.func39,Tryz.ntmps39;go_upto_region 1 with fail
 rw[bx_s w h e];generalize bx w (sO h e)=w1 at *
 go_wp2_with (refine wpList_load_mid rfl 48 _ rfl w.heap.size 0 rfl V1 _ RA.out Tryz.underlying48 rfl L1.out.1 ?_)
 refine C.out.mono ?_;rintro r w2 ⟨rfl,b2⟩;have B2:=Hj (bel_trans B1.out b2);have HC2:Hid (Ckr R M n S w2):=HC.out.bel b2;clear C RA b2 HC c0
 cases Y with
 | no c p=>
  dsimp only[unE];go_wp2_with fail;exact⟨rfl,rfl,Fx.of B2.out,fun k=>by cases k⟩
 | ok u=>
  dsimp only[unE];go_wp2_with fail;exact bodyPost_end (results_none rfl _ _ _) rfl ⟨rfl,Fx.of B2.out,HC2.out⟩
theorem ccstmt_of (w0:World)(R M:Nat)(hE:Env9 w0)(hR:w0.heap.size≤R)(hM:w0.heap.size≤M)(s:St)(iht:∀i,i<s.h.ts.n→CkSt w0 R M (s.t i))(ihl:∀i,i<s.h.es.n→CkSt w0 R M (s.l i))(hI:s.In w0.heap.size w0)(hw:s.wt≤1000000):CkSt w0 R M s:=by
 intro S n w hS hnn hb hC;have hw2:=hw;rw[St.wt_eq]at hw2;have nt:=wt_rows s.t s.h.ts.n;have nl:=wt_rows s.l s.h.es.n;have BX:=bx_bel (Below.refl w.heap.size w) (Nat.le_refl _) (sO s.h s.e.h);have HB1:=hb.trans (BX.mono hb.size);have HC1:Ckr R M n S (bx w (sO s.h s.e.h)):=Ckf.bel hC BX;have hI1:=hI.below HB1 (Nat.le_refl _);have G:=Hj (bx_new w (sO s.h s.e.h));have B1:=Hj BX;have HRL:Hid (w.heap.size≠R∧w.heap.size≠M):=by have:=hC.blk.lt;have:=hC.mp.lt;exact⟨by omega,by omega⟩
 rw[St.ck_eq]
 by_cases k1:s.h.kd=1
 ·have:=ccstmt_asg w0 R M s k1 hI ⟨by omega,by omega⟩ S n w hS hnn hb hC
  rw[St.ck_eq]at this;exact this
 ·rw[if_neg k1]
  by_cases k2:s.h.kd=2
  ·rw[if_pos k2]
   have C:=Hj (ccexpect_any w0.heap.size R M n S hS s.e 1 _ HC1 hI1.ex HB1.size (by omega));have CT:=Hj fun w' hb' hc'=>ccblock_of w0 R M hR hM s.h.ts s.t iht hI.ts (by omega) S n w' hS hnn hb' hc';have CL:=Hj fun w' hb' hc'=>ccblock_of w0 R M hR hM s.h.es s.l ihl hI.es (by omega) S n w' hS hnn hb' hc';have HC:=Hj HC1;have HB:=Hj HB1;have HRM:=Hj (And.intro hR hM);have D:=s_cells G.out;have c0:=D.c0;rw[k2]at c0;have d4:=D.c4;have d5:=D.c5;have d6:=D.c6;have d7:=D.c7;have d8:=D.c8;have d9:=D.c9;have d10:=D.c10;clear hI1 hI hw hw2 nt nl iht ihl hE HB1 hb hC HC1 hS hnn BX D hR hM k1;generalize seqC (fun i=>(s.t i).ck isnV S) s.h.ts.n=YT at *;generalize seqC (fun i=>(s.l i).ck isnV S) s.h.es.n=YL at *;obtain⟨Z,hZ⟩:∃Z:Ck Unit,((s.e.ck S).bind fun u=>wantC (u == 1) 122 s.e.h.ps)=Z:=⟨_,rfl⟩
   have hY:((s.e.ck S).bind fun ty=>(wantC (ty == 1) 122 s.e.h.ps).bind fun _=>YT.bind fun _=>YL)=Z.bind fun _=>YT.bind fun _=>YL:=by
    rw[←hZ]
    cases s.e.ck S<;>rfl
   rw[hY];rw[hZ]at C;clear hY hZ;clear k2;have HLT:Hid (w.heap.size<(bx w (sO s.h s.e.h)).heap.size):=by rw[bx_size];exact Nat.lt_succ_self _
   generalize s.e.h=e at *;generalize s.h=h at *;show Calls Tryz.prog 39 #[.pointer (some ⟨R,0,none⟩),.agg #[.int .u8 h.kd,.int .i64 h.ps,.string ⟨h.nm.toArray⟩,.slice h.xs.ao h.xs.n h.xs.c,.int .u8 e.op,.int .i64 e.ps,.bool e.bo,.int .i32 e.it,.int .u64 e.fl,.string ⟨e.nm.toArray⟩,.slice e.s.ao e.s.n e.s.c,.int .i32 h.lo,.int .i32 h.hi,.slice h.ts.ao h.ts.n h.ts.c,.slice h.es.ao h.es.n h.es.c]] w _;go_enter Tryz.func39,Tryz.ntmps39;go_upto_region 1 with fail;rw[bx_s w h e];generalize bx w (sO h e)=w1 at *;go_wp2_with fail;refine C.out.mono ?_;rintro r w2 ⟨rfl,b2⟩;have B2:=Hj (bel_trans B1.out b2);have HB2:=Hj (HB.out.trans (b2.mono HB.out.size));have HC2:Hid (Ckr R M n S w2):=HC.out.bel b2;have G2:=Hj (keptO b2 G.out);have HLT2:Hid (w.heap.size<w2.heap.size):=Nat.lt_of_lt_of_le HLT.out b2.size;clear C b2 HC c0 d4 d5 d6 d7 d8 d9 d10 B1 HB G HLT
   cases Z with
   | no c p=>
    dsimp only[unE];go_wp2_with fail;exact⟨rfl,rfl,Fx.of B2.out,fun k=>by cases k⟩
   | ok u=>
    dsimp only[unE];have c7:=(s_cells G2.out).c13;have T:=Hj (CT.out w2 HB2.out HC2.out);go_wp2_with fail;refine T.out.mono ?_;rintro r w3 ⟨rfl,f3,ck3⟩;have F3:=Hj (fx_trans (Fx.of B2.out) f3);have HB3:=Hj (below_rm HB2.out f3 HRM.out.1 HRM.out.2);have G3:=Hj (rm_obj f3 HLT2.out HRL.out.1 HRL.out.2 G2.out);have CK3:=Hj ck3;clear T CT f3 ck3 c7 B2 HB2 HC2 G2 HLT2
    cases YT with
    | no c p=>
     dsimp only[unE];go_wp2_with fail;exact⟨rfl,rfl,F3.out,fun k=>by cases k⟩
    | ok u=>
     dsimp only[unE];have c8:=(s_cells G3.out).c14;have T:=Hj (CL.out w3 HB3.out (CK3.out rfl));go_wp2_with fail;refine T.out.mono ?_;rintro r w4 ⟨rfl,f4,ck4⟩;have F4:=Hj (fx_trans F3.out f4);have CK4:=Hj ck4;clear T CL f4 ck4 c8
     cases YL with
     | no c p=>
      dsimp only[unE];go_wp2_with fail;exact⟨rfl,rfl,F4.out,fun k=>by cases k⟩
     | ok u=>
      dsimp only[unE];go_wp2_with fail;exact bodyPost_end (results_none rfl _ _ _) rfl ⟨rfl,F4.out,fun _=>CK4.out trivial⟩
  ·rw[if_neg k2]
   by_cases k3:s.h.kd=3
   ·rw[if_pos k3]
    have C:=Hj (ccloop_of w0 R M hE hR hM s iht hI hw S n _ hS hnn HB1 HC1);unfold loC at C;have RA:=Hj (sO_range12 G.out);have c0:=(s_cells G.out).c0;rw[k3]at c0;clear hI1 hI hw hw2 nt nl iht ihl hE HB1 hb hC HC1 hS hnn BX k1 k2 hR hM;obtain⟨Y,hY⟩:∃Y:Ck Unit,(if isnV s.h.nm=false then .no 120 s.h.ps else if(S.find s.h.nm).isSome=true∨s.h.nm∈S.loops then .no 121 s.h.ps else if 16≤s.h.hi - s.h.lo∨2≤S.loops.length then .no 123 s.h.ps else seqC (fun i=>(s.t i).ck isnV (S.inner s.h.nm)) s.h.ts.n)=Y:=⟨_,rfl⟩;rw[hY]at C ⊢;clear hY;rw[stv_eq12]at C;obtain⟨V1,hV1⟩:∃V,stvs s.h s.e.h=V:=⟨_,rfl⟩;have L1:=Hj (show(Tryz.prog.info? 48).map (·.size)=some V1.length∧V1.length=15 by rw[←hV1];exact⟨by kernel_rfl,rfl⟩);rw[hV1]at C RA;clear hV1;generalize s.e.h=e at *;generalize s.h=h at *;clear k3;show Calls Tryz.prog 39 #[.pointer (some ⟨R,0,none⟩),.agg #[.int .u8 h.kd,.int .i64 h.ps,.string ⟨h.nm.toArray⟩,.slice h.xs.ao h.xs.n h.xs.c,.int .u8 e.op,.int .i64 e.ps,.bool e.bo,.int .i32 e.it,.int .u64 e.fl,.string ⟨e.nm.toArray⟩,.slice e.s.ao e.s.n e.s.c,.int .i32 h.lo,.int .i32 h.hi,.slice h.ts.ao h.ts.n h.ts.c,.slice h.es.ao h.es.n h.es.c]] w _;go_enter Tryz.func39,Tryz.ntmps39;go_upto_region 1 with fail;rw[bx_s w h e]
    generalize bx w (sO h e)=w1 at *
    go_wp2_with (refine wpList_load_mid rfl 48 _ rfl w.heap.size 0 rfl V1 _ RA.out Tryz.underlying48 rfl L1.out.1 ?_)
    refine C.out.mono ?_;rintro r w2 ⟨rfl,f2,ck2⟩;have F2:=Hj (fx_trans (Fx.of B1.out) f2);have CK2:=Hj ck2;clear C RA f2 ck2 c0
    cases Y with
    | no c p=>
     dsimp only[unE];go_wp2_with fail;exact⟨rfl,rfl,F2.out,fun k=>by cases k⟩
    | ok u=>
     dsimp only[unE];go_wp2_with fail;exact bodyPost_end (results_none rfl _ _ _) rfl ⟨rfl,F2.out,CK2.out trivial⟩
   ·rw[if_neg k3]
    have D:=s_cells G.out;have c0:=D.c0;have c1:=D.c1;clear hI1 hI hw hw2 nt nl iht ihl hE HB1 hb hC HC1 hS hnn BX hR hM D;generalize s.e.h=e at *;generalize s.h=h at *;show Calls Tryz.prog 39 #[.pointer (some ⟨R,0,none⟩),.agg #[.int .u8 h.kd,.int .i64 h.ps,.string ⟨h.nm.toArray⟩,.slice h.xs.ao h.xs.n h.xs.c,.int .u8 e.op,.int .i64 e.ps,.bool e.bo,.int .i32 e.it,.int .u64 e.fl,.string ⟨e.nm.toArray⟩,.slice e.s.ao e.s.n e.s.c,.int .i32 h.lo,.int .i32 h.hi,.slice h.ts.ao h.ts.n h.ts.c,.slice h.es.ao h.es.n h.es.c]] w _;go_enter Tryz.func39,Tryz.ntmps39;go_upto_region 1 with fail;rw[bx_s w h e];generalize bx w (sO h e)=w1 at *;go_wp2_with fail;refine(ccfail_any _ _ _).mono ?_;rintro r w2 ⟨rfl,e2⟩;rw[e2];go_wp2_with fail;exact⟨rfl,rfl,Fx.of B1.out,fun k=>by cases k⟩
theorem ccstmt_any (w0:World)(R M:Nat)(hE:Env9 w0)(hR:w0.heap.size≤R)(hM:w0.heap.size≤M)(s:St)(hI:s.In w0.heap.size w0)(hw:s.wt≤1000000):CkSt w0 R M s:=by
 induction s using St.ind with
 | H s it il=>
  have hw2:=hw;rw[St.wt_eq]at hw2;exact ccstmt_of w0 R M hE hR hM s (fun i hi=>it i hi (hI.ts.2.2 i hi) (by have:=sm_one (f:=fun i=>(s.t i).wt) hi;omega)) (fun i hi=>il i hi (hI.es.2.2 i hi) (by have:=sm_one (f:=fun i=>(s.l i).wt) hi;omega)) hI hw
theorem round_int (neg:Bool)(c md:Int)(h:Word c)(w:World):Calls Tryz.prog 130 #[.bool neg,.agg #[.int .u64 0,.int .u64 c],.int .i64 0,.bool false,.int .u8 md] w (RetF (rF md neg (2*(c*dD)) false) (rG md neg (2*(c*dD)) false) w):=by
 by_cases hz:c=0
 ·subst hz
  rw[Int.zero_mul,Int.mul_zero,(rF_nil md neg).1,(rF_nil md neg).2];exact round_zero neg 0 false md w
 ·obtain⟨i1,i2⟩:=int_round c
  have hc:0<c:=by have:=h.1;omega
  have RP:=round_pos neg 0 c 0 false md ⟨by decide,by decide⟩ h (by rw[V2_low];exact hc) w _ _ rfl rfl;rw[V2_low,Bool.false_and,i1,i2]at RP;exact RP
theorem vfrom_any (x md:Int)(h0:-9223372036854775808≤x)(h1:x≤9223372036854775807)(w:World):Calls Tryz.prog 107 #[.int .i64 x,.int .u8 md] w (RetF (fiF md x) (fiG md x) w):=by
 have R:=Hj (round_int (decide (x<0)) (x.natAbs:Int) md ⟨by omega,by omega⟩)
 by_cases h:x<0
 ·have e1:IntKind.u64.wrap (-IntKind.u64.wrap x)=(x.natAbs:Int):=by simp only[IntKind.wrap_u64];omega
  have e2:decide (x<0)=true:=decide_eq_true h;unfold fiF fiG;rw[e2]at R ⊢;go_enter Tryz.func107,Tryz.ntmps107;go_wp2_with fail;refine(R.out _).mono ?_;rintro e w1 ⟨rfl,hb⟩;go_wp2_with fail
  go_ret2
  exact⟨rfl,hb⟩
 ·have e1:IntKind.u64.wrap x=(x.natAbs:Int):=by simp only[IntKind.wrap_u64];omega
  have e2:decide (x<0)=false:=decide_eq_false h;unfold fiF fiG;rw[e2]at R ⊢;go_enter Tryz.func107,Tryz.ntmps107;go_wp2_with fail;refine(R.out _).mono ?_;rintro e w1 ⟨rfl,hb⟩;go_wp2_with fail
  go_ret2
  exact⟨rfl,hb⟩
theorem ccfloatEnd_any (e:EH)(w:World)(hok:e.ok):Calls Tryz.prog 86 #[e.v] w fun r w'=>r=.returned (.int .u64 (enV e))∧Below w.heap.size w w':=by
 have h0:=hok.it0;have h1:=hok.it1;obtain⟨op,ps,bo,it,fl,nm,s⟩:=e;dsimp only at h0 h1;clear hok;have H:=Hj fun w=>vfrom_any it 0 (by omega) (by omega) w;have ov:IntKind.i64.wrap it=it:=by rw[IntKind.wrap_i64];omega
 clear h0 h1;unfold enV;dsimp only;generalize fiF 0 it=ff at *;generalize fiG 0 it=gg at *;have G:=bx_new w (xO ⟨op,ps,bo,it,fl,nm,s⟩);have BL:=bx_bel (Below.refl w.heap.size w) (Nat.le_refl _) (xO ⟨op,ps,bo,it,fl,nm,s⟩);have C:=x_cells G;dsimp only at C;obtain⟨c0, -, -,c3,c4, -⟩:=C;have B1:=Hj BL;clear BL G
 by_cases k:op=2
 ·subst k
  rw[if_pos rfl];show Calls Tryz.prog 86 #[.agg #[.int .u8 2,.int .i64 ps,.bool bo,.int .i32 it,.int .u64 fl,.string ⟨nm.toArray⟩,.slice s.ao s.n s.c]] w _;go_enter Tryz.func86,Tryz.ntmps86;go_upto_region 1 with fail;rw[bx_x w ⟨2,ps,bo,it,fl,nm,s⟩];generalize bx w (xO ⟨2,ps,bo,it,fl,nm,s⟩)=w1 at *;go_wp2_with fail;refine(H.out _).mono ?_;rintro r w2 ⟨rfl,b2⟩;have B2:=Hj (bel_trans B1.out b2);clear b2 c0 c3 c4;go_wp2_with fail;go_ret;exact⟨rfl,B2.out⟩
 ·rw[if_neg k]
  by_cases k3:op=3
  ·subst k3
   rw[if_pos rfl];clear k;show Calls Tryz.prog 86 #[.agg #[.int .u8 3,.int .i64 ps,.bool bo,.int .i32 it,.int .u64 fl,.string ⟨nm.toArray⟩,.slice s.ao s.n s.c]] w _;go_enter Tryz.func86,Tryz.ntmps86;go_upto_region 1 with fail;rw[bx_x w ⟨3,ps,bo,it,fl,nm,s⟩];generalize bx w (xO ⟨3,ps,bo,it,fl,nm,s⟩)=w1 at *;go_wp2_with fail;go_ret;exact⟨rfl,B1.out⟩
  ·rw[if_neg k3]
   show Calls Tryz.prog 86 #[.agg #[.int .u8 op,.int .i64 ps,.bool bo,.int .i32 it,.int .u64 fl,.string ⟨nm.toArray⟩,.slice s.ao s.n s.c]] w _;go_enter Tryz.func86,Tryz.ntmps86;go_upto_region 1 with fail;rw[bx_x w ⟨op,ps,bo,it,fl,nm,s⟩];generalize bx w (xO ⟨op,ps,bo,it,fl,nm,s⟩)=w1 at *;go_wp2_with fail;refine(quiet_f _).mono ?_;rintro r w2 ⟨rfl,rfl⟩;go_wp2_with fail;go_ret;exact⟨rfl,B1.out⟩
theorem d_ends {w:World}{k:Nat}{d:De}{a b:EH}(g:w.heap[k]? = some (dO d a b)):w.cell? ⟨k,6,none⟩=some (.int .u8 a.op)∧w.cell? ⟨k,7,none⟩=some (.int .i64 a.ps)∧w.cell? ⟨k,8,none⟩=some (.bool a.bo)∧w.cell? ⟨k,9,none⟩=some (.int .i32 a.it)∧w.cell? ⟨k,10,none⟩=some (.int .u64 a.fl)∧w.cell? ⟨k,11,none⟩=some (.string ⟨a.nm.toArray⟩)∧w.cell? ⟨k,12,none⟩=some (.slice a.s.ao a.s.n a.s.c)∧w.cell? ⟨k,13,none⟩=some (.int .u8 b.op)∧w.cell? ⟨k,14,none⟩=some (.int .i64 b.ps)∧w.cell? ⟨k,15,none⟩=some (.bool b.bo)∧w.cell? ⟨k,16,none⟩=some (.int .i32 b.it)∧w.cell? ⟨k,17,none⟩=some (.int .u64 b.fl)∧w.cell? ⟨k,18,none⟩=some (.string ⟨b.nm.toArray⟩)∧w.cell? ⟨k,19,none⟩=some (.slice b.s.ao b.s.n b.s.c):=by
 have X:=d_cells g;exact⟨X.c6,X.c7,X.c8,X.c9,X.c10,X.c11,X.c12,X.c13,X.c14,X.c15,X.c16,X.c17,X.c18,X.c19⟩
theorem cchasRange_any (d:De)(a b:EH)(w:World)(ha:a.ok)(hb:b.ok):Calls Tryz.prog 58 #[dcv d a b] w fun r w'=>r=.returned (.bool (raP d.ty a b))∧Below w.heap.size w w':=by
 have FA:=Hj fun w=>ccfloatEnd_any a w ha;have FB:=Hj fun w=>ccfloatEnd_any b w hb;have WA:=Hj (enV_word ha);have WB:=Hj (enV_word hb);have G:=bx_new w (dO d a b);have B1:=Hj (bx_bel (Below.refl w.heap.size w) (Nat.le_refl _) (dO d a b));have X:=d_cells G;have c3:=X.c3;have c6:=X.c6;have c9:=X.c9;have c13:=X.c13;have c16:=X.c16;have G1:=Hj G;have HSZ:Hid ((bx w (dO d a b)).heap.size=w.heap.size+1):=bx_size _ _;clear X G ha hb
 by_cases k:d.ty=2
 ·rw[k]at c3
  by_cases h1:a.op=2
  ·rw[h1]at c6
   by_cases h2:b.op=2
   ·rw[h2]at c13
    have E:raP d.ty a b=decide (a.it≤b.it):=by simp[raP,k,h1,h2]
    rw[E];clear E FA FB WA WB G1 HSZ;clear k h1 h2;show Calls Tryz.prog 58 #[.agg #[.int .i64 d.ps,.bool d.inp,.string ⟨d.nm.toArray⟩,.int .u8 d.ty,.int .i64 d.len,.bool d.rg,.int .u8 a.op,.int .i64 a.ps,.bool a.bo,.int .i32 a.it,.int .u64 a.fl,.string ⟨a.nm.toArray⟩,.slice a.s.ao a.s.n a.s.c,.int .u8 b.op,.int .i64 b.ps,.bool b.bo,.int .i32 b.it,.int .u64 b.fl,.string ⟨b.nm.toArray⟩,.slice b.s.ao b.s.n b.s.c]] w _;go_enter Tryz.func58,Tryz.ntmps58;go_upto_region 1 with fail;rw[bx_d];generalize bx w (dO d a b)=w1 at *;go_wp2_with fail;go_ret;exact⟨rfl,B1.out⟩
   ·have E:raP d.ty a b=false:=by simp[raP,k,h2]
    rw[E];clear E FA FB WA WB G1 HSZ;clear k h1;show Calls Tryz.prog 58 #[.agg #[.int .i64 d.ps,.bool d.inp,.string ⟨d.nm.toArray⟩,.int .u8 d.ty,.int .i64 d.len,.bool d.rg,.int .u8 a.op,.int .i64 a.ps,.bool a.bo,.int .i32 a.it,.int .u64 a.fl,.string ⟨a.nm.toArray⟩,.slice a.s.ao a.s.n a.s.c,.int .u8 b.op,.int .i64 b.ps,.bool b.bo,.int .i32 b.it,.int .u64 b.fl,.string ⟨b.nm.toArray⟩,.slice b.s.ao b.s.n b.s.c]] w _;go_enter Tryz.func58,Tryz.ntmps58;go_upto_region 1 with fail;rw[bx_d];generalize bx w (dO d a b)=w1 at *;go_wp2_with fail;go_ret;exact⟨rfl,B1.out⟩
  ·have E:raP d.ty a b=false:=by simp[raP,k,h1]
   rw[E];clear E FA FB WA WB G1 HSZ;clear k;show Calls Tryz.prog 58 #[.agg #[.int .i64 d.ps,.bool d.inp,.string ⟨d.nm.toArray⟩,.int .u8 d.ty,.int .i64 d.len,.bool d.rg,.int .u8 a.op,.int .i64 a.ps,.bool a.bo,.int .i32 a.it,.int .u64 a.fl,.string ⟨a.nm.toArray⟩,.slice a.s.ao a.s.n a.s.c,.int .u8 b.op,.int .i64 b.ps,.bool b.bo,.int .i32 b.it,.int .u64 b.fl,.string ⟨b.nm.toArray⟩,.slice b.s.ao b.s.n b.s.c]] w _;go_enter Tryz.func58,Tryz.ntmps58;go_upto_region 1 with fail;rw[bx_d];generalize bx w (dO d a b)=w1 at *;go_wp2_with fail;go_ret;exact⟨rfl,B1.out⟩
 ·have E:raP d.ty a b=(decide (fC (enV a)<3) && decide (fC (enV b)<3) && !fLt (enV b) (enV a)):=if_neg k
  rw[E];have IA:=Hj fun w=>ccisFinite_any (enV a) WA.out w;have IB:=Hj fun w=>ccisFinite_any (enV b) WB.out w;have IL:=Hj fun w=>less_any _ _ WB.out WA.out w;clear E c6 c9 c13 c16 WA WB;generalize fLt (enV b) (enV a)=fl at *;generalize decide (fC (enV a)<3)=fa at *;generalize decide (fC (enV b)<3)=fb at *;generalize enV a=va at *;generalize enV b=vb at *;show Calls Tryz.prog 58 #[.agg #[.int .i64 d.ps,.bool d.inp,.string ⟨d.nm.toArray⟩,.int .u8 d.ty,.int .i64 d.len,.bool d.rg,.int .u8 a.op,.int .i64 a.ps,.bool a.bo,.int .i32 a.it,.int .u64 a.fl,.string ⟨a.nm.toArray⟩,.slice a.s.ao a.s.n a.s.c,.int .u8 b.op,.int .i64 b.ps,.bool b.bo,.int .i32 b.it,.int .u64 b.fl,.string ⟨b.nm.toArray⟩,.slice b.s.ao b.s.n b.s.c]] w _;go_enter Tryz.func58,Tryz.ntmps58;go_upto_region 1 with fail;rw[bx_d];generalize bx w (dO d a b)=w1 at *
  have HK:Hid (∀w',Below w1.heap.size w1 w'→(w'.cell? ⟨w.heap.size,6,none⟩=some (.int .u8 a.op)∧w'.cell? ⟨w.heap.size,7,none⟩=some (.int .i64 a.ps)∧w'.cell? ⟨w.heap.size,8,none⟩=some (.bool a.bo)∧w'.cell? ⟨w.heap.size,9,none⟩=some (.int .i32 a.it)∧w'.cell? ⟨w.heap.size,10,none⟩=some (.int .u64 a.fl)∧w'.cell? ⟨w.heap.size,11,none⟩=some (.string ⟨a.nm.toArray⟩)∧w'.cell? ⟨w.heap.size,12,none⟩=some (.slice a.s.ao a.s.n a.s.c)∧w'.cell? ⟨w.heap.size,13,none⟩=some (.int .u8 b.op)∧w'.cell? ⟨w.heap.size,14,none⟩=some (.int .i64 b.ps)∧w'.cell? ⟨w.heap.size,15,none⟩=some (.bool b.bo)∧w'.cell? ⟨w.heap.size,16,none⟩=some (.int .i32 b.it)∧w'.cell? ⟨w.heap.size,17,none⟩=some (.int .u64 b.fl)∧w'.cell? ⟨w.heap.size,18,none⟩=some (.string ⟨b.nm.toArray⟩)∧w'.cell? ⟨w.heap.size,19,none⟩=some (.slice b.s.ao b.s.n b.s.c))):=fun w' hw=>d_ends (keptO hw G1.out);go_upto_region 3 with fail
  refine region_plan (S:=fun w'=>w'.cell? ⟨w.heap.size,6,none⟩=some (.int .u8 a.op)∧w'.cell? ⟨w.heap.size,7,none⟩=some (.int .i64 a.ps)∧w'.cell? ⟨w.heap.size,8,none⟩=some (.bool a.bo)∧w'.cell? ⟨w.heap.size,9,none⟩=some (.int .i32 a.it)∧w'.cell? ⟨w.heap.size,10,none⟩=some (.int .u64 a.fl)∧w'.cell? ⟨w.heap.size,11,none⟩=some (.string ⟨a.nm.toArray⟩)∧w'.cell? ⟨w.heap.size,12,none⟩=some (.slice a.s.ao a.s.n a.s.c)∧w'.cell? ⟨w.heap.size,13,none⟩=some (.int .u8 b.op)∧w'.cell? ⟨w.heap.size,14,none⟩=some (.int .i64 b.ps)∧w'.cell? ⟨w.heap.size,15,none⟩=some (.bool b.bo)∧w'.cell? ⟨w.heap.size,16,none⟩=some (.int .i32 b.it)∧w'.cell? ⟨w.heap.size,17,none⟩=some (.int .u64 b.fl)∧w'.cell? ⟨w.heap.size,18,none⟩=some (.string ⟨b.nm.toArray⟩)∧w'.cell? ⟨w.heap.size,19,none⟩=some (.slice b.s.ao b.s.n b.s.c)) _ [(0,true),(1,true),(3,true),(4,true),(2,false),(5,false),(6,true),(7,true)] (by kernel_rfl) (by kernel_rfl) rfl (by kernel_rfl) (by kernel_rfl) (fun _ _ d _ _ h=>by cases d<;>exact h) (HK.out _ (bel_drew (Below.refl _ _))) ?_
  iterate 4
   refine Walk.take (v:=?_) rfl (by rfl) ?_ ?_;rotate_left
   ·(intro w' hSw;(try dsimp only at hSw);go_simp<;>with_reducible rfl)
   try simp only[Act.put,List.setIfInBounds_toArray,List.set_cons_zero,List.set_cons_succ]
  refine Walk.act rfl (by rfl) (fun K hK=>?_);go_simp;go_at_call 86;refine(FA.out _).mono ?_;rintro r w2 ⟨rfl,b2⟩;have X1:Below w1.heap.size w1 w2:=bel_trans (bel_drew (Below.refl _ _)) b2;refine hK.out _ _ (HK.out _ X1) ?_;clear hK K;try simp only[Act.put,List.setIfInBounds_toArray,List.set_cons_zero,List.set_cons_succ]
  refine Walk.act rfl (by rfl) (fun K hK=>?_);go_simp;go_at_call 86;refine(FB.out _).mono ?_;rintro r w3 ⟨rfl,b3⟩;have X2:Below w1.heap.size w1 w3:=bel_trans X1 b3;refine hK.out _ _ (HK.out _ X2) ?_;clear hK K;try simp only[Act.put,List.setIfInBounds_toArray,List.set_cons_zero,List.set_cons_succ]
  iterate 2
   refine Walk.take (v:=?_) rfl (by rfl) ?_ ?_;rotate_left
   ·(intro w' hSw;(try dsimp only at hSw);go_simp<;>with_reducible rfl)
   try simp only[Act.put,List.setIfInBounds_toArray,List.set_cons_zero,List.set_cons_succ]
  refine Walk.done ?_;have B3:=Hj (bel_trans B1.out X2);clear HK X1 X2 b2 b3 FA FB c3 G1 HSZ;go_wp2_with fail;refine(IA.out _).mono ?_;rintro r w4 ⟨rfl,rfl⟩
  cases fa with
  | false=>
   go_wp2_with fail;go_ret;exact⟨rfl,B3.out⟩
  | true=>
   go_wp2_with fail;refine(IB.out _).mono ?_;rintro r w4 ⟨rfl,rfl⟩
   cases fb with
   | false=>
    go_wp2_with fail;go_ret;exact⟨rfl,B3.out⟩
   | true=>
    go_wp2_with fail;refine(IL.out _).mono ?_;rintro r w4 ⟨rfl,rfl⟩;go_wp2_with fail;go_ret;exact⟨rfl,B3.out⟩
theorem wpList_load_want {P:Program}{ops:Array Oper}{rest:List Oper}{op:Oper}{a:Act}{w:World}{Q:Exit→Act→World→Prop}(hw:Region.wanted op (yielded ops a.tmps)=true)(ty:TypeId)(x:Operand)(ho:op.op=.load ty x)
  (b o:Nat) (hx:a.eval x=.pointer (some ⟨b,o,none⟩)) (cs:List Value) (d:TypeDesc) (hc:w.rangeAt b o cs)
  (hu:P.underlying ty=some d) (hd:d.isRow=true) (hi:(P.info? ty).map (·.size)=some cs.length)
  (h:wpList P ops Q rest (a.put op.dst (.agg cs.toArray)) w):wpList P ops Q (op::rest) a w:=
 wpList_step fun K hK=>by
  rw[if_pos hw];exact wp_load_mid ty x ho b o hx cs d hc hu hd hi (hK _ _ h)
def raF (d:De)(a b:EH):Bool:=
 if d.inp then decide (d.len=0) && (d.rg == numT d.ty) && (!d.rg || raP d.ty a b)
 else !d.rg && decide (0≤d.len) && decide (d.len≤16)
theorem cchasForm_any (d:De)(a b:EH)(w:World)(ha:a.ok)(hb:b.ok):Calls Tryz.prog 38 #[dcv d a b] w fun r w'=>r=.returned (.bool (raF d a b))∧Below w.heap.size w w':=by
 have HR:=Hj fun w=>cchasRange_any d a b w ha hb;have NU:=Hj fun w=>ccisNumeric_any d.ty w;have G:=bx_new w (dO d a b);have B1:=Hj (bx_bel (Below.refl w.heap.size w) (Nat.le_refl _) (dO d a b));have X:=d_cells G;have c1:=X.c1;have c3:=X.c3;have c4:=X.c4;have c5:=X.c5;have G1:=Hj G;clear X G ha hb;rw[dcv_eq]at HR;obtain⟨V1,hV1⟩:∃V,dcvs d a b=V:=⟨_,rfl⟩;have L1:=Hj (show(Tryz.prog.info? 44).map (·.size)=some V1.length∧V1.length=20 by rw[←hV1];exact⟨by kernel_rfl,rfl⟩);rw[hV1]at HR;have HV1:=Hj hV1;clear hV1;unfold raF;generalize raP d.ty a b=rr at *
 cases hi:d.inp with
 | false=>
  rw[hi]at c1;clear hi HR NU
  cases hr:d.rg with
  | true=>
   rw[hr]at c5;clear hr;show Calls Tryz.prog 38 #[.agg #[.int .i64 d.ps,.bool d.inp,.string ⟨d.nm.toArray⟩,.int .u8 d.ty,.int .i64 d.len,.bool d.rg,.int .u8 a.op,.int .i64 a.ps,.bool a.bo,.int .i32 a.it,.int .u64 a.fl,.string ⟨a.nm.toArray⟩,.slice a.s.ao a.s.n a.s.c,.int .u8 b.op,.int .i64 b.ps,.bool b.bo,.int .i32 b.it,.int .u64 b.fl,.string ⟨b.nm.toArray⟩,.slice b.s.ao b.s.n b.s.c]] w _;go_enter Tryz.func38,Tryz.ntmps38;go_upto_region 1 with fail;rw[bx_d];generalize bx w (dO d a b)=w1 at *;go_wp2_with fail;go_ret;exact⟨rfl,B1.out⟩
  | false=>
   rw[hr]at c5;clear hr
   by_cases h0:0≤d.len
   ·show Calls Tryz.prog 38 #[.agg #[.int .i64 d.ps,.bool d.inp,.string ⟨d.nm.toArray⟩,.int .u8 d.ty,.int .i64 d.len,.bool d.rg,.int .u8 a.op,.int .i64 a.ps,.bool a.bo,.int .i32 a.it,.int .u64 a.fl,.string ⟨a.nm.toArray⟩,.slice a.s.ao a.s.n a.s.c,.int .u8 b.op,.int .i64 b.ps,.bool b.bo,.int .i32 b.it,.int .u64 b.fl,.string ⟨b.nm.toArray⟩,.slice b.s.ao b.s.n b.s.c]] w _
    go_enter Tryz.func38,Tryz.ntmps38;go_upto_region 1 with fail;rw[bx_d];generalize bx w (dO d a b)=w1 at *;go_wp2_with fail;go_ret;exact⟨by simp,B1.out⟩
   ·show Calls Tryz.prog 38 #[.agg #[.int .i64 d.ps,.bool d.inp,.string ⟨d.nm.toArray⟩,.int .u8 d.ty,.int .i64 d.len,.bool d.rg,.int .u8 a.op,.int .i64 a.ps,.bool a.bo,.int .i32 a.it,.int .u64 a.fl,.string ⟨a.nm.toArray⟩,.slice a.s.ao a.s.n a.s.c,.int .u8 b.op,.int .i64 b.ps,.bool b.bo,.int .i32 b.it,.int .u64 b.fl,.string ⟨b.nm.toArray⟩,.slice b.s.ao b.s.n b.s.c]] w _
    go_enter Tryz.func38,Tryz.ntmps38;go_upto_region 1 with fail;rw[bx_d];generalize bx w (dO d a b)=w1 at *;go_wp2_with fail;go_ret;refine⟨?_,B1.out⟩;have h1:decide (0≤d.len)=false:=decide_eq_false (by omega);rw[h1];rfl
 | true=>
  rw[hi]at c1;clear hi
  by_cases h0:d.len=0
  ·rw[h0]at c4
   have E0:decide (d.len=0)=true:=decide_eq_true h0;rw[E0];clear h0 E0;generalize numT d.ty=nt at *
   cases hr:d.rg with
   | false=>
    rw[hr]at c5;have HR5:=Hj hr;clear hr HR;show Calls Tryz.prog 38 #[.agg #[.int .i64 d.ps,.bool d.inp,.string ⟨d.nm.toArray⟩,.int .u8 d.ty,.int .i64 d.len,.bool d.rg,.int .u8 a.op,.int .i64 a.ps,.bool a.bo,.int .i32 a.it,.int .u64 a.fl,.string ⟨a.nm.toArray⟩,.slice a.s.ao a.s.n a.s.c,.int .u8 b.op,.int .i64 b.ps,.bool b.bo,.int .i32 b.it,.int .u64 b.fl,.string ⟨b.nm.toArray⟩,.slice b.s.ao b.s.n b.s.c]] w _;go_enter Tryz.func38,Tryz.ntmps38;go_upto_region 1 with fail;rw[bx_d];generalize bx w (dO d a b)=w1 at *;go_upto_region 4 with fail
    have HK:Hid (∀w',Below w1.heap.size w1 w'→(w'.cell? ⟨w.heap.size,3,none⟩=some (.int .u8 d.ty)∧w'.cell? ⟨w.heap.size,5,none⟩=some (.bool false))):=fun w' hw=>by
     have X:=d_cells (keptO hw G1.out);exact⟨X.c3,by rw[X.c5,HR5.out]⟩
    refine region_plan (S:=fun w'=>w'.cell? ⟨w.heap.size,3,none⟩=some (.int .u8 d.ty)∧w'.cell? ⟨w.heap.size,5,none⟩=some (.bool false)) _ [(0,true),(1,true),(2,true),(3,true),(4,false),(5,true),(6,true)] (by kernel_rfl) (by kernel_rfl) rfl (by kernel_rfl) (by kernel_rfl) (fun _ _ d _ _ h=>by cases d<;>exact h) (HK.out _ (bel_drew (Below.refl _ _))) ?_
    iterate 4
     refine Walk.take (v:=?_) rfl (by rfl) ?_ ?_;rotate_left
     ·(intro w' hSw;(try dsimp only at hSw);go_simp<;>with_reducible rfl)
     try simp only[Act.put,List.setIfInBounds_toArray,List.set_cons_zero,List.set_cons_succ]
    refine Walk.act rfl (by rfl) (fun K hK=>?_);go_simp;go_at_call 57;refine(NU.out _).mono ?_;rintro r w2 ⟨rfl,e2⟩;have X1:Below w1.heap.size w1 w2:=e2 ▸ bel_drew (Below.refl _ _);refine hK.out _ _ (HK.out _ X1) ?_;clear hK K;try simp only[Act.put,List.setIfInBounds_toArray,List.set_cons_zero,List.set_cons_succ]
    iterate 2
     refine Walk.take (v:=?_) rfl (by rfl) ?_ ?_;rotate_left
     ·(intro w' hSw;(try dsimp only at hSw);go_simp<;>with_reducible rfl)
     try simp only[Act.put,List.setIfInBounds_toArray,List.set_cons_zero,List.set_cons_succ]
    refine Walk.done ?_;have hw1:=(keptO X1 G1.out);have B2:=Hj (bel_trans B1.out X1);have d5:=(d_cells hw1).c5;rw[HR5.out]at d5;clear c1 c3 c4 c5 HK e2 X1 hw1 B1
    cases nt with
    | false=>
     go_wp2_with fail;go_ret;exact⟨rfl,B2.out⟩
    | true=>
     go_wp2_with fail;go_ret;exact⟨rfl,B2.out⟩
   | true=>
    rw[hr]at c5;have HR5:=Hj hr;clear hr;show Calls Tryz.prog 38 #[.agg #[.int .i64 d.ps,.bool d.inp,.string ⟨d.nm.toArray⟩,.int .u8 d.ty,.int .i64 d.len,.bool d.rg,.int .u8 a.op,.int .i64 a.ps,.bool a.bo,.int .i32 a.it,.int .u64 a.fl,.string ⟨a.nm.toArray⟩,.slice a.s.ao a.s.n a.s.c,.int .u8 b.op,.int .i64 b.ps,.bool b.bo,.int .i32 b.it,.int .u64 b.fl,.string ⟨b.nm.toArray⟩,.slice b.s.ao b.s.n b.s.c]] w _;go_enter Tryz.func38,Tryz.ntmps38;go_upto_region 1 with fail;rw[bx_d];generalize bx w (dO d a b)=w1 at *;go_upto_region 4 with fail
    have HK:Hid (∀w',Below w1.heap.size w1 w'→(w'.cell? ⟨w.heap.size,3,none⟩=some (.int .u8 d.ty)∧w'.cell? ⟨w.heap.size,5,none⟩=some (.bool true))):=fun w' hw=>by
     have X:=d_cells (keptO hw G1.out);exact⟨X.c3,by rw[X.c5,HR5.out]⟩
    refine region_plan (S:=fun w'=>w'.cell? ⟨w.heap.size,3,none⟩=some (.int .u8 d.ty)∧w'.cell? ⟨w.heap.size,5,none⟩=some (.bool true)) _ [(0,true),(1,true),(2,true),(3,true),(4,false),(5,true),(6,true)] (by kernel_rfl) (by kernel_rfl) rfl (by kernel_rfl) (by kernel_rfl) (fun _ _ d _ _ h=>by cases d<;>exact h) (HK.out _ (bel_drew (Below.refl _ _))) ?_
    iterate 4
     refine Walk.take (v:=?_) rfl (by rfl) ?_ ?_;rotate_left
     ·(intro w' hSw;(try dsimp only at hSw);go_simp<;>with_reducible rfl)
     try simp only[Act.put,List.setIfInBounds_toArray,List.set_cons_zero,List.set_cons_succ]
    refine Walk.act rfl (by rfl) (fun K hK=>?_);go_simp;go_at_call 57;refine(NU.out _).mono ?_;rintro r w2 ⟨rfl,e2⟩;have X1:Below w1.heap.size w1 w2:=e2 ▸ bel_drew (Below.refl _ _);refine hK.out _ _ (HK.out _ X1) ?_;clear hK K;try simp only[Act.put,List.setIfInBounds_toArray,List.set_cons_zero,List.set_cons_succ]
    iterate 2
     refine Walk.take (v:=?_) rfl (by rfl) ?_ ?_;rotate_left
     ·(intro w' hSw;(try dsimp only at hSw);go_simp<;>with_reducible rfl)
     try simp only[Act.put,List.setIfInBounds_toArray,List.set_cons_zero,List.set_cons_succ]
    refine Walk.done ?_;have hw1:=(keptO X1 G1.out);have B2:=Hj (bel_trans B1.out X1);have d5:=(d_cells hw1).c5;rw[HR5.out]at d5;have RA:=Hj (dO_range hw1);rw[HV1.out]at RA;clear c1 c3 c4 c5 HK e2 X1 hw1 B1
    cases nt with
    | false=>
     go_wp2_with fail;go_ret;exact⟨rfl,B2.out⟩
    | true=>
     go_wp2_with (refine wpList_load_want (by rfl) 44 _ rfl w.heap.size 0 rfl V1 _ RA.out Tryz.underlying44 rfl L1.out.1 ?_)
     refine(HR.out _).mono ?_;rintro r w3 ⟨rfl,b3⟩;have B3:=Hj (bel_trans B2.out b3);clear b3 B2;go_wp2_with fail;go_ret;exact⟨rfl,B3.out⟩
  ·have E0:decide (d.len=0)=false:=decide_eq_false h0
   rw[E0];clear E0 HR NU;show Calls Tryz.prog 38 #[.agg #[.int .i64 d.ps,.bool d.inp,.string ⟨d.nm.toArray⟩,.int .u8 d.ty,.int .i64 d.len,.bool d.rg,.int .u8 a.op,.int .i64 a.ps,.bool a.bo,.int .i32 a.it,.int .u64 a.fl,.string ⟨a.nm.toArray⟩,.slice a.s.ao a.s.n a.s.c,.int .u8 b.op,.int .i64 b.ps,.bool b.bo,.int .i32 b.it,.int .u64 b.fl,.string ⟨b.nm.toArray⟩,.slice b.s.ao b.s.n b.s.c]] w _;go_enter Tryz.func38,Tryz.ntmps38;go_upto_region 1 with fail;rw[bx_d];generalize bx w (dO d a b)=w1 at *;go_wp2_with fail;go_ret;exact⟨rfl,B1.out⟩
end Go.Proofs.YtkbicfffokegeaaGreatDoor
