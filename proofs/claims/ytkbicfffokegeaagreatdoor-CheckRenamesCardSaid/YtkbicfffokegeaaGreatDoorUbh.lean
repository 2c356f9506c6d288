/-
  Layer 12's checks answer true, whatever program is handed in. (part 34 of 35) Conditions: none beside what the card ties.
-/
import Derived.Deep.DeepCutAuto
import Derived.Test.YtkbicfffokegeaaGreatDoorUbf
import Derived.Test.YtkbicfffokegeaaGreatDoorUbg
namespace Go.Proofs.YtkbicfffokegeaaGreatDoor
set_option maxHeartbeats 16000000
open Go.RowKit Go.Maps
set_option maxRecDepth 100000
theorem lrenames_walk (p:Pr)(w:World)(hp:p.In w.heap.size w)(hE:Env9 w) :
  Calls Tryz.prog 6 #[p.v] w fun x w'=>x=.returned (.bool true)∧Below w.heap.size w w':=by
 have IP:=Hj hp;have HE:=Hj hE;have B0:Hid (Below w.heap.size w (bx w (pO p))):=bx_bel (Below.refl _ _) (Nat.le_refl _) _;have GP:Hid ((bx w (pO p)).heap[w.heap.size]? = some (pO p)):=bx_new w (pO p);have CW:=Hj fun(w':World) hI hB=>gWeigh_any p w.heap.size 1500 w' hI hB (by decide);obtain⟨i0,hi,hz0,hz1,hz2⟩:=info_parts decl_info;have HI0:=Hj (And.intro hi (And.intro hz0 (And.intro hz1 hz2)));clear hp hE hi hz0 hz1 hz2;show Calls Tryz.prog 6 #[.agg #[.int .i64 p.ticks,.slice p.ds.ao p.ds.n p.ds.c,.slice p.is.ao p.is.n p.is.c,.slice p.ss.ao p.ss.n p.ss.c]] w _;go_enter Tryz.func6,Tryz.ntmps6;go_upto_region 1 with fail;rw[bx_p];generalize bx w (pO p)=W at *;have WK:=Hj (works12_any W (HE.out.below B0.out));go_wp2_with fail;refine WK.out.mono ?_;rintro x w1 ⟨rfl,b1⟩;have B1:=Hj (bel_trans B0.out b1);have GP1:=Hj (keptO b1 GP.out);obtain⟨a0,a1,a2,a3⟩:=p_cells GP1.out;clear b1 GP B0 WK;go_wp2_with fail;refine(CW.out _ (IP.out.below B1.out (Nat.le_refl _)) B1.out.size).mono ?_;rintro x w5 ⟨⟨n1,rfl,s1⟩,b2⟩;have B5:=Hj (bel_trans B1.out b2);have GP5:=Hj (keptO b2 GP1.out);have S1:=Hj s1;clear b2 GP1 B1 s1 CW a0 a1 a2 a3
 by_cases h1:n1≤1500
 case neg=>
  have z1:(1500:Int)<(n1:Int):=by omega
  go_wp2_with fail;go_ret;exact⟨rfl,B5.out⟩
 case pos=>
  have z1:¬(1500:Int)<(n1:Int):=by omega
  have P1:=Hj (S1.out.small12 h1);clear h1 S1;have LP5:Hid (w.heap.size<w5.heap.size):=(Array.getElem?_eq_some_iff.1 GP5.out).1;have WI:Hid (sm (fun i=>(p.i i).wt) p.is.n≤100000):=by have h2:=P1.out;unfold Pr.wt at h2;show _≤_;omega
  have WS:Hid (sm (fun i=>(p.s i).wt) p.ss.n≤100000):=by have h2:=P1.out;unfold Pr.wt at h2;show _≤_;omega
  have CI:=Hj fun w' (hb:Below w5.heap.size w5 w')=>named_any w.heap.size p.is p.i WI.out w' (IP.out.below (B5.out.trans (hb.mono B5.out.size)) (Nat.le_refl _)).2.2.1 (Nat.le_trans B5.out.size hb.size);have CS:=Hj fun w' (hb:Below w5.heap.size w5 w')=>named_any w.heap.size p.ss p.s WS.out w' (IP.out.below (B5.out.trans (hb.mono B5.out.size)) (Nat.le_refl _)).2.2.2 (Nat.le_trans B5.out.size hb.size)
  have KG:Hid (∀w',Below w5.heap.size w5 w'→(w'.cell? ⟨w.heap.size,0,none⟩=some (.int .i64 p.ticks)∧w'.cell? ⟨w.heap.size,2,none⟩=some (.slice p.is.ao p.is.n p.is.c)∧w'.cell? ⟨w.heap.size,3,none⟩=some (.slice p.ss.ao p.ss.n p.ss.c))):=fun w' hb=>by
   obtain⟨q0, -,q2,q3⟩:=p_cells (keptO hb GP5.out);exact⟨q0,q2,q3⟩
  clear WI WS;go_upto_region 6 with fail
  go_cut [4] (fun v wx=>∃(qb:Nat) (SI SS:Sl) (KI KS:Nat→St),v=.pointer (some ⟨qb,0,none⟩)∧Hid (Blk wx qb 25 (prvs p.ticks ⟨none,0,0⟩ SI SS).toArray)∧Hid (XB (Dq qb w5.heap.size) SI KI wx∧XB (Dq qb w5.heap.size) SS KS wx)∧Hid (SI.n=p.is.n∧SS.n=p.ss.n∧(∀i,i<p.is.n→(KI i).eqv (p.i i).nmd)∧∀i,i<p.ss.n→(KS i).eqv (p.s i).nmd)∧Hid (Below w5.heap.size w5 wx)∧Hid (w5.heap.size≤qb))
  case first=>
   refine region_tree (S:=fun w'=>w'.cell? ⟨w.heap.size,0,none⟩=some (.int .i64 p.ticks)∧w'.cell? ⟨w.heap.size,2,none⟩=some (.slice p.is.ao p.is.n p.is.c)∧w'.cell? ⟨w.heap.size,3,none⟩=some (.slice p.ss.ao p.ss.n p.ss.c)) _ (.take 0 (.take 1 (.take 2 (.take 3 (.take 5 (.take 6 (.two 4 (.two 7 (.take 8 (.act 9 (.act 10 .done))) 9 (.act 7 (.take 8 (.act 10 .done)))) 9 (.act 4 (.act 7 (.take 8 (.act 10 .done))))))))))) (by kernel_rfl) (by kernel_rfl) rfl (by kernel_rfl) (by kernel_rfl) (fun _ _ d _ _ h=>by cases d<;>exact h) (KG.out _ (bel_drew (Below.refl _ _))) ?_
   iterate 6
    refine WalkT.take (v:=?_) rfl (by rfl) ?_ ?_;rotate_left
    ·(intro w' hSw;(try dsimp only at hSw);go_simp<;>with_reducible rfl)
    try simp only[Act.put,List.setIfInBounds_toArray,List.set_cons_zero,List.set_cons_succ]
   refine⟨wpOp_of rfl (by rfl) (fun K hK=>?_),wpOp_of rfl (by rfl) (fun K hK=>?_)⟩
   ·go_simp
    go_at_call 14;refine(CI.out _ (by repeat (first|exact Below.refl _ _|exact X2|exact X1|refine bel_drew ?_|refine bel_alloc ?_ _))).mono ?_;rintro r wI ⟨⟨ia,iN,ic⟩,KI,rfl,xi,ei,ri,bI⟩;obtain rfl:iN=p.is.n:=ei;have X1:Below w5.heap.size w5 wI:=(by refine bel_trans ?_ bI;repeat (first|exact Below.refl _ _|exact X2|exact X1|refine bel_drew ?_|refine bel_alloc ?_ _));refine hK.out _ _ (KG.out _ X1) ?_;clear hK K
    try simp only
    refine⟨wpOp_of rfl (by rfl) (fun K hK=>?_),wpOp_of rfl (by rfl) (fun K hK=>?_)⟩
    ·go_simp
     go_at_call 14;refine(CS.out _ (by repeat (first|exact Below.refl _ _|exact X2|exact X1|refine bel_drew ?_|refine bel_alloc ?_ _))).mono ?_;rintro r wS ⟨⟨sa,sN,sc⟩,KS,rfl,xs,es,rs,bS⟩;obtain rfl:sN=p.ss.n:=es;have X2:Below w5.heap.size w5 wS:=(by refine bel_trans ?_ bS;repeat (first|exact Below.refl _ _|exact X1|refine bel_drew ?_|refine bel_alloc ?_ _));have xi2:=xi.bel bS;refine hK.out _ _ (KG.out _ X2) ?_;clear hK K
     try simp only
     iterate 1
      refine WalkT.take (v:=?_) rfl (by rfl) ?_ ?_;rotate_left
      ·(intro w' hSw;(try dsimp only at hSw);go_simp<;>with_reducible rfl)
      try simp only[Act.put,List.setIfInBounds_toArray,List.set_cons_zero,List.set_cons_succ]
     refine WalkT.act rfl (by rfl) (fun K hK=>?_);go_simp;refine hK.out _ _ (KG.out _ (by repeat (first|exact Below.refl _ _|exact X2|exact X1|refine bel_drew ?_|refine bel_alloc ?_ _))) ?_;clear hK K;try simp only[Act.put,List.setIfInBounds_toArray,List.set_cons_zero,List.set_cons_succ]
     refine WalkT.act rfl (by rfl) (fun K hK=>?_);refine st_prw p.ticks ⟨none,0,0⟩ ⟨ia,p.is.n,ic⟩ ⟨sa,p.ss.n,sc⟩ wS.heap.size _ (Blk.new wS 25 #[.int .i64 0,.slice none 0 0,.slice none 0 0,.slice none 0 0]) rfl _ _ rfl rfl rfl ?_;have X3:=below_setRow (bel_alloc X2 (.cells #[.int .i64 0,.slice none 0 0,.slice none 0 0,.slice none 0 0] 25)) X2.size (prvs p.ticks ⟨none,0,0⟩ ⟨ia,p.is.n,ic⟩ ⟨sa,p.ss.n,sc⟩).toArray;refine hK.out _ _ (KG.out _ X3) ?_;clear hK K;try simp only[Act.put]
     refine WalkT.done ?_;go_wp2_with fail;go_meet;exact⟨_,⟨ia,p.is.n,ic⟩,⟨sa,p.ss.n,sc⟩,KI,KS,rfl,(Blk.new wS 25 #[.int .i64 0,.slice none 0 0,.slice none 0 0,.slice none 0 0]).rowS _,⟨XB.dqf (((xi.dq2 (L:=w5.heap.size) (g:=wS.heap.size) (by simp) bS.size).bel bS).bel (bel_one wS (.cells #[.int .i64 0,.slice none 0 0,.slice none 0 0,.slice none 0 0] 25))) (fx_row (X:=On wS.heap.size) (Fx.refl _ _ _) (g:=wS.heap.size) (.inl rfl) _),XB.dqf (((xs.dq2 (L:=w5.heap.size) (g:=wS.heap.size) X1.size (Nat.le_refl _)).bel (bel_one wS (.cells #[.int .i64 0,.slice none 0 0,.slice none 0 0,.slice none 0 0] 25)))) (fx_row (X:=On wS.heap.size) (Fx.refl _ _ _) (g:=wS.heap.size) (.inl rfl) _)⟩,⟨rfl,rfl,ri,rs⟩,X3,X2.size⟩
    ·go_simp
     refine hK.out _ _ (KG.out _ (by repeat (first|exact Below.refl _ _|exact X2|exact X1|refine bel_drew ?_|refine bel_alloc ?_ _))) ?_;clear hK K;try simp only[Act.put,List.setIfInBounds_toArray,List.set_cons_zero,List.set_cons_succ]
     refine WalkT.act rfl (by rfl) (fun K hK=>?_);go_simp;go_at_call 14;refine(CS.out _ (by repeat (first|exact Below.refl _ _|exact X2|exact X1|refine bel_drew ?_|refine bel_alloc ?_ _))).mono ?_;rintro r wS ⟨⟨sa,sN,sc⟩,KS,rfl,xs,es,rs,bS⟩;obtain rfl:sN=p.ss.n:=es;have X2:Below w5.heap.size w5 wS:=(by refine bel_trans ?_ bS;repeat (first|exact Below.refl _ _|exact X1|refine bel_drew ?_|refine bel_alloc ?_ _));have Kq2:Blk wS wI.heap.size 25 #[.int .i64 0,.slice none 0 0,.slice none 0 0,.slice none 0 0]:=(Blk.new wI 25 #[.int .i64 0,.slice none 0 0,.slice none 0 0,.slice none 0 0]).below bS (Blk.new wI 25 #[.int .i64 0,.slice none 0 0,.slice none 0 0,.slice none 0 0]).lt;have xi2:=(xi.bel (bel_one wI (.cells #[.int .i64 0,.slice none 0 0,.slice none 0 0,.slice none 0 0] 25))).bel bS;refine hK.out _ _ (KG.out _ X2) ?_;clear hK K
     try simp only
     iterate 1
      refine WalkT.take (v:=?_) rfl (by rfl) ?_ ?_;rotate_left
      ·(intro w' hSw;(try dsimp only at hSw);go_simp<;>with_reducible rfl)
      try simp only[Act.put,List.setIfInBounds_toArray,List.set_cons_zero,List.set_cons_succ]
     refine WalkT.act rfl (by rfl) (fun K hK=>?_);refine st_prw p.ticks ⟨none,0,0⟩ ⟨ia,p.is.n,ic⟩ ⟨sa,p.ss.n,sc⟩ wI.heap.size _ Kq2 rfl _ _ rfl rfl rfl ?_;have X3:=below_setRow X2 X1.size (prvs p.ticks ⟨none,0,0⟩ ⟨ia,p.is.n,ic⟩ ⟨sa,p.ss.n,sc⟩).toArray;refine hK.out _ _ (KG.out _ X3) ?_;clear hK K;try simp only[Act.put]
     refine WalkT.done ?_;go_wp2_with fail;go_meet;exact⟨_,⟨ia,p.is.n,ic⟩,⟨sa,p.ss.n,sc⟩,KI,KS,rfl,Kq2.rowS _,⟨XB.dqf (((xi.dq2 (L:=w5.heap.size) (g:=wI.heap.size) (by simp) (Nat.le_refl _)).bel (bel_one wI (.cells #[.int .i64 0,.slice none 0 0,.slice none 0 0,.slice none 0 0] 25))).bel bS) (fx_row (X:=On wI.heap.size) (Fx.refl _ _ _) (g:=wI.heap.size) (.inl rfl) _),XB.dqf ((xs.dq1 (L:=w5.heap.size) (g:=wI.heap.size) (by rw[World.size_alloc];have:=X1.size;omega) (by rw[World.size_alloc];omega))) (fx_row (X:=On wI.heap.size) (Fx.refl _ _ _) (g:=wI.heap.size) (.inl rfl) _)⟩,⟨rfl,rfl,ri,rs⟩,X3,X1.size⟩
   ·go_simp
    refine hK.out _ _ (KG.out _ (by repeat (first|exact Below.refl _ _|exact X2|exact X1|refine bel_drew ?_|refine bel_alloc ?_ _))) ?_;clear hK K;try simp only[Act.put,List.setIfInBounds_toArray,List.set_cons_zero,List.set_cons_succ]
    refine WalkT.act rfl (by rfl) (fun K hK=>?_);go_simp;go_at_call 14;refine(CI.out _ (by repeat (first|exact Below.refl _ _|exact X2|exact X1|refine bel_drew ?_|refine bel_alloc ?_ _))).mono ?_;rintro r wI ⟨⟨ia,iN,ic⟩,KI,rfl,xi,ei,ri,bI⟩;obtain rfl:iN=p.is.n:=ei;have X1:Below w5.heap.size w5 wI:=(by refine bel_trans ?_ bI;repeat (first|exact Below.refl _ _|exact X2|exact X1|refine bel_drew ?_|refine bel_alloc ?_ _));have Kq:Blk wI w5.heap.size 25 #[.int .i64 0,.slice none 0 0,.slice none 0 0,.slice none 0 0]:=(Blk.drew (Blk.new w5 25 #[.int .i64 0,.slice none 0 0,.slice none 0 0,.slice none 0 0])).below bI (Blk.drew (Blk.new w5 25 #[.int .i64 0,.slice none 0 0,.slice none 0 0,.slice none 0 0])).lt;refine hK.out _ _ (KG.out _ X1) ?_;clear hK K
    try simp only
    refine WalkT.act rfl (by rfl) (fun K hK=>?_);go_simp;go_at_call 14;refine(CS.out _ (by repeat (first|exact Below.refl _ _|exact X2|exact X1|refine bel_drew ?_|refine bel_alloc ?_ _))).mono ?_;rintro r wS ⟨⟨sa,sN,sc⟩,KS,rfl,xs,es,rs,bS⟩;obtain rfl:sN=p.ss.n:=es;have X2:Below w5.heap.size w5 wS:=(by refine bel_trans ?_ bS;repeat (first|exact Below.refl _ _|exact X1|refine bel_drew ?_|refine bel_alloc ?_ _));have Kq2:=Kq.below bS Kq.lt;have xi2:=xi.bel bS;refine hK.out _ _ (KG.out _ X2) ?_;clear hK K
    try simp only
    iterate 1
     refine WalkT.take (v:=?_) rfl (by rfl) ?_ ?_;rotate_left
     ·(intro w' hSw;(try dsimp only at hSw);go_simp<;>with_reducible rfl)
     try simp only[Act.put,List.setIfInBounds_toArray,List.set_cons_zero,List.set_cons_succ]
    refine WalkT.act rfl (by rfl) (fun K hK=>?_);refine st_prw p.ticks ⟨none,0,0⟩ ⟨ia,p.is.n,ic⟩ ⟨sa,p.ss.n,sc⟩ w5.heap.size _ Kq2 rfl _ _ rfl rfl rfl ?_;have X3:=below_setRow X2 (Nat.le_refl _) (prvs p.ticks ⟨none,0,0⟩ ⟨ia,p.is.n,ic⟩ ⟨sa,p.ss.n,sc⟩).toArray;refine hK.out _ _ (KG.out _ X3) ?_;clear hK K;try simp only[Act.put]
    refine WalkT.done ?_;go_wp2_with fail;go_meet;exact⟨_,⟨ia,p.is.n,ic⟩,⟨sa,p.ss.n,sc⟩,KI,KS,rfl,Kq2.rowS _,⟨XB.dqf ((xi2.dq1 (L:=w5.heap.size) (g:=w5.heap.size) (by simp[World.size_alloc]) (by simp[World.size_alloc]))) (fx_row (X:=On w5.heap.size) (Fx.refl _ _ _) (g:=w5.heap.size) (.inl rfl) _),XB.dqf ((xs.dq1 (L:=w5.heap.size) (g:=w5.heap.size) X1.size (Nat.lt_of_lt_of_le Kq.lt (Nat.le_refl _)))) (fx_row (X:=On w5.heap.size) (Fx.refl _ _ _) (g:=w5.heap.size) (.inl rfl) _)⟩,⟨rfl,rfl,ri,rs⟩,X3,(Nat.le_refl _)⟩
  case rest=>
   obtain⟨qb,SI,SS,KI,KS,rfl,GQ,XX,RR,b6,HG⟩:=hcut;generalize wc=w6 at *;have B6:=Hj (bel_trans B5.out b6.out);have GP6:=Hj (keptO b6.out GP5.out);have HQB:Hid (w.heap.size<qb):=Nat.lt_of_lt_of_le LP5.out HG.out;have HND:Hid (p.ds.n≤1500):=by have h1:=de_rows p.d p.ds.n;have h2:=P1.out;unfold Pr.wt at h2;show _≤_;omega
   have HNM:Hid (∀i,i<p.ds.n→(p.d i).nm.length≤2000):=fun i hi=>by have h3:=sm_one (f:=fun i=>(p.d i).wt) hi;have e:(p.d i).wt=1+(p.d i).nm.length+(p.d i).lo.wt+(p.d i).hi.wt:=rfl;have h2:=P1.out;unfold Pr.wt at h2;omega
   have QL:=GQ.out.lt;clear b6 CI CS KG GP5 LP5 B5 HG;have ON:Hid (w6.ownsRow w6.heap.size 44 20 (.slice none 0 0) 0 (rowD (fun i=>usD (p.d i)) 0)):=World.ownsRow_nil w6 w6.heap.size 44 20;go_wp2_with fail
   go_loopg [5] p.ds.n (fun gk i wr=>∃(j cp:Nat) (AD:Option Addr),i=.int .i64 (j:Int)∧Hid (gk=p.ds.n-j∧j≤p.ds.n)∧Hid (Blk wr qb 25 (prvs p.ticks ⟨AD,j,cp⟩ SI SS).toArray)∧Hid (wr.ownsRow w6.heap.size 44 20 (.slice AD j cp) j (rowD (fun i=>usD (p.d i)) j))∧Hid (Fx (On qb) w6.heap.size w6 wr)∧Hid (∀i,i<j→isnV (p.d i).nm=true∧(p.d i).nm.length<32))
   case atStart=>exact⟨0,0,none,rfl,⟨rfl,Nat.zero_le _⟩,GQ.out,ON.out,Fx.refl _ _ _,fun i hi=>absurd hi (Nat.not_lt_zero i)⟩
   case round=>
    clear ON;obtain⟨j,cp,AD,rfl,HJ,GQJ,OJ,FJ,SJ⟩:=hrel;have BJ:=Hj (fx_bel_of B6.out FJ.out (fun k hk (x:k=qb)=>by have:=HQB.out;omega));have GPJ:=Hj ((FJ.out.block w.heap.size (Array.getElem?_eq_some_iff.1 GP6.out).1 (fun(x:w.heap.size=qb)=>by have:=HQB.out;omega)).trans GP6.out);obtain⟨-,a1, -, -⟩:=p_cells GPJ.out
    by_cases hlt:j<p.ds.n
    ·have z0:(j:Int)<(p.ds.n:Int):=by omega
     have ovi:IntKind.i64.wrap ((j:Int)+1)=((j+1:Nat):Int):=by have:=HND.out;rw[IntKind.wrap_i64];omega
     obtain⟨a,b,o,ha,hA,hb1,h4⟩:=(IP.out.below BJ.out (Nat.le_refl _)).2.1.2.1.at IP.out.2.1.1 hlt rfl;have RC:=Hj (show wr.rangeAt b o (dcvs (p.d j) (p.d j).lo.h (p.d j).hi.h)from h4);have BX:=Hj (bx_bel (Below.refl wr.heap.size wr) (Nat.le_refl _) (dO (p.d j) (p.d j).lo.h (p.d j).hi.h));have GD:=Hj (bx_new wr (dO (p.d j) (p.d j).lo.h (p.d j).hi.h));have HLT:=Hj hlt;have O1:=Hj (dcvs_one (p.d j) (p.d j).lo.h (p.d j).hi.h);rw[dO_eq]at BX GD;obtain⟨V1,hV1⟩:∃V,dcvs (p.d j) (p.d j).lo.h (p.d j).hi.h=V:=⟨_,rfl⟩;have HV1:=Hj hV1;have L1:=Hj (show(Tryz.prog.info? 44).map (·.size)=some V1.length∧V1.length=20 by rw[←hV1];exact⟨by kernel_rfl,rfl⟩);rw[hV1]at BX GD RC O1;rw[ha]at a1;clear hb1 hlt hV1 h4 ha
     go_upto_region 11 with(first
      | refine wpList_load_mid rfl 44 _ rfl b o rfl V1 _ RC.out Tryz.underlying44 rfl L1.out.1 ?_
      | refine store_bx rfl 44 _ _ rfl wr _ V1.toArray rfl rfl (by rw[List.size_toArray];exact L1.out.1) (by have h:V1.toArray.size=20:=(by rw[List.size_toArray];exact L1.out.2);rw[h];rfl) O1.out ?_)
     have KD:Hid (Blk (bx wr (.cells V1.toArray 44 (0,0))) wr.heap.size 44 (dcvs (p.d j) (p.d j).lo.h (p.d j).hi.h).toArray):=by show Blk _ _ _ _;rw[HV1.out];exact GD.out
     clear RC O1 a1 GD L1 HV1;generalize bx wr (.cells V1.toArray 44 (0,0))=wv at *;try simp only[Act.put]
     have KC:=Hj KD.out;have c2:wv.cell? ⟨wr.heap.size,2,none⟩=some (.string ⟨(p.d j).nm.toArray⟩):=KD.out.cell 2;have EN:Hid (Calls Tryz.prog 15 #[.string ⟨(p.d j).nm.toArray⟩] wv fun r w''=>r=.returned (.bool (isnV (p.d j).nm))∧Below wv.heap.size wv w''):=(xIsName_any ⟨(p.d j).nm.toArray⟩ wv (by rw[Lib.size_eq];exact Nat.le_trans (HNM.out j HLT.out) (by decide)) ((HE.out.below BJ.out).below BX.out));obtain⟨ok,hok⟩:∃ok,isnV (p.d j).nm=ok:=⟨_,rfl⟩;rw[hok]at EN;have HOK:=Hj hok;clear hok;go_wp2_with fail;refine EN.out.mono ?_;rintro x w7 ⟨rfl,b7⟩;have KD7:=Hj (KD.out.below b7 KD.out.lt);have BX7:=Hj (bel_trans BX.out b7);clear b7 EN KD BX KC c2 wv;have KD:=Hj KD7.out;have BX:=Hj BX7.out;clear KD7 BX7;generalize w7=wv at *;have hsz:=str_size' (p.d j).nm;have BF:=Hj (bel_trans BJ.out BX.out)
     cases ok with
     | false=>
      have c2:wv.cell? ⟨wr.heap.size,2,none⟩=some (.string ⟨(p.d j).nm.toArray⟩):=KD.out.cell 2;go_wp2_with fail;go_ret;exact⟨rfl,BF.out⟩
     | true=>
     by_cases hl:(p.d j).nm.length<32
     case neg=>
      have c2:wv.cell? ⟨wr.heap.size,2,none⟩=some (.string ⟨(p.d j).nm.toArray⟩):=KD.out.cell 2;have z5:(32:Int)≤(((p.d j).nm.length:Nat):Int):=by omega
      go_wp2_with fail;go_ret;exact⟨rfl,BF.out⟩
     case pos=>
     have m2:wv.cell? ⟨wr.heap.size,2,none⟩=some (.string ⟨(p.d j).nm.toArray⟩):=KD.out.cell 2;have f2:=KD.out.frozen 2;have q1:=KD.out.lt;have z5:¬(32:Int)≤(((p.d j).nm.length:Nat):Int):=by omega
     have SADD:=fun w=>sadd_us (show(p.d j).nm.length≤1000000 by omega) w
     have SJ1:Hid (∀i,i<j+1→isnV (p.d i).nm=true∧(p.d i).nm.length<32):=fun i hi=>by
      rcases Nat.lt_succ_iff_lt_or_eq.1 hi with h|rfl
      ·exact SJ.out i h
      ·exact⟨HOK.out,hl⟩
     clear hl BF HOK;go_upto_region 15 with fail;have KE:Hid (Blk (wv.setCell ⟨wr.heap.size,2,none⟩ (.string ⟨(us (p.d j).nm).toArray⟩)) wr.heap.size 44 (usD (p.d j)).vs.toArray):=(KD.out.set_ 2 (.string ⟨(us (p.d j).nm).toArray⟩));have BE:=Hj (bel_set BX.out (p:=⟨wr.heap.size,2,none⟩) (Nat.le_refl _) (.string ⟨(us (p.d j).nm).toArray⟩));clear m2 f2 q1 SADD z5 hsz KD BX;generalize (wv.setCell ⟨wr.heap.size,2,none⟩ (.string ⟨(us (p.d j).nm).toArray⟩))=we at *;have KQ:=Hj (GQJ.out.below BE.out GQJ.out.lt);have OE:=Hj (own_belowK OJ.out BE.out);have FE:=Hj (fx_bel FJ.out BE.out);have t1:we.cell? ⟨qb,1,none⟩=some (.slice AD j cp):=KQ.out.cell 1;have ONE:Hid (∀u∈(usD (p.d j)).vs,u.oneCell'=true):=(by show ∀u∈(usD (p.d j)).vs,u.oneCell'=true;simp[De.vs,dcvs,Value.oneCell']);have LN:Hid (j+1≤maxLen):=by show _≤_;have:=HND.out;have:=HLT.out;unfold maxLen;omega
     have LB:Hid ((j+1)*200≤140737488355328):=by show _≤_;have:=HND.out;have:=HLT.out;omega
     clear GQJ OJ FJ
     go_wp2_with (first
      | refine ld_de (usD (p.d j)) (usD (p.d j)).lo.h (usD (p.d j)).hi.h wr.heap.size KE.out rfl _ rfl rfl ?_
      | (refine bs_de (usD (p.d j)) rfl _ rfl rfl ?_;intro db w8 ZB BA;have NW:=new_one ZB.out)
      | (at_builtin;refine wpList_append_moved w8 rfl _ _ 22 rfl w6.heap.size 44 i0 _ 20 200 Tryz.underlying22 HI0.out.1 HI0.out.2.1 HI0.out.2.2.1 HI0.out.2.2.2 rfl (by decide) (.slice AD j cp) j _ rfl (own_belowK OE.out BA.out) ⟨db,0,none⟩ 1 1 (usD (p.d j)).vs rfl rfl NW ONE.out LN.out LB.out (fx_bel FE.out BA.out).size ?_;intro v9 w9 own9 gr9 mv9;obtain⟨D1,e1,rfl⟩:=own_form own9;have OWB:=own_belowK OE.out BA.out;have K9:=app_blk gr9 OWB (KQ.out.below BA.out KQ.out.lt) QL;have m9:w9.cell? ⟨qb,1,none⟩=some (.slice AD j cp):=K9.cell 1;have f9:=K9.frozen 1;have q9:=K9.lt))
     have R1:Hid (Blk (w9.setCell ⟨qb,1,none⟩ (.slice D1 (j+1) e1)) qb 25 (prvs p.ticks ⟨D1,j+1,e1⟩ SI SS).toArray):=K9.set_ 1 (.slice D1 (j+1) e1);have R2:=Hj (ownsRow_setCell_below own9 (a:=⟨qb,1,none⟩) QL (.slice D1 (j+1) e1));have R3:=Hj ((app_fx gr9 OWB (fx_bel FE.out BA.out)).set (p:=⟨qb,1,none⟩) (.inl rfl) (.slice D1 (j+1) e1));clear own9 gr9 mv9 OWB K9 m9 f9 q9 BA ZB NW KE KQ OE FE t1 BE;go_wp2_with fail
     go_roundg (p.ds.n-(j+1))
     case measure=>have:=HJ.out;have:=HLT.out;omega
     case rel=>exact⟨j+1,e1,D1,by go_num,⟨rfl,HLT.out⟩,R1.out,R2.out,R3.out,SJ1.out⟩
    ·obtain rfl:j=p.ds.n:=by have:=HJ.out;omega
     have z0:¬(p.ds.n:Int)<(p.ds.n:Int):=by omega
     have IPJ:=Hj ((IP.out.below BJ.out (Nat.le_refl _)).up12 BJ.out.size)
     have IQ:Hid ((⟨p.ticks,⟨AD,p.ds.n,cp⟩,(fun i=>usD (p.d i)),SI,KI,SS,KS⟩:Pr).In wr.heap.size wr):=by
      obtain⟨S,hS,hSn,hx⟩:=own_dd OJ.out (fun i hi=>usD_in (Nat.le_trans (HNM.out i hi) (by decide)) (IPJ.out.2.1.2.2 i hi));obtain⟨Sa,Sn,Sc⟩:=S;unfold Sl.val at hS;injection hS with h1 h2 h3;subst h1 h2 h3;exact⟨IPJ.out.1,hx,(XX.out.1.dqf FJ.out).out12,(XX.out.2.dqf FJ.out).out12⟩
     have WQ:Hid ((⟨p.ticks,⟨AD,p.ds.n,cp⟩,(fun i=>usD (p.d i)),SI,KI,SS,KS⟩:Pr).wt≤1000000):=by have h1:=renames_wt (p:=p) (S:=⟨AD,p.ds.n,cp⟩) rfl RR.out.1 RR.out.2.1 RR.out.2.2.1 RR.out.2.2.2;have h2:=P1.out;show _≤_;omega
     have RS:=Hj fun pi ps=>renames_say (p:=p) (S:=⟨AD,p.ds.n,cp⟩) rfl RR.out.1 RR.out.2.1 SJ.out RR.out.2.2.1 RR.out.2.2.2 pi ps;have PI:=Hj (plain12_any w.heap.size p.is p.i (by have h2:=P1.out;unfold Pr.wt at h2;omega) wr (IP.out.below BJ.out (Nat.le_refl _)).2.2.1 BJ.out.size (HE.out.below BJ.out));have PS:=Hj fun w' (hb:Below wr.heap.size wr w')=>plain12_any w.heap.size p.ss p.s (by have h2:=P1.out;unfold Pr.wt at h2;omega) w' (IP.out.below (bel_trans BJ.out hb) (Nat.le_refl _)).2.2.2 (Nat.le_trans BJ.out.size hb.size) (HE.out.below (bel_trans BJ.out hb));obtain⟨a0,a1',a2,a3⟩:=p_cells GPJ.out;go_wp2_with fail;refine PI.out.mono ?_;rintro x w7 ⟨bi,rfl,hi,b7⟩;have HPI:=Hj hi;have B7:=Hj b7;have BB7:=Hj (bel_trans BJ.out b7);clear hi b7 PI a0 a1' a2 a3 a1
     cases bi with
     | false=>
      go_wp2_with fail;go_ret;exact⟨rfl,BB7.out⟩
     | true=>
     obtain⟨a0,a1,a2,a3⟩:=p_cells (keptO B7.out GPJ.out);go_wp2_with fail;refine(PS.out w7 B7.out).mono ?_;rintro x w8 ⟨bs,rfl,hs,b8⟩;have HPS:=Hj hs;have B8:=Hj (bel_trans B7.out b8);have BB8:=Hj (bel_trans BB7.out b8);clear hs b8 PS a0 a1 a2 a3 B7 BB7
     cases bs with
     | false=>
      go_wp2_with fail;go_ret;exact⟨rfl,BB8.out⟩
     | true=>
     have RE:=Hj (RS.out (HPI.out rfl) (HPS.out rfl));have GPJ8:=Hj (keptO B8.out GPJ.out);have GQJ8:=Hj (GQJ.out.below B8.out GQJ.out.lt);have IPJ8:=Hj ((IPJ.out.below B8.out (Nat.le_refl _)).up12 B8.out.size);have IQ8:=Hj ((IQ.out.below B8.out (Nat.le_refl _)).up12 B8.out.size);clear GPJ GQJ IPJ IQ RS HPI HPS B8 BJ FJ OJ;have GPJ:=Hj GPJ8.out;have GQJ:=Hj GQJ8.out;have IPJ:=Hj IPJ8.out;have IQ:=Hj IQ8.out;have BJ:=Hj BB8.out;clear GPJ8 GQJ8 IPJ8 IQ8 BB8;generalize w8=wr8 at *;obtain⟨a0,a1'',a2,a3⟩:=p_cells GPJ.out;have CC:=Hj (ccCheck_any p wr8 (HE.out.below BJ.out) IPJ.out (Nat.le_trans P1.out (by decide)));have CQ:=Hj fun w' (hb:Below wr8.heap.size wr8 w')=>ccCheck_any (⟨p.ticks,⟨AD,p.ds.n,cp⟩,(fun i=>usD (p.d i)),SI,KI,SS,KS⟩:Pr) w' ((HE.out.below BJ.out).below hb) ((IQ.out.below hb (Nat.le_refl _)).up12 hb.size) WQ.out;clear hlt WQ XX RR;go_wp2_with fail;refine CC.out.mono ?_;rintro x wA ⟨rfl,bA⟩;have BA:=Hj bA;have BBA:=Hj (bel_trans BJ.out bA);have GQA:=Hj (GQJ.out.below bA GQJ.out.lt);have GPA:=Hj (keptO bA GPJ.out);have CQA:=Hj (CQ.out wA bA);clear bA CC CQ a0 a1'' a2 a3 GQJ GPJ;have q0:wA.cell? ⟨qb,0,none⟩=some (.int .i64 p.ticks):=GQA.out.cell 0
     have q1:wA.cell? ⟨qb,1,none⟩=some (.slice AD p.ds.n cp):=GQA.out.cell 1;have q2:wA.cell? ⟨qb,2,none⟩=some (.slice SI.ao SI.n SI.c):=GQA.out.cell 2;have q3:wA.cell? ⟨qb,3,none⟩=some (.slice SS.ao SS.n SS.c):=GQA.out.cell 3;unfold Pr.v at CQA;dsimp only at CQA;go_wp2_with fail;refine CQA.out.mono ?_;rintro x wB ⟨rfl,bB⟩;have BF:=Hj (bel_trans BBA.out bB);have GPB:=Hj (keptO bB GPA.out);clear bB CQA q0 q1 q2 q3 GQA GPA;rw[RE.out];generalize (p.ck isnV raN).er=ze at *;generalize (p.ck isnV raN).pl=zp at *;clear RE;go_wp2_with fail;go_ret;exact⟨by simp,BF.out⟩
theorem lrenames_card (p:Pr)(w:World)(hp:p.In w.heap.size w)(hE:Env9 w):Calls Tryz.prog 6 #[p.v] w fun x w'=>x=.returned (.bool true)∧Below w.heap.size w w':=lrenames_walk p w hp hE
end Go.Proofs.YtkbicfffokegeaaGreatDoor
