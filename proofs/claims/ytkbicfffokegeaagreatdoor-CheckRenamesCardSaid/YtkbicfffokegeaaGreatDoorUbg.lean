/-
  Layer 12's checks answer true, whatever program is handed in. (part 33 of 35) Conditions: none beside what the card ties.
-/
import Derived.Deep.DeepCutAuto
import Derived.Test.YtkbicfffokegeaaGreatDoorUbf
import Derived.Test.YtkbicfffokegeaaGreatDoorUai
import Derived.Test.YtkbicfffokegeaaGreatDoorUak
import Derived.ProofKit
import Derived.OpenShut
import Derived.ChangeOld
import Derived.LaidMore
import Derived.Stop.Joined
import Derived.Lib.SmallJoins
import Derived.Test.YtkbicfffokegeaaGreatDoorUah
import Derived.Deep.Slices
import Derived.Deep.Fields
import Derived.ChangeSame
import Derived.Lay
import Derived.HandedShaped
import Derived.LaidLaws
import Derived.Shelf.Vars
import Derived.Test.YtkbicfffokegeaaGreatDoorUao
import Derived.Test.YtkbicfffokegeaaGreatDoorUad
import Derived.Test.YtkbicfffokegeaaGreatDoorUbe
namespace Go.Proofs.YtkbicfffokegeaaGreatDoor
set_option maxHeartbeats 16000000
open Go.RowKit Go.Maps
set_option maxRecDepth 100000
theorem lplaces_walk (p:Pr)(y:Int)(w:World)(hp:p.In w.heap.size w)(hy:-9223372036854775808≤y∧y≤9223372036854775807)(hE:Env9 w) :
  Calls Tryz.prog 4 #[p.v,.int .i64 y] w fun x w'=>x=.returned (.bool true)∧Below w.heap.size w w':=by
 have IP:=Hj hp;have HE:=Hj hE;have HY:=Hj hy;have B0:Hid (Below w.heap.size w (bx w (pO p))):=bx_bel (Below.refl _ _) (Nat.le_refl _) _;have GP:Hid ((bx w (pO p)).heap[w.heap.size]? = some (pO p)):=bx_new w (pO p);have CW:=Hj fun(w':World) hI hB=>gWeigh_any p w.heap.size 1500 w' hI hB (by decide);obtain⟨i0,hi,hz0,hz1,hz2⟩:=info_parts decl_info;have HI0:=Hj (And.intro hi (And.intro hz0 (And.intro hz1 hz2)));clear hp hE hi hz0 hz1 hz2 hy;show Calls Tryz.prog 4 #[.agg #[.int .i64 p.ticks,.slice p.ds.ao p.ds.n p.ds.c,.slice p.is.ao p.is.n p.is.c,.slice p.ss.ao p.ss.n p.ss.c],.int .i64 y] w _;go_enter Tryz.func4,Tryz.ntmps4;go_upto_region 1 with fail;rw[bx_p];generalize bx w (pO p)=W at *;have WK:=Hj (works12_any W (HE.out.below B0.out));go_wp2_with fail;refine WK.out.mono ?_;rintro x w1 ⟨rfl,b1⟩;have B1:=Hj (bel_trans B0.out b1);have GP1:=Hj (keptO b1 GP.out);obtain⟨a0,a1,a2,a3⟩:=p_cells GP1.out;clear b1 GP B0 WK;go_wp2_with fail;refine(CW.out _ (IP.out.below B1.out (Nat.le_refl _)) B1.out.size).mono ?_;rintro x w5 ⟨⟨n1,rfl,s1⟩,b2⟩;have B5:=Hj (bel_trans B1.out b2);have GP5:=Hj (keptO b2 GP1.out);have S1:=Hj s1;clear b2 GP1 B1 s1 CW a0 a1 a2 a3
 by_cases h1:n1≤1500
 case neg=>
  have z1:(1500:Int)<(n1:Int):=by omega
  go_wp2_with fail;go_ret;exact⟨rfl,B5.out⟩
 case pos=>
  have z1:¬(1500:Int)<(n1:Int):=by omega
  have P1:=Hj (S1.out.small12 h1);clear h1 S1;have LP5:Hid (w.heap.size<w5.heap.size):=(Array.getElem?_eq_some_iff.1 GP5.out).1;have WI:Hid (sm (fun i=>(p.i i).wt) p.is.n≤100000):=by have h2:=P1.out;unfold Pr.wt at h2;show _≤_;omega
  have WS:Hid (sm (fun i=>(p.s i).wt) p.ss.n≤100000):=by have h2:=P1.out;unfold Pr.wt at h2;show _≤_;omega
  have CI:=Hj fun w' (hb:Below w5.heap.size w5 w')=>block_any y HY.out.1 HY.out.2 w.heap.size p.is p.i WI.out w' (IP.out.below (B5.out.trans (hb.mono B5.out.size)) (Nat.le_refl _)).2.2.1 (Nat.le_trans B5.out.size hb.size);have CS:=Hj fun w' (hb:Below w5.heap.size w5 w')=>block_any y HY.out.1 HY.out.2 w.heap.size p.ss p.s WS.out w' (IP.out.below (B5.out.trans (hb.mono B5.out.size)) (Nat.le_refl _)).2.2.2 (Nat.le_trans B5.out.size hb.size)
  have KG:Hid (∀w',Below w5.heap.size w5 w'→(w'.cell? ⟨w.heap.size,0,none⟩=some (.int .i64 p.ticks)∧w'.cell? ⟨w.heap.size,2,none⟩=some (.slice p.is.ao p.is.n p.is.c)∧w'.cell? ⟨w.heap.size,3,none⟩=some (.slice p.ss.ao p.ss.n p.ss.c))):=fun w' hb=>by
   obtain⟨q0, -,q2,q3⟩:=p_cells (keptO hb GP5.out);exact⟨q0,q2,q3⟩
  clear WI WS;go_upto_region 6 with fail
  go_cut [6] (fun v wx=>∃(qb:Nat) (SI SS:Sl) (KI KS:Nat→St),v=.pointer (some ⟨qb,0,none⟩)∧Hid (Blk wx qb 25 (prvs p.ticks ⟨none,0,0⟩ SI SS).toArray)∧Hid (XB (Dq qb w5.heap.size) SI KI wx∧XB (Dq qb w5.heap.size) SS KS wx)∧Hid (SI.n=p.is.n∧SS.n=p.ss.n∧(∀i,i<p.is.n→(p.i i).same (KI i)=true∧(KI i).allp y)∧∀i,i<p.ss.n→(p.s i).same (KS i)=true∧(KS i).allp y)∧Hid (Below w5.heap.size w5 wx)∧Hid (w5.heap.size≤qb))
  case first=>
   refine region_tree (S:=fun w'=>w'.cell? ⟨w.heap.size,0,none⟩=some (.int .i64 p.ticks)∧w'.cell? ⟨w.heap.size,2,none⟩=some (.slice p.is.ao p.is.n p.is.c)∧w'.cell? ⟨w.heap.size,3,none⟩=some (.slice p.ss.ao p.ss.n p.ss.c)) _ (.take 0 (.take 1 (.take 2 (.take 3 (.take 4 (.take 6 (.take 7 (.take 8 (.two 5 (.two 9 (.take 10 (.act 11 (.act 12 .done))) 11 (.act 9 (.take 10 (.act 12 .done)))) 11 (.act 5 (.act 9 (.take 10 (.act 12 .done))))))))))))) (by kernel_rfl) (by kernel_rfl) rfl (by kernel_rfl) (by kernel_rfl) (fun _ _ d _ _ h=>by cases d<;>exact h) (KG.out _ (bel_drew (Below.refl _ _))) ?_
   iterate 8
    refine WalkT.take (v:=?_) rfl (by rfl) ?_ ?_;rotate_left
    ·(intro w' hSw;(try dsimp only at hSw);go_simp<;>with_reducible rfl)
    try simp only[Act.put,List.setIfInBounds_toArray,List.set_cons_zero,List.set_cons_succ]
   refine⟨wpOp_of rfl (by rfl) (fun K hK=>?_),wpOp_of rfl (by rfl) (fun K hK=>?_)⟩
   ·go_simp
    go_at_call 11;refine(CI.out _ (by repeat (first|exact Below.refl _ _|exact X2|exact X1|refine bel_drew ?_|refine bel_alloc ?_ _))).mono ?_;rintro r wI ⟨⟨ia,iN,ic⟩,KI,rfl,xi,ei,ri,bI⟩;obtain rfl:iN=p.is.n:=ei;have X1:Below w5.heap.size w5 wI:=(by refine bel_trans ?_ bI;repeat (first|exact Below.refl _ _|exact X2|exact X1|refine bel_drew ?_|refine bel_alloc ?_ _));refine hK.out _ _ (KG.out _ X1) ?_;clear hK K
    try simp only
    refine⟨wpOp_of rfl (by rfl) (fun K hK=>?_),wpOp_of rfl (by rfl) (fun K hK=>?_)⟩
    ·go_simp
     go_at_call 11;refine(CS.out _ (by repeat (first|exact Below.refl _ _|exact X2|exact X1|refine bel_drew ?_|refine bel_alloc ?_ _))).mono ?_;rintro r wS ⟨⟨sa,sN,sc⟩,KS,rfl,xs,es,rs,bS⟩;obtain rfl:sN=p.ss.n:=es;have X2:Below w5.heap.size w5 wS:=(by refine bel_trans ?_ bS;repeat (first|exact Below.refl _ _|exact X1|refine bel_drew ?_|refine bel_alloc ?_ _));have xi2:=xi.bel bS;refine hK.out _ _ (KG.out _ X2) ?_;clear hK K
     try simp only
     iterate 1
      refine WalkT.take (v:=?_) rfl (by rfl) ?_ ?_;rotate_left
      ·(intro w' hSw;(try dsimp only at hSw);go_simp<;>with_reducible rfl)
      try simp only[Act.put,List.setIfInBounds_toArray,List.set_cons_zero,List.set_cons_succ]
     refine WalkT.act rfl (by rfl) (fun K hK=>?_);go_simp;refine hK.out _ _ (KG.out _ (by repeat (first|exact Below.refl _ _|exact X2|exact X1|refine bel_drew ?_|refine bel_alloc ?_ _))) ?_;clear hK K;try simp only[Act.put,List.setIfInBounds_toArray,List.set_cons_zero,List.set_cons_succ]
     refine WalkT.act rfl (by rfl) (fun K hK=>?_);refine st_prw p.ticks ⟨none,0,0⟩ ⟨ia,p.is.n,ic⟩ ⟨sa,p.ss.n,sc⟩ wS.heap.size _ (Blk.new wS 25 #[.int .i64 0,.slice none 0 0,.slice none 0 0,.slice none 0 0]) rfl _ _ rfl rfl rfl ?_;have X3:=below_setRow (bel_alloc X2 (.cells #[.int .i64 0,.slice none 0 0,.slice none 0 0,.slice none 0 0] 25)) X2.size (prvs p.ticks ⟨none,0,0⟩ ⟨ia,p.is.n,ic⟩ ⟨sa,p.ss.n,sc⟩).toArray;refine hK.out _ _ (KG.out _ X3) ?_;clear hK K;try simp only[Act.put]
     refine WalkT.done ?_;go_wp2_with fail;go_meet;exact⟨_,⟨ia,p.is.n,ic⟩,⟨sa,p.ss.n,sc⟩,KI,KS,rfl,(Blk.new wS 25 #[.int .i64 0,.slice none 0 0,.slice none 0 0,.slice none 0 0]).rowS _,⟨XB.dqf (((xi.dq2 (L:=w5.heap.size) (g:=wS.heap.size) (by simp) bS.size).bel bS).bel (bel_one wS (.cells #[.int .i64 0,.slice none 0 0,.slice none 0 0,.slice none 0 0] 25))) (fx_row (X:=On wS.heap.size) (Fx.refl _ _ _) (g:=wS.heap.size) (.inl rfl) _),XB.dqf (((xs.dq2 (L:=w5.heap.size) (g:=wS.heap.size) X1.size (Nat.le_refl _)).bel (bel_one wS (.cells #[.int .i64 0,.slice none 0 0,.slice none 0 0,.slice none 0 0] 25)))) (fx_row (X:=On wS.heap.size) (Fx.refl _ _ _) (g:=wS.heap.size) (.inl rfl) _)⟩,⟨rfl,rfl,ri,rs⟩,X3,X2.size⟩
    ·go_simp
     refine hK.out _ _ (KG.out _ (by repeat (first|exact Below.refl _ _|exact X2|exact X1|refine bel_drew ?_|refine bel_alloc ?_ _))) ?_;clear hK K;try simp only[Act.put,List.setIfInBounds_toArray,List.set_cons_zero,List.set_cons_succ]
     refine WalkT.act rfl (by rfl) (fun K hK=>?_);go_simp;go_at_call 11;refine(CS.out _ (by repeat (first|exact Below.refl _ _|exact X2|exact X1|refine bel_drew ?_|refine bel_alloc ?_ _))).mono ?_;rintro r wS ⟨⟨sa,sN,sc⟩,KS,rfl,xs,es,rs,bS⟩;obtain rfl:sN=p.ss.n:=es;have X2:Below w5.heap.size w5 wS:=(by refine bel_trans ?_ bS;repeat (first|exact Below.refl _ _|exact X1|refine bel_drew ?_|refine bel_alloc ?_ _));have Kq2:Blk wS wI.heap.size 25 #[.int .i64 0,.slice none 0 0,.slice none 0 0,.slice none 0 0]:=(Blk.new wI 25 #[.int .i64 0,.slice none 0 0,.slice none 0 0,.slice none 0 0]).below bS (Blk.new wI 25 #[.int .i64 0,.slice none 0 0,.slice none 0 0,.slice none 0 0]).lt;have xi2:=(xi.bel (bel_one wI (.cells #[.int .i64 0,.slice none 0 0,.slice none 0 0,.slice none 0 0] 25))).bel bS;refine hK.out _ _ (KG.out _ X2) ?_;clear hK K
     try simp only
     iterate 1
      refine WalkT.take (v:=?_) rfl (by rfl) ?_ ?_;rotate_left
      ·(intro w' hSw;(try dsimp only at hSw);go_simp<;>with_reducible rfl)
      try simp only[Act.put,List.setIfInBounds_toArray,List.set_cons_zero,List.set_cons_succ]
     refine WalkT.act rfl (by rfl) (fun K hK=>?_);refine st_prw p.ticks ⟨none,0,0⟩ ⟨ia,p.is.n,ic⟩ ⟨sa,p.ss.n,sc⟩ wI.heap.size _ Kq2 rfl _ _ rfl rfl rfl ?_;have X3:=below_setRow X2 X1.size (prvs p.ticks ⟨none,0,0⟩ ⟨ia,p.is.n,ic⟩ ⟨sa,p.ss.n,sc⟩).toArray;refine hK.out _ _ (KG.out _ X3) ?_;clear hK K;try simp only[Act.put]
     refine WalkT.done ?_;go_wp2_with fail;go_meet;exact⟨_,⟨ia,p.is.n,ic⟩,⟨sa,p.ss.n,sc⟩,KI,KS,rfl,Kq2.rowS _,⟨XB.dqf (((xi.dq2 (L:=w5.heap.size) (g:=wI.heap.size) (by simp) (Nat.le_refl _)).bel (bel_one wI (.cells #[.int .i64 0,.slice none 0 0,.slice none 0 0,.slice none 0 0] 25))).bel bS) (fx_row (X:=On wI.heap.size) (Fx.refl _ _ _) (g:=wI.heap.size) (.inl rfl) _),XB.dqf ((xs.dq1 (L:=w5.heap.size) (g:=wI.heap.size) (by rw[World.size_alloc];have:=X1.size;omega) (by rw[World.size_alloc];omega))) (fx_row (X:=On wI.heap.size) (Fx.refl _ _ _) (g:=wI.heap.size) (.inl rfl) _)⟩,⟨rfl,rfl,ri,rs⟩,X3,X1.size⟩
   ·go_simp
    refine hK.out _ _ (KG.out _ (by repeat (first|exact Below.refl _ _|exact X2|exact X1|refine bel_drew ?_|refine bel_alloc ?_ _))) ?_;clear hK K;try simp only[Act.put,List.setIfInBounds_toArray,List.set_cons_zero,List.set_cons_succ]
    refine WalkT.act rfl (by rfl) (fun K hK=>?_);go_simp;go_at_call 11;refine(CI.out _ (by repeat (first|exact Below.refl _ _|exact X2|exact X1|refine bel_drew ?_|refine bel_alloc ?_ _))).mono ?_;rintro r wI ⟨⟨ia,iN,ic⟩,KI,rfl,xi,ei,ri,bI⟩;obtain rfl:iN=p.is.n:=ei;have X1:Below w5.heap.size w5 wI:=(by refine bel_trans ?_ bI;repeat (first|exact Below.refl _ _|exact X2|exact X1|refine bel_drew ?_|refine bel_alloc ?_ _));have Kq:Blk wI w5.heap.size 25 #[.int .i64 0,.slice none 0 0,.slice none 0 0,.slice none 0 0]:=(Blk.drew (Blk.new w5 25 #[.int .i64 0,.slice none 0 0,.slice none 0 0,.slice none 0 0])).below bI (Blk.drew (Blk.new w5 25 #[.int .i64 0,.slice none 0 0,.slice none 0 0,.slice none 0 0])).lt;refine hK.out _ _ (KG.out _ X1) ?_;clear hK K
    try simp only
    refine WalkT.act rfl (by rfl) (fun K hK=>?_);go_simp;go_at_call 11;refine(CS.out _ (by repeat (first|exact Below.refl _ _|exact X2|exact X1|refine bel_drew ?_|refine bel_alloc ?_ _))).mono ?_;rintro r wS ⟨⟨sa,sN,sc⟩,KS,rfl,xs,es,rs,bS⟩;obtain rfl:sN=p.ss.n:=es;have X2:Below w5.heap.size w5 wS:=(by refine bel_trans ?_ bS;repeat (first|exact Below.refl _ _|exact X1|refine bel_drew ?_|refine bel_alloc ?_ _));have Kq2:=Kq.below bS Kq.lt;have xi2:=xi.bel bS;refine hK.out _ _ (KG.out _ X2) ?_;clear hK K
    try simp only
    iterate 1
     refine WalkT.take (v:=?_) rfl (by rfl) ?_ ?_;rotate_left
     ·(intro w' hSw;(try dsimp only at hSw);go_simp<;>with_reducible rfl)
     try simp only[Act.put,List.setIfInBounds_toArray,List.set_cons_zero,List.set_cons_succ]
    refine WalkT.act rfl (by rfl) (fun K hK=>?_);refine st_prw p.ticks ⟨none,0,0⟩ ⟨ia,p.is.n,ic⟩ ⟨sa,p.ss.n,sc⟩ w5.heap.size _ Kq2 rfl _ _ rfl rfl rfl ?_;have X3:=below_setRow X2 (Nat.le_refl _) (prvs p.ticks ⟨none,0,0⟩ ⟨ia,p.is.n,ic⟩ ⟨sa,p.ss.n,sc⟩).toArray;refine hK.out _ _ (KG.out _ X3) ?_;clear hK K;try simp only[Act.put]
    refine WalkT.done ?_;go_wp2_with fail;go_meet;exact⟨_,⟨ia,p.is.n,ic⟩,⟨sa,p.ss.n,sc⟩,KI,KS,rfl,Kq2.rowS _,⟨XB.dqf ((xi2.dq1 (L:=w5.heap.size) (g:=w5.heap.size) (by simp[World.size_alloc]) (by simp[World.size_alloc]))) (fx_row (X:=On w5.heap.size) (Fx.refl _ _ _) (g:=w5.heap.size) (.inl rfl) _),XB.dqf ((xs.dq1 (L:=w5.heap.size) (g:=w5.heap.size) X1.size (Nat.lt_of_lt_of_le Kq.lt (Nat.le_refl _)))) (fx_row (X:=On w5.heap.size) (Fx.refl _ _ _) (g:=w5.heap.size) (.inl rfl) _)⟩,⟨rfl,rfl,ri,rs⟩,X3,(Nat.le_refl _)⟩
  case rest=>
   obtain⟨qb,SI,SS,KI,KS,rfl,GQ,XX,RR,b6,HG⟩:=hcut;generalize wc=w6 at *;have B6:=Hj (bel_trans B5.out b6.out);have GP6:=Hj (keptO b6.out GP5.out);have HQB:Hid (w.heap.size<qb):=Nat.lt_of_lt_of_le LP5.out HG.out;have HND:Hid (p.ds.n≤1500):=by have h1:=de_rows p.d p.ds.n;have h2:=P1.out;unfold Pr.wt at h2;show _≤_;omega
   have HNM:Hid (∀i,i<p.ds.n→(p.d i).nm.length≤2000):=fun i hi=>by have h3:=sm_one (f:=fun i=>(p.d i).wt) hi;have e:(p.d i).wt=1+(p.d i).nm.length+(p.d i).lo.wt+(p.d i).hi.wt:=rfl;have h2:=P1.out;unfold Pr.wt at h2;omega
   have QL:=GQ.out.lt;clear b6 CI CS KG GP5 LP5 B5 HG;have ON:Hid (w6.ownsRow w6.heap.size 44 20 (.slice none 0 0) 0 (rowD (fun i=>mvD y (p.d i)) 0)):=World.ownsRow_nil w6 w6.heap.size 44 20;go_wp2_with fail
   go_loopg [7] p.ds.n (fun gk i wr=>∃(j cp:Nat) (AD:Option Addr),i=.int .i64 (j:Int)∧Hid (gk=p.ds.n-j∧j≤p.ds.n)∧Hid (Blk wr qb 25 (prvs p.ticks ⟨AD,j,cp⟩ SI SS).toArray)∧Hid (wr.ownsRow w6.heap.size 44 20 (.slice AD j cp) j (rowD (fun i=>mvD y (p.d i)) j))∧Hid (Fx (On qb) w6.heap.size w6 wr))
   case atStart=>exact⟨0,0,none,rfl,⟨rfl,Nat.zero_le _⟩,GQ.out,ON.out,Fx.refl _ _ _⟩
   case round=>
    clear ON;obtain⟨j,cp,AD,rfl,HJ,GQJ,OJ,FJ⟩:=hrel;have BJ:=Hj (fx_bel_of B6.out FJ.out (fun k hk (x:k=qb)=>by have:=HQB.out;omega));have GPJ:=Hj ((FJ.out.block w.heap.size (Array.getElem?_eq_some_iff.1 GP6.out).1 (fun(x:w.heap.size=qb)=>by have:=HQB.out;omega)).trans GP6.out);obtain⟨-,a1, -, -⟩:=p_cells GPJ.out
    by_cases hlt:j<p.ds.n
    ·have z0:(j:Int)<(p.ds.n:Int):=by omega
     have ovi:IntKind.i64.wrap ((j:Int)+1)=((j+1:Nat):Int):=by have:=HND.out;rw[IntKind.wrap_i64];omega
     obtain⟨a,b,o,ha,hA,hb1,h4⟩:=(IP.out.below BJ.out (Nat.le_refl _)).2.1.2.1.at IP.out.2.1.1 hlt rfl;have RC:=Hj (show wr.rangeAt b o (dcvs (p.d j) (p.d j).lo.h (p.d j).hi.h)from h4);have BX:=Hj (bx_bel (Below.refl wr.heap.size wr) (Nat.le_refl _) (dO (p.d j) (p.d j).lo.h (p.d j).hi.h));have GD:=Hj (bx_new wr (dO (p.d j) (p.d j).lo.h (p.d j).hi.h));have HLT:=Hj hlt;have O1:=Hj (dcvs_one (p.d j) (p.d j).lo.h (p.d j).hi.h);rw[dO_eq]at BX GD;obtain⟨V1,hV1⟩:∃V,dcvs (p.d j) (p.d j).lo.h (p.d j).hi.h=V:=⟨_,rfl⟩;have HV1:=Hj hV1;have L1:=Hj (show(Tryz.prog.info? 44).map (·.size)=some V1.length∧V1.length=20 by rw[←hV1];exact⟨by kernel_rfl,rfl⟩);rw[hV1]at BX GD RC O1;rw[ha]at a1;clear hb1 hlt hV1 h4 ha
     go_upto_region 11 with(first
      | refine wpList_load_mid rfl 44 _ rfl b o rfl V1 _ RC.out Tryz.underlying44 rfl L1.out.1 ?_
      | refine store_bx rfl 44 _ _ rfl wr _ V1.toArray rfl rfl (by rw[List.size_toArray];exact L1.out.1) (by have h:V1.toArray.size=20:=(by rw[List.size_toArray];exact L1.out.2);rw[h];rfl) O1.out ?_)
     have KD:Hid (Blk (bx wr (.cells V1.toArray 44 (0,0))) wr.heap.size 44 (dcvs (p.d j) (p.d j).lo.h (p.d j).hi.h).toArray):=by show Blk _ _ _ _;rw[HV1.out];exact GD.out
     clear RC O1 a1 GD L1 HV1;generalize bx wr (.cells V1.toArray 44 (0,0))=wv at *;try simp only[Act.put]
     have m0:wv.cell? ⟨wr.heap.size,0,none⟩=some (.int .i64 (p.d j).ps):=KD.out.cell 0;have f0:=KD.out.frozen 0;have m7:wv.cell? ⟨wr.heap.size,7,none⟩=some (.int .i64 (p.d j).lo.h.ps):=KD.out.cell 7;have f7:=KD.out.frozen 7;have m14:wv.cell? ⟨wr.heap.size,14,none⟩=some (.int .i64 (p.d j).hi.h.ps):=KD.out.cell 14;have f14:=KD.out.frozen 14;have q1:=KD.out.lt;go_upto_region 14 with fail;have KE:Hid (Blk (((wv.setCell ⟨wr.heap.size,0,none⟩ (.int .i64 y)).setCell ⟨wr.heap.size,7,none⟩ (.int .i64 y)).setCell ⟨wr.heap.size,14,none⟩ (.int .i64 y)) wr.heap.size 44 (mvD y (p.d j)).vs.toArray):=(((KD.out.set_ 0 (.int .i64 y)).set_ 7 (.int .i64 y)).set_ 14 (.int .i64 y));have BE:=Hj (bel_set (bel_set (bel_set BX.out (p:=⟨wr.heap.size,0,none⟩) (Nat.le_refl _) (.int .i64 y)) (p:=⟨wr.heap.size,7,none⟩) (Nat.le_refl _) (.int .i64 y)) (p:=⟨wr.heap.size,14,none⟩) (Nat.le_refl _) (.int .i64 y));clear m0 f0 m7 f7 m14 f14 q1 KD BX;generalize (((wv.setCell ⟨wr.heap.size,0,none⟩ (.int .i64 y)).setCell ⟨wr.heap.size,7,none⟩ (.int .i64 y)).setCell ⟨wr.heap.size,14,none⟩ (.int .i64 y))=we at *;have KQ:=Hj (GQJ.out.below BE.out GQJ.out.lt);have OE:=Hj (own_belowK OJ.out BE.out);have FE:=Hj (fx_bel FJ.out BE.out)
     have t1:we.cell? ⟨qb,1,none⟩=some (.slice AD j cp):=KQ.out.cell 1;have ONE:Hid (∀u∈(mvD y (p.d j)).vs,u.oneCell'=true):=(by show ∀u∈(mvD y (p.d j)).vs,u.oneCell'=true;simp[De.vs,dcvs,Value.oneCell']);have LN:Hid (j+1≤maxLen):=by show _≤_;have:=HND.out;have:=HLT.out;unfold maxLen;omega
     have LB:Hid ((j+1)*200≤140737488355328):=by show _≤_;have:=HND.out;have:=HLT.out;omega
     clear GQJ OJ FJ
     go_wp2_with (first
      | refine ld_de (mvD y (p.d j)) (mvD y (p.d j)).lo.h (mvD y (p.d j)).hi.h wr.heap.size KE.out rfl _ rfl rfl ?_
      | (refine bs_de (mvD y (p.d j)) rfl _ rfl rfl ?_;intro db w8 ZB BA;have NW:=new_one ZB.out)
      | (at_builtin;refine wpList_append_moved w8 rfl _ _ 22 rfl w6.heap.size 44 i0 _ 20 200 Tryz.underlying22 HI0.out.1 HI0.out.2.1 HI0.out.2.2.1 HI0.out.2.2.2 rfl (by decide) (.slice AD j cp) j _ rfl (own_belowK OE.out BA.out) ⟨db,0,none⟩ 1 1 (mvD y (p.d j)).vs rfl rfl NW ONE.out LN.out LB.out (fx_bel FE.out BA.out).size ?_;intro v9 w9 own9 gr9 mv9;obtain⟨D1,e1,rfl⟩:=own_form own9;have OWB:=own_belowK OE.out BA.out;have K9:=app_blk gr9 OWB (KQ.out.below BA.out KQ.out.lt) QL;have m9:w9.cell? ⟨qb,1,none⟩=some (.slice AD j cp):=K9.cell 1;have f9:=K9.frozen 1;have q9:=K9.lt))
     have R1:Hid (Blk (w9.setCell ⟨qb,1,none⟩ (.slice D1 (j+1) e1)) qb 25 (prvs p.ticks ⟨D1,j+1,e1⟩ SI SS).toArray):=K9.set_ 1 (.slice D1 (j+1) e1);have R2:=Hj (ownsRow_setCell_below own9 (a:=⟨qb,1,none⟩) QL (.slice D1 (j+1) e1));have R3:=Hj ((app_fx gr9 OWB (fx_bel FE.out BA.out)).set (p:=⟨qb,1,none⟩) (.inl rfl) (.slice D1 (j+1) e1));clear own9 gr9 mv9 OWB K9 m9 f9 q9 BA ZB NW KE KQ OE FE t1 BE;go_wp2_with fail
     go_roundg (p.ds.n-(j+1))
     case measure=>have:=HJ.out;have:=HLT.out;omega
     case rel=>exact⟨j+1,e1,D1,by go_num,⟨rfl,HLT.out⟩,R1.out,R2.out,R3.out⟩
    ·obtain rfl:j=p.ds.n:=by have:=HJ.out;omega
     have z0:¬(p.ds.n:Int)<(p.ds.n:Int):=by omega
     have IPJ:=Hj ((IP.out.below BJ.out (Nat.le_refl _)).up12 BJ.out.size)
     have IQ:Hid ((⟨p.ticks,⟨AD,p.ds.n,cp⟩,(fun i=>mvD y (p.d i)),SI,KI,SS,KS⟩:Pr).In wr.heap.size wr):=by
      obtain⟨S,hS,hSn,hx⟩:=own_dd OJ.out (fun i hi=>mvD_in HY.out.1 HY.out.2 (IPJ.out.2.1.2.2 i hi));obtain⟨Sa,Sn,Sc⟩:=S;unfold Sl.val at hS;injection hS with h1 h2 h3;subst h1 h2 h3;exact⟨IPJ.out.1,hx,(XX.out.1.dqf FJ.out).out12,(XX.out.2.dqf FJ.out).out12⟩
     obtain⟨SM,CK⟩:=places_say (p:=p) (y:=y) (S:=⟨AD,p.ds.n,cp⟩) rfl RR.out.1 RR.out.2.1 RR.out.2.2.1 RR.out.2.2.2;have WQ:Hid ((⟨p.ticks,⟨AD,p.ds.n,cp⟩,(fun i=>mvD y (p.d i)),SI,KI,SS,KS⟩:Pr).wt≤1000000):=by show _≤_;rw[←Pr.same_wt12 SM];exact Nat.le_trans P1.out (by decide)
     have HCK:=Hj CK;have HTK:=Hj (Pr.ck_ticks (nam:=isnV) (ran:=raN) (p:=p));have NZ:=Hj (Pr.ck_nz (nam:=isnV) (ran:=raN) p);clear SM CK;obtain⟨a0,a1'',a2,a3⟩:=p_cells GPJ.out;have CC:=Hj (ccCheck_any p wr (HE.out.below BJ.out) IPJ.out (Nat.le_trans P1.out (by decide)));have CQ:=Hj fun w' (hb:Below wr.heap.size wr w')=>ccCheck_any (⟨p.ticks,⟨AD,p.ds.n,cp⟩,(fun i=>mvD y (p.d i)),SI,KI,SS,KS⟩:Pr) w' ((HE.out.below BJ.out).below hb) ((IQ.out.below hb (Nat.le_refl _)).up12 hb.size) WQ.out;clear hlt WQ XX RR;go_wp2_with fail;refine CC.out.mono ?_;rintro x wA ⟨rfl,bA⟩;have BA:=Hj bA;have BBA:=Hj (bel_trans BJ.out bA);have GQA:=Hj (GQJ.out.below bA GQJ.out.lt);have GPA:=Hj (keptO bA GPJ.out);have CQA:=Hj (CQ.out wA bA);clear bA CC CQ a0 a1'' a2 a3 GQJ GPJ;have q0:wA.cell? ⟨qb,0,none⟩=some (.int .i64 p.ticks):=GQA.out.cell 0;have q1:wA.cell? ⟨qb,1,none⟩=some (.slice AD p.ds.n cp):=GQA.out.cell 1;have q2:wA.cell? ⟨qb,2,none⟩=some (.slice SI.ao SI.n SI.c):=GQA.out.cell 2;have q3:wA.cell? ⟨qb,3,none⟩=some (.slice SS.ao SS.n SS.c):=GQA.out.cell 3;unfold Pr.v at CQA;dsimp only at CQA;go_wp2_with fail;refine CQA.out.mono ?_;rintro x wB ⟨rfl,bB⟩;have BF:=Hj (bel_trans BBA.out bB);have GPB:=Hj (keptO bB GPA.out)
     clear bB CQA q0 q1 q2 q3 GQA GPA;obtain⟨ZQ,hZQ⟩:∃ZQ,(⟨p.ticks,⟨AD,p.ds.n,cp⟩,(fun i=>mvD y (p.d i)),SI,KI,SS,KS⟩:Pr).ck isnV raN=ZQ:=⟨_,rfl⟩;obtain⟨Z,hZ⟩:∃Z,p.ck isnV raN=Z:=⟨_,rfl⟩;rw[hZQ,hZ]at HCK;rw[hZ]at HTK NZ;rw[hZQ,hZ];clear hZQ hZ
     by_cases ht:1≤p.ticks∧p.ticks≤2147483647
     case neg=>
      have E1:=HTK.out ht;have E2:=HCK.out;rw[if_neg ht]at E2;subst E1 E2;obtain⟨b0,b1,b2,b3⟩:=p_cells GPB.out;dsimp only[Ck.er,Ck.pl];clear HTK HCK NZ
      by_cases hy0:y=0
      case pos=>
       subst hy0;go_wp2_with fail;go_ret;exact⟨rfl,BF.out⟩
      case neg=>
       have hyb:((0:Int) == y)=false:=by simp;omega
       by_cases ht1:p.ticks<1
       case pos=>
        go_wp2_with fail;go_ret;exact⟨rfl,BF.out⟩
       case neg=>
        have ht2:(2147483647:Int)<p.ticks:=by omega
        go_wp2_with fail;go_ret;exact⟨rfl,BF.out⟩
     case pos=>
      have E2:=HCK.out;rw[if_pos ht]at E2;subst E2;clear HTK HCK
      cases Z with
      | ok u=>
       dsimp only[Ck.er,Ck.pl,Ck.mv];go_wp2_with fail;go_ret;exact⟨rfl,BF.out⟩
      | no c pl=>
       have hc:(c == 0)=false:=by have:=NZ.out c pl rfl;simp;omega
       dsimp only[Ck.er,Ck.pl,Ck.mv];clear NZ;go_wp2_with fail;go_ret;exact⟨rfl,BF.out⟩
theorem lplaces_card (p:Pr)(y:Int)(w:World)(hp:p.In w.heap.size w)(hy:-9223372036854775808≤y∧y≤9223372036854775807)(hE:Env9 w):Calls Tryz.prog 4 #[p.v,.int .i64 y] w fun x w'=>x=.returned (.bool true)∧Below w.heap.size w w':=lplaces_walk p y w hp hy hE
end Go.Proofs.YtkbicfffokegeaaGreatDoor
namespace Go.Proofs.YtkbicfffokegeaaGreatDoor
set_option maxHeartbeats 16000000
open Go.ChangeShapes Go.WideShapes Go.ChangeAt Go.RowKit Go.Joins
set_option maxRecDepth 100000
theorem own:ownKnob Tryz.prog.godebug=none:=by kernel_rfl
theorem laidOut:laidOutB Tryz.prog=true:=by kernel_rfl
theorem word_of_wf {x:Int}(h:(Lit.int .u64 x).wf=true):Word x:=by
 simp[Lit.wf,IntKind.min,IntKind.max,IntKind.signed,IntKind.bits]at h
 exact⟨by omega,by omega⟩
theorem i64_of_wf {x:Int}(h:(Lit.int .i64 x).wf=true):-9223372036854775808≤x∧x≤9223372036854775807:=by
 simp[Lit.wf,IntKind.min,IntKind.max,IntKind.signed,IntKind.bits]at h
 exact⟨by omega,by omega⟩
section
variable {H:Type} {enc:TypeId×Value→H} {w:World} {base:Nat} {spare:Nat→Bool} {held:Bool} {r:Reach} {bb:Nat} {v:Value} {d:DataW H} {p:List MemPlace}
end
theorem gTab:Tryz.prog.globalNamed "math/bits.deBruijn32tab" = some 9:=by kernel_rfl
theorem tTab:(Tryz.prog.globals[9]?).map (·.type)=some 328:=by kernel_rfl
theorem tab_at (l:List (DataW Unit))(hl:Rows.laid_math_bits_deBruijn32tab=DataW.agg l)(j:Nat)(hj:j<32):l[j]? = some (.lit (.int .u8 ((Lib.deBruijn32tab.getD j 0:Nat):Int))):=by
 unfold Rows.laid_math_bits_deBruijn32tab at hl;injection hl with hl;subst hl
 match j,hj with
 | 0,_=>rfl
 | 1,_=>rfl
 | 2,_=>rfl
 | 3,_=>rfl
 | 4,_=>rfl
 | 5,_=>rfl
 | 6,_=>rfl
 | 7,_=>rfl
 | 8,_=>rfl
 | 9,_=>rfl
 | 10,_=>rfl
 | 11,_=>rfl
 | 12,_=>rfl
 | 13,_=>rfl
 | 14,_=>rfl
 | 15,_=>rfl
 | 16,_=>rfl
 | 17,_=>rfl
 | 18,_=>rfl
 | 19,_=>rfl
 | 20,_=>rfl
 | 21,_=>rfl
 | 22,_=>rfl
 | 23,_=>rfl
 | 24,_=>rfl
 | 25,_=>rfl
 | 26,_=>rfl
 | 27,_=>rfl
 | 28,_=>rfl
 | 29,_=>rfl
 | 30,_=>rfl
 | 31,_=>rfl
 | n+32,h=>omega
end Go.Proofs.YtkbicfffokegeaaGreatDoor
namespace Go.Proofs.YtkbicfffokegeaaGreatDoor
set_option maxHeartbeats 16000000
open Go.ChangeShapes Go.WideShapes Go.ChangeAt Go.RowKit Go.Joins Go.Deep
set_option maxRecDepth 100000
section
variable {H:Type} {enc:TypeId×Value→H} {w:World} {base:Nat} {spare:Nat→Bool} {held:Bool} {r:Reach} {bb:Nat} {v:Value} {d:DataW H} {p:List MemPlace}
end
end Go.Proofs.YtkbicfffokegeaaGreatDoor
namespace Go.Proofs.YtkbicfffokegeaaGreatDoor
set_option maxHeartbeats 16000000
open Go.ChangeShapes Go.WideShapes Go.ChangeAt Go.RowKit Go.Joins
set_option maxRecDepth 100000
abbrev theLaid8:List (String×DataW Unit):=[("math/bits.deBruijn32tab",Rows.laid_math_bits_deBruijn32tab),("math/bits.deBruijn64tab",Rows.laid_math_bits_deBruijn64tab),("internal/strconv.uint64pow10",Rows.laid_internal_strconv_uint64pow10),("unicode/utf8.acceptRanges",Rows.laid_unicode_utf8_acceptRanges),("strconv.ErrRange",Rows.laid_strconv_ErrRange),("strconv.ErrSyntax",Rows.laid_strconv_ErrSyntax),("unicode.White_Space",Rows.laid_unicode_White_Space),("strings.asciiSpace",Rows.laid_strings_asciiSpace),("unicode/utf8.first",Rows.laid_unicode_utf8_first)]
theorem pow10_type:(Tryz.prog.globals[8]?).map (·.type)=some 325:=by kernel_rfl
theorem pow10_laid:(Rows.laid_internal_strconv_uint64pow10:DataW Unit)=Lib.tabData .u64 Lib.pow10Tab:=by kernel_rfl
theorem tabs_of_laid8 {W:World}(h:laidMetH Tryz.prog theLaid8 W):(TabOk W∧Lib.TabIs Tryz.prog W "internal/strconv.uint64pow10" .u64 Lib.pow10Tab)∧Lib.TabIs Tryz.prog W "strings.asciiSpace" .u8 Lib.asciiSpaceTab∧∃ev,W.cell? ⟨6,0,none⟩=some ev∧(ev=.nilIface∨∃te pe,ev=.iface te pe):=by
 rw[MakeChecks.laidMetH_plain _ _ _ (by kernel_rfl)]at h;obtain⟨ps,⟨g0,t0,cs0,f0,p0,q0,hg0,ht0,hv0,hd0,⟨g1,t1,cs1,f1,p1,q1,hg1,ht1,hv1,hd1,⟨g2,t2,cs2,f2,p2,q2,hg2,ht2,hv2,hd2,⟨g3,t3,cs3,f3,p3,q3,hg3,ht3,hv3,hd3,⟨g4,t4,cs4,f4,p4,q4,hg4,ht4,hv4,hd4,⟨g5,t5,cs5,f5,p5,q5,hg5,ht5,hv5,hd5,⟨g6,t6,cs6,f6,p6,q6,hg6,ht6,hv6,hd6,⟨g7,t7,cs7,f7,p7,q7,hg7,ht7,hv7,hd7,_,_⟩,_⟩,_⟩,_⟩,_⟩,_⟩,_⟩,_⟩,_⟩:=h;refine⟨⟨?_,?_⟩,?_,?_⟩
 ·obtain rfl:=Option.some.inj (gTab.symm.trans hg0)
  obtain rfl:=Option.some.inj (tTab.symm.trans ht0);obtain⟨xs,m1,rfl,hx1,hlen,hn,hel⟩:=DataW.trod_array Tryz.underlying328 hd0;have c5:Tryz.prog.cellsOf 5=1:=by kernel_rfl
  simp only[Prod.mk.injEq]at hx1;have hx2:Rows.laid_math_bits_deBruijn32tab=DataW.agg (xs.map (·.1)):=hx1.1;intro j hj;rw[World.var?_cell hg0 hv0 j];have he:=hel j hj;rw[c5,Nat.mul_one]at he;have hjx:j<xs.length:=by omega
  rw[List.getElem?_eq_getElem hjx]at he;obtain⟨k,e1,e2,_⟩:=DataW.trod_int Tryz.underlying5 he;have e3:(xs.map (·.1))[j]? = some (.lit (.int .u8 k)):=by rw[List.getElem?_map,List.getElem?_eq_getElem hjx,e2];rfl
  have e5:=(tab_at _ hx2 j hj).symm.trans e3;simp only[Option.some.injEq,DataW.lit.injEq,Lit.int.injEq,true_and]at e5
  have e6:cs0.toList[j]? = some (.int .u8 k):=by
   have:((cs0.toList.drop j).take 1)[0]? = some (.int .u8 k):=by rw[e1];rfl
   rw[List.getElem?_take,if_pos (by decide),List.getElem?_drop]at this
   simpa using this
  rw[←Array.getElem?_toList,e6,e5]
 ·obtain rfl:=Option.some.inj (pow10_var.symm.trans hg2)
  obtain rfl:=Option.some.inj (pow10_type.symm.trans ht2);rw[pow10_laid]at hd2;unfold Lib.TabIs;rw[hv2,←Lib.cells_of_tab Tryz.underlying325 Tryz.underlying38 (by kernel_rfl) (by kernel_rfl) hd2]
 ·obtain rfl:=Option.some.inj ((show Tryz.prog.globalNamed "strings.asciiSpace" = some 0 by kernel_rfl).symm.trans hg7)
  obtain rfl:=Option.some.inj ((show(Tryz.prog.globals[0]?).map (·.type)=some 146 by kernel_rfl).symm.trans ht7);rw[show(Rows.laid_strings_asciiSpace:DataW Unit)=Lib.tabData .u8 Lib.asciiSpaceTab by kernel_rfl]at hd7;unfold Lib.TabIs;rw[hv7,←Lib.cells_of_tab Tryz.underlying146 Tryz.underlying5 (by kernel_rfl) (by kernel_rfl) hd7]
 ·obtain rfl:=Option.some.inj ((show Tryz.prog.globalNamed "strconv.ErrRange" = some 6 by kernel_rfl).symm.trans hg4)
  obtain rfl:=Option.some.inj ((show(Tryz.prog.globals[6]?).map (·.type)=some 208 by kernel_rfl).symm.trans ht4);obtain⟨f',u,v,e, -, -⟩:=iface_of_trod Tryz.underlying208 hd4;have hc:=World.var?_cell hg4 hv4 0;have e0:cs4[0]? = some (.iface u v):=by rw[←Array.getElem?_toList,e];rfl
  exact⟨_,hc.trans e0,.inr ⟨u,v,rfl⟩⟩
theorem env_of8 {W:World}(h:laidMetH Tryz.prog theLaid8 W)(hs:W.ShapedOpen Tryz.prog):Env9 W:=
 ⟨⟨(tabs_of_laid8 h).1.1,(tabs_of_laid8 h).1.2,cell_of_shapedOpen_int (zero:=#[.int .i64 0]) (t:=3) hs (of_decide_eq_true (by kernel_rfl)) (by kernel_rfl) rfl (by kernel_rfl) (by kernel_rfl) Tryz.underlying3⟩,(tabs_of_laid8 h).2.1,(tabs_of_laid8 h).2.2⟩
theorem laid8_met (os:Os)(args:Array Value):laidMetH Tryz.prog theLaid8 ((World.laidAll Tryz.prog os theLaid8).forCall (fun _ _=>0) ⟨#[],args,[]⟩).memory:=by
 rw[MakeChecks.laidMetH_plain _ _ _ (by kernel_rfl)];exact laidMet_laidAll _ (by kernel_rfl) (by kernel_rfl)
theorem lift8 {H:Type}{enc:TypeId×Value→H}{os:Os}{f:FuncId}{fn:Func}{s:ChangeSpec}(started:os.Started)(noInit:Tryz.checked.prog.inits.idxOf? f=none)(hfn:Tryz.checked.prog.funcs[f]? = some fn)
  (witness:∃(w:World) (tape:Tape) (i:Input),w.os=os∧(w.forCall tape i).Shaped Tryz.checked.prog∧i.vars=[]∧Input.okWide Tryz.checked.prog (w.forCall tape i) .any w.heap.size f i ∧
   ((s.pre enc Tryz.checked.prog fn [] false (w.forCall tape i).memory i.args∧laidMetH Tryz.prog theLaid8 (w.forCall tape i).memory)∧sizedMet enc Tryz.checked.prog fn (OpenSpec.ofChange s) false (w.forCall tape i).memory i.args)∧({}:Assume).holds Tryz.checked.prog (lone (Frame.enter Tryz.checked.prog f i.args .normal) [] (w.forCall tape i)))
  (walk:∀(W:World) (base:Nat) (args:Array Value) (ds gs:List (DataW H)) (before:List MemPlace),
   (∀(j:Nat) t v,fn.params[j]? = some t→args[j]? = some v→Value.okWide Tryz.checked.prog W .any base t v)→DataW.Whole enc Tryz.checked.prog fn.params.toList s.vars false W args.toList ds gs before→Env9 W →
   Calls Tryz.checked.prog f args W fun e W'=>∃v,e=.returned v∧s.post enc Tryz.checked.prog fn false true false false W args v W') :
  ReturnsInHanded {} Tryz.checked os f .any (fun w args=>(s.pre enc Tryz.checked.prog fn [] false w args∧laidMetH Tryz.prog theLaid8 w)∧sizedMet enc Tryz.checked.prog fn (OpenSpec.ofChange s) false w args) (s.post enc Tryz.checked.prog fn false true false false):=by
 refine returnsInHanded_of_calls own started noInit witness ?_;intro w tape i _ hsh _ hok hpre _;obtain⟨_,_,_,fn',hfn',_,_,_,_,hval⟩:=hok;obtain rfl:fn'=fn:=Option.some.inj (hfn'.symm.trans hfn);obtain⟨⟨⟨ds,gs,before,hw, -⟩,hx⟩, -⟩:=hpre;refine(walk (w.forCall tape i) w.heap.size i.args ds gs before hval (DataW.Whole.of_heap (w':=w.forCall tape i) (by rfl) hw) (env_of8 (hx.of_heap (by rfl)) hsh)).mono fun e W' ⟨v,he,hp⟩=>?_;subst he;exact ChangeSpec.post_blind hp
instance:Inhabited Ex:=⟨.no⟩
instance:Inhabited St:=⟨.no⟩
instance:Inhabited De:=⟨⟨0,false,[],0,0,false,.no,.no⟩⟩
theorem u8_of_wf {x:Int}(h:(Lit.int .u8 x).wf=true):0≤x∧x≤255:=by
 simp[Lit.wf,IntKind.min,IntKind.max,IntKind.signed,IntKind.bits]at h
 omega
theorem i32_of_wf {x:Int}(h:(Lit.int .i32 x).wf=true):-2147483648≤x∧x≤2147483647:=by
 simp[Lit.wf,IntKind.min,IntKind.max,IntKind.signed,IntKind.bits]at h
 omega
section
variable {H:Type} {enc:TypeId×Value→H} {w:World} {base:Nat} {spare:Nat→Bool} {held:Bool}
theorem open_list {α:Type}[Inhabited α]{ts te:TypeId}{sz:Nat}(hsz:0<sz)(ht:Tryz.prog.underlying ts=some (.slice te))(hc:Tryz.prog.cellsOf te=sz)(vs:α→List Value)(P:α→Prop){fuel:Nat}{cs:List Value}{x:DataW H×List MemPlace}
  (ih:∀n,n<fuel→∀cs x,DataW.trod enc Tryz.prog w base spare held n te cs=some x→∃a:α,cs=vs a∧P a) (h:DataW.trod enc Tryz.prog w base spare held fuel ts cs=some x) :
  ∃(s:Sl) (k:Nat→α),cs=[.slice s.ao s.n s.c]∧s.ok∧Rw w w.heap.size s sz (fun i=>vs (k i))∧∀i,i<s.n→P (k i):=by
 rcases DataW.trod_slice ht h with⟨rfl, -⟩|⟨a,len,cap,elems,rest,n,hn,rfl, -,hb,hl,hm,hlen,hel, -⟩
 ·exact⟨⟨none,0,0⟩,fun _=>default,rfl,⟨Nat.le_refl _,Nat.zero_le _,fun _=>rfl⟩,fun a (ha:none=some a)=>(by cases ha),fun i hi=>absurd hi (Nat.not_lt_zero i)⟩
 ·have key:∀i,i<len→∃e:α,(∃cs',w.cells? base (a.add (i*sz)) sz=some cs'∧cs'=vs e)∧P e:=fun i hi=>by
   have h1:=hel i hi;rw[hc,List.getElem?_eq_getElem (by omega)]at h1;obtain⟨cs',h2,h3⟩:=Option.bind_eq_some_iff.1 h1;obtain⟨e,h4,h5⟩:=ih n (by omega) cs' _ h3;exact⟨e,⟨cs',h2,h4⟩,h5⟩
  obtain⟨f,hf⟩:=Go.Deep.choose_lt key;refine⟨⟨some a,len,cap⟩,f,rfl,⟨hl,hm,fun h=>by cases h⟩,fun b hb' i hi=>?_,fun i hi=>(hf i hi).2⟩;obtain rfl:=Option.some.inj hb';obtain⟨cs',h1,h2⟩:=(hf i hi).1;have hblk:=World.cells?_block h1 hsz;refine⟨by rw[add_block]at hblk;exact hblk,fun j v hv=>?_⟩;have h3:=World.cells?_some h1;rw[←Go.Deep.add_add]
  have hj:j<sz:=by
   rw[←h3.2.1,h2];exact(List.getElem?_eq_some_iff.1 hv).1
  rw[h3.2.2 j hj,h2];exact hv
theorem field_of {t:TypeId}{fs:Array Field}{n:Nat}{cs:List Value}{xs:List (DataW H×List MemPlace)}(hl:xs.length=fs.size)(h:∀(i:Nat) (f:Field),fs[i]? = some f→DataW.trod enc Tryz.prog w base spare held n f.type ((cs.drop f.offset).take (Tryz.prog.cellsOf f.type))=xs[i]?)
  (i:Nat) (f:Field) (hf:fs[i]? = some f) (hc:Tryz.prog.cellsOf f.type=t):∃y,DataW.trod enc Tryz.prog w base spare held n f.type ((cs.drop f.offset).take t)=some y:=by
 have h1:=h i f hf;rw[hc]at h1;have hi:i<xs.length:=by rw[hl];exact(Array.getElem?_eq_some_iff.1 hf).1
 rw[List.getElem?_eq_getElem hi]at h1;exact⟨_,h1⟩
theorem open_x:∀(fuel:Nat) (cs:List Value) (x:DataW H×List MemPlace),DataW.trod enc Tryz.prog w base spare held fuel 42 cs=some x→∃e:Ex,cs=e.h.vs∧e.In w.heap.size w:=by
 intro fuel
 induction fuel using Nat.strongRecOn with
 | ind fuel ih=>
  intro cs x h;obtain⟨xs,n,rfl, -,hl,hxl,hf⟩:=DataW.trod_struct Tryz.underlying42 h;rw[show Tryz.prog.cellsOf 42=7 by kernel_rfl]at hl
  obtain⟨c0,c1,c2,c3,c4,c5,c6,rfl⟩:∃c0 c1 c2 c3 c4 c5 c6,cs=[c0,c1,c2,c3,c4,c5,c6]:=by
   match cs,hl with
   | [c0,c1,c2,c3,c4,c5,c6],_=>exact⟨_,_,_,_,_,_,_,rfl⟩
  obtain⟨y0,f0⟩:=field_of hxl hf 0 _ rfl (t:=1) (by kernel_rfl);obtain⟨y1,f1⟩:=field_of hxl hf 1 _ rfl (t:=1) (by kernel_rfl);obtain⟨y2,f2⟩:=field_of hxl hf 2 _ rfl (t:=1) (by kernel_rfl);obtain⟨y3,f3⟩:=field_of hxl hf 3 _ rfl (t:=1) (by kernel_rfl);obtain⟨y4,f4⟩:=field_of hxl hf 4 _ rfl (t:=1) (by kernel_rfl);obtain⟨y5,f5⟩:=field_of hxl hf 5 _ rfl (t:=1) (by kernel_rfl);obtain⟨y6,f6⟩:=field_of hxl hf 6 _ rfl (t:=1) (by kernel_rfl);obtain⟨op,e0, -,w0⟩:=DataW.trod_int Tryz.underlying37 f0;obtain⟨ps,e1, -,w1⟩:=DataW.trod_int Tryz.underlying3 f1;obtain⟨bo,e2, -⟩:=DataW.trod_bool Tryz.underlying4 f2;obtain⟨it,e3, -,w3⟩:=DataW.trod_int Tryz.underlying21 f3;obtain⟨fl,e4, -,w4⟩:=DataW.trod_int Tryz.underlying39 f4;obtain⟨nm,e5, -,w5⟩:=DataW.trod_string Tryz.underlying9 f5;obtain⟨s,k,e6,hs,hr,hk⟩:=open_list (sz:=7) (by decide) Tryz.underlying40 (by kernel_rfl) (fun e:Ex=>e.h.vs) (fun e=>e.In w.heap.size w) (fun m hm cs x h=>ih m (by omega) cs x h) f6;obtain rfl:c0=_:=List.head_eq_of_cons_eq e0;obtain rfl:c1=_:=List.head_eq_of_cons_eq e1;obtain rfl:c2=_:=List.head_eq_of_cons_eq e2;obtain rfl:c3=_:=List.head_eq_of_cons_eq e3;obtain rfl:c4=_:=List.head_eq_of_cons_eq e4
  obtain rfl:c5=_:=List.head_eq_of_cons_eq e5;obtain rfl:c6=_:=List.head_eq_of_cons_eq e6;exact⟨.mk ⟨op,ps,bo,it,fl,nm.data.toList,s⟩ k,rfl,⟨(u8_of_wf w0).1,(u8_of_wf w0).2,(i64_of_wf w1).1,(i64_of_wf w1).2,(i32_of_wf w3).1,(i32_of_wf w3).2,word_of_wf w4,by rw[←Lib.size_eq];exact w5,hs⟩,hr,hk⟩
theorem open_s:∀(fuel:Nat) (cs:List Value) (x:DataW H×List MemPlace),DataW.trod enc Tryz.prog w base spare held fuel 48 cs=some x→∃s:St,cs=stvs s.h s.e.h∧s.In w.heap.size w:=by
 intro fuel
 induction fuel using Nat.strongRecOn with
 | ind fuel ih=>
  intro cs x h;obtain⟨xs,n,rfl, -,hl,hxl,hf⟩:=DataW.trod_struct Tryz.underlying48 h;rw[show Tryz.prog.cellsOf 48=15 by kernel_rfl]at hl
  obtain⟨c0,c1,c2,c3,c4,c5,c6,c7,c8,c9,c10,c11,c12,c13,c14,rfl⟩:∃c0 c1 c2 c3 c4 c5 c6 c7 c8 c9 c10 c11 c12 c13 c14,cs=[c0,c1,c2,c3,c4,c5,c6,c7,c8,c9,c10,c11,c12,c13,c14]:=by
   match cs,hl with
   | [c0,c1,c2,c3,c4,c5,c6,c7,c8,c9,c10,c11,c12,c13,c14],_=>exact⟨_,_,_,_,_,_,_,_,_,_,_,_,_,_,_,rfl⟩
  obtain⟨y0,f0⟩:=field_of hxl hf 0 _ rfl (t:=1) (by kernel_rfl);obtain⟨y1,f1⟩:=field_of hxl hf 1 _ rfl (t:=1) (by kernel_rfl);obtain⟨y2,f2⟩:=field_of hxl hf 2 _ rfl (t:=1) (by kernel_rfl);obtain⟨y3,f3⟩:=field_of hxl hf 3 _ rfl (t:=1) (by kernel_rfl);obtain⟨y4,f4⟩:=field_of hxl hf 4 _ rfl (t:=7) (by kernel_rfl);obtain⟨y5,f5⟩:=field_of hxl hf 5 _ rfl (t:=1) (by kernel_rfl);obtain⟨y6,f6⟩:=field_of hxl hf 6 _ rfl (t:=1) (by kernel_rfl);obtain⟨y7,f7⟩:=field_of hxl hf 7 _ rfl (t:=1) (by kernel_rfl);obtain⟨y8,f8⟩:=field_of hxl hf 8 _ rfl (t:=1) (by kernel_rfl);obtain⟨kd,e0, -,w0⟩:=DataW.trod_int Tryz.underlying46 f0;obtain⟨ps,e1, -,w1⟩:=DataW.trod_int Tryz.underlying3 f1;obtain⟨nm,e2, -,w2⟩:=DataW.trod_string Tryz.underlying9 f2;obtain⟨sX,kX,e3,hsX,hrX,hkX⟩:=open_list (sz:=7) (by decide) Tryz.underlying40 (by kernel_rfl) (fun e:Ex=>e.h.vs) (fun e=>e.In w.heap.size w) (fun m _ cs x h=>open_x m cs x h) f3;obtain⟨e,e4,he⟩:=open_x n _ _ f4;obtain⟨lo,e5, -,w5⟩:=DataW.trod_int Tryz.underlying21 f5;obtain⟨hi,e6, -,w6⟩:=DataW.trod_int Tryz.underlying21 f6
  obtain⟨sT,kT,e7,hsT,hrT,hkT⟩:=open_list (sz:=15) (by decide) Tryz.underlying23 (by kernel_rfl) (fun s:St=>stvs s.h s.e.h) (fun s=>s.In w.heap.size w) (fun m hm cs x h=>ih m (by omega) cs x h) f7;obtain⟨sL,kL,e8,hsL,hrL,hkL⟩:=open_list (sz:=15) (by decide) Tryz.underlying23 (by kernel_rfl) (fun s:St=>stvs s.h s.e.h) (fun s=>s.In w.heap.size w) (fun m hm cs x h=>ih m (by omega) cs x h) f8;obtain rfl:c0=_:=List.head_eq_of_cons_eq e0;obtain rfl:c1=_:=List.head_eq_of_cons_eq e1;obtain rfl:c2=_:=List.head_eq_of_cons_eq e2;obtain rfl:c3=_:=List.head_eq_of_cons_eq e3;have q4:[c4,c5,c6,c7,c8,c9,c10]=e.h.vs:=e4;simp only[EH.vs,List.cons.injEq,and_true]at q4;obtain⟨rfl,rfl,rfl,rfl,rfl,rfl,rfl⟩:=q4;obtain rfl:c11=_:=List.head_eq_of_cons_eq e5;obtain rfl:c12=_:=List.head_eq_of_cons_eq e6;obtain rfl:c13=_:=List.head_eq_of_cons_eq e7;obtain rfl:c14=_:=List.head_eq_of_cons_eq e8;exact⟨.mk ⟨kd,ps,nm.data.toList,sX,lo,hi,sT,sL⟩ kX e kT kL,rfl,⟨(u8_of_wf w0).1,(u8_of_wf w0).2,(i64_of_wf w1).1,(i64_of_wf w1).2,(i32_of_wf w5).1,(i32_of_wf w5).2,(i32_of_wf w6).1,(i32_of_wf w6).2,by rw[←Lib.size_eq];exact w2,hsX,hsT,hsL⟩,⟨hsX,hrX,hkX⟩,he,hrT,hkT,hrL,hkL⟩
theorem open_d (fuel:Nat)(cs:List Value)(x:DataW H×List MemPlace)(h:DataW.trod enc Tryz.prog w base spare held fuel 44 cs=some x):∃d:De,cs=dcvs d d.lo.h d.hi.h∧d.In w.heap.size w:=by
 obtain⟨xs,n,rfl, -,hl,hxl,hf⟩:=DataW.trod_struct Tryz.underlying44 h;rw[show Tryz.prog.cellsOf 44=20 by kernel_rfl]at hl
 obtain⟨c0,c1,c2,c3,c4,c5,c6,c7,c8,c9,c10,c11,c12,c13,c14,c15,c16,c17,c18,c19,rfl⟩:∃c0 c1 c2 c3 c4 c5 c6 c7 c8 c9 c10 c11 c12 c13 c14 c15 c16 c17 c18 c19,cs=[c0,c1,c2,c3,c4,c5,c6,c7,c8,c9,c10,c11,c12,c13,c14,c15,c16,c17,c18,c19]:=by
  match cs,hl with
  | [c0,c1,c2,c3,c4,c5,c6,c7,c8,c9,c10,c11,c12,c13,c14,c15,c16,c17,c18,c19],_=>exact⟨_,_,_,_,_,_,_,_,_,_,_,_,_,_,_,_,_,_,_,_,rfl⟩
 obtain⟨y0,f0⟩:=field_of hxl hf 0 _ rfl (t:=1) (by kernel_rfl);obtain⟨y1,f1⟩:=field_of hxl hf 1 _ rfl (t:=1) (by kernel_rfl);obtain⟨y2,f2⟩:=field_of hxl hf 2 _ rfl (t:=1) (by kernel_rfl);obtain⟨y3,f3⟩:=field_of hxl hf 3 _ rfl (t:=1) (by kernel_rfl);obtain⟨y4,f4⟩:=field_of hxl hf 4 _ rfl (t:=1) (by kernel_rfl);obtain⟨y5,f5⟩:=field_of hxl hf 5 _ rfl (t:=1) (by kernel_rfl);obtain⟨y6,f6⟩:=field_of hxl hf 6 _ rfl (t:=7) (by kernel_rfl);obtain⟨y7,f7⟩:=field_of hxl hf 7 _ rfl (t:=7) (by kernel_rfl);obtain⟨ps,e0, -,w0⟩:=DataW.trod_int Tryz.underlying3 f0;obtain⟨inp,e1, -⟩:=DataW.trod_bool Tryz.underlying4 f1;obtain⟨nm,e2, -,w2⟩:=DataW.trod_string Tryz.underlying9 f2;obtain⟨ty,e3, -,w3⟩:=DataW.trod_int Tryz.underlying36 f3;obtain⟨len,e4, -,w4⟩:=DataW.trod_int Tryz.underlying3 f4;obtain⟨rg,e5, -⟩:=DataW.trod_bool Tryz.underlying4 f5;obtain⟨lo,e6,hlo⟩:=open_x n _ _ f6;obtain⟨hi,e7,hhi⟩:=open_x n _ _ f7;obtain rfl:c0=_:=List.head_eq_of_cons_eq e0;obtain rfl:c1=_:=List.head_eq_of_cons_eq e1;obtain rfl:c2=_:=List.head_eq_of_cons_eq e2;obtain rfl:c3=_:=List.head_eq_of_cons_eq e3;obtain rfl:c4=_:=List.head_eq_of_cons_eq e4;obtain rfl:c5=_:=List.head_eq_of_cons_eq e5;have q6:[c6,c7,c8,c9,c10,c11,c12]=lo.h.vs:=e6
 simp only[EH.vs,List.cons.injEq,and_true]at q6;obtain⟨rfl,rfl,rfl,rfl,rfl,rfl,rfl⟩:=q6;have q7:[c13,c14,c15,c16,c17,c18,c19]=hi.h.vs:=e7;simp only[EH.vs,List.cons.injEq,and_true]at q7;obtain⟨rfl,rfl,rfl,rfl,rfl,rfl,rfl⟩:=q7;exact⟨⟨ps,inp,nm.data.toList,ty,len,rg,lo,hi⟩,rfl,⟨(i64_of_wf w0).1,(i64_of_wf w0).2,(u8_of_wf w3).1,(u8_of_wf w3).2,(i64_of_wf w4).1,(i64_of_wf w4).2,by rw[←Lib.size_eq];exact w2⟩,hlo,hhi⟩
theorem open_p (fuel:Nat)(cs:List Value)(x:DataW H×List MemPlace)(h:DataW.trod enc Tryz.prog w base spare held fuel 25 cs=some x):∃p:Pr,cs=[.int .i64 p.ticks,.slice p.ds.ao p.ds.n p.ds.c,.slice p.is.ao p.is.n p.is.c,.slice p.ss.ao p.ss.n p.ss.c]∧p.In w.heap.size w:=by
 obtain⟨xs,n,rfl, -,hl,hxl,hf⟩:=DataW.trod_struct Tryz.underlying25 h;rw[show Tryz.prog.cellsOf 25=4 by kernel_rfl]at hl
 obtain⟨c0,c1,c2,c3,rfl⟩:∃c0 c1 c2 c3,cs=[c0,c1,c2,c3]:=by
  match cs,hl with
  | [c0,c1,c2,c3],_=>exact⟨_,_,_,_,rfl⟩
 obtain⟨y0,f0⟩:=field_of hxl hf 0 _ rfl (t:=1) (by kernel_rfl);obtain⟨y1,f1⟩:=field_of hxl hf 1 _ rfl (t:=1) (by kernel_rfl);obtain⟨y2,f2⟩:=field_of hxl hf 2 _ rfl (t:=1) (by kernel_rfl);obtain⟨y3,f3⟩:=field_of hxl hf 3 _ rfl (t:=1) (by kernel_rfl);obtain⟨tk,e0, -,w0⟩:=DataW.trod_int Tryz.underlying3 f0;obtain⟨sD,kD,e1,hsD,hrD,hkD⟩:=open_list (sz:=20) (by decide) Tryz.underlying22 (by kernel_rfl) (fun d:De=>dcvs d d.lo.h d.hi.h) (fun d=>d.In w.heap.size w) (fun m _ cs x h=>open_d m cs x h) f1;obtain⟨sI,kI,e2,hsI,hrI,hkI⟩:=open_list (sz:=15) (by decide) Tryz.underlying23 (by kernel_rfl) (fun s:St=>stvs s.h s.e.h) (fun s=>s.In w.heap.size w) (fun m _ cs x h=>open_s m cs x h) f2;obtain⟨sS,kS,e3,hsS,hrS,hkS⟩:=open_list (sz:=15) (by decide) Tryz.underlying23 (by kernel_rfl) (fun s:St=>stvs s.h s.e.h) (fun s=>s.In w.heap.size w) (fun m _ cs x h=>open_s m cs x h) f3;obtain rfl:c0=_:=List.head_eq_of_cons_eq e0;obtain rfl:c1=_:=List.head_eq_of_cons_eq e1;obtain rfl:c2=_:=List.head_eq_of_cons_eq e2;obtain rfl:c3=_:=List.head_eq_of_cons_eq e3;exact⟨⟨tk,sD,kD,sI,kI,sS,kS⟩,rfl,i64_of_wf w0,⟨hsD,hrD,hkD⟩,⟨hsI,hrI,hkI⟩,⟨hsS,hrS,hkS⟩⟩
theorem open_prog {r:Reach}{bb:Nat}{v:Value}{d:DataW H}{p:List MemPlace}(hv:Value.okWide Tryz.prog w r bb 25 v)(h:DataW.Trod enc Tryz.prog w base spare held 25 v d p):∃q:Pr,v=q.v∧q.In w.heap.size w:=by
 unfold Value.okWide at hv;rw[Tryz.underlying25]at hv;obtain⟨cs,rfl, -, -⟩:=hv;obtain⟨fuel,hf⟩:=h;obtain⟨q,e,hq⟩:=open_p fuel _ _ hf;refine⟨q,?_,hq⟩;have e':cs.toList=_:=e;unfold Pr.v
 congr 1
 exact Array.ext' e'
end
end Go.Proofs.YtkbicfffokegeaaGreatDoor
namespace Go.Proofs.YtkbicfffokegeaaGreatDoor
set_option maxHeartbeats 16000000
open Go.RowKit
set_option maxRecDepth 100000
def NmOk12 (b:Bool)(s:St):Prop:=b=false→s.h.kd=3→isnV s.h.nm=true∧s.h.nm.length<32
def AllShl (b:Bool)(n:Nat)(k:Nat→St):Prop:=b=true→∀i,i<n→(k i).shl isnV
def RetPn (s:Sl)(k:Nat→St)(w:World)(r:Ending)(w':World):Prop:=∃b:Bool,r=.returned (.bool b)∧AllShl b s.n k∧Below w.heap.size w w'
def PnX (B:Nat)(s:Sl)(k:Nat→St):Prop:=∀(w:World),SsIn B w s k→B≤w.heap.size→Env9 w→Calls Tryz.prog 16 #[.slice s.ao s.n s.c] w (RetPn s k w)
theorem shl_of {s:St}(h:s.h.kd=3→isnV s.h.nm=true∧s.h.nm.length<32)(ht:∀i,i<s.h.ts.n→(s.t i).shl isnV)(hl:∀i,i<s.h.es.n→(s.l i).shl isnV):s.shl isnV:=by
 cases s with
 | no=>trivial
 | mk h' x e t l=>exact⟨fun c=>⟨(h c).1,us_isn (h c).1 (h c).2⟩,ht,hl⟩
theorem plain12_of (B:Nat)(s:Sl)(k:Nat→St)(hn:s.n≤100000)(hwx:∀i,i<s.n→(k i).h.nm.length≤100000)(ih:∀i,i<s.n→PnX B (k i).h.ts (k i).t∧PnX B (k i).h.es (k i).l):PnX B s k:=by
 intro w hX hB hE;have HI:=Hj hX;have HB:=Hj hB;have HN:=Hj hn;have IH:=Hj ih;have HW:=Hj hwx;have HE:=Hj hE;clear hX hB hn ih hwx hE;obtain⟨ao,n,c⟩:=s;dsimp only at *;go_enter Tryz.func16,Tryz.ntmps16;go_wp2_with fail
 go_loopg [3] n (fun gk i wr=>∃(j:Nat),i=.int .i64 (j:Int)∧Hid (gk=n-j∧j≤n)∧Hid (∀i,i<j→(k i).shl isnV)∧Hid (Below w.heap.size w wr))
 case atStart=>exact⟨0,rfl,⟨rfl,Nat.zero_le _⟩,(fun i hi=>absurd hi (Nat.not_lt_zero i)),Below.refl _ _⟩
 case round=>
  obtain⟨j,rfl,HJ,SJ,BR⟩:=hrel
  by_cases hlt:j<n
  ·have z0:(j:Int)<(n:Int):=by omega
   have ovi:IntKind.i64.wrap ((j:Int)+1)=((j+1:Nat):Int):=by have:=HN.out;rw[IntKind.wrap_i64];omega
   have HBr:=Hj (Nat.le_trans HB.out BR.out.size);obtain⟨a,b,o,rfl,hA,hb,X,I⟩:=SsIn.at (HI.out.below BR.out HB.out) (i:=j) hlt;have XX:=Hj fun w' (hb':Below wr.heap.size wr w')=>X.below hb hb' HBr.out;have PT:=Hj fun w' (hb':Below wr.heap.size wr w') hE=>(IH.out j hlt).1 w' (I.ts.below hb' HBr.out) (Nat.le_trans HBr.out hb'.size) hE;have PE:=Hj fun w' (hb':Below wr.heap.size wr w') hE=>(IH.out j hlt).2 w' (I.es.below hb' HBr.out) (Nat.le_trans HBr.out hb'.size) hE;have HER:=Hj (HE.out.below BR.out);have NM:=Hj (xIsName_any ⟨(k j).h.nm.toArray⟩ wr (by rw[Lib.size_eq];exact Nat.le_trans (HW.out j hlt) (by decide)) HER.out);have d2:=X.c2;have HLT:=Hj hlt;clear X I hb hlt;go_wp2_with fail;refine NM.out.mono ?_;rintro r w1 ⟨rfl,b1⟩;have B1:=Hj b1;have XC:=XX.out w1 b1;have d0:=XC.c0;have d2:=XC.c2;have hsz:=str_size' (k j).h.nm;clear b1 NM XC;obtain⟨ok,hok⟩:∃ok,isnV (k j).h.nm=ok:=⟨_,rfl⟩;rw[hok];have HOK:=Hj hok;clear hok;go_upto_region 5 with fail
   go_cut [35] (fun v wx=>∃bb:Bool,v=.bool bb∧NmOk12 bb (k j)∧wx=w1)
   case first=>
    by_cases h3:(k j).h.kd=3
    case neg=>
     have b3:=neB h3;have HH:NmOk12 false (k j):=fun _ h=>absurd h h3;clear h3;go_wp2_with fail;go_meet;exact⟨false,rfl,HH,rfl⟩
    case pos=>
     have b3:((k j).h.kd == 3)=true:=by simp[h3]
     clear h3
     cases ok with
     | false=>
      go_wp2_with fail;go_meet;exact⟨true,rfl,(fun h=>by cases h),rfl⟩
     | true=>
      by_cases hl:(k j).h.nm.length<32
      case pos=>
       have z5:¬(32:Int)≤(((k j).h.nm.length:Nat):Int):=by omega
       have HH:NmOk12 false (k j):=fun _ _=>⟨HOK.out,hl⟩;clear hl;go_wp2_with fail;go_meet;exact⟨false,rfl,HH,rfl⟩
      case neg=>
       have z5:(32:Int)≤(((k j).h.nm.length:Nat):Int):=by omega
       clear hl;go_wp2_with fail;go_meet;exact⟨true,rfl,(fun h=>by cases h),rfl⟩
   case rest=>
    obtain⟨bb,rfl,HH,e1⟩:=hcut;rw[e1];clear e1 wc d0 d2 hsz HOK;have BB:=Hj (bel_trans BR.out B1.out)
    cases bb with
    | true=>
     go_wp2_with fail;go_ret;exact⟨false,rfl,(fun h=>by cases h),BB.out⟩
    | false=>
     have d13:=(XX.out w1 B1.out).c13;go_wp2_with fail;refine(PT.out w1 B1.out (HER.out.below B1.out)).mono ?_;rintro r w2 ⟨bt,rfl,ht,b2⟩;have HT:=Hj ht;have B2:=Hj (bel_trans B1.out b2);have BB2:=Hj (bel_trans BB.out b2);clear ht b2 PT d13 BB
     cases bt with
     | false=>
      go_wp2_with fail;go_ret;exact⟨false,rfl,(fun h=>by cases h),BB2.out⟩
     | true=>
      have d14:=(XX.out w2 B2.out).c14;go_wp2_with fail;refine(PE.out w2 B2.out (HER.out.below B2.out)).mono ?_;rintro r w3 ⟨be,rfl,hl,b3⟩;have HL:=Hj hl;have BB3:=Hj (bel_trans BB2.out b3);clear hl b3 PE d14 BB2
      cases be with
      | false=>
       go_wp2_with fail;go_ret;exact⟨false,rfl,(fun h=>by cases h),BB3.out⟩
      | true=>
       have SJ1:Hid (∀i,i<j+1→(k i).shl isnV):=fun i hi=>by
        rcases Nat.lt_succ_iff_lt_or_eq.1 hi with h|rfl
        ·exact SJ.out i h
        ·exact shl_of (HH rfl) (HT.out rfl) (HL.out rfl)
       clear HH HT HL SJ XX;go_wp2_with fail
       go_roundg (n-(j+1))
       case measure=>have:=HJ.out;have:=HLT.out;omega
       case rel=>exact⟨j+1,by go_num,⟨rfl,HLT.out⟩,SJ1.out,BB3.out⟩
  ·obtain rfl:j=n:=by have:=HJ.out;omega
   have z0:¬(j:Int)<(j:Int):=by omega
   clear hlt;go_wp2_with fail;go_ret;exact⟨true,rfl,(fun _=>SJ.out),BR.out⟩
theorem plain12_st (B:Nat)(s:St):s.wt≤100000→PnX B s.h.ts s.t∧PnX B s.h.es s.l:=by
 induction s using St.ind with
 | H s it il=>
  intro hw;obtain⟨-, -, -,h4,h5⟩:=st_kids hw;have q1:∀i,i<s.h.ts.n→(s.t i).wt≤100000:=fun i hi=>by have h3:=sm_one (f:=fun i=>(s.t i).wt) hi;have h6:(fun i=>(s.t i).wt) i=(s.t i).wt:=rfl;omega
  have q2:∀i,i<s.h.es.n→(s.l i).wt≤100000:=fun i hi=>by have h3:=sm_one (f:=fun i=>(s.l i).wt) hi;have h6:(fun i=>(s.l i).wt) i=(s.l i).wt:=rfl;omega
  exact⟨plain12_of B _ _ (Nat.le_trans (wt_rows s.t s.h.ts.n) h4) (fun i hi=>by have h7:=St.wt_eq (s.t i);have h8:=q1 i hi;omega) fun i hi=>it i hi (q1 i hi),
   plain12_of B _ _ (Nat.le_trans (wt_rows s.l s.h.es.n) h5) (fun i hi=>by have h7:=St.wt_eq (s.l i);have h8:=q2 i hi;omega) fun i hi=>il i hi (q2 i hi)⟩
theorem plain12_any (B:Nat)(s:Sl)(k:Nat→St)(hw:sm (fun i=>(k i).wt) s.n≤100000):PnX B s k:=by
 have q1:∀i,i<s.n→(k i).wt≤100000:=fun i hi=>by have h3:=sm_one (f:=fun i=>(k i).wt) hi;have h6:(fun i=>(k i).wt) i=(k i).wt:=rfl;omega
 exact plain12_of B s k (Nat.le_trans (wt_rows k s.n) hw) (fun i hi=>by have h7:=St.wt_eq (k i);have h8:=q1 i hi;omega) fun i hi=>plain12_st B (k i) (q1 i hi)
end Go.Proofs.YtkbicfffokegeaaGreatDoor
