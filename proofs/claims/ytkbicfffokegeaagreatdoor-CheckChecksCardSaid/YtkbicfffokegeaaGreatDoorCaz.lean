/-
  Whatever program is handed in, CheckChecks answers true. (part 26 of 38) Conditions: none beside what the card ties.
-/
import Derived.Test.YtkbicfffokegeaaGreatDoorCay
namespace Go.Proofs.YtkbicfffokegeaaGreatDoor
set_option maxHeartbeats 16000000
open Go.RowKit
set_option maxRecDepth 100000
theorem Blk.fiveT {w:World}{g:Nat}{t:TypeId}{a0 a1 a2 a3 a4:Value}(h:Blk w g t #[a0,a1,a2,a3,a4]) :
  w.cell? ⟨g,0,none⟩=some a0∧w.cell? ⟨g,1,none⟩=some a1∧w.cell? ⟨g,2,none⟩=some a2∧w.cell? ⟨g,3,none⟩=some a3∧w.cell? ⟨g,4,none⟩=some a4:=⟨h.cell 0,h.cell 1,h.cell 2,h.cell 3,h.cell 4⟩
def oK (t:Tk):Obj:=.cells #[.int .u8 t.kd,.int .i64 t.ps,.string ⟨t.tx.toArray⟩,.int .i32 t.nn,.int .u64 t.ff] 133
theorem yZ (R d k:Nat)(P:PS→Rs Ex)(hu:d<24→dP R (d+1) 151 P)(he:∀o c s,jN (dK k) o c s=fB d o c P s):dP R d 268 (rC (dK k)):=by
 intro s w h;have HBr:=Hj (wC R d P hu);have HIx:=Hj (pE R d P hu);have BL:=aY w zX;have NB:Hid (Blk (w.alloc zX) w.heap.size 42 aP.va):=Blk.new _ _ _;have HR:=Hj (h.alloc zX);have HLT:=Hj h.lt;have hz:(w.alloc zX).heap.size=w.heap.size+1:=World.size_alloc ..;have HSZ:=Hj hz;have HF:Hid (Fx (On R) w.heap.size w (w.alloc zX)):=Fx.of BL;have HE:=Hj he;have HGD:=Hj h.good;clear BL h hz hu he;generalize hZ:rC (dK k) s=Z;have HZ:=Hj hZ;clear hZ;go_enter Tryz.func268,Tryz.ntmps268;go_upto_region 1 with fail;change (Code.region 1 _ _).wp _ _ _ (w.alloc zX);generalize w.alloc zX=wx at *;go_wp2_with fail;refine(dZ R d s [40] wx HR.out).mono ?_;rintro e w1 ⟨rfl,hb⟩;have NB1:=Hj (NB.out.below hb NB.out.lt);have HR1:=Hj (HR.out.below hb HR.out.lt);have HF1:=Hj (aZ HF.out hb);have HS1:Hid (w.heap.size+1≤w1.heap.size):=by show _≤_;have:=hb.size;have:=HSZ.out;omega
 clear NB HR HF hb HSZ
 by_cases c1:s.hd.tx=[40]
 ·rw[cS c1]
  have E:Hid (fB d [40] [41] P s=Z):=by show _=Z;rw[←HZ.out,←HE.out];unfold rC;rw[if_pos c1]
  have A:=Hj (HBr.out s w1 HR1.out);rw[E.out]at A;clear c1 HZ E HBr HIx HE;go_wp2_with fail;refine A.out.mono ?_;intro r w3 hpo;clear A
  cases Z with
  | no c q=>
   obtain⟨rfl,f3⟩:=hpo;have HF3:=Hj (aJ HF1.out f3);clear f3;go_wp2_with fail;exact⟨rfl,rfl,HF3.out⟩
  | ok e s3=>
   obtain⟨v,rfl,⟨b,rfl,xb,eb⟩,h3,f3⟩:=hpo;have HF3:=Hj (aJ HF1.out f3);have NB3:=Hj (f3.blk NB1.out NB1.out.lt (aO HLT.out));have HX3:=Hj (xb.imp (D':=fun k=>w.heap.size<k) (fun k _ (x:w1.heap.size≤k)=>aE HS1.out x));have HR3:=Hj h3;have EB:=Hj eb;clear f3 xb h3 eb NB1 HF1
   go_wp2_with (refine eL b.h w.heap.size _ NB3.out rfl rfl _ _ rfl rfl rfl ?_)
   exact bodyPost_ret (fQ rfl _ _ w.heap.size b.h rfl (NB3.out.rowS _)) rfl ⟨_,rfl,⟨b,rfl,(HX3.out.row (Nat.lt_irrefl _) _).imp (fun k _ x=>Nat.le_of_lt x),EB.out⟩,HR3.out.row HLT.out _,bI HF3.out (.inr (aD _)) _⟩
 ·rw[cU c1]
  have C1:=Hj c1;clear c1;go_wp2_with fail;refine(cI R d s w1 HR1.out).mono ?_;rintro e w2 ⟨rfl,hb⟩;have BLb:Below w2.heap.size w2 (w2.alloc (oK s.hd)):=aY _ _;have BB:=hb.trans (BLb.mono hb.size);have NB2:=Hj (NB1.out.below BB NB1.out.lt);have HR2:=Hj (HR1.out.below BB HR1.out.lt);have HF2:=Hj (aZ HF1.out BB);have HS2:Hid (w.heap.size<w2.heap.size):=aE HS1.out hb.size;have TB:Hid (Blk (w2.alloc (oK s.hd)) w2.heap.size 133 s.hd.vs):=Blk.new _ _ _;clear hb BLb BB NB1 HR1 HF1 HS1;unfold Tk.v;go_upto_region 4 with fail;change (Code.region 4 _ _).wp _ _ _ (w2.alloc (oK s.hd));generalize w2.alloc (oK s.hd)=w3 at *;generalize w2.heap.size=tb at *;have KG:=Hj fun w' (hb:Below w3.heap.size w3 w')=>(TB.out.below hb TB.out.lt).fiveT;obtain⟨t0,t1,t2,t3,t4⟩:=TB.out.fiveT
  go_cut [4] (fun v wx=>∃be:Nat,v=.pointer (some ⟨be,0,none⟩)∧Hid (Blk wx be 42 (EH.va ⟨atT s.hd,s.hd.ps,false,0,0,[],⟨none,0,0⟩⟩))∧Hid (Below w3.heap.size w3 wx)∧Hid (w3.heap.size≤be))
  case first=>
   refine bY (S:=fun w'=>w'.cell? ⟨tb,0,none⟩=some (.int .u8 s.hd.kd)∧w'.cell? ⟨tb,1,none⟩=some (.int .i64 s.hd.ps)∧w'.cell? ⟨tb,2,none⟩=some (.string ⟨s.hd.tx.toArray⟩)∧w'.cell? ⟨tb,3,none⟩=some (.int .i32 s.hd.nn)∧w'.cell? ⟨tb,4,none⟩=some (.int .u64 s.hd.ff)) _ (.take 0 (.take 2 (.take 3 (.two 1 (.take 4 (.act 5 (.act 6 .done))) 5 (.act 1 (.take 4 (.act 6 .done))))))) (by kernel_rfl) (by kernel_rfl) rfl (by kernel_rfl) (by kernel_rfl) (fun _ _ d _ _ h=>by cases d<;>exact h) (KG.out _ (aH (Below.refl _ _))) ?_
   iterate 3
    refine aN.take (v:=?_) rfl (by rfl) ?_ ?_;rotate_left
    ·(intro w' hSw;(try dsimp only at hSw);go_simp<;>with_reducible rfl)
    try simp only[Act.put,aA,aC,aB]
   refine⟨bF rfl (by rfl) (fun K hK=>?_),bF rfl (by rfl) (fun K hK=>?_)⟩
   ·go_simp
    go_at_call 277;refine(qC s.hd _).mono ?_;rintro r w4 ⟨rfl,hb4⟩;have X1:Below w3.heap.size w3 w4:=aG (aH (Below.refl _ _)) hb4;refine hK.out _ _ (KG.out _ X1) ?_;clear hK K;try simp only[Act.put,aA,aC,aB]
    refine aN.take (v:=?_) rfl (by rfl) ?_ ?_;rotate_left
    ·(intro w' hSw;(try dsimp only at hSw);go_simp<;>with_reducible rfl)
    try simp only[Act.put,aA,aC,aB]
    refine aN.act rfl (by rfl) (fun K hK=>?_);go_simp;refine hK.out _ _ (KG.out _ (aI X1 _)) ?_;clear hK K;try simp only[Act.put,aA,aC,aB]
    refine aN.act rfl (by rfl) (fun K hK=>?_);refine wp_store_row 42 _ _ rfl w4.heap.size (EH.va ⟨atT s.hd,s.hd.ps,false,0,0,[],⟨none,0,0⟩⟩) rfl rfl 42 _ (Blk.new w4 42 aP.va) (by kernel_rfl) rfl (by simp[EH.va,Value.oneCell']) ?_;have X2:=below_setRow (aI X1 zX) X1.size (EH.va ⟨atT s.hd,s.hd.ps,false,0,0,[],⟨none,0,0⟩⟩);refine hK.out _ _ (KG.out _ X2) ?_;clear hK K;try simp only[Act.put]
    refine aN.done ?_;go_wp2_with fail;go_meet;exact⟨_,rfl,(Blk.new w4 42 aP.va).rowS _,X2,X1.size⟩
   ·go_simp
    refine hK.out _ _ (KG.out _ (aI (aH (Below.refl _ _)) _)) ?_;clear hK K;try simp only[Act.put,aA,aC,aB]
    refine aN.act rfl (by rfl) (fun K hK=>?_);go_simp;go_at_call 277;refine(qC s.hd _).mono ?_;rintro r w4 ⟨rfl,hb4⟩;have X1:Below w3.heap.size w3 w4:=(by refine aG ?_ hb4;repeat (first|exact Below.refl _ _|refine aH ?_|refine aI ?_ _));have Kq:Blk w4 w3.heap.size 42 aP.va:=(Blk.drew (Blk.new w3 42 aP.va)).below hb4 (Blk.drew (Blk.new w3 42 aP.va)).lt;refine hK.out _ _ (KG.out _ X1) ?_;clear hK K;try simp only[Act.put,aA,aC,aB]
    refine aN.take (v:=?_) rfl (by rfl) ?_ ?_;rotate_left
    ·(intro w' hSw;(try dsimp only at hSw);go_simp<;>with_reducible rfl)
    try simp only[Act.put,aA,aC,aB]
    refine aN.act rfl (by rfl) (fun K hK=>?_);refine wp_store_row 42 _ _ rfl w3.heap.size (EH.va ⟨atT s.hd,s.hd.ps,false,0,0,[],⟨none,0,0⟩⟩) rfl rfl 42 _ Kq (by kernel_rfl) rfl (by simp[EH.va,Value.oneCell']) ?_;have X2:=below_setRow X1 (aD _) (EH.va ⟨atT s.hd,s.hd.ps,false,0,0,[],⟨none,0,0⟩⟩);refine hK.out _ _ (KG.out _ X2) ?_;clear hK K;try simp only[Act.put]
    refine aN.done ?_;go_wp2_with fail;go_meet;exact⟨_,rfl,Kq.rowS _,X2,aD _⟩
  case rest=>
   obtain⟨be,rfl,HEb,HBe,HGe⟩:=hcut;have NB4:=Hj (NB2.out.below HBe.out NB2.out.lt);have TB4:=Hj (TB.out.below HBe.out TB.out.lt);have HR4:=Hj (HR2.out.below HBe.out HR2.out.lt);have HF4:=Hj (aZ HF2.out HBe.out);have HGE:Hid (w.heap.size<be):=aE NB2.out.lt HGe.out;have HTE:Hid (R<tb):=Nat.lt_trans HLT.out HS2.out;have HS:Hid (Hd s.hd):=HGD.out.hd;have ho:0≤atT s.hd∧atT s.hd≤255:=by unfold atT;(repeat' split)<;>decide
   have HO:=Hj ho;have KDh:=Hj fun hx=>aIP HGD.out hx;clear NB2 TB HR2 HF2 HBe HGe HS2 KG t0 t1 t2 t3 t4 ho;generalize hop:atT s.hd=op at *;have HOP:=Hj hop;clear hop;have m0:wc.cell? ⟨be,0,none⟩=some (.int .u8 op):=HEb.out.cell 0
   by_cases c0:op=0
   ·subst c0
    have E:Hid (Z=.no 110 s.hd.ps):=by show Z=_;rw[←HZ.out];unfold rC;rw[if_neg C1.out,if_pos HOP.out];rfl
    clear HZ;go_wp2_with fail;refine(fG R d s wc HR4.out).mono ?_;rintro r w5 ⟨rfl,hb⟩;have HF5:=Hj (aZ HF4.out hb);clear hb;go_wp2_with fail;refine⟨rfl,?_⟩;rw[E.out];exact⟨rfl,HF5.out⟩
   ·have hk:s.hd.kd≠0:=KDh.out c0
    have c00:(op == 0)=false:=by simp[c0]
    have HK:=Hj hk;clear hk KDh;go_wp2_with fail;refine(dG R d s wc HR4.out HK.out).mono ?_;rintro r w5 ⟨rfl,h5,f5⟩;have NB5:=Hj (f5.blk NB4.out NB4.out.lt (aO HLT.out));have TB5:=Hj (f5.blk TB4.out TB4.out.lt (aO HTE.out));have HB5:=Hj (f5.blk HEb.out HEb.out.lt (aO (Nat.lt_trans HLT.out HGE.out)));have HR5:=Hj h5;have HF5:=Hj (aJ HF4.out f5);clear NB4 TB4 HEb HR4 HF4 f5 h5 m0
    by_cases c1:op=1
    ·have c:=c1
     clear c0 c00 c1;obtain rfl:=c.symm
     have E:Hid (dU (boX s.hd.ps (s.hd.tx == [116,114,117,101])) s.tk=Z):=by
      show _=Z;rw[←HZ.out];unfold rC;rw[if_neg C1.out,HOP.out];rfl
     have b1:=HB5.out.set_ 2 (.bool (s.hd.tx == [116,114,117,101]));have HBt:Hid (Blk (w5.setCell ⟨be,2,none⟩ (.bool (s.hd.tx == [116,114,117,101]))) be 42 (EH.va ⟨1,s.hd.ps,(s.hd.tx == [116,114,117,101]),0,0,[],⟨none,0,0⟩⟩)):=b1;have NBt:=Hj (NB5.out.far (p:=⟨be,2,none⟩) (Nat.ne_of_lt HGE.out) (.bool (s.hd.tx == [116,114,117,101])));have HRt:=Hj (HR5.out.set (p:=⟨be,2,none⟩) (Nat.lt_trans HLT.out HGE.out) (.bool (s.hd.tx == [116,114,117,101])));have HFt:=Hj (bJ HF5.out (p:=⟨be,2,none⟩) (.inr (Nat.le_of_lt HGE.out)) (.bool (s.hd.tx == [116,114,117,101])));have m0:w5.cell? ⟨be,0,none⟩=some (.int .u8 1):=HB5.out.cell 0;have m1:w5.cell? ⟨be,2,none⟩=some (.bool false):=HB5.out.cell 2;have z1:w5.frozen? ⟨be,2,none⟩=false:=HB5.out.frozen 2;have tk:w5.cell? ⟨tb,2,none⟩=some (.string ⟨s.hd.tx.toArray⟩):=TB5.out.cell 2;clear b1 HB5 NB5 HR5 HF5 TB5 HZ;go_upto_region 19 with fail;change (Code.region 19 _ _).wp _ _ _ (w5.setCell ⟨be,2,none⟩ (.bool (s.hd.tx == [116,114,117,101])));generalize w5.setCell ⟨be,2,none⟩ (.bool (s.hd.tx == [116,114,117,101]))=wt at *
     have EQ:Hid ((Ex.mk ⟨1,s.hd.ps,(s.hd.tx == [116,114,117,101]),0,0,[],⟨none,0,0⟩⟩ (fun _=>.no)).eqv (boX s.hd.ps (s.hd.tx == [116,114,117,101]))):=Ex.eqv_refl _;have HXt:Hid (XO (fun k=>be<k) (Ex.mk ⟨1,s.hd.ps,(s.hd.tx == [116,114,117,101]),0,0,[],⟨none,0,0⟩⟩ (fun _=>.no)) wt):=qO (tS (by decide) (by decide) HS.out.ps0 HS.out.ps1 (by decide) (by decide) (by decide) (by decide) (Nat.zero_le _) iQ) rfl;have CM:=Hj (dH R d s.tk ⟨1,s.hd.ps,(s.hd.tx == [116,114,117,101]),0,0,[],⟨none,0,0⟩⟩ wt HRt.out (boX s.hd.ps (s.hd.tx == [116,114,117,101])) rfl);rw[E.out]at CM
     go_wp2_with (refine jV ⟨1,s.hd.ps,(s.hd.tx == [116,114,117,101]),0,0,[],⟨none,0,0⟩⟩ be HBt.out rfl _ rfl rfl ?_)
     refine CM.out.mono ?_;intro r w6 hpo;clear CM
     cases Z with
     | no c q=>
      obtain⟨rfl,f6⟩:=hpo;have HF6:=Hj (aJ HFt.out f6);clear f6;go_wp2_with fail;exact⟨rfl,rfl,HF6.out⟩
     | ok a s6=>
      obtain⟨v,rfl,rfl,h6,f6⟩:=hpo;obtain rfl:=jO E.out;have HF6:=Hj (aJ HFt.out f6);have NB6:=Hj (f6.blk NBt.out NBt.out.lt (aO HLT.out));have HX6:=Hj (HXt.out.fx f6 (aQ (fun x:be<R=>Nat.lt_asymm x (Nat.lt_trans HLT.out HGE.out))));have HR6:=Hj h6;clear f6 h6 NBt HXt HRt HFt
      go_wp2_with (refine eL ⟨1,s.hd.ps,(s.hd.tx == [116,114,117,101]),0,0,[],⟨none,0,0⟩⟩ w.heap.size _ NB6.out rfl rfl _ _ rfl rfl rfl ?_)
      refine bodyPost_ret (fQ rfl _ _ w.heap.size ⟨1,s.hd.ps,(s.hd.tx == [116,114,117,101]),0,0,[],⟨none,0,0⟩⟩ rfl (NB6.out.rowS _)) rfl ?_;exact⟨_,rfl,⟨Ex.mk ⟨1,s.hd.ps,(s.hd.tx == [116,114,117,101]),0,0,[],⟨none,0,0⟩⟩ (fun _=>.no),rfl,(HX6.out.row (fun(x:be<w.heap.size)=>Nat.lt_asymm x HGE.out) _).imp (fun k _ (x:be<k)=>Nat.le_of_lt (Nat.lt_trans HGE.out x)),EQ.out⟩,HR6.out.row HLT.out _,bI HF6.out (.inr (aD _)) _⟩
    ·by_cases c2:op=2
     ·have c:=c2
      clear c0 c00 c1 c2;obtain rfl:=c.symm
      have E:Hid (dU (inX s.hd.ps s.hd.nn) s.tk=Z):=by
       show _=Z;rw[←HZ.out];unfold rC;rw[if_neg C1.out,HOP.out];rfl
      have b1:=HB5.out.set_ 3 (.int .i32 s.hd.nn);have HBt:Hid (Blk (w5.setCell ⟨be,3,none⟩ (.int .i32 s.hd.nn)) be 42 (EH.va ⟨2,s.hd.ps,false,s.hd.nn,0,[],⟨none,0,0⟩⟩)):=b1;have NBt:=Hj (NB5.out.far (p:=⟨be,3,none⟩) (Nat.ne_of_lt HGE.out) (.int .i32 s.hd.nn));have HRt:=Hj (HR5.out.set (p:=⟨be,3,none⟩) (Nat.lt_trans HLT.out HGE.out) (.int .i32 s.hd.nn));have HFt:=Hj (bJ HF5.out (p:=⟨be,3,none⟩) (.inr (Nat.le_of_lt HGE.out)) (.int .i32 s.hd.nn));have m0:w5.cell? ⟨be,0,none⟩=some (.int .u8 2):=HB5.out.cell 0;have m1:w5.cell? ⟨be,3,none⟩=some (.int .i32 0):=HB5.out.cell 3;have z1:w5.frozen? ⟨be,3,none⟩=false:=HB5.out.frozen 3;have tk:w5.cell? ⟨tb,3,none⟩=some (.int .i32 s.hd.nn):=TB5.out.cell 3;clear b1 HB5 NB5 HR5 HF5 TB5 HZ;go_upto_region 19 with fail;change (Code.region 19 _ _).wp _ _ _ (w5.setCell ⟨be,3,none⟩ (.int .i32 s.hd.nn));generalize w5.setCell ⟨be,3,none⟩ (.int .i32 s.hd.nn)=wt at *;have EQ:Hid ((Ex.mk ⟨2,s.hd.ps,false,s.hd.nn,0,[],⟨none,0,0⟩⟩ (fun _=>.no)).eqv (inX s.hd.ps s.hd.nn)):=Ex.eqv_refl _
      have HXt:Hid (XO (fun k=>be<k) (Ex.mk ⟨2,s.hd.ps,false,s.hd.nn,0,[],⟨none,0,0⟩⟩ (fun _=>.no)) wt):=qO (tS (by decide) (by decide) HS.out.ps0 HS.out.ps1 (by have:=HS.out.nn0;show(-2147483648:Int)≤s.hd.nn;omega) HS.out.nn1 (by decide) (by decide) (Nat.zero_le _) iQ) rfl;have CM:=Hj (dH R d s.tk ⟨2,s.hd.ps,false,s.hd.nn,0,[],⟨none,0,0⟩⟩ wt HRt.out (inX s.hd.ps s.hd.nn) rfl);rw[E.out]at CM
      go_wp2_with (refine jV ⟨2,s.hd.ps,false,s.hd.nn,0,[],⟨none,0,0⟩⟩ be HBt.out rfl _ rfl rfl ?_)
      refine CM.out.mono ?_;intro r w6 hpo;clear CM
      cases Z with
      | no c q=>
       obtain⟨rfl,f6⟩:=hpo;have HF6:=Hj (aJ HFt.out f6);clear f6;go_wp2_with fail;exact⟨rfl,rfl,HF6.out⟩
      | ok a s6=>
       obtain⟨v,rfl,rfl,h6,f6⟩:=hpo;obtain rfl:=jO E.out;have HF6:=Hj (aJ HFt.out f6);have NB6:=Hj (f6.blk NBt.out NBt.out.lt (aO HLT.out));have HX6:=Hj (HXt.out.fx f6 (aQ (fun x:be<R=>Nat.lt_asymm x (Nat.lt_trans HLT.out HGE.out))));have HR6:=Hj h6;clear f6 h6 NBt HXt HRt HFt
       go_wp2_with (refine eL ⟨2,s.hd.ps,false,s.hd.nn,0,[],⟨none,0,0⟩⟩ w.heap.size _ NB6.out rfl rfl _ _ rfl rfl rfl ?_)
       refine bodyPost_ret (fQ rfl _ _ w.heap.size ⟨2,s.hd.ps,false,s.hd.nn,0,[],⟨none,0,0⟩⟩ rfl (NB6.out.rowS _)) rfl ?_;exact⟨_,rfl,⟨Ex.mk ⟨2,s.hd.ps,false,s.hd.nn,0,[],⟨none,0,0⟩⟩ (fun _=>.no),rfl,(HX6.out.row (fun(x:be<w.heap.size)=>Nat.lt_asymm x HGE.out) _).imp (fun k _ (x:be<k)=>Nat.le_of_lt (Nat.lt_trans HGE.out x)),EQ.out⟩,HR6.out.row HLT.out _,bI HF6.out (.inr (aD _)) _⟩
     ·by_cases c3:op=3
      ·have c:=c3
       clear c0 c00 c1 c2 c3;obtain rfl:=c.symm
       have E:Hid (dU (flX s.hd.ps s.hd.ff) s.tk=Z):=by
        show _=Z;rw[←HZ.out];unfold rC;rw[if_neg C1.out,HOP.out];rfl
       have b1:=HB5.out.set_ 4 (.int .u64 s.hd.ff);have HBt:Hid (Blk (w5.setCell ⟨be,4,none⟩ (.int .u64 s.hd.ff)) be 42 (EH.va ⟨3,s.hd.ps,false,0,s.hd.ff,[],⟨none,0,0⟩⟩)):=b1;have NBt:=Hj (NB5.out.far (p:=⟨be,4,none⟩) (Nat.ne_of_lt HGE.out) (.int .u64 s.hd.ff));have HRt:=Hj (HR5.out.set (p:=⟨be,4,none⟩) (Nat.lt_trans HLT.out HGE.out) (.int .u64 s.hd.ff));have HFt:=Hj (bJ HF5.out (p:=⟨be,4,none⟩) (.inr (Nat.le_of_lt HGE.out)) (.int .u64 s.hd.ff));have m0:w5.cell? ⟨be,0,none⟩=some (.int .u8 3):=HB5.out.cell 0;have m1:w5.cell? ⟨be,4,none⟩=some (.int .u64 0):=HB5.out.cell 4;have z1:w5.frozen? ⟨be,4,none⟩=false:=HB5.out.frozen 4;have tk:w5.cell? ⟨tb,4,none⟩=some (.int .u64 s.hd.ff):=TB5.out.cell 4;clear b1 HB5 NB5 HR5 HF5 TB5 HZ;go_upto_region 19 with fail;change (Code.region 19 _ _).wp _ _ _ (w5.setCell ⟨be,4,none⟩ (.int .u64 s.hd.ff));generalize w5.setCell ⟨be,4,none⟩ (.int .u64 s.hd.ff)=wt at *;have EQ:Hid ((Ex.mk ⟨3,s.hd.ps,false,0,s.hd.ff,[],⟨none,0,0⟩⟩ (fun _=>.no)).eqv (flX s.hd.ps s.hd.ff)):=Ex.eqv_refl _
       have HXt:Hid (XO (fun k=>be<k) (Ex.mk ⟨3,s.hd.ps,false,0,s.hd.ff,[],⟨none,0,0⟩⟩ (fun _=>.no)) wt):=qO (tS (by decide) (by decide) HS.out.ps0 HS.out.ps1 (by decide) (by decide) HS.out.ff0 (by have:=HS.out.ff1;show s.hd.ff<18446744073709551616;omega) (Nat.zero_le _) iQ) rfl;have CM:=Hj (dH R d s.tk ⟨3,s.hd.ps,false,0,s.hd.ff,[],⟨none,0,0⟩⟩ wt HRt.out (flX s.hd.ps s.hd.ff) rfl);rw[E.out]at CM
       go_wp2_with (refine jV ⟨3,s.hd.ps,false,0,s.hd.ff,[],⟨none,0,0⟩⟩ be HBt.out rfl _ rfl rfl ?_)
       refine CM.out.mono ?_;intro r w6 hpo;clear CM
       cases Z with
       | no c q=>
        obtain⟨rfl,f6⟩:=hpo;have HF6:=Hj (aJ HFt.out f6);clear f6;go_wp2_with fail;exact⟨rfl,rfl,HF6.out⟩
       | ok a s6=>
        obtain⟨v,rfl,rfl,h6,f6⟩:=hpo;obtain rfl:=jO E.out;have HF6:=Hj (aJ HFt.out f6);have NB6:=Hj (f6.blk NBt.out NBt.out.lt (aO HLT.out));have HX6:=Hj (HXt.out.fx f6 (aQ (fun x:be<R=>Nat.lt_asymm x (Nat.lt_trans HLT.out HGE.out))));have HR6:=Hj h6;clear f6 h6 NBt HXt HRt HFt
        go_wp2_with (refine eL ⟨3,s.hd.ps,false,0,s.hd.ff,[],⟨none,0,0⟩⟩ w.heap.size _ NB6.out rfl rfl _ _ rfl rfl rfl ?_)
        refine bodyPost_ret (fQ rfl _ _ w.heap.size ⟨3,s.hd.ps,false,0,s.hd.ff,[],⟨none,0,0⟩⟩ rfl (NB6.out.rowS _)) rfl ?_;exact⟨_,rfl,⟨Ex.mk ⟨3,s.hd.ps,false,0,s.hd.ff,[],⟨none,0,0⟩⟩ (fun _=>.no),rfl,(HX6.out.row (fun(x:be<w.heap.size)=>Nat.lt_asymm x HGE.out) _).imp (fun k _ (x:be<k)=>Nat.le_of_lt (Nat.lt_trans HGE.out x)),EQ.out⟩,HR6.out.row HLT.out _,bI HF6.out (.inr (aD _)) _⟩
      ·by_cases c4:op=4
       ·have c:=c4
        clear c0 c00 c1 c2 c3 c4;obtain rfl:=c.symm
        have E:Hid ((idx d P s.tk).bind (fun l s'=>dU (nmX s.hd.ps s.hd.tx l) s')=Z):=by
         show _=Z;rw[←HZ.out,←aDt HE.out];unfold rC;rw[if_neg C1.out,HOP.out];rfl
        have HB5b:Hid (Blk (w5.setCell ⟨be,5,none⟩ (.string ⟨s.hd.tx.toArray⟩)) be 42 (EH.va ⟨4,s.hd.ps,false,0,0,s.hd.tx,⟨none,0,0⟩⟩)):=HB5.out.set_ 5 (.string ⟨s.hd.tx.toArray⟩);have NB5b:=Hj (NB5.out.far (p:=⟨be,5,none⟩) (Nat.ne_of_lt HGE.out) (.string ⟨s.hd.tx.toArray⟩));have HR5b:=Hj (HR5.out.set (p:=⟨be,5,none⟩) (Nat.lt_trans HLT.out HGE.out) (.string ⟨s.hd.tx.toArray⟩));have HF5b:=Hj (bJ HF5.out (p:=⟨be,5,none⟩) (.inr (Nat.le_of_lt HGE.out)) (.string ⟨s.hd.tx.toArray⟩));have m0:w5.cell? ⟨be,0,none⟩=some (.int .u8 4):=HB5.out.cell 0;have m1:w5.cell? ⟨be,5,none⟩=some (.string ⟨#[]⟩):=HB5.out.cell 5;have z1:w5.frozen? ⟨be,5,none⟩=false:=HB5.out.frozen 5;have tk:w5.cell? ⟨tb,2,none⟩=some (.string ⟨s.hd.tx.toArray⟩):=TB5.out.cell 2;clear HB5 NB5 HR5 HF5 TB5 HZ;go_upto_region 18 with fail;change (Code.region 18 _ _).wp _ _ _ (w5.setCell ⟨be,5,none⟩ (.string ⟨s.hd.tx.toArray⟩));generalize w5.setCell ⟨be,5,none⟩ (.string ⟨s.hd.tx.toArray⟩)=w7 at *;go_wp2_with fail;refine(HIx.out s.tk w7 HR5b.out).mono ?_;intro r w8 hpo
        cases hres:idx d P s.tk with
        | no c q=>
         rw[hres]at hpo;obtain⟨rfl,f8⟩:=hpo;have HF8:=Hj (aJ HF5b.out f8);have E8:Hid (Z=.no c q):=by show Z=_;rw[←E.out,hres];rfl
         clear f8 hres;go_wp2_with fail;refine⟨rfl,?_⟩;rw[E8.out];exact⟨rfl,HF8.out⟩
        | ok l s8=>
         rw[hres]at hpo;obtain⟨v,rfl,⟨S,K,rfl,xl,eq⟩,h8,f8⟩:=hpo;obtain⟨A,n,cp⟩:=S;have E8:Hid (dU (nmX s.hd.ps s.hd.tx l) s8=Z):=by show _=Z;rw[←E.out,hres];rfl
         clear hres E;have E:=E8;have hne:¬On R be:=aO (Nat.lt_trans HLT.out HGE.out);have k1:=f8.blk HB5b.out HB5b.out.lt hne;have HBt:Hid (Blk (w8.setCell ⟨be,6,none⟩ (.slice A n cp)) be 42 (EH.va ⟨4,s.hd.ps,false,0,0,s.hd.tx,⟨A,n,cp⟩⟩)):=k1.set_ 6 (.slice A n cp);have nb:=f8.blk NB5b.out NB5b.out.lt (aO HLT.out);have NBt:=Hj (nb.far (p:=⟨be,6,none⟩) (Nat.ne_of_lt HGE.out) (.slice A n cp));have HRt:=Hj (h8.set (p:=⟨be,6,none⟩) (Nat.lt_trans HLT.out HGE.out) (.slice A n cp));have HFt:=Hj (bJ (aJ HF5b.out f8) (p:=⟨be,6,none⟩) (.inr (Nat.le_of_lt HGE.out)) (.slice A n cp));have xl2:=(xl.imp (D':=fun k=>be<k) (fun k _ (x:w7.heap.size≤k)=>aE HB5b.out.lt x)).row (p:=⟨be,6,none⟩) (Nat.lt_irrefl _) (.slice A n cp);have HXt:Hid (XO (fun k=>be<k) (Ex.mk ⟨4,s.hd.ps,false,0,0,s.hd.tx,⟨A,n,cp⟩⟩ K) (w8.setCell ⟨be,6,none⟩ (.slice A n cp))):=aLx (tS (by decide) (by decide) HS.out.ps0 HS.out.ps1 (by decide) (by decide) (by decide) (by decide) HS.out.len xl.1) xl2;have EQ:Hid ((Ex.mk ⟨4,s.hd.ps,false,0,0,s.hd.tx,⟨A,n,cp⟩⟩ K).eqv (nmX s.hd.ps s.hd.tx l)):=aLS eq;have m6:w8.cell? ⟨be,6,none⟩=some (.slice none 0 0):=k1.cell 6
         have z6:w8.frozen? ⟨be,6,none⟩=false:=k1.frozen 6;clear f8 xl eq h8 k1 nb xl2 HB5b NB5b HR5b HF5b hne;unfold Sl.val;go_upto_region 19 with fail;change (Code.region 19 _ _).wp _ _ _ (w8.setCell ⟨be,6,none⟩ (.slice A n cp));generalize w8.setCell ⟨be,6,none⟩ (.slice A n cp)=wt at *;have CM:=Hj (dH R d s8 ⟨4,s.hd.ps,false,0,0,s.hd.tx,⟨A,n,cp⟩⟩ wt HRt.out (nmX s.hd.ps s.hd.tx l) rfl);rw[E.out]at CM
         go_wp2_with (refine jV ⟨4,s.hd.ps,false,0,0,s.hd.tx,⟨A,n,cp⟩⟩ be HBt.out rfl _ rfl rfl ?_)
         refine CM.out.mono ?_;intro r w6 hpo;clear CM
         cases Z with
         | no c q=>
          obtain⟨rfl,f6⟩:=hpo;have HF6:=Hj (aJ HFt.out f6);clear f6;go_wp2_with fail;exact⟨rfl,rfl,HF6.out⟩
         | ok a s6=>
          obtain⟨v,rfl,rfl,h6,f6⟩:=hpo;obtain rfl:=jO E.out;have HF6:=Hj (aJ HFt.out f6);have NB6:=Hj (f6.blk NBt.out NBt.out.lt (aO HLT.out));have HX6:=Hj (HXt.out.fx f6 (aQ (fun x:be<R=>Nat.lt_asymm x (Nat.lt_trans HLT.out HGE.out))));have HR6:=Hj h6;clear f6 h6 NBt HXt HRt HFt
          go_wp2_with (refine eL ⟨4,s.hd.ps,false,0,0,s.hd.tx,⟨A,n,cp⟩⟩ w.heap.size _ NB6.out rfl rfl _ _ rfl rfl rfl ?_)
          refine bodyPost_ret (fQ rfl _ _ w.heap.size ⟨4,s.hd.ps,false,0,0,s.hd.tx,⟨A,n,cp⟩⟩ rfl (NB6.out.rowS _)) rfl ?_;exact⟨_,rfl,⟨Ex.mk ⟨4,s.hd.ps,false,0,0,s.hd.tx,⟨A,n,cp⟩⟩ K,rfl,(HX6.out.row (fun(x:be<w.heap.size)=>Nat.lt_asymm x HGE.out) _).imp (fun k _ (x:be<k)=>Nat.le_of_lt (Nat.lt_trans HGE.out x)),EQ.out⟩,HR6.out.row HLT.out _,bI HF6.out (.inr (aD _)) _⟩
       ·skip
        have E:Hid ((fB d [40] [41] P s.tk).bind (fun e s'=>dU (opX op s.hd.ps [e]) s')=Z):=by
         show _=Z;rw[←HZ.out,←HE.out];unfold rC;rw[if_neg C1.out,HOP.out,if_neg c0,if_neg c1,if_neg c2,if_neg c3,if_neg c4]
        have e1:(op == 1)=false:=by simp[c1]
        have e2:(op == 2)=false:=by simp[c2]
        have e3:(op == 3)=false:=by simp[c3]
        have e4:(op == 4)=false:=by simp[c4]
        have m0:w5.cell? ⟨be,0,none⟩=some (.int .u8 op):=HB5.out.cell 0;clear c1 c2 c3 c4 HZ TB5;go_wp2_with fail;refine(HBr.out s.tk w5 HR5.out).mono ?_;intro r w8 hpo
        cases hres:fB d [40] [41] P s.tk with
        | no c q=>
         rw[hres]at hpo;obtain⟨rfl,f8⟩:=hpo;have HF8:=Hj (aJ HF5.out f8);have E8:Hid (Z=.no c q):=by show Z=_;rw[←E.out,hres];rfl
         clear f8 hres;go_wp2_with fail;refine⟨rfl,?_⟩;rw[E8.out];exact⟨rfl,HF8.out⟩
        | ok e s8=>
         rw[hres]at hpo;obtain⟨v,rfl,⟨b,rfl,xb,eb⟩,h8,f8⟩:=hpo;have E8:Hid (dU (opX op s.hd.ps [e]) s8=Z):=by show _=Z;rw[←E.out,hres];rfl
         clear hres E;have E:=E8;have hne:¬On R be:=aO (Nat.lt_trans HLT.out HGE.out);have k1:=f8.blk HB5.out HB5.out.lt hne;have nb:=f8.blk NB5.out NB5.out.lt (aO HLT.out);have hsz:(w8.setCell ⟨be,6,none⟩ (.slice (some ⟨w8.heap.size,0,none⟩) 1 1)).heap.size=w8.heap.size:=World.size_setCell ..;have x1:=(xb.imp (D':=fun k=>be<k) (fun k _ (x:w5.heap.size≤k)=>aE HB5.out.lt x)).set (p:=⟨be,6,none⟩) (Nat.lt_irrefl _) (.slice (some ⟨w8.heap.size,0,none⟩) 1 1);have BLb:=aY (w8.setCell ⟨be,6,none⟩ (.slice (some ⟨w8.heap.size,0,none⟩) 1 1)) (.cells b.h.vs.toArray 42);have HXt:=Hj (aDg (op:=op) (ps:=s.hd.ps) (nm:=[]) x1 (by rw[hsz];exact k1.lt) HO.out.1 HO.out.2 HS.out.ps0 HS.out.ps1 (Nat.zero_le _) (t:=42) rfl);rw[hsz]at HXt;have k2:Blk (w8.setCell ⟨be,6,none⟩ (.slice (some ⟨w8.heap.size,0,none⟩) 1 1)) be 42 (EH.va ⟨op,s.hd.ps,false,0,0,[],⟨some ⟨w8.heap.size,0,none⟩,1,1⟩⟩):=k1.set_ 6 (.slice (some ⟨w8.heap.size,0,none⟩) 1 1);have HBt:=Hj (k2.below BLb k2.lt);have nb2:=nb.far (p:=⟨be,6,none⟩) (Nat.ne_of_lt HGE.out) (.slice (some ⟨w8.heap.size,0,none⟩) 1 1);have NBt:=Hj (nb2.below BLb nb2.lt)
         have hr:=h8.set (p:=⟨be,6,none⟩) (Nat.lt_trans HLT.out HGE.out) (.slice (some ⟨w8.heap.size,0,none⟩) 1 1);have HRt:=Hj (hr.below BLb hr.lt);have HFt:=Hj (aZ (bJ (aJ HF5.out f8) (p:=⟨be,6,none⟩) (.inr (Nat.le_of_lt HGE.out)) (.slice (some ⟨w8.heap.size,0,none⟩) 1 1)) BLb);have EQ:Hid ((Ex.mk ⟨op,s.hd.ps,false,0,0,[],⟨some ⟨w8.heap.size,0,none⟩,1,1⟩⟩ (fun _=>b)).eqv (opX op s.hd.ps [e])):=aEg eb;have m6:w8.cell? ⟨be,6,none⟩=some (.slice none 0 0):=k1.cell 6;have z6:w8.frozen? ⟨be,6,none⟩=false:=k1.frozen 6;have lb:=k1.lt;clear f8 xb eb h8 k1 nb hsz x1 BLb k2 nb2 hr HB5 NB5 HR5 HF5 hne m0;unfold EH.v;go_upto_region 19 with fail;change (Code.region 19 _ _).wp _ _ _ ((w8.setCell ⟨be,6,none⟩ (.slice (some ⟨w8.heap.size,0,none⟩) 1 1)).alloc (.cells b.h.vs.toArray 42));generalize (w8.setCell ⟨be,6,none⟩ (.slice (some ⟨w8.heap.size,0,none⟩) 1 1)).alloc (.cells b.h.vs.toArray 42)=wt at *;generalize w8.heap.size=g8 at *;have CM:=Hj (dH R d s8 ⟨op,s.hd.ps,false,0,0,[],⟨some ⟨g8,0,none⟩,1,1⟩⟩ wt HRt.out (opX op s.hd.ps [e]) rfl);rw[E.out]at CM
         go_wp2_with (refine jV ⟨op,s.hd.ps,false,0,0,[],⟨some ⟨g8,0,none⟩,1,1⟩⟩ be HBt.out rfl _ rfl rfl ?_)
         refine CM.out.mono ?_;intro r w6 hpo;clear CM
         cases Z with
         | no c q=>
          obtain⟨rfl,f6⟩:=hpo;have HF6:=Hj (aJ HFt.out f6);clear f6;go_wp2_with fail;exact⟨rfl,rfl,HF6.out⟩
         | ok a s6=>
          obtain⟨v,rfl,rfl,h6,f6⟩:=hpo;obtain rfl:=jO E.out;have HF6:=Hj (aJ HFt.out f6);have NB6:=Hj (f6.blk NBt.out NBt.out.lt (aO HLT.out));have HX6:=Hj (HXt.out.fx f6 (aQ (fun x:be<R=>Nat.lt_asymm x (Nat.lt_trans HLT.out HGE.out))));have HR6:=Hj h6;clear f6 h6 NBt HXt HRt HFt
          go_wp2_with (refine eL ⟨op,s.hd.ps,false,0,0,[],⟨some ⟨g8,0,none⟩,1,1⟩⟩ w.heap.size _ NB6.out rfl rfl _ _ rfl rfl rfl ?_)
          refine bodyPost_ret (fQ rfl _ _ w.heap.size ⟨op,s.hd.ps,false,0,0,[],⟨some ⟨g8,0,none⟩,1,1⟩⟩ rfl (NB6.out.rowS _)) rfl ?_;exact⟨_,rfl,⟨Ex.mk ⟨op,s.hd.ps,false,0,0,[],⟨some ⟨g8,0,none⟩,1,1⟩⟩ (fun _=>b),rfl,(HX6.out.row (fun(x:be<w.heap.size)=>Nat.lt_asymm x HGE.out) _).imp (fun k _ (x:be<k)=>Nat.le_of_lt (Nat.lt_trans HGE.out x)),EQ.out⟩,HR6.out.row HLT.out _,bI HF6.out (.inr (aD _)) _⟩
theorem tG (o c:List UInt8)(P:PS→Rs Ex)(s:PS):jN none o c s=fB 24 o c P s:=by
 unfold jN fB
 split<;>rfl
theorem tF (u:PS→Rs Ex)(d:Nat)(hd:d<24)(o c:List UInt8)(s:PS):jN (some u) o c s=fB d o c (lvl u 5) s:=by
 unfold jN fB;split
 ·rw[if_neg (by omega)]
 ·rfl
theorem tM (R:Nat):∀k d,d+k=24→dP R d 256 (unK k)
 | 0,d,h=>by
  obtain rfl:d=24:=by omega
  exact vX R 24 0 rfl (yZ R 24 0 (exK 0) (fun h=>absurd h (by decide)) (fun o c s=>tG o c _ s)) (fun k' h=>by cases h)
 | k+1,d,h=>by
  have ih:=tM R k (d+1) (by omega);exact vX R d (k+1) h (yZ R d (k+1) (lvl (unK k) 5) (fun _=>wA R (d+1) (unK k) ih (aAj k)) (fun o c s=>tF (unK k) d (by omega) o c s)) (fun k' h=>by cases h;exact ih)
theorem sA (R k d:Nat)(h:d+k=24):dP R d 151 (exK k):=wA R d (unK k) (tM R k d h) (aAj k)
theorem aCZ (R k d:Nat)(h:d+k=24)(s:PS)(w:World)(hr:Rdr R d s w):Calls Tryz.prog 154 #[.pointer (some ⟨R,0,none⟩)] w (PO R d w (index (dK k) s) (VL (Fro w.heap.size))):=by
 cases k with
 | zero=>
  obtain rfl:d=24:=by omega
  have:=pE R 24 (exK 0) (fun h=>absurd h (by decide)) s w hr;rw[←aDt (D:=dK 0) (fun o c s=>tG o c _ s)]at this;exact this
 | succ k=>
  have:=pE R d (lvl (unK k) 5) (fun _=>sA R k (d+1) (by omega)) s w hr;rw[←aDt (D:=dK (k+1)) (fun o c s=>tF (unK k) d (by omega) o c s)]at this;exact this
theorem uC (R d:Nat)(s:PS)(w:World)(h:Rdr R d s w):Calls Tryz.prog 85 #[.pointer (some ⟨R,0,none⟩)] w (PO R d w (aBV () s) V0):=by
 have ft:=fun w=>aCB s.hd w;have HR:=Hj h
 by_cases c:s.hd.kd=0
 ·have e3:aBV () s=.ok () s:=if_pos c
  rw[e3];have c2:(s.hd.kd == 0)=true:=by simp[c]
  clear e3 h c;go_enter Tryz.func85,Tryz.ntmps85;go_wp2_with fail;refine(cI R d s w HR.out).mono ?_;rintro e w1 ⟨rfl,hb⟩;have HB:=Hj hb;clear hb;go_wp2_with fail;exact bodyPost_end (results_none rfl _ _ _) rfl ⟨_,rfl,rfl,HR.out.below HB.out HR.out.lt,Fx.of HB.out⟩
 ·have e3:aBV () s=.no 110 s.hd.ps:=if_neg c
  rw[e3];have c2:(s.hd.kd == 0)=false:=by simp[c]
  clear e3 h c;go_enter Tryz.func85,Tryz.ntmps85;go_wp2_with fail;refine(cI R d s w HR.out).mono ?_;rintro e w1 ⟨rfl,hb⟩;have HB:=Hj hb;clear hb;go_wp2_with fail;refine(fG R d s w1 (HR.out.below HB.out HR.out.lt)).mono ?_;rintro e w2 ⟨rfl,hb⟩;have HB2:=Hj (aG HB.out hb);clear hb;go_wp2_with fail;exact⟨rfl,rfl,Fx.of HB2.out⟩
def St.eqv:St→St→Prop
 | .no,r=>hsS cG r.h=true∧r.h.ps=0∧Ex.no.eqv r.e∧r.h.xs.n=0
 | .mk h x e t l,r=>hsS h r.h=true∧r.h.ps=h.ps∧e.eqv r.e∧(h.xs.n=r.h.xs.n∧∀i,i<h.xs.n→(x i).eqv (r.x i))∧(∀i,i<h.ts.n→(t i).eqv (r.t i))∧∀i,i<h.es.n→(l i).eqv (r.l i)
def XS (D:Nat→Prop)(s:St)(w:World):Prop:=s.In w.heap.size (up D w)
def XB (D:Nat→Prop)(S:Sl)(K:Nat→St)(w:World):Prop:=gL w.heap.size (up D w) S K
theorem XS.fx {X D:Nat→Prop}{s:St}{w w':World}(h:XS D s w)(hf:Fx X w.heap.size w w')(hX:∀k,X k→¬D k):XS D s w':=St.In.stay (jD hf hX) hf.size h
theorem XS.imp {D D':Nat→Prop}{s:St}{w:World}(h:XS D s w)(hD:∀k,k<w.heap.size→D k→D' k):XS D' s w:=St.In.stay (gP hD w) (aD _) h
theorem XB.fx {X D:Nat→Prop}{S:Sl}{K:Nat→St}{w w':World}(h:XB D S K w)(hf:Fx X w.heap.size w w')(hX:∀k,X k→¬D k):XB D S K w':=gL.stay h (jD hf hX) hf.size
theorem XB.imp {D D':Nat→Prop}{S:Sl}{K:Nat→St}{w:World}(h:XB D S K w)(hD:∀k,k<w.heap.size→D k→D' k):XB D' S K w:=gL.stay h (gP hD w) (aD _)
theorem XS.bel {D:Nat→Prop}{s:St}{w w':World}(h:XS D s w)(hb:Below w.heap.size w w'):XS D s w':=h.fx (X:=fun _=>False) (Fx.of hb) (fun _ x=>x.elim)
def Seq (S:Sl)(K:Nat→St)(l:List St):Prop:=S.n=l.length∧∀i,i<S.n→(K i).eqv (l.getD i .no)
def VS (L:Nat)(s:St)(v:Value)(w:World):Prop:=∃s':St,v=stv s'.h s'.e.h∧XS (Fro L) s' w∧s'.eqv s
def VB (L:Nat)(l:List St)(v:Value)(w:World):Prop:=∃S K,v=Sl.val S∧XB (Fro L) S K w∧Seq S K l
def xW (R d n:Nat)(p:PS→Rs St):Prop:=∀(s:PS) (w:World),Rdr R d s w→Calls Tryz.prog n #[.pointer (some ⟨R,0,none⟩)] w (PO R d w (p s) (VS w.heap.size))
def rE (R d n:Nat)(p:PS→Rs (List St)):Prop:=∀(s:PS) (w:World),Rdr R d s w→Calls Tryz.prog n #[.pointer (some ⟨R,0,none⟩)] w (PO R d w (p s) (VB w.heap.size))
def zS:Obj:=.cells (aS cG aP).toArray 48
def Wr1 (g:Nat)(w w':World):Prop:=Fx (On g) w.heap.size w w'∧w'.heap.size=w.heap.size
theorem dX (w:World)(g j:Nat)(v:Value):Wr1 g w (w.setCell ⟨g,j,none⟩ v):=⟨bJ (X:=On g) (Fx.refl _ _ _) (p:=⟨g,j,none⟩) (.inl rfl) v,World.size_setCell ..⟩
theorem cV (w:World)(g:Nat)(cs:Array Value):Wr1 g w (w.setRow g cs):=⟨bI (X:=On g) (Fx.refl _ _ _) (g:=g) (.inl rfl) cs,aGN ..⟩
theorem cB (g:Nat):∀(vs:List Value) (o:Nat) (w:World),Wr1 g w (w.setCells g o vs)
 | [],_,w=>⟨Fx.refl _ _ _,rfl⟩
 | v::r,o,w=>by
  have h1:=dX w g o v;have h2:=cB g r (o+1) (w.setCell ⟨g,o,none⟩ v);exact⟨aJ h1.1 h2.1,h2.2.trans h1.2⟩
theorem Wr1.blk {g k:Nat}{w w':World}{t:TypeId}{cs:Array Value}(h:Wr1 g w w')(b:Blk w k t cs)(hk:k≠g):Blk w' k t cs:=h.1.blk b b.lt (fun x=>hk x)
theorem Wr1.rdr {R d g:Nat}{s:PS}{w w':World}(h:Wr1 g w w')(r:Rdr R d s w)(hg:R<g):Rdr R d s w':=r.fx h.1 r.lt (fun k hk (x:k=g)=>by omega)
theorem Wr1.fx {X:Nat→Prop}{g:Nat}{a w w':World}(h:Wr1 g w w')(f:Fx X a.heap.size a w)(hg:a.heap.size≤g):Fx X a.heap.size a w':=
 f.trans (h.1.mono f.size (fun k hk (x:k=g)=>by omega))
theorem oG {g:Nat}{t:TypeId}:∀(vs:List Value) (o:Nat) (w:World) (c:Array Value),Blk w g t c→∃c',Blk (w.setCells g o vs) g t c'∧c'.size=c.size∧∀j,c'[j]? = if o≤j∧j<o+vs.length∧j<c.size then vs[j-o]? else c[j]?
 | [],o,w,c,h=>⟨c,h,rfl,fun j=>by rw[if_neg (by simp;omega)]⟩
 | v::r,o,w,c,h=>by
  obtain⟨c',h1,h2,h3⟩:=oG r (o+1) (w.setCell ⟨g,o,none⟩ v) _ (h.set_ o v);refine⟨c',h1,by rw[h2];simp,fun j=>?_⟩;rw[h3 j];simp only[Array.size_setIfInBounds,List.length_cons]
  by_cases a1:o+1≤j∧j<o+1+r.length∧j<c.size
  ·rw[if_pos a1,if_pos (by omega)]
   obtain⟨n,rfl⟩:∃n,j=o+1+n:=⟨j - (o+1),by omega⟩;rw[show o+1+n-(o+1)=n by omega,show o+1+n-o=n+1 by omega];rfl
  ·rw[if_neg a1,Array.getElem?_setIfInBounds]
   by_cases a2:o=j
   ·subst a2
    rw[if_pos rfl]
    by_cases a3:o<c.size
    ·rw[if_pos a3,if_pos (by omega)]
     simp
    ·rw[if_neg a3,if_neg (by omega)]
     rw[Array.getElem?_eq_none (by omega)]
   ·rw[if_neg a2,if_neg (by omega)]
section
variable {ops:Array Oper} {rest:List Oper} {o:Oper} {a:Act} {w:World} {Q:Exit→Act→World→Prop}
theorem aBj (h:SH)(e:EH):(aS h e).length=15:=rfl
theorem iC (h:SH)(e:EH)(g:Nat)(old:Array Value)(hg:Blk w g 48 old)(hold:old.size=15)(hgd:o.guard=none)(x y:Operand)(ho:o.op=.store 48 x y)(hx:a.eval x=.pointer (some ⟨g,0,none⟩))(hy:a.eval y=stv h e)
  (hw:wpList Tryz.prog ops Q rest (a.put o.dst undef) (w.setRow g (aS h e).toArray)):wpList Tryz.prog ops Q (o::rest) a w:=
 wpList_store_row hgd 48 x y ho g (aS h e).toArray hx hy 48 old hg (by kernel_rfl) hold (by simp[aS,Value.oneCell']) hw
theorem aAu (h:SH)(e:EH)(g:Nat)(hg:Blk w g 48 (aS h e).toArray)(hgd:o.guard=none)(x:Operand)(ho:o.op=.load 48 x)(hx:a.eval x=.pointer (some ⟨g,0,none⟩))
  (hw:wpList Tryz.prog ops Q rest (a.put o.dst (stv h e)) w):wpList Tryz.prog ops Q (o::rest) a w:=
 wpList_load_row hgd 48 x ho g hx 48 (aS h e).toArray (0,0) _ hg Tryz.underlying48 rfl (by kernel_rfl) hw
theorem aKJ (h:SH)(e0 e:EH)(g:Nat)(hg:Blk w g 48 (aS h e0).toArray)(hgd:o.guard=none)(x y:Operand)(ho:o.op=.store 42 x y)(hx:a.eval x=.pointer (some ⟨g,4,none⟩))(hy:a.eval y=e.v)
  (hw:∀w',Hid (Blk w' g 48 (aS h e).toArray)→Hid (Wr1 g w w')→wpList Tryz.prog ops Q rest (a.put o.dst undef) w'):wpList Tryz.prog ops Q (o::rest) a w:=by
 refine wpList_store_mid hgd 42 x y ho g 4 e.va hx hy ?_ (by kernel_rfl) (by simp[EH.va,Value.oneCell']) (hw _ ?_ (cB g _ 4 w))
 ·intro j hj
  have hj:j<7:=hj;refine⟨?_,hg.frozen _⟩;rw[hg.cell];have:4+j<(aS h e0).toArray.size:=by show 4+j<15;omega
  rw[Array.getElem?_eq_getElem this];rfl
 ·obtain⟨c',h1,h2,h3⟩:=oG e.va.toList 4 w _ hg
  have:c'=(aS h e).toArray:=by
   apply Array.ext_getElem?;intro j;rw[h3 j];have hs:(aS h e0).toArray.size=15:=rfl;have hl:e.va.toList.length=7:=rfl;rw[hs,hl]
   match j with
   | 0|1|2|3|4|5|6|7|8|9|10|11|12|13|14=>rfl
   | j+15=>rw[if_neg (by omega),Array.getElem?_eq_none (by simp[aS]),Array.getElem?_eq_none (by simp[aS])]
  rw[←this];exact h1
end
theorem iG {fn:Func}{p:Tmp}(h:fn.results=#[.cell p 48])(tmps:Array Value)(w:World)(g:Nat)(s:SH)(e:EH)(hp:tmps.getD p undef=.pointer (some ⟨g,0,none⟩))(hg:Blk w g 48 (aS s e).toArray):(results fn tmps).run Tryz.prog w=.ok (stv s e) w:=
 results_cell_row h tmps w g 48 (aS s e).toArray (0,0) _ hp hg Tryz.underlying48 rfl (by kernel_rfl)
theorem aDY {kd ps lo hi:Int}{nm:List UInt8}{xs ts es:Sl}(hk0:0≤kd)(hk1:kd≤255)(hp0:0≤ps)(hp1:ps≤16384)(hl0:-2147483648≤lo)(hl1:lo≤2147483647)(hh0:-2147483648≤hi)(hh1:hi≤2147483647)(hn:nm.length≤16384)(hx:xs.ok)(ht:ts.ok)(he:es.ok) :
  (⟨kd,ps,nm,xs,lo,hi,ts,es⟩:SH).ok:=⟨hk0,hk1,by dsimp only;omega,by dsimp only;omega,hl0,hl1,hh0,hh1,aF hn (by unfold maxLen;decide),hx,ht,he⟩
theorem uX {D:Nat→Prop}{w:World}{K:Nat→St}:XB D ⟨none,0,0⟩ K w:=⟨iQ,(fun a ha=>by cases ha),fun i hi=>absurd hi (Nat.not_lt_zero i)⟩
theorem aGb {D:Nat→Prop}{w:World}{K:Nat→Ex}:XL D ⟨none,0,0⟩ K w:=⟨iQ,(fun a ha=>by cases ha),fun i hi=>absurd hi (Nat.not_lt_zero i)⟩
theorem aDW {D:Nat→Prop}{w:World}{h:SH}{x:Nat→Ex}{e:Ex}{t l:Nat→St}(ho:h.ok)(hx:XL D h.xs x w)(he:XO D e w)(ht:XB D h.ts t w)(hl:XB D h.es l w):XS D (.mk h x e t l) w:=
 ⟨ho,hx,he,ht.2.1,ht.2.2,hl.2.1,hl.2.2⟩
theorem oV (R d:Nat)(m:Bool)(s:PS)(w:World)(h:Rdr R d s w):Calls Tryz.prog 150 #[.pointer (some ⟨R,0,none⟩),.bool m] w (PO R d w (oP m s) fun n v _=>v=.int .i32 n):=by
 have fn:=fun t w=>aCA t w;have HR:=Hj h;have hn0:0≤s.hd.nn:=h.good.hd.nn0;have hn1:s.hd.nn≤2147483647:=h.good.hd.nn1;have HNN:=Hj (And.intro hn0 hn1);clear h hn0 hn1;generalize hZ:oP m s=Z;have HZ:=Hj hZ;clear hZ;go_enter Tryz.func150,Tryz.ntmps150;go_wp2_with fail;refine(eZ R d s 2 (by decide) w HR.out).mono ?_;intro r w1 hpo
 cases hres:eR 2 s with
 | no c q=>
  rw[hres]at hpo;obtain⟨rfl,f1⟩:=hpo;have HF1:=Hj f1;have E:Hid (Z=.no c q):=by show Z=_;rw[←HZ.out];unfold oP;rw[hres];rfl
  clear f1 hres;go_wp2_with fail;refine⟨rfl,?_⟩;rw[E.out];exact⟨rfl,HF1.out⟩
 | ok t s1=>
  rw[hres]at hpo;obtain⟨v,rfl,rfl,h1,f1⟩:=hpo
  have ht:t=s.hd:=by
   unfold eR at hres
   split at hres
   ·cases hres;rfl
   ·cases hres
  have E:Hid (Z=.ok (if m then -t.nn else t.nn) s1):=by show Z=_;rw[←HZ.out];unfold oP;rw[hres];rfl
  subst ht;have HF1:=Hj f1;have HR1:=Hj h1;have hn:=HNN.out;have ov:wrap32 (-s.hd.nn) = -s.hd.nn:=by unfold wrap32;omega
  clear f1 hres h1
  cases m with
  | true=>
   go_wp2_with fail;refine bodyPost_ret (results_tmp rfl _ _ _) rfl ?_;rw[E.out];exact⟨_,rfl,by simp[*],HR1.out,HF1.out⟩
  | false=>
   go_wp2_with fail;refine bodyPost_ret (results_tmp rfl _ _ _) rfl ?_;rw[E.out];exact⟨_,rfl,rfl,HR1.out,HF1.out⟩
theorem vY (R d:Nat)(s:PS)(w:World)(h:Rdr R d s w):Calls Tryz.prog 121 #[.pointer (some ⟨R,0,none⟩)] w (PO R d w (tW s) fun n v _=>v=.int .u8 n):=by
 have HR:=Hj h;have A:=Hj (dL R d s [98,111,111,108] (by decide) w h);clear h
 by_cases c1:s.hd.tx=[98,111,111,108]
 ·have e1:tW s=.ok 1 s.tk:=if_pos c1
  have e2:acS s [98,111,111,108]=s.tk:=if_pos c1;rw[e1];rw[cS c1,e2]at A;clear e1 e2 c1;go_enter Tryz.func121,Tryz.ntmps121;go_wp2_with fail;refine A.out.mono ?_;rintro r w1 ⟨rfl,h1,f1⟩;have HR1:=Hj h1;have HF1:=Hj f1;clear h1 f1 A;go_wp2_with fail;exact bodyPost_ret (results_tmp rfl _ _ _) rfl ⟨_,rfl,rfl,HR1.out,HF1.out⟩
 ·have e2:acS s [98,111,111,108]=s:=if_neg c1
  rw[cU c1,e2]at A
  by_cases c2:s.hd.tx=[105,110,116]
  ·have e1:tW s=.ok 2 s.tk:=by unfold tW;rw[if_neg c1,if_pos c2]
   rw[e1];have B:=Hj fun w h=>dL R d s [105,110,116] (by decide) w h;have e3:acS s [105,110,116]=s.tk:=if_pos c2;rw[cS c2,e3]at B;clear e1 e2 e3 c1 c2;go_enter Tryz.func121,Tryz.ntmps121;go_wp2_with fail;refine A.out.mono ?_;rintro r w1 ⟨rfl,h1,f1⟩;have HR1:=Hj h1;have HF1:=Hj f1;clear h1 f1 A;go_wp2_with fail;refine(B.out w1 HR1.out).mono ?_;rintro r w2 ⟨rfl,h2,f2⟩;have HR2:=Hj h2;have HF2:=Hj (aJ HF1.out f2);clear h2 f2 B;go_wp2_with fail;exact bodyPost_ret (results_tmp rfl _ _ _) rfl ⟨_,rfl,rfl,HR2.out,HF2.out⟩
  ·have e1:tW s=(cF [102,108,111,97,116] s).bind fun _ s'=>.ok 3 s':=by unfold tW;rw[if_neg c1,if_neg c2]
   have B:=Hj fun w h=>dL R d s [105,110,116] (by decide) w h;have e3:acS s [105,110,116]=s:=if_neg c2;rw[cU c2,e3]at B;rw[e1];clear e1 e2 e3 c1 c2;generalize hZ:((cF [102,108,111,97,116] s).bind fun _ s'=>Rs.ok (3:Int) s')=Z;have HZ:=Hj hZ;clear hZ;go_enter Tryz.func121,Tryz.ntmps121;go_wp2_with fail;refine A.out.mono ?_;rintro r w1 ⟨rfl,h1,f1⟩;have HR1:=Hj h1;have HF1:=Hj f1;clear h1 f1 A;go_wp2_with fail;refine(B.out w1 HR1.out).mono ?_;rintro r w2 ⟨rfl,h2,f2⟩;have HR2:=Hj h2;have HF2:=Hj (aJ HF1.out f2);clear h2 f2 B;go_wp2_with fail;refine(bU R d s [102,108,111,97,116] (by decide) w2 HR2.out).mono ?_;intro r w3 hpo
   cases hres:cF [102,108,111,97,116] s with
   | no c q=>
    rw[hres]at hpo;obtain⟨rfl,f3⟩:=hpo;have HF3:=Hj (aJ HF2.out f3);have E:Hid (Z=.no c q):=by show Z=_;rw[←HZ.out,hres];rfl
    clear f3 hres;go_wp2_with fail;refine⟨rfl,?_⟩;rw[E.out];exact⟨rfl,HF3.out⟩
   | ok u s3=>
    rw[hres]at hpo;obtain⟨v,rfl,hv,h3,f3⟩:=hpo;unfold V0 at hv;subst hv;have HF3:=Hj (aJ HF2.out f3);have HR3:=Hj h3;have E:Hid (Z=.ok 3 s3):=by show Z=_;rw[←HZ.out,hres];rfl
    clear f3 hres h3;go_wp2_with fail;refine bodyPost_ret (results_tmp rfl _ _ _) rfl ?_;rw[E.out];exact⟨_,rfl,rfl,HR3.out,HF3.out⟩
theorem wJ (s:PS):jT s=(s.hd.tx == [45],acS s [45]):=by
 unfold jT acS;split
 ·rename_i h;rw[cS h]
 ·rename_i h;rw[cU h]
theorem tL (R d:Nat)(s:PS)(w:World)(h:Rdr R d s w):Calls Tryz.prog 153 #[.pointer (some ⟨R,0,none⟩)] w (PO R d w (whl s) fun n v _=>v=.int .i32 n):=by
 have A:=Hj (dL R d s [45] (by decide) w h);have e1:whl s=oP (s.hd.tx == [45]) (acS s [45]):=by unfold whl;rw[wJ]
 rw[e1];clear e1 h;generalize (s.hd.tx == [45])=b at *;generalize acS s [45]=s1 at *;generalize hZ:oP b s1=Z;have HZ:=Hj hZ;clear hZ;go_enter Tryz.func153,Tryz.ntmps153;go_wp2_with fail;refine A.out.mono ?_;rintro r w1 ⟨rfl,h1,f1⟩;have HF1:=Hj f1;have B:=Hj (oV R d b s1 w1 h1);rw[HZ.out]at B;clear h1 f1 A;go_wp2_with fail;refine B.out.mono ?_;intro r w2 hpo;clear B
 cases Z with
 | no c q=>
  obtain⟨rfl,f2⟩:=hpo;have HF2:=Hj (aJ HF1.out f2);clear f2;go_wp2_with fail;exact⟨rfl,rfl,HF2.out⟩
 | ok n s2=>
  obtain⟨v,rfl,rfl,h2,f2⟩:=hpo;have HF2:=Hj (aJ HF1.out f2);have HR2:=Hj h2;clear f2 h2;go_wp2_with fail;exact bodyPost_ret (results_tmp rfl _ _ _) rfl ⟨_,rfl,rfl,HR2.out,HF2.out⟩
theorem aCq {s:PS}{x:List UInt8}(h:cM s.ts)(hx:x≠[]):cM (acS s x).ts:=by
 unfold acS;split
 ·rename_i e
  exact h.tail' (by rw[←PS.hd,e];exact hx)
 ·exact h
theorem qB (R d:Nat):dP R d 123 nI:=by
 intro s w h;have fk:=fun t w=>aCB t w;have fp:=fun t w=>oX t w;have ff:=fun t w=>aLl t w;have NB:Hid (Blk (w.alloc zX) w.heap.size 42 aP.va):=Blk.new _ _ _;have BL:=aY w zX;have HR:=Hj (h.alloc zX);have HLT:=Hj h.lt;have HS:Hid (Hd s.hd):=h.good.hd;have HG1:=Hj (aCq (x:=[45]) h.good (by decide));have HF:Hid (Fx (On R) w.heap.size w (w.alloc zX)):=Fx.of BL
 have e1:nI s=if(acS s [45]).hd.kd=3 then .ok (flX s.hd.ps (neF (s.hd.tx == [45]) (acS s [45]).hd.ff)) (acS s [45]).tk else(oP (s.hd.tx == [45]) (acS s [45])).bind fun n s'=>.ok (inX s.hd.ps n) s':=by
  unfold nI;rw[wJ]
 rw[e1];have A:=Hj fun w h=>dL R d s [45] (by decide) w h;clear BL h e1;generalize (s.hd.tx == [45])=b at *;generalize acS s [45]=s1 at *;have HS1:Hid (Hd s1.hd):=HG1.out.hd;generalize hZ:(if s1.hd.kd=3 then Rs.ok (flX s.hd.ps (neF b s1.hd.ff)) s1.tk else(oP b s1).bind fun n s'=>.ok (inX s.hd.ps n) s')=Z;have HZ:=Hj hZ;clear hZ;go_enter Tryz.func123,Tryz.ntmps123;go_upto_region 1 with fail;change (Code.region 1 _ _).wp _ _ _ (w.alloc zX);generalize w.alloc zX=wx at *;go_wp2_with fail;refine(cI R d s wx HR.out).mono ?_;rintro e w1 ⟨rfl,hb⟩;have NB1:=Hj (NB.out.below hb NB.out.lt);have HR1:=Hj (HR.out.below hb HR.out.lt);have HF1:=Hj (aZ HF.out hb);clear NB HR HF hb;go_wp2_with fail;refine(A.out w1 HR1.out).mono ?_;rintro r w2 ⟨rfl,h2,f2⟩;have NB2:=Hj (f2.blk NB1.out NB1.out.lt (aO HLT.out));have HF2:=Hj (aJ HF1.out f2);have HR2:=Hj h2;clear h2 f2 A NB1 HR1 HF1;go_wp2_with fail;refine(cI R d s1 w2 HR2.out).mono ?_;rintro e w3 ⟨rfl,hb⟩;have NB3:=Hj (NB2.out.below hb NB2.out.lt);have HR3:=Hj (HR2.out.below hb HR2.out.lt);have HF3:=Hj (aZ HF2.out hb);clear NB2 HR2 HF2 hb
 by_cases c:s1.hd.kd=3
 ·have E:Hid (Z=.ok (flX s.hd.ps (neF b s1.hd.ff)) s1.tk):=by show Z=_;rw[←HZ.out,if_pos c]
  have hk:s1.hd.kd≠0:=by omega
  have c2:(s1.hd.kd == 3)=true:=by simp[c]
  have T:=Hj fun w h=>dG R d s1 w h hk;clear c hk HZ;go_wp2_with fail;refine(T.out w3 HR3.out).mono ?_;rintro r w4 ⟨rfl,h4,f4⟩;have NB4:=Hj (f4.blk NB3.out NB3.out.lt (aO HLT.out));have HF4:=Hj (aJ HF3.out f4);have HR4:=Hj h4;clear h4 f4 T NB3 HR3 HF3;have ok:∀f,0≤f→f<18446744073709551616→XO (Fro w.heap.size) (flX s.hd.ps f) (w4.setRow w.heap.size (EH.va ⟨3,s.hd.ps,false,0,f,[],⟨none,0,0⟩⟩)):=fun f h0 h1=>qO (tS (by decide) (by decide) HS.out.ps0 HS.out.ps1 (by decide) (by decide) h0 h1 (Nat.zero_le _) iQ) rfl;have OK:=Hj ok;have hf0:=HS1.out.ff0;have hf1:=HS1.out.ff1;have or:=aMP hf0 hf1;have HOR:=Hj (And.intro hf0 hf1);clear ok hf0 hf1
  cases b with
  | true=>
   have nf:neF true s1.hd.ff=s1.hd.ff+9223372036854775808:=by unfold neF;rw[if_pos rfl,if_pos HOR.out.2]
   rw[nf]at E;clear nf
   go_wp2_with (refine eL ⟨3,s.hd.ps,false,0,s1.hd.ff+9223372036854775808,[],⟨none,0,0⟩⟩ w.heap.size _ NB4.out rfl rfl _ _ rfl rfl rfl ?_)
   refine bodyPost_ret (fQ rfl _ _ w.heap.size ⟨3,s.hd.ps,false,0,s1.hd.ff+9223372036854775808,[],⟨none,0,0⟩⟩ rfl (NB4.out.rowS _)) rfl ?_;rw[E.out];exact⟨_,rfl,⟨flX s.hd.ps (s1.hd.ff+9223372036854775808),rfl,OK.out _ (by have:=HOR.out;omega) (by have:=HOR.out;omega),Ex.eqv_refl _⟩,HR4.out.row HLT.out _,bI HF4.out (.inr (aD _)) _⟩
  | false=>
   have nf:neF false s1.hd.ff=s1.hd.ff:=by unfold neF;rw[if_neg (by decide)]
   rw[nf]at E;clear nf or
   go_wp2_with (refine eL ⟨3,s.hd.ps,false,0,s1.hd.ff,[],⟨none,0,0⟩⟩ w.heap.size _ NB4.out rfl rfl _ _ rfl rfl rfl ?_)
   refine bodyPost_ret (fQ rfl _ _ w.heap.size ⟨3,s.hd.ps,false,0,s1.hd.ff,[],⟨none,0,0⟩⟩ rfl (NB4.out.rowS _)) rfl ?_;rw[E.out];exact⟨_,rfl,⟨flX s.hd.ps s1.hd.ff,rfl,OK.out _ (by have:=HOR.out;omega) (by have:=HOR.out;omega),Ex.eqv_refl _⟩,HR4.out.row HLT.out _,bI HF4.out (.inr (aD _)) _⟩
 ·have E:Hid ((oP b s1).bind (fun n s'=>.ok (inX s.hd.ps n) s')=Z):=by show _=Z;rw[←HZ.out,if_neg c]
  have c2:(s1.hd.kd == 3)=false:=by simp[c]
  clear c HZ;go_wp2_with fail;refine(oV R d b s1 w3 HR3.out).mono ?_;intro r w4 hpo
  cases hres:oP b s1 with
  | no c q=>
   rw[hres]at hpo;obtain⟨rfl,f4⟩:=hpo;have HF4:=Hj (aJ HF3.out f4);have E4:Hid (Z=.no c q):=by show Z=_;rw[←E.out,hres];rfl
   clear f4 hres;go_wp2_with fail;refine⟨rfl,?_⟩;rw[E4.out];exact⟨rfl,HF4.out⟩
  | ok n s4=>
   rw[hres]at hpo;obtain⟨v,rfl,rfl,h4,f4⟩:=hpo;have E4:Hid (Z=.ok (inX s.hd.ps n) s4):=by show Z=_;rw[←E.out,hres];rfl
   have hb:-2147483648≤n∧n≤2147483647:=by
    unfold oP eR at hres
    split at hres
    ·rw[bG]at hres
     cases hres;have:=HS1.out.nn0;have:=HS1.out.nn1
     split<;>omega
    ·cases hres
   have HN:=Hj hb;have NB4:=Hj (f4.blk NB3.out NB3.out.lt (aO HLT.out));have HF4:=Hj (aJ HF3.out f4);have HR4:=Hj h4;clear h4 f4 NB3 HR3 HF3 hres hb E
   go_wp2_with (refine eL ⟨2,s.hd.ps,false,n,0,[],⟨none,0,0⟩⟩ w.heap.size _ NB4.out rfl rfl _ _ rfl rfl rfl ?_)
   refine bodyPost_ret (fQ rfl _ _ w.heap.size ⟨2,s.hd.ps,false,n,0,[],⟨none,0,0⟩⟩ rfl (NB4.out.rowS _)) rfl ?_;rw[E4.out];exact⟨_,rfl,⟨inX s.hd.ps n,rfl,qO (tS (by decide) (by decide) HS.out.ps0 HS.out.ps1 HN.out.1 HN.out.2 (by decide) (by decide) (Nat.zero_le _) iQ) rfl,Ex.eqv_refl _⟩,HR4.out.row HLT.out _,bI HF4.out (.inr (aD _)) _⟩
end Go.Proofs.YtkbicfffokegeaaGreatDoor
