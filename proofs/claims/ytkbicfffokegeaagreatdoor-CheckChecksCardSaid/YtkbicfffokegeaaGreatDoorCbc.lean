/-
  Whatever program is handed in, CheckChecks answers true. (part 29 of 38) Conditions: none beside what the card ties.
-/
import Derived.Test.YtkbicfffokegeaaGreatDoorCbb
import Derived.Great.Walk
namespace Go.Proofs.YtkbicfffokegeaaGreatDoor
set_option maxHeartbeats 16000000
open Go.RowKit
set_option maxRecDepth 100000
theorem aGK:jH 105:=dJ (by rfl) (by kernel_rfl) rfl
theorem aIL (P:PS→Rs (List St))(s:PS):blk none s=fB 24 [123] [125] P s:=by
 unfold blk fB
 split<;>rfl
theorem aIK (P:PS→Rs St)(d:Nat)(hd:d<24)(s:PS)(g:cM s.ts):blk (some P) s=fB d [123] [125] (wK P) s:=by
 unfold blk fB;split
 ·rw[if_neg (by omega)]
  dsimp only;rw[aHG];unfold wK;have:=dY g;rw[show s.tk.ts.length+2=s.ts.length+1 by omega]
 ·rfl
theorem wD (R d k:Nat)(hdk:d+k=24)(hs:∀k',k=k'+1→xW R (d+1) 106 (stK k')):rE R d 84 (blk (sK k)):=by
 intro s w h;have hmf:∀(fn:Fn) (first cap:Array Value) (w:World),(Instr.makeFunc fn first cap).run Tryz.prog w=.ok (.func fn first cap) w:=fun _ _ _ _=>rfl
 obtain⟨P,hP,hrd,e⟩:∃P:PS→Rs St,(d<24→xW R (d+1) 106 P)∧Rdy P∧blk (sK k) s=fB d [123] [125] (wK P) s:=by
  cases k with
  | zero=>
   obtain rfl:d=24:=by omega
   exact⟨stK 0,fun h=>absurd h (by decide),aGR 0,aIL _ s⟩
  | succ k=>exact⟨stK k,fun _=>hs k rfl,aGR k,aIK _ d (by omega) s h.good⟩
 rw[e];have BL:Below w.heap.size w ((w.alloc (oR R)).alloc zSs):=aI (aY w _) _;have k0:Blk ((w.alloc (oR R)).alloc zSs) w.heap.size 108 #[.pointer (some ⟨R,0,none⟩)]:=(Blk.new w _ _).alloc zSs
 have k1:Blk ((w.alloc (oR R)).alloc zSs) (w.heap.size+1) 23 #[.slice none 0 0]:=by
  have:=Blk.new (w.alloc (oR R)) 23 #[.slice none 0 0];rw[World.size_alloc]at this;exact this
 have hl:=h.lt;have c0:((w.alloc (oR R)).alloc zSs).cell? ⟨w.heap.size,0,none⟩=some (.pointer (some ⟨R,0,none⟩)):=k0.cell 0
 have C:=Hj (fR R d 105 [123] [125] (by decide) (by decide) #[.pointer (some ⟨w.heap.size,0,none⟩),.pointer (some ⟨w.heap.size+1,0,none⟩)] (Two R (w.heap.size+1)) s (wK P) (GS (w.heap.size+1)) aGK (.inl rfl) (fun a w1 w2=>aKW (by omega) a w1 w2) _ (h.below BL h.lt)
  (fun k (x:k=R∨k=w.heap.size+1)=>by have:=k1.lt;omega)
  (fun hd w1 h1 f1=>aHi R (d+1) _ _ P (hP hd) hrd s.tk w1 h1 (f1.blk k0 k0.lt (aO hl)) (f1.blk k1 k1.lt (aO (by omega))) (by omega) hl (by omega)))
 have HF:Hid (Fx (On R) w.heap.size w ((w.alloc (oR R)).alloc zSs)):=Fx.of BL;clear BL k0 k1 h hP hl e hs hdk;generalize fB d [123] [125] (wK P) s=Z at *;go_enter Tryz.func84,Tryz.ntmps84;go_upto_region 2 with fail;change (Code.region 2 _ _).wp _ _ _ ((w.alloc (oR R)).alloc zSs);generalize (w.alloc (oR R)).alloc zSs=wx at *;go_wp2_with fail;refine C.out.mono ?_;intro r w2 hpo;clear C
 cases Z with
 | no c q=>
  obtain⟨rfl,f1⟩:=hpo;have HF2:=Hj (HF.out.trans (gN f1 HF.out.size (Nat.le_succ _)));clear f1;go_wp2_with fail;exact⟨rfl,rfl,HF2.out⟩
 | ok l s1=>
  obtain⟨rfl,⟨S,K,hb,xb,eb⟩,h1,f1⟩:=hpo;have HF2:=Hj (HF.out.trans (gN f1 HF.out.size (Nat.le_succ _)));have e1:w2.cell? ⟨w.heap.size+1,0,none⟩=some (.slice S.ao S.n S.c):=hb.cell 0;have HX:=Hj xb;have HR2:=Hj h1;have EB:=Hj eb;clear f1 xb h1 eb hb HF;go_wp2_with fail;refine bodyPost_ret (results_tmp rfl _ _ _) rfl ?_;exact⟨_,rfl,⟨S,K,rfl,HX.out.imp (fun k _ (x:w.heap.size+1<k)=>(by show w.heap.size≤k;omega)),EB.out⟩,HR2.out,HF2.out⟩
theorem Blk.fiveV {w:World}{g:Nat}{t:Tk}(h:Blk w g 133 t.vs) :
  w.cell? ⟨g,0,none⟩=some (.int .u8 t.kd)∧w.cell? ⟨g,1,none⟩=some (.int .i64 t.ps)∧w.cell? ⟨g,2,none⟩=some (.string ⟨t.tx.toArray⟩)∧w.cell? ⟨g,3,none⟩=some (.int .i32 t.nn)∧w.cell? ⟨g,4,none⟩=some (.int .u64 t.ff):=⟨h.cell 0,h.cell 1,h.cell 2,h.cell 3,h.cell 4⟩
theorem aEU (k:Nat)(d:Option (PS→Rs St))(s:PS):stm k d s =
  if s.hd.kd≠1∧s.hd.tx≠ifW∧s.hd.tx≠sJ then bad s
  else if s.ns=200 then .no 112 s.hd.ps
  else if s.hd.tx=ifW then oE k d s.hd.ps ⟨s.ts.tail,s.ns+1,s.nx⟩
  else if s.hd.tx=sJ then zF d s.hd.ps ⟨s.ts.tail,s.ns+1,s.nx⟩
  else oI k s.hd.ps s.hd.tx ⟨s.ts.tail,s.ns+1,s.nx⟩:=rfl
theorem yY (R d k:Nat)(hdk:d+k=24)(hb:rE R d 84 (blk (sK k)))(he:rE R d 152 (wZ (sK k))):xW R d 106 (stK k):=by
 intro s w h;have NB:Hid (Blk (w.alloc zS) w.heap.size 48 (aS cG aP).toArray):=Blk.new _ _ _;have BL:=aY w zS;have HR:=Hj (h.alloc zS);have HLT:=Hj h.lt;have HF:Hid (Fx (On R) w.heap.size w (w.alloc zS)):=Fx.of BL;have HS:Hid (Hd s.hd):=h.good.hd;have HG:=Hj h.good;rw[aLt,aEU]
 generalize hZ:(if s.hd.kd≠1∧s.hd.tx≠ifW∧s.hd.tx≠sJ then bad s
  else if s.ns=200 then .no 112 s.hd.ps
  else if s.hd.tx=ifW then oE k (sK k) s.hd.ps ⟨s.ts.tail,s.ns+1,s.nx⟩
  else if s.hd.tx=sJ then zF (sK k) s.hd.ps ⟨s.ts.tail,s.ns+1,s.nx⟩
  else oI k s.hd.ps s.hd.tx ⟨s.ts.tail,s.ns+1,s.nx⟩)=Z
 have HZ:=Hj hZ;clear BL h hZ;go_enter Tryz.func106,Tryz.ntmps106;go_upto_region 1 with fail;change (Code.region 1 _ _).wp _ _ _ (w.alloc zS);generalize w.alloc zS=wx at *;go_wp2_with fail;refine(cI R d s wx HR.out).mono ?_;rintro e w2 ⟨rfl,hb2⟩;have BLb:Below w2.heap.size w2 (w2.alloc (oK s.hd)):=aY _ _;have BB:=hb2.trans (BLb.mono hb2.size);have NB2:=Hj (NB.out.below BB NB.out.lt);have HR2:=Hj (HR.out.below BB HR.out.lt);have HF2:=Hj (aZ HF.out BB);have HS2:Hid (w.heap.size<w2.heap.size):=aE NB.out.lt hb2.size;have TB:Hid (Blk (w2.alloc (oK s.hd)) w2.heap.size 133 s.hd.vs):=Blk.new _ _ _;clear hb2 BLb BB NB HR HF;unfold Tk.v;go_upto_region 2 with fail;change (Code.region 2 _ _).wp _ _ _ (w2.alloc (oK s.hd));generalize w2.alloc (oK s.hd)=w3 at *;generalize w2.heap.size=tb at *;obtain⟨t0,t1,t2,t3,t4⟩:=TB.out.fiveV;have HTB:Hid (R<tb):=Nat.lt_trans HLT.out HS2.out
 by_cases cb:s.hd.kd≠1∧s.hd.tx≠ifW∧s.hd.tx≠sJ
 ·have E:Hid (Z=.no 110 s.hd.ps):=by show Z=_;rw[←HZ.out,if_pos cb];rfl
  have b1:(s.hd.kd == 1)=false:=by simp[cb.1]
  have b0:¬s.hd.kd=1:=cb.1;have b2:(s.hd.tx == [105,102])=false:=cU cb.2.1;have b3:(s.hd.tx == [102,111,114])=false:=cU cb.2.2;clear cb HZ;go_wp2_with fail;refine(fG R d s w3 HR2.out).mono ?_;rintro r w5 ⟨rfl,hb5⟩;have HF5:=Hj (aZ HF2.out hb5);clear hb5;go_wp2_with fail;refine⟨rfl,?_⟩;rw[E.out];exact⟨rfl,HF5.out⟩
 ·have hk:s.hd.kd≠0:=by
   by_cases c:s.hd.kd=1
   ·omega
   ·refine HG.out.kd ?_
    intro e;apply cb;have e:s.hd.tx=[]:=e;refine⟨c,?_,?_⟩<;>rw[e]<;>decide
  have E:Hid ((if s.ns=200 then .no 112 s.hd.ps
  else if s.hd.tx=ifW then oE k (sK k) s.hd.ps ⟨s.ts.tail,s.ns+1,s.nx⟩
  else if s.hd.tx=sJ then zF (sK k) s.hd.ps ⟨s.ts.tail,s.ns+1,s.nx⟩
  else oI k s.hd.ps s.hd.tx ⟨s.ts.tail,s.ns+1,s.nx⟩)=Z):=by show _=Z;rw[←HZ.out,if_neg cb]
  have HK:=Hj hk;clear HZ hk
  have c3:s.hd.kd=1∨(¬s.hd.kd=1∧s.hd.tx=ifW)∨(¬s.hd.kd=1∧¬s.hd.tx=ifW∧s.hd.tx=sJ):=by
   by_cases a1:s.hd.kd=1
   ·exact .inl a1
   ·by_cases a2:s.hd.tx=ifW
    ·exact .inr (.inl ⟨a1,a2⟩)
    ·by_cases a3:s.hd.tx=sJ
     ·exact .inr (.inr ⟨a1,a2,a3⟩)
     ·exact absurd ⟨a1,a2,a3⟩ cb
  clear cb;rcases c3 with a1|⟨a1,a2⟩|⟨a1,a2,a3⟩
  ·go_upto_region 4 with fail
   clear a1;have HF4b:=Hj (aZ HF2.out (aH (Below.refl w3.heap.size w3)));have NB4b:Hid (Blk w3.drew w.heap.size 48 (aS cG aP).toArray):=NB2.out;have TB4b:Hid (Blk w3.drew tb 133 s.hd.vs):=TB.out;have HR4b:=Hj (HR2.out.below (aH (Below.refl w3.heap.size w3)) HR2.out.lt)
   go_still_tail 5,(by kernel_rfl)
   change wpList _ _ _ _ _ w3.drew;clear NB2 TB HR2 HF2 t0 t1 t2 t3 t4;generalize w3.drew=w4 at *;obtain⟨T,o,c,C⟩:=HR4b.out.rc;have CC:=Hj C;have hns:=C.ns;have KC:=gH R 2 s.ns 200 s.hd.ps w4 (C.blk.cell 2) (C.blk.frozen 2) (by omega);clear C
   by_cases cn:s.ns=200
   ·have E2:Hid (Z=.no 112 s.hd.ps):=by show Z=_;rw[←E.out,if_pos cn]
    simp only[if_pos (show(s.ns:Int)=200 by omega)]at KC;have KK:=Hj KC;clear KC E hns;go_wp2_with fail;refine KK.out.mono ?_;rintro r w5 ⟨rfl,rfl⟩;clear KK;go_wp2_with fail;refine⟨rfl,?_⟩;rw[E2.out];exact⟨rfl,HF4b.out⟩
   ·have E2:=E.out
    rw[if_neg cn]at E2;have E:=Hj E2;simp only[if_neg (show ¬(s.ns:Int)=200 by omega)]at KC;have KK:=Hj KC;have HNN:Hid (s.ns+1≤200):=by show s.ns+1≤200;omega
    clear KC E2 hns cn;go_wp2_with fail;refine KK.out.mono ?_;rintro r w5 ⟨rfl,rfl⟩;clear KK;have b1:=CC.out.blk.set_ 2 (.int .i64 ((s.ns:Int)+1));have hr:Rdr R d ⟨s.ts,s.ns+1,s.nx⟩ (w4.setCell ⟨R,2,none⟩ (.int .i64 ((s.ns:Int)+1))):=CC.out.nums b1 (Below.heap_setCell _ _ _ _ (Nat.ne_of_lt CC.out.tr)) HNN.out CC.out.nx CC.out.dp;have HRx:=Hj hr;have NBx:=Hj (NB4b.out.far (p:=⟨R,2,none⟩) (Nat.ne_of_gt HLT.out) (.int .i64 ((s.ns:Int)+1)));have TBx:=Hj (TB4b.out.far (p:=⟨R,2,none⟩) (Nat.ne_of_gt HTB.out) (.int .i64 ((s.ns:Int)+1)));have HFx:=Hj (bJ (X:=On R) HF4b.out (p:=⟨R,2,none⟩) (.inl rfl) (.int .i64 ((s.ns:Int)+1)));clear b1 hr NB4b TB4b HF4b HR4b CC;generalize w4.setCell ⟨R,2,none⟩ (.int .i64 ((s.ns:Int)+1))=wv at *;go_wp2_with fail;refine(dG R d ⟨s.ts,s.ns+1,s.nx⟩ wv HRx.out HK.out).mono ?_;rintro r w5 ⟨rfl,h5,f5⟩;have HR5:Hid (Rdr R d ⟨s.ts.tail,s.ns+1,s.nx⟩ w5):=h5;have NB5:=Hj (f5.blk NBx.out NBx.out.lt (aO HLT.out));have TB5:=Hj (f5.blk TBx.out TBx.out.lt (aO HTB.out));have HF5:=Hj (aJ HFx.out f5);clear h5 f5 HRx NBx TBx HFx;obtain⟨t0,t1,t2,t3,t4⟩:=TB5.out.fiveV
    by_cases ci:s.hd.tx=ifW
    ·have E2:=E.out
     rw[if_pos ci]at E2;have E:=Hj E2;have i1:(s.hd.tx == [105,102])=true:=cS ci;clear E2 ci;have CT:=Hj (nD R d k hdk hb he s.hd.ps HS.out.ps0 HS.out.ps1 ⟨s.ts.tail,s.ns+1,s.nx⟩ w5 HR5.out);rw[E.out]at CT;clear E;go_wp2_with fail;refine CT.out.mono ?_;intro r w6 hpo;clear CT
     cases Z with
     | no c q=>
      obtain⟨rfl,f6⟩:=hpo;have HF6:=Hj (aJ HF5.out f6);clear f6;go_wp2_with fail;exact⟨rfl,rfl,HF6.out⟩
     | ok a s6=>
      obtain⟨v,rfl,⟨b,rfl,xb,eb⟩,h6,f6⟩:=hpo;have HF6:=Hj (aJ HF5.out f6);have NB6:=Hj (f6.blk NB5.out NB5.out.lt (aO HLT.out));have HX6:=Hj (xb.imp (D':=fun k=>w.heap.size<k) (fun k _ (x:w5.heap.size≤k)=>aE NB5.out.lt x));have HR6:=Hj h6;have EB:=Hj eb;clear f6 xb h6 eb NB5
      go_wp2_with (refine iC b.h b.e.h w.heap.size _ NB6.out rfl rfl _ _ rfl rfl rfl ?_)
      refine bodyPost_ret (iG rfl _ _ w.heap.size b.h b.e.h rfl (NB6.out.rowS _)) rfl ?_;exact⟨_,rfl,⟨b,rfl,(HX6.out.fx (cV _ w.heap.size _).1 (aQ (Nat.lt_irrefl _))).imp (fun k _ x=>Nat.le_of_lt x),EB.out⟩,HR6.out.row HLT.out _,bI HF6.out (.inr (aD _)) _⟩
    ·by_cases cf:s.hd.tx=sJ
     ·have E2:=E.out
      rw[if_neg ci,if_pos cf]at E2;have E:=Hj E2;have i1:(s.hd.tx == [105,102])=false:=cU ci;have i2:(s.hd.tx == [102,111,114])=true:=cS cf;clear E2 ci cf;have CT:=Hj (rZ R d k hb s.hd.ps HS.out.ps0 HS.out.ps1 ⟨s.ts.tail,s.ns+1,s.nx⟩ w5 HR5.out);rw[E.out]at CT;clear E;go_wp2_with fail;refine CT.out.mono ?_;intro r w6 hpo;clear CT
      cases Z with
      | no c q=>
       obtain⟨rfl,f6⟩:=hpo;have HF6:=Hj (aJ HF5.out f6);clear f6;go_wp2_with fail;exact⟨rfl,rfl,HF6.out⟩
      | ok a s6=>
       obtain⟨v,rfl,⟨b,rfl,xb,eb⟩,h6,f6⟩:=hpo;have HF6:=Hj (aJ HF5.out f6);have NB6:=Hj (f6.blk NB5.out NB5.out.lt (aO HLT.out));have HX6:=Hj (xb.imp (D':=fun k=>w.heap.size<k) (fun k _ (x:w5.heap.size≤k)=>aE NB5.out.lt x));have HR6:=Hj h6;have EB:=Hj eb;clear f6 xb h6 eb NB5
       go_wp2_with (refine iC b.h b.e.h w.heap.size _ NB6.out rfl rfl _ _ rfl rfl rfl ?_)
       refine bodyPost_ret (iG rfl _ _ w.heap.size b.h b.e.h rfl (NB6.out.rowS _)) rfl ?_;exact⟨_,rfl,⟨b,rfl,(HX6.out.fx (cV _ w.heap.size _).1 (aQ (Nat.lt_irrefl _))).imp (fun k _ x=>Nat.le_of_lt x),EB.out⟩,HR6.out.row HLT.out _,bI HF6.out (.inr (aD _)) _⟩
     ·have E2:=E.out
      rw[if_neg ci,if_neg cf]at E2;have E:=Hj E2;have i1:(s.hd.tx == [105,102])=false:=cU ci;have i2:(s.hd.tx == [102,111,114])=false:=cU cf;clear E2 ci cf;have CT:=Hj (nE R d k hdk s.hd HS.out ⟨s.ts.tail,s.ns+1,s.nx⟩ w5 HR5.out);rw[E.out]at CT;clear E;go_wp2_with fail;refine CT.out.mono ?_;intro r w6 hpo;clear CT
      cases Z with
      | no c q=>
       obtain⟨rfl,f6⟩:=hpo;have HF6:=Hj (aJ HF5.out f6);clear f6;go_wp2_with fail;exact⟨rfl,rfl,HF6.out⟩
      | ok a s6=>
       obtain⟨v,rfl,⟨b,rfl,xb,eb⟩,h6,f6⟩:=hpo;have HF6:=Hj (aJ HF5.out f6);have NB6:=Hj (f6.blk NB5.out NB5.out.lt (aO HLT.out));have HX6:=Hj (xb.imp (D':=fun k=>w.heap.size<k) (fun k _ (x:w5.heap.size≤k)=>aE NB5.out.lt x));have HR6:=Hj h6;have EB:=Hj eb;clear f6 xb h6 eb NB5
       go_wp2_with (refine iC b.h b.e.h w.heap.size _ NB6.out rfl rfl _ _ rfl rfl rfl ?_)
       refine bodyPost_ret (iG rfl _ _ w.heap.size b.h b.e.h rfl (NB6.out.rowS _)) rfl ?_;exact⟨_,rfl,⟨b,rfl,(HX6.out.fx (cV _ w.heap.size _).1 (aQ (Nat.lt_irrefl _))).imp (fun k _ x=>Nat.le_of_lt x),EB.out⟩,HR6.out.row HLT.out _,bI HF6.out (.inr (aD _)) _⟩
  ·have g1:(s.hd.kd == 1)=false:=by simp[a1]
   have g2:s.hd.tx=[105,102]:=a2;clear a2;go_upto_region 4 with fail;clear a1 g1 g2;have HF4b:=Hj (aZ HF2.out (aH (Below.refl w3.heap.size w3)));have NB4b:Hid (Blk w3.drew w.heap.size 48 (aS cG aP).toArray):=NB2.out;have TB4b:Hid (Blk w3.drew tb 133 s.hd.vs):=TB.out;have HR4b:=Hj (HR2.out.below (aH (Below.refl w3.heap.size w3)) HR2.out.lt)
   go_still_tail 5,(by kernel_rfl)
   change wpList _ _ _ _ _ w3.drew;clear NB2 TB HR2 HF2 t0 t1 t2 t3 t4;generalize w3.drew=w4 at *;obtain⟨T,o,c,C⟩:=HR4b.out.rc;have CC:=Hj C;have hns:=C.ns;have KC:=gH R 2 s.ns 200 s.hd.ps w4 (C.blk.cell 2) (C.blk.frozen 2) (by omega);clear C
   by_cases cn:s.ns=200
   ·have E2:Hid (Z=.no 112 s.hd.ps):=by show Z=_;rw[←E.out,if_pos cn]
    simp only[if_pos (show(s.ns:Int)=200 by omega)]at KC;have KK:=Hj KC;clear KC E hns;go_wp2_with fail;refine KK.out.mono ?_;rintro r w5 ⟨rfl,rfl⟩;clear KK;go_wp2_with fail;refine⟨rfl,?_⟩;rw[E2.out];exact⟨rfl,HF4b.out⟩
   ·have E2:=E.out
    rw[if_neg cn]at E2;have E:=Hj E2;simp only[if_neg (show ¬(s.ns:Int)=200 by omega)]at KC;have KK:=Hj KC;have HNN:Hid (s.ns+1≤200):=by show s.ns+1≤200;omega
    clear KC E2 hns cn;go_wp2_with fail;refine KK.out.mono ?_;rintro r w5 ⟨rfl,rfl⟩;clear KK;have b1:=CC.out.blk.set_ 2 (.int .i64 ((s.ns:Int)+1));have hr:Rdr R d ⟨s.ts,s.ns+1,s.nx⟩ (w4.setCell ⟨R,2,none⟩ (.int .i64 ((s.ns:Int)+1))):=CC.out.nums b1 (Below.heap_setCell _ _ _ _ (Nat.ne_of_lt CC.out.tr)) HNN.out CC.out.nx CC.out.dp;have HRx:=Hj hr;have NBx:=Hj (NB4b.out.far (p:=⟨R,2,none⟩) (Nat.ne_of_gt HLT.out) (.int .i64 ((s.ns:Int)+1)));have TBx:=Hj (TB4b.out.far (p:=⟨R,2,none⟩) (Nat.ne_of_gt HTB.out) (.int .i64 ((s.ns:Int)+1)));have HFx:=Hj (bJ (X:=On R) HF4b.out (p:=⟨R,2,none⟩) (.inl rfl) (.int .i64 ((s.ns:Int)+1)));clear b1 hr NB4b TB4b HF4b HR4b CC;generalize w4.setCell ⟨R,2,none⟩ (.int .i64 ((s.ns:Int)+1))=wv at *;go_wp2_with fail;refine(dG R d ⟨s.ts,s.ns+1,s.nx⟩ wv HRx.out HK.out).mono ?_;rintro r w5 ⟨rfl,h5,f5⟩;have HR5:Hid (Rdr R d ⟨s.ts.tail,s.ns+1,s.nx⟩ w5):=h5;have NB5:=Hj (f5.blk NBx.out NBx.out.lt (aO HLT.out));have TB5:=Hj (f5.blk TBx.out TBx.out.lt (aO HTB.out));have HF5:=Hj (aJ HFx.out f5);clear h5 f5 HRx NBx TBx HFx;obtain⟨t0,t1,t2,t3,t4⟩:=TB5.out.fiveV
    by_cases ci:s.hd.tx=ifW
    ·have E2:=E.out
     rw[if_pos ci]at E2;have E:=Hj E2;have i1:(s.hd.tx == [105,102])=true:=cS ci;clear E2 ci;have CT:=Hj (nD R d k hdk hb he s.hd.ps HS.out.ps0 HS.out.ps1 ⟨s.ts.tail,s.ns+1,s.nx⟩ w5 HR5.out);rw[E.out]at CT;clear E;go_wp2_with fail;refine CT.out.mono ?_;intro r w6 hpo;clear CT
     cases Z with
     | no c q=>
      obtain⟨rfl,f6⟩:=hpo;have HF6:=Hj (aJ HF5.out f6);clear f6;go_wp2_with fail;exact⟨rfl,rfl,HF6.out⟩
     | ok a s6=>
      obtain⟨v,rfl,⟨b,rfl,xb,eb⟩,h6,f6⟩:=hpo;have HF6:=Hj (aJ HF5.out f6);have NB6:=Hj (f6.blk NB5.out NB5.out.lt (aO HLT.out));have HX6:=Hj (xb.imp (D':=fun k=>w.heap.size<k) (fun k _ (x:w5.heap.size≤k)=>aE NB5.out.lt x));have HR6:=Hj h6;have EB:=Hj eb;clear f6 xb h6 eb NB5
      go_wp2_with (refine iC b.h b.e.h w.heap.size _ NB6.out rfl rfl _ _ rfl rfl rfl ?_)
      refine bodyPost_ret (iG rfl _ _ w.heap.size b.h b.e.h rfl (NB6.out.rowS _)) rfl ?_;exact⟨_,rfl,⟨b,rfl,(HX6.out.fx (cV _ w.heap.size _).1 (aQ (Nat.lt_irrefl _))).imp (fun k _ x=>Nat.le_of_lt x),EB.out⟩,HR6.out.row HLT.out _,bI HF6.out (.inr (aD _)) _⟩
    ·by_cases cf:s.hd.tx=sJ
     ·have E2:=E.out
      rw[if_neg ci,if_pos cf]at E2;have E:=Hj E2;have i1:(s.hd.tx == [105,102])=false:=cU ci;have i2:(s.hd.tx == [102,111,114])=true:=cS cf;clear E2 ci cf;have CT:=Hj (rZ R d k hb s.hd.ps HS.out.ps0 HS.out.ps1 ⟨s.ts.tail,s.ns+1,s.nx⟩ w5 HR5.out);rw[E.out]at CT;clear E;go_wp2_with fail;refine CT.out.mono ?_;intro r w6 hpo;clear CT
      cases Z with
      | no c q=>
       obtain⟨rfl,f6⟩:=hpo;have HF6:=Hj (aJ HF5.out f6);clear f6;go_wp2_with fail;exact⟨rfl,rfl,HF6.out⟩
      | ok a s6=>
       obtain⟨v,rfl,⟨b,rfl,xb,eb⟩,h6,f6⟩:=hpo;have HF6:=Hj (aJ HF5.out f6);have NB6:=Hj (f6.blk NB5.out NB5.out.lt (aO HLT.out));have HX6:=Hj (xb.imp (D':=fun k=>w.heap.size<k) (fun k _ (x:w5.heap.size≤k)=>aE NB5.out.lt x));have HR6:=Hj h6;have EB:=Hj eb;clear f6 xb h6 eb NB5
       go_wp2_with (refine iC b.h b.e.h w.heap.size _ NB6.out rfl rfl _ _ rfl rfl rfl ?_)
       refine bodyPost_ret (iG rfl _ _ w.heap.size b.h b.e.h rfl (NB6.out.rowS _)) rfl ?_;exact⟨_,rfl,⟨b,rfl,(HX6.out.fx (cV _ w.heap.size _).1 (aQ (Nat.lt_irrefl _))).imp (fun k _ x=>Nat.le_of_lt x),EB.out⟩,HR6.out.row HLT.out _,bI HF6.out (.inr (aD _)) _⟩
     ·have E2:=E.out
      rw[if_neg ci,if_neg cf]at E2;have E:=Hj E2;have i1:(s.hd.tx == [105,102])=false:=cU ci;have i2:(s.hd.tx == [102,111,114])=false:=cU cf;clear E2 ci cf;have CT:=Hj (nE R d k hdk s.hd HS.out ⟨s.ts.tail,s.ns+1,s.nx⟩ w5 HR5.out);rw[E.out]at CT;clear E;go_wp2_with fail;refine CT.out.mono ?_;intro r w6 hpo;clear CT
      cases Z with
      | no c q=>
       obtain⟨rfl,f6⟩:=hpo;have HF6:=Hj (aJ HF5.out f6);clear f6;go_wp2_with fail;exact⟨rfl,rfl,HF6.out⟩
      | ok a s6=>
       obtain⟨v,rfl,⟨b,rfl,xb,eb⟩,h6,f6⟩:=hpo;have HF6:=Hj (aJ HF5.out f6);have NB6:=Hj (f6.blk NB5.out NB5.out.lt (aO HLT.out));have HX6:=Hj (xb.imp (D':=fun k=>w.heap.size<k) (fun k _ (x:w5.heap.size≤k)=>aE NB5.out.lt x));have HR6:=Hj h6;have EB:=Hj eb;clear f6 xb h6 eb NB5
       go_wp2_with (refine iC b.h b.e.h w.heap.size _ NB6.out rfl rfl _ _ rfl rfl rfl ?_)
       refine bodyPost_ret (iG rfl _ _ w.heap.size b.h b.e.h rfl (NB6.out.rowS _)) rfl ?_;exact⟨_,rfl,⟨b,rfl,(HX6.out.fx (cV _ w.heap.size _).1 (aQ (Nat.lt_irrefl _))).imp (fun k _ x=>Nat.le_of_lt x),EB.out⟩,HR6.out.row HLT.out _,bI HF6.out (.inr (aD _)) _⟩
  ·have g1:(s.hd.kd == 1)=false:=by simp[a1]
   have g2:¬s.hd.tx=[105,102]:=a2;have g3:s.hd.tx=[102,111,114]:=a3;clear a2 a3;go_upto_region 4 with fail;clear a1 g1 g2 g3;have HF4b:=Hj (aZ HF2.out (aH (Below.refl w3.heap.size w3)));have NB4b:Hid (Blk w3.drew w.heap.size 48 (aS cG aP).toArray):=NB2.out;have TB4b:Hid (Blk w3.drew tb 133 s.hd.vs):=TB.out;have HR4b:=Hj (HR2.out.below (aH (Below.refl w3.heap.size w3)) HR2.out.lt)
   go_still_tail 5,(by kernel_rfl)
   change wpList _ _ _ _ _ w3.drew;clear NB2 TB HR2 HF2 t0 t1 t2 t3 t4;generalize w3.drew=w4 at *;obtain⟨T,o,c,C⟩:=HR4b.out.rc;have CC:=Hj C;have hns:=C.ns;have KC:=gH R 2 s.ns 200 s.hd.ps w4 (C.blk.cell 2) (C.blk.frozen 2) (by omega);clear C
   by_cases cn:s.ns=200
   ·have E2:Hid (Z=.no 112 s.hd.ps):=by show Z=_;rw[←E.out,if_pos cn]
    simp only[if_pos (show(s.ns:Int)=200 by omega)]at KC;have KK:=Hj KC;clear KC E hns;go_wp2_with fail;refine KK.out.mono ?_;rintro r w5 ⟨rfl,rfl⟩;clear KK;go_wp2_with fail;refine⟨rfl,?_⟩;rw[E2.out];exact⟨rfl,HF4b.out⟩
   ·have E2:=E.out
    rw[if_neg cn]at E2;have E:=Hj E2;simp only[if_neg (show ¬(s.ns:Int)=200 by omega)]at KC;have KK:=Hj KC;have HNN:Hid (s.ns+1≤200):=by show s.ns+1≤200;omega
    clear KC E2 hns cn;go_wp2_with fail;refine KK.out.mono ?_;rintro r w5 ⟨rfl,rfl⟩;clear KK;have b1:=CC.out.blk.set_ 2 (.int .i64 ((s.ns:Int)+1));have hr:Rdr R d ⟨s.ts,s.ns+1,s.nx⟩ (w4.setCell ⟨R,2,none⟩ (.int .i64 ((s.ns:Int)+1))):=CC.out.nums b1 (Below.heap_setCell _ _ _ _ (Nat.ne_of_lt CC.out.tr)) HNN.out CC.out.nx CC.out.dp;have HRx:=Hj hr;have NBx:=Hj (NB4b.out.far (p:=⟨R,2,none⟩) (Nat.ne_of_gt HLT.out) (.int .i64 ((s.ns:Int)+1)));have TBx:=Hj (TB4b.out.far (p:=⟨R,2,none⟩) (Nat.ne_of_gt HTB.out) (.int .i64 ((s.ns:Int)+1)));have HFx:=Hj (bJ (X:=On R) HF4b.out (p:=⟨R,2,none⟩) (.inl rfl) (.int .i64 ((s.ns:Int)+1)));clear b1 hr NB4b TB4b HF4b HR4b CC;generalize w4.setCell ⟨R,2,none⟩ (.int .i64 ((s.ns:Int)+1))=wv at *;go_wp2_with fail;refine(dG R d ⟨s.ts,s.ns+1,s.nx⟩ wv HRx.out HK.out).mono ?_;rintro r w5 ⟨rfl,h5,f5⟩;have HR5:Hid (Rdr R d ⟨s.ts.tail,s.ns+1,s.nx⟩ w5):=h5;have NB5:=Hj (f5.blk NBx.out NBx.out.lt (aO HLT.out));have TB5:=Hj (f5.blk TBx.out TBx.out.lt (aO HTB.out));have HF5:=Hj (aJ HFx.out f5);clear h5 f5 HRx NBx TBx HFx;obtain⟨t0,t1,t2,t3,t4⟩:=TB5.out.fiveV
    by_cases ci:s.hd.tx=ifW
    ·have E2:=E.out
     rw[if_pos ci]at E2;have E:=Hj E2;have i1:(s.hd.tx == [105,102])=true:=cS ci;clear E2 ci;have CT:=Hj (nD R d k hdk hb he s.hd.ps HS.out.ps0 HS.out.ps1 ⟨s.ts.tail,s.ns+1,s.nx⟩ w5 HR5.out);rw[E.out]at CT;clear E;go_wp2_with fail;refine CT.out.mono ?_;intro r w6 hpo;clear CT
     cases Z with
     | no c q=>
      obtain⟨rfl,f6⟩:=hpo;have HF6:=Hj (aJ HF5.out f6);clear f6;go_wp2_with fail;exact⟨rfl,rfl,HF6.out⟩
     | ok a s6=>
      obtain⟨v,rfl,⟨b,rfl,xb,eb⟩,h6,f6⟩:=hpo;have HF6:=Hj (aJ HF5.out f6);have NB6:=Hj (f6.blk NB5.out NB5.out.lt (aO HLT.out));have HX6:=Hj (xb.imp (D':=fun k=>w.heap.size<k) (fun k _ (x:w5.heap.size≤k)=>aE NB5.out.lt x));have HR6:=Hj h6;have EB:=Hj eb;clear f6 xb h6 eb NB5
      go_wp2_with (refine iC b.h b.e.h w.heap.size _ NB6.out rfl rfl _ _ rfl rfl rfl ?_)
      refine bodyPost_ret (iG rfl _ _ w.heap.size b.h b.e.h rfl (NB6.out.rowS _)) rfl ?_;exact⟨_,rfl,⟨b,rfl,(HX6.out.fx (cV _ w.heap.size _).1 (aQ (Nat.lt_irrefl _))).imp (fun k _ x=>Nat.le_of_lt x),EB.out⟩,HR6.out.row HLT.out _,bI HF6.out (.inr (aD _)) _⟩
    ·by_cases cf:s.hd.tx=sJ
     ·have E2:=E.out
      rw[if_neg ci,if_pos cf]at E2;have E:=Hj E2;have i1:(s.hd.tx == [105,102])=false:=cU ci;have i2:(s.hd.tx == [102,111,114])=true:=cS cf;clear E2 ci cf;have CT:=Hj (rZ R d k hb s.hd.ps HS.out.ps0 HS.out.ps1 ⟨s.ts.tail,s.ns+1,s.nx⟩ w5 HR5.out);rw[E.out]at CT;clear E;go_wp2_with fail;refine CT.out.mono ?_;intro r w6 hpo;clear CT
      cases Z with
      | no c q=>
       obtain⟨rfl,f6⟩:=hpo;have HF6:=Hj (aJ HF5.out f6);clear f6;go_wp2_with fail;exact⟨rfl,rfl,HF6.out⟩
      | ok a s6=>
       obtain⟨v,rfl,⟨b,rfl,xb,eb⟩,h6,f6⟩:=hpo;have HF6:=Hj (aJ HF5.out f6);have NB6:=Hj (f6.blk NB5.out NB5.out.lt (aO HLT.out));have HX6:=Hj (xb.imp (D':=fun k=>w.heap.size<k) (fun k _ (x:w5.heap.size≤k)=>aE NB5.out.lt x));have HR6:=Hj h6;have EB:=Hj eb;clear f6 xb h6 eb NB5
       go_wp2_with (refine iC b.h b.e.h w.heap.size _ NB6.out rfl rfl _ _ rfl rfl rfl ?_)
       refine bodyPost_ret (iG rfl _ _ w.heap.size b.h b.e.h rfl (NB6.out.rowS _)) rfl ?_;exact⟨_,rfl,⟨b,rfl,(HX6.out.fx (cV _ w.heap.size _).1 (aQ (Nat.lt_irrefl _))).imp (fun k _ x=>Nat.le_of_lt x),EB.out⟩,HR6.out.row HLT.out _,bI HF6.out (.inr (aD _)) _⟩
     ·have E2:=E.out
      rw[if_neg ci,if_neg cf]at E2;have E:=Hj E2;have i1:(s.hd.tx == [105,102])=false:=cU ci;have i2:(s.hd.tx == [102,111,114])=false:=cU cf;clear E2 ci cf;have CT:=Hj (nE R d k hdk s.hd HS.out ⟨s.ts.tail,s.ns+1,s.nx⟩ w5 HR5.out);rw[E.out]at CT;clear E;go_wp2_with fail;refine CT.out.mono ?_;intro r w6 hpo;clear CT
      cases Z with
      | no c q=>
       obtain⟨rfl,f6⟩:=hpo;have HF6:=Hj (aJ HF5.out f6);clear f6;go_wp2_with fail;exact⟨rfl,rfl,HF6.out⟩
      | ok a s6=>
       obtain⟨v,rfl,⟨b,rfl,xb,eb⟩,h6,f6⟩:=hpo;have HF6:=Hj (aJ HF5.out f6);have NB6:=Hj (f6.blk NB5.out NB5.out.lt (aO HLT.out));have HX6:=Hj (xb.imp (D':=fun k=>w.heap.size<k) (fun k _ (x:w5.heap.size≤k)=>aE NB5.out.lt x));have HR6:=Hj h6;have EB:=Hj eb;clear f6 xb h6 eb NB5
       go_wp2_with (refine iC b.h b.e.h w.heap.size _ NB6.out rfl rfl _ _ rfl rfl rfl ?_)
       refine bodyPost_ret (iG rfl _ _ w.heap.size b.h b.e.h rfl (NB6.out.rowS _)) rfl ?_;exact⟨_,rfl,⟨b,rfl,(HX6.out.fx (cV _ w.heap.size _).1 (aQ (Nat.lt_irrefl _))).imp (fun k _ x=>Nat.le_of_lt x),EB.out⟩,HR6.out.row HLT.out _,bI HF6.out (.inr (aD _)) _⟩
theorem pD (R:Nat):∀k d,d+k=24→xW R d 106 (stK k)∧rE R d 84 (blk (sK k))
 | 0,d,h=>by
  have hb:=wD R d 0 h (fun k' e=>by cases e);exact⟨yY R d 0 h hb (nB R d 0 h hb (fun k' e=>by cases e)),hb⟩
 | k+1,d,h=>by
  have ih:=pD R k (d+1) (by omega);have hb:=wD R d (k+1) h (fun k' e=>by cases e;exact ih.1);exact⟨yY R d (k+1) h hb (nB R d (k+1) h hb (fun k' e=>by cases e;exact ih.1)),hb⟩
def De.eqv (a b:De):Prop:=(a.ps=b.ps∧a.inp=b.inp∧a.nm=b.nm∧a.ty=b.ty∧a.len=b.len∧a.rg=b.rg)∧a.lo.eqv b.lo∧a.hi.eqv b.hi
def XDe (D:Nat→Prop)(d:De)(w:World):Prop:=d.In w.heap.size (up D w)
def De.vs (d:De):List Value:=dM d d.lo.h d.hi.h
def De.v (d:De):Value:=dcv d d.lo.h d.hi.h
def mQ:De:=⟨0,false,[],0,0,false,.no,.no⟩
def zDe:Obj:=.cells mQ.vs.toArray 44
theorem XDe.fx {X D:Nat→Prop}{d:De}{w w':World}(h:XDe D d w)(hf:Fx X w.heap.size w w')(hX:∀k,X k→¬D k):XDe D d w':=De.In.stay h (jD hf hX) hf.size
theorem XDe.imp {D D':Nat→Prop}{d:De}{w:World}(h:XDe D d w)(hD:∀k,k<w.heap.size→D k→D' k):XDe D' d w:=De.In.stay h (gP hD w) (aD _)
theorem XDe.bel {D:Nat→Prop}{d:De}{w w':World}(h:XDe D d w)(hb:Below w.heap.size w w'):XDe D d w':=h.fx (X:=fun _=>False) (Fx.of hb) (fun _ x=>x.elim)
def VDe (L:Nat)(d:De)(v:Value)(w:World):Prop:=∃d':De,v=d'.v∧XDe (Fro L) d' w∧d'.eqv d
section
variable {ops:Array Oper} {rest:List Oper} {o:Oper} {a:Act} {w:World} {Q:Exit→Act→World→Prop}
theorem aBm (d:De)(x0 y0:EH)(g:Nat)(old:Array Value)(hg:Blk w g 44 old)(hold:old.size=20)(hgd:o.guard=none)(x y:Operand)(ho:o.op=.store 44 x y)(hx:a.eval x=.pointer (some ⟨g,0,none⟩))(hy:a.eval y=dcv d x0 y0)
  (hw:wpList Tryz.prog ops Q rest (a.put o.dst undef) (w.setRow g (dM d x0 y0).toArray)):wpList Tryz.prog ops Q (o::rest) a w:=
 wpList_store_row hgd 44 x y ho g (dM d x0 y0).toArray hx hy 44 old hg (by kernel_rfl) hold (by simp[dM,Value.oneCell']) hw
theorem aEt (d:De)(x0 y0:EH)(g:Nat)(hg:Blk w g 44 (dM d x0 y0).toArray)(hgd:o.guard=none)(x:Operand)(ho:o.op=.load 44 x)(hx:a.eval x=.pointer (some ⟨g,0,none⟩))
  (hw:wpList Tryz.prog ops Q rest (a.put o.dst (dcv d x0 y0)) w):wpList Tryz.prog ops Q (o::rest) a w:=
 wpList_load_row hgd 44 x ho g hx 44 (dM d x0 y0).toArray (0,0) _ hg Tryz.underlying44 rfl (by kernel_rfl) hw
theorem aGs (t:TypeId)(g f:Nat)(C C':List Value)(e:EH)(hg:Blk w g t C.toArray)(hC:C'=C.take f++(e.va.toList++C.drop (f+7)))(hf:f+7≤C.length)(hgd:o.guard=none)(x y:Operand)(ho:o.op=.store 42 x y)(hx:a.eval x=.pointer (some ⟨g,f,none⟩))(hy:a.eval y=e.v)
  (hw:∀w',Hid (Blk w' g t C'.toArray)→Hid (Wr1 g w w')→wpList Tryz.prog ops Q rest (a.put o.dst undef) w'):wpList Tryz.prog ops Q (o::rest) a w:=by
 refine wpList_store_mid hgd 42 x y ho g f e.va hx hy ?_ (by kernel_rfl) (by simp[EH.va,Value.oneCell']) (hw _ ?_ (cB g _ f w))
 ·intro j hj
  have hj:j<7:=hj;refine⟨?_,hg.frozen _⟩;rw[hg.cell];have:f+j<C.toArray.size:=by simp;omega
  rw[Array.getElem?_eq_getElem this];rfl
 ·obtain⟨c',h1,h2,h3⟩:=oG e.va.toList f w _ hg
  have hl:e.va.toList.length=7:=rfl
  have:c'=C'.toArray:=by
   apply Array.ext_getElem?;intro j;rw[h3 j,hl,List.size_toArray,List.getElem?_toArray,List.getElem?_toArray,hC]
   by_cases a1:j<f
   ·rw[if_neg (by omega),List.getElem?_append_left (by rw[List.length_take];omega),List.getElem?_take,if_pos a1]
   ·rw[List.getElem?_append_right (by rw[List.length_take];omega),List.length_take,Nat.min_eq_left (by omega)]
    by_cases a2:j<f+7
    ·rw[if_pos (by omega),List.getElem?_append_left (by rw[hl];omega)]
    ·rw[if_neg (by omega),List.getElem?_append_right (by rw[hl];omega),hl,List.getElem?_drop,show f+7+(j-f-7)=j by omega]
  rw[←this];exact h1
end
theorem aEa {fn:Func}{p:Tmp}(h:fn.results=#[.cell p 44])(tmps:Array Value)(w:World)(g:Nat)(d:De)(x y:EH)(hp:tmps.getD p undef=.pointer (some ⟨g,0,none⟩))(hg:Blk w g 44 (dM d x y).toArray):(results fn tmps).run Tryz.prog w=.ok (dcv d x y) w:=
 results_cell_row h tmps w g 44 (dM d x y).toArray (0,0) _ hp hg Tryz.underlying44 rfl (by kernel_rfl)
def kR (s:PS):Rs (Ex×Ex):=(nI s).bind fun a s=>(cF [44] s).bind fun _ s=>(nI s).bind fun b s=>.ok (a,b) s
def aDs (s:PS):Rs Int:=(eR 2 s).bind fun t s=>.ok t.nn s
def GR (db:Nat)(d:De)(p:Ex×Ex)(w:World):Prop:=∃a b:Ex,Blk w db 44 (dM d a.h b.h).toArray∧XO (fun k=>db<k) a w∧XO (fun k=>db<k) b w∧a.eqv p.1∧b.eqv p.2
def GN (db:Nat)(d:De)(n:Int)(w:World):Prop:=Blk w db 44 (dM ⟨d.ps,d.inp,d.nm,d.ty,n,d.rg,d.lo,d.hi⟩ aP aP).toArray∧0≤n∧n≤2147483647
theorem aNb {R db:Nat}{d:De}(hR:R<db)(a:Ex×Ex)(w1 w2:World)(h:GR db d a w1)(hf:Fx (On R) w1.heap.size w1 w2):GR db d a w2:=by
 obtain⟨x,y,h1,h2,h3,h4,h5⟩:=h;exact⟨x,y,hf.blk h1 h1.lt (aO hR),h2.fx hf (aQ (fun x:db<R=>by omega)),h3.fx hf (aQ (fun x:db<R=>by omega)),h4,h5⟩
theorem aNc {R db:Nat}{d:De}(hR:R<db)(a:Int)(w1 w2:World)(h:GN db d a w1)(hf:Fx (On R) w1.heap.size w1 w2):GN db d a w2:=⟨hf.blk h.1 h.1.lt (aO hR),h.2⟩
theorem aGH:jH 122:=dJ (by rfl) (by kernel_rfl) rfl
theorem aGG:jH 124:=dJ (by rfl) (by kernel_rfl) rfl
theorem aHf (R d b0 db:Nat)(D:De)(s:PS)(w:World)(h:Rdr R d s w)(h0:Blk w b0 108 #[.pointer (some ⟨R,0,none⟩)])(he:Blk w db 44 (dM D aP aP).toArray)(hb:R<db)(hb0:R<b0)(hbb:b0≠db) :
  Calls Tryz.prog 122 #[.pointer (some ⟨b0,0,none⟩),.pointer (some ⟨db,0,none⟩)] w (PC R d (Two R db) w (kR s) (GR db D)):=by
 have c0:w.cell? ⟨b0,0,none⟩=some (.pointer (some ⟨R,0,none⟩)):=h0.cell 0;have HB0:=Hj h0;have HE:=Hj he;have HR:=Hj h;have HB:=Hj (And.intro hb (And.intro hb0 hbb));have HDR:Hid (¬(fun k=>db<k) R):=(fun x:db<R=>by omega);have HW:=Hj he.lt;generalize hZ:kR s=Z;unfold kR at hZ;have E:=Hj hZ;clear h0 he h hb hb0 hbb hZ;go_enter Tryz.func122,Tryz.ntmps122;go_wp2_with fail;refine(qB R d s w HR.out).mono ?_;intro r w1 hpo
 cases hres:nI s with
 | no c q=>
  rw[hres]at hpo;obtain⟨rfl,f1⟩:=hpo;have HF1:=Hj f1;have E2:=E.out;rw[hres,bL]at E2;have E:=Hj E2;clear f1 hres E2;go_wp2_with fail;refine⟨rfl,?_⟩;rw[←E.out];exact⟨rfl,HF1.out.mono (aD _) (fun k _ x=>.inl x)⟩
 | ok p1 s1=>
  rw[hres]at hpo;obtain⟨v,rfl,⟨b1,rfl,xb,eb⟩,h1,f1⟩:=hpo;have E2:=E.out;rw[hres,bG]at E2;have E1:=Hj E2;have B1:=Hj (f1.blk HB0.out HB0.out.lt (aO HB.out.2.1));have D1:=Hj (f1.blk HE.out HE.out.lt (aO HB.out.1));have X1:=Hj (xb.imp (D':=fun k=>db<k) (fun k _ (x:w.heap.size≤k)=>aE HW.out x));have R1:=Hj h1;have F1:=Hj (f1.mono (Y:=Two R db) (aD _) (fun k _ x=>.inl x));have EB1:=Hj eb;clear f1 xb h1 eb hres E2 E HB0 HE HR c0
  go_upto_region 1 with(refine aGs 44 db 6 (dM D aP aP) (dM D b1.h aP) b1.h D1.out rfl (by simp[dM]) rfl _ _ rfl rfl rfl ?_;intro w2 D2 W2)
  have B2:=Hj (W2.out.blk B1.out HB.out.2.2);have X2:=Hj (X1.out.fx W2.out.1 (aQ (Nat.lt_irrefl _)));have R2:=Hj (W2.out.rdr R1.out HB.out.1);have F2:=Hj (F1.out.trans (W2.out.1.mono F1.out.size (fun k _ x=>.inr x)));have c2:w2.cell? ⟨b0,0,none⟩=some (.pointer (some ⟨R,0,none⟩)):=B2.out.cell 0;clear B1 D1 X1 R1 F1 W2;go_wp2_with fail;refine(bU R d s1 [44] (by decide) w2 R2.out).mono ?_;intro r w3 hpo
  cases hres:cF [44] s1 with
  | no c q=>
   rw[hres]at hpo;obtain⟨rfl,f3⟩:=hpo;have HF3:=Hj (aJ F2.out (f3.mono (Y:=Two R db) (aD _) (fun k _ x=>.inl x)));have E2:=E1.out;rw[hres,bL]at E2;have E:=Hj E2;clear f3 hres E2;go_wp2_with fail;refine⟨rfl,?_⟩;rw[←E.out];exact⟨rfl,HF3.out⟩
  | ok u s3=>
   rw[hres]at hpo;obtain⟨v,rfl,hv,h3,f3⟩:=hpo;unfold V0 at hv;subst hv;have E2:=E1.out;rw[hres,bG]at E2;have E3:=Hj E2;have B3:=Hj (f3.blk B2.out B2.out.lt (aO HB.out.2.1));have D3:=Hj (f3.blk D2.out D2.out.lt (aO HB.out.1));have X3:=Hj (X2.out.fx f3 (aQ HDR.out));have R3:=Hj h3;have F3:=Hj (aJ F2.out (f3.mono (Y:=Two R db) (aD _) (fun k _ x=>.inl x)));have c3:w3.cell? ⟨b0,0,none⟩=some (.pointer (some ⟨R,0,none⟩)):=B3.out.cell 0;clear f3 h3 hres E2 E1 B2 D2 X2 R2 F2 c2;go_wp2_with fail;refine(qB R d s3 w3 R3.out).mono ?_;intro r w4 hpo
   cases hres:nI s3 with
   | no c q=>
    rw[hres]at hpo;obtain⟨rfl,f4⟩:=hpo;have HF4:=Hj (aJ F3.out (f4.mono (Y:=Two R db) (aD _) (fun k _ x=>.inl x)));have E2:=E3.out;rw[hres,bL]at E2;have E:=Hj E2;clear f4 hres E2;go_wp2_with fail;refine⟨rfl,?_⟩;rw[←E.out];exact⟨rfl,HF4.out⟩
   | ok p2 s4=>
    rw[hres]at hpo;obtain⟨v,rfl,⟨b2,rfl,xb,eb⟩,h4,f4⟩:=hpo;have E2:=E3.out;rw[hres,bG]at E2;have E4:=Hj E2;have D4:=Hj (f4.blk D3.out D3.out.lt (aO HB.out.1));have X4:=Hj (X3.out.fx f4 (aQ HDR.out));have Y4:=Hj (xb.imp (D':=fun k=>db<k) (fun k _ (x:w3.heap.size≤k)=>aE D3.out.lt x));have R4:=Hj h4;have F4:=Hj (aJ F3.out (f4.mono (Y:=Two R db) (aD _) (fun k _ x=>.inl x)));have EB2:=Hj eb;clear f4 xb h4 eb hres E2 E3 B3 D3 X3 R3 F3 c3
    go_wp2_with (refine aGs 44 db 13 (dM D b1.h aP) (dM D b1.h b2.h) b2.h D4.out rfl (by simp[dM]) rfl _ _ rfl rfl rfl ?_;intro w5 D5 W5)
    refine bodyPost_end (results_none rfl _ _ _) rfl ?_;rw[←E4.out];exact⟨rfl,⟨b1,b2,D5.out,X4.out.fx W5.out.1 (aQ (Nat.lt_irrefl _)),Y4.out.fx W5.out.1 (aQ (Nat.lt_irrefl _)),EB1.out,EB2.out⟩,W5.out.rdr R4.out HB.out.1,F4.out.trans (W5.out.1.mono F4.out.size (fun k _ x=>.inr x))⟩
theorem aHe (R d b0 db:Nat)(D:De)(s:PS)(w:World)(h:Rdr R d s w)(h0:Blk w b0 108 #[.pointer (some ⟨R,0,none⟩)])(he:Blk w db 44 (dM D aP aP).toArray)(hb:R<db)(hb0:R<b0) :
  Calls Tryz.prog 124 #[.pointer (some ⟨b0,0,none⟩),.pointer (some ⟨db,0,none⟩)] w (PC R d (Two R db) w (aDs s) (GN db D)):=by
 have fn:=fun t w=>aCA t w;have c0:w.cell? ⟨b0,0,none⟩=some (.pointer (some ⟨R,0,none⟩)):=h0.cell 0;have HE:=Hj he;have HR:=Hj h;have HB:=Hj (And.intro hb hb0);have HS:Hid (Hd s.hd):=h.good.hd;generalize hZ:aDs s=Z;unfold aDs at hZ;have E:=Hj hZ;clear h0 he h hb hb0 hZ;go_enter Tryz.func124,Tryz.ntmps124;go_wp2_with fail;refine(eZ R d s 2 (by decide) w HR.out).mono ?_;intro r w1 hpo
 cases hres:eR 2 s with
 | no c q=>
  rw[hres]at hpo;obtain⟨rfl,f1⟩:=hpo;have HF1:=Hj f1;have E2:=E.out;rw[hres,bL]at E2;have E:=Hj E2;clear f1 hres E2;go_wp2_with fail;refine⟨rfl,?_⟩;rw[←E.out];exact⟨rfl,HF1.out.mono (aD _) (fun k _ x=>.inl x)⟩
 | ok t s1=>
  rw[hres]at hpo;obtain⟨v,rfl,rfl,h1,f1⟩:=hpo;have E2:=E.out;rw[hres,bG]at E2;have E1:=Hj E2;have ht:=uP hres;have HN:Hid (0≤t.nn∧t.nn≤2147483647):=by rw[ht];exact⟨HS.out.nn0,HS.out.nn1⟩
  have D1:=f1.blk HE.out HE.out.lt (aO HB.out.1);have m1:w1.cell? ⟨db,4,none⟩=some (.int .i64 D.len):=D1.cell 4;have z1:w1.frozen? ⟨db,4,none⟩=false:=D1.frozen 4;have D2:Hid (Blk (w1.setCell ⟨db,4,none⟩ (.int .i64 t.nn)) db 44 (dM ⟨D.ps,D.inp,D.nm,D.ty,t.nn,D.rg,D.lo,D.hi⟩ aP aP).toArray):=D1.set_ 4 (.int .i64 t.nn);have R2:=Hj (h1.set (p:=⟨db,4,none⟩) HB.out.1 (.int .i64 t.nn));have F2:=Hj (bJ (f1.mono (Y:=Two R db) (aD _) (fun k _ x=>.inl x)) (p:=⟨db,4,none⟩) (.inl (.inr rfl)) (.int .i64 t.nn));have hn:=HN.out;have ov:IntKind.i64.wrap t.nn=t.nn:=by rw[IntKind.wrap_i64];omega
  clear f1 h1 hres E2 E HE HR c0 ht D1;go_wp2_with fail;refine bodyPost_end (results_none rfl _ _ _) rfl ?_;rw[←E1.out];exact⟨rfl,⟨D2.out,HN.out⟩,R2.out,F2.out⟩
def oN (K:Nat→De):Nat→List Value
 | 0=>[]
 | n+1=>oN K n++(K n).vs
theorem aCb (d:De):d.vs.length=20:=rfl
theorem vV (K:Nat→De)(n:Nat):(oN K n).length=n*20:=by
 induction n with
 | zero=>rfl
 | succ n ih=>rw[oN,List.length_append,ih,aCb,Nat.succ_mul]
theorem aCV {K J:Nat→De}{n:Nat}(h:∀i,i<n→K i=J i):oN K n=oN J n:=by
 induction n with
 | zero=>rfl
 | succ n ih=>rw[oN,oN,ih fun i hi=>h i (by omega),h n (by omega)]
theorem aJr {K:Nat→De}{n i j:Nat}{v:Value}(hi:i<n)(hv:(K i).vs[j]? = some v):(oN K n)[i*20+j]? = some v:=by
 induction n with
 | zero=>omega
 | succ n ih=>
  rw[oN]
  have hj:j<20:=by
   have:=(List.getElem?_eq_some_iff.1 hv).1
   rwa [aCb]at this
  by_cases h:i<n
  ·rw[List.getElem?_append_left (by rw[vV];omega)]
   exact ih h
  ·obtain rfl:i=n:=by omega
   rw[List.getElem?_append_right (by rw[vV];omega),vV,show i*20+j-i*20=j by omega];exact hv
def XDs (D:Nat→Prop)(S:Sl)(K:Nat→De)(w:World):Prop:=gF w.heap.size (up D w) S K
theorem XDs.fx {X D:Nat→Prop}{S:Sl}{K:Nat→De}{w w':World}(h:XDs D S K w)(hf:Fx X w.heap.size w w')(hX:∀k,X k→¬D k):XDs D S K w':=gF.stay h (jD hf hX) hf.size
theorem XDs.imp {D D':Nat→Prop}{S:Sl}{K:Nat→De}{w:World}(h:XDs D S K w)(hD:∀k,k<w.heap.size→D k→D' k):XDs D' S K w:=gF.stay h (gP hD w) (aD _)
theorem XDe.set {D:Nat→Prop}{d:De}{w:World}(h:XDe D d w){p:Addr}(hp:¬D p.block)(v:Value):XDe D d (w.setCell p v):=h.fx (X:=On p.block) (bJ (X:=On p.block) (Fx.refl _ _ _) (.inl rfl) v) (aQ hp)
def aNJ (S:Sl)(K:Nat→De)(l:List De):Prop:=S.n=l.length∧∀i,i<S.n→(K i).eqv (l.getD i mQ)
def VDs (L:Nat)(l:List De)(v:Value)(w:World):Prop:=∃S K,v=Sl.val S∧XDs (Fro L) S K w∧aNJ S K l
def Dr (L:Nat)(v:Value):Nat→Prop:=fun k=>L≤k∧v.ownBlock≠some k
theorem aJE {w:World}{L n:Nat}{v:Value}{K:Nat→De}(h:w.ownsRow L 44 20 v n (oN K n))(hK:∀i,i<n→XDe (Dr L v) (K i) w):∃S:Sl,v=S.val∧S.n=n∧XDs (Fro L) S K w:=by
 have hk:∀i,i<n→XDe (Fro L) (K i) w:=fun i hi=>(hK i hi).imp (fun k _ x=>x.1);rcases h.2 with⟨rfl,rfl⟩|⟨g,cap,cur,rfl,hb,hg,hn,hc,hcs,ht⟩
 ·exact⟨⟨none,0,0⟩,rfl,rfl,⟨iQ,(fun a ha=>by cases ha),fun i hi=>absurd hi (Nat.not_lt_zero i)⟩⟩
 ·refine⟨⟨some ⟨g,0,none⟩,n,cap⟩,rfl,rfl,⟨hn,hc,fun e=>by cases e⟩,?_,hk⟩
  intro a ha i hi;cases ha;have hi:i<n:=hi;refine⟨(Array.getElem?_eq_some_iff.1 hg).1,fun j u hu=>?_⟩;rw[gM];refine⟨?_,h.cells (g:=g) rfl _ _ (aJr hi hu)⟩;rw[oJ];exact hb
theorem uW {w w':World}{L:Nat}{v v':Value}{d:De}(gr:w.grownBy w' v.ownBlock)(mv:aCs w v v')(h:XDe (Dr L v) d w):XDe (Dr L v') d w':=by
 have h2:XDe (fun k=>Dr L v k∧v'.ownBlock≠some k) d w:=h.imp fun k hk x=>⟨x,fun e=>by
  rcases mv k e with h|h
  ·exact x.2 h
  ·omega⟩
 exact(h2.fx (zJ gr) (fun k hk x=>x.1.2 hk)).imp fun k _ x=>⟨x.1.1,x.2⟩
theorem aFK:(Tryz.prog.info? 44).map (fun i=>(i.zero,i.size,i.bytes))=some (some (.agg (dM mQ aP aP).toArray),20,200):=by kernel_rfl
theorem zD {w:World}{B n:Nat}{K:Nat→De}{b:De}{v:Value}(h:w.ownsRow B 44 20 v (n+1) (oN K n++b.vs)):w.ownsRow B 44 20 v (n+1) (oN (fun i=>if i<n then K i else b) (n+1)):=by
 have e:oN (fun i=>if i<n then K i else b) (n+1)=oN K n++b.vs:=by
  rw[oN,aCV (J:=K) (fun i hi=>by rw[if_pos hi]),if_neg (Nat.lt_irrefl n)]
 rw[e];exact h
theorem aEp {D:Nat→Prop}{w:World}{n:Nat}{K:Nat→De}{b:De}(h:∀i,i<n→XDe D (K i) w)(hb:XDe D b w):∀i,i<n+1→XDe D ((fun i=>if i<n then K i else b) i) w:=by
 intro i hi;dsimp only;split
 ·rename_i h1;exact h i h1
 ·exact hb
theorem zE {n:Nat}{K:Nat→De}{b x:De}{l:List De}(hn:n=l.length)(h:∀i,i<n→(K i).eqv (l.getD i mQ))(hb:b.eqv x):∀i,i<n+1→((fun i=>if i<n then K i else b) i).eqv ((l++[x]).getD i mQ):=by
 intro i hi;dsimp only;rw[List.getD_eq_getElem?_getD];split
 ·rename_i h1
  rw[List.getElem?_append_left (by omega),←List.getD_eq_getElem?_getD];exact h i h1
 ·obtain rfl:i=l.length:=by omega
  rw[List.getElem?_append_right (aD _),Nat.sub_self];exact hb
theorem aDD (d:De):Tryz.prog.builtSlice 44 1 [(0,d.v)]=some d.vs.toArray:=by kernel_rfl
theorem aLc {ops:Array Oper}{rest:List Oper}{o:Oper}{a:Act}{w:World}{Q:Exit→Act→World→Prop}(d:De)(hgd:o.guard=none)(x:Operand)(ho:o.op=.buildSlice 22 1 #[(0,x)])(hx:a.eval x=d.v)
  (hw:∀g w',Hid (Blk w' g 44 d.vs.toArray)→Hid (Below w.heap.size w w')→wpList Tryz.prog ops Q rest (a.put o.dst (.slice (some ⟨g,0,none⟩) 1 1)) w'):wpList Tryz.prog ops Q (o::rest) a w:=by
 refine Great.wpList_buildSliceTo hgd 22 44 1 #[(0,x)] ho w.heap.size rfl o.dst rfl Tryz.underlying22 d.vs.toArray ?_ (hw _ _ (Blk.new w _ _) (aY w _));have e:((#[(0,x)]:Array (Nat×Operand)).map fun(i,x)=>(i,a.eval x)).toList=[(0,d.v)]:=by simp[hx]
 rw[e];exact aDD d
theorem aEn {w:World}{g:Nat}{d:De}(h:Blk w g 44 d.vs.toArray)(j:Nat)(u:Value)(hu:d.vs[j]? = some u):w.cell? ((⟨g,0,none⟩:Addr).add j)=some u:=by
 rw[Addr.add_mid,Nat.zero_add];exact(h.cell j).trans (by rw[List.getElem?_toArray];exact hu)
theorem aLX {s:PS}(h:cM s.ts):Lf (s.ts.length-1) s.ns (tW s):=by
 unfold tW;have:=dY h;split
 ·rename_i e;exact fA (h.tail' (by rw[←PS.hd,e];decide)) (by omega) (aD _)
 ·split
  ·rename_i e;exact fA (h.tail' (by rw[←PS.hd,e];decide)) (by omega) (aD _)
  ·exact(gS h (by decide)).bind fun _ s' g hl hm=>fA g hl hm
theorem aEr {s:PS}(h:cM s.ts):Lf s.ts.length s.ns (nI s):=by
 have h2:cM (jT s).2.ts∧(jT s).2.ts.length≤s.ts.length∧(jT s).2.ns=s.ns:=by
  unfold jT;have:=dY h;split
  ·rename_i e;exact⟨h.tail' (by rw[←PS.hd,e];decide),(by show s.tk.ts.length≤_;omega),rfl⟩
  ·exact⟨h,aD _,rfl⟩
 unfold nI;split
 ·rename_i e
  have:=dY h2.1;exact fA (h2.1.tail (by rw[←PS.hd,e];decide)) (by omega) (Nat.le_of_eq h2.2.2.symm)
 ·exact((aDp h2.1).bind fun t s' g hl hm=>fA (m:=s.ns) (n:=s.ts.length) g (by omega) (by omega))
theorem aLZ {ps ty:Int}{i:Bool}{nm:List UInt8}{s:PS}(h:cM s.ts):Lf s.ts.length s.ns (deT ps i nm ty s):=by
 unfold deT;have:=dY h;split
 ·rename_i e
  refine(((gS (s:=s.tk) (h.tail' (by rw[←PS.hd,e.2];decide)) (by decide)).mono (n':=s.ts.length) (m':=s.ns) (by omega) (aD _))).bind fun _ s1 g hl hm=>?_;refine((aEr g).mono hl hm).bind fun a s2 g hl hm=>?_;refine(((gS g (by decide)).mono (n':=s.ts.length) (m':=s.ns) (by omega) hm)).bind fun _ s3 g hl hm=>?_;refine((aEr g).mono hl hm).bind fun b s4 g hl hm=>?_;refine(((gS g (by decide)).mono (n':=s.ts.length) (m':=s.ns) (by omega) hm)).bind fun _ s5 g hl hm=>?_;refine(((gS g (by decide)).mono (n':=s.ts.length) (m':=s.ns) (by omega) hm)).bind fun _ s6 g hl hm=>?_;exact fA g hl hm
 ·split
  ·rename_i e
   refine(((uO (s:=s.tk) (k:=2) (h.tail' (by rw[←PS.hd,e.2];decide)) (by decide)).mono (n':=s.ts.length) (m':=s.ns) (by omega) (aD _))).bind fun _ s1 g hl hm=>?_;refine(((gS g (by decide)).mono (n':=s.ts.length) (m':=s.ns) (by omega) hm)).bind fun _ s5 g hl hm=>?_;refine(((gS g (by decide)).mono (n':=s.ts.length) (m':=s.ns) (by omega) hm)).bind fun _ s6 g hl hm=>?_;exact fA g hl hm
  ·refine(((gS h (by decide)).mono (n':=s.ts.length) (m':=s.ns) (by omega) (aD _))).bind fun _ s6 g hl hm=>?_
   exact fA g hl hm
theorem aEs {s:PS}(h:cM s.ts)(hk:s.hd.kd≠0):Lf (s.ts.length-1) s.ns (uF s):=by
 unfold uF;have:=dY h;refine(((uO (s:=s.tk) (k:=1) (h.tail hk) (by decide)).mono (n':=s.ts.length-1) (m':=s.ns) (by omega) (aD _))).bind fun _ s1 g hl hm=>?_;refine(((gS g (by decide)).mono (n':=s.ts.length-1) (m':=s.ns) (by omega) hm)).bind fun _ s5 g hl hm=>?_;refine(((aLX g).mono (n':=s.ts.length-1) (m':=s.ns) (by omega) hm)).bind fun _ s6 g hl hm=>?_;exact(aLZ g).mono hl hm
end Go.Proofs.YtkbicfffokegeaaGreatDoor
