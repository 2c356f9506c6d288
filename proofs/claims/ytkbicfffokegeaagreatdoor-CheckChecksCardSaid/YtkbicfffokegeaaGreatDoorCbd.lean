/-
  Whatever program is handed in, CheckChecks answers true. (part 30 of 38) Conditions: none beside what the card ties.
-/
import Derived.Test.YtkbicfffokegeaaGreatDoorCbc
namespace Go.Proofs.YtkbicfffokegeaaGreatDoor
set_option maxHeartbeats 16000000
open Go.RowKit
set_option maxRecDepth 100000
theorem aCY {β:Type}(F:Ex×Ex→PS→Rs β)(s:PS):(fB 0 [91] [93] kR s).bind F=(cF [91] s).bind fun _ s=>(nI s).bind fun a s=>(cF [44] s).bind fun _ s=>(nI s).bind fun b s=>(cF [93] s).bind fun _ s=>F (a,b) s:=by
 by_cases c:s.hd.tx=[91]
 ·have e0:cF [91] s=.ok () s.tk:=if_pos c
  have e1:fB 0 [91] [93] kR s=(kR s.tk).bind fun a s'=>(cF [93] s').bind fun _ s''=>.ok a s'':=by
   unfold fB;rw[if_pos c];rfl
  rw[e0,e1,bG];unfold kR
  cases nI s.tk with
  | no e q=>rfl
  | ok a s1=>
   show(((cF [44] s1).bind _).bind _).bind _=(cF [44] s1).bind _
   cases cF [44] s1 with
   | no e q=>rfl
   | ok u s2=>
    show(((nI s2).bind _).bind _).bind _=(nI s2).bind _
    cases nI s2 with
    | no e q=>rfl
    | ok b s3=>
     show((cF [93] s3).bind _).bind _=(cF [93] s3).bind _
     cases cF [93] s3<;>rfl
 ·have e0:cF [91] s=bad s:=if_neg c
  have e1:fB 0 [91] [93] kR s=bad s:=if_neg c;rw[e0,e1];rfl
theorem aHN {β:Type}(F:Int→PS→Rs β)(s:PS)(h:s.hd.tx=[91]):(fB 0 [91] [93] aDs s).bind F=(eR 2 s.tk).bind fun t s=>(cF [93] s).bind fun _ s=>F t.nn s:=by
 unfold fB aDs;rw[if_pos h,if_neg (by decide)]
 cases eR 2 s.tk with
 | no e q=>rfl
 | ok t s1=>
  rw[bG,bG];show((cF [93] s1).bind _).bind _=(cF [93] s1).bind _
  cases cF [93] s1<;>rfl
theorem aEG {ps ty len:Int}{inp rg:Bool}{nm:List UInt8}{a b:Ex}(hp0:0≤ps)(hp1:ps≤16384)(ht0:0≤ty)(ht1:ty≤255)(hl0:0≤len)(hl1:len≤2147483647)(hn:nm.length≤16384):(⟨ps,inp,nm,ty,len,rg,a,b⟩:De).ok:=
 ⟨by dsimp only;omega,by dsimp only;omega,ht0,ht1,by dsimp only;omega,by dsimp only;omega,aF hn (by unfold maxLen;decide)⟩
theorem aLi {s s':PS}{n:Int}(h:tW s=.ok n s'):0≤n∧n≤255:=by
 unfold tW at h
 split at h
 ·cases h;decide
 ·split at h
  ·cases h;decide
  ·cases hres:cF [102,108,111,97,116] s with
   | no e q=>rw[hres]at h;cases h
   | ok u s1=>rw[hres]at h;cases h;decide
theorem aNl {ops:Array Oper}{rest:List Oper}{o:Oper}{a:Act}{w:World}{Q:Exit→Act→World→Prop}(hgd:o.guard=none)(ho:o.op=.alloc 44)
  (hw:∀g w',Hid (g=w.heap.size)→Hid (Blk w' g 44 (dM mQ aP aP).toArray)→Hid (Below w.heap.size w w')→wpList Tryz.prog ops Q rest (a.put o.dst (.pointer (some ⟨g,0,none⟩))) w'):wpList Tryz.prog ops Q (o::rest) a w:=by
 refine wpList_plain hgd fun K hK=>?_;obtain⟨dst,op,ty,ps,af,gd⟩:=o;subst ho;have:=hw _ (w.alloc zDe) rfl (Blk.new w _ _) (aY w _);unfold Oper.wp execOp;dsimp only;go_simp;exact hK _ _ this
theorem aLs {ops:Array Oper}{rest:List Oper}{o:Oper}{a:Act}{w:World}{Q:Exit→Act→World→Prop}(d:De)(x0 y0:EH)(g:Nat){old:Array Value}(hg:Blk w g 44 old)(hgd:o.guard=none)(x y:Operand)(ho:o.op=.store 44 x y)(hx:a.eval x=.pointer (some ⟨g,0,none⟩))(hy:a.eval y=dcv d x0 y0)(hold:old.size=20)
  (hw:∀w',Hid (Blk w' g 44 (dM d x0 y0).toArray)→Hid (Wr1 g w w')→wpList Tryz.prog ops Q rest (a.put o.dst undef) w'):wpList Tryz.prog ops Q (o::rest) a w:=
 aBm d x0 y0 g old hg hold hgd x y ho hx hy (hw _ (hg.rowS _) (cV w g _))
def aNp (R d n:Nat)(p:PS→Rs De):Prop:=∀(s:PS) (w:World),Rdr R d s w→s.hd.kd≠0→Calls Tryz.prog n #[.pointer (some ⟨R,0,none⟩)] w (PO R d w (p s) (VDe w.heap.size))
theorem wB (R:Nat):aNp R 0 103 uF:=by
 intro s w h hk;have hmf:∀(fn:Fn) (first cap:Array Value) (w:World),(Instr.makeFunc fn first cap).run Tryz.prog w=.ok (.func fn first cap) w:=fun _ _ _ _=>rfl;have ft:=fun t w=>mT t w;have BL:Below w.heap.size w ((w.alloc (oR R)).alloc zDe):=aI (aY w _) _;have k0:Blk ((w.alloc (oR R)).alloc zDe) w.heap.size 108 #[.pointer (some ⟨R,0,none⟩)]:=(Blk.new w _ _).alloc zDe
 have k1:Blk ((w.alloc (oR R)).alloc zDe) (w.heap.size+1) 44 (dM mQ aP aP).toArray:=by
  have:=Blk.new (w.alloc (oR R)) 44 (dM mQ aP aP).toArray;rw[World.size_alloc]at this;exact this
 have hl:=h.lt;have RB_0:=Hj k0;have NB_0:=Hj k1;have HR:=Hj (h.below BL h.lt);have HF:Hid (Fx (On R) w.heap.size w ((w.alloc (oR R)).alloc zDe)):=Fx.of BL;have HRL:=Hj hl;have HRN:Hid (R<w.heap.size+1):=Nat.lt_succ_of_lt hl;have HS:Hid (Hd s.hd):=h.good.hd;have HK:=Hj hk;generalize hZ:uF s=Z;unfold uF at hZ;have E:=Hj hZ;clear BL k0 k1 h hZ hl hk;go_enter Tryz.func103,Tryz.ntmps103;go_upto_region 1 with fail;change (Code.region 1 _ _).wp _ _ _ ((w.alloc (oR R)).alloc zDe);generalize (w.alloc (oR R)).alloc zDe=w0 at *;have cR:w0.cell? ⟨w.heap.size,0,none⟩=some (.pointer (some ⟨R,0,none⟩)):=RB_0.out.cell 0;go_wp2_with fail;refine(dG R 0 s w0 HR.out HK.out).mono ?_;rintro r w1 ⟨rfl,h',f⟩;have BLb:Below w1.heap.size w1 (w1.alloc (oK s.hd)):=aY _ _;have r1:=f.blk RB_0.out RB_0.out.lt (aO HRL.out);have n1:=f.blk NB_0.out NB_0.out.lt (aO HRN.out);have RB_1:=Hj (r1.below BLb r1.lt);have NB_1:=Hj (n1.below BLb n1.lt);have HR1:=Hj (h'.below BLb h'.lt);have HF1:=Hj (aZ (aJ HF.out f) BLb);have TB:Hid (Blk (w1.alloc (oK s.hd)) w1.heap.size 133 s.hd.vs):=Blk.new _ _ _;have HTB:Hid (w.heap.size+1<w1.heap.size):=n1.lt;clear BLb r1 n1 h' f HR HF RB_0 NB_0 cR;unfold Tk.v;go_upto_region 2 with fail
 change (Code.region 2 _ _).wp _ _ _ (w1.alloc (oK s.hd));generalize w1.alloc (oK s.hd)=w2 at *;generalize w1.heap.size=tb at *;obtain⟨t0,t1,t2,t3,t4⟩:=TB.out.fiveV;have lT:=TB.out.lt;have EI:Hid ((s.hd.tx == aHW)=(s.hd.tx == [105,110,112,117,116])):=rfl
 go_upto_region 3 with(first
  | (refine aNl rfl rfl ?_;intro sb wy HG SBa BLa)
  | (refine aLs ⟨s.hd.ps,(s.hd.tx == [105,110,112,117,116]),[],0,0,false,.no,.no⟩ aP aP sb SBa.out rfl _ _ rfl rfl rfl rfl ?_;intro w3 SB_2 WRb))
 have HTS:Hid (tb<sb):=(by show tb<sb;rw[HG.out];exact lT);clear t0 t1 t2 t3 t4 lT TB HG SBa;have HRS:Hid (R<sb):=(by show R<sb;have:=HRL.out;have:=HTB.out;have:=HTS.out;omega);have HSB:Hid (w.heap.size≤sb):=(by show w.heap.size≤sb;have:=HTB.out;have:=HTS.out;omega);have HNE:Hid (w.heap.size+1≠sb):=(by show _≠sb;have:=HTB.out;have:=HTS.out;omega);have HNR:Hid (w.heap.size≠sb):=(by show _≠sb;have:=HTB.out;have:=HTS.out;omega);have RB_2:=Hj (WRb.out.blk (RB_1.out.below BLa.out RB_1.out.lt) HNR.out);have NB_2:=Hj (WRb.out.blk (NB_1.out.below BLa.out NB_1.out.lt) HNE.out);have HR2:=Hj (WRb.out.rdr (HR1.out.below BLa.out HR1.out.lt) HRS.out);have HF2:=Hj (WRb.out.fx (aZ HF1.out BLa.out) HSB.out);clear WRb BLa RB_1 NB_1 HR1 HF1;have E2:=E.out;rw[EI.out]at E2;have E0:=Hj E2;clear E E2;generalize (s.hd.tx == [105,110,112,117,116])=i at *;have cR:w3.cell? ⟨w.heap.size,0,none⟩=some (.pointer (some ⟨R,0,none⟩)):=RB_2.out.cell 0;go_wp2_with fail;refine(eZ R 0 s.tk 1 (by decide) w3 HR2.out).mono ?_;intro r wa1 hpo
 cases hres:eR 1 s.tk with
 | no c q=>
  rw[hres]at hpo;obtain⟨rfl,f⟩:=hpo;have HFn:=Hj (aJ HF2.out f);have E2:=E0.out;rw[hres,bL]at E2;have En:=Hj E2;clear f hres E2;go_wp2_with fail;refine⟨rfl,?_⟩;rw[←En.out];exact⟨rfl,HFn.out⟩
 | ok t s2=>
  rw[hres]at hpo;obtain⟨v,rfl,hv,h',f⟩:=hpo;subst hv;have hlen:t.tx.length≤16384:=by rw[uP hres];exact HR2.out.good.hd.len
  have HLEN:=Hj hlen;clear hlen;have E2:=E0.out;rw[hres,bG]at E2;have E1:=Hj E2;have HR1:=Hj h';have HF1:=Hj (aJ HF2.out f);have RB_1:=Hj (f.blk RB_2.out RB_2.out.lt (aO HRL.out));have NB_1:=Hj (f.blk NB_2.out NB_2.out.lt (aO HRN.out));have SB_1:=Hj (f.blk SB_2.out SB_2.out.lt (aO HRS.out));clear f hres h' E2 HR2 HF2 E0 RB_2 NB_2 SB_2;clear cR;have m2:wa1.cell? ⟨sb,2,none⟩=some (.string ⟨#[]⟩):=SB_1.out.cell 2;have z2:wa1.frozen? ⟨sb,2,none⟩=false:=SB_1.out.frozen 2;have SB_2:Hid (Blk (wa1.setCell ⟨sb,2,none⟩ (.string ⟨t.tx.toArray⟩)) sb 44 (dM ⟨s.hd.ps,i,t.tx,0,0,false,.no,.no⟩ aP aP).toArray):=SB_1.out.set_ 2 (.string ⟨t.tx.toArray⟩);have WR2:=Hj (dX wa1 sb 2 (.string ⟨t.tx.toArray⟩));go_upto_region 4 with fail;change (Code.region 4 _ _).wp _ _ _ (wa1.setCell ⟨sb,2,none⟩ (.string ⟨t.tx.toArray⟩));clear m2 z2;generalize wa1.setCell ⟨sb,2,none⟩ (.string ⟨t.tx.toArray⟩)=wb2 at *;have HR2:=Hj (WR2.out.rdr HR1.out HRS.out);have HF2:=Hj (WR2.out.fx HF1.out HSB.out);have RB_2:=Hj (WR2.out.blk RB_1.out HNR.out);have NB_2:=Hj (WR2.out.blk NB_1.out HNE.out);clear HR1 HF1 RB_1 NB_1 SB_1;have cR:wb2.cell? ⟨w.heap.size,0,none⟩=some (.pointer (some ⟨R,0,none⟩)):=RB_2.out.cell 0
  go_wp2_with fail;refine(bU R 0 s2 [58] (by decide) wb2 HR2.out).mono ?_;intro r wa3 hpo
  cases hres:cF [58] s2 with
  | no c q=>
   rw[hres]at hpo;obtain⟨rfl,f⟩:=hpo;have HFn:=Hj (aJ HF2.out f);have E2:=E1.out;rw[hres,bL]at E2;have En:=Hj E2;clear f hres E2;go_wp2_with fail;refine⟨rfl,?_⟩;rw[←En.out];exact⟨rfl,HFn.out⟩
  | ok u s3=>
   rw[hres]at hpo;obtain⟨v,rfl,hv,h',f⟩:=hpo;unfold V0 at hv;subst hv;have E2:=E1.out;rw[hres,bG]at E2;have E3:=Hj E2;have HR3:=Hj h';have HF3:=Hj (aJ HF2.out f);have RB_3:=Hj (f.blk RB_2.out RB_2.out.lt (aO HRL.out));have NB_3:=Hj (f.blk NB_2.out NB_2.out.lt (aO HRN.out));have SB_3:=Hj (f.blk SB_2.out SB_2.out.lt (aO HRS.out));clear f hres h' E2 HR2 HF2 E1 RB_2 NB_2 SB_2;clear cR;have cR:wa3.cell? ⟨w.heap.size,0,none⟩=some (.pointer (some ⟨R,0,none⟩)):=RB_3.out.cell 0;go_wp2_with fail;refine(vY R 0 s3 wa3 HR3.out).mono ?_;intro r wa4 hpo
   cases hres:tW s3 with
   | no c q=>
    rw[hres]at hpo;obtain⟨rfl,f⟩:=hpo;have HFn:=Hj (aJ HF3.out f);have E2:=E3.out;rw[hres,bL]at E2;have En:=Hj E2;clear f hres E2;go_wp2_with fail;refine⟨rfl,?_⟩;rw[←En.out];exact⟨rfl,HFn.out⟩
   | ok ty s4=>
    rw[hres]at hpo;obtain⟨v,rfl,hv,h',f⟩:=hpo;subst hv;have HTY:=Hj (aLi hres);have E2:=E3.out;rw[hres,bG]at E2;have E4:=Hj E2;have HR4:=Hj h';have HF4:=Hj (aJ HF3.out f);have RB_4:=Hj (f.blk RB_3.out RB_3.out.lt (aO HRL.out));have NB_4:=Hj (f.blk NB_3.out NB_3.out.lt (aO HRN.out));have SB_4:=Hj (f.blk SB_3.out SB_3.out.lt (aO HRS.out));clear f hres h' E2 HR3 HF3 E3 RB_3 NB_3 SB_3;clear cR;have m5:wa4.cell? ⟨sb,3,none⟩=some (.int .u8 0):=SB_4.out.cell 3;have z5:wa4.frozen? ⟨sb,3,none⟩=false:=SB_4.out.frozen 3;have SB_5:Hid (Blk (wa4.setCell ⟨sb,3,none⟩ (.int .u8 ty)) sb 44 (dM ⟨s.hd.ps,i,t.tx,ty,0,false,.no,.no⟩ aP aP).toArray):=SB_4.out.set_ 3 (.int .u8 ty);have WR5:=Hj (dX wa4 sb 3 (.int .u8 ty));go_upto_region 6 with fail;change (Code.region 6 _ _).wp _ _ _ (wa4.setCell ⟨sb,3,none⟩ (.int .u8 ty));clear m5 z5;generalize wa4.setCell ⟨sb,3,none⟩ (.int .u8 ty)=wb5 at *;have HR5:=Hj (WR5.out.rdr HR4.out HRS.out);have HF5:=Hj (WR5.out.fx HF4.out HSB.out);have RB_5:=Hj (WR5.out.blk RB_4.out HNR.out);have NB_5:=Hj (WR5.out.blk NB_4.out HNE.out);clear HR4 HF4 RB_4 NB_4 SB_4;have i1:wb5.cell? ⟨sb,1,none⟩=some (.bool i):=SB_5.out.cell 1
    cases i with
    | true=>
     have cR:wb5.cell? ⟨w.heap.size,0,none⟩=some (.pointer (some ⟨R,0,none⟩)):=RB_5.out.cell 0;go_wp2_with fail;refine(dL R 0 s4 [105,110] (by decide) wb5 HR5.out).mono ?_;rintro r wd ⟨rfl,h',f⟩;have HFd:=Hj (aJ HF5.out f);have RB_d:=Hj (f.blk RB_5.out RB_5.out.lt (aO HRL.out));have NB_d:=Hj (f.blk NB_5.out NB_5.out.lt (aO HRN.out));have SB_d:=Hj (f.blk SB_5.out SB_5.out.lt (aO HRS.out));clear f cR i1 RB_5 NB_5 SB_5 HF5
     by_cases ci:s4.hd.tx=[105,110]
     ·as_aux_lemma=>
       have ea:acS s4 [105,110]=s4.tk:=if_pos ci;rw[ea]at h';rw[cS ci];have HRd:=Hj h';have E2:=E4.out;unfold deT at E2;rw[if_pos ⟨rfl,ci⟩,←aCY (fun p s'=>(cF [59] s').bind fun _ s'=>.ok (⟨s.hd.ps,true,t.tx,ty,0,true,p.1,p.2⟩:De) s')]at E2;have Ed:=Hj E2;clear h' ea E2 ci E4;have m6:wd.cell? ⟨sb,5,none⟩=some (.bool false):=SB_d.out.cell 5;have z6:wd.frozen? ⟨sb,5,none⟩=false:=SB_d.out.frozen 5;have SB_6:Hid (Blk (wd.setCell ⟨sb,5,none⟩ (.bool true)) sb 44 (dM ⟨s.hd.ps,true,t.tx,ty,0,true,.no,.no⟩ aP aP).toArray):=SB_d.out.set_ 5 (.bool true);have WR6:=Hj (dX wd sb 5 (.bool true));go_upto_region 8 with fail;change (Code.region 8 _ _).wp _ _ _ (wd.setCell ⟨sb,5,none⟩ (.bool true));clear m6 z6;generalize wd.setCell ⟨sb,5,none⟩ (.bool true)=wb6 at *;have HR6:=Hj (WR6.out.rdr HRd.out HRS.out);have HF6:=Hj (WR6.out.fx HFd.out HSB.out);have RB_6:=Hj (WR6.out.blk RB_d.out HNR.out);have NB_6:=Hj (WR6.out.blk NB_d.out HNE.out);clear HRd HFd RB_d NB_d SB_d
       have EN:=Hj (fR R 0 122 [91] [93] (by decide) (by decide) #[.pointer (some ⟨w.heap.size,0,none⟩),.pointer (some ⟨sb,0,none⟩)] (Two R sb) s4.tk kR (GR sb ⟨s.hd.ps,true,t.tx,ty,0,true,.no,.no⟩) aGH (.inl rfl) (fun a w1 w2=>aNb HRS.out a w1 w2) wb6 HR6.out (fun k (x:k=R∨k=sb)=>by have:=SB_6.out.lt;have:=HRS.out;omega)
        (fun _ w1 h1 f1=>aHf R 1 _ sb ⟨s.hd.ps,true,t.tx,ty,0,true,.no,.no⟩ s4.tk.tk w1 h1 (f1.blk RB_6.out RB_6.out.lt (aO HRL.out)) (f1.blk SB_6.out SB_6.out.lt (aO HRS.out)) HRS.out HRL.out HNR.out))
       have cR:wb6.cell? ⟨w.heap.size,0,none⟩=some (.pointer (some ⟨R,0,none⟩)):=RB_6.out.cell 0;go_wp2_with fail;refine EN.out.mono ?_;intro r we hpo;clear EN cR
       cases hres:fB 0 [91] [93] kR s4.tk with
       | no c q=>
        rw[hres]at hpo;obtain⟨rfl,f⟩:=hpo;have HFn:=Hj (HF6.out.trans (gN f HF6.out.size HSB.out));have E2:=Ed.out;rw[hres,bL]at E2;have En:=Hj E2;clear f hres E2;go_wp2_with fail;refine⟨rfl,?_⟩;rw[←En.out];exact⟨rfl,HFn.out⟩
       | ok pr s8=>
        rw[hres]at hpo;obtain⟨rfl,⟨a,b,hb,xa,xb,ea,eb⟩,h',f⟩:=hpo;have E2:=Ed.out;rw[hres,bG]at E2;have Ee:=Hj E2;have HRe:=Hj h';have HFe:=Hj (HF6.out.trans (gN f HF6.out.size HSB.out));have SB_e:=Hj hb;have NB_e:=Hj (f.blk NB_6.out NB_6.out.lt (fun x=>by rcases x with x|x;exact absurd x (Nat.ne_of_gt HRN.out);exact HNE.out x));have RB_e:=Hj (f.blk RB_6.out RB_6.out.lt (fun x=>by rcases x with x|x;exact absurd x (Nat.ne_of_gt HRL.out);exact HNR.out x));have XA:=Hj (And.intro xa xb);have EA:=Hj (And.intro ea eb);clear f hres h' E2 hb xa xb ea eb Ed HR6 HF6 RB_6 NB_6 SB_6;have HDR:Hid (¬(fun k=>sb<k) R):=(fun(x:sb<R)=>Nat.lt_asymm x HRS.out);have cR:we.cell? ⟨w.heap.size,0,none⟩=some (.pointer (some ⟨R,0,none⟩)):=RB_e.out.cell 0;go_wp2_with fail;refine(bU R 0 s8 [59] (by decide) we HRe.out).mono ?_;intro r wf hpo;clear cR
        cases hres:cF [59] s8 with
        | no c q=>
         rw[hres]at hpo;obtain⟨rfl,f⟩:=hpo;have HFn:=Hj (aJ HFe.out f);have E2:=Ee.out;rw[hres,bL]at E2;have En:=Hj E2;clear f hres E2;go_wp2_with fail;refine⟨rfl,?_⟩;rw[←En.out];exact⟨rfl,HFn.out⟩
        | ok u2 s9=>
         rw[hres]at hpo;obtain⟨v,rfl,hv,h',f⟩:=hpo;unfold V0 at hv;subst hv;have E2:=Ee.out;rw[hres,bG]at E2;have Ef:=Hj E2;have HRf:=Hj h';have HFf:=Hj (aJ HFe.out f);have SB_f:=Hj (f.blk SB_e.out SB_e.out.lt (aO HRS.out));have NB_f:=Hj (f.blk NB_e.out NB_e.out.lt (aO HRN.out));have XB:=Hj (And.intro (XA.out.1.fx f (aQ HDR.out)) (XA.out.2.fx f (aQ HDR.out)));clear f hres h' E2 Ee HRe HFe SB_e NB_e RB_e XA
         go_wp2_with (first
          | refine aEt ⟨s.hd.ps,true,t.tx,ty,0,true,.no,.no⟩ a.h b.h sb SB_f.out rfl _ rfl rfl ?_
          | refine aBm ⟨s.hd.ps,true,t.tx,ty,0,true,.no,.no⟩ a.h b.h (w.heap.size+1) _ NB_f.out rfl rfl _ _ rfl rfl rfl ?_)
         refine bodyPost_ret (aEa rfl _ _ (w.heap.size+1) ⟨s.hd.ps,true,t.tx,ty,0,true,.no,.no⟩ a.h b.h rfl (NB_f.out.rowS _)) rfl ?_;rw[←Ef.out];exact⟨_,rfl,⟨⟨s.hd.ps,true,t.tx,ty,0,true,a,b⟩,rfl,⟨aEG HS.out.ps0 HS.out.ps1 HTY.out.1 HTY.out.2 (Int.le_refl 0) (by decide) HLEN.out,((XB.out.1.fx (cV _ (w.heap.size+1) _).1 (aQ (fun(x:sb<w.heap.size+1)=>by have:=HTB.out;have:=HTS.out;omega))).imp (fun k _ (x:sb<k)=>aF HSB.out (Nat.le_of_lt x))),((XB.out.2.fx (cV _ (w.heap.size+1) _).1 (aQ (fun(x:sb<w.heap.size+1)=>by have:=HTB.out;have:=HTS.out;omega))).imp (fun k _ (x:sb<k)=>aF HSB.out (Nat.le_of_lt x)))⟩,⟨rfl,rfl,rfl,rfl,rfl,rfl⟩,EA.out.1,EA.out.2⟩,HRf.out.row HRN.out _,bI HFf.out (.inr (Nat.le_succ _)) _⟩
     ·as_aux_lemma=>
       have ea:acS s4 [105,110]=s4:=if_neg ci;rw[ea]at h';rw[cU ci];have HRd:=Hj h';have E2:=E4.out;unfold deT at E2;rw[if_neg (fun x=>ci x.2),if_neg (fun x=>by cases x.1)]at E2;have Ed:=Hj E2;have i2:wd.cell? ⟨sb,1,none⟩=some (.bool true):=SB_d.out.cell 1;clear h' ea E2 ci E4;have cR:wd.cell? ⟨w.heap.size,0,none⟩=some (.pointer (some ⟨R,0,none⟩)):=RB_d.out.cell 0;go_wp2_with fail;refine(bU R 0 s4 [59] (by decide) wd HRd.out).mono ?_;intro r wa7 hpo
       cases hres:cF [59] s4 with
       | no c q=>
        rw[hres]at hpo;obtain⟨rfl,f⟩:=hpo;have HFn:=Hj (aJ HFd.out f);have E2:=Ed.out;rw[hres,bL]at E2;have En:=Hj E2;clear f hres E2;go_wp2_with fail;refine⟨rfl,?_⟩;rw[←En.out];exact⟨rfl,HFn.out⟩
       | ok u2 s9=>
        rw[hres]at hpo;obtain⟨v,rfl,hv,h',f⟩:=hpo;unfold V0 at hv;subst hv;have E2:=Ed.out;rw[hres,bG]at E2;have E7:=Hj E2;have HR7:=Hj h';have HF7:=Hj (aJ HFd.out f);have RB_7:=Hj (f.blk RB_d.out RB_d.out.lt (aO HRL.out));have NB_7:=Hj (f.blk NB_d.out NB_d.out.lt (aO HRN.out));have SB_7:=Hj (f.blk SB_d.out SB_d.out.lt (aO HRS.out));clear f hres h' E2 HRd HFd Ed RB_d NB_d SB_d;clear cR
        go_wp2_with (first
         | refine aEt ⟨s.hd.ps,true,t.tx,ty,0,false,.no,.no⟩ aP aP sb SB_7.out rfl _ rfl rfl ?_
         | refine aBm ⟨s.hd.ps,true,t.tx,ty,0,false,.no,.no⟩ aP aP (w.heap.size+1) _ NB_7.out rfl rfl _ _ rfl rfl rfl ?_)
        refine bodyPost_ret (aEa rfl _ _ (w.heap.size+1) ⟨s.hd.ps,true,t.tx,ty,0,false,.no,.no⟩ aP aP rfl (NB_7.out.rowS _)) rfl ?_;rw[←E7.out];exact⟨_,rfl,⟨⟨s.hd.ps,true,t.tx,ty,0,false,.no,.no⟩,rfl,⟨aEG HS.out.ps0 HS.out.ps1 HTY.out.1 HTY.out.2 (Int.le_refl 0) (by decide) HLEN.out,trivial,trivial⟩,⟨rfl,rfl,rfl,rfl,rfl,rfl⟩,Ex.eqv_refl _,Ex.eqv_refl _⟩,HR7.out.row HRN.out _,bI HF7.out (.inr (Nat.le_succ _)) _⟩
    | false=>
     have cR:wb5.cell? ⟨w.heap.size,0,none⟩=some (.pointer (some ⟨R,0,none⟩)):=RB_5.out.cell 0;go_wp2_with fail;refine(dZ R 0 s4 [91] wb5 HR5.out).mono ?_;rintro r wd ⟨rfl,hb⟩;have HFd:=Hj (aZ HF5.out hb);have HRd:=Hj (HR5.out.below hb HR5.out.lt);have RB_d:=Hj (RB_5.out.below hb RB_5.out.lt);have NB_d:=Hj (NB_5.out.below hb NB_5.out.lt);have SB_d:=Hj (SB_5.out.below hb SB_5.out.lt);clear hb cR i1 RB_5 NB_5 SB_5 HF5 HR5
     by_cases ci:s4.hd.tx=[91]
     ·as_aux_lemma=>
       rw[cS ci];have E2:=E4.out;unfold deT at E2;rw[if_neg (fun x=>by cases x.1),if_pos ⟨rfl,ci⟩,←aHN (fun n s'=>(cF [59] s').bind fun _ s'=>.ok (⟨s.hd.ps,false,t.tx,ty,n,false,.no,.no⟩:De) s') s4 ci]at E2;have Ed:=Hj E2;clear E2 ci E4
       have EN:=Hj (fR R 0 124 [91] [93] (by decide) (by decide) #[.pointer (some ⟨w.heap.size,0,none⟩),.pointer (some ⟨sb,0,none⟩)] (Two R sb) s4 aDs (GN sb ⟨s.hd.ps,false,t.tx,ty,0,false,.no,.no⟩) aGG (.inl rfl) (fun a w1 w2=>aNc HRS.out a w1 w2) wd HRd.out (fun k (x:k=R∨k=sb)=>by have:=SB_d.out.lt;have:=HRS.out;omega)
        (fun _ w1 h1 f1=>aHe R 1 _ sb ⟨s.hd.ps,false,t.tx,ty,0,false,.no,.no⟩ s4.tk w1 h1 (f1.blk RB_d.out RB_d.out.lt (aO HRL.out)) (f1.blk SB_d.out SB_d.out.lt (aO HRS.out)) HRS.out HRL.out))
       have cR:wd.cell? ⟨w.heap.size,0,none⟩=some (.pointer (some ⟨R,0,none⟩)):=RB_d.out.cell 0;go_wp2_with fail;refine EN.out.mono ?_;intro r we hpo;clear EN cR
       cases hres:fB 0 [91] [93] aDs s4 with
       | no c q=>
        rw[hres]at hpo;obtain⟨rfl,f⟩:=hpo;have HFn:=Hj (HFd.out.trans (gN f HFd.out.size HSB.out));have E2:=Ed.out;rw[hres,bL]at E2;have En:=Hj E2;clear f hres E2;go_wp2_with fail;refine⟨rfl,?_⟩;rw[←En.out];exact⟨rfl,HFn.out⟩
       | ok len s8=>
        rw[hres]at hpo;obtain⟨rfl,⟨hb,hln⟩,h',f⟩:=hpo;have E2:=Ed.out;rw[hres,bG]at E2;have Ee:=Hj E2;have HRe:=Hj h';have HFe:=Hj (HFd.out.trans (gN f HFd.out.size HSB.out));have SB_e:=Hj hb;have HLN:=Hj hln;have NB_e:=Hj (f.blk NB_d.out NB_d.out.lt (fun x=>by rcases x with x|x;exact absurd x (Nat.ne_of_gt HRN.out);exact HNE.out x));have RB_e:=Hj (f.blk RB_d.out RB_d.out.lt (fun x=>by rcases x with x|x;exact absurd x (Nat.ne_of_gt HRL.out);exact HNR.out x));clear f hres h' E2 hb hln Ed HRd HFd RB_d NB_d SB_d;have cR:we.cell? ⟨w.heap.size,0,none⟩=some (.pointer (some ⟨R,0,none⟩)):=RB_e.out.cell 0;go_wp2_with fail;refine(bU R 0 s8 [59] (by decide) we HRe.out).mono ?_;intro r wa8 hpo
        cases hres:cF [59] s8 with
        | no c q=>
         rw[hres]at hpo;obtain⟨rfl,f⟩:=hpo;have HFn:=Hj (aJ HFe.out f);have E2:=Ee.out;rw[hres,bL]at E2;have En:=Hj E2;clear f hres E2;go_wp2_with fail;refine⟨rfl,?_⟩;rw[←En.out];exact⟨rfl,HFn.out⟩
        | ok u2 s9=>
         rw[hres]at hpo;obtain⟨v,rfl,hv,h',f⟩:=hpo;unfold V0 at hv;subst hv;have E2:=Ee.out;rw[hres,bG]at E2;have E8:=Hj E2;have HR8:=Hj h';have HF8:=Hj (aJ HFe.out f);have RB_8:=Hj (f.blk RB_e.out RB_e.out.lt (aO HRL.out));have NB_8:=Hj (f.blk NB_e.out NB_e.out.lt (aO HRN.out));have SB_8:=Hj (f.blk SB_e.out SB_e.out.lt (aO HRS.out));clear f hres h' E2 HRe HFe Ee RB_e NB_e SB_e;clear cR
         go_wp2_with (first
          | refine aEt ⟨s.hd.ps,false,t.tx,ty,len,false,.no,.no⟩ aP aP sb SB_8.out rfl _ rfl rfl ?_
          | refine aBm ⟨s.hd.ps,false,t.tx,ty,len,false,.no,.no⟩ aP aP (w.heap.size+1) _ NB_8.out rfl rfl _ _ rfl rfl rfl ?_)
         refine bodyPost_ret (aEa rfl _ _ (w.heap.size+1) ⟨s.hd.ps,false,t.tx,ty,len,false,.no,.no⟩ aP aP rfl (NB_8.out.rowS _)) rfl ?_;rw[←E8.out];exact⟨_,rfl,⟨⟨s.hd.ps,false,t.tx,ty,len,false,.no,.no⟩,rfl,⟨aEG HS.out.ps0 HS.out.ps1 HTY.out.1 HTY.out.2 HLN.out.1 HLN.out.2 HLEN.out,trivial,trivial⟩,⟨rfl,rfl,rfl,rfl,rfl,rfl⟩,Ex.eqv_refl _,Ex.eqv_refl _⟩,HR8.out.row HRN.out _,bI HF8.out (.inr (Nat.le_succ _)) _⟩
     ·as_aux_lemma=>
       rw[cU ci];have E2:=E4.out;unfold deT at E2;rw[if_neg (fun x=>by cases x.1),if_neg (fun x=>ci x.2)]at E2;have Ed:=Hj E2;clear E2 ci E4;have cR:wd.cell? ⟨w.heap.size,0,none⟩=some (.pointer (some ⟨R,0,none⟩)):=RB_d.out.cell 0;go_wp2_with fail;refine(bU R 0 s4 [59] (by decide) wd HRd.out).mono ?_;intro r wa9 hpo
       cases hres:cF [59] s4 with
       | no c q=>
        rw[hres]at hpo;obtain⟨rfl,f⟩:=hpo;have HFn:=Hj (aJ HFd.out f);have E2:=Ed.out;rw[hres,bL]at E2;have En:=Hj E2;clear f hres E2;go_wp2_with fail;refine⟨rfl,?_⟩;rw[←En.out];exact⟨rfl,HFn.out⟩
       | ok u2 s9=>
        rw[hres]at hpo;obtain⟨v,rfl,hv,h',f⟩:=hpo;unfold V0 at hv;subst hv;have E2:=Ed.out;rw[hres,bG]at E2;have E9:=Hj E2;have HR9:=Hj h';have HF9:=Hj (aJ HFd.out f);have RB_9:=Hj (f.blk RB_d.out RB_d.out.lt (aO HRL.out));have NB_9:=Hj (f.blk NB_d.out NB_d.out.lt (aO HRN.out));have SB_9:=Hj (f.blk SB_d.out SB_d.out.lt (aO HRS.out));clear f hres h' E2 HRd HFd Ed RB_d NB_d SB_d;clear cR
        go_wp2_with (first
         | refine aEt ⟨s.hd.ps,false,t.tx,ty,0,false,.no,.no⟩ aP aP sb SB_9.out rfl _ rfl rfl ?_
         | refine aBm ⟨s.hd.ps,false,t.tx,ty,0,false,.no,.no⟩ aP aP (w.heap.size+1) _ NB_9.out rfl rfl _ _ rfl rfl rfl ?_)
        refine bodyPost_ret (aEa rfl _ _ (w.heap.size+1) ⟨s.hd.ps,false,t.tx,ty,0,false,.no,.no⟩ aP aP rfl (NB_9.out.rowS _)) rfl ?_;rw[←E9.out];exact⟨_,rfl,⟨⟨s.hd.ps,false,t.tx,ty,0,false,.no,.no⟩,rfl,⟨aEG HS.out.ps0 HS.out.ps1 HTY.out.1 HTY.out.2 (Int.le_refl 0) (by decide) HLEN.out,trivial,trivial⟩,⟨rfl,rfl,rfl,rfl,rfl,rfl⟩,Ex.eqv_refl _,Ex.eqv_refl _⟩,HR9.out.row HRN.out _,bI HF9.out (.inr (Nat.le_succ _)) _⟩
end Go.Proofs.YtkbicfffokegeaaGreatDoor
namespace Go.Proofs.YtkbicfffokegeaaGreatDoor
set_option maxHeartbeats 16000000
open Go.RowKit Go.Maps
set_option maxRecDepth 100000
theorem aBB (R:Nat)(s:PS)(w:World)(h:Rdr R 0 s w) :
  Calls Tryz.prog 83 #[.pointer (some ⟨R,0,none⟩)] w (PO R 0 w (lO (s.ts.length+1) [] s) (VDs w.heap.size)):=by
 obtain⟨i0,hi,hz0,hz1,hz2⟩:=info_parts aFK;have HI:=Hj hi;have HZ0:=Hj hz0;have HZ1:=Hj hz1;have HZ2:=Hj hz2;generalize hZ:lO (s.ts.length+1) [] s=Z;have HZ:=Hj hZ;have HR:=Hj (h.alloc (.cells #[.int .i64 0] 3));have HCB:Hid (Blk (w.alloc (.cells #[.int .i64 0] 3)) w.heap.size 3 #[.int .i64 0]):=Blk.new _ _ _;have HF:Hid (Fx (On R) w.heap.size w (w.alloc (.cells #[.int .i64 0] 3))):=Fx.of (aY w _);have HRL:=Hj h.lt;have HSZ:Hid (w.heap.size<(w.alloc (.cells #[.int .i64 0] 3)).heap.size):=HCB.out.lt;clear hi hz0 hz1 hz2 hZ h;go_enter Tryz.func83,Tryz.ntmps83;go_wp2_with fail
 go_loopg [3] s.ts.length (fun gk v wr=>∃(l:List De) (n:Nat) (K:Nat→De) (s:PS) (f:Nat),Hid (gk=s.ts.length)∧Hid (Blk wr w.heap.size 3 #[.int .i64 (n:Int)])∧Hid (wr.ownsRow (w.heap.size+1) 44 20 v n (oN K n))∧Hid (n=l.length∧n≤96)∧Hid (∀i,i<n→XDe (Dr (w.heap.size+1) v) (K i) wr)∧Hid (∀i,i<n→(K i).eqv (l.getD i mQ))∧Hid (Rdr R 0 s wr)∧Hid (Fx (On R) w.heap.size w wr)∧Hid (s.ts.length<f)∧Hid (lO f l s=Z))
 case atStart=>exact⟨[],0,fun _=>mQ,s,s.ts.length+1,rfl,HCB.out,⟨rfl,.inl ⟨rfl,rfl⟩⟩,⟨rfl,Nat.zero_le _⟩,(fun i hi=>absurd hi (Nat.not_lt_zero i)),(fun i hi=>absurd hi (Nat.not_lt_zero i)),HR.out,HF.out,Nat.lt_succ_self _,HZ.out⟩
 case round=>
  clear HCB HR HZ HF;obtain⟨l,n,K,s,f,HGK,HCB,HOW,HN,HK,HQ,HR,HF,HFL,HZ⟩:=hrel;obtain⟨f,rfl⟩:∃f',f=f'+1:=⟨f - 1,by have:=HFL.out;omega⟩;obtain⟨A,cp,rfl⟩:=aBF HOW.out;go_wp2_with fail;refine(dZ R 0 s [105,110,112,117,116] wr HR.out).mono ?_;rintro e w1 ⟨rfl,hb⟩;have HCB1:=Hj (HCB.out.below hb HCB.out.lt);have HR1:=Hj (HR.out.below hb HR.out.lt);have HOW1:=Hj (bE HOW.out hb);have HK1:=Hj (fun i hi=>(HK.out i hi).bel hb);have HF1:=Hj (aZ HF.out hb);clear hb HCB HR HOW HK HF
  by_cases c:s.hd.tx=[105,110,112,117,116]
  ·rw[cS c]
   have hk:s.hd.kd≠0:=HR1.out.good.kd (by rw[←PS.hd,c];decide);have HKD:=Hj hk;have E:Hid ((if l.length=96 then Rs.no 112 s.hd.ps else(uF s).bind fun d s'=>lO f (l++[d]) s')=Z):=by show _=Z;rw[←HZ.out,lO,if_pos (show s.hd.tx=aHW∨s.hd.tx=aLe from .inl c)]
   clear c hk HZ;go_wp2_with fail;refine(cI R 0 s w1 HR1.out).mono ?_;rintro e w3 ⟨rfl,hb⟩;have HCB3:=Hj (HCB1.out.below hb HCB1.out.lt);have HR3:=Hj (HR1.out.below hb HR1.out.lt);have HOW3:=Hj (bE HOW1.out hb);have HK3:=Hj (fun i hi=>(HK1.out i hi).bel hb);have HF3:=Hj (aZ HF1.out hb);clear hb HCB1 HR1 HOW1 HK1 HF1;have ft:=fun w=>oX s.hd w;go_wp2_with fail;have CO:=gH w.heap.size 0 n 96 s.hd.ps w3 (HCB3.out.cell 0) (HCB3.out.frozen 0) (by have:=HN.out.2;omega)
   by_cases c9:(n:Int)=96
   ·as_aux_lemma=>
     simp only[if_pos c9]at CO;refine CO.mono ?_;rintro e w4 ⟨rfl,rfl⟩;have E9:Hid (Z=.no 112 s.hd.ps):=by show Z=_;rw[←E.out,if_pos (by have:=HN.out.1;omega)]
     clear CO c9;go_wp2_with fail;refine⟨rfl,?_⟩;rw[E9.out];exact⟨rfl,HF3.out⟩
   ·as_aux_lemma=>
     simp only[if_neg c9]at CO;refine CO.mono ?_;rintro e w4 ⟨rfl,rfl⟩;have E9:Hid ((uF s).bind (fun d s'=>lO f (l++[d]) s')=Z):=by show _=Z;rw[←E.out,if_neg (by have:=HN.out.1;omega)]
     have HL9:Hid (n<96):=(by show n<96;have:=HN.out.2;omega);have HCB4:Hid (Blk (w3.setCell ⟨w.heap.size,0,none⟩ (.int .i64 ((n:Int)+1))) w.heap.size 3 #[.int .i64 ((n+1:Nat):Int)]):=HCB3.out.set_ 0 (.int .i64 ((n:Int)+1));have HR4:=Hj (HR3.out.set (p:=⟨w.heap.size,0,none⟩) HRL.out (.int .i64 ((n:Int)+1)));have HF4:=Hj (bJ HF3.out (p:=⟨w.heap.size,0,none⟩) (.inr (aD _)) (.int .i64 ((n:Int)+1)));have HOW4:=Hj (ownsRow_setCell_below HOW3.out (a:=⟨w.heap.size,0,none⟩) (Nat.lt_succ_self _) (.int .i64 ((n:Int)+1)));have HK4:=Hj (fun i hi=>(HK3.out i hi).set (p:=⟨w.heap.size,0,none⟩) (fun x=>Nat.lt_irrefl _ x.1) (.int .i64 ((n:Int)+1)));clear CO c9 E HCB3 HR3 HF3 HOW3 HK3;generalize w3.setCell ⟨w.heap.size,0,none⟩ (.int .i64 ((n:Int)+1))=w4 at *;go_wp2_with fail;refine(wB R s w4 HR4.out HKD.out).mono ?_;intro r w5 hpo
     cases hres:uF s with
     | no c q=>
      rw[hres]at hpo;obtain⟨rfl,f5⟩:=hpo;have E2:=E9.out;rw[hres,bL]at E2;have En:=Hj E2;have HFn:=Hj (aJ HF4.out f5);clear f5 hres E2;go_wp2_with fail;refine⟨rfl,?_⟩;rw[←En.out];exact⟨rfl,HFn.out⟩
     | ok x s2=>
      rw[hres]at hpo;obtain⟨v,rfl,⟨d,rfl,xd,ed⟩,h5,f5⟩:=hpo;have E2:=E9.out;rw[hres,bG]at E2;have En:=Hj E2;have HLF:=Hj (aEs HR4.out.good HKD.out x s2 hres);have HPO:=Hj HR4.out.good.pos;have HCB5:=Hj (f5.blk HCB4.out HCB4.out.lt (aO HRL.out));have OW5:=Hj (pG HOW4.out f5 (fun k hk (x:k=R)=>by have:=HRL.out;omega));have HR5:=Hj h5;have HF5:=Hj (aJ HF4.out f5);have HK5:=Hj (fun i hi=>(HK4.out i hi).fx f5 (aQ (fun x=>by have:=x.1;have:=HRL.out;omega)));have HX5:=Hj (xd.imp (D':=Dr (w.heap.size+1) (.slice A n cp)) (fun k _ (x:w4.heap.size≤k)=>⟨by have:=HCB4.out.lt;omega,fun e=>Nat.lt_irrefl _ (aE (dS HOW4.out e).2 x)⟩));have ED:=Hj ed;have ONE:Hid (∀u∈d.vs,u.oneCell'=true):=(by show ∀u∈d.vs,u.oneCell'=true;simp[De.vs,dM,Value.oneCell']);have LN:Hid (n+1≤maxLen):=(by show n+1≤maxLen;have:=HL9.out;unfold maxLen;omega);have LB:Hid ((n+1)*200≤140737488355328):=(by show(n+1)*200≤_;have:=HL9.out;omega);have SZ5:Hid (w.heap.size+1≤w5.heap.size):=HCB5.out.lt;clear hres E2 xd ed h5 f5 HR4 HF4 HCB4 HOW4 HK4 E9
      go_wp2_with (first
       | (refine aLc d rfl _ rfl rfl ?_;intro db w7 ZB BA;have NW:=aEn ZB.out)
       | (refine fO w7 rfl _ _ 22 rfl (w.heap.size+1) 44 i0 _ 20 200 Tryz.underlying22 HI.out HZ0.out HZ1.out HZ2.out rfl (by decide) (.slice A n cp) n _ rfl (bE OW5.out BA.out) ⟨db,0,none⟩ 1 1 d.vs rfl rfl NW ONE.out LN.out LB.out (aF SZ5.out BA.out.size) ?_;intro v6 w6 own6 gr6 mv6))
      have OW:=bE OW5.out BA.out
      go_roundg s2.ts.length
      case measure=>have:=HPO.out;have:=HLF.out.2.1;have:=HGK.out;omega
      case rel=>exact⟨l++[x],n+1,fun i=>if i<n then K i else d,s2,f,rfl,eX gr6 OW (HCB5.out.below BA.out HCB5.out.lt) (Nat.lt_succ_self _),zD own6,⟨by rw[List.length_append,HN.out.1];rfl,HL9.out⟩,aEp (fun i hi=>uW gr6 mv6 ((HK5.out i hi).bel BA.out)) (uW gr6 mv6 (HX5.out.bel BA.out)),zE HN.out.1 HQ.out ED.out,kN gr6 OW (HR5.out.below BA.out HR5.out.lt) (Nat.lt_succ_of_lt HRL.out),nP gr6 (nV (Nat.le_succ _) OW) (aZ HF5.out BA.out),(by show s2.ts.length<f;have:=HPO.out;have:=HLF.out.2.1;have:=HFL.out;omega),En.out⟩
  ·rw[cU c]
   go_wp2_with fail;refine(dZ R 0 s [118,97,114] w1 HR1.out).mono ?_;rintro e w2 ⟨rfl,hb⟩
   by_cases c2:s.hd.tx=[118,97,114]
   ·rw[cS c2]
    have hk:s.hd.kd≠0:=HR1.out.good.kd (by rw[←PS.hd,c2];decide);have HKD:=Hj hk;have E:Hid ((if l.length=96 then Rs.no 112 s.hd.ps else(uF s).bind fun d s'=>lO f (l++[d]) s')=Z):=by show _=Z;rw[←HZ.out,lO,if_pos (show s.hd.tx=aHW∨s.hd.tx=aLe from .inr c2)]
    have HCB2:=Hj (HCB1.out.below hb HCB1.out.lt);have HR2:=Hj (HR1.out.below hb HR1.out.lt);have HOW2:=Hj (bE HOW1.out hb);have HK2:=Hj (fun i hi=>(HK1.out i hi).bel hb);have HF2:=Hj (aZ HF1.out hb);clear hb HCB1 HR1 HOW1 HK1 HF1;clear c c2 hk HZ;go_wp2_with fail;refine(cI R 0 s w2 HR2.out).mono ?_;rintro e w3 ⟨rfl,hb⟩;have HCB3:=Hj (HCB2.out.below hb HCB2.out.lt);have HR3:=Hj (HR2.out.below hb HR2.out.lt);have HOW3:=Hj (bE HOW2.out hb);have HK3:=Hj (fun i hi=>(HK2.out i hi).bel hb);have HF3:=Hj (aZ HF2.out hb);clear hb HCB2 HR2 HOW2 HK2 HF2;have ft:=fun w=>oX s.hd w;go_wp2_with fail;have CO:=gH w.heap.size 0 n 96 s.hd.ps w3 (HCB3.out.cell 0) (HCB3.out.frozen 0) (by have:=HN.out.2;omega)
    by_cases c9:(n:Int)=96
    ·as_aux_lemma=>
      simp only[if_pos c9]at CO;refine CO.mono ?_;rintro e w4 ⟨rfl,rfl⟩;have E9:Hid (Z=.no 112 s.hd.ps):=by show Z=_;rw[←E.out,if_pos (by have:=HN.out.1;omega)]
      clear CO c9;go_wp2_with fail;refine⟨rfl,?_⟩;rw[E9.out];exact⟨rfl,HF3.out⟩
    ·as_aux_lemma=>
      simp only[if_neg c9]at CO;refine CO.mono ?_;rintro e w4 ⟨rfl,rfl⟩;have E9:Hid ((uF s).bind (fun d s'=>lO f (l++[d]) s')=Z):=by show _=Z;rw[←E.out,if_neg (by have:=HN.out.1;omega)]
      have HL9:Hid (n<96):=(by show n<96;have:=HN.out.2;omega);have HCB4:Hid (Blk (w3.setCell ⟨w.heap.size,0,none⟩ (.int .i64 ((n:Int)+1))) w.heap.size 3 #[.int .i64 ((n+1:Nat):Int)]):=HCB3.out.set_ 0 (.int .i64 ((n:Int)+1));have HR4:=Hj (HR3.out.set (p:=⟨w.heap.size,0,none⟩) HRL.out (.int .i64 ((n:Int)+1)));have HF4:=Hj (bJ HF3.out (p:=⟨w.heap.size,0,none⟩) (.inr (aD _)) (.int .i64 ((n:Int)+1)));have HOW4:=Hj (ownsRow_setCell_below HOW3.out (a:=⟨w.heap.size,0,none⟩) (Nat.lt_succ_self _) (.int .i64 ((n:Int)+1)));have HK4:=Hj (fun i hi=>(HK3.out i hi).set (p:=⟨w.heap.size,0,none⟩) (fun x=>Nat.lt_irrefl _ x.1) (.int .i64 ((n:Int)+1)));clear CO c9 E HCB3 HR3 HF3 HOW3 HK3;generalize w3.setCell ⟨w.heap.size,0,none⟩ (.int .i64 ((n:Int)+1))=w4 at *;go_wp2_with fail;refine(wB R s w4 HR4.out HKD.out).mono ?_;intro r w5 hpo
      cases hres:uF s with
      | no c q=>
       rw[hres]at hpo;obtain⟨rfl,f5⟩:=hpo;have E2:=E9.out;rw[hres,bL]at E2;have En:=Hj E2;have HFn:=Hj (aJ HF4.out f5);clear f5 hres E2;go_wp2_with fail;refine⟨rfl,?_⟩;rw[←En.out];exact⟨rfl,HFn.out⟩
      | ok x s2=>
       rw[hres]at hpo;obtain⟨v,rfl,⟨d,rfl,xd,ed⟩,h5,f5⟩:=hpo;have E2:=E9.out;rw[hres,bG]at E2;have En:=Hj E2;have HLF:=Hj (aEs HR4.out.good HKD.out x s2 hres);have HPO:=Hj HR4.out.good.pos;have HCB5:=Hj (f5.blk HCB4.out HCB4.out.lt (aO HRL.out));have OW5:=Hj (pG HOW4.out f5 (fun k hk (x:k=R)=>by have:=HRL.out;omega));have HR5:=Hj h5;have HF5:=Hj (aJ HF4.out f5);have HK5:=Hj (fun i hi=>(HK4.out i hi).fx f5 (aQ (fun x=>by have:=x.1;have:=HRL.out;omega)));have HX5:=Hj (xd.imp (D':=Dr (w.heap.size+1) (.slice A n cp)) (fun k _ (x:w4.heap.size≤k)=>⟨by have:=HCB4.out.lt;omega,fun e=>Nat.lt_irrefl _ (aE (dS HOW4.out e).2 x)⟩));have ED:=Hj ed;have ONE:Hid (∀u∈d.vs,u.oneCell'=true):=(by show ∀u∈d.vs,u.oneCell'=true;simp[De.vs,dM,Value.oneCell']);have LN:Hid (n+1≤maxLen):=(by show n+1≤maxLen;have:=HL9.out;unfold maxLen;omega);have LB:Hid ((n+1)*200≤140737488355328):=(by show(n+1)*200≤_;have:=HL9.out;omega);have SZ5:Hid (w.heap.size+1≤w5.heap.size):=HCB5.out.lt;clear hres E2 xd ed h5 f5 HR4 HF4 HCB4 HOW4 HK4 E9
       go_wp2_with (first
        | (refine aLc d rfl _ rfl rfl ?_;intro db w7 ZB BA;have NW:=aEn ZB.out)
        | (refine fO w7 rfl _ _ 22 rfl (w.heap.size+1) 44 i0 _ 20 200 Tryz.underlying22 HI.out HZ0.out HZ1.out HZ2.out rfl (by decide) (.slice A n cp) n _ rfl (bE OW5.out BA.out) ⟨db,0,none⟩ 1 1 d.vs rfl rfl NW ONE.out LN.out LB.out (aF SZ5.out BA.out.size) ?_;intro v6 w6 own6 gr6 mv6))
       have OW:=bE OW5.out BA.out
       go_roundg s2.ts.length
       case measure=>have:=HPO.out;have:=HLF.out.2.1;have:=HGK.out;omega
       case rel=>exact⟨l++[x],n+1,fun i=>if i<n then K i else d,s2,f,rfl,eX gr6 OW (HCB5.out.below BA.out HCB5.out.lt) (Nat.lt_succ_self _),zD own6,⟨by rw[List.length_append,HN.out.1];rfl,HL9.out⟩,aEp (fun i hi=>uW gr6 mv6 ((HK5.out i hi).bel BA.out)) (uW gr6 mv6 (HX5.out.bel BA.out)),zE HN.out.1 HQ.out ED.out,kN gr6 OW (HR5.out.below BA.out HR5.out.lt) (Nat.lt_succ_of_lt HRL.out),nP gr6 (nV (Nat.le_succ _) OW) (aZ HF5.out BA.out),(by show s2.ts.length<f;have:=HPO.out;have:=HLF.out.2.1;have:=HFL.out;omega),En.out⟩
   ·rw[cU c2]
    have E:Hid (Z=.ok l s):=by show Z=_;rw[←HZ.out,lO,if_neg (fun x=>x.elim c c2)]
    have HCB2:=Hj (HCB1.out.below hb HCB1.out.lt);have HR2:=Hj (HR1.out.below hb HR1.out.lt);have HOW2:=Hj (bE HOW1.out hb);have HK2:=Hj (fun i hi=>(HK1.out i hi).bel hb);have HF2:=Hj (aZ HF1.out hb);clear hb HCB1 HR1 HOW1 HK1 HF1;clear c c2 HZ;go_wp2_with fail;obtain⟨S,hS,hSn,hx⟩:=aJE HOW2.out HK2.out;refine bodyPost_ret (results_tmp rfl _ _ _) rfl ?_;rw[E.out];exact⟨_,rfl,⟨S,K,hS,hx.imp (fun k _ (x:w.heap.size+1≤k)=>Nat.le_of_succ_le x),hSn.trans HN.out.1,fun i hi=>HQ.out i (by rw[hSn]at hi;exact hi)⟩,HR2.out,HF2.out⟩
end Go.Proofs.YtkbicfffokegeaaGreatDoor
