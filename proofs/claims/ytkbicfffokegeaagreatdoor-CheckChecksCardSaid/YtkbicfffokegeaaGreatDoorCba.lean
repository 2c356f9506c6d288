/-
  Whatever program is handed in, CheckChecks answers true. (part 27 of 38) Conditions: none beside what the card ties.
-/
import Derived.Test.YtkbicfffokegeaaGreatDoorCaz
namespace Go.Proofs.YtkbicfffokegeaaGreatDoor
set_option maxHeartbeats 16000000
open Go.RowKit
set_option maxRecDepth 100000
def zF (d:Option (PS→Rs St))(ps:Int)(s:PS):Rs St:=
 (eR 1 s).bind fun n s2=>(cF [61] s2).bind fun _ s3=>(whl s3).bind fun lo s4=>(cF [46,46] s4).bind fun _ s5=>(whl s5).bind fun hi s6=>(blk d s6).bind fun t s7=>.ok (foS ps n.tx lo hi t) s7
def oE (k:Nat)(d:Option (PS→Rs St))(ps:Int)(s:PS):Rs St:=
 (exK k s).bind fun e s2=>(blk d s2).bind fun t s3=>if s3.hd.tx=zN then(wZ d s3.tk).bind fun l s4=>.ok (ifS ps e t l) s4 else .ok (ifS ps e t []) s3
def oI (k:Nat)(ps:Int)(nm:List UInt8)(s:PS):Rs St:=
 (index (dK k) s).bind fun l s2=>(cF [61] s2).bind fun _ s3=>(exK k s3).bind fun e s4=>(cF [59] s4).bind fun _ s5=>.ok (asS ps nm l e) s5
theorem uP {k:Int}{s s':PS}{t:Tk}(h:eR k s=.ok t s'):t=s.hd:=by
 unfold eR at h
 split at h
 ·cases h;rfl
 ·cases h
theorem aMf {b:Bool}{s s':PS}{n:Int}(g:cM s.ts)(h:oP b s=.ok n s'):-2147483648≤n∧n≤2147483647:=by
 unfold oP eR at h
 split at h
 ·rw[bG]at h
  cases h;have:=g.hd.nn0;have:=g.hd.nn1;unfold PS.hd
  split<;>omega
 ·cases h
theorem aGf {s s':PS}{n:Int}(g:cM s.ts)(h:whl s=.ok n s'):-2147483648≤n∧n≤2147483647:=by
 unfold whl at h;rw[wJ]at h;exact aMf (aCq g (by decide)) h
theorem aMm {ps lo hi:Int}{nm:List UInt8}{S:Sl}{K:Nat→St}{t:List St}(h:Seq S K t):(St.mk ⟨3,ps,nm,⟨none,0,0⟩,lo,hi,S,⟨none,0,0⟩⟩ (fun _=>.no) .no K (fun _=>.no)).eqv (foS ps nm lo hi t):=by
 refine⟨?_,rfl,Ex.eqv_refl _,⟨rfl,fun i hi=>absurd hi (Nat.not_lt_zero i)⟩,h.2,fun i hi=>absurd hi (Nat.not_lt_zero i)⟩
 simp[hsS,foS,St.h,sl,h.1]
theorem aHY {ps:Int}{e e':Ex}{S T:Sl}{K J:Nat→St}{t l:List St}(he:e.eqv e')(h:Seq S K t)(g:Seq T J l):(St.mk ⟨2,ps,[],⟨none,0,0⟩,0,0,S,T⟩ (fun _=>.no) e K J).eqv (ifS ps e' t l):=by
 refine⟨?_,rfl,he,⟨rfl,fun i hi=>absurd hi (Nat.not_lt_zero i)⟩,h.2,g.2⟩
 simp[hsS,ifS,St.h,sl,h.1,g.1]
theorem aMw {ps:Int}{nm:List UInt8}{e e':Ex}{S:Sl}{K:Nat→Ex}{l:List Ex}(he:e.eqv e')(h:Leq S K l):(St.mk ⟨1,ps,nm,S,0,0,⟨none,0,0⟩,⟨none,0,0⟩⟩ K e (fun _=>.no) (fun _=>.no)).eqv (asS ps nm l e'):=by
 refine⟨?_,rfl,he,⟨h.1,h.2⟩,fun i hi=>absurd hi (Nat.not_lt_zero i),fun i hi=>absurd hi (Nat.not_lt_zero i)⟩
 simp[hsS,asS,St.h,sl]
theorem aJk:Seq ⟨none,0,0⟩ (fun _=>.no) []:=⟨rfl,fun i hi=>absurd hi (Nat.not_lt_zero i)⟩
theorem aJU {D:Nat→Prop}{w:World}:XO D .no w:=trivial
theorem rZ (R d k:Nat)(hb:rE R d 84 (blk (sK k)))(ps:Int)(hp0:0≤ps)(hp1:ps≤16384)(s:PS)(w:World)(h:Rdr R d s w):Calls Tryz.prog 128 #[.pointer (some ⟨R,0,none⟩),.int .i64 ps] w (PO R d w (zF (sK k) ps s) (VS w.heap.size)):=by
 have ft:=fun t w=>mT t w;have BL:Below w.heap.size w ((w.alloc zS).alloc (.cells (aS ⟨3,ps,[],⟨none,0,0⟩,0,0,⟨none,0,0⟩,⟨none,0,0⟩⟩ aP).toArray 48)):=aI (aY w _) _
 have k0:Blk ((w.alloc zS).alloc (.cells (aS ⟨3,ps,[],⟨none,0,0⟩,0,0,⟨none,0,0⟩,⟨none,0,0⟩⟩ aP).toArray 48)) (w.heap.size) 48 (aS cG aP).toArray:=by
  have:=(Blk.new w 48 (aS cG aP).toArray).alloc (.cells (aS ⟨3,ps,[],⟨none,0,0⟩,0,0,⟨none,0,0⟩,⟨none,0,0⟩⟩ aP).toArray 48);exact this
 have k1:Blk ((w.alloc zS).alloc (.cells (aS ⟨3,ps,[],⟨none,0,0⟩,0,0,⟨none,0,0⟩,⟨none,0,0⟩⟩ aP).toArray 48)) (w.heap.size+1) 48 (aS ⟨3,ps,[],⟨none,0,0⟩,0,0,⟨none,0,0⟩,⟨none,0,0⟩⟩ aP).toArray:=by
  have:=Blk.new (w.alloc zS) 48 (aS ⟨3,ps,[],⟨none,0,0⟩,0,0,⟨none,0,0⟩,⟨none,0,0⟩⟩ aP).toArray;rw[World.size_alloc]at this;exact this
 have hl:=h.lt;have NB_0:=Hj k0;have SB_0:=Hj k1;have HR:=Hj (h.below BL h.lt);have HF:Hid (Fx (On R) w.heap.size w ((w.alloc zS).alloc (.cells (aS ⟨3,ps,[],⟨none,0,0⟩,0,0,⟨none,0,0⟩,⟨none,0,0⟩⟩ aP).toArray 48))):=Fx.of BL;have HRS:Hid (R<w.heap.size+1):=(by show R<w.heap.size+1;omega);have HRN:Hid (R<w.heap.size):=(by show R<w.heap.size;omega);have HSB:Hid (w.heap.size≤w.heap.size+1):=(by show w.heap.size≤w.heap.size+1;omega);have HNB:Hid (w.heap.size≤w.heap.size):=(by show w.heap.size≤w.heap.size;omega);have HNE:Hid (w.heap.size≠w.heap.size+1):=(by show w.heap.size≠w.heap.size+1;omega);have HD:Hid (¬(fun k=>w.heap.size+1<k) R):=(fun(x:w.heap.size+1<R)=>by omega);have HDS:Hid (¬(fun k=>w.heap.size+1<k) (w.heap.size+1)):=Nat.lt_irrefl _;have HDN:Hid (¬(fun k=>w.heap.size+1<k) (w.heap.size)):=(fun(x:w.heap.size+1<w.heap.size)=>by omega);have HP:=Hj (And.intro hp0 hp1);generalize hZ:zF (sK k) ps s=Z;unfold zF at hZ;have E:=Hj hZ;clear BL k0 k1 h hZ hp0 hp1 hl;go_enter Tryz.func128,Tryz.ntmps128;go_upto_region 2 with fail;change (Code.region 2 _ _).wp _ _ _ ((w.alloc zS).alloc (.cells (aS ⟨3,ps,[],⟨none,0,0⟩,0,0,⟨none,0,0⟩,⟨none,0,0⟩⟩ aP).toArray 48))
 generalize ((w.alloc zS).alloc (.cells (aS ⟨3,ps,[],⟨none,0,0⟩,0,0,⟨none,0,0⟩,⟨none,0,0⟩⟩ aP).toArray 48))=w0 at *;have HB:=Hj hb;clear hb;generalize w.heap.size+1=sb at *;go_wp2_with fail;refine(eZ R d s 1 (by decide) w0 HR.out).mono ?_;intro r wa1 hpo
 cases hres:eR 1 s with
 | no c q=>
  rw[hres]at hpo;obtain⟨rfl,f⟩:=hpo;have HFn:=Hj (aJ HF.out f);have E2:=E.out;rw[hres,bL]at E2;have En:=Hj E2;clear f hres E2;go_wp2_with fail;refine⟨rfl,?_⟩;rw[←En.out];exact⟨rfl,HFn.out⟩
 | ok t s2=>
  rw[hres]at hpo;obtain⟨v,rfl,hv,h',f⟩:=hpo;subst hv;have hlen:t.tx.length≤16384:=by rw[uP hres];exact HR.out.good.hd.len
  have HLEN:=Hj hlen;clear hlen;have E2:=E.out;rw[hres,bG]at E2;have E1:=Hj E2;have HR1:=Hj h';have HF1:=Hj (aJ HF.out f);have NB_1:=Hj (f.blk NB_0.out NB_0.out.lt (aO HRN.out));have SB_1:=Hj (f.blk SB_0.out SB_0.out.lt (aO HRS.out));clear f hres h' E2 HR HF E NB_0 SB_0;have m2:wa1.cell? ⟨sb,2,none⟩=some (.string ⟨#[]⟩):=SB_1.out.cell 2;have z2:wa1.frozen? ⟨sb,2,none⟩=false:=SB_1.out.frozen 2;have SB_2:Hid (Blk (wa1.setCell ⟨sb,2,none⟩ (.string ⟨t.tx.toArray⟩)) sb 48 (aS ⟨3,ps,t.tx,⟨none,0,0⟩,0,0,⟨none,0,0⟩,⟨none,0,0⟩⟩ aP).toArray):=SB_1.out.set_ 2 (.string ⟨t.tx.toArray⟩);have WR2:=Hj (dX wa1 sb 2 (.string ⟨t.tx.toArray⟩));go_upto_region 3 with fail;change (Code.region 3 _ _).wp _ _ _ (wa1.setCell ⟨sb,2,none⟩ (.string ⟨t.tx.toArray⟩));clear m2 z2;generalize wa1.setCell ⟨sb,2,none⟩ (.string ⟨t.tx.toArray⟩)=wb2 at *;have HR2:=Hj (WR2.out.rdr HR1.out HRS.out);have HF2:=Hj (WR2.out.fx HF1.out HSB.out);have NB_2:=Hj (WR2.out.blk NB_1.out HNE.out);clear HR1 HF1 NB_1 SB_1;go_wp2_with fail;refine(bU R d s2 [61] (by decide) wb2 HR2.out).mono ?_;intro r wa3 hpo
  cases hres:cF [61] s2 with
  | no c q=>
   rw[hres]at hpo;obtain⟨rfl,f⟩:=hpo;have HFn:=Hj (aJ HF2.out f);have E2:=E1.out;rw[hres,bL]at E2;have En:=Hj E2;clear f hres E2;go_wp2_with fail;refine⟨rfl,?_⟩;rw[←En.out];exact⟨rfl,HFn.out⟩
  | ok u s3=>
   rw[hres]at hpo;obtain⟨v,rfl,hv,h',f⟩:=hpo;unfold V0 at hv;subst hv;have E2:=E1.out;rw[hres,bG]at E2;have E3:=Hj E2;have HR3:=Hj h';have HF3:=Hj (aJ HF2.out f);have NB_3:=Hj (f.blk NB_2.out NB_2.out.lt (aO HRN.out));have SB_3:=Hj (f.blk SB_2.out SB_2.out.lt (aO HRS.out));clear f hres h' E2 HR2 HF2 E1 NB_2 SB_2;go_wp2_with fail;refine(tL R d s3 wa3 HR3.out).mono ?_;intro r wa4 hpo
   cases hres:whl s3 with
   | no c q=>
    rw[hres]at hpo;obtain⟨rfl,f⟩:=hpo;have HFn:=Hj (aJ HF3.out f);have E2:=E3.out;rw[hres,bL]at E2;have En:=Hj E2;clear f hres E2;go_wp2_with fail;refine⟨rfl,?_⟩;rw[←En.out];exact⟨rfl,HFn.out⟩
   | ok lo s4=>
    rw[hres]at hpo;obtain⟨v,rfl,hv,h',f⟩:=hpo;subst hv;have HLO:=Hj (aGf HR3.out.good hres);have E2:=E3.out;rw[hres,bG]at E2;have E4:=Hj E2;have HR4:=Hj h';have HF4:=Hj (aJ HF3.out f);have NB_4:=Hj (f.blk NB_3.out NB_3.out.lt (aO HRN.out));have SB_4:=Hj (f.blk SB_3.out SB_3.out.lt (aO HRS.out));clear f hres h' E2 HR3 HF3 E3 NB_3 SB_3;have m5:wa4.cell? ⟨sb,11,none⟩=some (.int .i32 0):=SB_4.out.cell 11;have z5:wa4.frozen? ⟨sb,11,none⟩=false:=SB_4.out.frozen 11;have SB_5:Hid (Blk (wa4.setCell ⟨sb,11,none⟩ (.int .i32 lo)) sb 48 (aS ⟨3,ps,t.tx,⟨none,0,0⟩,lo,0,⟨none,0,0⟩,⟨none,0,0⟩⟩ aP).toArray):=SB_4.out.set_ 11 (.int .i32 lo);have WR5:=Hj (dX wa4 sb 11 (.int .i32 lo));go_upto_region 5 with fail;change (Code.region 5 _ _).wp _ _ _ (wa4.setCell ⟨sb,11,none⟩ (.int .i32 lo));clear m5 z5;generalize wa4.setCell ⟨sb,11,none⟩ (.int .i32 lo)=wb5 at *;have HR5:=Hj (WR5.out.rdr HR4.out HRS.out);have HF5:=Hj (WR5.out.fx HF4.out HSB.out);have NB_5:=Hj (WR5.out.blk NB_4.out HNE.out);clear HR4 HF4 NB_4 SB_4;go_wp2_with fail;refine(bU R d s4 [46,46] (by decide) wb5 HR5.out).mono ?_;intro r wa6 hpo
    cases hres:cF [46,46] s4 with
    | no c q=>
     rw[hres]at hpo;obtain⟨rfl,f⟩:=hpo;have HFn:=Hj (aJ HF5.out f);have E2:=E4.out;rw[hres,bL]at E2;have En:=Hj E2;clear f hres E2;go_wp2_with fail;refine⟨rfl,?_⟩;rw[←En.out];exact⟨rfl,HFn.out⟩
    | ok u2 s5=>
     rw[hres]at hpo;obtain⟨v,rfl,hv,h',f⟩:=hpo;unfold V0 at hv;subst hv;have E2:=E4.out;rw[hres,bG]at E2;have E6:=Hj E2;have HR6:=Hj h';have HF6:=Hj (aJ HF5.out f);have NB_6:=Hj (f.blk NB_5.out NB_5.out.lt (aO HRN.out));have SB_6:=Hj (f.blk SB_5.out SB_5.out.lt (aO HRS.out));clear f hres h' E2 HR5 HF5 E4 NB_5 SB_5;go_wp2_with fail;refine(tL R d s5 wa6 HR6.out).mono ?_;intro r wa7 hpo
     cases hres:whl s5 with
     | no c q=>
      rw[hres]at hpo;obtain⟨rfl,f⟩:=hpo;have HFn:=Hj (aJ HF6.out f);have E2:=E6.out;rw[hres,bL]at E2;have En:=Hj E2;clear f hres E2;go_wp2_with fail;refine⟨rfl,?_⟩;rw[←En.out];exact⟨rfl,HFn.out⟩
     | ok hi s6=>
      rw[hres]at hpo;obtain⟨v,rfl,hv,h',f⟩:=hpo;subst hv;have HHI:=Hj (aGf HR6.out.good hres);have E2:=E6.out;rw[hres,bG]at E2;have E7:=Hj E2;have HR7:=Hj h';have HF7:=Hj (aJ HF6.out f);have NB_7:=Hj (f.blk NB_6.out NB_6.out.lt (aO HRN.out));have SB_7:=Hj (f.blk SB_6.out SB_6.out.lt (aO HRS.out));clear f hres h' E2 HR6 HF6 E6 NB_6 SB_6;have m8:wa7.cell? ⟨sb,12,none⟩=some (.int .i32 0):=SB_7.out.cell 12;have z8:wa7.frozen? ⟨sb,12,none⟩=false:=SB_7.out.frozen 12;have SB_8:Hid (Blk (wa7.setCell ⟨sb,12,none⟩ (.int .i32 hi)) sb 48 (aS ⟨3,ps,t.tx,⟨none,0,0⟩,lo,hi,⟨none,0,0⟩,⟨none,0,0⟩⟩ aP).toArray):=SB_7.out.set_ 12 (.int .i32 hi);have WR8:=Hj (dX wa7 sb 12 (.int .i32 hi));go_upto_region 7 with fail;change (Code.region 7 _ _).wp _ _ _ (wa7.setCell ⟨sb,12,none⟩ (.int .i32 hi));clear m8 z8;generalize wa7.setCell ⟨sb,12,none⟩ (.int .i32 hi)=wb8 at *;have HR8:=Hj (WR8.out.rdr HR7.out HRS.out);have HF8:=Hj (WR8.out.fx HF7.out HSB.out);have NB_8:=Hj (WR8.out.blk NB_7.out HNE.out);clear HR7 HF7 NB_7 SB_7;go_wp2_with fail;refine(HB.out s6 wb8 HR8.out).mono ?_;intro r wa9 hpo
      cases hres:blk (sK k) s6 with
      | no c q=>
       rw[hres]at hpo;obtain⟨rfl,f⟩:=hpo;have HFn:=Hj (aJ HF8.out f);have E2:=E7.out;rw[hres,bL]at E2;have En:=Hj E2;clear f hres E2;go_wp2_with fail;refine⟨rfl,?_⟩;rw[←En.out];exact⟨rfl,HFn.out⟩
      | ok l s7=>
       rw[hres]at hpo;obtain⟨v,rfl,⟨S,K,hv,xb,eb⟩,h',f⟩:=hpo;obtain⟨A,n,cp⟩:=S;unfold Sl.val at hv;subst hv;have EB:=Hj eb;have XO:=Hj xb.1;have E2:=E7.out;rw[hres,bG]at E2;have E9:=Hj E2;have HR9:=Hj h';have HF9:=Hj (aJ HF8.out f);have NB_9:=Hj (f.blk NB_8.out NB_8.out.lt (aO HRN.out));have SB_9:=Hj (f.blk SB_8.out SB_8.out.lt (aO HRS.out));have XT_9:=Hj (xb.imp (D':=fun k=>sb<k) (fun k _ (x:wb8.heap.size≤k)=>aE SB_8.out.lt x));clear f hres h' E2 HR8 HF8 E7 NB_8 SB_8;clear xb eb;have m10:wa9.cell? ⟨sb,13,none⟩=some (.slice none 0 0):=SB_9.out.cell 13;have z10:wa9.frozen? ⟨sb,13,none⟩=false:=SB_9.out.frozen 13;have SB_10:Hid (Blk (wa9.setCell ⟨sb,13,none⟩ (.slice A n cp)) sb 48 (aS ⟨3,ps,t.tx,⟨none,0,0⟩,lo,hi,⟨A,n,cp⟩,⟨none,0,0⟩⟩ aP).toArray):=SB_9.out.set_ 13 (.slice A n cp);have WR10:=Hj (dX wa9 sb 13 (.slice A n cp));go_upto_region 8 with fail;change (Code.region 8 _ _).wp _ _ _ (wa9.setCell ⟨sb,13,none⟩ (.slice A n cp));clear m10 z10;generalize wa9.setCell ⟨sb,13,none⟩ (.slice A n cp)=wb10 at *;have HR10:=Hj (WR10.out.rdr HR9.out HRS.out);have HF10:=Hj (WR10.out.fx HF9.out HSB.out);have NB_10:=Hj (WR10.out.blk NB_9.out HNE.out)
       have XT_10:=Hj (XT_9.out.fx WR10.out.1 (aQ HDS.out));clear HR9 HF9 NB_9 SB_9 XT_9
       go_wp2_with (first
        | refine aAu ⟨3,ps,t.tx,⟨none,0,0⟩,lo,hi,⟨A,n,cp⟩,⟨none,0,0⟩⟩ aP sb SB_10.out rfl _ rfl rfl ?_
        | refine iC ⟨3,ps,t.tx,⟨none,0,0⟩,lo,hi,⟨A,n,cp⟩,⟨none,0,0⟩⟩ aP w.heap.size _ NB_10.out rfl rfl _ _ rfl rfl rfl ?_)
       refine bodyPost_ret (iG rfl _ _ w.heap.size ⟨3,ps,t.tx,⟨none,0,0⟩,lo,hi,⟨A,n,cp⟩,⟨none,0,0⟩⟩ aP rfl (NB_10.out.rowS _)) rfl ?_;rw[←E9.out];exact⟨_,rfl,⟨St.mk ⟨3,ps,t.tx,⟨none,0,0⟩,lo,hi,⟨A,n,cp⟩,⟨none,0,0⟩⟩ (fun _=>.no) .no K (fun _=>.no),rfl,((aDW (aDY (by decide) (by decide) HP.out.1 HP.out.2 HLO.out.1 HLO.out.2 HHI.out.1 HHI.out.2 HLEN.out iQ XO.out iQ) (aGb) (aJU) (XT_10.out) (uX)).fx (cV _ w.heap.size _).1 (aQ HDN.out)).imp (fun k _ (x:sb<k)=>aF HSB.out (Nat.le_of_lt x)),aMm EB.out⟩,HR10.out.row HRN.out _,bI HF10.out (.inr HNB.out) _⟩
theorem nD (R d k:Nat)(hdk:d+k=24)(hb:rE R d 84 (blk (sK k)))(he:rE R d 152 (wZ (sK k)))(ps:Int)(hp0:0≤ps)(hp1:ps≤16384)(s:PS)(w:World)(h:Rdr R d s w):Calls Tryz.prog 127 #[.pointer (some ⟨R,0,none⟩),.int .i64 ps] w (PO R d w (oE k (sK k) ps s) (VS w.heap.size)):=by
 have ft:=fun t w=>mT t w;have BL:Below w.heap.size w ((w.alloc zS).alloc (.cells (aS ⟨2,ps,[],⟨none,0,0⟩,0,0,⟨none,0,0⟩,⟨none,0,0⟩⟩ aP).toArray 48)):=aI (aY w _) _
 have k0:Blk ((w.alloc zS).alloc (.cells (aS ⟨2,ps,[],⟨none,0,0⟩,0,0,⟨none,0,0⟩,⟨none,0,0⟩⟩ aP).toArray 48)) (w.heap.size) 48 (aS cG aP).toArray:=by
  have:=(Blk.new w 48 (aS cG aP).toArray).alloc (.cells (aS ⟨2,ps,[],⟨none,0,0⟩,0,0,⟨none,0,0⟩,⟨none,0,0⟩⟩ aP).toArray 48);exact this
 have k1:Blk ((w.alloc zS).alloc (.cells (aS ⟨2,ps,[],⟨none,0,0⟩,0,0,⟨none,0,0⟩,⟨none,0,0⟩⟩ aP).toArray 48)) (w.heap.size+1) 48 (aS ⟨2,ps,[],⟨none,0,0⟩,0,0,⟨none,0,0⟩,⟨none,0,0⟩⟩ aP).toArray:=by
  have:=Blk.new (w.alloc zS) 48 (aS ⟨2,ps,[],⟨none,0,0⟩,0,0,⟨none,0,0⟩,⟨none,0,0⟩⟩ aP).toArray;rw[World.size_alloc]at this;exact this
 have hl:=h.lt;have NB_0:=Hj k0;have SB_0:=Hj k1;have HR:=Hj (h.below BL h.lt);have HF:Hid (Fx (On R) w.heap.size w ((w.alloc zS).alloc (.cells (aS ⟨2,ps,[],⟨none,0,0⟩,0,0,⟨none,0,0⟩,⟨none,0,0⟩⟩ aP).toArray 48))):=Fx.of BL;have HRS:Hid (R<w.heap.size+1):=(by show R<w.heap.size+1;omega);have HRN:Hid (R<w.heap.size):=(by show R<w.heap.size;omega);have HSB:Hid (w.heap.size≤w.heap.size+1):=(by show w.heap.size≤w.heap.size+1;omega);have HNB:Hid (w.heap.size≤w.heap.size):=(by show w.heap.size≤w.heap.size;omega);have HNE:Hid (w.heap.size≠w.heap.size+1):=(by show w.heap.size≠w.heap.size+1;omega);have HD:Hid (¬(fun k=>w.heap.size+1<k) R):=(fun(x:w.heap.size+1<R)=>by omega);have HDS:Hid (¬(fun k=>w.heap.size+1<k) (w.heap.size+1)):=Nat.lt_irrefl _;have HDN:Hid (¬(fun k=>w.heap.size+1<k) (w.heap.size)):=(fun(x:w.heap.size+1<w.heap.size)=>by omega);have HP:=Hj (And.intro hp0 hp1);generalize hZ:oE k (sK k) ps s=Z;unfold oE at hZ;have E:=Hj hZ;clear BL k0 k1 h hZ hp0 hp1 hl;go_enter Tryz.func127,Tryz.ntmps127;go_upto_region 2 with fail;change (Code.region 2 _ _).wp _ _ _ ((w.alloc zS).alloc (.cells (aS ⟨2,ps,[],⟨none,0,0⟩,0,0,⟨none,0,0⟩,⟨none,0,0⟩⟩ aP).toArray 48))
 generalize ((w.alloc zS).alloc (.cells (aS ⟨2,ps,[],⟨none,0,0⟩,0,0,⟨none,0,0⟩,⟨none,0,0⟩⟩ aP).toArray 48))=w0 at *;have HB:=Hj hb;have HEL:=Hj he;clear hb he;generalize w.heap.size+1=sb at *;go_wp2_with fail;refine(sA R k d hdk s w0 HR.out).mono ?_;intro r wa1 hpo
 cases hres:exK k s with
 | no c q=>
  rw[hres]at hpo;obtain⟨rfl,f⟩:=hpo;have HFn:=Hj (aJ HF.out f);have E2:=E.out;rw[hres,bL]at E2;have En:=Hj E2;clear f hres E2;go_wp2_with fail;refine⟨rfl,?_⟩;rw[←En.out];exact⟨rfl,HFn.out⟩
 | ok e s2=>
  rw[hres]at hpo;obtain⟨v,rfl,⟨b,hv,xb,eb⟩,h',f⟩:=hpo;subst hv;have EB:=Hj eb;have E2:=E.out;rw[hres,bG]at E2;have E1:=Hj E2;have HR1:=Hj h';have HF1:=Hj (aJ HF.out f);have NB_1:=Hj (f.blk NB_0.out NB_0.out.lt (aO HRN.out));have SB_1:=Hj (f.blk SB_0.out SB_0.out.lt (aO HRS.out));have XE_1:=Hj (xb.imp (D':=fun k=>sb<k) (fun k _ (x:w0.heap.size≤k)=>aE SB_0.out.lt x));clear f hres h' E2 HR HF E NB_0 SB_0;clear xb eb
  go_upto_region 3 with(refine aKJ ⟨2,ps,[],⟨none,0,0⟩,0,0,⟨none,0,0⟩,⟨none,0,0⟩⟩ aP b.h sb SB_1.out rfl _ _ rfl rfl rfl ?_;intro wb2 SB_2 WR2)
  have HR2:=Hj (WR2.out.rdr HR1.out HRS.out);have HF2:=Hj (WR2.out.fx HF1.out HSB.out);have NB_2:=Hj (WR2.out.blk NB_1.out HNE.out);have XE_2:=Hj (XE_1.out.fx WR2.out.1 (aQ HDS.out));clear HR1 HF1 NB_1 SB_1 XE_1;go_wp2_with fail;refine(HB.out s2 wb2 HR2.out).mono ?_;intro r wa3 hpo
  cases hres:blk (sK k) s2 with
  | no c q=>
   rw[hres]at hpo;obtain⟨rfl,f⟩:=hpo;have HFn:=Hj (aJ HF2.out f);have E2:=E1.out;rw[hres,bL]at E2;have En:=Hj E2;clear f hres E2;go_wp2_with fail;refine⟨rfl,?_⟩;rw[←En.out];exact⟨rfl,HFn.out⟩
  | ok l s3=>
   rw[hres]at hpo;obtain⟨v,rfl,⟨S,K,hv,xb,eb⟩,h',f⟩:=hpo;obtain⟨A,n,cp⟩:=S;unfold Sl.val at hv;subst hv;have ET:=Hj eb;have XO:=Hj xb.1;have E2:=E1.out;rw[hres,bG]at E2;have E3:=Hj E2;have HR3:=Hj h';have HF3:=Hj (aJ HF2.out f);have NB_3:=Hj (f.blk NB_2.out NB_2.out.lt (aO HRN.out));have SB_3:=Hj (f.blk SB_2.out SB_2.out.lt (aO HRS.out));have XE_3:=Hj (XE_2.out.fx f (aQ HD.out));have XT_3:=Hj (xb.imp (D':=fun k=>sb<k) (fun k _ (x:wb2.heap.size≤k)=>aE SB_2.out.lt x));clear f hres h' E2 HR2 HF2 E1 NB_2 SB_2 XE_2;clear xb eb;have m4:wa3.cell? ⟨sb,13,none⟩=some (.slice none 0 0):=SB_3.out.cell 13;have z4:wa3.frozen? ⟨sb,13,none⟩=false:=SB_3.out.frozen 13;have SB_4:Hid (Blk (wa3.setCell ⟨sb,13,none⟩ (.slice A n cp)) sb 48 (aS ⟨2,ps,[],⟨none,0,0⟩,0,0,⟨A,n,cp⟩,⟨none,0,0⟩⟩ b.h).toArray):=SB_3.out.set_ 13 (.slice A n cp);have WR4:=Hj (dX wa3 sb 13 (.slice A n cp));go_upto_region 4 with fail;change (Code.region 4 _ _).wp _ _ _ (wa3.setCell ⟨sb,13,none⟩ (.slice A n cp));clear m4 z4;generalize wa3.setCell ⟨sb,13,none⟩ (.slice A n cp)=wb4 at *;have HR4:=Hj (WR4.out.rdr HR3.out HRS.out);have HF4:=Hj (WR4.out.fx HF3.out HSB.out);have NB_4:=Hj (WR4.out.blk NB_3.out HNE.out)
   have XE_4:=Hj (XE_3.out.fx WR4.out.1 (aQ HDS.out));have XT_4:=Hj (XT_3.out.fx WR4.out.1 (aQ HDS.out));clear HR3 HF3 NB_3 SB_3 XE_3 XT_3;go_wp2_with fail;refine(dL R d s3 zN (by decide) wb4 HR4.out).mono ?_;rintro r wd ⟨rfl,h',f⟩;have HFd:=Hj (aJ HF4.out f);have NB_d:=Hj (f.blk NB_4.out NB_4.out.lt (aO HRN.out));have SB_d:=Hj (f.blk SB_4.out SB_4.out.lt (aO HRS.out));have XE_d:=Hj (XE_4.out.fx f (aQ HD.out));have XT_d:=Hj (XT_4.out.fx f (aQ HD.out));clear f HR4 HF4 NB_4 SB_4 XE_4 XT_4
   by_cases ce:s3.hd.tx=zN
   ·have E2:=E3.out
    rw[if_pos ce]at E2;have Ed:=Hj E2;have ea:acS s3 zN=s3.tk:=if_pos ce;rw[ea]at h';rw[cS ce];have HRd:=Hj h';clear h' ea E2 ce E3;go_wp2_with fail;refine(HEL.out s3.tk wd HRd.out).mono ?_;intro r wa5 hpo
    cases hres:wZ (sK k) s3.tk with
    | no c q=>
     rw[hres]at hpo;obtain⟨rfl,f⟩:=hpo;have HFn:=Hj (aJ HFd.out f);have E2:=Ed.out;rw[hres,bL]at E2;have En:=Hj E2;clear f hres E2;go_wp2_with fail;refine⟨rfl,?_⟩;rw[←En.out];exact⟨rfl,HFn.out⟩
    | ok m s4=>
     rw[hres]at hpo;obtain⟨v,rfl,⟨S,K2,hv,xb,eb⟩,h',f⟩:=hpo;obtain⟨A2,n2,cp2⟩:=S;unfold Sl.val at hv;subst hv;have EL:=Hj eb;have XO2:=Hj xb.1;have E2:=Ed.out;rw[hres,bG]at E2;have E5:=Hj E2;have HR5:=Hj h';have HF5:=Hj (aJ HFd.out f);have NB_5:=Hj (f.blk NB_d.out NB_d.out.lt (aO HRN.out));have SB_5:=Hj (f.blk SB_d.out SB_d.out.lt (aO HRS.out));have XE_5:=Hj (XE_d.out.fx f (aQ HD.out));have XT_5:=Hj (XT_d.out.fx f (aQ HD.out));have XL_5:=Hj (xb.imp (D':=fun k=>sb<k) (fun k _ (x:wd.heap.size≤k)=>aE SB_d.out.lt x));clear f hres h' E2 HRd HFd Ed NB_d SB_d XE_d XT_d;clear xb eb;have m6:wa5.cell? ⟨sb,14,none⟩=some (.slice none 0 0):=SB_5.out.cell 14;have z6:wa5.frozen? ⟨sb,14,none⟩=false:=SB_5.out.frozen 14;have SB_6:Hid (Blk (wa5.setCell ⟨sb,14,none⟩ (.slice A2 n2 cp2)) sb 48 (aS ⟨2,ps,[],⟨none,0,0⟩,0,0,⟨A,n,cp⟩,⟨A2,n2,cp2⟩⟩ b.h).toArray):=SB_5.out.set_ 14 (.slice A2 n2 cp2);have WR6:=Hj (dX wa5 sb 14 (.slice A2 n2 cp2));go_upto_region 6 with fail;change (Code.region 6 _ _).wp _ _ _ (wa5.setCell ⟨sb,14,none⟩ (.slice A2 n2 cp2));clear m6 z6;generalize wa5.setCell ⟨sb,14,none⟩ (.slice A2 n2 cp2)=wb6 at *;have HR6:=Hj (WR6.out.rdr HR5.out HRS.out)
     have HF6:=Hj (WR6.out.fx HF5.out HSB.out);have NB_6:=Hj (WR6.out.blk NB_5.out HNE.out);have XE_6:=Hj (XE_5.out.fx WR6.out.1 (aQ HDS.out));have XT_6:=Hj (XT_5.out.fx WR6.out.1 (aQ HDS.out));have XL_6:=Hj (XL_5.out.fx WR6.out.1 (aQ HDS.out));clear HR5 HF5 NB_5 SB_5 XE_5 XT_5 XL_5
     go_wp2_with (first
      | refine aAu ⟨2,ps,[],⟨none,0,0⟩,0,0,⟨A,n,cp⟩,⟨A2,n2,cp2⟩⟩ b.h sb SB_6.out rfl _ rfl rfl ?_
      | refine iC ⟨2,ps,[],⟨none,0,0⟩,0,0,⟨A,n,cp⟩,⟨A2,n2,cp2⟩⟩ b.h w.heap.size _ NB_6.out rfl rfl _ _ rfl rfl rfl ?_)
     refine bodyPost_ret (iG rfl _ _ w.heap.size ⟨2,ps,[],⟨none,0,0⟩,0,0,⟨A,n,cp⟩,⟨A2,n2,cp2⟩⟩ b.h rfl (NB_6.out.rowS _)) rfl ?_;rw[←E5.out];exact⟨_,rfl,⟨St.mk ⟨2,ps,[],⟨none,0,0⟩,0,0,⟨A,n,cp⟩,⟨A2,n2,cp2⟩⟩ (fun _=>.no) b K K2,rfl,((aDW (aDY (by decide) (by decide) HP.out.1 HP.out.2 (by decide) (by decide) (by decide) (by decide) (Nat.zero_le _) iQ XO.out XO2.out) (aGb) (XE_6.out) (XT_6.out) (XL_6.out)).fx (cV _ w.heap.size _).1 (aQ HDN.out)).imp (fun k _ (x:sb<k)=>aF HSB.out (Nat.le_of_lt x)),aHY EB.out ET.out EL.out⟩,HR6.out.row HRN.out _,bI HF6.out (.inr HNB.out) _⟩
   ·have E2:=E3.out
    rw[if_neg ce]at E2;have Ed:=Hj E2;have ea:acS s3 zN=s3:=if_neg ce;rw[ea]at h';rw[cU ce];have HRd:=Hj h';clear h' ea E2 ce E3
    go_wp2_with (first
     | refine aAu ⟨2,ps,[],⟨none,0,0⟩,0,0,⟨A,n,cp⟩,⟨none,0,0⟩⟩ b.h sb SB_d.out rfl _ rfl rfl ?_
     | refine iC ⟨2,ps,[],⟨none,0,0⟩,0,0,⟨A,n,cp⟩,⟨none,0,0⟩⟩ b.h w.heap.size _ NB_d.out rfl rfl _ _ rfl rfl rfl ?_)
    refine bodyPost_ret (iG rfl _ _ w.heap.size ⟨2,ps,[],⟨none,0,0⟩,0,0,⟨A,n,cp⟩,⟨none,0,0⟩⟩ b.h rfl (NB_d.out.rowS _)) rfl ?_;rw[←Ed.out];exact⟨_,rfl,⟨St.mk ⟨2,ps,[],⟨none,0,0⟩,0,0,⟨A,n,cp⟩,⟨none,0,0⟩⟩ (fun _=>.no) b K (fun _=>.no),rfl,((aDW (aDY (by decide) (by decide) HP.out.1 HP.out.2 (by decide) (by decide) (by decide) (by decide) (Nat.zero_le _) iQ XO.out iQ) (aGb) (XE_d.out) (XT_d.out) (uX)).fx (cV _ w.heap.size _).1 (aQ HDN.out)).imp (fun k _ (x:sb<k)=>aF HSB.out (Nat.le_of_lt x)),aHY EB.out ET.out aJk⟩,HRd.out.row HRN.out _,bI HFd.out (.inr HNB.out) _⟩
theorem nE (R d k:Nat)(hdk:d+k=24)(t:Tk)(ht:Hd t)(s:PS)(w:World)(h:Rdr R d s w):Calls Tryz.prog 129 #[.pointer (some ⟨R,0,none⟩),t.v] w (PO R d w (oI k t.ps t.tx s) (VS w.heap.size)):=by
 have ft:=fun t w=>mT t w;have BL:Below w.heap.size w (((w.alloc (oK t)).alloc zS).alloc (.cells (aS ⟨1,t.ps,t.tx,⟨none,0,0⟩,0,0,⟨none,0,0⟩,⟨none,0,0⟩⟩ aP).toArray 48)):=aI (aI (aY w _) _) _
 have k0:Blk (((w.alloc (oK t)).alloc zS).alloc (.cells (aS ⟨1,t.ps,t.tx,⟨none,0,0⟩,0,0,⟨none,0,0⟩,⟨none,0,0⟩⟩ aP).toArray 48)) (w.heap.size+1) 48 (aS cG aP).toArray:=by
  have:=(Blk.new (w.alloc (oK t)) 48 (aS cG aP).toArray).alloc (.cells (aS ⟨1,t.ps,t.tx,⟨none,0,0⟩,0,0,⟨none,0,0⟩,⟨none,0,0⟩⟩ aP).toArray 48);rw[World.size_alloc]at this;exact this
 have k1:Blk (((w.alloc (oK t)).alloc zS).alloc (.cells (aS ⟨1,t.ps,t.tx,⟨none,0,0⟩,0,0,⟨none,0,0⟩,⟨none,0,0⟩⟩ aP).toArray 48)) (w.heap.size+1+1) 48 (aS ⟨1,t.ps,t.tx,⟨none,0,0⟩,0,0,⟨none,0,0⟩,⟨none,0,0⟩⟩ aP).toArray:=by
  have:=Blk.new ((w.alloc (oK t)).alloc zS) 48 (aS ⟨1,t.ps,t.tx,⟨none,0,0⟩,0,0,⟨none,0,0⟩,⟨none,0,0⟩⟩ aP).toArray;rw[World.size_alloc,World.size_alloc]at this;exact this
 have hl:=h.lt;have NB_0:=Hj k0;have SB_0:=Hj k1;have HR:=Hj (h.below BL h.lt);have HF:Hid (Fx (On R) w.heap.size w (((w.alloc (oK t)).alloc zS).alloc (.cells (aS ⟨1,t.ps,t.tx,⟨none,0,0⟩,0,0,⟨none,0,0⟩,⟨none,0,0⟩⟩ aP).toArray 48))):=Fx.of BL;have HRS:Hid (R<w.heap.size+1+1):=(by show R<w.heap.size+1+1;omega);have HRN:Hid (R<w.heap.size+1):=(by show R<w.heap.size+1;omega);have HSB:Hid (w.heap.size≤w.heap.size+1+1):=(by show w.heap.size≤w.heap.size+1+1;omega);have HNB:Hid (w.heap.size≤w.heap.size+1):=(by show w.heap.size≤w.heap.size+1;omega);have HNE:Hid (w.heap.size+1≠w.heap.size+1+1):=(by show w.heap.size+1≠w.heap.size+1+1;omega);have HD:Hid (¬(fun k=>w.heap.size+1+1<k) R):=(fun(x:w.heap.size+1+1<R)=>by omega);have HDS:Hid (¬(fun k=>w.heap.size+1+1<k) (w.heap.size+1+1)):=Nat.lt_irrefl _;have HDN:Hid (¬(fun k=>w.heap.size+1+1<k) (w.heap.size+1)):=(fun(x:w.heap.size+1+1<w.heap.size+1)=>by omega);have HP:=Hj ht;generalize hZ:oI k t.ps t.tx s=Z;unfold oI at hZ;have E:=Hj hZ;clear BL k0 k1 h hZ ht hl;show Calls Tryz.prog 129 #[.pointer (some ⟨R,0,none⟩),.agg #[.int .u8 t.kd,.int .i64 t.ps,.string ⟨t.tx.toArray⟩,.int .i32 t.nn,.int .u64 t.ff]] w _;go_enter Tryz.func129,Tryz.ntmps129
 go_upto_region 2 with fail;change (Code.region 2 _ _).wp _ _ _ (((w.alloc (oK t)).alloc zS).alloc (.cells (aS ⟨1,t.ps,t.tx,⟨none,0,0⟩,0,0,⟨none,0,0⟩,⟨none,0,0⟩⟩ aP).toArray 48));generalize (((w.alloc (oK t)).alloc zS).alloc (.cells (aS ⟨1,t.ps,t.tx,⟨none,0,0⟩,0,0,⟨none,0,0⟩,⟨none,0,0⟩⟩ aP).toArray 48))=w0 at *;generalize w.heap.size+1=nb at *;generalize nb+1=sb at *;go_wp2_with fail;refine(aCZ R k d hdk s w0 HR.out).mono ?_;intro r wa1 hpo
 cases hres:index (dK k) s with
 | no c q=>
  rw[hres]at hpo;obtain⟨rfl,f⟩:=hpo;have HFn:=Hj (aJ HF.out f);have E2:=E.out;rw[hres,bL]at E2;have En:=Hj E2;clear f hres E2;go_wp2_with fail;refine⟨rfl,?_⟩;rw[←En.out];exact⟨rfl,HFn.out⟩
 | ok l s2=>
  rw[hres]at hpo;obtain⟨v,rfl,⟨S,K,hv,xb,eb⟩,h',f⟩:=hpo;obtain⟨A,n,cp⟩:=S;unfold Sl.val at hv;subst hv;have EL:=Hj eb;have XO:=Hj xb.1;have E2:=E.out;rw[hres,bG]at E2;have E1:=Hj E2;have HR1:=Hj h';have HF1:=Hj (aJ HF.out f);have NB_1:=Hj (f.blk NB_0.out NB_0.out.lt (aO HRN.out));have SB_1:=Hj (f.blk SB_0.out SB_0.out.lt (aO HRS.out));have XI_1:=Hj (xb.imp (D':=fun k=>sb<k) (fun k _ (x:w0.heap.size≤k)=>aE SB_0.out.lt x));clear f hres h' E2 HR HF E NB_0 SB_0;clear xb eb;have m2:wa1.cell? ⟨sb,3,none⟩=some (.slice none 0 0):=SB_1.out.cell 3;have z2:wa1.frozen? ⟨sb,3,none⟩=false:=SB_1.out.frozen 3;have SB_2:Hid (Blk (wa1.setCell ⟨sb,3,none⟩ (.slice A n cp)) sb 48 (aS ⟨1,t.ps,t.tx,⟨A,n,cp⟩,0,0,⟨none,0,0⟩,⟨none,0,0⟩⟩ aP).toArray):=SB_1.out.set_ 3 (.slice A n cp);have WR2:=Hj (dX wa1 sb 3 (.slice A n cp));go_upto_region 3 with fail;change (Code.region 3 _ _).wp _ _ _ (wa1.setCell ⟨sb,3,none⟩ (.slice A n cp));clear m2 z2;generalize wa1.setCell ⟨sb,3,none⟩ (.slice A n cp)=wb2 at *;have HR2:=Hj (WR2.out.rdr HR1.out HRS.out);have HF2:=Hj (WR2.out.fx HF1.out HSB.out);have NB_2:=Hj (WR2.out.blk NB_1.out HNE.out);have XI_2:=Hj (XI_1.out.fx WR2.out.1 (aQ HDS.out))
  clear HR1 HF1 NB_1 SB_1 XI_1;go_wp2_with fail;refine(bU R d s2 [61] (by decide) wb2 HR2.out).mono ?_;intro r wa3 hpo
  cases hres:cF [61] s2 with
  | no c q=>
   rw[hres]at hpo;obtain⟨rfl,f⟩:=hpo;have HFn:=Hj (aJ HF2.out f);have E2:=E1.out;rw[hres,bL]at E2;have En:=Hj E2;clear f hres E2;go_wp2_with fail;refine⟨rfl,?_⟩;rw[←En.out];exact⟨rfl,HFn.out⟩
  | ok u s3=>
   rw[hres]at hpo;obtain⟨v,rfl,hv,h',f⟩:=hpo;unfold V0 at hv;subst hv;have E2:=E1.out;rw[hres,bG]at E2;have E3:=Hj E2;have HR3:=Hj h';have HF3:=Hj (aJ HF2.out f);have NB_3:=Hj (f.blk NB_2.out NB_2.out.lt (aO HRN.out));have SB_3:=Hj (f.blk SB_2.out SB_2.out.lt (aO HRS.out));have XI_3:=Hj (XI_2.out.fx f (aQ HD.out));clear f hres h' E2 HR2 HF2 E1 NB_2 SB_2 XI_2;go_wp2_with fail;refine(sA R k d hdk s3 wa3 HR3.out).mono ?_;intro r wa4 hpo
   cases hres:exK k s3 with
   | no c q=>
    rw[hres]at hpo;obtain⟨rfl,f⟩:=hpo;have HFn:=Hj (aJ HF3.out f);have E2:=E3.out;rw[hres,bL]at E2;have En:=Hj E2;clear f hres E2;go_wp2_with fail;refine⟨rfl,?_⟩;rw[←En.out];exact⟨rfl,HFn.out⟩
   | ok e s4=>
    rw[hres]at hpo;obtain⟨v,rfl,⟨b,hv,xb,eb⟩,h',f⟩:=hpo;subst hv;have EB:=Hj eb;have E2:=E3.out;rw[hres,bG]at E2;have E4:=Hj E2;have HR4:=Hj h';have HF4:=Hj (aJ HF3.out f);have NB_4:=Hj (f.blk NB_3.out NB_3.out.lt (aO HRN.out));have SB_4:=Hj (f.blk SB_3.out SB_3.out.lt (aO HRS.out));have XI_4:=Hj (XI_3.out.fx f (aQ HD.out));have XE_4:=Hj (xb.imp (D':=fun k=>sb<k) (fun k _ (x:wa3.heap.size≤k)=>aE SB_3.out.lt x));clear f hres h' E2 HR3 HF3 E3 NB_3 SB_3 XI_3;clear xb eb
    go_upto_region 5 with(refine aKJ ⟨1,t.ps,t.tx,⟨A,n,cp⟩,0,0,⟨none,0,0⟩,⟨none,0,0⟩⟩ aP b.h sb SB_4.out rfl _ _ rfl rfl rfl ?_;intro wb5 SB_5 WR5)
    have HR5:=Hj (WR5.out.rdr HR4.out HRS.out);have HF5:=Hj (WR5.out.fx HF4.out HSB.out);have NB_5:=Hj (WR5.out.blk NB_4.out HNE.out);have XI_5:=Hj (XI_4.out.fx WR5.out.1 (aQ HDS.out));have XE_5:=Hj (XE_4.out.fx WR5.out.1 (aQ HDS.out));clear HR4 HF4 NB_4 SB_4 XI_4 XE_4;go_wp2_with fail;refine(bU R d s4 [59] (by decide) wb5 HR5.out).mono ?_;intro r wa6 hpo
    cases hres:cF [59] s4 with
    | no c q=>
     rw[hres]at hpo;obtain⟨rfl,f⟩:=hpo;have HFn:=Hj (aJ HF5.out f);have E2:=E4.out;rw[hres,bL]at E2;have En:=Hj E2;clear f hres E2;go_wp2_with fail;refine⟨rfl,?_⟩;rw[←En.out];exact⟨rfl,HFn.out⟩
    | ok u2 s5=>
     rw[hres]at hpo;obtain⟨v,rfl,hv,h',f⟩:=hpo;unfold V0 at hv;subst hv;have E2:=E4.out;rw[hres,bG]at E2;have E6:=Hj E2;have HR6:=Hj h';have HF6:=Hj (aJ HF5.out f);have NB_6:=Hj (f.blk NB_5.out NB_5.out.lt (aO HRN.out));have SB_6:=Hj (f.blk SB_5.out SB_5.out.lt (aO HRS.out));have XI_6:=Hj (XI_5.out.fx f (aQ HD.out));have XE_6:=Hj (XE_5.out.fx f (aQ HD.out));clear f hres h' E2 HR5 HF5 E4 NB_5 SB_5 XI_5 XE_5
     go_wp2_with (first
      | refine aAu ⟨1,t.ps,t.tx,⟨A,n,cp⟩,0,0,⟨none,0,0⟩,⟨none,0,0⟩⟩ b.h sb SB_6.out rfl _ rfl rfl ?_
      | refine iC ⟨1,t.ps,t.tx,⟨A,n,cp⟩,0,0,⟨none,0,0⟩,⟨none,0,0⟩⟩ b.h nb _ NB_6.out rfl rfl _ _ rfl rfl rfl ?_)
     refine bodyPost_ret (iG rfl _ _ nb ⟨1,t.ps,t.tx,⟨A,n,cp⟩,0,0,⟨none,0,0⟩,⟨none,0,0⟩⟩ b.h rfl (NB_6.out.rowS _)) rfl ?_;rw[←E6.out];exact⟨_,rfl,⟨St.mk ⟨1,t.ps,t.tx,⟨A,n,cp⟩,0,0,⟨none,0,0⟩,⟨none,0,0⟩⟩ K b (fun _=>.no) (fun _=>.no),rfl,((aDW (aDY (by decide) (by decide) HP.out.ps0 HP.out.ps1 (by decide) (by decide) (by decide) (by decide) HP.out.len XO.out iQ iQ) (XI_6.out) (XE_6.out) (uX) (uX)).fx (cV _ nb _).1 (aQ HDN.out)).imp (fun k _ (x:sb<k)=>aF HSB.out (Nat.le_of_lt x)),aMw EB.out EL.out⟩,HR6.out.row HRN.out _,bI HF6.out (.inr HNB.out) _⟩
def GS (bl:Nat)(l:List St)(w:World):Prop:=∃S K,Blk w bl 23 #[Sl.val S]∧XB (fun k=>bl<k) S K w∧Seq S K l
theorem aKW {R bl:Nat}(hR:R<bl)(a:List St)(w1 w2:World)(h:GS bl a w1)(hf:Fx (On R) w1.heap.size w1 w2):GS bl a w2:=by
 obtain⟨S,K,h1,h2,h3⟩:=h;exact⟨S,K,hf.blk h1 h1.lt (aO hR),h2.fx hf (aQ (fun x:bl<R=>by omega)),h3⟩
theorem XS.set {D:Nat→Prop}{s:St}{w:World}(h:XS D s w){p:Addr}(hp:¬D p.block)(v:Value):XS D s (w.setCell p v):=h.fx (X:=On p.block) (bJ (X:=On p.block) (Fx.refl _ _ _) (.inl rfl) v) (aQ hp)
theorem aHt {D:Nat→Prop}{w:World}{s:St}(h1:XS D s w)(hL:D w.heap.size){w':World}{t:TypeId}(hw:w'=w.alloc (.cells (aS s.h s.e.h).toArray t)):XB D ⟨some ⟨w.heap.size,0,none⟩,1,1⟩ (fun _=>s) w':=by
 subst hw;have k:XS D s (w.alloc (.cells (aS s.h s.e.h).toArray t)):=h1.bel (aY _ _);refine⟨aGt _ _ (by decide),?_,fun i hi=>k⟩;intro a ha i hi;cases ha;have hi:i<1:=hi;refine⟨by rw[World.size_alloc];exact Nat.lt_succ_self _,fun j v hv=>?_⟩;have hb:=Blk.new w t (aS s.h s.e.h).toArray;rw[gM,Addr.add_mid];refine⟨hL,?_⟩;rw[Nat.zero_add,hb.cell];simp only[List.getElem?_toArray];obtain rfl:i=0:=by omega
 simpa using hv
theorem aGF:jH 180:=dJ (by rfl) (by kernel_rfl) rfl
def zC (P:PS→Rs St)(s:PS):Rs (List St):=(P s).bind fun e s'=>.ok [e] s'
theorem aHd (R d b0 bl:Nat)(P:PS→Rs St)(hP:xW R d 106 P)(s:PS)(w:World)(h:Rdr R d s w)(h0:Blk w b0 108 #[.pointer (some ⟨R,0,none⟩)])(old:Value)(he:Blk w bl 23 #[old])(hb:R<bl) :
  Calls Tryz.prog 180 #[.pointer (some ⟨b0,0,none⟩),.pointer (some ⟨bl,0,none⟩)] w (PC R d (Two R bl) w (zC P s) (GS bl)):=by
 have c0:w.cell? ⟨b0,0,none⟩=some (.pointer (some ⟨R,0,none⟩)):=h0.cell 0;have HE:=Hj he;have HR:=Hj h;have HB:=Hj hb;generalize hZ:zC P s=Z;have HZ:=Hj hZ;clear h0 he h hb hZ;go_enter Tryz.func180,Tryz.ntmps180;go_wp2_with fail;refine(hP s w HR.out).mono ?_;intro r w1 hpo
 cases hres:P s with
 | no c q=>
  rw[hres]at hpo;obtain⟨rfl,f1⟩:=hpo;have HF1:=Hj f1;have E:Hid (Z=.no c q):=by show Z=_;rw[←HZ.out];unfold zC;rw[hres];rfl
  clear f1 hres;go_wp2_with fail;refine⟨rfl,?_⟩;rw[E.out];exact⟨rfl,HF1.out.mono (aD _) (fun k _ x=>.inl x)⟩
 | ok e s1=>
  rw[hres]at hpo;obtain⟨v,rfl,⟨b,rfl,xb,eb⟩,h1,f1⟩:=hpo;have E:Hid (Z=.ok [e] s1):=by show Z=_;rw[←HZ.out];unfold zC;rw[hres];rfl
  have e1:=f1.blk HE.out HE.out.lt (aO HB.out);have x1:=xb.imp (D':=fun k=>bl<k) (fun k _ (x:w.heap.size≤k)=>aE HE.out.lt x);have hsz:(w1.setCell ⟨bl,0,none⟩ (.slice (some ⟨w1.heap.size,0,none⟩) 1 1)).heap.size=w1.heap.size:=World.size_setCell ..;have x2:=x1.set (p:=⟨bl,0,none⟩) (Nat.lt_irrefl _) (.slice (some ⟨w1.heap.size,0,none⟩) 1 1);have e2:=e1.set_ 0 (.slice (some ⟨w1.heap.size,0,none⟩) 1 1);have BLb:=aY (w1.setCell ⟨bl,0,none⟩ (.slice (some ⟨w1.heap.size,0,none⟩) 1 1)) (.cells (aS b.h b.e.h).toArray 48);have HL2:=Hj (aHt x2 (by rw[hsz];exact e1.lt) (t:=48) rfl);rw[hsz]at HL2;have HE2:=Hj (e2.below BLb e2.lt);have hr:=h1.set (p:=⟨bl,0,none⟩) HB.out (.slice (some ⟨w1.heap.size,0,none⟩) 1 1);have HR2:=Hj (hr.below BLb hr.lt);have HF2:=Hj (aZ (bJ (f1.mono (Y:=Two R bl) (aD _) (fun k _ x=>.inl x)) (p:=⟨bl,0,none⟩) (.inl (.inr rfl)) (.slice (some ⟨w1.heap.size,0,none⟩) 1 1)) BLb);have m2:w1.cell? ⟨bl,0,none⟩=some old:=e1.cell 0;have z2:w1.frozen? ⟨bl,0,none⟩=false:=e1.frozen 0;have lb:=e1.lt;have EB:=Hj eb;clear f1 hres xb h1 eb HE HR e1 x1 BLb hsz x2 e2 hr;unfold stv;go_wp2_with fail;refine bodyPost_end (results_none rfl _ _ _) rfl ?_;rw[E.out]
  refine⟨rfl,⟨⟨some ⟨w1.heap.size,0,none⟩,1,1⟩,fun _=>b,HE2.out,HL2.out,rfl,fun i hi=>?_⟩,HR2.out,HF2.out⟩;have hi:i<1:=hi;obtain rfl:i=0:=by omega
  exact EB.out
def zSs:Obj:=.cells #[.slice none 0 0] 23
theorem nB (R d k:Nat)(hdk:d+k=24)(hb:rE R d 84 (blk (sK k)))(hs:∀k',k=k'+1→xW R (d+1) 106 (stK k')):rE R d 152 (wZ (sK k)):=by
 intro s w h;have hmf:∀(fn:Fn) (first cap:Array Value) (w:World),(Instr.makeFunc fn first cap).run Tryz.prog w=.ok (.func fn first cap) w:=fun _ _ _ _=>rfl;have BL:Below w.heap.size w (w.alloc (oR R)):=aY w _;have k0:Blk (w.alloc (oR R)) w.heap.size 108 #[.pointer (some ⟨R,0,none⟩)]:=Blk.new w _ _;have hl:=h.lt;have HK:=Hj k0;have c0:(w.alloc (oR R)).cell? ⟨w.heap.size,0,none⟩=some (.pointer (some ⟨R,0,none⟩)):=k0.cell 0;have HR:=Hj (h.below BL h.lt);have HF:Hid (Fx (On R) w.heap.size w (w.alloc (oR R))):=Fx.of BL;have HLT:=Hj hl;have HDK:=Hj hdk;have HB:=Hj hb;have HS:=Hj hs;clear BL k0 h hl hdk hb hs;generalize hZ:wZ (sK k) s=Z;have HZ:=Hj hZ;clear hZ;go_enter Tryz.func152,Tryz.ntmps152;go_upto_region 1 with fail;change (Code.region 1 _ _).wp _ _ _ (w.alloc (oR R));generalize w.alloc (oR R)=wx at *;go_wp2_with fail;refine(dZ R d s ifW wx HR.out).mono ?_;rintro e w1 ⟨rfl,hb⟩;have k0:=HK.out.below hb HK.out.lt;have HR1:=Hj (HR.out.below hb HR.out.lt);have HF1:=Hj (aZ HF.out hb);have d0:w1.cell? ⟨w.heap.size,0,none⟩=some (.pointer (some ⟨R,0,none⟩)):=k0.cell 0;have HS1:Hid (w.heap.size<w1.heap.size):=k0.lt;have HK1:=Hj k0;clear k0 hb HK HR HF c0
 by_cases c1:s.hd.tx=ifW
 ·rw[cS c1]
  have E:Hid ((match sK k with|none=>.no 111 s.hd.ps|some p=>(p s).bind fun x s'=>.ok [x] s')=Z):=by show _=Z;rw[←HZ.out];unfold wZ;rw[if_pos c1];cases sK k<;>rfl
  have BLb:=aY w1 zSs;have k1:=HK1.out.below BLb HK1.out.lt;have HLB:Hid (Blk (w1.alloc zSs) w1.heap.size 23 #[.slice none 0 0]):=Blk.new _ _ _;have HR2:=Hj (HR1.out.below BLb HR1.out.lt);have HF2:=Hj (aZ HF1.out BLb);have e0:(w1.alloc zSs).cell? ⟨w.heap.size,0,none⟩=some (.pointer (some ⟨R,0,none⟩)):=k1.cell 0;have HK2:=Hj k1;clear c1 HZ HB BLb k1 HK1 HR1 HF1 d0;go_upto_region 4 with fail;change (Code.region 4 _ _).wp _ _ _ (w1.alloc zSs);generalize w1.alloc zSs=w2 at *;generalize w1.heap.size=g at *;have HRg:Hid (R<g):=Nat.lt_trans HLT.out HS1.out
  cases k with
  | zero=>
   obtain rfl:d=24:=by have:=HDK.out;omega
   have E2:Hid (Z=.no 111 s.hd.ps):=by show Z=_;rw[←E.out];rfl
   clear E HS;go_wp2_with fail;refine(mB R s _ w2 HR2.out).mono ?_;rintro r w5 ⟨rfl,hb⟩;have HF5:=Hj (aZ HF2.out hb);clear hb;go_wp2_with fail;refine⟨rfl,?_⟩;rw[E2.out];exact⟨rfl,HF5.out⟩
  | succ k'=>
   have E2:Hid (zC (stK k') s=Z):=by show _=Z;rw[←E.out];rfl
   have hd:d<24:=by have:=HDK.out;omega
   have DP:=Hj (nC R d 180 #[.pointer (some ⟨w.heap.size,0,none⟩),.pointer (some ⟨g,0,none⟩)] (Two R g) s (zC (stK k') s) (GS g) aGF (.inl rfl) (fun a w1 w2=>aKW HRg.out a w1 w2) w2 HR2.out hd
    (fun w5 h5 f5=>aHd R (d+1) _ g (stK k') (HS.out k' rfl) s w5 h5 (f5.blk HK2.out HK2.out.lt (aO HLT.out)) _ (f5.blk HLB.out HLB.out.lt (aO HRg.out)) HRg.out))
   rw[E2.out]at DP;clear E hd HS HLB E2;go_wp2_with fail;refine DP.out.mono ?_;intro r w5 hpo;clear DP
   cases Z with
   | no c q=>
    obtain⟨rfl,f5⟩:=hpo;have HF5:=Hj (HF2.out.trans (gN f5 HF2.out.size (Nat.le_of_lt HS1.out)));clear f5;go_wp2_with fail;exact⟨rfl,rfl,HF5.out⟩
   | ok l s5=>
    obtain⟨rfl,⟨S,K,hb,xb,eb⟩,h5,f5⟩:=hpo;have HF5:=Hj (HF2.out.trans (gN f5 HF2.out.size (Nat.le_of_lt HS1.out)));have e1:w5.cell? ⟨g,0,none⟩=some (.slice S.ao S.n S.c):=hb.cell 0;have HX:=Hj xb;have HR5:=Hj h5;have EB:=Hj eb;clear f5 xb h5 eb hb HF2;go_wp2_with fail;refine bodyPost_ret (results_tmp rfl _ _ _) rfl ?_;exact⟨_,rfl,⟨S,K,rfl,HX.out.imp (fun k _ (x:g<k)=>Nat.le_of_lt (Nat.lt_trans HS1.out x)),EB.out⟩,HR5.out,HF5.out⟩
 ·rw[cU c1]
  have E:Hid (blk (sK k) s=Z):=by show _=Z;rw[←HZ.out];unfold wZ;rw[if_neg c1]
  have A:=Hj (HB.out s w1 HR1.out);rw[E.out]at A;clear c1 HZ E HB HS;go_wp2_with fail;refine A.out.mono ?_;intro r w3 hpo;clear A
  cases Z with
  | no c q=>
   obtain⟨rfl,f3⟩:=hpo;have HF3:=Hj (aJ HF1.out f3);clear f3;go_wp2_with fail;exact⟨rfl,rfl,HF3.out⟩
  | ok l s3=>
   obtain⟨v,rfl,⟨S,K,rfl,xb,eb⟩,h3,f3⟩:=hpo;have HF3:=Hj (aJ HF1.out f3);have HX:=Hj xb;have HR3:=Hj h3;have EB:=Hj eb;clear f3 xb h3 eb;go_wp2_with fail;refine bodyPost_ret (results_tmp rfl _ _ _) rfl ?_;exact⟨_,rfl,⟨S,K,rfl,HX.out.imp (fun k _ (x:w1.heap.size≤k)=>Nat.le_of_lt (aE HS1.out x)),EB.out⟩,HR3.out,HF3.out⟩
def aCs (w:World)(v v':Value):Prop:=∀g,v'.ownBlock=some g→v.ownBlock=some g∨w.heap.size≤g
theorem dS {w:World}{B n k:Nat}{t:TypeId}{v:Value}{xs:List Value}(h:w.ownsRow B t k v n xs){g:Nat}(hg:v.ownBlock=some g):B≤g∧g<w.heap.size:=by
 rcases h.2 with⟨rfl,_⟩|⟨g',cap,cur,rfl,hb,hh,_⟩
 ·cases hg
 ·have:g'=g:=by simpa [Value.ownBlock] using hg
  subst this;exact⟨hb,(Array.getElem?_eq_some_iff.1 hh).1⟩
theorem rT {P:Program}(w:World)(base:Nat)(t ty e:TypeId)(i:TypeInfo)(z:Value)(size bytes:Nat)(ht:P.underlying t=some (.slice e))(hi:P.info? e=some i)(hz:i.zero=some z)
  (hsize:i.size=size) (hby:i.bytes=bytes) (hzs:z.cells.size=size) (hsz:0<size)
  (v:Value) (n:Nat) (xs:List Value) (hown:w.ownsRow base e size v n xs)
  (a:Addr) (m c:Nat) (news:List Value) (hl:news.length=m*size) (hnews:∀j u,news[j]? = some u→w.cell? (a.add j)=some u) (h1:∀u∈news,u.oneCell'=true)
  (h63:n+m≤maxLen) (hbytes:(n+m)*bytes≤140737488355328) (hbase:base≤w.heap.size) :
  ∃v' w',(Builtin.append_ #[t,t] ty #[v,.slice (some a) m c]).run P w=.ok v' w'∧w'.ownsRow base e size v' (n+m) (xs++news)∧w.grownBy w' v.ownBlock∧aCs w v v':=by
 rcases hown.2 with⟨rfl,rfl⟩|⟨g,cap,cur,rfl,hbg,hg,hnc,hcm,hcs,htake⟩
 ·obtain⟨v',w',hr,ho,hgr, -⟩:=run_append_own (P:=P) w w.heap.size t ty e i z size bytes ht hi hz hsize hby hzs hsz (.slice none 0 0) 0 xs ⟨hown.1,.inl ⟨rfl,rfl⟩⟩ a m c news hl hnews h1 h63 hbytes (aD _)
  exact⟨v',w',hr,nV hbase ho,hgr,fun g hg=>.inr (dS ho hg).1⟩
 ·subst hsize
  subst hby;have hlen:(xs++news).length=(n+m)*i.size:=by rw[List.length_append,hown.1,hl,Nat.add_mul]
  by_cases hroom:n+m≤cap
  ·have hfit:n*i.size+news.length≤cur.size:=by rw[hl,hcs,←Nat.add_mul];exact Nat.mul_le_mul_right _ hroom
   have hr:=run_append_room (P:=P) w t ty e i ht hi g n cap cur hg a m c news hl hnews h1 hroom hfit;refine⟨_,_,hr,⟨hlen,.inr ⟨g,cap,_,rfl,hbg,setRow_heap w g cur _ e _ hg,hroom,hcm,?_,?_⟩⟩,⟨rfl,rfl,rfl,by simp[World.setRow],fun k _ hk=>setRow_other w g k _ (fun e=>hk (by simp[Value.ownBlock,e]))⟩,fun g' hg'=>.inl hg'⟩
   ·simp only[List.size_toArray,List.length_append,List.length_take,List.length_drop,Array.length_toList]
    omega
   ·rw[htake,←hlen]
    exact List.take_left
  ·have hsmall:n+m≤9223372036854775807:=by simp only[maxLen]at h63;omega
   have holds:∀j u,xs[j]? = some u→w.cell? ((⟨g,0,none⟩:Addr).add j)=some u:=hown.cells (g:=g) rfl;have hr:=run_append_grow (P:=P) w t ty e i z ht hi hz ⟨g,0,none⟩ n cap xs hown.1 holds a m c news hl hnews (by omega) (by omega) (growslice_fits (by omega) hbytes);have hge:=grownCap_ge w (n+m) cap e;have hcm':grownCap w (n+m) cap e≤maxLen:=grownCap_le_maxLen w (n+m) cap e h63;refine⟨_,_,hr,⟨hlen,.inr ⟨w.heap.size,_,_,rfl,hbase,heap_alloc_new w.drew _,hge,hcm',?_,?_⟩⟩,⟨rfl,rfl,rfl,by simp,fun k hk _=>Below.heap_alloc w.drew _ k hk⟩,fun g' hg'=>.inr ?_⟩
   ·simp only[Array.size_append,List.size_toArray,size_zeroCells,hzs,hown.1,hl,←Nat.add_mul]
    congr 1
    omega
   ·simp only[Array.toList_append,List.append_assoc]
    rw[←List.append_assoc,←hlen];exact List.take_left
   ·have:w.heap.size=g':=by simpa [Value.ownBlock] using hg'
    omega
theorem cW {P:Program}(w:World){o:Oper}{a:Act}{K:Act→World→Prop}{Q:Exit→Act→World→Prop}(s x:Operand)(t:TypeId)
  (ho:o.op=.call { callee:=.builtin .append,args:=#[s,x],argTypes:=#[t,t] })
  (base:Nat) (e:TypeId) (i:TypeInfo) (z:Value) (size bytes:Nat) (ht:P.underlying t=some (.slice e)) (hi:P.info? e=some i) (hz:i.zero=some z)
  (hsize:i.size=size) (hby:i.bytes=bytes) (hzs:z.cells.size=size) (hsz:0<size)
  (v:Value) (n:Nat) (xs:List Value) (hs:a.eval s=v) (hown:w.ownsRow base e size v n xs)
  (ad:Addr) (m c:Nat) (news:List Value) (hx:a.eval x=.slice (some ad) m c) (hl:news.length=m*size) (hnews:∀j u,news[j]? = some u→w.cell? (ad.add j)=some u) (h1:∀u∈news,u.oneCell'=true)
  (h63:n+m≤maxLen) (hbytes:(n+m)*bytes≤140737488355328) (hbase:base≤w.heap.size)
  (h:∀v' w',w'.ownsRow base e size v' (n+m) (xs++news)→w.grownBy w' v.ownBlock→aCs w v v'→K (a.put o.dst v') w'):o.wp P a w K Q:=by
 obtain⟨v',w',hr,h2,h3,h4⟩:=rT (P:=P) w base t o.type e i z size bytes ht hi hz hsize hby hzs hsz v n xs hown ad m c news hl hnews h1 h63 hbytes hbase;unfold Oper.wp execOp;simp only[ho,resolve,invoke,builtin,Sem.run_bind,Sem.run_pure,Result.andThen_ok,List.map_toArray,List.map_cons,List.map_nil,hs,hx,hr];exact h v' w' h2 h3 h4
theorem fO {P:Program}(w:World){ops:Array Oper}{rest:List Oper}{o:Oper}{a:Act}{Q:Exit→Act→World→Prop}(hgd:o.guard=none)(s x:Operand)(t:TypeId)
  (ho:o.op=.call { callee:=.builtin .append,args:=#[s,x],argTypes:=#[t,t] })
  (base:Nat) (e:TypeId) (i:TypeInfo) (z:Value) (size bytes:Nat) (ht:P.underlying t=some (.slice e)) (hi:P.info? e=some i) (hz:i.zero=some z)
  (hsize:i.size=size) (hby:i.bytes=bytes) (hzs:z.cells.size=size) (hsz:0<size)
  (v:Value) (n:Nat) (xs:List Value) (hs:a.eval s=v) (hown:w.ownsRow base e size v n xs)
  (ad:Addr) (m c:Nat) (news:List Value) (hx:a.eval x=.slice (some ad) m c) (hl:news.length=m*size) (hnews:∀j u,news[j]? = some u→w.cell? (ad.add j)=some u) (h1:∀u∈news,u.oneCell'=true)
  (h63:n+m≤maxLen) (hbytes:(n+m)*bytes≤140737488355328) (hbase:base≤w.heap.size)
  (h:∀v' w',w'.ownsRow base e size v' (n+m) (xs++news)→w.grownBy w' v.ownBlock→aCs w v v'→wpList P ops Q rest (a.put o.dst v') w'):wpList P ops Q (o::rest) a w:=
 wpList_plain hgd fun _ hK=>cW w s x t ho base e i z size bytes ht hi hz hsize hby hzs hsz v n xs hs hown ad m c news hx hl hnews h1 h63 hbytes hbase fun v' w' h2 h3 h4=>hK _ _ (h v' w' h2 h3 h4)
end Go.Proofs.YtkbicfffokegeaaGreatDoor
