/-
  ParseParses: a source's tree, or what is wrong with it, is the reference's. (part 36 of 38) Conditions: none beside what the card ties.
-/
import Derived.Test.YthmlhkllbichgaaGreatDoorVbi
namespace Go.Proofs.YthmlhkllbichgaaGreatDoor
set_option maxHeartbeats 16000000
open Go.RowKit Go.Maps
set_option maxRecDepth 100000
def BG (s:PS)(b:Bool):Prop:=b=true↔(s.hd.kd=1∨s.hd.tx=ifW∨s.hd.tx=forW)
theorem rrstmt_of (R k:Nat)(hk:k≤24)(hb:RB R k)(hs:∀k',k=k'+1→RS R k'):RS R k:=by
 intro s w d hd h;have fn:=fun(t:Tk) w=>tkv_nn t w;have fp:=fun(t:Tk) w=>tkv_ps t w;have ft:=fun(t:Tk) w=>tkv_tx t w;have HU:=Hj (h.below (bel_one w zS));have NB:Hid (Blk (w.alloc zS) w.heap.size 53 (stvs zeroS zeroH).toArray):=Blk.new _ _ _;have HRL:=Hj h.lt;have HF:Hid (Fx (On R) w.heap.size w (w.alloc zS)):=Fx.of (bel_one w zS);have HS:Hid (Hd s.hd):=h.good.hd;have HG:=Hj h.good;have HDK:=Hj (And.intro hd hk);have HBK:=Hj hb;have HSK:=Hj hs;have w64:wrap64 (d+1)=d+1:=by unfold wrap64;omega
 rw[stK_eq,stm_parts]
 generalize hZ:(if s.hd.kd≠1∧s.hd.tx≠ifW∧s.hd.tx≠forW then bad s
  else if s.ns=200 then .no 112 s.hd.ps
  else if s.hd.tx=ifW then choiceS k (sK k) s.hd.ps ⟨s.ts.tail,s.ns+1,s.nx⟩
  else if s.hd.tx=forW then loopS (sK k) s.hd.ps ⟨s.ts.tail,s.ns+1,s.nx⟩
  else assignS k s.hd.ps s.hd.tx ⟨s.ts.tail,s.ns+1,s.nx⟩)=Z
 have HZ:=Hj hZ;clear h hZ hd hk hb hs;go_enter Tryz.func72,Tryz.ntmps72;go_upto_region 1 with fail;change Code.wp _ _ _ _ (w.alloc zS);generalize w.alloc zS=w0 at *;go_wp2_with fail;refine(rrtok_any R _ w0 HU.out).mono ?_;rintro q w1 ⟨t0,rfl, -,ht,hb⟩;obtain rfl:=ht () s rfl;have hb2:Below w0.heap.size w0 (w1.alloc (.cells s.hd.vs 62)):=bel_alloc hb _;have HU2:=Hj (HU.out.below hb2);have NB2:=Hj (NB.out.below hb2 NB.out.lt);have TB:Hid (Blk (w1.alloc (.cells s.hd.vs 62)) w1.heap.size 62 s.hd.vs):=Blk.new _ _ _;have HF2:=Hj (fx_bel HF.out hb2);have HTN:Hid (w.heap.size<w1.heap.size):=Nat.lt_of_lt_of_le NB.out.lt hb.size;clear ht hb hb2 HU NB HF;unfold Tk.v;go_upto_region 2 with fail;change Code.wp _ _ _ _ (w1.alloc (.cells s.hd.vs 62));generalize w1.alloc (.cells s.hd.vs 62)=w2 at *;generalize w1.heap.size=tb at *;have k1:w2.cell? ⟨tb,1,none⟩=some (.int .i64 s.hd.ps):=TB.out.cell 1;go_upto_region 3 with fail;clear k1;change Code.wp _ _ _ _ (w2.alloc (.cells (stvs ⟨0,s.hd.ps,[],⟨none,0,0⟩,0,0,⟨none,0,0⟩,⟨none,0,0⟩⟩ zeroH).toArray 53))
 have S3:Hid (SF R w w2.heap.size tb s.hd ⟨0,s.hd.ps,[],⟨none,0,0⟩,0,0,⟨none,0,0⟩,⟨none,0,0⟩⟩ (fun _=>.no) .no (fun _=>.no) (fun _=>.no) (w2.alloc (.cells (stvs ⟨0,s.hd.ps,[],⟨none,0,0⟩,0,0,⟨none,0,0⟩,⟨none,0,0⟩⟩ zeroH).toArray 53))):=
  ⟨HRL.out,HTN.out,TB.out.lt,NB2.out.below (bel_one _ _) NB2.out.lt,TB.out.below (bel_one _ _) TB.out.lt,Blk.new _ _ _,xl_no,trivial,xb_no,xb_no,fx_bel HF2.out (bel_one _ _)⟩
 have HU3:=Hj (HU2.out.below (bel_one w2 (.cells (stvs ⟨0,s.hd.ps,[],⟨none,0,0⟩,0,0,⟨none,0,0⟩,⟨none,0,0⟩⟩ zeroH).toArray 53)));clear HU2 NB2 HF2 HTN TB HRL;generalize w2.alloc (.cells (stvs ⟨0,s.hd.ps,[],⟨none,0,0⟩,0,0,⟨none,0,0⟩,⟨none,0,0⟩⟩ zeroH).toArray 53)=w3 at *;generalize w2.heap.size=xb at *;have k0:w3.cell? ⟨tb,0,none⟩=some (.int .u8 s.hd.kd):=S3.out.tk.cell 0
 go_cut [7] (fun v wx=>∃b:Bool,v=.bool b∧Hid (BG s b)∧Hid (Below w3.heap.size w3 wx))
 case first=>
  by_cases c1:s.hd.kd=1
  ·have b1:=b_eq c1
   have C1:=Hj c1;clear c1;go_wp2_with fail;go_meet;exact⟨true,rfl,⟨fun _=>.inl C1.out,fun _=>rfl⟩,Below.refl _ _⟩
  ·have b1:=b_ne c1
   have C1:=Hj c1;clear c1;go_wp2_with fail;refine(rris_any R _ [105,102] (by decide) w3 HU3.out).mono ?_;rintro q w4 ⟨b,rfl,hb,bl⟩;have HB:=Hj (hb () s rfl);have BL4:=Hj bl;have HU4:=Hj (HU3.out.below bl);clear hb bl
   cases b with
   | true=>
    go_wp2_with fail;go_meet;exact⟨true,rfl,⟨fun _=>.inr (.inl ((res_eq HB.out).1 rfl)),fun _=>rfl⟩,BL4.out⟩
   | false=>
    go_wp2_with fail;refine(rris_any R _ [102,111,114] (by decide) w4 HU4.out).mono ?_;rintro q w5 ⟨b,rfl,hb,bl⟩;have HB5:=Hj (hb () s rfl);have BL5:=Hj (bel_trans BL4.out bl);clear hb bl;go_wp2_with fail;go_meet;refine⟨b,rfl,⟨fun e=>.inr (.inr ((res_eq HB5.out).1 e)),fun e=>?_⟩,BL5.out⟩
    cases b with
    | true=>rfl
    | false=>exact absurd e (fun x=>x.elim C1.out fun x=>x.elim ((res_eq HB.out).2 rfl) ((res_eq HB5.out).2 rfl))
 case rest=>
  clear k0;obtain⟨b,rfl,HB,BV⟩:=hcut;have S4:=Hj (S3.out.bel BV.out);have HU4:=Hj (HU3.out.below BV.out);clear S3 HU3 BV;generalize wc=w4 at *;have kk:w4.cell? ⟨tb,1,none⟩=some (.int .i64 s.hd.ps):=S4.out.tk.cell 1
  cases b with
  | false=>
   have E:Hid (Z=.no 110 s.hd.ps):=by
    show Z=bad s;rw[←HZ.out];exact if_pos ⟨fun x=>Bool.noConfusion (HB.out.2 (.inl x)),fun x=>Bool.noConfusion (HB.out.2 (.inr (.inl x))),fun x=>Bool.noConfusion (HB.out.2 (.inr (.inr x)))⟩
   clear HB HZ;go_wp2_with fail;refine(rrfail_any R _ 110 s.hd.ps (by decide) w4 HU4.out).mono ?_;rintro q w5 ⟨rfl,hu,hf⟩;have S5:=Hj (S4.out.fx hf)
   have FI:Hid (U R Z w5∧∀a s',Z=.ok a s'→(St.mk ⟨0,s.hd.ps,[],⟨none,0,0⟩,0,0,⟨none,0,0⟩,⟨none,0,0⟩⟩ (fun _=>.no) .no (fun _=>.no) (fun _=>.no)).eqv a):=by
    show _∧_;rw[E.out];exact⟨hu.of rfl,fun a s' e=>by cases e⟩
   clear hu hf S4 HU4 kk;have SK:=Hj S5.out.sk;have NBk:=Hj S5.out.nb
   go_wp2_with (first
    | refine ld_stm ⟨0,s.hd.ps,[],⟨none,0,0⟩,0,0,⟨none,0,0⟩,⟨none,0,0⟩⟩ Ex.no.h xb SK.out rfl _ rfl rfl ?_
    | refine st_stm ⟨0,s.hd.ps,[],⟨none,0,0⟩,0,0,⟨none,0,0⟩,⟨none,0,0⟩⟩ Ex.no.h w.heap.size _ NBk.out rfl rfl _ _ rfl rfl rfl ?_)
   refine bodyPost_ret (rs_stm rfl _ _ w.heap.size ⟨0,s.hd.ps,[],⟨none,0,0⟩,0,0,⟨none,0,0⟩,⟨none,0,0⟩⟩ Ex.no.h rfl (NBk.out.rowS _)) rfl ?_;exact S5.out.ret (sh_ok (by decide) (by decide) HS.out.ps0 HS.out.ps1 (by decide) (by decide) (by decide) (by decide) (Nat.zero_le _) S5.out.ix.1 S5.out.th.1 S5.out.el.1) FI.out.1 FI.out.2 _
  | true=>
   have HK:Hid (s.hd.kd≠0):=fun x=>by
    rcases HB.out.1 rfl with h|h|h
    ·omega
    iterate 2
     ·exact HG.out.kd (by rw[←PS.hd,h];decide) x
   have E:Hid ((if s.ns=200 then .no 112 s.hd.ps
     else if s.hd.tx=ifW then choiceS k (sK k) s.hd.ps ⟨s.ts.tail,s.ns+1,s.nx⟩
     else if s.hd.tx=forW then loopS (sK k) s.hd.ps ⟨s.ts.tail,s.ns+1,s.nx⟩
     else assignS k s.hd.ps s.hd.tx ⟨s.ts.tail,s.ns+1,s.nx⟩)=Z):=by
    show _=Z;rw[←HZ.out];exact(if_neg fun x=>(HB.out.1 rfl).elim x.1 fun h=>h.elim x.2.1 x.2.2).symm
   obtain⟨m4,z4,m5,hlt,hov⟩:=HU4.out.more;have HLT:=Hj hlt;have HOV:=Hj hov;have F:=fx_set (Fx.refl (On R) _ w4) (p:=⟨R,4,none⟩) (.inl rfl) (.int .i64 ((s.ns:Int)+1));have S5:=Hj (S4.out.fx F);have hns:=HU4.out.ns;have wns:wrap64 ((s.ns:Int)+1)=(s.ns:Int)+1:=by unfold wrap64;omega
   clear hlt hov F HZ;go_upto_region 8 with fail;change Code.wp _ _ _ _ (w4.setCell ⟨R,4,none⟩ (.int .i64 ((s.ns:Int)+1)));clear m4 z4 kk S4 HU4 wns;generalize w4.setCell ⟨R,4,none⟩ (.int .i64 ((s.ns:Int)+1))=w5 at *
   by_cases cn:s.ns=200
   ·have dn:(200:Int)<(s.ns:Int)+1:=by omega
    have E2:Hid (Z=.no 112 s.hd.ps):=by show Z=_;rw[←E.out,if_pos cn]
    have FL:=Hj (HOV.out cn s.hd.ps);have kk:w5.cell? ⟨tb,1,none⟩=some (.int .i64 s.hd.ps):=S5.out.tk.cell 1;clear E cn HOV HLT hns;go_wp2_with fail;refine FL.out.mono ?_;rintro q w6 ⟨rfl,hu,hf⟩;have S6:=Hj (S5.out.fx hf)
    have FI:Hid (U R Z w6∧∀a s',Z=.ok a s'→(St.mk ⟨0,s.hd.ps,[],⟨none,0,0⟩,0,0,⟨none,0,0⟩,⟨none,0,0⟩⟩ (fun _=>.no) .no (fun _=>.no) (fun _=>.no)).eqv a):=by
     show _∧_;rw[E2.out];exact⟨hu.of rfl,fun a s' e=>by cases e⟩
    clear hu hf S5 FL kk m5 dn;have SK:=Hj S6.out.sk;have NBk:=Hj S6.out.nb
    go_wp2_with (first
     | refine ld_stm ⟨0,s.hd.ps,[],⟨none,0,0⟩,0,0,⟨none,0,0⟩,⟨none,0,0⟩⟩ Ex.no.h xb SK.out rfl _ rfl rfl ?_
     | refine st_stm ⟨0,s.hd.ps,[],⟨none,0,0⟩,0,0,⟨none,0,0⟩,⟨none,0,0⟩⟩ Ex.no.h w.heap.size _ NBk.out rfl rfl _ _ rfl rfl rfl ?_)
    refine bodyPost_ret (rs_stm rfl _ _ w.heap.size ⟨0,s.hd.ps,[],⟨none,0,0⟩,0,0,⟨none,0,0⟩,⟨none,0,0⟩⟩ Ex.no.h rfl (NBk.out.rowS _)) rfl ?_;exact S6.out.ret (sh_ok (by decide) (by decide) HS.out.ps0 HS.out.ps1 (by decide) (by decide) (by decide) (by decide) (Nat.zero_le _) S6.out.ix.1 S6.out.th.1 S6.out.el.1) FI.out.1 FI.out.2 _
   ·have dn:¬(200:Int)<(s.ns:Int)+1:=by omega
    have HU5:=Hj (HLT.out (by omega))
    have E0:Hid ((if s.hd.tx=ifW then choiceS k (sK k) s.hd.ps ⟨s.ts.tail,s.ns+1,s.nx⟩
     else if s.hd.tx=forW then loopS (sK k) s.hd.ps ⟨s.ts.tail,s.ns+1,s.nx⟩
     else assignS k s.hd.ps s.hd.tx ⟨s.ts.tail,s.ns+1,s.nx⟩)=Z):=by show _=Z;rw[←E.out,if_neg cn]
    clear E cn HOV HLT hns;go_wp2_with fail;refine(rrnext_any R _ w5 HU5.out (fun a' s' e=>by cases e;exact HK.out)).mono ?_;rintro q w6 ⟨t',rfl, -, -,hu,hf⟩;have HU6:Hid (U R (.ok () ⟨s.ts.tail,s.ns+1,s.nx⟩:Rs Unit) w6):=hu;have S6:=Hj (S5.out.fx hf);clear hu hf S5 HU5 m5 dn HK;generalize (⟨s.ts.tail,s.ns+1,s.nx⟩:PS)=s1 at *;have q0:w6.cell? ⟨tb,0,none⟩=some (.int .u8 s.hd.kd):=S6.out.tk.cell 0;have q2:w6.cell? ⟨tb,2,none⟩=some (.string ⟨s.hd.tx.toArray⟩):=S6.out.tk.cell 2;have m6:w6.cell? ⟨xb,0,none⟩=some (.int .u8 0):=S6.out.sk.cell 0;have z6:w6.frozen? ⟨xb,0,none⟩=false:=S6.out.sk.frozen 0
    by_cases c1:s.hd.kd=1
    ·have HN1:Hid (s.hd.tx≠ifW∧s.hd.tx≠forW):=by
      constructor
      iterate 2
       ·intro x
        have:=HG.out.res (by rw[←PS.hd,x];decide);rw[←PS.hd]at this;omega
     have E6:Hid (Z=(Rs.ok () s1:Rs Unit).bind fun _ sx=>(index (dK k) sx).bind fun l s2=>(expT [61] s2).bind fun _ s3=>(exK k s3).bind fun e s4=>(expT [59] s4).bind fun _ s5=>.ok (asS s.hd.ps s.hd.tx l e) s5):=by
      show Z=_;rw[←E0.out,if_neg HN1.out.1,if_neg HN1.out.2];rfl
     have b1:=b_eq c1;clear E0 HN1 c1 HB HBK HSK;have HU7:=Hj (HU6.out.wr (wr1_set w6 xb 0 (.int .u8 1)) S6.out.rx);have S7:=Hj (S6.out.set (H':=⟨1,s.hd.ps,[],⟨none,0,0⟩,0,0,⟨none,0,0⟩,⟨none,0,0⟩⟩) 0 (.int .u8 1) rfl S6.out.ix S6.out.th S6.out.el);go_upto_region 21 with fail;change Code.wp _ _ _ _ (w6.setCell ⟨xb,0,none⟩ (.int .u8 1));clear q0 q2 m6 z6 HU6 S6;generalize w6.setCell ⟨xb,0,none⟩ (.int .u8 1)=w7 at *;have E7:=E6;clear E6;have q2:w7.cell? ⟨tb,2,none⟩=some (.string ⟨s.hd.tx.toArray⟩):=S7.out.tk.cell 2;have mm:w7.cell? ⟨xb,2,none⟩=some (.string ⟨#[]⟩):=S7.out.sk.cell 2;have zz:w7.frozen? ⟨xb,2,none⟩=false:=S7.out.sk.frozen 2;have HU8:=Hj (HU7.out.wr (wr1_set w7 xb 2 (.string ⟨s.hd.tx.toArray⟩)) S7.out.rx);have S8:=Hj (S7.out.set (H':=⟨1,s.hd.ps,s.hd.tx,⟨none,0,0⟩,0,0,⟨none,0,0⟩,⟨none,0,0⟩⟩) 2 (.string ⟨s.hd.tx.toArray⟩) rfl S7.out.ix S7.out.th S7.out.el);go_upto_region 22 with fail;change Code.wp _ _ _ _ (w7.setCell ⟨xb,2,none⟩ (.string ⟨s.hd.tx.toArray⟩));clear mm zz HU7 S7 q2;generalize w7.setCell ⟨xb,2,none⟩ (.string ⟨s.hd.tx.toArray⟩)=w8 at *;have E8:=E7;clear E7;go_wp2_with fail;refine(rris_any R _ [91] (by decide) w8 HU8.out).mono ?_;rintro q w9 ⟨b,rfl,hb,bl⟩;have HB:=Hj hb
     have HU9:=Hj (HU8.out.below bl);have S9:=Hj (S8.out.bel bl);clear hb bl HU8 S8
     cases b with
     | true=>
      have E9:=Hj (stepY E8.out HB.out (K1:=fun sx=>(within (dK k) [91] [93] sx).bind fun ex sx=>(expT [61] sx).bind fun _ s3=>(exK k s3).bind fun e s4=>(expT [59] s4).bind fun _ s5=>.ok (asS s.hd.ps s.hd.tx [ex] e) s5) fun sx h1=>by unfold index;rw[if_pos h1,bind_bind];rfl);clear E8 HB;go_wp2_with fail;refine(rrwi_any R k HDK.out.2 _ w9 d [91] [93] (by decide) (by decide) HDK.out.1 HU9.out).mono ?_;rintro q w10 ⟨ea,rfl,xe,he,hu,hf⟩;obtain⟨vea,eqv,hv⟩:=px_val he;have HEea:=Hj eqv;have HU10:=Hj hu;have Xa:=Hj (xe.imp (D':=fun k=>xb<k) (fun k _ (q:w9.heap.size≤k)=>Nat.lt_of_lt_of_le S9.out.sk.lt q));have S10:=Hj (S9.out.fx hf);have E10:=Hj (stepE E9.out hv);clear hu hf HU9 S9 E9 xe he hv eqv
      go_upto_region 24 with(refine bs_ex ea.h rfl _ rfl rfl ?_;intro db w11 hdb ZB BA;have mm:w11.cell? ⟨xb,3,none⟩=some (.slice none 0 0):=(S10.out.bel BA.out).sk.cell 3;have zz:w11.frozen? ⟨xb,3,none⟩=false:=(S10.out.bel BA.out).sk.frozen 3)
      change Code.wp _ _ _ _ (w11.setCell ⟨xb,3,none⟩ (.slice (some ⟨db,0,none⟩) 1 1));have DX:xb<db:=by rw[hdb.out];exact S10.out.sk.lt
      have HU11:=Hj (HU10.out.below BA.out);have S11:=Hj (S10.out.bel BA.out);have HU12:=Hj (HU11.out.wr (wr1_set w11 xb 3 (.slice (some ⟨db,0,none⟩) 1 1)) S11.out.rx);have S12:=Hj (S11.out.set (H':=⟨1,s.hd.ps,s.hd.tx,⟨some ⟨db,0,none⟩,1,1⟩,0,0,⟨none,0,0⟩,⟨none,0,0⟩⟩) 3 (.slice (some ⟨db,0,none⟩) 1 1) rfl (one_xl (D:=fun k=>xb<k) (Xa.out.bel BA.out) DX ZB.out) S11.out.th S11.out.el);clear mm zz HU10 S10 HU11 S11 DX ZB BA hdb Xa;generalize w11.setCell ⟨xb,3,none⟩ (.slice (some ⟨db,0,none⟩) 1 1)=w12 at *;have E11:=E10;clear E10;have E12:=E11;clear E11;go_wp2_with fail;refine(rrmust_any R _ [61] (by decide) w12 HU12.out).mono ?_;rintro q w13 ⟨rfl,hu,hf⟩;have HU13:=Hj hu;have S13:=Hj (S12.out.fx hf);have E13:=Hj (stepU E12.out);clear hu hf HU12 S12 E12;go_wp2_with fail;refine(rrex_any R k HDK.out.2 _ w13 d HDK.out.1 HU13.out).mono ?_;rintro q w14 ⟨eb,rfl,xe,he,hu,hf⟩;obtain⟨veb,eqv,hv⟩:=px_val he;have HEeb:=Hj eqv;have HU14:=Hj hu;have Xa:=Hj (xe.imp (D':=fun k=>xb<k) (fun k _ (q:w13.heap.size≤k)=>Nat.lt_of_lt_of_le S13.out.sk.lt q));have S14:=Hj (S13.out.fx hf);have E14:=Hj (stepE E13.out hv);clear hu hf HU13 S13 E13 xe he hv eqv;have DK:=Hj S14.out.sk
      go_upto_region 26 with(refine st_se ⟨1,s.hd.ps,s.hd.tx,⟨some ⟨db,0,none⟩,1,1⟩,0,0,⟨none,0,0⟩,⟨none,0,0⟩⟩ zeroH eb.h xb DK.out rfl _ _ rfl rfl rfl ?_;intro w15 DW WR)
      have HU15:=Hj (HU14.out.wr WR.out S14.out.rx);have S15:=Hj (S14.out.wr (H':=⟨1,s.hd.ps,s.hd.tx,⟨some ⟨db,0,none⟩,1,1⟩,0,0,⟨none,0,0⟩,⟨none,0,0⟩⟩) (e':=eb) WR.out DW.out S14.out.ix Xa.out S14.out.th S14.out.el);clear HU14 S14 DK DW WR Xa;have E15:=E14;clear E14;go_wp2_with fail;refine(rrmust_any R _ [59] (by decide) w15 HU15.out).mono ?_;rintro q w16 ⟨rfl,hu,hf⟩;have HU16:=Hj hu;have S16:=Hj (S15.out.fx hf);have E16:=Hj (stepU E15.out);clear hu hf HU15 S15 E15;have FI:=Hj (HU16.out.finE E16.out (P:=fun a=>(St.mk ⟨1,s.hd.ps,s.hd.tx,⟨some ⟨db,0,none⟩,1,1⟩,0,0,⟨none,0,0⟩,⟨none,0,0⟩⟩ (fun _=>ea) eb (fun _=>.no) (fun _=>.no)).eqv a) (as_eqv HEeb.out (leq_one HEea.out)));clear HU16 E16;have SK:=Hj S16.out.sk;have NBk:=Hj S16.out.nb
      go_wp2_with (first
       | refine ld_stm ⟨1,s.hd.ps,s.hd.tx,⟨some ⟨db,0,none⟩,1,1⟩,0,0,⟨none,0,0⟩,⟨none,0,0⟩⟩ eb.h xb SK.out rfl _ rfl rfl ?_
       | refine st_stm ⟨1,s.hd.ps,s.hd.tx,⟨some ⟨db,0,none⟩,1,1⟩,0,0,⟨none,0,0⟩,⟨none,0,0⟩⟩ eb.h w.heap.size _ NBk.out rfl rfl _ _ rfl rfl rfl ?_)
      refine bodyPost_ret (rs_stm rfl _ _ w.heap.size ⟨1,s.hd.ps,s.hd.tx,⟨some ⟨db,0,none⟩,1,1⟩,0,0,⟨none,0,0⟩,⟨none,0,0⟩⟩ eb.h rfl (NBk.out.rowS _)) rfl ?_;exact S16.out.ret (sh_ok (by decide) (by decide) HS.out.ps0 HS.out.ps1 (by decide) (by decide) (by decide) (by decide) HS.out.len S16.out.ix.1 S16.out.th.1 S16.out.el.1) FI.out.1 FI.out.2 _
     | false=>
      have E9:=Hj (stepN E8.out HB.out (K0:=fun sx=>(expT [61] sx).bind fun _ s3=>(exK k s3).bind fun e s4=>(expT [59] s4).bind fun _ s5=>.ok (asS s.hd.ps s.hd.tx [] e) s5) fun sx h1=>by unfold index;rw[if_neg h1];rfl);clear E8 HB;go_wp2_with fail;refine(rrmust_any R _ [61] (by decide) w9 HU9.out).mono ?_;rintro q w10 ⟨rfl,hu,hf⟩;have HU10:=Hj hu;have S10:=Hj (S9.out.fx hf);have E10:=Hj (stepU E9.out);clear hu hf HU9 S9 E9;go_wp2_with fail;refine(rrex_any R k HDK.out.2 _ w10 d HDK.out.1 HU10.out).mono ?_;rintro q w11 ⟨eb,rfl,xe,he,hu,hf⟩;obtain⟨veb,eqv,hv⟩:=px_val he;have HEeb:=Hj eqv;have HU11:=Hj hu;have Xa:=Hj (xe.imp (D':=fun k=>xb<k) (fun k _ (q:w10.heap.size≤k)=>Nat.lt_of_lt_of_le S10.out.sk.lt q));have S11:=Hj (S10.out.fx hf);have E11:=Hj (stepE E10.out hv);clear hu hf HU10 S10 E10 xe he hv eqv;have DK:=Hj S11.out.sk
      go_upto_region 26 with(refine st_se ⟨1,s.hd.ps,s.hd.tx,⟨none,0,0⟩,0,0,⟨none,0,0⟩,⟨none,0,0⟩⟩ zeroH eb.h xb DK.out rfl _ _ rfl rfl rfl ?_;intro w12 DW WR)
      have HU12:=Hj (HU11.out.wr WR.out S11.out.rx);have S12:=Hj (S11.out.wr (H':=⟨1,s.hd.ps,s.hd.tx,⟨none,0,0⟩,0,0,⟨none,0,0⟩,⟨none,0,0⟩⟩) (e':=eb) WR.out DW.out S11.out.ix Xa.out S11.out.th S11.out.el);clear HU11 S11 DK DW WR Xa;have E12:=E11;clear E11;go_wp2_with fail;refine(rrmust_any R _ [59] (by decide) w12 HU12.out).mono ?_;rintro q w13 ⟨rfl,hu,hf⟩;have HU13:=Hj hu;have S13:=Hj (S12.out.fx hf);have E13:=Hj (stepU E12.out);clear hu hf HU12 S12 E12;have FI:=Hj (HU13.out.finE E13.out (P:=fun a=>(St.mk ⟨1,s.hd.ps,s.hd.tx,⟨none,0,0⟩,0,0,⟨none,0,0⟩,⟨none,0,0⟩⟩ (fun _=>.no) eb (fun _=>.no) (fun _=>.no)).eqv a) (as_eqv HEeb.out leq_nil));clear HU13 E13;have SK:=Hj S13.out.sk;have NBk:=Hj S13.out.nb
      go_wp2_with (first
       | refine ld_stm ⟨1,s.hd.ps,s.hd.tx,⟨none,0,0⟩,0,0,⟨none,0,0⟩,⟨none,0,0⟩⟩ eb.h xb SK.out rfl _ rfl rfl ?_
       | refine st_stm ⟨1,s.hd.ps,s.hd.tx,⟨none,0,0⟩,0,0,⟨none,0,0⟩,⟨none,0,0⟩⟩ eb.h w.heap.size _ NBk.out rfl rfl _ _ rfl rfl rfl ?_)
      refine bodyPost_ret (rs_stm rfl _ _ w.heap.size ⟨1,s.hd.ps,s.hd.tx,⟨none,0,0⟩,0,0,⟨none,0,0⟩,⟨none,0,0⟩⟩ eb.h rfl (NBk.out.rowS _)) rfl ?_;exact S13.out.ret (sh_ok (by decide) (by decide) HS.out.ps0 HS.out.ps1 (by decide) (by decide) (by decide) (by decide) HS.out.len S13.out.ix.1 S13.out.th.1 S13.out.el.1) FI.out.1 FI.out.2 _
    ·have b1:=b_ne c1
     by_cases c2:s.hd.tx=ifW
     ·have E6:Hid (Z=(Rs.ok () s1:Rs Unit).bind fun _ sx=>(exK k sx).bind fun e s2=>(blk (sK k) s2).bind fun t s3=>if s3.hd.tx=elseW then(elsS (sK k) s3.tk).bind fun l s4=>.ok (ifS s.hd.ps e t l) s4 else .ok (ifS s.hd.ps e t []) s3):=by
       show Z=_;rw[←E0.out,if_pos c2];rfl
      have b2:(s.hd.tx == [105,102])=true:=beq_yes c2;clear E0 c1 c2 HB;have HU7:=Hj (HU6.out.wr (wr1_set w6 xb 0 (.int .u8 2)) S6.out.rx);have S7:=Hj (S6.out.set (H':=⟨2,s.hd.ps,[],⟨none,0,0⟩,0,0,⟨none,0,0⟩,⟨none,0,0⟩⟩) 0 (.int .u8 2) rfl S6.out.ix S6.out.th S6.out.el);go_upto_region 29 with fail;change Code.wp _ _ _ _ (w6.setCell ⟨xb,0,none⟩ (.int .u8 2));clear q0 q2 m6 z6 HU6 S6;generalize w6.setCell ⟨xb,0,none⟩ (.int .u8 2)=w7 at *;have E7:=E6;clear E6;clear b1 b2;go_wp2_with fail;refine(rrex_any R k HDK.out.2 _ w7 d HDK.out.1 HU7.out).mono ?_;rintro q w8 ⟨eb,rfl,xe,he,hu,hf⟩;obtain⟨veb,eqv,hv⟩:=px_val he;have HEeb:=Hj eqv;have HU8:=Hj hu;have Xa:=Hj (xe.imp (D':=fun k=>xb<k) (fun k _ (q:w7.heap.size≤k)=>Nat.lt_of_lt_of_le S7.out.sk.lt q));have S8:=Hj (S7.out.fx hf);have E8:=Hj (stepE E7.out hv);clear hu hf HU7 S7 E7 xe he hv eqv;have DK:=Hj S8.out.sk
      go_upto_region 30 with(refine st_se ⟨2,s.hd.ps,[],⟨none,0,0⟩,0,0,⟨none,0,0⟩,⟨none,0,0⟩⟩ zeroH eb.h xb DK.out rfl _ _ rfl rfl rfl ?_;intro w9 DW WR)
      have HU9:=Hj (HU8.out.wr WR.out S8.out.rx);have S9:=Hj (S8.out.wr (H':=⟨2,s.hd.ps,[],⟨none,0,0⟩,0,0,⟨none,0,0⟩,⟨none,0,0⟩⟩) (e':=eb) WR.out DW.out S8.out.ix Xa.out S8.out.th S8.out.el);clear HU8 S8 DK DW WR Xa;have E9:=E8;clear E8;go_wp2_with fail;refine(HBK.out _ _ w9 d HDK.out.1 HU9.out).mono ?_;rintro q w10 ⟨sa,ka,rfl,xe,he,hu,hf⟩;obtain⟨vsa,eqv,hv⟩:=pb_val he;have HEsa:=Hj eqv;have HU10:=Hj hu;have Xsa:=Hj (xe.imp (D':=fun k=>xb<k) (fun k _ (q:w9.heap.size≤k)=>Nat.lt_of_lt_of_le S9.out.sk.lt q));have S10:=Hj (S9.out.fx hf);have E10:=Hj (stepE E9.out hv);clear hu hf HU9 S9 E9 xe he hv eqv;unfold Sl.val;have mm:w10.cell? ⟨xb,13,none⟩=some (.slice none 0 0):=S10.out.sk.cell 13;have zz:w10.frozen? ⟨xb,13,none⟩=false:=S10.out.sk.frozen 13;have HU11:=Hj (HU10.out.wr (wr1_set w10 xb 13 (.slice sa.ao sa.n sa.c)) S10.out.rx);have S11:=Hj (S10.out.set (H':=⟨2,s.hd.ps,[],⟨none,0,0⟩,0,0,sa,⟨none,0,0⟩⟩) 13 (.slice sa.ao sa.n sa.c) rfl S10.out.ix Xsa.out S10.out.el);go_upto_region 31 with fail;change Code.wp _ _ _ _ (w10.setCell ⟨xb,13,none⟩ (.slice sa.ao sa.n sa.c));clear mm zz HU10 S10 Xsa;generalize w10.setCell ⟨xb,13,none⟩ (.slice sa.ao sa.n sa.c)=w11 at *;have E11:=E10;clear E10;go_wp2_with fail
      refine(rrtake_any R _ [101,108,115,101] (by decide) w11 HU11.out).mono ?_;rintro q w12 ⟨b,rfl,hb, -,hu,hf⟩;have HU12:=Hj hu;have S12:=Hj (S11.out.fx hf);have HB:=Hj hb;clear hu hf HU11 S11 hb
      cases b with
      | true=>
       have E12:=Hj (stepT E11.out HB.out (K1:=fun sx=>(elsS (sK k) sx).bind fun l s4=>.ok (ifS s.hd.ps veb vsa l) s4) fun sx h1=>by exact if_pos h1);clear E11 HB;go_wp2_with fail;refine(rris_any R _ [105,102] (by decide) w12 HU12.out).mono ?_;rintro q w13 ⟨b,rfl,hb,bl⟩;have HB:=Hj hb;have HU13:=Hj (HU12.out.below bl);have S13:=Hj (S12.out.bel bl);clear hb bl HU12 S12
       cases b with
       | true=>
        go_wp2_with fail;refine(rrtok_any R _ w13 HU13.out).mono ?_;rintro q w14 ⟨t,rfl, -,ht,bl⟩;have HT:=Hj ht;have HU14:=Hj (HU13.out.below bl);have S14:=Hj (S13.out.bel bl);clear ht bl HU13 S13;generalize ((((Rs.ok () s1:Rs Unit).bind fun _ s=>exK k s).bind fun _ s=>blk (sK k) s).bind fun _ s=>takT [101,108,115,101] s)=r at *;go_wp2_with fail;refine(rrdeeper_any R r (d+1) t.ps w14 HU14.out).mono ?_;rintro q w15 ⟨rfl,hu,hf⟩;have HU15:=Hj hu;have S15:=Hj (S14.out.fx hf);clear hu hf HU14 S14
        cases hok:(r.bind fun _ s=>dpT (d+1) t.ps s).isOk with
        | false=>
         have FI:Hid (U R Z w15∧∀a s',Z=.ok a s'→(St.mk ⟨2,s.hd.ps,[],⟨none,0,0⟩,0,0,sa,⟨none,0,0⟩⟩ (fun _=>.no) eb ka (fun _=>.no)).eqv a):=by
          show _∧_;rw[E12.out]
          cases r with
          | no c p=>exact⟨HU15.out.of rfl,fun a s' e=>by cases e⟩
          | ok a sx=>
           have h1:sx.hd.tx=ifW:=(res_eq (HB.out a sx rfl)).1 rfl
           have hk0:k=0:=by
            have h2:(dpT (d+1) t.ps sx).isOk=false:=hok;unfold dpT at h2
            split at h2
            ·have:=HDK.out;omega
            ·cases h2
           subst hk0;have e1:(elsS (sK 0) sx).bind (fun l s4=>Rs.ok (ifS s.hd.ps veb vsa l) s4)=.no 111 t.ps:=by unfold elsS;rw[if_pos h1,HT.out a sx rfl];rfl
           have e2:dpT (d+1) t.ps sx=.no 111 t.ps:=by unfold dpT;rw[if_pos (by have:=HDK.out;omega)]
           refine⟨HU15.out.of (by show(dpT (d+1) t.ps sx).st=((elsS (sK 0) sx).bind (fun l s4=>Rs.ok (ifS s.hd.ps veb vsa l) s4)).st;rw[e1,e2];rfl),fun b s' e=>?_⟩;change (elsS (sK 0) sx).bind (fun l s4=>Rs.ok (ifS s.hd.ps veb vsa l) s4)=_ at e;rw[e1]at e;cases e
         clear HU15 E12 HB HT;have SK:=Hj S15.out.sk;have NBk:=Hj S15.out.nb
         go_wp2_with (first
          | refine ld_stm ⟨2,s.hd.ps,[],⟨none,0,0⟩,0,0,sa,⟨none,0,0⟩⟩ eb.h xb SK.out rfl _ rfl rfl ?_
          | refine st_stm ⟨2,s.hd.ps,[],⟨none,0,0⟩,0,0,sa,⟨none,0,0⟩⟩ eb.h w.heap.size _ NBk.out rfl rfl _ _ rfl rfl rfl ?_)
         refine bodyPost_ret (rs_stm rfl _ _ w.heap.size ⟨2,s.hd.ps,[],⟨none,0,0⟩,0,0,sa,⟨none,0,0⟩⟩ eb.h rfl (NBk.out.rowS _)) rfl ?_;exact S15.out.ret (sh_ok (by decide) (by decide) HS.out.ps0 HS.out.ps1 (by decide) (by decide) (by decide) (by decide) (Nat.zero_le _) S15.out.ix.1 S15.out.th.1 S15.out.el.1) FI.out.1 FI.out.2 _
        | true=>
         obtain⟨a,sx,rfl⟩:∃a s,r=.ok a s:=by
          cases r with
          | no c p=>cases hok
          | ok a s=>exact⟨a,s,rfl⟩
         have hle:¬24<d+1:=fun x=>by
          have h2:(dpT (d+1) t.ps sx).isOk=true:=hok;unfold dpT at h2;rw[if_pos x]at h2;cases h2
         obtain⟨k,rfl⟩:∃k',k=k'+1:=⟨k - 1,by have:=HDK.out;omega⟩;have h1:sx.hd.tx=ifW:=(res_eq (HB.out a sx rfl)).1 rfl;have e2:dpT (d+1) t.ps sx=.ok () sx:=by unfold dpT;rw[if_neg hle]
         have HU16:Hid (U R (.ok () sx:Rs Unit) w15):=by
          have h2:U R (dpT (d+1) t.ps sx) w15:=HU15.out;rw[e2]at h2;exact h2
         have E15:Hid (Z=(Rs.ok () sx:Rs Unit).bind fun _ sx=>(stK k sx).bind fun x s'=>.ok (ifS s.hd.ps veb vsa [x]) s'):=by
          show Z=_;rw[E12.out];show(elsS (sK (k+1)) sx).bind _=_;unfold elsS;rw[if_pos h1];show((stK k sx).bind _).bind _=(stK k sx).bind _;rw[bind_bind];rfl
         have HD1:Hid (d+1+k=24):=by have:=HDK.out.1;show d+1+(k:Int)=24;omega
         have RSk:=Hj (HSK.out k rfl);clear hok hle h1 e2 HU15 E12 HB HT HSK HBK;go_wp2_with fail;refine(RSk.out sx w15 (d+1) HD1.out HU16.out).mono ?_;rintro q w16 ⟨ba,rfl,xe,he,hu,hf⟩;obtain⟨vba,eqv,hv⟩:=ps_val he;have HEba:=Hj eqv;clear HU16;have HU16:=Hj hu;have Xa:=Hj (xe.imp (D':=fun k=>xb<k) (fun k _ (q:w15.heap.size≤k)=>Nat.lt_of_lt_of_le S15.out.sk.lt q));have S16:=Hj (S15.out.fx hf)
         have E16:Hid (Z=(stK k sx).bind fun _ s'=>.ok (ifS s.hd.ps veb vsa [vba]) s'):=by
          show Z=_;rw[E15.out];exact known hv
         clear hu hf S15 E15 xe he hv eqv
         go_upto_region 37 with(refine bs_st ba.h ba.e.h rfl _ rfl rfl ?_;intro db w17 hdb ZB BA;have mm:w17.cell? ⟨xb,14,none⟩=some (.slice none 0 0):=(S16.out.bel BA.out).sk.cell 14;have zz:w17.frozen? ⟨xb,14,none⟩=false:=(S16.out.bel BA.out).sk.frozen 14)
         change Code.wp _ _ _ _ (w17.setCell ⟨xb,14,none⟩ (.slice (some ⟨db,0,none⟩) 1 1));have DX:xb<db:=by rw[hdb.out];exact S16.out.sk.lt
         have HU17:=Hj (HU16.out.below BA.out);have S17:=Hj (S16.out.bel BA.out);have HU18:=Hj (HU17.out.wr (wr1_set w17 xb 14 (.slice (some ⟨db,0,none⟩) 1 1)) S17.out.rx);have S18:=Hj (S17.out.set (H':=⟨2,s.hd.ps,[],⟨none,0,0⟩,0,0,sa,⟨some ⟨db,0,none⟩,1,1⟩⟩) 14 (.slice (some ⟨db,0,none⟩) 1 1) rfl S17.out.ix S17.out.th (one_xb (D:=fun k=>xb<k) (Xa.out.bel BA.out) DX ZB.out));clear mm zz HU16 S16 HU17 S17 DX ZB BA hdb Xa;generalize w17.setCell ⟨xb,14,none⟩ (.slice (some ⟨db,0,none⟩) 1 1)=w18 at *;have E17:=E16;clear E16;have E18:=E17;clear E17;have FI:=Hj (HU18.out.finE E18.out (P:=fun a=>(St.mk ⟨2,s.hd.ps,[],⟨none,0,0⟩,0,0,sa,⟨some ⟨db,0,none⟩,1,1⟩⟩ (fun _=>.no) eb ka (fun _=>ba)).eqv a) (if_eqv HEeb.out HEsa.out (seq_one HEba.out)));clear HU18 E18;have SK:=Hj S18.out.sk;have NBk:=Hj S18.out.nb
         go_wp2_with (first
          | refine ld_stm ⟨2,s.hd.ps,[],⟨none,0,0⟩,0,0,sa,⟨some ⟨db,0,none⟩,1,1⟩⟩ eb.h xb SK.out rfl _ rfl rfl ?_
          | refine st_stm ⟨2,s.hd.ps,[],⟨none,0,0⟩,0,0,sa,⟨some ⟨db,0,none⟩,1,1⟩⟩ eb.h w.heap.size _ NBk.out rfl rfl _ _ rfl rfl rfl ?_)
         refine bodyPost_ret (rs_stm rfl _ _ w.heap.size ⟨2,s.hd.ps,[],⟨none,0,0⟩,0,0,sa,⟨some ⟨db,0,none⟩,1,1⟩⟩ eb.h rfl (NBk.out.rowS _)) rfl ?_;exact S18.out.ret (sh_ok (by decide) (by decide) HS.out.ps0 HS.out.ps1 (by decide) (by decide) (by decide) (by decide) (Nat.zero_le _) S18.out.ix.1 S18.out.th.1 S18.out.el.1) FI.out.1 FI.out.2 _
       | false=>
        have E13:=Hj (stepN E12.out HB.out (K0:=fun sx=>(blk (sK k) sx).bind fun l s4=>.ok (ifS s.hd.ps veb vsa l) s4) fun sx h1=>by unfold elsS;rw[if_neg (show ¬sx.hd.tx=ifW from h1)]);clear E12 HB;go_wp2_with fail;refine(HBK.out _ _ w13 d HDK.out.1 HU13.out).mono ?_;rintro q w14 ⟨sb,kb,rfl,xe,he,hu,hf⟩;obtain⟨vsb,eqv,hv⟩:=pb_val he;have HEsb:=Hj eqv;have HU14:=Hj hu;have Xsb:=Hj (xe.imp (D':=fun k=>xb<k) (fun k _ (q:w13.heap.size≤k)=>Nat.lt_of_lt_of_le S13.out.sk.lt q));have S14:=Hj (S13.out.fx hf);have E14:=Hj (stepE E13.out hv);clear hu hf HU13 S13 E13 xe he hv eqv;unfold Sl.val;have mm:w14.cell? ⟨xb,14,none⟩=some (.slice none 0 0):=S14.out.sk.cell 14;have zz:w14.frozen? ⟨xb,14,none⟩=false:=S14.out.sk.frozen 14;have HU15:=Hj (HU14.out.wr (wr1_set w14 xb 14 (.slice sb.ao sb.n sb.c)) S14.out.rx);have S15:=Hj (S14.out.set (H':=⟨2,s.hd.ps,[],⟨none,0,0⟩,0,0,sa,sb⟩) 14 (.slice sb.ao sb.n sb.c) rfl S14.out.ix S14.out.th Xsb.out);go_upto_region 37 with fail;change Code.wp _ _ _ _ (w14.setCell ⟨xb,14,none⟩ (.slice sb.ao sb.n sb.c));clear mm zz HU14 S14 Xsb;generalize w14.setCell ⟨xb,14,none⟩ (.slice sb.ao sb.n sb.c)=w15 at *;have E15:=E14;clear E14
        have FI:=Hj (HU15.out.finE E15.out (P:=fun a=>(St.mk ⟨2,s.hd.ps,[],⟨none,0,0⟩,0,0,sa,sb⟩ (fun _=>.no) eb ka kb).eqv a) (if_eqv HEeb.out HEsa.out HEsb.out));clear HU15 E15;have SK:=Hj S15.out.sk;have NBk:=Hj S15.out.nb
        go_wp2_with (first
         | refine ld_stm ⟨2,s.hd.ps,[],⟨none,0,0⟩,0,0,sa,sb⟩ eb.h xb SK.out rfl _ rfl rfl ?_
         | refine st_stm ⟨2,s.hd.ps,[],⟨none,0,0⟩,0,0,sa,sb⟩ eb.h w.heap.size _ NBk.out rfl rfl _ _ rfl rfl rfl ?_)
        refine bodyPost_ret (rs_stm rfl _ _ w.heap.size ⟨2,s.hd.ps,[],⟨none,0,0⟩,0,0,sa,sb⟩ eb.h rfl (NBk.out.rowS _)) rfl ?_;exact S15.out.ret (sh_ok (by decide) (by decide) HS.out.ps0 HS.out.ps1 (by decide) (by decide) (by decide) (by decide) (Nat.zero_le _) S15.out.ix.1 S15.out.th.1 S15.out.el.1) FI.out.1 FI.out.2 _
      | false=>
       have E12:=Hj (stepN E11.out HB.out (K0:=fun sx=>.ok (ifS s.hd.ps veb vsa []) sx) fun sx h1=>by exact if_neg h1);clear E11;have HU13:=Hj (U.took HU12.out HB.out);have S13:=S12;have E13:=E12;clear HB HU12 S12 E12;generalize w12=w13 at *;have FI:=Hj (HU13.out.finE E13.out (P:=fun a=>(St.mk ⟨2,s.hd.ps,[],⟨none,0,0⟩,0,0,sa,⟨none,0,0⟩⟩ (fun _=>.no) eb ka (fun _=>.no)).eqv a) (if_eqv HEeb.out HEsa.out seq_nil));clear HU13 E13;have SK:=Hj S13.out.sk;have NBk:=Hj S13.out.nb
       go_wp2_with (first
        | refine ld_stm ⟨2,s.hd.ps,[],⟨none,0,0⟩,0,0,sa,⟨none,0,0⟩⟩ eb.h xb SK.out rfl _ rfl rfl ?_
        | refine st_stm ⟨2,s.hd.ps,[],⟨none,0,0⟩,0,0,sa,⟨none,0,0⟩⟩ eb.h w.heap.size _ NBk.out rfl rfl _ _ rfl rfl rfl ?_)
       refine bodyPost_ret (rs_stm rfl _ _ w.heap.size ⟨2,s.hd.ps,[],⟨none,0,0⟩,0,0,sa,⟨none,0,0⟩⟩ eb.h rfl (NBk.out.rowS _)) rfl ?_;exact S13.out.ret (sh_ok (by decide) (by decide) HS.out.ps0 HS.out.ps1 (by decide) (by decide) (by decide) (by decide) (Nat.zero_le _) S13.out.ix.1 S13.out.th.1 S13.out.el.1) FI.out.1 FI.out.2 _
     ·have c3:s.hd.tx=forW:=by
       rcases HB.out.1 rfl with h|h|h
       ·exact absurd h c1
       ·exact absurd h c2
       ·exact h
      have E6:Hid (Z=(Rs.ok () s1:Rs Unit).bind fun _ sx=>(kindT 1 sx).bind fun n s2=>(expT [61] s2).bind fun _ s3=>(whl s3).bind fun lo s4=>(expT [46,46] s4).bind fun _ s5=>(whl s5).bind fun hi s6=>(blk (sK k) s6).bind fun t s7=>.ok (foS s.hd.ps n.tx lo hi t) s7):=by
       show Z=_;rw[←E0.out,if_neg c2,if_pos c3];rfl
      have b2:(s.hd.tx == [105,102])=false:=beq_no c2;clear E0 c1 c2 c3 HB;have HU7:=Hj (HU6.out.wr (wr1_set w6 xb 0 (.int .u8 3)) S6.out.rx);have S7:=Hj (S6.out.set (H':=⟨3,s.hd.ps,[],⟨none,0,0⟩,0,0,⟨none,0,0⟩,⟨none,0,0⟩⟩) 0 (.int .u8 3) rfl S6.out.ix S6.out.th S6.out.el);go_upto_region 13 with fail;change Code.wp _ _ _ _ (w6.setCell ⟨xb,0,none⟩ (.int .u8 3));clear q0 q2 m6 z6 HU6 S6;generalize w6.setCell ⟨xb,0,none⟩ (.int .u8 3)=w7 at *;have E7:=E6;clear E6;clear b1 b2;go_wp2_with fail;refine(rrkind_any R _ 1 (by decide) w7 HU7.out).mono ?_;rintro q w8 ⟨t2,rfl,htd,ht,hu,hf⟩;have HU8:=Hj hu;have S8:=Hj (S7.out.fx hf);have E8:=Hj (stepE E7.out ht);have HTN:=Hj htd;clear hu hf HU7 S7 E7 htd ht;have mm:w8.cell? ⟨xb,2,none⟩=some (.string ⟨#[]⟩):=S8.out.sk.cell 2;have zz:w8.frozen? ⟨xb,2,none⟩=false:=S8.out.sk.frozen 2;have HU9:=Hj (HU8.out.wr (wr1_set w8 xb 2 (.string ⟨t2.tx.toArray⟩)) S8.out.rx);have S9:=Hj (S8.out.set (H':=⟨3,s.hd.ps,t2.tx,⟨none,0,0⟩,0,0,⟨none,0,0⟩,⟨none,0,0⟩⟩) 2 (.string ⟨t2.tx.toArray⟩) rfl S8.out.ix S8.out.th S8.out.el);go_upto_region 14 with fail;change Code.wp _ _ _ _ (w8.setCell ⟨xb,2,none⟩ (.string ⟨t2.tx.toArray⟩));clear mm zz HU8 S8
      generalize w8.setCell ⟨xb,2,none⟩ (.string ⟨t2.tx.toArray⟩)=w9 at *;have E9:=E8;clear E8;go_wp2_with fail;refine(rrmust_any R _ [61] (by decide) w9 HU9.out).mono ?_;rintro q w10 ⟨rfl,hu,hf⟩;have HU10:=Hj hu;have S10:=Hj (S9.out.fx hf);have E10:=Hj (stepU E9.out);clear hu hf HU9 S9 E9;go_wp2_with fail;refine(rrsigned_any R _ w10 HU10.out).mono ?_;rintro q w11 ⟨lo,rfl,h0,h1,hv,hu,hf⟩;have HU11:=Hj hu;have S11:=Hj (S10.out.fx hf);have E11:=Hj (stepE E10.out hv);have HLO:=Hj (And.intro h0 h1);clear hu hf HU10 S10 E10 h0 h1 hv;have mm:w11.cell? ⟨xb,11,none⟩=some (.int .i32 0):=S11.out.sk.cell 11;have zz:w11.frozen? ⟨xb,11,none⟩=false:=S11.out.sk.frozen 11;have HU12:=Hj (HU11.out.wr (wr1_set w11 xb 11 (.int .i32 lo)) S11.out.rx);have S12:=Hj (S11.out.set (H':=⟨3,s.hd.ps,t2.tx,⟨none,0,0⟩,lo,0,⟨none,0,0⟩,⟨none,0,0⟩⟩) 11 (.int .i32 lo) rfl S11.out.ix S11.out.th S11.out.el);go_upto_region 16 with fail;change Code.wp _ _ _ _ (w11.setCell ⟨xb,11,none⟩ (.int .i32 lo));clear mm zz HU11 S11;generalize w11.setCell ⟨xb,11,none⟩ (.int .i32 lo)=w12 at *;have E12:=E11;clear E11;go_wp2_with fail;refine(rrmust_any R _ [46,46] (by decide) w12 HU12.out).mono ?_;rintro q w13 ⟨rfl,hu,hf⟩;have HU13:=Hj hu;have S13:=Hj (S12.out.fx hf)
      have E13:=Hj (stepU E12.out);clear hu hf HU12 S12 E12;go_wp2_with fail;refine(rrsigned_any R _ w13 HU13.out).mono ?_;rintro q w14 ⟨hi,rfl,h0,h1,hv,hu,hf⟩;have HU14:=Hj hu;have S14:=Hj (S13.out.fx hf);have E14:=Hj (stepE E13.out hv);have HHI:=Hj (And.intro h0 h1);clear hu hf HU13 S13 E13 h0 h1 hv;have mm:w14.cell? ⟨xb,12,none⟩=some (.int .i32 0):=S14.out.sk.cell 12;have zz:w14.frozen? ⟨xb,12,none⟩=false:=S14.out.sk.frozen 12;have HU15:=Hj (HU14.out.wr (wr1_set w14 xb 12 (.int .i32 hi)) S14.out.rx);have S15:=Hj (S14.out.set (H':=⟨3,s.hd.ps,t2.tx,⟨none,0,0⟩,lo,hi,⟨none,0,0⟩,⟨none,0,0⟩⟩) 12 (.int .i32 hi) rfl S14.out.ix S14.out.th S14.out.el);go_upto_region 18 with fail;change Code.wp _ _ _ _ (w14.setCell ⟨xb,12,none⟩ (.int .i32 hi));clear mm zz HU14 S14;generalize w14.setCell ⟨xb,12,none⟩ (.int .i32 hi)=w15 at *;have E15:=E14;clear E14;go_wp2_with fail;refine(HBK.out _ _ w15 d HDK.out.1 HU15.out).mono ?_;rintro q w16 ⟨sa,ka,rfl,xe,he,hu,hf⟩;obtain⟨vsa,eqv,hv⟩:=pb_val he;have HEsa:=Hj eqv;have HU16:=Hj hu;have Xsa:=Hj (xe.imp (D':=fun k=>xb<k) (fun k _ (q:w15.heap.size≤k)=>Nat.lt_of_lt_of_le S15.out.sk.lt q));have S16:=Hj (S15.out.fx hf);have E16:=Hj (stepE E15.out hv);clear hu hf HU15 S15 E15 xe he hv eqv
      unfold Sl.val;have mm:w16.cell? ⟨xb,13,none⟩=some (.slice none 0 0):=S16.out.sk.cell 13;have zz:w16.frozen? ⟨xb,13,none⟩=false:=S16.out.sk.frozen 13;have HU17:=Hj (HU16.out.wr (wr1_set w16 xb 13 (.slice sa.ao sa.n sa.c)) S16.out.rx);have S17:=Hj (S16.out.set (H':=⟨3,s.hd.ps,t2.tx,⟨none,0,0⟩,lo,hi,sa,⟨none,0,0⟩⟩) 13 (.slice sa.ao sa.n sa.c) rfl S16.out.ix Xsa.out S16.out.el);go_upto_region 37 with fail;change Code.wp _ _ _ _ (w16.setCell ⟨xb,13,none⟩ (.slice sa.ao sa.n sa.c));clear mm zz HU16 S16 Xsa;generalize w16.setCell ⟨xb,13,none⟩ (.slice sa.ao sa.n sa.c)=w17 at *;have E17:=E16;clear E16;have FI:=Hj (HU17.out.finE E17.out (P:=fun a=>(St.mk ⟨3,s.hd.ps,t2.tx,⟨none,0,0⟩,lo,hi,sa,⟨none,0,0⟩⟩ (fun _=>.no) Ex.no ka (fun _=>.no)).eqv a) (fo_eqv HEsa.out));clear HU17 E17;have SK:=Hj S17.out.sk;have NBk:=Hj S17.out.nb
      go_wp2_with (first
       | refine ld_stm ⟨3,s.hd.ps,t2.tx,⟨none,0,0⟩,lo,hi,sa,⟨none,0,0⟩⟩ Ex.no.h xb SK.out rfl _ rfl rfl ?_
       | refine st_stm ⟨3,s.hd.ps,t2.tx,⟨none,0,0⟩,lo,hi,sa,⟨none,0,0⟩⟩ Ex.no.h w.heap.size _ NBk.out rfl rfl _ _ rfl rfl rfl ?_)
      refine bodyPost_ret (rs_stm rfl _ _ w.heap.size ⟨3,s.hd.ps,t2.tx,⟨none,0,0⟩,lo,hi,sa,⟨none,0,0⟩⟩ Ex.no.h rfl (NBk.out.rowS _)) rfl ?_;exact S17.out.ret (sh_ok (by decide) (by decide) HS.out.ps0 HS.out.ps1 HLO.out.1 HLO.out.2 HHI.out.1 HHI.out.2 HTN.out.len S17.out.ix.1 S17.out.th.1 S17.out.el.1) FI.out.1 FI.out.2 _
theorem rrst_any (R:Nat):∀k,k≤24→RB R k∧RS R k
 | 0,h=>by
  have hb:=rrblock_of R 0 h (fun k' e=>by cases e);exact⟨hb,rrstmt_of R 0 h hb (fun k' e=>by cases e)⟩
 | k+1,h=>by
  have ih:=rrst_any R k (Nat.le_of_succ_le h);have hb:=rrblock_of R (k+1) h (fun k' e=>by cases e;exact ih.2);exact⟨hb,rrstmt_of R (k+1) h hb (fun k' e=>by cases e;exact ih.2)⟩
theorem Wr1.bel {g:Nat}{w w1 w2:World}(W:Wr1 g w1 w2)(h:Below w.heap.size w w1)(hg:w.heap.size≤g):Below w.heap.size w w2:=
 h.trans ((W.1.mono h.size (fun _ _ x=>x)).bel (fun k hk (x:k=g)=>by omega))
structure TF (R:Nat) (w:World) (t:Int) (d i s:Sl) (kd:Nat→De) (ki ks:Nat→St) (w':World):Prop where
 nr:w.heap.size<R
 nb:Blk w' w.heap.size 30 (prvs 0 ⟨none,0,0⟩ ⟨none,0,0⟩ ⟨none,0,0⟩).toArray
 pk:Blk w' (R+1) 30 (prvs t d i s).toArray
 ds:XDs (fun k=>R+1<k) d kd w'
 is:XB (fun k=>R+1<k) i ki w'
 ss:XB (fun k=>R+1<k) s ks w'
 hb:Below w.heap.size w w'
structure LF (R:Nat) (w:World) (t:Int) (v:Value) (n:Nat) (kd:Nat→De) (w':World):Prop where
 nr:w.heap.size<R
 nb:Blk w' w.heap.size 30 (prvs 0 ⟨none,0,0⟩ ⟨none,0,0⟩ ⟨none,0,0⟩).toArray
 pk:Blk w' (R+1) 30 #[.int .i64 t,v,.slice none 0 0,.slice none 0 0]
 own:w'.ownsRow (R+2) 56 20 v n (rowD kd n)
 xs:∀i,i<n→XDe (Dr (R+2) v) (kd i) w'
 hb:Below w.heap.size w w'
section
variable {R n:Nat} {w w1 w2 w3:World} {t t':Int} {v v':Value} {d i s d' i' s':Sl} {kd kd':Nat→De} {ki ks ki' ks':Nat→St}
theorem TF.fx (h:TF R w t d i s kd ki ks w1)(hf:Fx (On R) w1.heap.size w1 w2):TF R w t d i s kd ki ks w2:=by
 have q:¬(fun k=>R+1<k) R:=fun(x:R+1<R)=>by omega
 exact⟨h.nr,hf.blk h.nb h.nb.lt (fun(x:w.heap.size=R)=>by have:=h.nr;omega),hf.blk h.pk h.pk.lt (on_ne (Nat.lt_succ_self R)),h.ds.fx hf (on_not q),h.is.fx hf (on_not q),h.ss.fx hf (on_not q),fx_bel_of h.hb hf (fun k hk (x:k=R)=>by have:=h.nr;omega)⟩
theorem TF.set (h:TF R w t d i s kd ki ks w1)(j:Nat)(v:Value)(q:((prvs t d i s).toArray).setIfInBounds j v=(prvs t' d' i' s').toArray)(hd:XDs (fun k=>R+1<k) d' kd' w1)(hi:XB (fun k=>R+1<k) i' ki' w1)(hs:XB (fun k=>R+1<k) s' ks' w1):TF R w t' d' i' s' kd' ki' ks' (w1.setCell ⟨R+1,j,none⟩ v):=by
 have W:=wr1_set w1 (R+1) j v;exact⟨h.nr,W.blk h.nb (by have:=h.nr;omega),by rw[←q];exact h.pk.set_ j v,hd.fx W.1 (on_not (Nat.lt_irrefl _)),hi.fx W.1 (on_not (Nat.lt_irrefl _)),hs.fx W.1 (on_not (Nat.lt_irrefl _)),W.bel h.hb (by have:=h.nr;omega)⟩
theorem LF.fx (h:LF R w t v n kd w1)(hf:Fx (On R) w1.heap.size w1 w2):LF R w t v n kd w2:=
 ⟨h.nr,hf.blk h.nb h.nb.lt (fun(x:w.heap.size=R)=>by have:=h.nr;omega),hf.blk h.pk h.pk.lt (on_ne (Nat.lt_succ_self R)),own_fx h.own hf (fun k hk (x:k=R)=>by omega),fun i hi=>(h.xs i hi).fx hf (on_not (fun x=>by have:=x.1;omega)),fx_bel_of h.hb hf (fun k hk (x:k=R)=>by have:=h.nr;omega)⟩
theorem LF.bel (h:LF R w t v n kd w1)(hb:Below w1.heap.size w1 w2):LF R w t v n kd w2:=h.fx (Fx.of hb)
theorem TF.row (h:TF R w t ⟨none,0,0⟩ ⟨none,0,0⟩ ⟨none,0,0⟩ kd ki ks w1):LF R w t (.slice none 0 0) 0 (fun _=>zeroD) w1:=
 ⟨h.nr,h.nb,h.pk,⟨rfl,.inl ⟨rfl,rfl⟩⟩,fun i hi=>absurd hi (Nat.not_lt_zero i),h.hb⟩
theorem LF.fin (h:LF R w t v n kd w1):∃S:Sl,S.n=n∧TF R w t S ⟨none,0,0⟩ ⟨none,0,0⟩ kd (fun _=>.no) (fun _=>.no) w1:=by
 obtain⟨S,rfl,h2,h3⟩:=own_xds h.own h.xs;exact⟨S,h2,⟨h.nr,h.nb,h.pk,h3,xb_no,xb_no,h.hb⟩⟩
theorem LF.add {g:Nat}{b:De}(h:LF R w t v n kd w1)(hx:XDe (Fro g) b w2)(hg:w1.heap.size≤g)(h2:LF R w t v n kd w2)(own:w3.ownsRow (R+2) 56 20 v' (n+1) (rowD kd n++b.vs))(gr:w2.grownBy w3 v.ownBlock)(mv:RowAt w2 v v'):LF R w t v' (n+1) (fun i=>if i<n then kd i else b) (w3.setCell ⟨R+1,1,none⟩ v'):=by
 have hsz:=h.pk.lt;have nb3:=app_blk gr h2.own h2.nb (by have:=h.nr;omega);have pk3:=app_blk gr h2.own h2.pk (Nat.lt_succ_self _);have x3:=moreD_x (fun i hi=>app_xde gr mv (h2.xs i hi)) (app_xde gr mv (hx.imp (D':=Dr (R+2) v) (fun k _ (x:g≤k)=>⟨by omega,fun e=>Nat.lt_irrefl _ (Nat.lt_of_lt_of_le (own_block h.own e).2 (Nat.le_trans hg x))⟩)));have f3:=gr_fx gr;have hb3:Below w.heap.size w w3:=h2.hb.trans ((f3.mono h2.hb.size (fun _ _ x=>x)).bel (fun k hk e=>by have:=(own_block h2.own e).1;have:=h.nr;omega));have W:=wr1_set w3 (R+1) 1 v';exact⟨h.nr,W.blk nb3 (by have:=h.nr;omega),pk3.set_ 1 v',ownsRow_setCell_below (moreD_row own) (a:=⟨R+1,1,none⟩) (Nat.lt_succ_self _) v',fun i hi=>(x3 i hi).fx W.1 (on_not (fun x=>by have:=x.1;omega)),W.bel hb3 (by have:=h.nr;omega)⟩
end
theorem U.grown {α:Type}{R B n z:Nat}{r:Rs α}{w w':World}{t:TypeId}{v:Value}{xs:List Value}(h:U R r w)(gr:w.grownBy w' v.ownBlock)(own:w.ownsRow B t z v n xs)(hR:R<B):U R r w':=h.fx (gr_fx gr) h.lt (fun q hq e=>by have:=(own_block own e).1;omega)
theorem De.eqv_refl (d:De):d.eqv d:=⟨⟨rfl,rfl,rfl,rfl,rfl,rfl⟩,Ex.eqv_refl _,Ex.eqv_refl _⟩
theorem pd_val {α:Type}{r:Rs α}{S:Sl}{K:Nat→De}{l:List De}(he:∀a s,r=.ok a s→SeqD S K l):∃v,SeqD S K v∧∀a s,r=.ok a s→v=l:=by
 cases r with
 | no c p=>
  refine⟨(List.range S.n).map K,⟨by simp,fun i hi=>?_⟩,fun a s e=>by cases e⟩;have:((List.range S.n).map K).getD i zeroD=K i:=by rw[List.getD_eq_getElem?_getD];simp[hi]
  rw[this];exact De.eqv_refl _
 | ok a s=>exact⟨l,he a s rfl,fun _ _ _=>rfl⟩
theorem wp_bs_de {o:Oper}{a:Act}{w:World}{K:Act→World→Prop}{Q:Exit→Act→World→Prop}(d:De)(x:Operand)(ho:o.op=.buildSlice 27 1 #[(0,x)])(hx:a.eval x=d.v)
  (hw:∀g w',Hid (g=w.heap.size)→Hid (Blk w' g 56 d.vs.toArray)→Hid (Below w.heap.size w w')→K (a.put o.dst (.slice (some ⟨g,0,none⟩) 1 1)) w'):o.wp Tryz.prog a w K Q:=by
 have hf:=decl_slice d;unfold Program.builtSlice at hf
 cases hie:Tryz.prog.info? 56 with
 | none=>simp[hie]at hf
 | some ie=>
  simp only[hie]at hf
  cases hz:ie.zero with
  | none=>simp[hz]at hf
  | some z=>
   simp only[hz]at hf
   by_cases hc:1*ie.size > 2 ^ 24∨1*ie.size=0
   ·rw[if_pos hc]at hf
    cases hf
   ·rw[if_neg hc]at hf
    have e1:((#[(0,x)]:Array (Nat×Operand)).map fun(i,x)=>(i,a.eval x)).toList=[(0,d.v)]:=by simp[hx]
    exact Go.wp_buildSlice 27 56 1 #[(0,x)] ho d.vs.toArray ie z Tryz.underlying27 hie hz (fun h'=>hc (Or.inl h')) (fun h'=>hc (Or.inr h')) (by rw[e1];exact hf) (hw _ _ rfl (Blk.new w _ _) (bel_one w _))
def BD (r:Rs Unit)(b:Bool):Prop:=(b=true→∃s,r=.ok () s∧(s.hd.tx=inpW∨s.hd.tx=varW))∧(b=false→∀s,r=.ok () s→¬(s.hd.tx=inpW∨s.hd.tx=varW))
end Go.Proofs.YthmlhkllbichgaaGreatDoor
