/-
  Layer 12's checks answer true, whatever program is handed in. (part 19 of 35) Conditions: none beside what the card ties.
-/
import Derived.Test.YtkbicfffokegeaaGreatDoorUar
import Derived.Test.YtkbicfffokegeaaGreatDoorUai
namespace Go.Proofs.YtkbicfffokegeaaGreatDoor
set_option maxHeartbeats 16000000
open Go.RowKit
set_option maxRecDepth 100000
theorem ppinteger_any (R d:Nat)(m:Bool)(s:PS)(w:World)(h:Rdr R d s w):Calls Tryz.prog 150 #[.pointer (some ⟨R,0,none⟩),.bool m] w (PO R d w (intT m s) fun n v _=>v=.int .i32 n):=by
 have fn:=fun t w=>tkv_nn t w;have HR:=Hj h;have hn0:0≤s.hd.nn:=h.good.hd.nn0;have hn1:s.hd.nn≤2147483647:=h.good.hd.nn1;have HNN:=Hj (And.intro hn0 hn1);clear h hn0 hn1;generalize hZ:intT m s=Z;have HZ:=Hj hZ;clear hZ;go_enter Tryz.func150,Tryz.ntmps150;go_wp2_with fail;refine(pptakeKind_any R d s 2 (by decide) w HR.out).mono ?_;intro r w1 hpo
 cases hres:kindT 2 s with
 | no c q=>
  rw[hres]at hpo;obtain⟨rfl,f1⟩:=hpo;have HF1:=Hj f1;have E:Hid (Z=.no c q):=by show Z=_;rw[←HZ.out];unfold intT;rw[hres];rfl
  clear f1 hres;go_wp2_with fail;refine⟨rfl,?_⟩;rw[E.out];exact⟨rfl,HF1.out⟩
 | ok t s1=>
  rw[hres]at hpo;obtain⟨v,rfl,rfl,h1,f1⟩:=hpo
  have ht:t=s.hd:=by
   unfold kindT at hres
   split at hres
   ·cases hres;rfl
   ·cases hres
  have E:Hid (Z=.ok (if m then -t.nn else t.nn) s1):=by show Z=_;rw[←HZ.out];unfold intT;rw[hres];rfl
  subst ht;have HF1:=Hj f1;have HR1:=Hj h1;have hn:=HNN.out;have ov:wrap32 (-s.hd.nn) = -s.hd.nn:=by unfold wrap32;omega
  clear f1 hres h1
  cases m with
  | true=>
   go_wp2_with fail;refine bodyPost_ret (results_tmp rfl _ _ _) rfl ?_;rw[E.out];exact⟨_,rfl,by simp[*],HR1.out,HF1.out⟩
  | false=>
   go_wp2_with fail;refine bodyPost_ret (results_tmp rfl _ _ _) rfl ?_;rw[E.out];exact⟨_,rfl,rfl,HR1.out,HF1.out⟩
theorem pptypeName_any (R d:Nat)(s:PS)(w:World)(h:Rdr R d s w):Calls Tryz.prog 121 #[.pointer (some ⟨R,0,none⟩)] w (PO R d w (typN s) fun n v _=>v=.int .u8 n):=by
 have HR:=Hj h;have A:=Hj (ppaccept_any R d s [98,111,111,108] (by decide) w h);clear h
 by_cases c1:s.hd.tx=[98,111,111,108]
 ·have e1:typN s=.ok 1 s.tk:=if_pos c1
  have e2:acS s [98,111,111,108]=s.tk:=if_pos c1;rw[e1];rw[beq_yes c1,e2]at A;clear e1 e2 c1;go_enter Tryz.func121,Tryz.ntmps121;go_wp2_with fail;refine A.out.mono ?_;rintro r w1 ⟨rfl,h1,f1⟩;have HR1:=Hj h1;have HF1:=Hj f1;clear h1 f1 A;go_wp2_with fail;exact bodyPost_ret (results_tmp rfl _ _ _) rfl ⟨_,rfl,rfl,HR1.out,HF1.out⟩
 ·have e2:acS s [98,111,111,108]=s:=if_neg c1
  rw[beq_no c1,e2]at A
  by_cases c2:s.hd.tx=[105,110,116]
  ·have e1:typN s=.ok 2 s.tk:=by unfold typN;rw[if_neg c1,if_pos c2]
   rw[e1];have B:=Hj fun w h=>ppaccept_any R d s [105,110,116] (by decide) w h;have e3:acS s [105,110,116]=s.tk:=if_pos c2;rw[beq_yes c2,e3]at B;clear e1 e2 e3 c1 c2;go_enter Tryz.func121,Tryz.ntmps121;go_wp2_with fail;refine A.out.mono ?_;rintro r w1 ⟨rfl,h1,f1⟩;have HR1:=Hj h1;have HF1:=Hj f1;clear h1 f1 A;go_wp2_with fail;refine(B.out w1 HR1.out).mono ?_;rintro r w2 ⟨rfl,h2,f2⟩;have HR2:=Hj h2;have HF2:=Hj (fx_trans HF1.out f2);clear h2 f2 B;go_wp2_with fail;exact bodyPost_ret (results_tmp rfl _ _ _) rfl ⟨_,rfl,rfl,HR2.out,HF2.out⟩
  ·have e1:typN s=(expT [102,108,111,97,116] s).bind fun _ s'=>.ok 3 s':=by unfold typN;rw[if_neg c1,if_neg c2]
   have B:=Hj fun w h=>ppaccept_any R d s [105,110,116] (by decide) w h;have e3:acS s [105,110,116]=s:=if_neg c2;rw[beq_no c2,e3]at B;rw[e1];clear e1 e2 e3 c1 c2;generalize hZ:((expT [102,108,111,97,116] s).bind fun _ s'=>Rs.ok (3:Int) s')=Z;have HZ:=Hj hZ;clear hZ;go_enter Tryz.func121,Tryz.ntmps121;go_wp2_with fail;refine A.out.mono ?_;rintro r w1 ⟨rfl,h1,f1⟩;have HR1:=Hj h1;have HF1:=Hj f1;clear h1 f1 A;go_wp2_with fail;refine(B.out w1 HR1.out).mono ?_;rintro r w2 ⟨rfl,h2,f2⟩;have HR2:=Hj h2;have HF2:=Hj (fx_trans HF1.out f2);clear h2 f2 B;go_wp2_with fail;refine(ppexpect_any R d s [102,108,111,97,116] (by decide) w2 HR2.out).mono ?_;intro r w3 hpo
   cases hres:expT [102,108,111,97,116] s with
   | no c q=>
    rw[hres]at hpo;obtain⟨rfl,f3⟩:=hpo;have HF3:=Hj (fx_trans HF2.out f3);have E:Hid (Z=.no c q):=by show Z=_;rw[←HZ.out,hres];rfl
    clear f3 hres;go_wp2_with fail;refine⟨rfl,?_⟩;rw[E.out];exact⟨rfl,HF3.out⟩
   | ok u s3=>
    rw[hres]at hpo;obtain⟨v,rfl,hv,h3,f3⟩:=hpo;unfold V0 at hv;subst hv;have HF3:=Hj (fx_trans HF2.out f3);have HR3:=Hj h3;have E:Hid (Z=.ok 3 s3):=by show Z=_;rw[←HZ.out,hres];rfl
    clear f3 hres h3;go_wp2_with fail;refine bodyPost_ret (results_tmp rfl _ _ _) rfl ?_;rw[E.out];exact⟨_,rfl,rfl,HR3.out,HF3.out⟩
theorem minus_eq (s:PS):minus s=(s.hd.tx == [45],acS s [45]):=by
 unfold minus acS;split
 ·rename_i h;rw[beq_yes h]
 ·rename_i h;rw[beq_no h]
theorem ppwhole_any (R d:Nat)(s:PS)(w:World)(h:Rdr R d s w):Calls Tryz.prog 153 #[.pointer (some ⟨R,0,none⟩)] w (PO R d w (whl s) fun n v _=>v=.int .i32 n):=by
 have A:=Hj (ppaccept_any R d s [45] (by decide) w h);have e1:whl s=intT (s.hd.tx == [45]) (acS s [45]):=by unfold whl;rw[minus_eq]
 rw[e1];clear e1 h;generalize (s.hd.tx == [45])=b at *;generalize acS s [45]=s1 at *;generalize hZ:intT b s1=Z;have HZ:=Hj hZ;clear hZ;go_enter Tryz.func153,Tryz.ntmps153;go_wp2_with fail;refine A.out.mono ?_;rintro r w1 ⟨rfl,h1,f1⟩;have HF1:=Hj f1;have B:=Hj (ppinteger_any R d b s1 w1 h1);rw[HZ.out]at B;clear h1 f1 A;go_wp2_with fail;refine B.out.mono ?_;intro r w2 hpo;clear B
 cases Z with
 | no c q=>
  obtain⟨rfl,f2⟩:=hpo;have HF2:=Hj (fx_trans HF1.out f2);clear f2;go_wp2_with fail;exact⟨rfl,rfl,HF2.out⟩
 | ok n s2=>
  obtain⟨v,rfl,rfl,h2,f2⟩:=hpo;have HF2:=Hj (fx_trans HF1.out f2);have HR2:=Hj h2;clear f2 h2;go_wp2_with fail;exact bodyPost_ret (results_tmp rfl _ _ _) rfl ⟨_,rfl,rfl,HR2.out,HF2.out⟩
theorem acS_good {s:PS}{x:List UInt8}(h:Good s.ts)(hx:x≠[]):Good (acS s x).ts:=by
 unfold acS;split
 ·rename_i e
  exact h.tail' (by rw[←PS.hd,e];exact hx)
 ·exact h
theorem ppnumber_any (R d:Nat):Reads R d 123 numb:=by
 intro s w h;have fk:=fun t w=>tkv_kd t w;have fp:=fun t w=>tkv_ps t w;have ff:=fun t w=>tkv_ff t w;have NB:Hid (Blk (w.alloc zX) w.heap.size 42 zeroH.va):=Blk.new _ _ _;have BL:=bel_one w zX;have HR:=Hj (h.alloc zX);have HLT:=Hj h.lt;have HS:Hid (Hd s.hd):=h.good.hd;have HG1:=Hj (acS_good (x:=[45]) h.good (by decide));have HF:Hid (Fx (On R) w.heap.size w (w.alloc zX)):=Fx.of BL
 have e1:numb s=if(acS s [45]).hd.kd=3 then .ok (flX s.hd.ps (neF (s.hd.tx == [45]) (acS s [45]).hd.ff)) (acS s [45]).tk else(intT (s.hd.tx == [45]) (acS s [45])).bind fun n s'=>.ok (inX s.hd.ps n) s':=by
  unfold numb;rw[minus_eq]
 rw[e1];have A:=Hj fun w h=>ppaccept_any R d s [45] (by decide) w h;clear BL h e1;generalize (s.hd.tx == [45])=b at *;generalize acS s [45]=s1 at *;have HS1:Hid (Hd s1.hd):=HG1.out.hd;generalize hZ:(if s1.hd.kd=3 then Rs.ok (flX s.hd.ps (neF b s1.hd.ff)) s1.tk else(intT b s1).bind fun n s'=>.ok (inX s.hd.ps n) s')=Z;have HZ:=Hj hZ;clear hZ;go_enter Tryz.func123,Tryz.ntmps123;go_upto_region 1 with fail;change (Code.region 1 _ _).wp _ _ _ (w.alloc zX);generalize w.alloc zX=wx at *;go_wp2_with fail;refine(ppnext_any R d s wx HR.out).mono ?_;rintro e w1 ⟨rfl,hb⟩;have NB1:=Hj (NB.out.below hb NB.out.lt);have HR1:=Hj (HR.out.below hb HR.out.lt);have HF1:=Hj (fx_bel HF.out hb);clear NB HR HF hb;go_wp2_with fail;refine(A.out w1 HR1.out).mono ?_;rintro r w2 ⟨rfl,h2,f2⟩;have NB2:=Hj (f2.blk NB1.out NB1.out.lt (on_ne HLT.out));have HF2:=Hj (fx_trans HF1.out f2);have HR2:=Hj h2;clear h2 f2 A NB1 HR1 HF1;go_wp2_with fail;refine(ppnext_any R d s1 w2 HR2.out).mono ?_;rintro e w3 ⟨rfl,hb⟩;have NB3:=Hj (NB2.out.below hb NB2.out.lt);have HR3:=Hj (HR2.out.below hb HR2.out.lt);have HF3:=Hj (fx_bel HF2.out hb);clear NB2 HR2 HF2 hb
 by_cases c:s1.hd.kd=3
 ·have E:Hid (Z=.ok (flX s.hd.ps (neF b s1.hd.ff)) s1.tk):=by show Z=_;rw[←HZ.out,if_pos c]
  have hk:s1.hd.kd≠0:=by omega
  have c2:(s1.hd.kd == 3)=true:=by simp[c]
  have T:=Hj fun w h=>pptake_any R d s1 w h hk;clear c hk HZ;go_wp2_with fail;refine(T.out w3 HR3.out).mono ?_;rintro r w4 ⟨rfl,h4,f4⟩;have NB4:=Hj (f4.blk NB3.out NB3.out.lt (on_ne HLT.out));have HF4:=Hj (fx_trans HF3.out f4);have HR4:=Hj h4;clear h4 f4 T NB3 HR3 HF3;have ok:∀f,0≤f→f<18446744073709551616→XO (Fro w.heap.size) (flX s.hd.ps f) (w4.setRow w.heap.size (EH.va ⟨3,s.hd.ps,false,0,f,[],⟨none,0,0⟩⟩)):=fun f h0 h1=>leaf_in (eh_ok (by decide) (by decide) HS.out.ps0 HS.out.ps1 (by decide) (by decide) h0 h1 (Nat.zero_le _) sl_no) rfl;have OK:=Hj ok;have hf0:=HS1.out.ff0;have hf1:=HS1.out.ff1;have or:=or63 hf0 hf1;have HOR:=Hj (And.intro hf0 hf1);clear ok hf0 hf1
  cases b with
  | true=>
   have nf:neF true s1.hd.ff=s1.hd.ff+9223372036854775808:=by unfold neF;rw[if_pos rfl,if_pos HOR.out.2]
   rw[nf]at E;clear nf
   go_wp2_with (refine st_ex ⟨3,s.hd.ps,false,0,s1.hd.ff+9223372036854775808,[],⟨none,0,0⟩⟩ w.heap.size _ NB4.out rfl rfl _ _ rfl rfl rfl ?_)
   refine bodyPost_ret (rs_ex rfl _ _ w.heap.size ⟨3,s.hd.ps,false,0,s1.hd.ff+9223372036854775808,[],⟨none,0,0⟩⟩ rfl (NB4.out.rowS _)) rfl ?_;rw[E.out];exact⟨_,rfl,⟨flX s.hd.ps (s1.hd.ff+9223372036854775808),rfl,OK.out _ (by have:=HOR.out;omega) (by have:=HOR.out;omega),Ex.eqv_refl _⟩,HR4.out.row HLT.out _,fx_row HF4.out (.inr (Nat.le_refl _)) _⟩
  | false=>
   have nf:neF false s1.hd.ff=s1.hd.ff:=by unfold neF;rw[if_neg (by decide)]
   rw[nf]at E;clear nf or
   go_wp2_with (refine st_ex ⟨3,s.hd.ps,false,0,s1.hd.ff,[],⟨none,0,0⟩⟩ w.heap.size _ NB4.out rfl rfl _ _ rfl rfl rfl ?_)
   refine bodyPost_ret (rs_ex rfl _ _ w.heap.size ⟨3,s.hd.ps,false,0,s1.hd.ff,[],⟨none,0,0⟩⟩ rfl (NB4.out.rowS _)) rfl ?_;rw[E.out];exact⟨_,rfl,⟨flX s.hd.ps s1.hd.ff,rfl,OK.out _ (by have:=HOR.out;omega) (by have:=HOR.out;omega),Ex.eqv_refl _⟩,HR4.out.row HLT.out _,fx_row HF4.out (.inr (Nat.le_refl _)) _⟩
 ·have E:Hid ((intT b s1).bind (fun n s'=>.ok (inX s.hd.ps n) s')=Z):=by show _=Z;rw[←HZ.out,if_neg c]
  have c2:(s1.hd.kd == 3)=false:=by simp[c]
  clear c HZ;go_wp2_with fail;refine(ppinteger_any R d b s1 w3 HR3.out).mono ?_;intro r w4 hpo
  cases hres:intT b s1 with
  | no c q=>
   rw[hres]at hpo;obtain⟨rfl,f4⟩:=hpo;have HF4:=Hj (fx_trans HF3.out f4);have E4:Hid (Z=.no c q):=by show Z=_;rw[←E.out,hres];rfl
   clear f4 hres;go_wp2_with fail;refine⟨rfl,?_⟩;rw[E4.out];exact⟨rfl,HF4.out⟩
  | ok n s4=>
   rw[hres]at hpo;obtain⟨v,rfl,rfl,h4,f4⟩:=hpo;have E4:Hid (Z=.ok (inX s.hd.ps n) s4):=by show Z=_;rw[←E.out,hres];rfl
   have hb:-2147483648≤n∧n≤2147483647:=by
    unfold intT kindT at hres
    split at hres
    ·rw[bind_ok]at hres
     cases hres;have:=HS1.out.nn0;have:=HS1.out.nn1
     split<;>omega
    ·cases hres
   have HN:=Hj hb;have NB4:=Hj (f4.blk NB3.out NB3.out.lt (on_ne HLT.out));have HF4:=Hj (fx_trans HF3.out f4);have HR4:=Hj h4;clear h4 f4 NB3 HR3 HF3 hres hb E
   go_wp2_with (refine st_ex ⟨2,s.hd.ps,false,n,0,[],⟨none,0,0⟩⟩ w.heap.size _ NB4.out rfl rfl _ _ rfl rfl rfl ?_)
   refine bodyPost_ret (rs_ex rfl _ _ w.heap.size ⟨2,s.hd.ps,false,n,0,[],⟨none,0,0⟩⟩ rfl (NB4.out.rowS _)) rfl ?_;rw[E4.out];exact⟨_,rfl,⟨inX s.hd.ps n,rfl,leaf_in (eh_ok (by decide) (by decide) HS.out.ps0 HS.out.ps1 HN.out.1 HN.out.2 (by decide) (by decide) (Nat.zero_le _) sl_no) rfl,Ex.eqv_refl _⟩,HR4.out.row HLT.out _,fx_row HF4.out (.inr (Nat.le_refl _)) _⟩
def loopS (d:Option (PS→Rs St))(ps:Int)(s:PS):Rs St:=
 (kindT 1 s).bind fun n s2=>(expT [61] s2).bind fun _ s3=>(whl s3).bind fun lo s4=>(expT [46,46] s4).bind fun _ s5=>(whl s5).bind fun hi s6=>(blk d s6).bind fun t s7=>.ok (foS ps n.tx lo hi t) s7
def choiceS (k:Nat)(d:Option (PS→Rs St))(ps:Int)(s:PS):Rs St:=
 (exK k s).bind fun e s2=>(blk d s2).bind fun t s3=>if s3.hd.tx=elseW then(elsS d s3.tk).bind fun l s4=>.ok (ifS ps e t l) s4 else .ok (ifS ps e t []) s3
def assignS (k:Nat)(ps:Int)(nm:List UInt8)(s:PS):Rs St:=
 (index (dK k) s).bind fun l s2=>(expT [61] s2).bind fun _ s3=>(exK k s3).bind fun e s4=>(expT [59] s4).bind fun _ s5=>.ok (asS ps nm l e) s5
theorem kind_hd {k:Int}{s s':PS}{t:Tk}(h:kindT k s=.ok t s'):t=s.hd:=by
 unfold kindT at h
 split at h
 ·cases h;rfl
 ·cases h
theorem int_bd {b:Bool}{s s':PS}{n:Int}(g:Good s.ts)(h:intT b s=.ok n s'):-2147483648≤n∧n≤2147483647:=by
 unfold intT kindT at h
 split at h
 ·rw[bind_ok]at h
  cases h;have:=g.hd.nn0;have:=g.hd.nn1;unfold PS.hd
  split<;>omega
 ·cases h
theorem whl_bd {s s':PS}{n:Int}(g:Good s.ts)(h:whl s=.ok n s'):-2147483648≤n∧n≤2147483647:=by
 unfold whl at h;rw[minus_eq]at h;exact int_bd (acS_good g (by decide)) h
theorem fo_eqv {ps lo hi:Int}{nm:List UInt8}{S:Sl}{K:Nat→St}{t:List St}(h:Seq S K t):(St.mk ⟨3,ps,nm,⟨none,0,0⟩,lo,hi,S,⟨none,0,0⟩⟩ (fun _=>.no) .no K (fun _=>.no)).eqv (foS ps nm lo hi t):=by
 refine⟨?_,rfl,Ex.eqv_refl _,⟨rfl,fun i hi=>absurd hi (Nat.not_lt_zero i)⟩,h.2,fun i hi=>absurd hi (Nat.not_lt_zero i)⟩
 simp[hsS,foS,St.h,sl,h.1]
theorem if_eqv {ps:Int}{e e':Ex}{S T:Sl}{K J:Nat→St}{t l:List St}(he:e.eqv e')(h:Seq S K t)(g:Seq T J l):(St.mk ⟨2,ps,[],⟨none,0,0⟩,0,0,S,T⟩ (fun _=>.no) e K J).eqv (ifS ps e' t l):=by
 refine⟨?_,rfl,he,⟨rfl,fun i hi=>absurd hi (Nat.not_lt_zero i)⟩,h.2,g.2⟩
 simp[hsS,ifS,St.h,sl,h.1,g.1]
theorem as_eqv {ps:Int}{nm:List UInt8}{e e':Ex}{S:Sl}{K:Nat→Ex}{l:List Ex}(he:e.eqv e')(h:Leq S K l):(St.mk ⟨1,ps,nm,S,0,0,⟨none,0,0⟩,⟨none,0,0⟩⟩ K e (fun _=>.no) (fun _=>.no)).eqv (asS ps nm l e'):=by
 refine⟨?_,rfl,he,⟨h.1,h.2⟩,fun i hi=>absurd hi (Nat.not_lt_zero i),fun i hi=>absurd hi (Nat.not_lt_zero i)⟩
 simp[hsS,asS,St.h,sl]
theorem seq_nil:Seq ⟨none,0,0⟩ (fun _=>.no) []:=⟨rfl,fun i hi=>absurd hi (Nat.not_lt_zero i)⟩
theorem leaf_no {D:Nat→Prop}{w:World}:XO D .no w:=trivial
theorem pploop_of (R d k:Nat)(hb:ReadB R d 84 (blk (sK k)))(ps:Int)(hp0:0≤ps)(hp1:ps≤16384)(s:PS)(w:World)(h:Rdr R d s w):Calls Tryz.prog 128 #[.pointer (some ⟨R,0,none⟩),.int .i64 ps] w (PO R d w (loopS (sK k) ps s) (VS w.heap.size)):=by
 have ft:=fun t w=>tkv_tx t w;have BL:Below w.heap.size w ((w.alloc zS).alloc (.cells (stvs ⟨3,ps,[],⟨none,0,0⟩,0,0,⟨none,0,0⟩,⟨none,0,0⟩⟩ zeroH).toArray 48)):=bel_alloc (bel_one w _) _
 have k0:Blk ((w.alloc zS).alloc (.cells (stvs ⟨3,ps,[],⟨none,0,0⟩,0,0,⟨none,0,0⟩,⟨none,0,0⟩⟩ zeroH).toArray 48)) (w.heap.size) 48 (stvs zeroS zeroH).toArray:=by
  have:=(Blk.new w 48 (stvs zeroS zeroH).toArray).alloc (.cells (stvs ⟨3,ps,[],⟨none,0,0⟩,0,0,⟨none,0,0⟩,⟨none,0,0⟩⟩ zeroH).toArray 48);exact this
 have k1:Blk ((w.alloc zS).alloc (.cells (stvs ⟨3,ps,[],⟨none,0,0⟩,0,0,⟨none,0,0⟩,⟨none,0,0⟩⟩ zeroH).toArray 48)) (w.heap.size+1) 48 (stvs ⟨3,ps,[],⟨none,0,0⟩,0,0,⟨none,0,0⟩,⟨none,0,0⟩⟩ zeroH).toArray:=by
  have:=Blk.new (w.alloc zS) 48 (stvs ⟨3,ps,[],⟨none,0,0⟩,0,0,⟨none,0,0⟩,⟨none,0,0⟩⟩ zeroH).toArray;rw[World.size_alloc]at this;exact this
 have hl:=h.lt;have NB_0:=Hj k0;have SB_0:=Hj k1;have HR:=Hj (h.below BL h.lt);have HF:Hid (Fx (On R) w.heap.size w ((w.alloc zS).alloc (.cells (stvs ⟨3,ps,[],⟨none,0,0⟩,0,0,⟨none,0,0⟩,⟨none,0,0⟩⟩ zeroH).toArray 48))):=Fx.of BL;have HRS:Hid (R<w.heap.size+1):=(by show R<w.heap.size+1;omega);have HRN:Hid (R<w.heap.size):=(by show R<w.heap.size;omega);have HSB:Hid (w.heap.size≤w.heap.size+1):=(by show w.heap.size≤w.heap.size+1;omega);have HNB:Hid (w.heap.size≤w.heap.size):=(by show w.heap.size≤w.heap.size;omega);have HNE:Hid (w.heap.size≠w.heap.size+1):=(by show w.heap.size≠w.heap.size+1;omega);have HD:Hid (¬(fun k=>w.heap.size+1<k) R):=(fun(x:w.heap.size+1<R)=>by omega);have HDS:Hid (¬(fun k=>w.heap.size+1<k) (w.heap.size+1)):=Nat.lt_irrefl _;have HDN:Hid (¬(fun k=>w.heap.size+1<k) (w.heap.size)):=(fun(x:w.heap.size+1<w.heap.size)=>by omega);have HP:=Hj (And.intro hp0 hp1);generalize hZ:loopS (sK k) ps s=Z;unfold loopS at hZ;have E:=Hj hZ;clear BL k0 k1 h hZ hp0 hp1 hl;go_enter Tryz.func128,Tryz.ntmps128;go_upto_region 2 with fail;change (Code.region 2 _ _).wp _ _ _ ((w.alloc zS).alloc (.cells (stvs ⟨3,ps,[],⟨none,0,0⟩,0,0,⟨none,0,0⟩,⟨none,0,0⟩⟩ zeroH).toArray 48))
 generalize ((w.alloc zS).alloc (.cells (stvs ⟨3,ps,[],⟨none,0,0⟩,0,0,⟨none,0,0⟩,⟨none,0,0⟩⟩ zeroH).toArray 48))=w0 at *;have HB:=Hj hb;clear hb;generalize w.heap.size+1=sb at *;go_wp2_with fail;refine(pptakeKind_any R d s 1 (by decide) w0 HR.out).mono ?_;intro r wa1 hpo
 cases hres:kindT 1 s with
 | no c q=>
  rw[hres]at hpo;obtain⟨rfl,f⟩:=hpo;have HFn:=Hj (fx_trans HF.out f);have E2:=E.out;rw[hres,bind_no]at E2;have En:=Hj E2;clear f hres E2;go_wp2_with fail;refine⟨rfl,?_⟩;rw[←En.out];exact⟨rfl,HFn.out⟩
 | ok t s2=>
  rw[hres]at hpo;obtain⟨v,rfl,hv,h',f⟩:=hpo;subst hv;have hlen:t.tx.length≤16384:=by rw[kind_hd hres];exact HR.out.good.hd.len
  have HLEN:=Hj hlen;clear hlen;have E2:=E.out;rw[hres,bind_ok]at E2;have E1:=Hj E2;have HR1:=Hj h';have HF1:=Hj (fx_trans HF.out f);have NB_1:=Hj (f.blk NB_0.out NB_0.out.lt (on_ne HRN.out));have SB_1:=Hj (f.blk SB_0.out SB_0.out.lt (on_ne HRS.out));clear f hres h' E2 HR HF E NB_0 SB_0;have m2:wa1.cell? ⟨sb,2,none⟩=some (.string ⟨#[]⟩):=SB_1.out.cell 2;have z2:wa1.frozen? ⟨sb,2,none⟩=false:=SB_1.out.frozen 2;have SB_2:Hid (Blk (wa1.setCell ⟨sb,2,none⟩ (.string ⟨t.tx.toArray⟩)) sb 48 (stvs ⟨3,ps,t.tx,⟨none,0,0⟩,0,0,⟨none,0,0⟩,⟨none,0,0⟩⟩ zeroH).toArray):=SB_1.out.set_ 2 (.string ⟨t.tx.toArray⟩);have WR2:=Hj (wr1_set wa1 sb 2 (.string ⟨t.tx.toArray⟩));go_upto_region 3 with fail;change (Code.region 3 _ _).wp _ _ _ (wa1.setCell ⟨sb,2,none⟩ (.string ⟨t.tx.toArray⟩));clear m2 z2;generalize wa1.setCell ⟨sb,2,none⟩ (.string ⟨t.tx.toArray⟩)=wb2 at *;have HR2:=Hj (WR2.out.rdr HR1.out HRS.out);have HF2:=Hj (WR2.out.fx HF1.out HSB.out);have NB_2:=Hj (WR2.out.blk NB_1.out HNE.out);clear HR1 HF1 NB_1 SB_1;go_wp2_with fail;refine(ppexpect_any R d s2 [61] (by decide) wb2 HR2.out).mono ?_;intro r wa3 hpo
  cases hres:expT [61] s2 with
  | no c q=>
   rw[hres]at hpo;obtain⟨rfl,f⟩:=hpo;have HFn:=Hj (fx_trans HF2.out f);have E2:=E1.out;rw[hres,bind_no]at E2;have En:=Hj E2;clear f hres E2;go_wp2_with fail;refine⟨rfl,?_⟩;rw[←En.out];exact⟨rfl,HFn.out⟩
  | ok u s3=>
   rw[hres]at hpo;obtain⟨v,rfl,hv,h',f⟩:=hpo;unfold V0 at hv;subst hv;have E2:=E1.out;rw[hres,bind_ok]at E2;have E3:=Hj E2;have HR3:=Hj h';have HF3:=Hj (fx_trans HF2.out f);have NB_3:=Hj (f.blk NB_2.out NB_2.out.lt (on_ne HRN.out));have SB_3:=Hj (f.blk SB_2.out SB_2.out.lt (on_ne HRS.out));clear f hres h' E2 HR2 HF2 E1 NB_2 SB_2;go_wp2_with fail;refine(ppwhole_any R d s3 wa3 HR3.out).mono ?_;intro r wa4 hpo
   cases hres:whl s3 with
   | no c q=>
    rw[hres]at hpo;obtain⟨rfl,f⟩:=hpo;have HFn:=Hj (fx_trans HF3.out f);have E2:=E3.out;rw[hres,bind_no]at E2;have En:=Hj E2;clear f hres E2;go_wp2_with fail;refine⟨rfl,?_⟩;rw[←En.out];exact⟨rfl,HFn.out⟩
   | ok lo s4=>
    rw[hres]at hpo;obtain⟨v,rfl,hv,h',f⟩:=hpo;subst hv;have HLO:=Hj (whl_bd HR3.out.good hres);have E2:=E3.out;rw[hres,bind_ok]at E2;have E4:=Hj E2;have HR4:=Hj h';have HF4:=Hj (fx_trans HF3.out f);have NB_4:=Hj (f.blk NB_3.out NB_3.out.lt (on_ne HRN.out));have SB_4:=Hj (f.blk SB_3.out SB_3.out.lt (on_ne HRS.out));clear f hres h' E2 HR3 HF3 E3 NB_3 SB_3;have m5:wa4.cell? ⟨sb,11,none⟩=some (.int .i32 0):=SB_4.out.cell 11;have z5:wa4.frozen? ⟨sb,11,none⟩=false:=SB_4.out.frozen 11;have SB_5:Hid (Blk (wa4.setCell ⟨sb,11,none⟩ (.int .i32 lo)) sb 48 (stvs ⟨3,ps,t.tx,⟨none,0,0⟩,lo,0,⟨none,0,0⟩,⟨none,0,0⟩⟩ zeroH).toArray):=SB_4.out.set_ 11 (.int .i32 lo);have WR5:=Hj (wr1_set wa4 sb 11 (.int .i32 lo));go_upto_region 5 with fail;change (Code.region 5 _ _).wp _ _ _ (wa4.setCell ⟨sb,11,none⟩ (.int .i32 lo));clear m5 z5;generalize wa4.setCell ⟨sb,11,none⟩ (.int .i32 lo)=wb5 at *;have HR5:=Hj (WR5.out.rdr HR4.out HRS.out);have HF5:=Hj (WR5.out.fx HF4.out HSB.out);have NB_5:=Hj (WR5.out.blk NB_4.out HNE.out);clear HR4 HF4 NB_4 SB_4;go_wp2_with fail;refine(ppexpect_any R d s4 [46,46] (by decide) wb5 HR5.out).mono ?_;intro r wa6 hpo
    cases hres:expT [46,46] s4 with
    | no c q=>
     rw[hres]at hpo;obtain⟨rfl,f⟩:=hpo;have HFn:=Hj (fx_trans HF5.out f);have E2:=E4.out;rw[hres,bind_no]at E2;have En:=Hj E2;clear f hres E2;go_wp2_with fail;refine⟨rfl,?_⟩;rw[←En.out];exact⟨rfl,HFn.out⟩
    | ok u2 s5=>
     rw[hres]at hpo;obtain⟨v,rfl,hv,h',f⟩:=hpo;unfold V0 at hv;subst hv;have E2:=E4.out;rw[hres,bind_ok]at E2;have E6:=Hj E2;have HR6:=Hj h';have HF6:=Hj (fx_trans HF5.out f);have NB_6:=Hj (f.blk NB_5.out NB_5.out.lt (on_ne HRN.out));have SB_6:=Hj (f.blk SB_5.out SB_5.out.lt (on_ne HRS.out));clear f hres h' E2 HR5 HF5 E4 NB_5 SB_5;go_wp2_with fail;refine(ppwhole_any R d s5 wa6 HR6.out).mono ?_;intro r wa7 hpo
     cases hres:whl s5 with
     | no c q=>
      rw[hres]at hpo;obtain⟨rfl,f⟩:=hpo;have HFn:=Hj (fx_trans HF6.out f);have E2:=E6.out;rw[hres,bind_no]at E2;have En:=Hj E2;clear f hres E2;go_wp2_with fail;refine⟨rfl,?_⟩;rw[←En.out];exact⟨rfl,HFn.out⟩
     | ok hi s6=>
      rw[hres]at hpo;obtain⟨v,rfl,hv,h',f⟩:=hpo;subst hv;have HHI:=Hj (whl_bd HR6.out.good hres);have E2:=E6.out;rw[hres,bind_ok]at E2;have E7:=Hj E2;have HR7:=Hj h';have HF7:=Hj (fx_trans HF6.out f);have NB_7:=Hj (f.blk NB_6.out NB_6.out.lt (on_ne HRN.out));have SB_7:=Hj (f.blk SB_6.out SB_6.out.lt (on_ne HRS.out));clear f hres h' E2 HR6 HF6 E6 NB_6 SB_6;have m8:wa7.cell? ⟨sb,12,none⟩=some (.int .i32 0):=SB_7.out.cell 12;have z8:wa7.frozen? ⟨sb,12,none⟩=false:=SB_7.out.frozen 12;have SB_8:Hid (Blk (wa7.setCell ⟨sb,12,none⟩ (.int .i32 hi)) sb 48 (stvs ⟨3,ps,t.tx,⟨none,0,0⟩,lo,hi,⟨none,0,0⟩,⟨none,0,0⟩⟩ zeroH).toArray):=SB_7.out.set_ 12 (.int .i32 hi);have WR8:=Hj (wr1_set wa7 sb 12 (.int .i32 hi));go_upto_region 7 with fail;change (Code.region 7 _ _).wp _ _ _ (wa7.setCell ⟨sb,12,none⟩ (.int .i32 hi));clear m8 z8;generalize wa7.setCell ⟨sb,12,none⟩ (.int .i32 hi)=wb8 at *;have HR8:=Hj (WR8.out.rdr HR7.out HRS.out);have HF8:=Hj (WR8.out.fx HF7.out HSB.out);have NB_8:=Hj (WR8.out.blk NB_7.out HNE.out);clear HR7 HF7 NB_7 SB_7;go_wp2_with fail;refine(HB.out s6 wb8 HR8.out).mono ?_;intro r wa9 hpo
      cases hres:blk (sK k) s6 with
      | no c q=>
       rw[hres]at hpo;obtain⟨rfl,f⟩:=hpo;have HFn:=Hj (fx_trans HF8.out f);have E2:=E7.out;rw[hres,bind_no]at E2;have En:=Hj E2;clear f hres E2;go_wp2_with fail;refine⟨rfl,?_⟩;rw[←En.out];exact⟨rfl,HFn.out⟩
      | ok l s7=>
       rw[hres]at hpo;obtain⟨v,rfl,⟨S,K,hv,xb,eb⟩,h',f⟩:=hpo;obtain⟨A,n,cp⟩:=S;unfold Sl.val at hv;subst hv;have EB:=Hj eb;have XO:=Hj xb.1;have E2:=E7.out;rw[hres,bind_ok]at E2;have E9:=Hj E2;have HR9:=Hj h';have HF9:=Hj (fx_trans HF8.out f);have NB_9:=Hj (f.blk NB_8.out NB_8.out.lt (on_ne HRN.out));have SB_9:=Hj (f.blk SB_8.out SB_8.out.lt (on_ne HRS.out));have XT_9:=Hj (xb.imp (D':=fun k=>sb<k) (fun k _ (x:wb8.heap.size≤k)=>Nat.lt_of_lt_of_le SB_8.out.lt x));clear f hres h' E2 HR8 HF8 E7 NB_8 SB_8;clear xb eb;have m10:wa9.cell? ⟨sb,13,none⟩=some (.slice none 0 0):=SB_9.out.cell 13;have z10:wa9.frozen? ⟨sb,13,none⟩=false:=SB_9.out.frozen 13;have SB_10:Hid (Blk (wa9.setCell ⟨sb,13,none⟩ (.slice A n cp)) sb 48 (stvs ⟨3,ps,t.tx,⟨none,0,0⟩,lo,hi,⟨A,n,cp⟩,⟨none,0,0⟩⟩ zeroH).toArray):=SB_9.out.set_ 13 (.slice A n cp);have WR10:=Hj (wr1_set wa9 sb 13 (.slice A n cp));go_upto_region 8 with fail;change (Code.region 8 _ _).wp _ _ _ (wa9.setCell ⟨sb,13,none⟩ (.slice A n cp));clear m10 z10;generalize wa9.setCell ⟨sb,13,none⟩ (.slice A n cp)=wb10 at *;have HR10:=Hj (WR10.out.rdr HR9.out HRS.out);have HF10:=Hj (WR10.out.fx HF9.out HSB.out);have NB_10:=Hj (WR10.out.blk NB_9.out HNE.out)
       have XT_10:=Hj (XT_9.out.fx WR10.out.1 (on_not HDS.out));clear HR9 HF9 NB_9 SB_9 XT_9
       go_wp2_with (first
        | refine ld_stm ⟨3,ps,t.tx,⟨none,0,0⟩,lo,hi,⟨A,n,cp⟩,⟨none,0,0⟩⟩ zeroH sb SB_10.out rfl _ rfl rfl ?_
        | refine st_stm ⟨3,ps,t.tx,⟨none,0,0⟩,lo,hi,⟨A,n,cp⟩,⟨none,0,0⟩⟩ zeroH w.heap.size _ NB_10.out rfl rfl _ _ rfl rfl rfl ?_)
       refine bodyPost_ret (rs_stm rfl _ _ w.heap.size ⟨3,ps,t.tx,⟨none,0,0⟩,lo,hi,⟨A,n,cp⟩,⟨none,0,0⟩⟩ zeroH rfl (NB_10.out.rowS _)) rfl ?_;rw[←E9.out];exact⟨_,rfl,⟨St.mk ⟨3,ps,t.tx,⟨none,0,0⟩,lo,hi,⟨A,n,cp⟩,⟨none,0,0⟩⟩ (fun _=>.no) .no K (fun _=>.no),rfl,((st_in (sh_ok (by decide) (by decide) HP.out.1 HP.out.2 HLO.out.1 HLO.out.2 HHI.out.1 HHI.out.2 HLEN.out sl_no XO.out sl_no) (xl_no) (leaf_no) (XT_10.out) (xb_no)).fx (wr1_row _ w.heap.size _).1 (on_not HDN.out)).imp (fun k _ (x:sb<k)=>Nat.le_trans HSB.out (Nat.le_of_lt x)),fo_eqv EB.out⟩,HR10.out.row HRN.out _,fx_row HF10.out (.inr HNB.out) _⟩
theorem ppchoice_of (R d k:Nat)(hdk:d+k=24)(hb:ReadB R d 84 (blk (sK k)))(he:ReadB R d 152 (elsS (sK k)))(ps:Int)(hp0:0≤ps)(hp1:ps≤16384)(s:PS)(w:World)(h:Rdr R d s w):Calls Tryz.prog 127 #[.pointer (some ⟨R,0,none⟩),.int .i64 ps] w (PO R d w (choiceS k (sK k) ps s) (VS w.heap.size)):=by
 have ft:=fun t w=>tkv_tx t w;have BL:Below w.heap.size w ((w.alloc zS).alloc (.cells (stvs ⟨2,ps,[],⟨none,0,0⟩,0,0,⟨none,0,0⟩,⟨none,0,0⟩⟩ zeroH).toArray 48)):=bel_alloc (bel_one w _) _
 have k0:Blk ((w.alloc zS).alloc (.cells (stvs ⟨2,ps,[],⟨none,0,0⟩,0,0,⟨none,0,0⟩,⟨none,0,0⟩⟩ zeroH).toArray 48)) (w.heap.size) 48 (stvs zeroS zeroH).toArray:=by
  have:=(Blk.new w 48 (stvs zeroS zeroH).toArray).alloc (.cells (stvs ⟨2,ps,[],⟨none,0,0⟩,0,0,⟨none,0,0⟩,⟨none,0,0⟩⟩ zeroH).toArray 48);exact this
 have k1:Blk ((w.alloc zS).alloc (.cells (stvs ⟨2,ps,[],⟨none,0,0⟩,0,0,⟨none,0,0⟩,⟨none,0,0⟩⟩ zeroH).toArray 48)) (w.heap.size+1) 48 (stvs ⟨2,ps,[],⟨none,0,0⟩,0,0,⟨none,0,0⟩,⟨none,0,0⟩⟩ zeroH).toArray:=by
  have:=Blk.new (w.alloc zS) 48 (stvs ⟨2,ps,[],⟨none,0,0⟩,0,0,⟨none,0,0⟩,⟨none,0,0⟩⟩ zeroH).toArray;rw[World.size_alloc]at this;exact this
 have hl:=h.lt;have NB_0:=Hj k0;have SB_0:=Hj k1;have HR:=Hj (h.below BL h.lt);have HF:Hid (Fx (On R) w.heap.size w ((w.alloc zS).alloc (.cells (stvs ⟨2,ps,[],⟨none,0,0⟩,0,0,⟨none,0,0⟩,⟨none,0,0⟩⟩ zeroH).toArray 48))):=Fx.of BL;have HRS:Hid (R<w.heap.size+1):=(by show R<w.heap.size+1;omega);have HRN:Hid (R<w.heap.size):=(by show R<w.heap.size;omega);have HSB:Hid (w.heap.size≤w.heap.size+1):=(by show w.heap.size≤w.heap.size+1;omega);have HNB:Hid (w.heap.size≤w.heap.size):=(by show w.heap.size≤w.heap.size;omega);have HNE:Hid (w.heap.size≠w.heap.size+1):=(by show w.heap.size≠w.heap.size+1;omega);have HD:Hid (¬(fun k=>w.heap.size+1<k) R):=(fun(x:w.heap.size+1<R)=>by omega);have HDS:Hid (¬(fun k=>w.heap.size+1<k) (w.heap.size+1)):=Nat.lt_irrefl _;have HDN:Hid (¬(fun k=>w.heap.size+1<k) (w.heap.size)):=(fun(x:w.heap.size+1<w.heap.size)=>by omega);have HP:=Hj (And.intro hp0 hp1);generalize hZ:choiceS k (sK k) ps s=Z;unfold choiceS at hZ;have E:=Hj hZ;clear BL k0 k1 h hZ hp0 hp1 hl;go_enter Tryz.func127,Tryz.ntmps127;go_upto_region 2 with fail;change (Code.region 2 _ _).wp _ _ _ ((w.alloc zS).alloc (.cells (stvs ⟨2,ps,[],⟨none,0,0⟩,0,0,⟨none,0,0⟩,⟨none,0,0⟩⟩ zeroH).toArray 48))
 generalize ((w.alloc zS).alloc (.cells (stvs ⟨2,ps,[],⟨none,0,0⟩,0,0,⟨none,0,0⟩,⟨none,0,0⟩⟩ zeroH).toArray 48))=w0 at *;have HB:=Hj hb;have HEL:=Hj he;clear hb he;generalize w.heap.size+1=sb at *;go_wp2_with fail;refine(ppexpr_at R k d hdk s w0 HR.out).mono ?_;intro r wa1 hpo
 cases hres:exK k s with
 | no c q=>
  rw[hres]at hpo;obtain⟨rfl,f⟩:=hpo;have HFn:=Hj (fx_trans HF.out f);have E2:=E.out;rw[hres,bind_no]at E2;have En:=Hj E2;clear f hres E2;go_wp2_with fail;refine⟨rfl,?_⟩;rw[←En.out];exact⟨rfl,HFn.out⟩
 | ok e s2=>
  rw[hres]at hpo;obtain⟨v,rfl,⟨b,hv,xb,eb⟩,h',f⟩:=hpo;subst hv;have EB:=Hj eb;have E2:=E.out;rw[hres,bind_ok]at E2;have E1:=Hj E2;have HR1:=Hj h';have HF1:=Hj (fx_trans HF.out f);have NB_1:=Hj (f.blk NB_0.out NB_0.out.lt (on_ne HRN.out));have SB_1:=Hj (f.blk SB_0.out SB_0.out.lt (on_ne HRS.out));have XE_1:=Hj (xb.imp (D':=fun k=>sb<k) (fun k _ (x:w0.heap.size≤k)=>Nat.lt_of_lt_of_le SB_0.out.lt x));clear f hres h' E2 HR HF E NB_0 SB_0;clear xb eb
  go_upto_region 3 with(refine st_se ⟨2,ps,[],⟨none,0,0⟩,0,0,⟨none,0,0⟩,⟨none,0,0⟩⟩ zeroH b.h sb SB_1.out rfl _ _ rfl rfl rfl ?_;intro wb2 SB_2 WR2)
  have HR2:=Hj (WR2.out.rdr HR1.out HRS.out);have HF2:=Hj (WR2.out.fx HF1.out HSB.out);have NB_2:=Hj (WR2.out.blk NB_1.out HNE.out);have XE_2:=Hj (XE_1.out.fx WR2.out.1 (on_not HDS.out));clear HR1 HF1 NB_1 SB_1 XE_1;go_wp2_with fail;refine(HB.out s2 wb2 HR2.out).mono ?_;intro r wa3 hpo
  cases hres:blk (sK k) s2 with
  | no c q=>
   rw[hres]at hpo;obtain⟨rfl,f⟩:=hpo;have HFn:=Hj (fx_trans HF2.out f);have E2:=E1.out;rw[hres,bind_no]at E2;have En:=Hj E2;clear f hres E2;go_wp2_with fail;refine⟨rfl,?_⟩;rw[←En.out];exact⟨rfl,HFn.out⟩
  | ok l s3=>
   rw[hres]at hpo;obtain⟨v,rfl,⟨S,K,hv,xb,eb⟩,h',f⟩:=hpo;obtain⟨A,n,cp⟩:=S;unfold Sl.val at hv;subst hv;have ET:=Hj eb;have XO:=Hj xb.1;have E2:=E1.out;rw[hres,bind_ok]at E2;have E3:=Hj E2;have HR3:=Hj h';have HF3:=Hj (fx_trans HF2.out f);have NB_3:=Hj (f.blk NB_2.out NB_2.out.lt (on_ne HRN.out));have SB_3:=Hj (f.blk SB_2.out SB_2.out.lt (on_ne HRS.out));have XE_3:=Hj (XE_2.out.fx f (on_not HD.out));have XT_3:=Hj (xb.imp (D':=fun k=>sb<k) (fun k _ (x:wb2.heap.size≤k)=>Nat.lt_of_lt_of_le SB_2.out.lt x));clear f hres h' E2 HR2 HF2 E1 NB_2 SB_2 XE_2;clear xb eb;have m4:wa3.cell? ⟨sb,13,none⟩=some (.slice none 0 0):=SB_3.out.cell 13;have z4:wa3.frozen? ⟨sb,13,none⟩=false:=SB_3.out.frozen 13;have SB_4:Hid (Blk (wa3.setCell ⟨sb,13,none⟩ (.slice A n cp)) sb 48 (stvs ⟨2,ps,[],⟨none,0,0⟩,0,0,⟨A,n,cp⟩,⟨none,0,0⟩⟩ b.h).toArray):=SB_3.out.set_ 13 (.slice A n cp);have WR4:=Hj (wr1_set wa3 sb 13 (.slice A n cp));go_upto_region 4 with fail;change (Code.region 4 _ _).wp _ _ _ (wa3.setCell ⟨sb,13,none⟩ (.slice A n cp));clear m4 z4;generalize wa3.setCell ⟨sb,13,none⟩ (.slice A n cp)=wb4 at *;have HR4:=Hj (WR4.out.rdr HR3.out HRS.out);have HF4:=Hj (WR4.out.fx HF3.out HSB.out);have NB_4:=Hj (WR4.out.blk NB_3.out HNE.out)
   have XE_4:=Hj (XE_3.out.fx WR4.out.1 (on_not HDS.out));have XT_4:=Hj (XT_3.out.fx WR4.out.1 (on_not HDS.out));clear HR3 HF3 NB_3 SB_3 XE_3 XT_3;go_wp2_with fail;refine(ppaccept_any R d s3 elseW (by decide) wb4 HR4.out).mono ?_;rintro r wd ⟨rfl,h',f⟩;have HFd:=Hj (fx_trans HF4.out f);have NB_d:=Hj (f.blk NB_4.out NB_4.out.lt (on_ne HRN.out));have SB_d:=Hj (f.blk SB_4.out SB_4.out.lt (on_ne HRS.out));have XE_d:=Hj (XE_4.out.fx f (on_not HD.out));have XT_d:=Hj (XT_4.out.fx f (on_not HD.out));clear f HR4 HF4 NB_4 SB_4 XE_4 XT_4
   by_cases ce:s3.hd.tx=elseW
   ·have E2:=E3.out
    rw[if_pos ce]at E2;have Ed:=Hj E2;have ea:acS s3 elseW=s3.tk:=if_pos ce;rw[ea]at h';rw[beq_yes ce];have HRd:=Hj h';clear h' ea E2 ce E3;go_wp2_with fail;refine(HEL.out s3.tk wd HRd.out).mono ?_;intro r wa5 hpo
    cases hres:elsS (sK k) s3.tk with
    | no c q=>
     rw[hres]at hpo;obtain⟨rfl,f⟩:=hpo;have HFn:=Hj (fx_trans HFd.out f);have E2:=Ed.out;rw[hres,bind_no]at E2;have En:=Hj E2;clear f hres E2;go_wp2_with fail;refine⟨rfl,?_⟩;rw[←En.out];exact⟨rfl,HFn.out⟩
    | ok m s4=>
     rw[hres]at hpo;obtain⟨v,rfl,⟨S,K2,hv,xb,eb⟩,h',f⟩:=hpo;obtain⟨A2,n2,cp2⟩:=S;unfold Sl.val at hv;subst hv;have EL:=Hj eb;have XO2:=Hj xb.1;have E2:=Ed.out;rw[hres,bind_ok]at E2;have E5:=Hj E2;have HR5:=Hj h';have HF5:=Hj (fx_trans HFd.out f);have NB_5:=Hj (f.blk NB_d.out NB_d.out.lt (on_ne HRN.out));have SB_5:=Hj (f.blk SB_d.out SB_d.out.lt (on_ne HRS.out));have XE_5:=Hj (XE_d.out.fx f (on_not HD.out));have XT_5:=Hj (XT_d.out.fx f (on_not HD.out));have XL_5:=Hj (xb.imp (D':=fun k=>sb<k) (fun k _ (x:wd.heap.size≤k)=>Nat.lt_of_lt_of_le SB_d.out.lt x));clear f hres h' E2 HRd HFd Ed NB_d SB_d XE_d XT_d;clear xb eb;have m6:wa5.cell? ⟨sb,14,none⟩=some (.slice none 0 0):=SB_5.out.cell 14;have z6:wa5.frozen? ⟨sb,14,none⟩=false:=SB_5.out.frozen 14;have SB_6:Hid (Blk (wa5.setCell ⟨sb,14,none⟩ (.slice A2 n2 cp2)) sb 48 (stvs ⟨2,ps,[],⟨none,0,0⟩,0,0,⟨A,n,cp⟩,⟨A2,n2,cp2⟩⟩ b.h).toArray):=SB_5.out.set_ 14 (.slice A2 n2 cp2);have WR6:=Hj (wr1_set wa5 sb 14 (.slice A2 n2 cp2));go_upto_region 6 with fail;change (Code.region 6 _ _).wp _ _ _ (wa5.setCell ⟨sb,14,none⟩ (.slice A2 n2 cp2));clear m6 z6;generalize wa5.setCell ⟨sb,14,none⟩ (.slice A2 n2 cp2)=wb6 at *;have HR6:=Hj (WR6.out.rdr HR5.out HRS.out)
     have HF6:=Hj (WR6.out.fx HF5.out HSB.out);have NB_6:=Hj (WR6.out.blk NB_5.out HNE.out);have XE_6:=Hj (XE_5.out.fx WR6.out.1 (on_not HDS.out));have XT_6:=Hj (XT_5.out.fx WR6.out.1 (on_not HDS.out));have XL_6:=Hj (XL_5.out.fx WR6.out.1 (on_not HDS.out));clear HR5 HF5 NB_5 SB_5 XE_5 XT_5 XL_5
     go_wp2_with (first
      | refine ld_stm ⟨2,ps,[],⟨none,0,0⟩,0,0,⟨A,n,cp⟩,⟨A2,n2,cp2⟩⟩ b.h sb SB_6.out rfl _ rfl rfl ?_
      | refine st_stm ⟨2,ps,[],⟨none,0,0⟩,0,0,⟨A,n,cp⟩,⟨A2,n2,cp2⟩⟩ b.h w.heap.size _ NB_6.out rfl rfl _ _ rfl rfl rfl ?_)
     refine bodyPost_ret (rs_stm rfl _ _ w.heap.size ⟨2,ps,[],⟨none,0,0⟩,0,0,⟨A,n,cp⟩,⟨A2,n2,cp2⟩⟩ b.h rfl (NB_6.out.rowS _)) rfl ?_;rw[←E5.out];exact⟨_,rfl,⟨St.mk ⟨2,ps,[],⟨none,0,0⟩,0,0,⟨A,n,cp⟩,⟨A2,n2,cp2⟩⟩ (fun _=>.no) b K K2,rfl,((st_in (sh_ok (by decide) (by decide) HP.out.1 HP.out.2 (by decide) (by decide) (by decide) (by decide) (Nat.zero_le _) sl_no XO.out XO2.out) (xl_no) (XE_6.out) (XT_6.out) (XL_6.out)).fx (wr1_row _ w.heap.size _).1 (on_not HDN.out)).imp (fun k _ (x:sb<k)=>Nat.le_trans HSB.out (Nat.le_of_lt x)),if_eqv EB.out ET.out EL.out⟩,HR6.out.row HRN.out _,fx_row HF6.out (.inr HNB.out) _⟩
   ·have E2:=E3.out
    rw[if_neg ce]at E2;have Ed:=Hj E2;have ea:acS s3 elseW=s3:=if_neg ce;rw[ea]at h';rw[beq_no ce];have HRd:=Hj h';clear h' ea E2 ce E3
    go_wp2_with (first
     | refine ld_stm ⟨2,ps,[],⟨none,0,0⟩,0,0,⟨A,n,cp⟩,⟨none,0,0⟩⟩ b.h sb SB_d.out rfl _ rfl rfl ?_
     | refine st_stm ⟨2,ps,[],⟨none,0,0⟩,0,0,⟨A,n,cp⟩,⟨none,0,0⟩⟩ b.h w.heap.size _ NB_d.out rfl rfl _ _ rfl rfl rfl ?_)
    refine bodyPost_ret (rs_stm rfl _ _ w.heap.size ⟨2,ps,[],⟨none,0,0⟩,0,0,⟨A,n,cp⟩,⟨none,0,0⟩⟩ b.h rfl (NB_d.out.rowS _)) rfl ?_;rw[←Ed.out];exact⟨_,rfl,⟨St.mk ⟨2,ps,[],⟨none,0,0⟩,0,0,⟨A,n,cp⟩,⟨none,0,0⟩⟩ (fun _=>.no) b K (fun _=>.no),rfl,((st_in (sh_ok (by decide) (by decide) HP.out.1 HP.out.2 (by decide) (by decide) (by decide) (by decide) (Nat.zero_le _) sl_no XO.out sl_no) (xl_no) (XE_d.out) (XT_d.out) (xb_no)).fx (wr1_row _ w.heap.size _).1 (on_not HDN.out)).imp (fun k _ (x:sb<k)=>Nat.le_trans HSB.out (Nat.le_of_lt x)),if_eqv EB.out ET.out seq_nil⟩,HRd.out.row HRN.out _,fx_row HFd.out (.inr HNB.out) _⟩
theorem ppassign_of (R d k:Nat)(hdk:d+k=24)(t:Tk)(ht:Hd t)(s:PS)(w:World)(h:Rdr R d s w):Calls Tryz.prog 129 #[.pointer (some ⟨R,0,none⟩),t.v] w (PO R d w (assignS k t.ps t.tx s) (VS w.heap.size)):=by
 have ft:=fun t w=>tkv_tx t w;have BL:Below w.heap.size w (((w.alloc (oK t)).alloc zS).alloc (.cells (stvs ⟨1,t.ps,t.tx,⟨none,0,0⟩,0,0,⟨none,0,0⟩,⟨none,0,0⟩⟩ zeroH).toArray 48)):=bel_alloc (bel_alloc (bel_one w _) _) _
 have k0:Blk (((w.alloc (oK t)).alloc zS).alloc (.cells (stvs ⟨1,t.ps,t.tx,⟨none,0,0⟩,0,0,⟨none,0,0⟩,⟨none,0,0⟩⟩ zeroH).toArray 48)) (w.heap.size+1) 48 (stvs zeroS zeroH).toArray:=by
  have:=(Blk.new (w.alloc (oK t)) 48 (stvs zeroS zeroH).toArray).alloc (.cells (stvs ⟨1,t.ps,t.tx,⟨none,0,0⟩,0,0,⟨none,0,0⟩,⟨none,0,0⟩⟩ zeroH).toArray 48);rw[World.size_alloc]at this;exact this
 have k1:Blk (((w.alloc (oK t)).alloc zS).alloc (.cells (stvs ⟨1,t.ps,t.tx,⟨none,0,0⟩,0,0,⟨none,0,0⟩,⟨none,0,0⟩⟩ zeroH).toArray 48)) (w.heap.size+1+1) 48 (stvs ⟨1,t.ps,t.tx,⟨none,0,0⟩,0,0,⟨none,0,0⟩,⟨none,0,0⟩⟩ zeroH).toArray:=by
  have:=Blk.new ((w.alloc (oK t)).alloc zS) 48 (stvs ⟨1,t.ps,t.tx,⟨none,0,0⟩,0,0,⟨none,0,0⟩,⟨none,0,0⟩⟩ zeroH).toArray;rw[World.size_alloc,World.size_alloc]at this;exact this
 have hl:=h.lt;have NB_0:=Hj k0;have SB_0:=Hj k1;have HR:=Hj (h.below BL h.lt);have HF:Hid (Fx (On R) w.heap.size w (((w.alloc (oK t)).alloc zS).alloc (.cells (stvs ⟨1,t.ps,t.tx,⟨none,0,0⟩,0,0,⟨none,0,0⟩,⟨none,0,0⟩⟩ zeroH).toArray 48))):=Fx.of BL;have HRS:Hid (R<w.heap.size+1+1):=(by show R<w.heap.size+1+1;omega);have HRN:Hid (R<w.heap.size+1):=(by show R<w.heap.size+1;omega);have HSB:Hid (w.heap.size≤w.heap.size+1+1):=(by show w.heap.size≤w.heap.size+1+1;omega);have HNB:Hid (w.heap.size≤w.heap.size+1):=(by show w.heap.size≤w.heap.size+1;omega);have HNE:Hid (w.heap.size+1≠w.heap.size+1+1):=(by show w.heap.size+1≠w.heap.size+1+1;omega);have HD:Hid (¬(fun k=>w.heap.size+1+1<k) R):=(fun(x:w.heap.size+1+1<R)=>by omega);have HDS:Hid (¬(fun k=>w.heap.size+1+1<k) (w.heap.size+1+1)):=Nat.lt_irrefl _;have HDN:Hid (¬(fun k=>w.heap.size+1+1<k) (w.heap.size+1)):=(fun(x:w.heap.size+1+1<w.heap.size+1)=>by omega);have HP:=Hj ht;generalize hZ:assignS k t.ps t.tx s=Z;unfold assignS at hZ;have E:=Hj hZ;clear BL k0 k1 h hZ ht hl;show Calls Tryz.prog 129 #[.pointer (some ⟨R,0,none⟩),.agg #[.int .u8 t.kd,.int .i64 t.ps,.string ⟨t.tx.toArray⟩,.int .i32 t.nn,.int .u64 t.ff]] w _;go_enter Tryz.func129,Tryz.ntmps129
 go_upto_region 2 with fail;change (Code.region 2 _ _).wp _ _ _ (((w.alloc (oK t)).alloc zS).alloc (.cells (stvs ⟨1,t.ps,t.tx,⟨none,0,0⟩,0,0,⟨none,0,0⟩,⟨none,0,0⟩⟩ zeroH).toArray 48));generalize (((w.alloc (oK t)).alloc zS).alloc (.cells (stvs ⟨1,t.ps,t.tx,⟨none,0,0⟩,0,0,⟨none,0,0⟩,⟨none,0,0⟩⟩ zeroH).toArray 48))=w0 at *;generalize w.heap.size+1=nb at *;generalize nb+1=sb at *;go_wp2_with fail;refine(ppindex_at R k d hdk s w0 HR.out).mono ?_;intro r wa1 hpo
 cases hres:index (dK k) s with
 | no c q=>
  rw[hres]at hpo;obtain⟨rfl,f⟩:=hpo;have HFn:=Hj (fx_trans HF.out f);have E2:=E.out;rw[hres,bind_no]at E2;have En:=Hj E2;clear f hres E2;go_wp2_with fail;refine⟨rfl,?_⟩;rw[←En.out];exact⟨rfl,HFn.out⟩
 | ok l s2=>
  rw[hres]at hpo;obtain⟨v,rfl,⟨S,K,hv,xb,eb⟩,h',f⟩:=hpo;obtain⟨A,n,cp⟩:=S;unfold Sl.val at hv;subst hv;have EL:=Hj eb;have XO:=Hj xb.1;have E2:=E.out;rw[hres,bind_ok]at E2;have E1:=Hj E2;have HR1:=Hj h';have HF1:=Hj (fx_trans HF.out f);have NB_1:=Hj (f.blk NB_0.out NB_0.out.lt (on_ne HRN.out));have SB_1:=Hj (f.blk SB_0.out SB_0.out.lt (on_ne HRS.out));have XI_1:=Hj (xb.imp (D':=fun k=>sb<k) (fun k _ (x:w0.heap.size≤k)=>Nat.lt_of_lt_of_le SB_0.out.lt x));clear f hres h' E2 HR HF E NB_0 SB_0;clear xb eb;have m2:wa1.cell? ⟨sb,3,none⟩=some (.slice none 0 0):=SB_1.out.cell 3;have z2:wa1.frozen? ⟨sb,3,none⟩=false:=SB_1.out.frozen 3;have SB_2:Hid (Blk (wa1.setCell ⟨sb,3,none⟩ (.slice A n cp)) sb 48 (stvs ⟨1,t.ps,t.tx,⟨A,n,cp⟩,0,0,⟨none,0,0⟩,⟨none,0,0⟩⟩ zeroH).toArray):=SB_1.out.set_ 3 (.slice A n cp);have WR2:=Hj (wr1_set wa1 sb 3 (.slice A n cp));go_upto_region 3 with fail;change (Code.region 3 _ _).wp _ _ _ (wa1.setCell ⟨sb,3,none⟩ (.slice A n cp));clear m2 z2;generalize wa1.setCell ⟨sb,3,none⟩ (.slice A n cp)=wb2 at *;have HR2:=Hj (WR2.out.rdr HR1.out HRS.out);have HF2:=Hj (WR2.out.fx HF1.out HSB.out);have NB_2:=Hj (WR2.out.blk NB_1.out HNE.out);have XI_2:=Hj (XI_1.out.fx WR2.out.1 (on_not HDS.out))
  clear HR1 HF1 NB_1 SB_1 XI_1;go_wp2_with fail;refine(ppexpect_any R d s2 [61] (by decide) wb2 HR2.out).mono ?_;intro r wa3 hpo
  cases hres:expT [61] s2 with
  | no c q=>
   rw[hres]at hpo;obtain⟨rfl,f⟩:=hpo;have HFn:=Hj (fx_trans HF2.out f);have E2:=E1.out;rw[hres,bind_no]at E2;have En:=Hj E2;clear f hres E2;go_wp2_with fail;refine⟨rfl,?_⟩;rw[←En.out];exact⟨rfl,HFn.out⟩
  | ok u s3=>
   rw[hres]at hpo;obtain⟨v,rfl,hv,h',f⟩:=hpo;unfold V0 at hv;subst hv;have E2:=E1.out;rw[hres,bind_ok]at E2;have E3:=Hj E2;have HR3:=Hj h';have HF3:=Hj (fx_trans HF2.out f);have NB_3:=Hj (f.blk NB_2.out NB_2.out.lt (on_ne HRN.out));have SB_3:=Hj (f.blk SB_2.out SB_2.out.lt (on_ne HRS.out));have XI_3:=Hj (XI_2.out.fx f (on_not HD.out));clear f hres h' E2 HR2 HF2 E1 NB_2 SB_2 XI_2;go_wp2_with fail;refine(ppexpr_at R k d hdk s3 wa3 HR3.out).mono ?_;intro r wa4 hpo
   cases hres:exK k s3 with
   | no c q=>
    rw[hres]at hpo;obtain⟨rfl,f⟩:=hpo;have HFn:=Hj (fx_trans HF3.out f);have E2:=E3.out;rw[hres,bind_no]at E2;have En:=Hj E2;clear f hres E2;go_wp2_with fail;refine⟨rfl,?_⟩;rw[←En.out];exact⟨rfl,HFn.out⟩
   | ok e s4=>
    rw[hres]at hpo;obtain⟨v,rfl,⟨b,hv,xb,eb⟩,h',f⟩:=hpo;subst hv;have EB:=Hj eb;have E2:=E3.out;rw[hres,bind_ok]at E2;have E4:=Hj E2;have HR4:=Hj h';have HF4:=Hj (fx_trans HF3.out f);have NB_4:=Hj (f.blk NB_3.out NB_3.out.lt (on_ne HRN.out));have SB_4:=Hj (f.blk SB_3.out SB_3.out.lt (on_ne HRS.out));have XI_4:=Hj (XI_3.out.fx f (on_not HD.out));have XE_4:=Hj (xb.imp (D':=fun k=>sb<k) (fun k _ (x:wa3.heap.size≤k)=>Nat.lt_of_lt_of_le SB_3.out.lt x));clear f hres h' E2 HR3 HF3 E3 NB_3 SB_3 XI_3;clear xb eb
    go_upto_region 5 with(refine st_se ⟨1,t.ps,t.tx,⟨A,n,cp⟩,0,0,⟨none,0,0⟩,⟨none,0,0⟩⟩ zeroH b.h sb SB_4.out rfl _ _ rfl rfl rfl ?_;intro wb5 SB_5 WR5)
    have HR5:=Hj (WR5.out.rdr HR4.out HRS.out);have HF5:=Hj (WR5.out.fx HF4.out HSB.out);have NB_5:=Hj (WR5.out.blk NB_4.out HNE.out);have XI_5:=Hj (XI_4.out.fx WR5.out.1 (on_not HDS.out));have XE_5:=Hj (XE_4.out.fx WR5.out.1 (on_not HDS.out));clear HR4 HF4 NB_4 SB_4 XI_4 XE_4;go_wp2_with fail;refine(ppexpect_any R d s4 [59] (by decide) wb5 HR5.out).mono ?_;intro r wa6 hpo
    cases hres:expT [59] s4 with
    | no c q=>
     rw[hres]at hpo;obtain⟨rfl,f⟩:=hpo;have HFn:=Hj (fx_trans HF5.out f);have E2:=E4.out;rw[hres,bind_no]at E2;have En:=Hj E2;clear f hres E2;go_wp2_with fail;refine⟨rfl,?_⟩;rw[←En.out];exact⟨rfl,HFn.out⟩
    | ok u2 s5=>
     rw[hres]at hpo;obtain⟨v,rfl,hv,h',f⟩:=hpo;unfold V0 at hv;subst hv;have E2:=E4.out;rw[hres,bind_ok]at E2;have E6:=Hj E2;have HR6:=Hj h';have HF6:=Hj (fx_trans HF5.out f);have NB_6:=Hj (f.blk NB_5.out NB_5.out.lt (on_ne HRN.out));have SB_6:=Hj (f.blk SB_5.out SB_5.out.lt (on_ne HRS.out));have XI_6:=Hj (XI_5.out.fx f (on_not HD.out));have XE_6:=Hj (XE_5.out.fx f (on_not HD.out));clear f hres h' E2 HR5 HF5 E4 NB_5 SB_5 XI_5 XE_5
     go_wp2_with (first
      | refine ld_stm ⟨1,t.ps,t.tx,⟨A,n,cp⟩,0,0,⟨none,0,0⟩,⟨none,0,0⟩⟩ b.h sb SB_6.out rfl _ rfl rfl ?_
      | refine st_stm ⟨1,t.ps,t.tx,⟨A,n,cp⟩,0,0,⟨none,0,0⟩,⟨none,0,0⟩⟩ b.h nb _ NB_6.out rfl rfl _ _ rfl rfl rfl ?_)
     refine bodyPost_ret (rs_stm rfl _ _ nb ⟨1,t.ps,t.tx,⟨A,n,cp⟩,0,0,⟨none,0,0⟩,⟨none,0,0⟩⟩ b.h rfl (NB_6.out.rowS _)) rfl ?_;rw[←E6.out];exact⟨_,rfl,⟨St.mk ⟨1,t.ps,t.tx,⟨A,n,cp⟩,0,0,⟨none,0,0⟩,⟨none,0,0⟩⟩ K b (fun _=>.no) (fun _=>.no),rfl,((st_in (sh_ok (by decide) (by decide) HP.out.ps0 HP.out.ps1 (by decide) (by decide) (by decide) (by decide) HP.out.len XO.out sl_no sl_no) (XI_6.out) (XE_6.out) (xb_no) (xb_no)).fx (wr1_row _ nb _).1 (on_not HDN.out)).imp (fun k _ (x:sb<k)=>Nat.le_trans HSB.out (Nat.le_of_lt x)),as_eqv EB.out EL.out⟩,HR6.out.row HRN.out _,fx_row HF6.out (.inr HNB.out) _⟩
def GS (bl:Nat)(l:List St)(w:World):Prop:=∃S K,Blk w bl 23 #[Sl.val S]∧XB (fun k=>bl<k) S K w∧Seq S K l
theorem gs_fx {R bl:Nat}(hR:R<bl)(a:List St)(w1 w2:World)(h:GS bl a w1)(hf:Fx (On R) w1.heap.size w1 w2):GS bl a w2:=by
 obtain⟨S,K,h1,h2,h3⟩:=h;exact⟨S,K,hf.blk h1 h1.lt (on_ne hR),h2.fx hf (on_not (fun x:bl<R=>by omega)),h3⟩
theorem XS.set {D:Nat→Prop}{s:St}{w:World}(h:XS D s w){p:Addr}(hp:¬D p.block)(v:Value):XS D s (w.setCell p v):=h.fx (X:=On p.block) (fx_set (X:=On p.block) (Fx.refl _ _ _) (.inl rfl) v) (on_not hp)
theorem one_srow {D:Nat→Prop}{w:World}{s:St}(h1:XS D s w)(hL:D w.heap.size){w':World}{t:TypeId}(hw:w'=w.alloc (.cells (stvs s.h s.e.h).toArray t)):XB D ⟨some ⟨w.heap.size,0,none⟩,1,1⟩ (fun _=>s) w':=by
 subst hw;have k:XS D s (w.alloc (.cells (stvs s.h s.e.h).toArray t)):=h1.bel (bel_one _ _);refine⟨sl_ok _ _ (by decide),?_,fun i hi=>k⟩;intro a ha i hi;cases ha;have hi:i<1:=hi;refine⟨by rw[World.size_alloc];exact Nat.lt_succ_self _,fun j v hv=>?_⟩;have hb:=Blk.new w t (stvs s.h s.e.h).toArray;rw[up_cell,Addr.add_mid];refine⟨hL,?_⟩;rw[Nat.zero_add,hb.cell];simp only[List.getElem?_toArray];obtain rfl:i=0:=by omega
 simpa using hv
theorem runs_el1:Runs 180:=runs_of (by rfl) (by kernel_rfl) rfl
def oneSt (P:PS→Rs St)(s:PS):Rs (List St):=(P s).bind fun e s'=>.ok [e] s'
theorem ppel1_of (R d b0 bl:Nat)(P:PS→Rs St)(hP:ReadS R d 106 P)(s:PS)(w:World)(h:Rdr R d s w)(h0:Blk w b0 108 #[.pointer (some ⟨R,0,none⟩)])(old:Value)(he:Blk w bl 23 #[old])(hb:R<bl) :
  Calls Tryz.prog 180 #[.pointer (some ⟨b0,0,none⟩),.pointer (some ⟨bl,0,none⟩)] w (PC R d (Two R bl) w (oneSt P s) (GS bl)):=by
 have c0:w.cell? ⟨b0,0,none⟩=some (.pointer (some ⟨R,0,none⟩)):=h0.cell 0;have HE:=Hj he;have HR:=Hj h;have HB:=Hj hb;generalize hZ:oneSt P s=Z;have HZ:=Hj hZ;clear h0 he h hb hZ;go_enter Tryz.func180,Tryz.ntmps180;go_wp2_with fail;refine(hP s w HR.out).mono ?_;intro r w1 hpo
 cases hres:P s with
 | no c q=>
  rw[hres]at hpo;obtain⟨rfl,f1⟩:=hpo;have HF1:=Hj f1;have E:Hid (Z=.no c q):=by show Z=_;rw[←HZ.out];unfold oneSt;rw[hres];rfl
  clear f1 hres;go_wp2_with fail;refine⟨rfl,?_⟩;rw[E.out];exact⟨rfl,HF1.out.mono (Nat.le_refl _) (fun k _ x=>.inl x)⟩
 | ok e s1=>
  rw[hres]at hpo;obtain⟨v,rfl,⟨b,rfl,xb,eb⟩,h1,f1⟩:=hpo;have E:Hid (Z=.ok [e] s1):=by show Z=_;rw[←HZ.out];unfold oneSt;rw[hres];rfl
  have e1:=f1.blk HE.out HE.out.lt (on_ne HB.out);have x1:=xb.imp (D':=fun k=>bl<k) (fun k _ (x:w.heap.size≤k)=>Nat.lt_of_lt_of_le HE.out.lt x);have hsz:(w1.setCell ⟨bl,0,none⟩ (.slice (some ⟨w1.heap.size,0,none⟩) 1 1)).heap.size=w1.heap.size:=World.size_setCell ..;have x2:=x1.set (p:=⟨bl,0,none⟩) (Nat.lt_irrefl _) (.slice (some ⟨w1.heap.size,0,none⟩) 1 1);have e2:=e1.set_ 0 (.slice (some ⟨w1.heap.size,0,none⟩) 1 1);have BLb:=bel_one (w1.setCell ⟨bl,0,none⟩ (.slice (some ⟨w1.heap.size,0,none⟩) 1 1)) (.cells (stvs b.h b.e.h).toArray 48);have HL2:=Hj (one_srow x2 (by rw[hsz];exact e1.lt) (t:=48) rfl);rw[hsz]at HL2;have HE2:=Hj (e2.below BLb e2.lt);have hr:=h1.set (p:=⟨bl,0,none⟩) HB.out (.slice (some ⟨w1.heap.size,0,none⟩) 1 1);have HR2:=Hj (hr.below BLb hr.lt);have HF2:=Hj (fx_bel (fx_set (f1.mono (Y:=Two R bl) (Nat.le_refl _) (fun k _ x=>.inl x)) (p:=⟨bl,0,none⟩) (.inl (.inr rfl)) (.slice (some ⟨w1.heap.size,0,none⟩) 1 1)) BLb);have m2:w1.cell? ⟨bl,0,none⟩=some old:=e1.cell 0;have z2:w1.frozen? ⟨bl,0,none⟩=false:=e1.frozen 0;have lb:=e1.lt;have EB:=Hj eb;clear f1 hres xb h1 eb HE HR e1 x1 BLb hsz x2 e2 hr;unfold stv;go_wp2_with fail;refine bodyPost_end (results_none rfl _ _ _) rfl ?_;rw[E.out]
  refine⟨rfl,⟨⟨some ⟨w1.heap.size,0,none⟩,1,1⟩,fun _=>b,HE2.out,HL2.out,rfl,fun i hi=>?_⟩,HR2.out,HF2.out⟩;have hi:i<1:=hi;obtain rfl:i=0:=by omega
  exact EB.out
def zSs:Obj:=.cells #[.slice none 0 0] 23
theorem ppotherwise_of (R d k:Nat)(hdk:d+k=24)(hb:ReadB R d 84 (blk (sK k)))(hs:∀k',k=k'+1→ReadS R (d+1) 106 (stK k')):ReadB R d 152 (elsS (sK k)):=by
 intro s w h;have hmf:∀(fn:Fn) (first cap:Array Value) (w:World),(Instr.makeFunc fn first cap).run Tryz.prog w=.ok (.func fn first cap) w:=fun _ _ _ _=>rfl;have BL:Below w.heap.size w (w.alloc (oR R)):=bel_one w _;have k0:Blk (w.alloc (oR R)) w.heap.size 108 #[.pointer (some ⟨R,0,none⟩)]:=Blk.new w _ _;have hl:=h.lt;have HK:=Hj k0;have c0:(w.alloc (oR R)).cell? ⟨w.heap.size,0,none⟩=some (.pointer (some ⟨R,0,none⟩)):=k0.cell 0;have HR:=Hj (h.below BL h.lt);have HF:Hid (Fx (On R) w.heap.size w (w.alloc (oR R))):=Fx.of BL;have HLT:=Hj hl;have HDK:=Hj hdk;have HB:=Hj hb;have HS:=Hj hs;clear BL k0 h hl hdk hb hs;generalize hZ:elsS (sK k) s=Z;have HZ:=Hj hZ;clear hZ;go_enter Tryz.func152,Tryz.ntmps152;go_upto_region 1 with fail;change (Code.region 1 _ _).wp _ _ _ (w.alloc (oR R));generalize w.alloc (oR R)=wx at *;go_wp2_with fail;refine(ppsees_any R d s ifW wx HR.out).mono ?_;rintro e w1 ⟨rfl,hb⟩;have k0:=HK.out.below hb HK.out.lt;have HR1:=Hj (HR.out.below hb HR.out.lt);have HF1:=Hj (fx_bel HF.out hb);have d0:w1.cell? ⟨w.heap.size,0,none⟩=some (.pointer (some ⟨R,0,none⟩)):=k0.cell 0;have HS1:Hid (w.heap.size<w1.heap.size):=k0.lt;have HK1:=Hj k0;clear k0 hb HK HR HF c0
 by_cases c1:s.hd.tx=ifW
 ·rw[beq_yes c1]
  have E:Hid ((match sK k with|none=>.no 111 s.hd.ps|some p=>(p s).bind fun x s'=>.ok [x] s')=Z):=by show _=Z;rw[←HZ.out];unfold elsS;rw[if_pos c1];cases sK k<;>rfl
  have BLb:=bel_one w1 zSs;have k1:=HK1.out.below BLb HK1.out.lt;have HLB:Hid (Blk (w1.alloc zSs) w1.heap.size 23 #[.slice none 0 0]):=Blk.new _ _ _;have HR2:=Hj (HR1.out.below BLb HR1.out.lt);have HF2:=Hj (fx_bel HF1.out BLb);have e0:(w1.alloc zSs).cell? ⟨w.heap.size,0,none⟩=some (.pointer (some ⟨R,0,none⟩)):=k1.cell 0;have HK2:=Hj k1;clear c1 HZ HB BLb k1 HK1 HR1 HF1 d0;go_upto_region 4 with fail;change (Code.region 4 _ _).wp _ _ _ (w1.alloc zSs);generalize w1.alloc zSs=w2 at *;generalize w1.heap.size=g at *;have HRg:Hid (R<g):=Nat.lt_trans HLT.out HS1.out
  cases k with
  | zero=>
   obtain rfl:d=24:=by have:=HDK.out;omega
   have E2:Hid (Z=.no 111 s.hd.ps):=by show Z=_;rw[←E.out];rfl
   clear E HS;go_wp2_with fail;refine(ppdeeper_max R s _ w2 HR2.out).mono ?_;rintro r w5 ⟨rfl,hb⟩;have HF5:=Hj (fx_bel HF2.out hb);clear hb;go_wp2_with fail;refine⟨rfl,?_⟩;rw[E2.out];exact⟨rfl,HF5.out⟩
  | succ k'=>
   have E2:Hid (oneSt (stK k') s=Z):=by show _=Z;rw[←E.out];rfl
   have hd:d<24:=by have:=HDK.out;omega
   have DP:=Hj (ppdeeper_of R d 180 #[.pointer (some ⟨w.heap.size,0,none⟩),.pointer (some ⟨g,0,none⟩)] (Two R g) s (oneSt (stK k') s) (GS g) runs_el1 (.inl rfl) (fun a w1 w2=>gs_fx HRg.out a w1 w2) w2 HR2.out hd
    (fun w5 h5 f5=>ppel1_of R (d+1) _ g (stK k') (HS.out k' rfl) s w5 h5 (f5.blk HK2.out HK2.out.lt (on_ne HLT.out)) _ (f5.blk HLB.out HLB.out.lt (on_ne HRg.out)) HRg.out))
   rw[E2.out]at DP;clear E hd HS HLB E2;go_wp2_with fail;refine DP.out.mono ?_;intro r w5 hpo;clear DP
   cases Z with
   | no c q=>
    obtain⟨rfl,f5⟩:=hpo;have HF5:=Hj (HF2.out.trans (two_on f5 HF2.out.size (Nat.le_of_lt HS1.out)));clear f5;go_wp2_with fail;exact⟨rfl,rfl,HF5.out⟩
   | ok l s5=>
    obtain⟨rfl,⟨S,K,hb,xb,eb⟩,h5,f5⟩:=hpo;have HF5:=Hj (HF2.out.trans (two_on f5 HF2.out.size (Nat.le_of_lt HS1.out)));have e1:w5.cell? ⟨g,0,none⟩=some (.slice S.ao S.n S.c):=hb.cell 0;have HX:=Hj xb;have HR5:=Hj h5;have EB:=Hj eb;clear f5 xb h5 eb hb HF2;go_wp2_with fail;refine bodyPost_ret (results_tmp rfl _ _ _) rfl ?_;exact⟨_,rfl,⟨S,K,rfl,HX.out.imp (fun k _ (x:g<k)=>Nat.le_of_lt (Nat.lt_trans HS1.out x)),EB.out⟩,HR5.out,HF5.out⟩
 ·rw[beq_no c1]
  have E:Hid (blk (sK k) s=Z):=by show _=Z;rw[←HZ.out];unfold elsS;rw[if_neg c1]
  have A:=Hj (HB.out s w1 HR1.out);rw[E.out]at A;clear c1 HZ E HB HS;go_wp2_with fail;refine A.out.mono ?_;intro r w3 hpo;clear A
  cases Z with
  | no c q=>
   obtain⟨rfl,f3⟩:=hpo;have HF3:=Hj (fx_trans HF1.out f3);clear f3;go_wp2_with fail;exact⟨rfl,rfl,HF3.out⟩
  | ok l s3=>
   obtain⟨v,rfl,⟨S,K,rfl,xb,eb⟩,h3,f3⟩:=hpo;have HF3:=Hj (fx_trans HF1.out f3);have HX:=Hj xb;have HR3:=Hj h3;have EB:=Hj eb;clear f3 xb h3 eb;go_wp2_with fail;refine bodyPost_ret (results_tmp rfl _ _ _) rfl ?_;exact⟨_,rfl,⟨S,K,rfl,HX.out.imp (fun k _ (x:w1.heap.size≤k)=>Nat.le_of_lt (Nat.lt_of_lt_of_le HS1.out x)),EB.out⟩,HR3.out,HF3.out⟩
end Go.Proofs.YtkbicfffokegeaaGreatDoor
