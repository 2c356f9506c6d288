/-
  ParseBack holds, tied to the program's text. (part 24 of 41) Conditions: none beside what the card ties.
-/
import Derived.Test.YthmlhkllbichgaaGreatDoorWaw
import Derived.Test.YthmlhkllbichgaaGreatDoorWah
namespace Go.Proofs.YthmlhkllbichgaaGreatDoor
set_option maxHeartbeats 16000000
open Go.RowKit
set_option maxRecDepth 100000
theorem ppinteger_any (R d:Nat)(m:Bool)(s:PS)(w:World)(h:Rdr R d s w):Calls Tryz.prog 182 #[.pointer (some ⟨R,0,none⟩),.bool m] w (PO R d w (intT m s) fun n v _=>v=.int .i32 n):=by
 have fn:=fun t w=>tkv_nn t w
 have HR:=Hj h
 have hn0:0≤s.hd.nn:=h.good.hd.nn0
 have hn1:s.hd.nn≤2147483647:=h.good.hd.nn1
 have HNN:=Hj (And.intro hn0 hn1)
 clear h hn0 hn1
 generalize hZ:intT m s=Z
 have HZ:=Hj hZ
 clear hZ
 go_enter Tryz.func182,Tryz.ntmps182
 go_wp2_with fail
 refine(pptakeKind_any R d s 2 (by decide) w HR.out).mono ?_
 intro r w1 hpo
 cases hres:kindT 2 s with
 | no c q=>
  rw[hres]at hpo
  obtain⟨rfl,f1⟩:=hpo
  have HF1:=Hj f1
  have E:Hid (Z=.no c q):=by show Z=_;rw[←HZ.out];unfold intT;rw[hres];rfl
  clear f1 hres
  go_wp2_with fail
  refine⟨rfl,?_⟩
  rw[E.out]
  exact⟨rfl,HF1.out⟩
 | ok t s1=>
  rw[hres]at hpo
  obtain⟨v,rfl,rfl,h1,f1⟩:=hpo
  have ht:t=s.hd:=by
   unfold kindT at hres
   split at hres
   ·cases hres;rfl
   ·cases hres
  have E:Hid (Z=.ok (if m then -t.nn else t.nn) s1):=by show Z=_;rw[←HZ.out];unfold intT;rw[hres];rfl
  subst ht
  have HF1:=Hj f1
  have HR1:=Hj h1
  have hn:=HNN.out
  have ov:wrap32 (-s.hd.nn) = -s.hd.nn:=by unfold wrap32;omega
  clear f1 hres h1
  cases m with
  | true=>
   go_wp2_with fail
   refine bodyPost_ret (results_tmp rfl _ _ _) rfl ?_
   rw[E.out]
   exact⟨_,rfl,by simp[*],HR1.out,HF1.out⟩
  | false=>
   go_wp2_with fail
   refine bodyPost_ret (results_tmp rfl _ _ _) rfl ?_
   rw[E.out]
   exact⟨_,rfl,rfl,HR1.out,HF1.out⟩
theorem pptypeName_any (R d:Nat)(s:PS)(w:World)(h:Rdr R d s w):Calls Tryz.prog 143 #[.pointer (some ⟨R,0,none⟩)] w (PO R d w (typN s) fun n v _=>v=.int .u8 n):=by
 have HR:=Hj h
 have A:=Hj (ppaccept_any R d s [98,111,111,108] (by decide) w h)
 clear h
 by_cases c1:s.hd.tx=[98,111,111,108]
 ·have e1:typN s=.ok 1 s.tk:=if_pos c1
  have e2:acS s [98,111,111,108]=s.tk:=if_pos c1
  rw[e1]
  rw[beq_yes c1,e2]at A
  clear e1 e2 c1
  go_enter Tryz.func143,Tryz.ntmps143
  go_wp2_with fail
  refine A.out.mono ?_
  rintro r w1 ⟨rfl,h1,f1⟩
  have HR1:=Hj h1
  have HF1:=Hj f1
  clear h1 f1 A
  go_wp2_with fail
  exact bodyPost_ret (results_tmp rfl _ _ _) rfl ⟨_,rfl,rfl,HR1.out,HF1.out⟩
 ·have e2:acS s [98,111,111,108]=s:=if_neg c1
  rw[beq_no c1,e2]at A
  by_cases c2:s.hd.tx=[105,110,116]
  ·have e1:typN s=.ok 2 s.tk:=by unfold typN;rw[if_neg c1,if_pos c2]
   rw[e1]
   have B:=Hj fun w h=>ppaccept_any R d s [105,110,116] (by decide) w h
   have e3:acS s [105,110,116]=s.tk:=if_pos c2
   rw[beq_yes c2,e3]at B
   clear e1 e2 e3 c1 c2
   go_enter Tryz.func143,Tryz.ntmps143
   go_wp2_with fail
   refine A.out.mono ?_
   rintro r w1 ⟨rfl,h1,f1⟩
   have HR1:=Hj h1
   have HF1:=Hj f1
   clear h1 f1 A
   go_wp2_with fail
   refine(B.out w1 HR1.out).mono ?_
   rintro r w2 ⟨rfl,h2,f2⟩
   have HR2:=Hj h2
   have HF2:=Hj (fx_trans HF1.out f2)
   clear h2 f2 B
   go_wp2_with fail
   exact bodyPost_ret (results_tmp rfl _ _ _) rfl ⟨_,rfl,rfl,HR2.out,HF2.out⟩
  ·have e1:typN s=(expT [102,108,111,97,116] s).bind fun _ s'=>.ok 3 s':=by unfold typN;rw[if_neg c1,if_neg c2]
   have B:=Hj fun w h=>ppaccept_any R d s [105,110,116] (by decide) w h
   have e3:acS s [105,110,116]=s:=if_neg c2
   rw[beq_no c2,e3]at B
   rw[e1]
   clear e1 e2 e3 c1 c2
   generalize hZ:((expT [102,108,111,97,116] s).bind fun _ s'=>Rs.ok (3:Int) s')=Z
   have HZ:=Hj hZ
   clear hZ
   go_enter Tryz.func143,Tryz.ntmps143
   go_wp2_with fail
   refine A.out.mono ?_
   rintro r w1 ⟨rfl,h1,f1⟩
   have HR1:=Hj h1
   have HF1:=Hj f1
   clear h1 f1 A
   go_wp2_with fail
   refine(B.out w1 HR1.out).mono ?_
   rintro r w2 ⟨rfl,h2,f2⟩
   have HR2:=Hj h2
   have HF2:=Hj (fx_trans HF1.out f2)
   clear h2 f2 B
   go_wp2_with fail
   refine(ppexpect_any R d s [102,108,111,97,116] (by decide) w2 HR2.out).mono ?_
   intro r w3 hpo
   cases hres:expT [102,108,111,97,116] s with
   | no c q=>
    rw[hres]at hpo
    obtain⟨rfl,f3⟩:=hpo
    have HF3:=Hj (fx_trans HF2.out f3)
    have E:Hid (Z=.no c q):=by show Z=_;rw[←HZ.out,hres];rfl
    clear f3 hres
    go_wp2_with fail
    refine⟨rfl,?_⟩
    rw[E.out]
    exact⟨rfl,HF3.out⟩
   | ok u s3=>
    rw[hres]at hpo
    obtain⟨v,rfl,hv,h3,f3⟩:=hpo
    unfold V0 at hv
    subst hv
    have HF3:=Hj (fx_trans HF2.out f3)
    have HR3:=Hj h3
    have E:Hid (Z=.ok 3 s3):=by show Z=_;rw[←HZ.out,hres];rfl
    clear f3 hres h3
    go_wp2_with fail
    refine bodyPost_ret (results_tmp rfl _ _ _) rfl ?_
    rw[E.out]
    exact⟨_,rfl,rfl,HR3.out,HF3.out⟩
theorem minus_eq (s:PS):minus s=(s.hd.tx == [45],acS s [45]):=by
 unfold minus acS
 split
 ·rename_i h;rw[beq_yes h]
 ·rename_i h;rw[beq_no h]
theorem ppwhole_any (R d:Nat)(s:PS)(w:World)(h:Rdr R d s w):Calls Tryz.prog 184 #[.pointer (some ⟨R,0,none⟩)] w (PO R d w (whl s) fun n v _=>v=.int .i32 n):=by
 have A:=Hj (ppaccept_any R d s [45] (by decide) w h)
 have e1:whl s=intT (s.hd.tx == [45]) (acS s [45]):=by unfold whl;rw[minus_eq]
 rw[e1]
 clear e1 h
 generalize (s.hd.tx == [45])=b at *
 generalize acS s [45]=s1 at *
 generalize hZ:intT b s1=Z
 have HZ:=Hj hZ
 clear hZ
 go_enter Tryz.func184,Tryz.ntmps184
 go_wp2_with fail
 refine A.out.mono ?_
 rintro r w1 ⟨rfl,h1,f1⟩
 have HF1:=Hj f1
 have B:=Hj (ppinteger_any R d b s1 w1 h1)
 rw[HZ.out]at B
 clear h1 f1 A
 go_wp2_with fail
 refine B.out.mono ?_
 intro r w2 hpo
 clear B
 cases Z with
 | no c q=>
  obtain⟨rfl,f2⟩:=hpo
  have HF2:=Hj (fx_trans HF1.out f2)
  clear f2
  go_wp2_with fail
  exact⟨rfl,rfl,HF2.out⟩
 | ok n s2=>
  obtain⟨v,rfl,rfl,h2,f2⟩:=hpo
  have HF2:=Hj (fx_trans HF1.out f2)
  have HR2:=Hj h2
  clear f2 h2
  go_wp2_with fail
  exact bodyPost_ret (results_tmp rfl _ _ _) rfl ⟨_,rfl,rfl,HR2.out,HF2.out⟩
theorem acS_good {s:PS}{x:List UInt8}(h:Good s.ts)(hx:x≠[]):Good (acS s x).ts:=by
 unfold acS
 split
 ·rename_i e
  exact h.tail' (by rw[←PS.hd,e];exact hx)
 ·exact h
theorem ppnumber_any (R d:Nat):Reads R d 145 numb:=by
 intro s w h
 have fk:=fun t w=>tkv_kd t w
 have fp:=fun t w=>tkv_ps t w
 have ff:=fun t w=>tkv_ff t w
 have NB:Hid (Blk (w.alloc zX) w.heap.size 41 zeroH.va):=Blk.new _ _ _
 have BL:=bel_one w zX
 have HR:=Hj (h.alloc zX)
 have HLT:=Hj h.lt
 have HS:Hid (Hd s.hd):=h.good.hd
 have HG1:=Hj (acS_good (x:=[45]) h.good (by decide))
 have HF:Hid (Fx (On R) w.heap.size w (w.alloc zX)):=Fx.of BL
 have e1:numb s=if(acS s [45]).hd.kd=3 then .ok (flX s.hd.ps (neF (s.hd.tx == [45]) (acS s [45]).hd.ff)) (acS s [45]).tk else(intT (s.hd.tx == [45]) (acS s [45])).bind fun n s'=>.ok (inX s.hd.ps n) s':=by
  unfold numb
  rw[minus_eq]
 rw[e1]
 have A:=Hj fun w h=>ppaccept_any R d s [45] (by decide) w h
 clear BL h e1
 generalize (s.hd.tx == [45])=b at *
 generalize acS s [45]=s1 at *
 have HS1:Hid (Hd s1.hd):=HG1.out.hd
 generalize hZ:(if s1.hd.kd=3 then Rs.ok (flX s.hd.ps (neF b s1.hd.ff)) s1.tk else(intT b s1).bind fun n s'=>.ok (inX s.hd.ps n) s')=Z
 have HZ:=Hj hZ
 clear hZ
 go_enter Tryz.func145,Tryz.ntmps145
 go_upto_region 1 with fail
 change (Code.region 1 _ _).wp _ _ _ (w.alloc zX)
 generalize w.alloc zX=wx at *
 go_wp2_with fail
 refine(ppnext_any R d s wx HR.out).mono ?_
 rintro e w1 ⟨rfl,hb⟩
 have NB1:=Hj (NB.out.below hb NB.out.lt)
 have HR1:=Hj (HR.out.below hb HR.out.lt)
 have HF1:=Hj (fx_bel HF.out hb)
 clear NB HR HF hb
 go_wp2_with fail
 refine(A.out w1 HR1.out).mono ?_
 rintro r w2 ⟨rfl,h2,f2⟩
 have NB2:=Hj (f2.blk NB1.out NB1.out.lt (on_ne HLT.out))
 have HF2:=Hj (fx_trans HF1.out f2)
 have HR2:=Hj h2
 clear h2 f2 A NB1 HR1 HF1
 go_wp2_with fail
 refine(ppnext_any R d s1 w2 HR2.out).mono ?_
 rintro e w3 ⟨rfl,hb⟩
 have NB3:=Hj (NB2.out.below hb NB2.out.lt)
 have HR3:=Hj (HR2.out.below hb HR2.out.lt)
 have HF3:=Hj (fx_bel HF2.out hb)
 clear NB2 HR2 HF2 hb
 by_cases c:s1.hd.kd=3
 ·have E:Hid (Z=.ok (flX s.hd.ps (neF b s1.hd.ff)) s1.tk):=by show Z=_;rw[←HZ.out,if_pos c]
  have hk:s1.hd.kd≠0:=by omega
  have c2:(s1.hd.kd == 3)=true:=by simp[c]
  have T:=Hj fun w h=>pptake_any R d s1 w h hk
  clear c hk HZ
  go_wp2_with fail
  refine(T.out w3 HR3.out).mono ?_
  rintro r w4 ⟨rfl,h4,f4⟩
  have NB4:=Hj (f4.blk NB3.out NB3.out.lt (on_ne HLT.out))
  have HF4:=Hj (fx_trans HF3.out f4)
  have HR4:=Hj h4
  clear h4 f4 T NB3 HR3 HF3
  have ok:∀f,0≤f→f<18446744073709551616→XO (Fro w.heap.size) (flX s.hd.ps f) (w4.setRow w.heap.size (EH.va ⟨3,s.hd.ps,false,0,f,[],⟨none,0,0⟩⟩)):=fun f h0 h1=>leaf_in (eh_ok (by decide) (by decide) HS.out.ps0 HS.out.ps1 (by decide) (by decide) h0 h1 (Nat.zero_le _) sl_no) rfl
  have OK:=Hj ok
  have hf0:=HS1.out.ff0
  have hf1:=HS1.out.ff1
  have or:=or63 hf0 hf1
  have HOR:=Hj (And.intro hf0 hf1)
  clear ok hf0 hf1
  cases b with
  | true=>
   have nf:neF true s1.hd.ff=s1.hd.ff+9223372036854775808:=by unfold neF;rw[if_pos rfl,if_pos HOR.out.2]
   rw[nf]at E
   clear nf
   go_wp2_with (refine st_ex ⟨3,s.hd.ps,false,0,s1.hd.ff+9223372036854775808,[],⟨none,0,0⟩⟩ w.heap.size _ NB4.out rfl rfl _ _ rfl rfl rfl ?_)
   refine bodyPost_ret (rs_ex rfl _ _ w.heap.size ⟨3,s.hd.ps,false,0,s1.hd.ff+9223372036854775808,[],⟨none,0,0⟩⟩ rfl (NB4.out.rowS _)) rfl ?_
   rw[E.out]
   exact⟨_,rfl,⟨flX s.hd.ps (s1.hd.ff+9223372036854775808),rfl,OK.out _ (by have:=HOR.out;omega) (by have:=HOR.out;omega),Ex.eqv_refl _⟩,HR4.out.row HLT.out _,fx_row HF4.out (.inr (Nat.le_refl _)) _⟩
  | false=>
   have nf:neF false s1.hd.ff=s1.hd.ff:=by unfold neF;rw[if_neg (by decide)]
   rw[nf]at E
   clear nf or
   go_wp2_with (refine st_ex ⟨3,s.hd.ps,false,0,s1.hd.ff,[],⟨none,0,0⟩⟩ w.heap.size _ NB4.out rfl rfl _ _ rfl rfl rfl ?_)
   refine bodyPost_ret (rs_ex rfl _ _ w.heap.size ⟨3,s.hd.ps,false,0,s1.hd.ff,[],⟨none,0,0⟩⟩ rfl (NB4.out.rowS _)) rfl ?_
   rw[E.out]
   exact⟨_,rfl,⟨flX s.hd.ps s1.hd.ff,rfl,OK.out _ (by have:=HOR.out;omega) (by have:=HOR.out;omega),Ex.eqv_refl _⟩,HR4.out.row HLT.out _,fx_row HF4.out (.inr (Nat.le_refl _)) _⟩
 ·have E:Hid ((intT b s1).bind (fun n s'=>.ok (inX s.hd.ps n) s')=Z):=by show _=Z;rw[←HZ.out,if_neg c]
  have c2:(s1.hd.kd == 3)=false:=by simp[c]
  clear c HZ
  go_wp2_with fail
  refine(ppinteger_any R d b s1 w3 HR3.out).mono ?_
  intro r w4 hpo
  cases hres:intT b s1 with
  | no c q=>
   rw[hres]at hpo
   obtain⟨rfl,f4⟩:=hpo
   have HF4:=Hj (fx_trans HF3.out f4)
   have E4:Hid (Z=.no c q):=by show Z=_;rw[←E.out,hres];rfl
   clear f4 hres
   go_wp2_with fail
   refine⟨rfl,?_⟩
   rw[E4.out]
   exact⟨rfl,HF4.out⟩
  | ok n s4=>
   rw[hres]at hpo
   obtain⟨v,rfl,rfl,h4,f4⟩:=hpo
   have E4:Hid (Z=.ok (inX s.hd.ps n) s4):=by show Z=_;rw[←E.out,hres];rfl
   have hb:-2147483648≤n∧n≤2147483647:=by
    unfold intT kindT at hres
    split at hres
    ·rw[bind_ok]at hres
     cases hres
     have:=HS1.out.nn0
     have:=HS1.out.nn1
     split<;>omega
    ·cases hres
   have HN:=Hj hb
   have NB4:=Hj (f4.blk NB3.out NB3.out.lt (on_ne HLT.out))
   have HF4:=Hj (fx_trans HF3.out f4)
   have HR4:=Hj h4
   clear h4 f4 NB3 HR3 HF3 hres hb E
   go_wp2_with (refine st_ex ⟨2,s.hd.ps,false,n,0,[],⟨none,0,0⟩⟩ w.heap.size _ NB4.out rfl rfl _ _ rfl rfl rfl ?_)
   refine bodyPost_ret (rs_ex rfl _ _ w.heap.size ⟨2,s.hd.ps,false,n,0,[],⟨none,0,0⟩⟩ rfl (NB4.out.rowS _)) rfl ?_
   rw[E4.out]
   exact⟨_,rfl,⟨inX s.hd.ps n,rfl,leaf_in (eh_ok (by decide) (by decide) HS.out.ps0 HS.out.ps1 HN.out.1 HN.out.2 (by decide) (by decide) (Nat.zero_le _) sl_no) rfl,Ex.eqv_refl _⟩,HR4.out.row HLT.out _,fx_row HF4.out (.inr (Nat.le_refl _)) _⟩
end Go.Proofs.YthmlhkllbichgaaGreatDoor
