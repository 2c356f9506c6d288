/-
  ParseParses: a source's tree, or what is wrong with it, is the reference's. (part 37 of 38) Conditions: none beside what the card ties.
-/
import Derived.Test.YthmlhkllbichgaaGreatDoorVbj
import Derived.Test.YthmlhkllbichgaaGreatDoorVbb
import Derived.Test.YthmlhkllbichgaaGreatDoorVbd
import Derived.Test.YthmlhkllbichgaaGreatDoorVai
import Derived.Test.YthmlhkllbichgaaGreatDoorVak
import Derived.ProofKit
import Derived.OpenShut
import Derived.ChangeOld
import Derived.LaidMore
import Derived.Stop.Joined
import Derived.Lib.SmallJoins
import Derived.Test.YthmlhkllbichgaaGreatDoorVah
import Derived.Deep.Slices
import Derived.Deep.Fields
import Derived.ChangeSame
import Derived.Test.YthmlhkllbichgaaGreatDoorVac
import Derived.Lay
import Derived.HandedShaped
import Derived.LaidLaws
import Derived.Shelf.Vars
import Derived.Test.YthmlhkllbichgaaGreatDoorVao
import Derived.Test.YthmlhkllbichgaaGreatDoorVbc
namespace Go.Proofs.YthmlhkllbichgaaGreatDoor
set_option maxHeartbeats 16000000
open Go.RowKit Go.Maps
set_option maxRecDepth 100000
theorem pr_ok {L R:Nat}{w w':World}{t:Int}{d i s:Sl}{kd:Nat→De}{ki ks:Nat→St}{x:Pr}(h:TF R w t d i s kd ki ks w')(h0:0≤t)(h1:t≤2147483647)(hL:L=w.heap.size)(cs:Array Value){l:List De}{a b:List St}(hd:SeqD d kd l)(ha:Seq i ki a)(hb:Seq s ks b)(hx:prX t l a b=x):VP L x (prv t d i s) (w'.setRow w.heap.size cs):=by
 subst hL;subst hx;have W:=wr1_row w' w.heap.size cs;have q:¬(fun k=>R+1<k) w.heap.size:=fun(x:R+1<w.heap.size)=>by have:=h.nr;omega
 have g:∀k,k<(w'.setRow w.heap.size cs).heap.size→R+1<k→Fro w.heap.size k:=fun k _ x=>by have:=h.nr;show w.heap.size≤k;omega
 refine⟨⟨t,d,kd,i,ki,s,ks⟩,rfl,⟨⟨by dsimp only;omega,by dsimp only;omega⟩,(h.ds.fx W.1 (on_not q)).imp g,(h.is.fx W.1 (on_not q)).imp g,(h.ss.fx W.1 (on_not q)).imp g⟩,rfl,⟨hd.1,hd.2⟩,⟨ha.1,ha.2⟩,⟨hb.1,hb.2⟩⟩
theorem rrTokens_any (l:List Tk)(T o c:Nat)(w:World)(hT:T<w.heap.size)(hr:w.rangeAt T o (tksC l))(hc:l.length≤c)(hm:c≤maxLen)(hg:Good l) :
  Calls Tryz.prog 11 #[.slice (some ⟨T,o,none⟩) l.length c] w (PTop w (prog ⟨l,0,0⟩) noPr (VP w.heap.size)):=by
 obtain⟨i0,hi,hz0,hz1,hz2⟩:=info_parts decl_info;have HI:=Hj hi;have HZ0:=Hj hz0;have HZ1:=Hj hz1;have HZ2:=Hj hz2;have fn:=fun(t:Tk) w=>tkv_nn t w;have fp:=fun(t:Tk) w=>tkv_ps t w
 have hRn:Blk (((w.alloc zPr).alloc (.cells #[.slice (some ⟨T,o,none⟩) l.length c,.int .i64 0,.int .i64 0,.int .i64 0,.int .i64 0,.int .i64 0] 74)).alloc zPr) (w.heap.size+1) 74 #[.slice (some ⟨T,o,none⟩) l.length c,.int .i64 0,.int .i64 0,.int .i64 0,.int .i64 0,.int .i64 0]:=by
  have:=Blk.new (w.alloc zPr) 74 #[.slice (some ⟨T,o,none⟩) l.length c,.int .i64 0,.int .i64 0,.int .i64 0,.int .i64 0,.int .i64 0];rw[World.size_alloc]at this;exact this.alloc zPr
 have hP:Blk (((w.alloc zPr).alloc (.cells #[.slice (some ⟨T,o,none⟩) l.length c,.int .i64 0,.int .i64 0,.int .i64 0,.int .i64 0,.int .i64 0] 74)).alloc zPr) (w.heap.size+1+1) 30 (prvs 0 ⟨none,0,0⟩ ⟨none,0,0⟩ ⟨none,0,0⟩).toArray:=by
  have:=Blk.new ((w.alloc zPr).alloc (.cells #[.slice (some ⟨T,o,none⟩) l.length c,.int .i64 0,.int .i64 0,.int .i64 0,.int .i64 0,.int .i64 0] 74)) 30 (prvs 0 ⟨none,0,0⟩ ⟨none,0,0⟩ ⟨none,0,0⟩).toArray;rw[World.size_alloc,World.size_alloc]at this;exact this
 have hb:Below w.heap.size w (((w.alloc zPr).alloc (.cells #[.slice (some ⟨T,o,none⟩) l.length c,.int .i64 0,.int .i64 0,.int .i64 0,.int .i64 0,.int .i64 0] 74)).alloc zPr):=bel_alloc (bel_alloc (bel_one w _) _) _;have HU0:Hid (U (w.heap.size+1) (.ok () ⟨l,0,0⟩:Rs Unit) (((w.alloc zPr).alloc (.cells #[.slice (some ⟨T,o,none⟩) l.length c,.int .i64 0,.int .i64 0,.int .i64 0,.int .i64 0,.int .i64 0] 74)).alloc zPr)):=u_new hRn (by omega) (rangeAt_blk hr (hb.block T hT)) hc hm hg
 have P0:Hid (TF (w.heap.size+1) w 0 ⟨none,0,0⟩ ⟨none,0,0⟩ ⟨none,0,0⟩ (fun _=>zeroD) (fun _=>.no) (fun _=>.no) (((w.alloc zPr).alloc (.cells #[.slice (some ⟨T,o,none⟩) l.length c,.int .i64 0,.int .i64 0,.int .i64 0,.int .i64 0,.int .i64 0] 74)).alloc zPr)):=
  ⟨Nat.lt_succ_self _,((Blk.new w 30 (prvs 0 ⟨none,0,0⟩ ⟨none,0,0⟩ ⟨none,0,0⟩).toArray).alloc _).alloc _,hP,⟨sl_no,(fun a ha=>by cases ha),fun i hi=>absurd hi (Nat.not_lt_zero i)⟩,xb_no,xb_no,hb⟩
 clear hRn hP hb hT hr hc hm hg hi hz0 hz1 hz2;generalize hZ:prog ⟨l,0,0⟩=Z
 have E0:Hid (Z=(Rs.ok () ⟨l,0,0⟩:Rs Unit).bind fun _ s=>(expT [116,105,99,107,115] s).bind fun _ s=>(kindT 2 s).bind fun t s=>(expT [59] s).bind fun _ s=>(decls (s.ts.length+1) [] s).bind fun d s=>(expT [105,110,105,116] s).bind fun _ s=>(blk (sK 24) s).bind fun i s=>(expT [115,116,101,112] s).bind fun _ s=>
  (blk (sK 24) s).bind fun b s=>endT (prX t.nn d i b) s):=hZ.symm
 clear hZ;generalize l.length=nl at *;go_enter Tryz.func11,Tryz.ntmps11;go_upto_region 3 with fail;change Code.wp _ _ _ _ (((w.alloc zPr).alloc (.cells #[.slice (some ⟨T,o,none⟩) nl c,.int .i64 0,.int .i64 0,.int .i64 0,.int .i64 0,.int .i64 0] 74)).alloc zPr);generalize ((w.alloc zPr).alloc (.cells #[.slice (some ⟨T,o,none⟩) nl c,.int .i64 0,.int .i64 0,.int .i64 0,.int .i64 0,.int .i64 0] 74)).alloc zPr=w0 at *;go_wp2_with fail;refine(rrmust_any (w.heap.size+1) _ [116,105,99,107,115] (by decide) w0 HU0.out).mono ?_;rintro q w1 ⟨rfl,hu,hf⟩;have HU1:=Hj hu;have P1:=Hj (P0.out.fx hf);have E1:=Hj (stepU E0.out);clear hu hf HU0 P0 E0;go_wp2_with fail;refine(rrkind_any (w.heap.size+1) _ 2 (by decide) w1 HU1.out).mono ?_;rintro q w2 ⟨t,rfl,htd,ht,hu,hf⟩;have HU2:=Hj hu;have P2:=Hj (P1.out.fx hf);have E2:=Hj (stepE E1.out ht);have HTD:=Hj htd;clear hu hf HU1 P1 E1 htd ht;have ov:IntKind.i64.wrap t.nn=t.nn:=by have:=HTD.out.nn0;have:=HTD.out.nn1;rw[IntKind.wrap_i64];omega
 have mm:w2.cell? ⟨w.heap.size+1+1,0,none⟩=some (.int .i64 0):=P2.out.pk.cell 0;have zz:w2.frozen? ⟨w.heap.size+1+1,0,none⟩=false:=P2.out.pk.frozen 0;have HU3:=Hj (HU2.out.wr (wr1_set w2 (w.heap.size+1+1) 0 (.int .i64 t.nn)) (Nat.lt_succ_self _));have P3:Hid (TF (w.heap.size+1) w t.nn ⟨none,0,0⟩ ⟨none,0,0⟩ ⟨none,0,0⟩ (fun _=>zeroD) (fun _=>.no) (fun _=>.no) (w2.setCell ⟨w.heap.size+1+1,0,none⟩ (.int .i64 t.nn))):=P2.out.set 0 (.int .i64 t.nn) rfl P2.out.ds P2.out.is P2.out.ss;have E3:=E2;go_upto_region 5 with fail;change Code.wp _ _ _ _ (w2.setCell ⟨w.heap.size+1+1,0,none⟩ (.int .i64 t.nn));clear mm zz HU2 P2 ov E2;generalize w2.setCell ⟨w.heap.size+1+1,0,none⟩ (.int .i64 t.nn)=w3 at *;go_wp2_with fail;refine(rrmust_any (w.heap.size+1) _ [59] (by decide) w3 HU3.out).mono ?_;rintro q w4 ⟨rfl,hu,hf⟩;have HU4:=Hj hu;have P4:=Hj (P3.out.fx hf);have E4:=Hj (stepU E3.out);clear hu hf HU3 P3 E3;generalize hr4:((((Rs.ok () ⟨l,0,0⟩:Rs Unit).bind fun _ s=>expT [116,105,99,107,115] s).bind fun _ s=>kindT 2 s).bind fun _ s=>expT [59] s)=r4 at *;clear hr4
 go_upto_block 0 with fail
 go_cut [6] (fun v wx=>v=.pointer (some ⟨w.heap.size+1+1,0,none⟩)∧∃(r:Rs Unit) (vl:List De) (S:Sl) (K:Nat→De),Hid (TF (w.heap.size+1) w t.nn S ⟨none,0,0⟩ ⟨none,0,0⟩ K (fun _=>.no) (fun _=>.no) wx)∧Hid (U (w.heap.size+1) r wx)∧Hid (SeqD S K vl)∧Hid (Z=r.bind fun _ s=>(expT [105,110,105,116] s).bind fun _ s=>(blk (sK 24) s).bind fun i s=>(expT [115,116,101,112] s).bind fun _ s=>(blk (sK 24) s).bind fun b s=>endT (prX t.nn vl i b) s))
 case first=>
  go_wp2_with fail
  go_loopg [] (meas r4) (fun gk wr=>∃(r:Rs Unit) (l:List De) (n:Nat) (K:Nat→De) (A:Option Addr) (cp f:Nat),Hid (gk=meas r)∧Hid (LF (w.heap.size+1) w t.nn (.slice A n cp) n K wr)∧Hid (n≤96)∧Hid (∀a s,r=.ok a s→n=l.length∧s.ts.length<f∧∀i,i<n→(K i).eqv (l.getD i zeroD))∧Hid (U (w.heap.size+1) r wr)∧Hid (Z=r.bind fun _ s=>(decls f l s).bind fun d s=>(expT [105,110,105,116] s).bind fun _ s=>(blk (sK 24) s).bind fun i s=>(expT [115,116,101,112] s).bind fun _ s=>(blk (sK 24) s).bind fun b s=>endT (prX t.nn d i b) s))
  case atStart=>exact⟨r4,[],0,fun _=>zeroD,none,0,meas r4,rfl,P4.out.row,Nat.zero_le _,(fun a s e=>by subst e;exact⟨rfl,Nat.lt_succ_self _,fun i hi=>absurd hi (Nat.not_lt_zero i)⟩),HU4.out,by cases r4<;>exact E4.out⟩
  case round=>
   clear P4 HU4 E4;obtain⟨r,l,n,K,A,cp,f,HGK,HLF,HN,HQ,HU,HZ⟩:=hrel;go_upto_region 6 with fail
   go_cut [32] (fun v wx=>∃b:Bool,v=.bool b∧Hid (BD r b)∧Hid (Below wr.heap.size wr wx))
   case first=>
    obtain⟨er,m2,he⟩:=HU.out.err
    cases r with
    | no c p=>
     have e0:(er == 0)=false:=b_ne (fun e=>by have:=he.1 e;cases this);clear he;go_wp2_with fail;go_meet;exact⟨false,rfl,⟨(fun e=>by cases e),fun _ s e=>by cases e⟩,Below.refl _ _⟩
    | ok u s=>
     obtain rfl:er=0:=he.2 rfl;clear he;go_wp2_with fail;refine(rris_any (w.heap.size+1) _ [105,110,112,117,116] (by decide) wr HU.out).mono ?_;rintro q w5 ⟨b,rfl,hb,bl⟩;have HB:=Hj (hb u s rfl);have BL5:=Hj bl;have HU5:=Hj (HU.out.below bl);clear hb bl m2
     cases b with
     | true=>
      go_wp2_with fail;go_meet;exact⟨true,rfl,⟨(fun _=>⟨s,rfl,.inl ((res_eq HB.out).1 rfl)⟩),fun e=>by cases e⟩,BL5.out⟩
     | false=>
      go_wp2_with fail;refine(rris_any (w.heap.size+1) _ [118,97,114] (by decide) w5 HU5.out).mono ?_;rintro q w6 ⟨b,rfl,hb,bl⟩;have HB6:=Hj (hb u s rfl);have BL6:=Hj (bel_trans BL5.out bl);clear hb bl HU5;go_wp2_with fail;go_meet;exact⟨b,rfl,⟨fun e=>⟨s,rfl,.inr ((res_eq HB6.out).1 e)⟩,fun e s' q x=>by cases q;exact x.elim ((res_eq HB.out).2 rfl) ((res_eq HB6.out).2 e)⟩,BL6.out⟩
   case rest=>
    obtain⟨b,rfl,HB,BV⟩:=hcut;have P5:=Hj (HLF.out.bel BV.out);have HU5:=Hj (HU.out.below BV.out);clear HLF HU BV
    cases b with
    | false=>
     obtain⟨S,hS,hT⟩:=P5.out.fin;obtain⟨vl,hv,he⟩:=pd_val (r:=r) (S:=S) (K:=K) (l:=l) (fun a s e=>⟨by rw[hS];exact(HQ.out a s e).1,fun i hi=>(HQ.out a s e).2.2 i (by omega)⟩);have HT:=Hj hT;have HV:=Hj hv
     have E5:Hid (Z=r.bind fun _ s=>(expT [105,110,105,116] s).bind fun _ s=>(blk (sK 24) s).bind fun i s=>(expT [115,116,101,112] s).bind fun _ s=>(blk (sK 24) s).bind fun b s=>endT (prX t.nn vl i b) s):=by
      show Z=_;rw[HZ.out]
      cases r with
      | no c p=>rfl
      | ok u s=>
       have hq:=HQ.out u s rfl;obtain⟨f,rfl⟩:∃f',f=f'+1:=⟨f - 1,by omega⟩;have e1:decls (f+1) l s=.ok l s:=by rw[decls,if_neg (HB.out.2 rfl s rfl)]
       show(decls (f+1) l s).bind _=_;rw[e1,he u s rfl];rfl
     clear hS hT hv he HB HZ HQ P5;go_wp2_with fail;go_meet;exact⟨rfl,r,vl,S,K,HT.out,HU5.out,HV.out,E5.out⟩
    | true=>
     obtain⟨s,rfl,hbe⟩:=HB.out.1 rfl;have HBE:=Hj hbe;obtain⟨hq1,hq2,hq3⟩:=HQ.out () s rfl;obtain⟨f,rfl⟩:∃f',f=f'+1:=⟨f - 1,by omega⟩;have HQ1:=Hj (And.intro hq1 (And.intro hq2 hq3))
     have E5:Hid (Z=(if l.length=96 then Rs.no 112 s.hd.ps else(decl s).bind fun d s'=>decls f (l++[d]) s').bind fun d s=>(expT [105,110,105,116] s).bind fun _ s=>(blk (sK 24) s).bind fun i s=>(expT [115,116,101,112] s).bind fun _ s=>(blk (sK 24) s).bind fun b s=>endT (prX t.nn d i b) s):=by
      show Z=_;rw[HZ.out];show(decls (f+1) l s).bind _=_;rw[decls,if_pos HBE.out]
     have HKD:Hid (s.hd.kd≠0):=HU5.out.good.kd (by rw[←PS.hd];rcases HBE.out with h|h<;>rw[h]<;>decide);have ml:wc.cell? ⟨w.heap.size+1+1,1,none⟩=some (.slice A n cp):=P5.out.pk.cell 1;clear hbe hq1 hq2 hq3 HB HZ HQ HBE
     by_cases cn:(96:Int)≤(n:Int)
     ·have E6:Hid (Z=.no 112 s.hd.ps):=by show Z=_;rw[E5.out,if_pos (by have:=HQ1.out.1;have:=HN.out;omega)];rfl
      clear E5;go_wp2_with fail;refine(rrtok_any (w.heap.size+1) _ _ HU5.out).mono ?_;rintro q w6 ⟨t0,rfl, -,ht,bl⟩;obtain rfl:=ht () s rfl;have P6:=Hj (P5.out.bel bl);have HU6:=Hj (HU5.out.below bl);clear ht bl P5 HU5 ml;go_wp2_with fail;refine(rrfail_any (w.heap.size+1) _ 112 s.hd.ps (by decide) w6 HU6.out).mono ?_;rintro q w7 ⟨rfl,hu,hf⟩;have P7:=Hj (P6.out.fx hf);have HU7:Hid (U (w.heap.size+1) (.no 112 s.hd.ps:Rs Unit) w7):=hu.of rfl;clear hu hf P6 HU6;obtain⟨S,hS,hT⟩:=P7.out.fin;obtain⟨vl,hv, -⟩:=pd_val (r:=(.no 112 s.hd.ps:Rs Unit)) (S:=S) (K:=K) (l:=l) (fun a s e=>by cases e);have HT:=Hj hT;have HV:=Hj hv;clear hS hT hv;go_wp2_with fail;go_meet;exact⟨rfl,.no 112 s.hd.ps,vl,S,K,HT.out,HU7.out,HV.out,E6.out⟩
     ·have HN9:Hid (n<96):=by show n<96;omega
      have E6:Hid (Z=(decl s).bind fun d s'=>(decls f (l++[d]) s').bind fun d s=>(expT [105,110,105,116] s).bind fun _ s=>(blk (sK 24) s).bind fun i s=>(expT [115,116,101,112] s).bind fun _ s=>(blk (sK 24) s).bind fun b s=>endT (prX t.nn d i b) s):=by show Z=_;rw[E5.out,if_neg (by have:=HQ1.out.1;have:=HN9.out;omega),bind_bind]
      have LN:Hid (n+1≤maxLen):=(by show n+1≤maxLen;have:=HN9.out;unfold maxLen;omega);have LB:Hid ((n+1)*200≤140737488355328):=(by show(n+1)*200≤_;have:=HN9.out;omega);clear E5;go_upto_region 9 with fail;clear ml cn;have BD6:Below wc.heap.size wc wc.drew:=bel_drew (Below.refl _ _);have P6:=Hj (P5.out.bel BD6);have HU6:=Hj (HU5.out.below BD6);clear BD6 P5 HU5;refine region_tree (S:=fun _=>True) _ (.take 0 (.take 2 (.two 1 (.act 3 (.act 4 (.act 5 (.take 6 (.act 7 .done))))) 3 (.two 1 (.act 4 (.act 5 (.take 6 (.act 7 .done)))) 4 (.act 1 (.act 5 (.take 6 (.act 7 .done)))))))) (by kernel_rfl) (by kernel_rfl) rfl (by kernel_rfl) (by kernel_rfl) (fun _ _ d _ _ h=>by cases d<;>exact h) trivial ?_;generalize wc.drew=w6 at *
      iterate 2
       refine WalkT.take (v:=?_) rfl (by rfl) ?_ ?_;rotate_left
       ·(intro w' hSw;go_simp<;>with_reducible rfl)
       try simp only[Act.put,List.setIfInBounds_toArray,List.set_cons_zero,List.set_cons_succ]
      refine⟨wpOp_of rfl (by rfl) (fun K' hK=>?_),wpOp_of rfl (by rfl) (fun K' hK=>?_)⟩;have ml:w6.cell? ⟨w.heap.size+1+1,1,none⟩=some (.slice A n cp):=P6.out.pk.cell 1;go_simp;refine hK.out _ _ trivial ?_;clear hK K' ml;try simp only[Act.put,List.setIfInBounds_toArray,List.set_cons_zero,List.set_cons_succ]
      refine WalkT.act rfl (by rfl) (fun K' hK=>?_);go_simp;go_at_call 36;refine(rrdecl_any (w.heap.size+1) s w6 HU6.out HKD.out).mono ?_;rintro q w7 ⟨b,rfl,xb,eb,hu,hf⟩;have P7:=Hj (P6.out.fx hf);have HU7:=Hj hu;have XB7:=Hj xb;have EB7:=Hj eb;have LF7:=Hj (lf_decl HU6.out.good HKD.out);have GP7:=Hj HU6.out.good.pos;clear xb eb hu hf HU6;refine hK.out _ _ trivial ?_;clear hK K';try simp only[Act.put,List.setIfInBounds_toArray,List.set_cons_zero,List.set_cons_succ]
      refine WalkT.act rfl (by rfl) (fun K' hK=>?_);refine wp_bs_de b _ rfl rfl ?_;intro db w8 hdb ZB BA;have NW:=new_one ZB.out;have P8:=Hj (P7.out.bel BA.out);have HU8:=Hj (HU7.out.below BA.out);have XB8:=Hj (XB7.out.bel BA.out);clear HU7 XB7 hdb P7;refine hK.out _ _ trivial ?_;clear hK K';try simp only[Act.put,List.setIfInBounds_toArray,List.set_cons_zero,List.set_cons_succ]
      rotate_left;go_simp;go_at_call 36;refine(rrdecl_any (w.heap.size+1) s w6 HU6.out HKD.out).mono ?_;rintro q w7 ⟨b,rfl,xb,eb,hu,hf⟩;have P7:=Hj (P6.out.fx hf);have HU7:=Hj hu;have XB7:=Hj xb;have EB7:=Hj eb;have LF7:=Hj (lf_decl HU6.out.good HKD.out);have GP7:=Hj HU6.out.good.pos;clear xb eb hu hf HU6;refine hK.out _ _ trivial ?_;clear hK K';try simp only[Act.put,List.setIfInBounds_toArray,List.set_cons_zero,List.set_cons_succ]
      refine⟨wpOp_of rfl (by rfl) (fun K' hK=>?_),wpOp_of rfl (by rfl) (fun K' hK=>?_)⟩;have ml:w7.cell? ⟨w.heap.size+1+1,1,none⟩=some (.slice A n cp):=P7.out.pk.cell 1;go_simp;refine hK.out _ _ trivial ?_;clear hK K' ml;try simp only[Act.put,List.setIfInBounds_toArray,List.set_cons_zero,List.set_cons_succ]
      refine WalkT.act rfl (by rfl) (fun K' hK=>?_);refine wp_bs_de b _ rfl rfl ?_;intro db w8 hdb ZB BA;have NW:=new_one ZB.out;have P8:=Hj (P7.out.bel BA.out);have HU8:=Hj (HU7.out.below BA.out);have XB8:=Hj (XB7.out.bel BA.out);clear HU7 XB7 hdb P7;refine hK.out _ _ trivial ?_;clear hK K';try simp only[Act.put,List.setIfInBounds_toArray,List.set_cons_zero,List.set_cons_succ]
      rotate_left;refine wp_bs_de b _ rfl rfl ?_;intro db w8 hdb ZB BA;have NW:=new_one ZB.out;have P8:=Hj (P7.out.bel BA.out);have HU8:=Hj (HU7.out.below BA.out);have XB8:=Hj (XB7.out.bel BA.out);clear HU7 XB7 hdb P7;refine hK.out _ _ trivial ?_;clear hK K';try simp only[Act.put,List.setIfInBounds_toArray,List.set_cons_zero,List.set_cons_succ]
      refine WalkT.act rfl (by rfl) (fun K' hK=>?_);have ml:w8.cell? ⟨w.heap.size+1+1,1,none⟩=some (.slice A n cp):=P8.out.pk.cell 1;go_simp;refine hK.out _ _ trivial ?_;clear hK K' ml;try simp only[Act.put,List.setIfInBounds_toArray,List.set_cons_zero,List.set_cons_succ]
      all_goals
       refine WalkT.act rfl (by rfl) (fun K' hK=>?_);have ONE:∀u∈b.vs,u.oneCell'=true:=by simp[De.vs,dcvs,Value.oneCell']
       refine wp_append_moved w8 _ _ 27 rfl ((w.heap.size+1)+2) 56 i0 _ 20 200 Tryz.underlying27 HI.out HZ0.out HZ1.out HZ2.out rfl (by decide) (.slice A n cp) n _ rfl P8.out.own ⟨db,0,none⟩ 1 1 b.vs rfl rfl NW ONE LN.out LB.out (by have:=P8.out.pk.lt;omega) ?_;intro v9 w9 own9 gr9 mv9;refine hK.out _ _ trivial ?_;clear hK K' ONE;obtain⟨A9,cp9,rfl⟩:=own_form own9;have pk9:=app_blk gr9 P8.out.own P8.out.pk (Nat.lt_succ_self _);have ml:w9.cell? ⟨w.heap.size+1+1,1,none⟩=some (.slice A n cp):=pk9.cell 1;have zl:w9.frozen? ⟨w.heap.size+1+1,1,none⟩=false:=pk9.frozen 1;have PA:=Hj (P6.out.add XB8.out (Nat.le_refl _) P8.out own9 gr9 mv9);have HUA:=Hj ((HU8.out.grown gr9 P8.out.own (by omega)).wr (wr1_set w9 (w.heap.size+1+1) 1 (.slice A9 (n+1) cp9)) (Nat.lt_succ_self _));clear own9 gr9 mv9 pk9 P8 P6 HU8 XB8 NW ZB BA;try simp only[Act.put,List.setIfInBounds_toArray,List.set_cons_zero,List.set_cons_succ]
       refine WalkT.take (v:=?_) rfl (by rfl) ?_ ?_;rotate_left
       ·(intro w' hSw;go_simp<;>with_reducible rfl)
       try simp only[Act.put,List.setIfInBounds_toArray,List.set_cons_zero,List.set_cons_succ]
       refine WalkT.act rfl (by rfl) (fun K' hK=>?_);go_simp;refine hK.out _ _ trivial ?_;clear hK K' ml zl;refine WalkT.done ?_;go_wp2_with fail
       go_roundg (meas (decl s).st)
       case measure=>
        have:=GP7.out;have hlf:=LF7.out;rw[HGK.out]
        cases hres:decl s with
        | no c p=>show 0<s.ts.length+1;omega
        | ok x s2=>have:=(hlf x s2 hres).2.1;show s2.ts.length+1<s.ts.length+1;omega
       case rel=>
        refine⟨(decl s).st,l++[(decl s).va zeroD],n+1,_,A9,cp9,f,rfl,PA.out,HN9.out,fun a' s' e=>?_,HUA.out.of (by cases decl s<;>rfl),?_⟩
        ·cases hres:decl s with
         | no c p=>rw[hres]at e;cases e
         | ok x s2=>
          rw[hres]at e;cases e;have h3:=LF7.out x _ hres;have h4:=HQ1.out;have hp:=GP7.out;exact⟨by rw[List.length_append,h4.1];rfl,by omega,moreD_eqv h4.1 h4.2.2 (EB7.out x _ hres)⟩
        ·show Z=_
         rw[E6.out,known (va_ok zeroD),st_bind]
 case rest=>
  obtain⟨rfl,r,vl,S,K,P10,HU10,HV,E10⟩:=hcut;generalize wc=w10 at *;go_wp2_with fail;refine(rrmust_any (w.heap.size+1) _ [105,110,105,116] (by decide) w10 HU10.out).mono ?_;rintro q w11 ⟨rfl,hu,hf⟩;have HU11:=Hj hu;have P11:=Hj (P10.out.fx hf);have E11:=Hj (stepU E10.out);clear hu hf HU10 P10 E10;generalize hr11:(r.bind fun _ s=>expT [105,110,105,116] s)=r11 at *;clear hr11
  cases r11 with
  | no c p=>
   have EZ:Hid (Z=.no c p):=E11.out;clear E11;obtain⟨m2,m3,hc⟩:=HU11.out.no;have e0:(c == 0)=false:=b_ne hc;clear m3 hc;go_wp2_with fail;refine(rrmust_any (w.heap.size+1) _ [115,116,101,112] (by decide) w11 HU11.out).mono ?_;rintro q w14 ⟨rfl,hu,hf⟩;have HU14:Hid (U (w.heap.size+1) (.no c p:Rs Unit) w14):=hu.of rfl;have P14:=Hj (P11.out.fx hf);clear hu hf HU11 P11 m2 e0;obtain⟨m2,m3,hc⟩:=HU14.out.no;have e0:(c == 0)=false:=b_ne hc;clear m3 hc;go_wp2_with fail;refine(rrend_any (w.heap.size+1) _ w14 HU14.out).mono ?_;rintro q w17 ⟨t0,rfl,hu,hf⟩;have HU17:Hid (U (w.heap.size+1) (.no c p:Rs Unit) w17):=hu.of rfl;have P17:=Hj (P14.out.fx hf);clear hu hf HU14 P14 m2 e0;obtain⟨m2,m3,hc⟩:=HU17.out.no;have e0:(c == 0)=false:=b_ne hc;have HD:Below w17.heap.size w17 w17.drew:=bel_drew (Below.refl _ _);have NB5:=Hj (P17.out.nb.below HD P17.out.nb.lt);have HB5:=Hj (bel_trans P17.out.hb HD);have HU5:=Hj (HU17.out.below HD);unfold Tk.v;go_upto_region 18 with fail;clear m2 m3 hc;have HS0:w17.drew.cell? ⟨w.heap.size+1,2,none⟩=some (.int .i64 c)∧w17.drew.cell? ⟨w.heap.size+1,3,none⟩=some (.int .i64 p):=⟨HU5.out.no.1,HU5.out.no.2.1⟩
   refine region_tree (S:=fun w'=>w'.cell? ⟨w.heap.size+1,2,none⟩=some (.int .i64 c)∧w'.cell? ⟨w.heap.size+1,3,none⟩=some (.int .i64 p)) _ (.take 0 (.take 1 (.take 2 (.take 3 (.take 4 (.take 5 (.take 6 (.take 7 (.take 8 (.act 9 (.take 10 (.take 11 .done)))))))))))) (by kernel_rfl) (by kernel_rfl) rfl (by kernel_rfl) (by kernel_rfl) (fun _ _ d _ _ h=>by cases d<;>exact h) HS0 ?_;clear HS0 HU17 P17 HD;generalize w17.drew=w5 at *
   iterate 9
    refine WalkT.take (v:=?_) rfl (by rfl) ?_ ?_;rotate_left
    ·(intro w' hSw;obtain⟨r0,r1⟩:=hSw;go_simp<;>with_reducible rfl)
    try simp only[Act.put,List.setIfInBounds_toArray,List.set_cons_zero,List.set_cons_succ]
   refine WalkT.act rfl (by rfl) (fun K' hK=>?_);refine wp_store_row 30 _ _ rfl w.heap.size (prvs 0 ⟨none,0,0⟩ ⟨none,0,0⟩ ⟨none,0,0⟩).toArray rfl rfl 30 _ NB5.out (by kernel_rfl) rfl (by simp[prvs,Value.oneCell']) ?_;have HB6:=Hj (HB5.out.trans (((wr1_row w5 w.heap.size (prvs 0 ⟨none,0,0⟩ ⟨none,0,0⟩ ⟨none,0,0⟩).toArray).1.mono HB5.out.size (fun _ _ x=>x)).bel (fun k hk (x:k=w.heap.size)=>Nat.ne_of_lt hk x)));have NB6:=Hj (NB5.out.rowS (prvs 0 ⟨none,0,0⟩ ⟨none,0,0⟩ ⟨none,0,0⟩).toArray);have hne:w.heap.size+1≠w.heap.size:=Nat.succ_ne_self _;refine hK.out _ _ ⟨(World.cell?_of_block (a:=⟨w.heap.size+1,2,none⟩) (setRow_other w5 w.heap.size (w.heap.size+1) (prvs 0 ⟨none,0,0⟩ ⟨none,0,0⟩ ⟨none,0,0⟩).toArray hne)).trans HU5.out.no.1,(World.cell?_of_block (a:=⟨w.heap.size+1,3,none⟩) (setRow_other w5 w.heap.size (w.heap.size+1) (prvs 0 ⟨none,0,0⟩ ⟨none,0,0⟩ ⟨none,0,0⟩).toArray hne)).trans HU5.out.no.2.1⟩ ?_;clear hK K' hne;generalize w5.setRow w.heap.size (prvs 0 ⟨none,0,0⟩ ⟨none,0,0⟩ ⟨none,0,0⟩).toArray=w6 at *;try simp only[Act.put]
   iterate 2
    refine WalkT.take (v:=?_) rfl (by rfl) ?_ ?_;rotate_left
    ·(intro w' hSw;obtain⟨r0,r1⟩:=hSw;go_simp<;>with_reducible rfl)
    try simp only[Act.put,List.setIfInBounds_toArray,List.set_cons_zero,List.set_cons_succ]
   refine WalkT.done ?_;go_wp2_with fail;refine bodyPost_ret (results_x3 rfl _ _ w.heap.size 30 (prvs 0 ⟨none,0,0⟩ ⟨none,0,0⟩ ⟨none,0,0⟩).toArray _ _ _ rfl rfl rfl NB6.out Tryz.underlying30 rfl (by kernel_rfl)) rfl ?_;rw[EZ.out];exact⟨_,rfl,noPr_v _ _,HB6.out⟩
  | ok u s=>
   have m2:=HU11.out.zero;go_wp2_with fail;refine((rrst_any (w.heap.size+1) 24 (Nat.le_refl _)).1 Unit (.ok u s) w11 0 (by decide) HU11.out).mono ?_;rintro q w12 ⟨S12,K12,rfl,xb,eb,hu,hf⟩;obtain⟨v12,hv,he⟩:=pb_val eb;have HV12:=Hj hv;have E12:=Hj (stepE E11.out he);have XB12:=Hj (xb.imp (D':=fun k=>w.heap.size+1+1<k) (fun k _ (x:w11.heap.size≤k)=>by have:=P11.out.pk.lt;show w.heap.size+1+1<k;omega));have Q12:=Hj (P11.out.fx hf);have HW12:=Hj hu;clear xb eb hu hf hv he HU11 P11 E11 m2;have mm:w12.cell? ⟨w.heap.size+1+1,2,none⟩=some (.slice none 0 0):=Q12.out.pk.cell 2;have zz:w12.frozen? ⟨w.heap.size+1+1,2,none⟩=false:=Q12.out.pk.frozen 2;have HU13:=Hj (HW12.out.wr (wr1_set w12 (w.heap.size+1+1) 2 S12.val) (Nat.lt_succ_self _));have P13:Hid (TF (w.heap.size+1) w t.nn S S12 ⟨none,0,0⟩ K K12 (fun _=>.no) (w12.setCell ⟨w.heap.size+1+1,2,none⟩ S12.val)):=Q12.out.set 2 S12.val rfl Q12.out.ds XB12.out Q12.out.ss;have E13:=E12;unfold Sl.val at *;go_upto_region 13 with fail;change Code.wp _ _ _ _ (w12.setCell ⟨w.heap.size+1+1,2,none⟩ (.slice S12.ao S12.n S12.c));clear mm zz HW12 Q12 E12 XB12;generalize w12.setCell ⟨w.heap.size+1+1,2,none⟩ (.slice S12.ao S12.n S12.c)=w13 at *;go_wp2_with fail
   refine(rrmust_any (w.heap.size+1) _ [115,116,101,112] (by decide) w13 HU13.out).mono ?_;rintro q w14 ⟨rfl,hu,hf⟩;have HU14:=Hj hu;have P14:=Hj (P13.out.fx hf);have E14:=Hj (stepU E13.out);clear hu hf HU13 P13 E13;generalize hr14:((((Rs.ok u s:Rs Unit).bind fun _ s=>blk (sK 24) s)).bind fun _ s=>expT [115,116,101,112] s)=r14 at *;clear hr14
   cases r14 with
   | no c p=>
    have EZ:Hid (Z=.no c p):=E14.out;clear E14;obtain⟨m2,m3,hc⟩:=HU14.out.no;have e0:(c == 0)=false:=b_ne hc;clear m3 hc;go_wp2_with fail;refine(rrend_any (w.heap.size+1) _ w14 HU14.out).mono ?_;rintro q w17 ⟨t0,rfl,hu,hf⟩;have HU17:Hid (U (w.heap.size+1) (.no c p:Rs Unit) w17):=hu.of rfl;have P17:=Hj (P14.out.fx hf);clear hu hf HU14 P14 m2 e0;obtain⟨m2,m3,hc⟩:=HU17.out.no;have e0:(c == 0)=false:=b_ne hc;have HD:Below w17.heap.size w17 w17.drew:=bel_drew (Below.refl _ _);have NB5:=Hj (P17.out.nb.below HD P17.out.nb.lt);have HB5:=Hj (bel_trans P17.out.hb HD);have HU5:=Hj (HU17.out.below HD);unfold Tk.v;go_upto_region 18 with fail;clear m2 m3 hc;have HS0:w17.drew.cell? ⟨w.heap.size+1,2,none⟩=some (.int .i64 c)∧w17.drew.cell? ⟨w.heap.size+1,3,none⟩=some (.int .i64 p):=⟨HU5.out.no.1,HU5.out.no.2.1⟩;refine region_tree (S:=fun w'=>w'.cell? ⟨w.heap.size+1,2,none⟩=some (.int .i64 c)∧w'.cell? ⟨w.heap.size+1,3,none⟩=some (.int .i64 p)) _ (.take 0 (.take 1 (.take 2 (.take 3 (.take 4 (.take 5 (.take 6 (.take 7 (.take 8 (.act 9 (.take 10 (.take 11 .done)))))))))))) (by kernel_rfl) (by kernel_rfl) rfl (by kernel_rfl) (by kernel_rfl) (fun _ _ d _ _ h=>by cases d<;>exact h) HS0 ?_;clear HS0 HU17 P17 HD
    generalize w17.drew=w5 at *
    iterate 9
     refine WalkT.take (v:=?_) rfl (by rfl) ?_ ?_;rotate_left
     ·(intro w' hSw;obtain⟨r0,r1⟩:=hSw;go_simp<;>with_reducible rfl)
     try simp only[Act.put,List.setIfInBounds_toArray,List.set_cons_zero,List.set_cons_succ]
    refine WalkT.act rfl (by rfl) (fun K' hK=>?_);refine wp_store_row 30 _ _ rfl w.heap.size (prvs 0 ⟨none,0,0⟩ ⟨none,0,0⟩ ⟨none,0,0⟩).toArray rfl rfl 30 _ NB5.out (by kernel_rfl) rfl (by simp[prvs,Value.oneCell']) ?_;have HB6:=Hj (HB5.out.trans (((wr1_row w5 w.heap.size (prvs 0 ⟨none,0,0⟩ ⟨none,0,0⟩ ⟨none,0,0⟩).toArray).1.mono HB5.out.size (fun _ _ x=>x)).bel (fun k hk (x:k=w.heap.size)=>Nat.ne_of_lt hk x)));have NB6:=Hj (NB5.out.rowS (prvs 0 ⟨none,0,0⟩ ⟨none,0,0⟩ ⟨none,0,0⟩).toArray);have hne:w.heap.size+1≠w.heap.size:=Nat.succ_ne_self _;refine hK.out _ _ ⟨(World.cell?_of_block (a:=⟨w.heap.size+1,2,none⟩) (setRow_other w5 w.heap.size (w.heap.size+1) (prvs 0 ⟨none,0,0⟩ ⟨none,0,0⟩ ⟨none,0,0⟩).toArray hne)).trans HU5.out.no.1,(World.cell?_of_block (a:=⟨w.heap.size+1,3,none⟩) (setRow_other w5 w.heap.size (w.heap.size+1) (prvs 0 ⟨none,0,0⟩ ⟨none,0,0⟩ ⟨none,0,0⟩).toArray hne)).trans HU5.out.no.2.1⟩ ?_;clear hK K' hne;generalize w5.setRow w.heap.size (prvs 0 ⟨none,0,0⟩ ⟨none,0,0⟩ ⟨none,0,0⟩).toArray=w6 at *;try simp only[Act.put]
    iterate 2
     refine WalkT.take (v:=?_) rfl (by rfl) ?_ ?_;rotate_left
     ·(intro w' hSw;obtain⟨r0,r1⟩:=hSw;go_simp<;>with_reducible rfl)
     try simp only[Act.put,List.setIfInBounds_toArray,List.set_cons_zero,List.set_cons_succ]
    refine WalkT.done ?_;go_wp2_with fail;refine bodyPost_ret (results_x3 rfl _ _ w.heap.size 30 (prvs 0 ⟨none,0,0⟩ ⟨none,0,0⟩ ⟨none,0,0⟩).toArray _ _ _ rfl rfl rfl NB6.out Tryz.underlying30 rfl (by kernel_rfl)) rfl ?_;rw[EZ.out];exact⟨_,rfl,noPr_v _ _,HB6.out⟩
   | ok u s=>
    have m2:=HU14.out.zero;go_wp2_with fail;refine((rrst_any (w.heap.size+1) 24 (Nat.le_refl _)).1 Unit (.ok u s) w14 0 (by decide) HU14.out).mono ?_;rintro q w15 ⟨S15,K15,rfl,xb,eb,hu,hf⟩;obtain⟨v15,hv,he⟩:=pb_val eb;have HV15:=Hj hv;have E15:=Hj (stepE E14.out he);have XB15:=Hj (xb.imp (D':=fun k=>w.heap.size+1+1<k) (fun k _ (x:w14.heap.size≤k)=>by have:=P14.out.pk.lt;show w.heap.size+1+1<k;omega));have Q15:=Hj (P14.out.fx hf);have HW15:=Hj hu;clear xb eb hu hf hv he HU14 P14 E14 m2;have mm:w15.cell? ⟨w.heap.size+1+1,3,none⟩=some (.slice none 0 0):=Q15.out.pk.cell 3;have zz:w15.frozen? ⟨w.heap.size+1+1,3,none⟩=false:=Q15.out.pk.frozen 3;have HU16:=Hj (HW15.out.wr (wr1_set w15 (w.heap.size+1+1) 3 S15.val) (Nat.lt_succ_self _));have P16:Hid (TF (w.heap.size+1) w t.nn S S12 S15 K K12 K15 (w15.setCell ⟨w.heap.size+1+1,3,none⟩ S15.val)):=Q15.out.set 3 S15.val rfl Q15.out.ds Q15.out.is XB15.out;have E16:=E15;unfold Sl.val at *;go_upto_region 16 with fail;change Code.wp _ _ _ _ (w15.setCell ⟨w.heap.size+1+1,3,none⟩ (.slice S15.ao S15.n S15.c));clear mm zz HW15 Q15 E15 XB15;generalize w15.setCell ⟨w.heap.size+1+1,3,none⟩ (.slice S15.ao S15.n S15.c)=w16 at *
    generalize hr16:((Rs.ok u s:Rs Unit).bind fun _ s=>blk (sK 24) s)=r16 at *;clear hr16;go_wp2_with fail;refine(rrend_any (w.heap.size+1) r16 w16 HU16.out).mono ?_;rintro q w17 ⟨t0,rfl,hu,hf⟩
    have HU17:Hid (U (w.heap.size+1) Z w17):=by
     show U _ Z w17;rw[E16.out];refine hu.of ?_
     cases r16 with
     | no c p=>rfl
     | ok a s'=>show(endT () s').st=(endT _ s').st;unfold endT;split<;>rfl
    have EB17:Hid (∀a s,Z=.ok a s→prX t.nn vl v12 v15=a):=fun a s' e=>by
     rw[E16.out]at e;obtain⟨e1,s1,h1,h2⟩:=ok_inv e;unfold endT at h2
     split at h2
     ·cases h2;rfl
     ·cases h2
    have P17:=Hj (P16.out.fx hf);clear hu hf HU16 P16 E16
    cases Z with
    | no c p=>
     obtain⟨m2,m3,hc⟩:=HU17.out.no;have e0:(c == 0)=false:=b_ne hc;have HD:Below w17.heap.size w17 w17.drew:=bel_drew (Below.refl _ _);have NB5:=Hj (P17.out.nb.below HD P17.out.nb.lt);have HB5:=Hj (bel_trans P17.out.hb HD);have HU5:=Hj (HU17.out.below HD);unfold Tk.v;go_upto_region 18 with fail;clear m2 m3 hc;have HS0:w17.drew.cell? ⟨w.heap.size+1,2,none⟩=some (.int .i64 c)∧w17.drew.cell? ⟨w.heap.size+1,3,none⟩=some (.int .i64 p):=⟨HU5.out.no.1,HU5.out.no.2.1⟩;refine region_tree (S:=fun w'=>w'.cell? ⟨w.heap.size+1,2,none⟩=some (.int .i64 c)∧w'.cell? ⟨w.heap.size+1,3,none⟩=some (.int .i64 p)) _ (.take 0 (.take 1 (.take 2 (.take 3 (.take 4 (.take 5 (.take 6 (.take 7 (.take 8 (.act 9 (.take 10 (.take 11 .done)))))))))))) (by kernel_rfl) (by kernel_rfl) rfl (by kernel_rfl) (by kernel_rfl) (fun _ _ d _ _ h=>by cases d<;>exact h) HS0 ?_;clear HS0 HU17 P17 HD;generalize w17.drew=w5 at *
     iterate 9
      refine WalkT.take (v:=?_) rfl (by rfl) ?_ ?_;rotate_left
      ·(intro w' hSw;obtain⟨r0,r1⟩:=hSw;go_simp<;>with_reducible rfl)
      try simp only[Act.put,List.setIfInBounds_toArray,List.set_cons_zero,List.set_cons_succ]
     refine WalkT.act rfl (by rfl) (fun K' hK=>?_);refine wp_store_row 30 _ _ rfl w.heap.size (prvs 0 ⟨none,0,0⟩ ⟨none,0,0⟩ ⟨none,0,0⟩).toArray rfl rfl 30 _ NB5.out (by kernel_rfl) rfl (by simp[prvs,Value.oneCell']) ?_;have HB6:=Hj (HB5.out.trans (((wr1_row w5 w.heap.size (prvs 0 ⟨none,0,0⟩ ⟨none,0,0⟩ ⟨none,0,0⟩).toArray).1.mono HB5.out.size (fun _ _ x=>x)).bel (fun k hk (x:k=w.heap.size)=>Nat.ne_of_lt hk x)));have NB6:=Hj (NB5.out.rowS (prvs 0 ⟨none,0,0⟩ ⟨none,0,0⟩ ⟨none,0,0⟩).toArray);have hne:w.heap.size+1≠w.heap.size:=Nat.succ_ne_self _;refine hK.out _ _ ⟨(World.cell?_of_block (a:=⟨w.heap.size+1,2,none⟩) (setRow_other w5 w.heap.size (w.heap.size+1) (prvs 0 ⟨none,0,0⟩ ⟨none,0,0⟩ ⟨none,0,0⟩).toArray hne)).trans HU5.out.no.1,(World.cell?_of_block (a:=⟨w.heap.size+1,3,none⟩) (setRow_other w5 w.heap.size (w.heap.size+1) (prvs 0 ⟨none,0,0⟩ ⟨none,0,0⟩ ⟨none,0,0⟩).toArray hne)).trans HU5.out.no.2.1⟩ ?_;clear hK K' hne;generalize w5.setRow w.heap.size (prvs 0 ⟨none,0,0⟩ ⟨none,0,0⟩ ⟨none,0,0⟩).toArray=w6 at *;try simp only[Act.put]
     iterate 2
      refine WalkT.take (v:=?_) rfl (by rfl) ?_ ?_;rotate_left
      ·(intro w' hSw;obtain⟨r0,r1⟩:=hSw;go_simp<;>with_reducible rfl)
      try simp only[Act.put,List.setIfInBounds_toArray,List.set_cons_zero,List.set_cons_succ]
     refine WalkT.done ?_;go_wp2_with fail;refine bodyPost_ret (results_x3 rfl _ _ w.heap.size 30 (prvs 0 ⟨none,0,0⟩ ⟨none,0,0⟩ ⟨none,0,0⟩).toArray _ _ _ rfl rfl rfl NB6.out Tryz.underlying30 rfl (by kernel_rfl)) rfl ?_;exact⟨_,rfl,noPr_v _ _,HB6.out⟩
    | ok x s=>
     have m2:=HU17.out.zero;unfold Tk.v
     go_wp2_with (first
      | refine ld_pr t.nn S S12 S15 (w.heap.size+1+1) P17.out.pk rfl _ rfl rfl ?_
      | refine st_pr t.nn S S12 S15 w.heap.size _ P17.out.nb rfl rfl _ _ rfl rfl rfl ?_)
     refine bodyPost_ret (results_x3 rfl _ _ w.heap.size 30 (prvs t.nn S S12 S15).toArray _ _ _ rfl rfl rfl (P17.out.nb.rowS _) Tryz.underlying30 rfl (by kernel_rfl)) rfl ?_;exact⟨_,rfl,pr_ok P17.out HTD.out.nn0 HTD.out.nn1 rfl _ HV.out HV12.out HV15.out (EB17.out x s rfl),P17.out.hb.trans (((wr1_row w17 w.heap.size _).1.mono P17.out.hb.size (fun _ _ x=>x)).bel (fun k hk (x:k=w.heap.size)=>Nat.ne_of_lt hk x))⟩
end Go.Proofs.YthmlhkllbichgaaGreatDoor
namespace Go.Proofs.YthmlhkllbichgaaGreatDoor
set_option maxHeartbeats 16000000
open Go.RowKit
set_option maxRecDepth 100000
theorem xprIn {L:Nat}{p:Pr}{w:World}(h:XPr (Fro L) p w):p.In w.heap.size w:=⟨h.1,DsIn.stay h.2.1 (stay_up _ _) (Nat.le_refl _),SsIn.stay h.2.2.1 (stay_up _ _) (Nat.le_refl _),SsIn.stay h.2.2.2 (stay_up _ _) (Nat.le_refl _)⟩
theorem prInMono {w:World}{p:Pr}{B B':Nat}(h:p.In B w)(hB:B≤B'):p.In B' w:=⟨h.1,h.2.1.mono (fun _ _=>rfl) hB,h.2.2.1.mono (fun _ _=>rfl) hB,h.2.2.2.mono (fun _ _=>rfl) hB⟩
theorem prUp {p:Pr}{w w':World}(h:p.In w.heap.size w)(hb:Below w.heap.size w w'):p.In w'.heap.size w':=prInMono (h.below hb (Nat.le_refl _)) hb.size
theorem noPr_in (w:World):noPr.In w.heap.size w:=xprIn (L:=0) ⟨⟨by decide,by decide⟩,⟨sl_no,(fun a ha=>by cases ha),fun i hi=>absurd hi (Nat.not_lt_zero i)⟩,xb_no,xb_no⟩
theorem lparses_walk (s:ByteArray)(w:World)(hE:Env9 w)(hS:SgOk w):Calls Tryz.prog 3 #[.string s] w fun r w'=>r=.returned (.bool true)∧Below w.heap.size w w':=by
 have WK:=Hj (works11_any w hE hS);have LX:=Hj fun w hE=>xLex_any s w hE;have PE:=Hj fun w hE=>ppParse_any s w hE;have HE:=Hj hE;have RS:Hid (rsP s.data.toList=if(lexV s.data.toList).2.1=0 then prog ⟨(lexV s.data.toList).1,0,0⟩else .no (lexV s.data.toList).2.1 ((lexV s.data.toList).2.2:Nat)):=rfl;have GL:=Hj (good_lex (l:=s.data.toList));clear hE hS;generalize rsP s.data.toList=Z at *;generalize lexV s.data.toList=L at *;obtain⟨ts,er,at_⟩:=L;go_enter Tryz.func3,Tryz.ntmps3;go_wp2_with fail;refine WK.out.mono ?_;rintro r w1 ⟨rfl,b1⟩;have B1:=Hj b1;clear b1 WK;go_wp2_with fail;refine(LX.out _ (HE.out.below B1.out)).mono ?_;rintro r w2 ⟨v,rfl,own,b2⟩;have B2:=Hj (bel_trans B1.out b2);have OW:=Hj own;clear b2 own LX B1;dsimp only at OW ⊢
 by_cases c:er=0
 ·subst c
  have HZ:Hid (Z=prog ⟨ts,0,0⟩):=RS.out;have hg:Good ts:=GL.out rfl;obtain⟨T,cp,rfl,hT,hT2,hr,hc1,hc2⟩:=own_tok (ts:=ts) OW.out hg.pos;have FT:=Hj (And.intro hT2 (And.intro hr (And.intro hc1 (And.intro hc2 hg))));clear hT hT2 hr hc1 hc2 hg OW GL RS;go_wp2_with fail;refine(PE.out _ (HE.out.below B2.out)).mono ?_;rintro r w3 ⟨v,rfl,⟨p',rfl,xp,ep⟩,b3⟩;have BLb:=bx_bel (Below.refl w3.heap.size w3) (Nat.le_refl _) (pO p');have XA:=Hj (prUp (xprIn xp) BLb);have GA:Hid ((bx w3 (pO p')).heap[w3.heap.size]? = some (pO p')):=bx_new w3 _;have B3:=Hj (bel_trans b3 BLb);have BW3:=Hj (bel_trans B2.out B3.out);have EA:=Hj ep;clear xp ep b3 BLb PE B2;unfold Pr.v;go_upto_region 6 with fail;rw[bx_p];change Code.wp _ _ _ _ (bx w3 (pO p'));generalize w3.heap.size=ga at *;generalize bx w3 (pO p')=w4 at *
  have hl9:(ts.length:Int)≤9223372036854775807:=by
   have:=FT.out.2.2.2.1;have:=FT.out.2.2.1;unfold maxLen at *;omega
  by_cases cl:(3000:Int)<(ts.length:Int)
  ·go_wp2_with fail
   go_ret;exact⟨rfl,BW3.out⟩
  ·obtain⟨hT2,hr,hc1,hc2,hg⟩:=FT.out
   have RX:=Hj (rrTokens_any ts T 0 cp w4 (Nat.lt_of_lt_of_le hT2 B3.out.size) (rangeAt_blk hr (B3.out.block T hT2)) hc1 hc2 hg);rw[←HZ.out]at RX;clear hT2 hr hc1 hc2 hg FT;go_wp2_with fail;refine RX.out.mono ?_;rintro r w5 ⟨v,rfl,⟨q',rfl,xq,eq⟩,b5⟩;have BLb:=bx_bel (Below.refl w5.heap.size w5) (Nat.le_refl _) (pO q');have XB:=Hj (prUp (xprIn xq) BLb);have GB:Hid ((bx w5 (pO q')).heap[w5.heap.size]? = some (pO q')):=bx_new w5 _;have B5:=Hj (bel_trans b5 BLb);have BW5:=Hj (bel_trans BW3.out B5.out);have GA5:=Hj (kept_obj B5.out GA.out);have XA6:=Hj (prUp XA.out B5.out);have SM:Hid (p'.same q'=true):=Pr.trans (Pr.eqv_same EA.out) (Pr.symm (Pr.eqv_same eq));have PL:Hid (p'.pe q'):=ppe_eqv EA.out eq;clear xq eq b5 BLb BW3 GA XA EA RX;unfold Pr.v;go_upto_region 12 with fail;rw[bx_p];change Code.wp _ _ _ _ (bx w5 (pO q'));generalize w5.heap.size=gb at *;generalize bx w5 (pO q')=w6 at *;obtain⟨x0,x1,x2,x3⟩:=p_cells GA5.out;obtain⟨y0,y1,y2,y3⟩:=p_cells GB.out;clear B5;have GS:=Hj (gSame_any w6.heap.size p' q' w6 XA6.out XB.out (Nat.le_refl _));rw[SM.out]at GS;go_wp2_with fail;refine GS.out.mono ?_;rintro r w7 ⟨rfl,b7⟩;have B7:=Hj b7;clear b7 GS x0 x1 x2 x3 y0 y1 y2 y3
   obtain⟨x0,x1,x2,x3⟩:=p_cells (kept_obj B7.out GA5.out);obtain⟨y0,y1,y2,y3⟩:=p_cells (kept_obj B7.out GB.out);have SL:=Hj (samePlaces_any w6.heap.size p' q' PL.out w7 (XA6.out.below B7.out (Nat.le_refl _)) (XB.out.below B7.out (Nat.le_refl _)) B7.out.size);go_wp2_with fail;refine SL.out.mono ?_;rintro r w8 ⟨rfl,b8⟩;have BW8:=Hj (bel_trans BW5.out (bel_trans B7.out b8));clear b8 SL x0 x1 x2 x3 y0 y1 y2 y3;go_wp2_with fail;go_ret;exact⟨rfl,BW8.out⟩
 ·have HZ:Hid (Z=.no er ((at_:Nat):Int)):=by show Z=_;rw[RS.out];exact if_neg c
  have c2:=b_ne c;have PE2:=Hj (PE.out w2 (HE.out.below B2.out));rw[HZ.out]at PE2;clear PE RS GL OW c;go_wp2_with fail;refine PE2.out.mono ?_;rintro r w3 ⟨v,rfl,⟨p',rfl,xp,ep⟩,b3⟩;have BLb:=bx_bel (Below.refl w3.heap.size w3) (Nat.le_refl _) (pO p');have XA:=Hj (prUp (xprIn xp) BLb);have GA:Hid ((bx w3 (pO p')).heap[w3.heap.size]? = some (pO p')):=bx_new w3 _;have B3:=Hj (bel_trans B2.out (bel_trans b3 BLb));have SM:Hid (p'.same noPr=true):=Pr.eqv_same ep;clear xp ep b3 BLb PE2 B2;dsimp only[Rs.er,Rs.pl];unfold Pr.v;go_upto_region 6 with fail;rw[bx_p];change Code.wp _ _ _ _ (bx w3 (pO p'));generalize w3.heap.size=ga at *;generalize bx w3 (pO p')=w4 at *;obtain⟨x0,x1,x2,x3⟩:=p_cells GA.out;have GS:=Hj (gSame_any w4.heap.size p' noPr w4 XA.out (noPr_in w4) (Nat.le_refl _));rw[SM.out]at GS;go_wp2_with fail;refine GS.out.mono ?_;rintro r w5 ⟨rfl,b5⟩;have BW:=Hj (bel_trans B3.out b5);clear b5 GS x0 x1 x2 x3;go_wp2_with fail;go_ret;exact⟨rfl,BW.out⟩
theorem lparses_card (s:ByteArray)(w:World)(hE:Env9 w∧SgOk w):Calls Tryz.prog 3 #[.string s] w fun r w'=>r=.returned (.bool true)∧Below w.heap.size w w':=lparses_walk s w hE.1 hE.2
end Go.Proofs.YthmlhkllbichgaaGreatDoor
namespace Go.Proofs.YthmlhkllbichgaaGreatDoor
set_option maxHeartbeats 16000000
open Go.ChangeShapes Go.WideShapes Go.ChangeAt Go.RowKit Go.Joins
set_option maxRecDepth 100000
theorem own:ownKnob Tryz.prog.godebug=none:=by kernel_rfl
section
variable {H:Type} {enc:TypeId×Value→H} {w:World} {base:Nat} {spare:Nat→Bool} {held:Bool} {r:Reach} {bb:Nat} {v:Value} {d:DataW H} {p:List MemPlace}
end
theorem gTab:Tryz.prog.globalNamed "math/bits.deBruijn32tab" = some 10:=by kernel_rfl
theorem tTab:(Tryz.prog.globals[10]?).map (·.type)=some 313:=by kernel_rfl
theorem tab_at (l:List (DataW Unit))(hl:Rows.laid_math_bits_deBruijn32tab=DataW.agg l)(j:Nat)(hj:j<32):l[j]? = some (.lit (.int .u8 ((Lib.deBruijn32tab.getD j 0:Nat):Int))):=by
 unfold Rows.laid_math_bits_deBruijn32tab at hl;injection hl with hl;subst hl
 match j,hj with
 | 0,_=>rfl
 | 1,_=>rfl
 | 2,_=>rfl
 | 3,_=>rfl
 | 4,_=>rfl
 | 5,_=>rfl
 | 6,_=>rfl
 | 7,_=>rfl
 | 8,_=>rfl
 | 9,_=>rfl
 | 10,_=>rfl
 | 11,_=>rfl
 | 12,_=>rfl
 | 13,_=>rfl
 | 14,_=>rfl
 | 15,_=>rfl
 | 16,_=>rfl
 | 17,_=>rfl
 | 18,_=>rfl
 | 19,_=>rfl
 | 20,_=>rfl
 | 21,_=>rfl
 | 22,_=>rfl
 | 23,_=>rfl
 | 24,_=>rfl
 | 25,_=>rfl
 | 26,_=>rfl
 | 27,_=>rfl
 | 28,_=>rfl
 | 29,_=>rfl
 | 30,_=>rfl
 | 31,_=>rfl
 | n+32,h=>omega
end Go.Proofs.YthmlhkllbichgaaGreatDoor
namespace Go.Proofs.YthmlhkllbichgaaGreatDoor
set_option maxHeartbeats 16000000
open Go.ChangeShapes Go.WideShapes Go.ChangeAt Go.RowKit Go.Joins Go.Deep
set_option maxRecDepth 100000
section
variable {H:Type} {enc:TypeId×Value→H} {w:World} {base:Nat} {spare:Nat→Bool} {held:Bool} {r:Reach} {bb:Nat} {v:Value} {d:DataW H} {p:List MemPlace}
end
end Go.Proofs.YthmlhkllbichgaaGreatDoor
namespace Go.Proofs.YthmlhkllbichgaaGreatDoor
set_option maxHeartbeats 16000000
open Go.ChangeShapes Go.WideShapes Go.ChangeAt Go.RowKit Go.Joins
set_option maxRecDepth 100000
instance:Inhabited Ex:=⟨.no⟩
instance:Inhabited St:=⟨.no⟩
instance:Inhabited De:=⟨⟨0,false,[],0,0,false,.no,.no⟩⟩
section
variable {H:Type} {enc:TypeId×Value→H} {w:World} {base:Nat} {spare:Nat→Bool} {held:Bool}
end
abbrev theLaid8:List (String×DataW Unit):=[("math/bits.deBruijn32tab",Rows.laid_math_bits_deBruijn32tab),("math/bits.deBruijn64tab",Rows.laid_math_bits_deBruijn64tab),("internal/strconv.uint64pow10",Rows.laid_internal_strconv_uint64pow10),("unicode/utf8.acceptRanges",Rows.laid_unicode_utf8_acceptRanges),("strconv.ErrRange",Rows.laid_strconv_ErrRange),("strconv.ErrSyntax",Rows.laid_strconv_ErrSyntax),("unicode.White_Space",Rows.laid_unicode_White_Space),("strings.asciiSpace",Rows.laid_strings_asciiSpace),("flyball/tree.signs",Rows.laid_flyball_tree_signs),("unicode/utf8.first",Rows.laid_unicode_utf8_first)]
theorem pow10_type:(Tryz.prog.globals[8]?).map (·.type)=some 289:=by kernel_rfl
theorem pow10_laid:(Rows.laid_internal_strconv_uint64pow10:DataW Unit)=Lib.tabData .u64 Lib.pow10Tab:=by kernel_rfl
theorem sign_at (xs:List (DataW Unit))(h:(Rows.laid_flyball_tree_signs:DataW Unit)=.agg xs)(j:Nat)(hj:j<12):xs[j]? = some (.lit (.string (signB ((j:Int)+5)))):=by
 have e:xs=[.lit (.string [43]),.lit (.string [45]),.lit (.string [42]),.lit (.string [47]),.lit (.string [60]),.lit (.string [60,61]),.lit (.string [61,61]),.lit (.string [33,61]),.lit (.string [62]),.lit (.string [62,61]),.lit (.string [38,38]),.lit (.string [124,124])]:=(DataW.agg.inj h).symm;subst e
 match j,hj with
 | 0,_=>rfl
 | 1,_=>rfl
 | 2,_=>rfl
 | 3,_=>rfl
 | 4,_=>rfl
 | 5,_=>rfl
 | 6,_=>rfl
 | 7,_=>rfl
 | 8,_=>rfl
 | 9,_=>rfl
 | 10,_=>rfl
 | 11,_=>rfl
def E11 (W:World):Prop:=Env9 W∧SgOk W
theorem tabs_of_laid8 {W:World}(h:laidMetH Tryz.prog theLaid8 W):(TabOk W∧Lib.TabIs Tryz.prog W "internal/strconv.uint64pow10" .u64 Lib.pow10Tab)∧Lib.TabIs Tryz.prog W "strings.asciiSpace" .u8 Lib.asciiSpaceTab∧(∃ev,W.cell? ⟨7,0,none⟩=some ev∧(ev=.nilIface∨∃te pe,ev=.iface te pe))∧SgOk W:=by
 rw[MakeChecks.laidMetH_plain _ _ _ (by kernel_rfl)]at h;obtain⟨ps,⟨g0,t0,cs0,f0,p0,q0,hg0,ht0,hv0,hd0,⟨g1,t1,cs1,f1,p1,q1,hg1,ht1,hv1,hd1,⟨g2,t2,cs2,f2,p2,q2,hg2,ht2,hv2,hd2,⟨g3,t3,cs3,f3,p3,q3,hg3,ht3,hv3,hd3,⟨g4,t4,cs4,f4,p4,q4,hg4,ht4,hv4,hd4,⟨g5,t5,cs5,f5,p5,q5,hg5,ht5,hv5,hd5,⟨g6,t6,cs6,f6,p6,q6,hg6,ht6,hv6,hd6,⟨g7,t7,cs7,f7,p7,q7,hg7,ht7,hv7,hd7,⟨g8,t8,cs8,f8,p8,q8,hg8,ht8,hv8,hd8,_,_⟩,_⟩,_⟩,_⟩,_⟩,_⟩,_⟩,_⟩,_⟩,_⟩:=h;refine⟨⟨?_,?_⟩,?_,?_,?_⟩
 ·obtain rfl:=Option.some.inj (gTab.symm.trans hg0)
  obtain rfl:=Option.some.inj (tTab.symm.trans ht0);obtain⟨xs,m1,rfl,hx1,hlen,hn,hel⟩:=DataW.trod_array Tryz.underlying313 hd0;have c5:Tryz.prog.cellsOf 5=1:=by kernel_rfl
  simp only[Prod.mk.injEq]at hx1;have hx2:Rows.laid_math_bits_deBruijn32tab=DataW.agg (xs.map (·.1)):=hx1.1;intro j hj;rw[World.var?_cell hg0 hv0 j];have he:=hel j hj;rw[c5,Nat.mul_one]at he;have hjx:j<xs.length:=by omega
  rw[List.getElem?_eq_getElem hjx]at he;obtain⟨k,e1,e2,_⟩:=DataW.trod_int Tryz.underlying5 he;have e3:(xs.map (·.1))[j]? = some (.lit (.int .u8 k)):=by rw[List.getElem?_map,List.getElem?_eq_getElem hjx,e2];rfl
  have e5:=(tab_at _ hx2 j hj).symm.trans e3;simp only[Option.some.injEq,DataW.lit.injEq,Lit.int.injEq,true_and]at e5
  have e6:cs0.toList[j]? = some (.int .u8 k):=by
   have:((cs0.toList.drop j).take 1)[0]? = some (.int .u8 k):=by rw[e1];rfl
   rw[List.getElem?_take,if_pos (by decide),List.getElem?_drop]at this
   simpa using this
  rw[←Array.getElem?_toList,e6,e5]
 ·obtain rfl:=Option.some.inj (pow10_var.symm.trans hg2)
  obtain rfl:=Option.some.inj (pow10_type.symm.trans ht2);rw[pow10_laid]at hd2;unfold Lib.TabIs;rw[hv2,←Lib.cells_of_tab Tryz.underlying289 Tryz.underlying37 (by kernel_rfl) (by kernel_rfl) hd2]
 ·obtain rfl:=Option.some.inj ((show Tryz.prog.globalNamed "strings.asciiSpace" = some 0 by kernel_rfl).symm.trans hg7)
  obtain rfl:=Option.some.inj ((show(Tryz.prog.globals[0]?).map (·.type)=some 132 by kernel_rfl).symm.trans ht7);rw[show(Rows.laid_strings_asciiSpace:DataW Unit)=Lib.tabData .u8 Lib.asciiSpaceTab by kernel_rfl]at hd7;unfold Lib.TabIs;rw[hv7,←Lib.cells_of_tab Tryz.underlying132 Tryz.underlying5 (by kernel_rfl) (by kernel_rfl) hd7]
 ·obtain rfl:=Option.some.inj ((show Tryz.prog.globalNamed "strconv.ErrRange" = some 7 by kernel_rfl).symm.trans hg4)
  obtain rfl:=Option.some.inj ((show(Tryz.prog.globals[7]?).map (·.type)=some 120 by kernel_rfl).symm.trans ht4);obtain⟨f',u,v,e, -, -⟩:=iface_of_trod Tryz.underlying120 hd4;have hc:=World.var?_cell hg4 hv4 0;have e0:cs4[0]? = some (.iface u v):=by rw[←Array.getElem?_toList,e];rfl
  exact⟨_,hc.trans e0,.inr ⟨u,v,rfl⟩⟩
 ·obtain rfl:=Option.some.inj ((show Tryz.prog.globalNamed "flyball/tree.signs" = some 1 by kernel_rfl).symm.trans hg8)
  obtain rfl:=Option.some.inj ((show(Tryz.prog.globals[1]?).map (·.type)=some 166 by kernel_rfl).symm.trans ht8);obtain⟨xs,m1,rfl,hx1,hlen,hn,hel⟩:=DataW.trod_array Tryz.underlying166 hd8;have c9:Tryz.prog.cellsOf 9=1:=by kernel_rfl
  simp only[Prod.mk.injEq]at hx1;have hx2:Rows.laid_flyball_tree_signs=DataW.agg (xs.map (·.1)):=hx1.1;intro j hj;rw[World.var?_cell hg8 hv8 j];have he:=hel j hj;rw[c9,Nat.mul_one]at he;have hjx:j<xs.length:=by omega
  rw[List.getElem?_eq_getElem hjx]at he;obtain⟨s,e1,e2,_⟩:=DataW.trod_string Tryz.underlying9 he;have e3:(xs.map (·.1))[j]? = some (.lit (.string s.data.toList)):=by rw[List.getElem?_map,List.getElem?_eq_getElem hjx,e2];rfl
  have e5:=(sign_at _ hx2 j hj).symm.trans e3;simp only[Option.some.injEq,DataW.lit.injEq,Lit.string.injEq]at e5
  have e6:cs8.toList[j]? = some (.string s):=by
   have:((cs8.toList.drop j).take 1)[0]? = some (.string s):=by rw[e1];rfl
   rw[List.getElem?_take,if_pos (by decide),List.getElem?_drop]at this
   simpa using this
  rw[←Array.getElem?_toList,e6,e5]
theorem env_of8 {W:World}(h:laidMetH Tryz.prog theLaid8 W)(hs:W.ShapedOpen Tryz.prog):E11 W:=
 ⟨⟨⟨(tabs_of_laid8 h).1.1,(tabs_of_laid8 h).1.2,cell_of_shapedOpen_int (zero:=#[.int .i64 0]) (t:=3) hs (of_decide_eq_true (by kernel_rfl)) (by kernel_rfl) rfl (by kernel_rfl) (by kernel_rfl) Tryz.underlying3⟩,(tabs_of_laid8 h).2.1,(tabs_of_laid8 h).2.2.1⟩,(tabs_of_laid8 h).2.2.2⟩
theorem laid8_met (os:Os)(args:Array Value):laidMetH Tryz.prog theLaid8 ((World.laidAll Tryz.prog os theLaid8).forCall (fun _ _=>0) ⟨#[],args,[]⟩).memory:=by
 rw[MakeChecks.laidMetH_plain _ _ _ (by kernel_rfl)];exact laidMet_laidAll _ (by kernel_rfl) (by kernel_rfl)
theorem lift8 {H:Type}{enc:TypeId×Value→H}{os:Os}{f:FuncId}{fn:Func}{s:ChangeSpec}(started:os.Started)(noInit:Tryz.checked.prog.inits.idxOf? f=none)(hfn:Tryz.checked.prog.funcs[f]? = some fn)
  (witness:∃(w:World) (tape:Tape) (i:Input),w.os=os∧(w.forCall tape i).Shaped Tryz.checked.prog∧i.vars=[]∧Input.okWide Tryz.checked.prog (w.forCall tape i) .any w.heap.size f i ∧
   ((s.pre enc Tryz.checked.prog fn [] false (w.forCall tape i).memory i.args∧laidMetH Tryz.prog theLaid8 (w.forCall tape i).memory)∧sizedMet enc Tryz.checked.prog fn (OpenSpec.ofChange s) false (w.forCall tape i).memory i.args)∧({}:Assume).holds Tryz.checked.prog (lone (Frame.enter Tryz.checked.prog f i.args .normal) [] (w.forCall tape i)))
  (walk:∀(W:World) (base:Nat) (args:Array Value) (ds gs:List (DataW H)) (before:List MemPlace),
   (∀(j:Nat) t v,fn.params[j]? = some t→args[j]? = some v→Value.okWide Tryz.checked.prog W .any base t v)→DataW.Whole enc Tryz.checked.prog fn.params.toList s.vars false W args.toList ds gs before→E11 W →
   Calls Tryz.checked.prog f args W fun e W'=>∃v,e=.returned v∧s.post enc Tryz.checked.prog fn false true false false W args v W') :
  ReturnsInHanded {} Tryz.checked os f .any (fun w args=>(s.pre enc Tryz.checked.prog fn [] false w args∧laidMetH Tryz.prog theLaid8 w)∧sizedMet enc Tryz.checked.prog fn (OpenSpec.ofChange s) false w args) (s.post enc Tryz.checked.prog fn false true false false):=by
 refine returnsInHanded_of_calls own started noInit witness ?_;intro w tape i _ hsh _ hok hpre _;obtain⟨_,_,_,fn',hfn',_,_,_,_,hval⟩:=hok;obtain rfl:fn'=fn:=Option.some.inj (hfn'.symm.trans hfn);obtain⟨⟨⟨ds,gs,before,hw, -⟩,hx⟩, -⟩:=hpre;refine(walk (w.forCall tape i) w.heap.size i.args ds gs before hval (DataW.Whole.of_heap (w':=w.forCall tape i) (by rfl) hw) (env_of8 (hx.of_heap (by rfl)) hsh)).mono fun e W' ⟨v,he,hp⟩=>?_;subst he;exact ChangeSpec.post_blind hp
end Go.Proofs.YthmlhkllbichgaaGreatDoor
