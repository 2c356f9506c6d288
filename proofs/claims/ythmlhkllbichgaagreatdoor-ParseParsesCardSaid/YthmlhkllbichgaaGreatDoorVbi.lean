/-
  ParseParses: a source's tree, or what is wrong with it, is the reference's. (part 35 of 38) Conditions: none beside what the card ties.
-/
import Derived.Test.YthmlhkllbichgaaGreatDoorVbh
namespace Go.Proofs.YthmlhkllbichgaaGreatDoor
set_option maxHeartbeats 16000000
open Go.RowKit Go.Maps
set_option maxRecDepth 100000
theorem pb_none {R:Nat}{w w1:World}{Z:Rs (List St)}(hu:U R Z w1)(hn:∀a s,Z ≠ .ok a s)(hf:Fx (On R) w.heap.size w w1):PB R w Z (.returned (.slice none 0 0)) w1:=⟨⟨none,0,0⟩,fun _=>.no,rfl,xb_no,fun l s e=>absurd e (hn l s),hu,hf⟩
theorem rrblock_of (R k:Nat)(hk:k≤24)(hs:∀k',k=k'+1→RS R k'):RB R k:=by
 obtain⟨i0,hi,hz0,hz1,hz2⟩:=info_parts stm_info;have HI:=Hj hi;have HZ0:=Hj hz0;have HZ1:=Hj hz1;have HZ2:=Hj hz2;intro α r w d hd h;have fp:=fun(t:Tk) w=>tkv_ps t w;have HU:=Hj h;have HRL:=Hj h.lt;have HDK:=Hj (And.intro hd hk);have HS:=Hj hs;have w64:wrap64 (d+1)=d+1:=by unfold wrap64;omega
 generalize hZ:(r.bind fun _ s=>blk (sK k) s)=Z;have HZ:=Hj hZ;clear hi hz0 hz1 hz2 h hs hd hk hZ;go_enter Tryz.func37,Tryz.ntmps37;go_wp2_with fail;refine(rrtok_any R r w HU.out).mono ?_;rintro q w1 ⟨t,rfl, -,ht,hb⟩;have HT:=Hj ht;have HU1:=Hj (HU.out.below hb);have HF1:Hid (Fx (On R) w.heap.size w w1):=Fx.of hb;clear ht hb HU;go_wp2_with fail;refine(rris_any R r [123] (by decide) w1 HU1.out).mono ?_;rintro q w2 ⟨b,rfl,hb2,bl⟩;have HB:=Hj hb2;have HU2:=Hj (HU1.out.below bl);have HF2:=Hj (fx_bel HF1.out bl);clear hb2 bl HU1 HF1
 cases b with
 | false=>
  have E:Hid (∀w3,U R (r.bind fun _ _=>(.no 110 t.ps:Rs Unit)) w3→U R Z w3∧∀a s,Z ≠ .ok a s):=fun w3 hu=>by
   rw[←HZ.out]
   cases r with
   | no c p=>exact⟨hu.of rfl,fun a s e=>by cases e⟩
   | ok a s=>
    have h1:=(res_eq (HB.out a s rfl)).2 rfl;have e1:blk (sK k) s=.no 110 t.ps:=by unfold blk bad;rw[if_neg h1,HT.out a s rfl]
    refine⟨hu.of (by show _=(blk (sK k) s).st;rw[e1];rfl),fun b s' e=>?_⟩;change blk (sK k) s=_ at e;rw[e1]at e;cases e
  go_wp2_with fail;refine(rrfail_any R r 110 t.ps (by decide) w2 HU2.out).mono ?_;rintro q w3 ⟨rfl,h3,f3⟩;obtain⟨e1,e2⟩:=E.out w3 h3;have HE1:=Hj e1;have HE2:=Hj e2;have HF3:=Hj (fx_trans HF2.out f3);clear h3 f3 HU2 HF2 E e1 e2;go_wp2_with fail;refine bodyPost_ret (results_tmp rfl _ _ _) rfl ?_;exact pb_none HE1.out HE2.out HF3.out
 | true=>
  go_wp2_with fail;refine(rrdeeper_any R r (d+1) t.ps w2 HU2.out).mono ?_;rintro q w3 ⟨rfl,h3,f3⟩;have HU3:=Hj h3;have HF3:=Hj (fx_trans HF2.out f3);clear h3 f3 HU2 HF2
  cases hok:(r.bind fun _ s=>dpT (d+1) t.ps s).isOk with
  | false=>
   have E:Hid (U R Z w3∧∀a s,Z ≠ .ok a s):=by
    show U R Z w3∧_;rw[←HZ.out]
    cases r with
    | no c p=>exact⟨HU3.out.of rfl,fun a s e=>by cases e⟩
    | ok a s=>
     have h1:=(res_eq (HB.out a s rfl)).1 rfl
     have hk0:k=0:=by
      have h2:(dpT (d+1) t.ps s).isOk=false:=hok;unfold dpT at h2
      split at h2
      ·have:=HDK.out;omega
      ·cases h2
     subst hk0;have e1:blk (sK 0) s=.no 111 t.ps:=by unfold blk;rw[if_pos h1,HT.out a s rfl];rfl
     have e2:dpT (d+1) t.ps s=.no 111 t.ps:=by unfold dpT;rw[if_pos (by have:=HDK.out;omega)]
     refine⟨HU3.out.of (by show(dpT (d+1) t.ps s).st=(blk (sK 0) s).st;rw[e1,e2];rfl),fun b s' e=>?_⟩;change blk (sK 0) s=_ at e;rw[e1]at e;cases e
   clear HU3;go_wp2_with fail;refine bodyPost_ret (results_tmp rfl _ _ _) rfl ?_;exact pb_none E.out.1 E.out.2 HF3.out
  | true=>
   obtain⟨a,s,e1⟩:∃a s,r=.ok a s:=by
    cases r with
    | no c p=>cases hok
    | ok a s=>exact⟨a,s,rfl⟩
   subst e1
   have hle:¬24<d+1:=fun x=>by
    have h2:(dpT (d+1) t.ps s).isOk=true:=hok;unfold dpT at h2;rw[if_pos x]at h2;cases h2
   obtain⟨k,rfl⟩:∃k',k=k'+1:=⟨k - 1,by have:=HDK.out;omega⟩;have h1:s.hd.tx=[123]:=(res_eq (HB.out a s rfl)).1 rfl;have e2:dpT (d+1) t.ps s=.ok () s:=by unfold dpT;rw[if_neg hle]
   have HU3':Hid (U R (.ok () s:Rs Unit) w3):=by
    have h2:U R (dpT (d+1) t.ps s) w3:=HU3.out;rw[e2]at h2;exact h2
   have E0:Hid (Z=many (stK k) (s.ts.length+1) [] s.tk):=by
    show Z=_;rw[←HZ.out];show blk (sK (k+1)) s=_;unfold blk;rw[if_pos h1];rfl
   have E1:Hid (expT [123] s=.ok () s.tk):=if_pos h1
   have L0:Hid (s.tk.ts.length<s.ts.length+1):=by
    show _<_;have:=tk_len HU3'.out.good;omega
   have HD1:Hid (d+1+k=24):=by have:=HDK.out.1;show d+1+(k:Int)=24;omega
   have RSk:=Hj (HS.out k rfl);clear hok hle h1 e2 HU3 HZ HB HT HS HDK;go_wp2_with fail;refine(rrmust_any R (.ok () s:Rs Unit) [123] (by decide) w3 HU3'.out).mono ?_;rintro q w4 ⟨rfl,h4,f4⟩
   have HU4:Hid (U R (.ok () s.tk:Rs Unit) w4):=by
    have h2:U R (expT [123] s) w4:=h4;rw[E1.out]at h2;exact h2
   have HF4:=Hj (fx_trans HF3.out f4);clear h4 f4 HF3 E1 HU3';go_wp2_with fail
   go_loopg [6] (meas (.ok () s.tk:Rs Unit)) (fun gk v wr=>∃(r:Rs Unit) (l:List St) (n:Nat) (K:Nat→St) (f:Nat),Hid (gk=meas r)∧Hid (RF R w v n K wr)∧Hid (n≤201)∧Hid (QS r l n K f)∧Hid (U R r wr)∧Hid (Z=r.bind fun _ s=>many (stK k) f l s))
   case atStart=>exact⟨.ok () s.tk,[],0,fun _=>.no,s.ts.length+1,rfl,⟨HRL.out,⟨rfl,.inl ⟨rfl,rfl⟩⟩,(fun i hi=>absurd hi (Nat.not_lt_zero i)),HF4.out⟩,Nat.zero_le _,(fun a s' e=>by cases e;exact⟨rfl,Nat.zero_le _,L0.out,fun i hi=>absurd hi (Nat.not_lt_zero i)⟩),HU4.out,E0.out⟩
   case round=>
    clear HU4 HF4 E0 L0 HRL;obtain⟨r,l,n,K,f,HGK,HRF,HN,HQ,HU,HZ⟩:=hrel;obtain⟨er,m2,he⟩:=HU.out.err
    cases r with
    | no c p=>
     have e0:(er == 0)=false:=b_ne (fun e=>by have:=he.1 e;cases this);clear he;go_wp2_with fail;refine(rrmust_any R _ [125] (by decide) wr HU.out).mono ?_;rintro q w5 ⟨rfl,h5,f5⟩;have HRF5:=Hj (HRF.out.fx f5);have HU5:Hid (U R Z w5):=by show U R Z w5;rw[HZ.out];exact h5.of rfl
     clear h5 f5 HRF HU m2;go_wp2_with fail;refine bodyPost_ret (results_tmp rfl _ _ _) rfl ?_;exact HRF5.out.ret HU5.out (fun l s e=>by rw[HZ.out]at e;cases e)
    | ok u s=>
     obtain rfl:er=0:=he.2 rfl;obtain⟨hq1,hq2,hq3,hq4⟩:=HQ.out u s rfl;obtain⟨f,rfl⟩:∃f',f=f'+1:=⟨f - 1,by omega⟩;have HQ1:=Hj (And.intro hq1 (And.intro hq2 (And.intro hq3 hq4)));clear he hq1 hq2 hq3 hq4 HQ;go_wp2_with fail;refine(rris_any R _ [125] (by decide) wr HU.out).mono ?_;rintro q w5 ⟨b,rfl,hb,bl⟩;have HB:=Hj (res_eq (hb u s rfl));have HU5:=Hj (HU.out.below bl);have HRF5:=Hj (HRF.out.bel bl);clear hb bl HU HRF m2
     cases b with
     | true=>
      have h1:=HB.out.1 rfl;have E:Hid (Z=.ok l s.tk):=by show Z=_;rw[HZ.out];show many (stK k) (f+1) l s=_;rw[many,if_pos h1]
      have E1:Hid (expT [125] s=.ok () s.tk):=if_pos h1;clear h1 HB HZ;go_wp2_with fail;refine(rrmust_any R _ [125] (by decide) w5 HU5.out).mono ?_;rintro q w6 ⟨rfl,h6,f6⟩;have HRF6:=Hj (HRF5.out.fx f6)
      have HU6:Hid (U R Z w6):=by
       show U R Z w6;rw[E.out];have h7:U R (expT [125] s) w6:=h6;rw[E1.out]at h7;exact h7.of rfl
      clear h6 f6 HRF5 HU5 E1;go_wp2_with fail;refine bodyPost_ret (results_tmp rfl _ _ _) rfl ?_;exact HRF6.out.ret HU6.out (fun l s e=>by rw[E.out]at e;cases e;exact⟨HQ1.out.1,HQ1.out.2.2.2⟩)
     | false=>
      have h1:=HB.out.2 rfl;have E:Hid (Z=(stK k s).bind fun x s'=>many (stK k) f (l++[x]) s'):=by show Z=_;rw[HZ.out];show many (stK k) (f+1) l s=_;rw[many,if_neg h1]
      have HLF:=Hj (rd_stK k s HU5.out.good);have HPO:=Hj HU5.out.good.pos;have HNS:=Hj HU5.out.ns;clear h1 HB HZ;obtain⟨A,cp,rfl⟩:=own_form HRF5.out.own;go_wp2_with fail;refine(RSk.out s w5 (d+1) HD1.out HU5.out).mono ?_;rintro q w6 ⟨b,rfl,xb,eb,h6,f6⟩;have HRF6:=Hj (HRF5.out.fx f6);have HU6:=Hj h6;have XB6:=Hj xb;have EB6:=Hj eb;have SZ6:=Hj f6.size;have ONE:Hid (∀u∈stvs b.h b.e.h,u.oneCell'=true):=(by show ∀u∈stvs b.h b.e.h,u.oneCell'=true;simp[stvs,Value.oneCell']);have HN1:Hid (n+1≤201):=by have:=HNS.out;have:=HQ1.out.2.1;show n+1≤201;omega
      have LN:Hid (n+1≤maxLen):=(by show n+1≤maxLen;have:=HN1.out;unfold maxLen;omega);have LB:Hid ((n+1)*184≤140737488355328):=(by show(n+1)*184≤_;have:=HN1.out;omega);clear xb eb h6 f6 HU5
      go_wp2_with (first
       | (refine bs_st b.h b.e.h rfl _ rfl rfl ?_;intro db w7 hdb ZB BA;have NW:=new_stm ZB.out)
       | (refine wpList_append_moved w7 rfl _ _ 28 rfl w.heap.size 53 i0 _ 15 184 Tryz.underlying28 HI.out HZ0.out HZ1.out HZ2.out rfl (by decide) (.slice A n cp) n _ rfl (HRF6.out.bel BA.out).own ⟨db,0,none⟩ 1 1 (stvs b.h b.e.h) rfl rfl NW ONE.out LN.out LB.out (HRF6.out.bel BA.out).hf.size ?_;intro v6 w8 own6 gr6 mv6))
      have HRF7:=HRF6.out.bel BA.out;have HRF8:=HRF5.out.add (XB6.out.bel BA.out) (Nat.le_refl _) HRF7 own6 gr6 mv6;have HU7:=HU6.out.below BA.out
      go_roundg (meas (stK k s).st)
      case measure=>
       have:=HPO.out;have hlf:=HLF.out;rw[HGK.out]
       cases hres:stK k s with
       | no c p=>show 0<s.ts.length+1;omega
       | ok x s2=>have:=(hlf x s2 hres).2.1;show s2.ts.length+1<s.ts.length+1;omega
      case rel=>
       refine⟨(stK k s).st,l++[(stK k s).va .no],n+1,_,f,rfl,HRF8,HN1.out,fun a' s' e=>?_,?_,?_⟩
       ·cases hres:stK k s with
        | no c p=>rw[hres]at e;cases e
        | ok x s2=>
         rw[hres]at e;cases e;have h3:=HLF.out x _ hres;have h4:=HQ1.out;have hp:=HPO.out;exact⟨by rw[List.length_append,h4.1];rfl,by omega,by omega,more_eqv h4.1 h4.2.2.2 (EB6.out x _ hres)⟩
       ·exact(HU7.fx (gr_fx gr6) HU7.lt (fun q hq e=>by have:=(own_block HRF7.own e).1;have:=HRF7.rl;omega)).of (by cases stK k s<;>rfl)
       ·show Z=_
        rw[E.out,known (va_ok St.no),st_bind]
structure SF (R:Nat) (w:World) (xb tb:Nat) (t:Tk) (H:SH) (x:Nat→Ex) (e:Ex) (l1 l2:Nat→St) (w':World):Prop where
 rl:R<w.heap.size
 tl:w.heap.size<tb
 xl:tb<xb
 nb:Blk w' w.heap.size 53 (stvs zeroS zeroH).toArray
 tk:Blk w' tb 62 t.vs
 sk:Blk w' xb 53 (stvs H e.h).toArray
 ix:XL (fun k=>xb<k) H.xs x w'
 xe:XO (fun k=>xb<k) e w'
 th:XB (fun k=>xb<k) H.ts l1 w'
 el:XB (fun k=>xb<k) H.es l2 w'
 hf:Fx (On R) w.heap.size w w'
section
variable {R xb tb:Nat} {w w1 w2:World} {t:Tk} {H H':SH} {x x':Nat→Ex} {e e':Ex} {l1 l2 l1' l2':Nat→St}
theorem SF.rx (h:SF R w xb tb t H x e l1 l2 w1):R<xb:=by have:=h.rl;have:=h.tl;have:=h.xl;omega
theorem SF.fx (h:SF R w xb tb t H x e l1 l2 w1)(hf:Fx (On R) w1.heap.size w1 w2):SF R w xb tb t H x e l1 l2 w2:=by
 have n:¬(fun k=>xb<k) R:=fun(q:xb<R)=>by have:=h.rx;omega
 exact⟨h.rl,h.tl,h.xl,hf.blk h.nb h.nb.lt (on_ne h.rl),hf.blk h.tk h.tk.lt (on_ne (Nat.lt_trans h.rl h.tl)),hf.blk h.sk h.sk.lt (on_ne h.rx),h.ix.fx hf (on_not n),h.xe.fx hf (on_not n),h.th.fx hf (on_not n),h.el.fx hf (on_not n),fx_trans h.hf hf⟩
theorem SF.bel (h:SF R w xb tb t H x e l1 l2 w1)(hb:Below w1.heap.size w1 w2):SF R w xb tb t H x e l1 l2 w2:=h.fx (Fx.of hb)
theorem SF.wr (h:SF R w xb tb t H x e l1 l2 w1)(W:Wr1 xb w1 w2)(B:Blk w2 xb 53 (stvs H' e'.h).toArray)(ix:XL (fun k=>xb<k) H'.xs x' w1)(xe:XO (fun k=>xb<k) e' w1)(th:XB (fun k=>xb<k) H'.ts l1' w1)(el:XB (fun k=>xb<k) H'.es l2' w1):SF R w xb tb t H' x' e' l1' l2' w2:=
 ⟨h.rl,h.tl,h.xl,W.blk h.nb (Nat.ne_of_lt (Nat.lt_trans h.tl h.xl)),W.blk h.tk (Nat.ne_of_lt h.xl),B,ix.fx W.1 (on_not (Nat.lt_irrefl _)),xe.fx W.1 (on_not (Nat.lt_irrefl _)),th.fx W.1 (on_not (Nat.lt_irrefl _)),el.fx W.1 (on_not (Nat.lt_irrefl _)),W.fx h.hf (Nat.le_of_lt (Nat.lt_trans h.tl h.xl))⟩
theorem SF.set (h:SF R w xb tb t H x e l1 l2 w1)(j:Nat)(v:Value)(q:((stvs H e.h).toArray).setIfInBounds j v=(stvs H' e.h).toArray)(ix:XL (fun k=>xb<k) H'.xs x' w1)(th:XB (fun k=>xb<k) H'.ts l1' w1)(el:XB (fun k=>xb<k) H'.es l2' w1):SF R w xb tb t H' x' e l1' l2' (w1.setCell ⟨xb,j,none⟩ v):=
 h.wr (wr1_set w1 xb j v) (by rw[←q];exact h.sk.set_ j v) ix h.xe th el
theorem SF.ret {Z:Rs St}(h:SF R w xb tb t H x e l1 l2 w1)(ho:H.ok)(hu:U R Z w1)(he:∀a s,Z=.ok a s→(St.mk H x e l1 l2).eqv a)(cs:Array Value):PSt R w Z (.returned (stv H e.h)) (w1.setRow w.heap.size cs):=by
 have n:¬(fun k=>xb<k) w.heap.size:=fun(q:xb<w.heap.size)=>by have:=h.tl;have:=h.xl;omega
 have W:=wr1_row w1 w.heap.size cs;exact⟨.mk H x e l1 l2,rfl,(st_in ho (h.ix.fx W.1 (on_not n)) (h.xe.fx W.1 (on_not n)) (h.th.fx W.1 (on_not n)) (h.el.fx W.1 (on_not n))).imp (fun k _ (q:xb<k)=>by have:=h.tl;have:=h.xl;show w.heap.size≤k;omega),he,hu.wr W h.rl,fx_row h.hf (.inr (Nat.le_refl _)) _⟩
end
theorem U.finE {R:Nat}{α γ:Type}{r:Rs α}{d:γ}{Z:Rs γ}{w:World}(h:U R r w)(E:Z=r.bind fun _ s=>.ok d s){P:γ→Prop}(hp:P d):U R Z w∧∀x s,Z=.ok x s→P x:=by
 obtain⟨h1,h2⟩:=h.fin E;exact⟨h1,fun x s e=>by rw[←h2 x s e];exact hp⟩
theorem U.more {R:Nat}{s:PS}{w:World}(h:U R (.ok () s:Rs Unit) w):w.cell? ⟨R,4,none⟩=some (.int .i64 (s.ns:Int))∧w.frozen? ⟨R,4,none⟩=false∧(w.setCell ⟨R,4,none⟩ (.int .i64 ((s.ns:Int)+1))).cell? ⟨R,4,none⟩=some (.int .i64 ((s.ns:Int)+1))∧(s.ns<200→U R (.ok () ⟨s.ts,s.ns+1,s.nx⟩:Rs Unit) (w.setCell ⟨R,4,none⟩ (.int .i64 ((s.ns:Int)+1)))) ∧
  (s.ns=200→∀p:Int,Calls Tryz.prog 34 #[.pointer (some ⟨R,0,none⟩),.int .i64 112,.int .i64 p] (w.setCell ⟨R,4,none⟩ (.int .i64 ((s.ns:Int)+1))) fun q w'=>q=.returned (.tuple #[])∧U R (.no 112 p:Rs Unit) w'∧Fx (On R) (w.setCell ⟨R,4,none⟩ (.int .i64 ((s.ns:Int)+1))).heap.size (w.setCell ⟨R,4,none⟩ (.int .i64 ((s.ns:Int)+1))) w'):=by
 obtain⟨T,o,c,l,i,e,a,n,x,H,g1,g2,g3,g4,g5,g6,g7⟩:=h;subst g1;subst g3;have b1:Blk (w.setCell ⟨R,4,none⟩ (.int .i64 ((s.ns:Int)+1))) R 74 #[.slice (some ⟨T,o,none⟩) l.length c,.int .i64 (i:Int),.int .i64 0,.int .i64 a,.int .i64 ((s.ns:Int)+1),.int .i64 x]:=H.blk.set_ 4 (.int .i64 ((s.ns:Int)+1));have F:=fx_set (Fx.refl (On R) _ w) (p:=⟨R,4,none⟩) (.inl rfl) (.int .i64 ((s.ns:Int)+1));have HH:=H.nums (i':=i) b1 F H.hi;refine⟨H.blk.cell 4,H.blk.frozen 4,b1.cell 4,fun hn=>⟨T,o,c,l,i,_,_,_,_,HH,rfl,g2,by show _=((s.ns+1:Nat):Int);omega,g4,g5,by show s.ns+1≤200;omega,g7⟩,fun hn p=>?_⟩;refine(rrfail_w R T o c l i 0 a _ x 112 p _ HH).mono ?_;rintro q w' ⟨rfl,hw,hf⟩;exact⟨rfl,⟨T,o,c,l,i,_,_,_,_,hw,if_pos rfl,if_pos rfl,by decide⟩,hf⟩
theorem ex_slice (e:EH):Tryz.prog.builtSlice 41 1 [(0,e.v)]=some e.va:=by kernel_rfl
theorem bs_ex {ops:Array Oper}{rest:List Oper}{o:Oper}{a:Act}{w:World}{Q:Exit→Act→World→Prop}(e:EH)(hgd:o.guard=none)(x:Operand)(ho:o.op=.buildSlice 39 1 #[(0,x)])(hx:a.eval x=e.v)
  (hw:∀g w',Hid (g=w.heap.size)→Hid (Blk w' g 41 e.va)→Hid (Below w.heap.size w w')→wpList Tryz.prog ops Q rest (a.put o.dst (.slice (some ⟨g,0,none⟩) 1 1)) w'):wpList Tryz.prog ops Q (o::rest) a w:=by
 refine Great.wpList_buildSliceTo hgd 39 41 1 #[(0,x)] ho w.heap.size rfl o.dst rfl Tryz.underlying39 e.va ?_ (hw _ _ rfl (Blk.new w _ _) (bel_one w _));have e1:((#[(0,x)]:Array (Nat×Operand)).map fun(i,x)=>(i,a.eval x)).toList=[(0,e.v)]:=by simp[hx]
 rw[e1];exact ex_slice e
theorem one_xl {D:Nat→Prop}{w:World}{e:Ex}{g:Nat}(h1:XO D e w)(hg:D g)(hb:Blk w g 41 e.h.va):XL D ⟨some ⟨g,0,none⟩,1,1⟩ (fun _=>e) w:=by
 refine⟨⟨Nat.le_refl _,by show(1:Nat)≤2 ^ 63-1;decide,fun q=>by cases q⟩,?_,fun i hi=>h1⟩;intro a ha i hi;cases ha;have hi:i<1:=hi;obtain rfl:i=0:=by omega
 refine⟨hb.lt,fun j u hu=>?_⟩;rw[up_cell];refine⟨by rw[add_block];exact hg,?_⟩;rw[Addr.add_mid,Nat.zero_mul,Nat.zero_add,Nat.zero_add];have q:e.h.va=e.h.vs.toArray:=rfl;exact(hb.cell j).trans (by rw[q,List.getElem?_toArray];exact hu)
theorem one_xb {D:Nat→Prop}{w:World}{b:St}{g:Nat}(h1:XS D b w)(hg:D g)(hb:Blk w g 53 (stvs b.h b.e.h).toArray):XB D ⟨some ⟨g,0,none⟩,1,1⟩ (fun _=>b) w:=by
 refine⟨⟨Nat.le_refl _,by show(1:Nat)≤2 ^ 63-1;decide,fun q=>by cases q⟩,?_,fun i hi=>h1⟩;intro a ha i hi;cases ha;have hi:i<1:=hi;obtain rfl:i=0:=by omega
 refine⟨hb.lt,fun j u hu=>?_⟩;rw[up_cell];refine⟨by rw[add_block];exact hg,?_⟩;rw[Addr.add_mid,Nat.zero_mul,Nat.zero_add,Nat.zero_add];exact(hb.cell j).trans (by rw[List.getElem?_toArray];exact hu)
theorem St.eqv_refl (s:St):s.eqv s:=by
 induction s using St.ind with
 | H s it il=>
  cases s with
  | no=>exact⟨by simp[hsS,St.h],rfl,Ex.eqv_refl _,rfl⟩
  | mk h x e t l=>exact⟨by simp[hsS,St.h],rfl,Ex.eqv_refl _,⟨rfl,fun i _=>Ex.eqv_refl _⟩,it,il⟩
theorem ps_val {r:Rs St}{b:St}(he:∀a s,r=.ok a s→b.eqv a):∃v,b.eqv v∧∀a s,r=.ok a s→v=a:=by
 cases r with
 | no c p=>exact⟨b,St.eqv_refl _,fun a s e=>by cases e⟩
 | ok a s=>exact⟨a,he a s rfl,fun a s e=>by cases e;rfl⟩
theorem pb_val {r:Rs (List St)}{S:Sl}{K:Nat→St}(he:∀a s,r=.ok a s→Seq S K a):∃v,Seq S K v∧∀a s,r=.ok a s→v=a:=by
 cases r with
 | no c p=>
  refine⟨(List.range S.n).map K,⟨by simp,fun i hi=>?_⟩,fun a s e=>by cases e⟩;have:((List.range S.n).map K).getD i .no=K i:=by rw[List.getD_eq_getElem?_getD];simp[hi]
  rw[this];exact St.eqv_refl _
 | ok a s=>exact⟨a,he a s rfl,fun a s e=>by cases e;rfl⟩
theorem leq_one {A:Option Addr}{c:Nat}{e v:Ex}(h:e.eqv v):Leq ⟨A,1,c⟩ (fun _=>e) [v]:=⟨rfl,fun i hi=>by
 have hi:i<1:=hi;obtain rfl:i=0:=by omega
 exact h⟩
theorem leq_nil:Leq ⟨none,0,0⟩ (fun _=>.no) []:=⟨rfl,fun i hi=>absurd hi (Nat.not_lt_zero i)⟩
theorem seq_one {A:Option Addr}{c:Nat}{b v:St}(h:b.eqv v):Seq ⟨A,1,c⟩ (fun _=>b) [v]:=⟨rfl,fun i hi=>by
 have hi:i<1:=hi;obtain rfl:i=0:=by omega
 exact h⟩
theorem stepY {α γ:Type}{r:Rs α}{K K1:PS→Rs γ}{Z:Rs γ}{x:List UInt8}(E:Z=r.bind fun _ s=>K s)(hb:∀a s,r=.ok a s→true=(s.hd.tx == x))(h1:∀s,s.hd.tx=x→K s=K1 s):Z=r.bind fun _ s=>K1 s:=by
 rw[E]
 cases r with
 | no c p=>rfl
 | ok a s=>exact h1 s ((res_eq (hb a s rfl)).1 rfl)
end Go.Proofs.YthmlhkllbichgaaGreatDoor
