/-
  ParseBack holds, tied to the program's text. (part 30 of 41) Conditions: none beside what the card ties.
-/
import Derived.Deep.LoopGhost
import Derived.Test.YthmlhkllbichgaaGreatDoorWbc
import Derived.Test.YthmlhkllbichgaaGreatDoorWan
namespace Go.Proofs.YthmlhkllbichgaaGreatDoor
set_option maxHeartbeats 16000000
open Go.RowKit Go.Maps
set_option maxRecDepth 100000
theorem ppdecls_any (R:Nat)(s:PS)(w:World)(h:Rdr R 0 s w) :
  Calls Tryz.prog 64 #[.pointer (some ⟨R,0,none⟩)] w (PO R 0 w (decls (s.ts.length+1) [] s) (VDs w.heap.size)):=by
 obtain⟨i0,hi,hz0,hz1,hz2⟩:=info_parts decl_info
 have HI:=Hj hi
 have HZ0:=Hj hz0
 have HZ1:=Hj hz1
 have HZ2:=Hj hz2
 generalize hZ:decls (s.ts.length+1) [] s=Z
 have HZ:=Hj hZ
 have HR:=Hj (h.alloc (.cells #[.int .i64 0] 3))
 have HCB:Hid (Blk (w.alloc (.cells #[.int .i64 0] 3)) w.heap.size 3 #[.int .i64 0]):=Blk.new _ _ _
 have HF:Hid (Fx (On R) w.heap.size w (w.alloc (.cells #[.int .i64 0] 3))):=Fx.of (bel_one w _)
 have HRL:=Hj h.lt
 have HSZ:Hid (w.heap.size<(w.alloc (.cells #[.int .i64 0] 3)).heap.size):=HCB.out.lt
 clear hi hz0 hz1 hz2 hZ h
 go_enter Tryz.func64,Tryz.ntmps64
 go_wp2_with fail
 go_loopg [3] s.ts.length (fun gk v wr=>∃(l:List De) (n:Nat) (K:Nat→De) (s:PS) (f:Nat),Hid (gk=s.ts.length)∧Hid (Blk wr w.heap.size 3 #[.int .i64 (n:Int)])∧Hid (wr.ownsRow (w.heap.size+1) 56 20 v n (rowD K n))∧Hid (n=l.length∧n≤96)∧Hid (∀i,i<n→XDe (Dr (w.heap.size+1) v) (K i) wr)∧Hid (∀i,i<n→(K i).eqv (l.getD i zeroD))∧Hid (Rdr R 0 s wr)∧Hid (Fx (On R) w.heap.size w wr)∧Hid (s.ts.length<f)∧Hid (decls f l s=Z))
 case atStart=>exact⟨[],0,fun _=>zeroD,s,s.ts.length+1,rfl,HCB.out,⟨rfl,.inl ⟨rfl,rfl⟩⟩,⟨rfl,Nat.zero_le _⟩,(fun i hi=>absurd hi (Nat.not_lt_zero i)),(fun i hi=>absurd hi (Nat.not_lt_zero i)),HR.out,HF.out,Nat.lt_succ_self _,HZ.out⟩
 case round=>
  clear HCB HR HZ HF
  obtain⟨l,n,K,s,f,HGK,HCB,HOW,HN,HK,HQ,HR,HF,HFL,HZ⟩:=hrel
  obtain⟨f,rfl⟩:∃f',f=f'+1:=⟨f - 1,by have:=HFL.out;omega⟩
  obtain⟨A,cp,rfl⟩:=own_form HOW.out
  go_wp2_with fail
  refine(ppsees_any R 0 s [105,110,112,117,116] wr HR.out).mono ?_
  rintro e w1 ⟨rfl,hb⟩
  have HCB1:=Hj (HCB.out.below hb HCB.out.lt)
  have HR1:=Hj (HR.out.below hb HR.out.lt)
  have HOW1:=Hj (own_belowK HOW.out hb)
  have HK1:=Hj (fun i hi=>(HK.out i hi).bel hb)
  have HF1:=Hj (fx_bel HF.out hb)
  clear hb HCB HR HOW HK HF
  by_cases c:s.hd.tx=[105,110,112,117,116]
  ·rw[beq_yes c]
   have hk:s.hd.kd≠0:=HR1.out.good.kd (by rw[←PS.hd,c];decide)
   have HKD:=Hj hk
   have E:Hid ((if l.length=96 then Rs.no 112 s.hd.ps else(decl s).bind fun d s'=>decls f (l++[d]) s')=Z):=by show _=Z;rw[←HZ.out,decls,if_pos (show s.hd.tx=inpW∨s.hd.tx=varW from .inl c)]
   clear c hk HZ
   go_wp2_with fail
   refine(ppnext_any R 0 s w1 HR1.out).mono ?_
   rintro e w3 ⟨rfl,hb⟩
   have HCB3:=Hj (HCB1.out.below hb HCB1.out.lt)
   have HR3:=Hj (HR1.out.below hb HR1.out.lt)
   have HOW3:=Hj (own_belowK HOW1.out hb)
   have HK3:=Hj (fun i hi=>(HK1.out i hi).bel hb)
   have HF3:=Hj (fx_bel HF1.out hb)
   clear hb HCB1 HR1 HOW1 HK1 HF1
   have ft:=fun w=>tkv_ps s.hd w
   go_wp2_with fail
   have CO:=ppcount_any w.heap.size 0 n 96 s.hd.ps w3 (HCB3.out.cell 0) (HCB3.out.frozen 0) (by have:=HN.out.2;omega)
   by_cases c9:(n:Int)=96
   ·as_aux_lemma=>
     simp only[if_pos c9]at CO
     refine CO.mono ?_
     rintro e w4 ⟨rfl,rfl⟩
     have E9:Hid (Z=.no 112 s.hd.ps):=by show Z=_;rw[←E.out,if_pos (by have:=HN.out.1;omega)]
     clear CO c9
     go_wp2_with fail
     refine⟨rfl,?_⟩
     rw[E9.out]
     exact⟨rfl,HF3.out⟩
   ·as_aux_lemma=>
     simp only[if_neg c9]at CO
     refine CO.mono ?_
     rintro e w4 ⟨rfl,rfl⟩
     have E9:Hid ((decl s).bind (fun d s'=>decls f (l++[d]) s')=Z):=by show _=Z;rw[←E.out,if_neg (by have:=HN.out.1;omega)]
     have HL9:Hid (n<96):=(by show n<96;have:=HN.out.2;omega)
     have HCB4:Hid (Blk (w3.setCell ⟨w.heap.size,0,none⟩ (.int .i64 ((n:Int)+1))) w.heap.size 3 #[.int .i64 ((n+1:Nat):Int)]):=HCB3.out.set_ 0 (.int .i64 ((n:Int)+1))
     have HR4:=Hj (HR3.out.set (p:=⟨w.heap.size,0,none⟩) HRL.out (.int .i64 ((n:Int)+1)))
     have HF4:=Hj (fx_set HF3.out (p:=⟨w.heap.size,0,none⟩) (.inr (Nat.le_refl _)) (.int .i64 ((n:Int)+1)))
     have HOW4:=Hj (ownsRow_setCell_below HOW3.out (a:=⟨w.heap.size,0,none⟩) (Nat.lt_succ_self _) (.int .i64 ((n:Int)+1)))
     have HK4:=Hj (fun i hi=>(HK3.out i hi).set (p:=⟨w.heap.size,0,none⟩) (fun x=>Nat.lt_irrefl _ x.1) (.int .i64 ((n:Int)+1)))
     clear CO c9 E HCB3 HR3 HF3 HOW3 HK3
     generalize w3.setCell ⟨w.heap.size,0,none⟩ (.int .i64 ((n:Int)+1))=w4 at *
     go_wp2_with fail
     refine(ppdecl_any R s w4 HR4.out HKD.out).mono ?_
     intro r w5 hpo
     cases hres:decl s with
     | no c q=>
      rw[hres]at hpo
      obtain⟨rfl,f5⟩:=hpo
      have E2:=E9.out
      rw[hres,bind_no]at E2
      have En:=Hj E2
      have HFn:=Hj (fx_trans HF4.out f5)
      clear f5 hres E2
      go_wp2_with fail
      refine⟨rfl,?_⟩
      rw[←En.out]
      exact⟨rfl,HFn.out⟩
     | ok x s2=>
      rw[hres]at hpo
      obtain⟨v,rfl,⟨d,rfl,xd,ed⟩,h5,f5⟩:=hpo
      have E2:=E9.out
      rw[hres,bind_ok]at E2
      have En:=Hj E2
      have HLF:=Hj (lf_decl HR4.out.good HKD.out x s2 hres)
      have HPO:=Hj HR4.out.good.pos
      have HCB5:=Hj (f5.blk HCB4.out HCB4.out.lt (on_ne HRL.out))
      have OW5:=Hj (own_fx HOW4.out f5 (fun k hk (x:k=R)=>by have:=HRL.out;omega))
      have HR5:=Hj h5
      have HF5:=Hj (fx_trans HF4.out f5)
      have HK5:=Hj (fun i hi=>(HK4.out i hi).fx f5 (on_not (fun x=>by have:=x.1;have:=HRL.out;omega)))
      have HX5:=Hj (xd.imp (D':=Dr (w.heap.size+1) (.slice A n cp)) (fun k _ (x:w4.heap.size≤k)=>⟨by have:=HCB4.out.lt;omega,fun e=>Nat.lt_irrefl _ (Nat.lt_of_lt_of_le (own_block HOW4.out e).2 x)⟩))
      have ED:=Hj ed
      have ONE:Hid (∀u∈d.vs,u.oneCell'=true):=(by show ∀u∈d.vs,u.oneCell'=true;simp[De.vs,dcvs,Value.oneCell'])
      have LN:Hid (n+1≤maxLen):=(by show n+1≤maxLen;have:=HL9.out;unfold maxLen;omega)
      have LB:Hid ((n+1)*200≤140737488355328):=(by show(n+1)*200≤_;have:=HL9.out;omega)
      have SZ5:Hid (w.heap.size+1≤w5.heap.size):=HCB5.out.lt
      clear hres E2 xd ed h5 f5 HR4 HF4 HCB4 HOW4 HK4 E9
      go_wp2_with (first
       | (refine bs_de d rfl _ rfl rfl ?_;intro db w7 ZB BA;have NW:=new_one ZB.out)
       | (refine wpList_append_moved w7 rfl _ _ 27 rfl (w.heap.size+1) 56 i0 _ 20 200 Tryz.underlying27 HI.out HZ0.out HZ1.out HZ2.out rfl (by decide) (.slice A n cp) n _ rfl (own_belowK OW5.out BA.out) ⟨db,0,none⟩ 1 1 d.vs rfl rfl NW ONE.out LN.out LB.out (Nat.le_trans SZ5.out BA.out.size) ?_;intro v6 w6 own6 gr6 mv6))
      have OW:=own_belowK OW5.out BA.out
      go_roundg s2.ts.length
      case measure=>have:=HPO.out;have:=HLF.out.2.1;have:=HGK.out;omega
      case rel=>exact⟨l++[x],n+1,fun i=>if i<n then K i else d,s2,f,rfl,app_blk gr6 OW (HCB5.out.below BA.out HCB5.out.lt) (Nat.lt_succ_self _),moreD_row own6,⟨by rw[List.length_append,HN.out.1];rfl,HL9.out⟩,moreD_x (fun i hi=>app_xde gr6 mv6 ((HK5.out i hi).bel BA.out)) (app_xde gr6 mv6 (HX5.out.bel BA.out)),moreD_eqv HN.out.1 HQ.out ED.out,app_rdr gr6 OW (HR5.out.below BA.out HR5.out.lt) (Nat.lt_succ_of_lt HRL.out),app_fx gr6 (own_mono' (Nat.le_succ _) OW) (fx_bel HF5.out BA.out),(by show s2.ts.length<f;have:=HPO.out;have:=HLF.out.2.1;have:=HFL.out;omega),En.out⟩
  ·rw[beq_no c]
   go_wp2_with fail
   refine(ppsees_any R 0 s [118,97,114] w1 HR1.out).mono ?_
   rintro e w2 ⟨rfl,hb⟩
   by_cases c2:s.hd.tx=[118,97,114]
   ·rw[beq_yes c2]
    have hk:s.hd.kd≠0:=HR1.out.good.kd (by rw[←PS.hd,c2];decide)
    have HKD:=Hj hk
    have E:Hid ((if l.length=96 then Rs.no 112 s.hd.ps else(decl s).bind fun d s'=>decls f (l++[d]) s')=Z):=by show _=Z;rw[←HZ.out,decls,if_pos (show s.hd.tx=inpW∨s.hd.tx=varW from .inr c2)]
    have HCB2:=Hj (HCB1.out.below hb HCB1.out.lt)
    have HR2:=Hj (HR1.out.below hb HR1.out.lt)
    have HOW2:=Hj (own_belowK HOW1.out hb)
    have HK2:=Hj (fun i hi=>(HK1.out i hi).bel hb)
    have HF2:=Hj (fx_bel HF1.out hb)
    clear hb HCB1 HR1 HOW1 HK1 HF1
    clear c c2 hk HZ
    go_wp2_with fail
    refine(ppnext_any R 0 s w2 HR2.out).mono ?_
    rintro e w3 ⟨rfl,hb⟩
    have HCB3:=Hj (HCB2.out.below hb HCB2.out.lt)
    have HR3:=Hj (HR2.out.below hb HR2.out.lt)
    have HOW3:=Hj (own_belowK HOW2.out hb)
    have HK3:=Hj (fun i hi=>(HK2.out i hi).bel hb)
    have HF3:=Hj (fx_bel HF2.out hb)
    clear hb HCB2 HR2 HOW2 HK2 HF2
    have ft:=fun w=>tkv_ps s.hd w
    go_wp2_with fail
    have CO:=ppcount_any w.heap.size 0 n 96 s.hd.ps w3 (HCB3.out.cell 0) (HCB3.out.frozen 0) (by have:=HN.out.2;omega)
    by_cases c9:(n:Int)=96
    ·as_aux_lemma=>
      simp only[if_pos c9]at CO
      refine CO.mono ?_
      rintro e w4 ⟨rfl,rfl⟩
      have E9:Hid (Z=.no 112 s.hd.ps):=by show Z=_;rw[←E.out,if_pos (by have:=HN.out.1;omega)]
      clear CO c9
      go_wp2_with fail
      refine⟨rfl,?_⟩
      rw[E9.out]
      exact⟨rfl,HF3.out⟩
    ·as_aux_lemma=>
      simp only[if_neg c9]at CO
      refine CO.mono ?_
      rintro e w4 ⟨rfl,rfl⟩
      have E9:Hid ((decl s).bind (fun d s'=>decls f (l++[d]) s')=Z):=by show _=Z;rw[←E.out,if_neg (by have:=HN.out.1;omega)]
      have HL9:Hid (n<96):=(by show n<96;have:=HN.out.2;omega)
      have HCB4:Hid (Blk (w3.setCell ⟨w.heap.size,0,none⟩ (.int .i64 ((n:Int)+1))) w.heap.size 3 #[.int .i64 ((n+1:Nat):Int)]):=HCB3.out.set_ 0 (.int .i64 ((n:Int)+1))
      have HR4:=Hj (HR3.out.set (p:=⟨w.heap.size,0,none⟩) HRL.out (.int .i64 ((n:Int)+1)))
      have HF4:=Hj (fx_set HF3.out (p:=⟨w.heap.size,0,none⟩) (.inr (Nat.le_refl _)) (.int .i64 ((n:Int)+1)))
      have HOW4:=Hj (ownsRow_setCell_below HOW3.out (a:=⟨w.heap.size,0,none⟩) (Nat.lt_succ_self _) (.int .i64 ((n:Int)+1)))
      have HK4:=Hj (fun i hi=>(HK3.out i hi).set (p:=⟨w.heap.size,0,none⟩) (fun x=>Nat.lt_irrefl _ x.1) (.int .i64 ((n:Int)+1)))
      clear CO c9 E HCB3 HR3 HF3 HOW3 HK3
      generalize w3.setCell ⟨w.heap.size,0,none⟩ (.int .i64 ((n:Int)+1))=w4 at *
      go_wp2_with fail
      refine(ppdecl_any R s w4 HR4.out HKD.out).mono ?_
      intro r w5 hpo
      cases hres:decl s with
      | no c q=>
       rw[hres]at hpo
       obtain⟨rfl,f5⟩:=hpo
       have E2:=E9.out
       rw[hres,bind_no]at E2
       have En:=Hj E2
       have HFn:=Hj (fx_trans HF4.out f5)
       clear f5 hres E2
       go_wp2_with fail
       refine⟨rfl,?_⟩
       rw[←En.out]
       exact⟨rfl,HFn.out⟩
      | ok x s2=>
       rw[hres]at hpo
       obtain⟨v,rfl,⟨d,rfl,xd,ed⟩,h5,f5⟩:=hpo
       have E2:=E9.out
       rw[hres,bind_ok]at E2
       have En:=Hj E2
       have HLF:=Hj (lf_decl HR4.out.good HKD.out x s2 hres)
       have HPO:=Hj HR4.out.good.pos
       have HCB5:=Hj (f5.blk HCB4.out HCB4.out.lt (on_ne HRL.out))
       have OW5:=Hj (own_fx HOW4.out f5 (fun k hk (x:k=R)=>by have:=HRL.out;omega))
       have HR5:=Hj h5
       have HF5:=Hj (fx_trans HF4.out f5)
       have HK5:=Hj (fun i hi=>(HK4.out i hi).fx f5 (on_not (fun x=>by have:=x.1;have:=HRL.out;omega)))
       have HX5:=Hj (xd.imp (D':=Dr (w.heap.size+1) (.slice A n cp)) (fun k _ (x:w4.heap.size≤k)=>⟨by have:=HCB4.out.lt;omega,fun e=>Nat.lt_irrefl _ (Nat.lt_of_lt_of_le (own_block HOW4.out e).2 x)⟩))
       have ED:=Hj ed
       have ONE:Hid (∀u∈d.vs,u.oneCell'=true):=(by show ∀u∈d.vs,u.oneCell'=true;simp[De.vs,dcvs,Value.oneCell'])
       have LN:Hid (n+1≤maxLen):=(by show n+1≤maxLen;have:=HL9.out;unfold maxLen;omega)
       have LB:Hid ((n+1)*200≤140737488355328):=(by show(n+1)*200≤_;have:=HL9.out;omega)
       have SZ5:Hid (w.heap.size+1≤w5.heap.size):=HCB5.out.lt
       clear hres E2 xd ed h5 f5 HR4 HF4 HCB4 HOW4 HK4 E9
       go_wp2_with (first
        | (refine bs_de d rfl _ rfl rfl ?_;intro db w7 ZB BA;have NW:=new_one ZB.out)
        | (refine wpList_append_moved w7 rfl _ _ 27 rfl (w.heap.size+1) 56 i0 _ 20 200 Tryz.underlying27 HI.out HZ0.out HZ1.out HZ2.out rfl (by decide) (.slice A n cp) n _ rfl (own_belowK OW5.out BA.out) ⟨db,0,none⟩ 1 1 d.vs rfl rfl NW ONE.out LN.out LB.out (Nat.le_trans SZ5.out BA.out.size) ?_;intro v6 w6 own6 gr6 mv6))
       have OW:=own_belowK OW5.out BA.out
       go_roundg s2.ts.length
       case measure=>have:=HPO.out;have:=HLF.out.2.1;have:=HGK.out;omega
       case rel=>exact⟨l++[x],n+1,fun i=>if i<n then K i else d,s2,f,rfl,app_blk gr6 OW (HCB5.out.below BA.out HCB5.out.lt) (Nat.lt_succ_self _),moreD_row own6,⟨by rw[List.length_append,HN.out.1];rfl,HL9.out⟩,moreD_x (fun i hi=>app_xde gr6 mv6 ((HK5.out i hi).bel BA.out)) (app_xde gr6 mv6 (HX5.out.bel BA.out)),moreD_eqv HN.out.1 HQ.out ED.out,app_rdr gr6 OW (HR5.out.below BA.out HR5.out.lt) (Nat.lt_succ_of_lt HRL.out),app_fx gr6 (own_mono' (Nat.le_succ _) OW) (fx_bel HF5.out BA.out),(by show s2.ts.length<f;have:=HPO.out;have:=HLF.out.2.1;have:=HFL.out;omega),En.out⟩
   ·rw[beq_no c2]
    have E:Hid (Z=.ok l s):=by show Z=_;rw[←HZ.out,decls,if_neg (fun x=>x.elim c c2)]
    have HCB2:=Hj (HCB1.out.below hb HCB1.out.lt)
    have HR2:=Hj (HR1.out.below hb HR1.out.lt)
    have HOW2:=Hj (own_belowK HOW1.out hb)
    have HK2:=Hj (fun i hi=>(HK1.out i hi).bel hb)
    have HF2:=Hj (fx_bel HF1.out hb)
    clear hb HCB1 HR1 HOW1 HK1 HF1
    clear c c2 HZ
    go_wp2_with fail
    obtain⟨S,hS,hSn,hx⟩:=own_xds HOW2.out HK2.out
    refine bodyPost_ret (results_tmp rfl _ _ _) rfl ?_
    rw[E.out]
    exact⟨_,rfl,⟨S,K,hS,hx.imp (fun k _ (x:w.heap.size+1≤k)=>Nat.le_of_succ_le x),hSn.trans HN.out.1,fun i hi=>HQ.out i (by rw[hSn]at hi;exact hi)⟩,HR2.out,HF2.out⟩
end Go.Proofs.YthmlhkllbichgaaGreatDoor
namespace Go.Proofs.YthmlhkllbichgaaGreatDoor
set_option maxHeartbeats 16000000
open Go.RowKit
set_option maxRecDepth 100000
def prvs (t:Int)(d i s:Sl):List Value:=[.int .i64 t,.slice d.ao d.n d.c,.slice i.ao i.n i.c,.slice s.ao s.n s.c]
def prv (t:Int)(d i s:Sl):Value:=.agg #[.int .i64 t,.slice d.ao d.n d.c,.slice i.ao i.n i.c,.slice s.ao s.n s.c]
def zPr:Obj:=.cells (prvs 0 ⟨none,0,0⟩ ⟨none,0,0⟩ ⟨none,0,0⟩).toArray 30
def Pr.eqv (p q:Pr):Prop:=p.ticks=q.ticks∧(p.ds.n=q.ds.n∧∀i,i<p.ds.n→(p.d i).eqv (q.d i))∧(p.is.n=q.is.n∧∀i,i<p.is.n→(p.i i).eqv (q.i i))∧(p.ss.n=q.ss.n∧∀i,i<p.ss.n→(p.s i).eqv (q.s i))
def XPr (D:Nat→Prop)(p:Pr)(w:World):Prop:=p.In w.heap.size (up D w)
def VP (L:Nat)(p:Pr)(v:Value)(w:World):Prop:=∃p':Pr,v=p'.v∧XPr (Fro L) p' w∧p'.eqv p
section
variable {ops:Array Oper} {rest:List Oper} {o:Oper} {a:Act} {w:World} {Q:Exit→Act→World→Prop}
theorem st_pr (t:Int)(d i s:Sl)(g:Nat)(old:Array Value)(hg:Blk w g 30 old)(hold:old.size=4)(hgd:o.guard=none)(x y:Operand)(ho:o.op=.store 30 x y)(hx:a.eval x=.pointer (some ⟨g,0,none⟩))(hy:a.eval y=prv t d i s)
  (hw:wpList Tryz.prog ops Q rest (a.put o.dst undef) (w.setRow g (prvs t d i s).toArray)):wpList Tryz.prog ops Q (o::rest) a w:=
 wpList_store_row hgd 30 x y ho g (prvs t d i s).toArray hx hy 30 old hg (by kernel_rfl) hold (by simp[prvs,Value.oneCell']) hw
theorem ld_pr (t:Int)(d i s:Sl)(g:Nat)(hg:Blk w g 30 (prvs t d i s).toArray)(hgd:o.guard=none)(x:Operand)(ho:o.op=.load 30 x)(hx:a.eval x=.pointer (some ⟨g,0,none⟩))
  (hw:wpList Tryz.prog ops Q rest (a.put o.dst (prv t d i s)) w):wpList Tryz.prog ops Q (o::rest) a w:=
 wpList_load_row hgd 30 x ho g hx 30 (prvs t d i s).toArray (0,0) _ hg Tryz.underlying30 rfl (by kernel_rfl) hw
end
theorem rs_pr {fn:Func}{p:Tmp}(h:fn.results=#[.cell p 30])(tmps:Array Value)(w:World)(g:Nat)(t:Int)(d i s:Sl)(hp:tmps.getD p undef=.pointer (some ⟨g,0,none⟩))(hg:Blk w g 30 (prvs t d i s).toArray):(results fn tmps).run Tryz.prog w=.ok (prv t d i s) w:=
 results_cell_row h tmps w g 30 (prvs t d i s).toArray (0,0) _ hp hg Tryz.underlying30 rfl (by kernel_rfl)
theorem endT_bind {α:Type}(x:α)(s:PS):endT x s=(endT () s).bind fun _ s=>.ok x s:=by
 unfold endT
 split<;>rfl
theorem ppprogram_any (R:Nat)(s:PS)(w:World)(h:Rdr R 0 s w):Calls Tryz.prog 29 #[.pointer (some ⟨R,0,none⟩)] w (PO R 0 w (prog s) (VP w.heap.size)):=by
 have fn:=fun t w=>tkv_nn t w
 have BL:Below w.heap.size w ((w.alloc zPr).alloc zPr):=bel_alloc (bel_one w _) _
 have k0:Blk ((w.alloc zPr).alloc zPr) w.heap.size 30 (prvs 0 ⟨none,0,0⟩ ⟨none,0,0⟩ ⟨none,0,0⟩).toArray:=(Blk.new w _ _).alloc zPr
 have k1:Blk ((w.alloc zPr).alloc zPr) (w.heap.size+1) 30 (prvs 0 ⟨none,0,0⟩ ⟨none,0,0⟩ ⟨none,0,0⟩).toArray:=by
  have:=Blk.new (w.alloc zPr) 30 (prvs 0 ⟨none,0,0⟩ ⟨none,0,0⟩ ⟨none,0,0⟩).toArray
  rw[World.size_alloc]at this
  exact this
 have hl:=h.lt
 have NB_0:=Hj k0
 have SB_0:=Hj k1
 have HR:=Hj (h.below BL h.lt)
 have HF:Hid (Fx (On R) w.heap.size w ((w.alloc zPr).alloc zPr)):=Fx.of BL
 have HRS:Hid (R<w.heap.size+1):=Nat.lt_succ_of_lt hl
 have HRN:Hid (R<w.heap.size):=hl
 have HSB:Hid (w.heap.size≤w.heap.size+1):=Nat.le_succ _
 have HNB:Hid (w.heap.size≤w.heap.size):=Nat.le_refl _
 have HNE:Hid (w.heap.size≠w.heap.size+1):=(by show w.heap.size≠w.heap.size+1;omega)
 have HD:Hid (¬(fun k=>w.heap.size+1<k) R):=(fun(x:w.heap.size+1<R)=>by omega)
 have HDS:Hid (¬(fun k=>w.heap.size+1<k) (w.heap.size+1)):=Nat.lt_irrefl _
 have HDN:Hid (¬(fun k=>w.heap.size+1<k) w.heap.size):=(fun(x:w.heap.size+1<w.heap.size)=>by omega)
 generalize hZ:prog s=Z
 unfold prog at hZ
 have E:=Hj hZ
 clear BL k0 k1 h hZ hl
 go_enter Tryz.func29,Tryz.ntmps29
 go_upto_region 2 with fail
 change (Code.region 2 _ _).wp _ _ _ ((w.alloc zPr).alloc zPr)
 generalize ((w.alloc zPr).alloc zPr)=w0 at *
 generalize w.heap.size+1=sb at *
 go_wp2_with fail
 refine(ppexpect_any R 0 s ticksW (by decide) w0 HR.out).mono ?_
 intro r wa11 hpo
 cases hres:expT ticksW s with
 | no c q=>
  rw[hres]at hpo
  obtain⟨rfl,f⟩:=hpo
  have HFn:=Hj (fx_trans HF.out f)
  have E2:=E.out
  rw[hres,bind_no]at E2
  have En:=Hj E2
  clear f hres E2
  go_wp2_with fail
  refine⟨rfl,?_⟩
  rw[←En.out]
  exact⟨rfl,HFn.out⟩
 | ok u1 s1=>
  rw[hres]at hpo
  obtain⟨v,rfl,hv,h',f⟩:=hpo
  unfold V0 at hv
  subst hv
  have E2:=E.out
  rw[hres,bind_ok]at E2
  have E11:=Hj E2
  have HR11:=Hj h'
  have HF11:=Hj (fx_trans HF.out f)
  have NB_11:=Hj (f.blk NB_0.out NB_0.out.lt (on_ne HRN.out))
  have SB_11:=Hj (f.blk SB_0.out SB_0.out.lt (on_ne HRS.out))
  clear f hres h' E2 HR HF E NB_0 SB_0
  go_wp2_with fail
  refine(pptakeKind_any R 0 s1 2 (by decide) wa11 HR11.out).mono ?_
  intro r wa12 hpo
  cases hres:kindT 2 s1 with
  | no c q=>
   rw[hres]at hpo
   obtain⟨rfl,f⟩:=hpo
   have HFn:=Hj (fx_trans HF11.out f)
   have E2:=E11.out
   rw[hres,bind_no]at E2
   have En:=Hj E2
   clear f hres E2
   go_wp2_with fail
   refine⟨rfl,?_⟩
   rw[←En.out]
   exact⟨rfl,HFn.out⟩
  | ok t s2=>
   rw[hres]at hpo
   obtain⟨v,rfl,hv,h',f⟩:=hpo
   subst hv
   have hnn:0≤t.nn∧t.nn≤2147483647:=by rw[kind_hd hres];exact⟨HR11.out.good.hd.nn0,HR11.out.good.hd.nn1⟩
   have HNN:=Hj hnn
   have ov:IntKind.i64.wrap t.nn=t.nn:=by rw[IntKind.wrap_i64];omega
   clear hnn
   have E2:=E11.out
   rw[hres,bind_ok]at E2
   have E12:=Hj E2
   have HR12:=Hj h'
   have HF12:=Hj (fx_trans HF11.out f)
   have NB_12:=Hj (f.blk NB_11.out NB_11.out.lt (on_ne HRN.out))
   have SB_12:=Hj (f.blk SB_11.out SB_11.out.lt (on_ne HRS.out))
   clear f hres h' E2 HR11 HF11 E11 NB_11 SB_11
   have m13:wa12.cell? ⟨sb,0,none⟩=some (.int .i64 0):=SB_12.out.cell 0
   have z13:wa12.frozen? ⟨sb,0,none⟩=false:=SB_12.out.frozen 0
   have SB_13:Hid (Blk (wa12.setCell ⟨sb,0,none⟩ (.int .i64 t.nn)) sb 30 (prvs t.nn ⟨none,0,0⟩ ⟨none,0,0⟩ ⟨none,0,0⟩).toArray):=SB_12.out.set_ 0 (.int .i64 t.nn)
   have WR13:=Hj (wr1_set wa12 sb 0 (.int .i64 t.nn))
   go_upto_region 4 with fail
   change (Code.region 4 _ _).wp _ _ _ (wa12.setCell ⟨sb,0,none⟩ (.int .i64 t.nn))
   clear m13 z13
   generalize wa12.setCell ⟨sb,0,none⟩ (.int .i64 t.nn)=wb13 at *
   have HR13:=Hj (WR13.out.rdr HR12.out HRS.out)
   have HF13:=Hj (WR13.out.fx HF12.out HSB.out)
   have NB_13:=Hj (WR13.out.blk NB_12.out HNE.out)
   clear HR12 HF12 NB_12 SB_12
   clear ov fn
   go_wp2_with fail
   refine(ppexpect_any R 0 s2 [59] (by decide) wb13 HR13.out).mono ?_
   intro r wa14 hpo
   cases hres:expT [59] s2 with
   | no c q=>
    rw[hres]at hpo
    obtain⟨rfl,f⟩:=hpo
    have HFn:=Hj (fx_trans HF13.out f)
    have E2:=E12.out
    rw[hres,bind_no]at E2
    have En:=Hj E2
    clear f hres E2
    go_wp2_with fail
    refine⟨rfl,?_⟩
    rw[←En.out]
    exact⟨rfl,HFn.out⟩
   | ok u2 s3=>
    rw[hres]at hpo
    obtain⟨v,rfl,hv,h',f⟩:=hpo
    unfold V0 at hv
    subst hv
    have E2:=E12.out
    rw[hres,bind_ok]at E2
    have E14:=Hj E2
    have HR14:=Hj h'
    have HF14:=Hj (fx_trans HF13.out f)
    have NB_14:=Hj (f.blk NB_13.out NB_13.out.lt (on_ne HRN.out))
    have SB_14:=Hj (f.blk SB_13.out SB_13.out.lt (on_ne HRS.out))
    clear f hres h' E2 HR13 HF13 E12 NB_13 SB_13
    go_wp2_with fail
    refine(ppdecls_any R s3 wa14 HR14.out).mono ?_
    intro r wa15 hpo
    cases hres:decls (s3.ts.length+1) [] s3 with
    | no c q=>
     rw[hres]at hpo
     obtain⟨rfl,f⟩:=hpo
     have HFn:=Hj (fx_trans HF14.out f)
     have E2:=E14.out
     rw[hres,bind_no]at E2
     have En:=Hj E2
     clear f hres E2
     go_wp2_with fail
     refine⟨rfl,?_⟩
     rw[←En.out]
     exact⟨rfl,HFn.out⟩
    | ok d s4=>
     rw[hres]at hpo
     obtain⟨v,rfl,⟨S,K1,hv,xb,eb⟩,h',f⟩:=hpo
     obtain⟨A1,n1,c1⟩:=S
     unfold Sl.val at hv
     subst hv
     have EQ1:=Hj eb
     have E2:=E14.out
     rw[hres,bind_ok]at E2
     have E15:=Hj E2
     have HR15:=Hj h'
     have HF15:=Hj (fx_trans HF14.out f)
     have NB_15:=Hj (f.blk NB_14.out NB_14.out.lt (on_ne HRN.out))
     have SB_15:=Hj (f.blk SB_14.out SB_14.out.lt (on_ne HRS.out))
     have XD_15:=Hj (xb.imp (D':=fun k=>sb<k) (fun k _ (x:wa14.heap.size≤k)=>Nat.lt_of_lt_of_le SB_14.out.lt x))
     clear f hres h' E2 HR14 HF14 E14 NB_14 SB_14
     clear xb eb
     have m16:wa15.cell? ⟨sb,1,none⟩=some (.slice none 0 0):=SB_15.out.cell 1
     have z16:wa15.frozen? ⟨sb,1,none⟩=false:=SB_15.out.frozen 1
     have SB_16:Hid (Blk (wa15.setCell ⟨sb,1,none⟩ (.slice A1 n1 c1)) sb 30 (prvs t.nn ⟨A1,n1,c1⟩ ⟨none,0,0⟩ ⟨none,0,0⟩).toArray):=SB_15.out.set_ 1 (.slice A1 n1 c1)
     have WR16:=Hj (wr1_set wa15 sb 1 (.slice A1 n1 c1))
     go_upto_region 6 with fail
     change (Code.region 6 _ _).wp _ _ _ (wa15.setCell ⟨sb,1,none⟩ (.slice A1 n1 c1))
     clear m16 z16
     generalize wa15.setCell ⟨sb,1,none⟩ (.slice A1 n1 c1)=wb16 at *
     have HR16:=Hj (WR16.out.rdr HR15.out HRS.out)
     have HF16:=Hj (WR16.out.fx HF15.out HSB.out)
     have NB_16:=Hj (WR16.out.blk NB_15.out HNE.out)
     have XD_16:=Hj (XD_15.out.fx WR16.out.1 (on_not HDS.out))
     clear HR15 HF15 NB_15 SB_15 XD_15
     go_wp2_with fail
     refine(ppexpect_any R 0 s4 initW (by decide) wb16 HR16.out).mono ?_
     intro r wa17 hpo
     cases hres:expT initW s4 with
     | no c q=>
      rw[hres]at hpo
      obtain⟨rfl,f⟩:=hpo
      have HFn:=Hj (fx_trans HF16.out f)
      have E2:=E15.out
      rw[hres,bind_no]at E2
      have En:=Hj E2
      clear f hres E2
      go_wp2_with fail
      refine⟨rfl,?_⟩
      rw[←En.out]
      exact⟨rfl,HFn.out⟩
     | ok u3 s5=>
      rw[hres]at hpo
      obtain⟨v,rfl,hv,h',f⟩:=hpo
      unfold V0 at hv
      subst hv
      have E2:=E15.out
      rw[hres,bind_ok]at E2
      have E17:=Hj E2
      have HR17:=Hj h'
      have HF17:=Hj (fx_trans HF16.out f)
      have NB_17:=Hj (f.blk NB_16.out NB_16.out.lt (on_ne HRN.out))
      have SB_17:=Hj (f.blk SB_16.out SB_16.out.lt (on_ne HRS.out))
      have XD_17:=Hj (XD_16.out.fx f (on_not HD.out))
      clear f hres h' E2 HR16 HF16 E15 NB_16 SB_16 XD_16
      go_wp2_with fail
      refine((ppstmt_any R 24 0 rfl).2 s5 wa17 HR17.out).mono ?_
      intro r wa18 hpo
      cases hres:blk (sK 24) s5 with
      | no c q=>
       rw[hres]at hpo
       obtain⟨rfl,f⟩:=hpo
       have HFn:=Hj (fx_trans HF17.out f)
       have E2:=E17.out
       rw[hres,bind_no]at E2
       have En:=Hj E2
       clear f hres E2
       go_wp2_with fail
       refine⟨rfl,?_⟩
       rw[←En.out]
       exact⟨rfl,HFn.out⟩
      | ok i s6=>
       rw[hres]at hpo
       obtain⟨v,rfl,⟨S,K2,hv,xb,eb⟩,h',f⟩:=hpo
       obtain⟨A2,n2,c2⟩:=S
       unfold Sl.val at hv
       subst hv
       have EQ2:=Hj eb
       have E2:=E17.out
       rw[hres,bind_ok]at E2
       have E18:=Hj E2
       have HR18:=Hj h'
       have HF18:=Hj (fx_trans HF17.out f)
       have NB_18:=Hj (f.blk NB_17.out NB_17.out.lt (on_ne HRN.out))
       have SB_18:=Hj (f.blk SB_17.out SB_17.out.lt (on_ne HRS.out))
       have XD_18:=Hj (XD_17.out.fx f (on_not HD.out))
       have XI_18:=Hj (xb.imp (D':=fun k=>sb<k) (fun k _ (x:wa17.heap.size≤k)=>Nat.lt_of_lt_of_le SB_17.out.lt x))
       clear f hres h' E2 HR17 HF17 E17 NB_17 SB_17 XD_17
       clear xb eb
       have m19:wa18.cell? ⟨sb,2,none⟩=some (.slice none 0 0):=SB_18.out.cell 2
       have z19:wa18.frozen? ⟨sb,2,none⟩=false:=SB_18.out.frozen 2
       have SB_19:Hid (Blk (wa18.setCell ⟨sb,2,none⟩ (.slice A2 n2 c2)) sb 30 (prvs t.nn ⟨A1,n1,c1⟩ ⟨A2,n2,c2⟩ ⟨none,0,0⟩).toArray):=SB_18.out.set_ 2 (.slice A2 n2 c2)
       have WR19:=Hj (wr1_set wa18 sb 2 (.slice A2 n2 c2))
       go_upto_region 8 with fail
       change (Code.region 8 _ _).wp _ _ _ (wa18.setCell ⟨sb,2,none⟩ (.slice A2 n2 c2))
       clear m19 z19
       generalize wa18.setCell ⟨sb,2,none⟩ (.slice A2 n2 c2)=wb19 at *
       have HR19:=Hj (WR19.out.rdr HR18.out HRS.out)
       have HF19:=Hj (WR19.out.fx HF18.out HSB.out)
       have NB_19:=Hj (WR19.out.blk NB_18.out HNE.out)
       have XD_19:=Hj (XD_18.out.fx WR19.out.1 (on_not HDS.out))
       have XI_19:=Hj (XI_18.out.fx WR19.out.1 (on_not HDS.out))
       clear HR18 HF18 NB_18 SB_18 XD_18 XI_18
       go_wp2_with fail
       refine(ppexpect_any R 0 s6 stepW (by decide) wb19 HR19.out).mono ?_
       intro r wa20 hpo
       cases hres:expT stepW s6 with
       | no c q=>
        rw[hres]at hpo
        obtain⟨rfl,f⟩:=hpo
        have HFn:=Hj (fx_trans HF19.out f)
        have E2:=E18.out
        rw[hres,bind_no]at E2
        have En:=Hj E2
        clear f hres E2
        go_wp2_with fail
        refine⟨rfl,?_⟩
        rw[←En.out]
        exact⟨rfl,HFn.out⟩
       | ok u4 s7=>
        rw[hres]at hpo
        obtain⟨v,rfl,hv,h',f⟩:=hpo
        unfold V0 at hv
        subst hv
        have E2:=E18.out
        rw[hres,bind_ok]at E2
        have E20:=Hj E2
        have HR20:=Hj h'
        have HF20:=Hj (fx_trans HF19.out f)
        have NB_20:=Hj (f.blk NB_19.out NB_19.out.lt (on_ne HRN.out))
        have SB_20:=Hj (f.blk SB_19.out SB_19.out.lt (on_ne HRS.out))
        have XD_20:=Hj (XD_19.out.fx f (on_not HD.out))
        have XI_20:=Hj (XI_19.out.fx f (on_not HD.out))
        clear f hres h' E2 HR19 HF19 E18 NB_19 SB_19 XD_19 XI_19
        go_wp2_with fail
        refine((ppstmt_any R 24 0 rfl).2 s7 wa20 HR20.out).mono ?_
        intro r wa21 hpo
        cases hres:blk (sK 24) s7 with
        | no c q=>
         rw[hres]at hpo
         obtain⟨rfl,f⟩:=hpo
         have HFn:=Hj (fx_trans HF20.out f)
         have E2:=E20.out
         rw[hres,bind_no]at E2
         have En:=Hj E2
         clear f hres E2
         go_wp2_with fail
         refine⟨rfl,?_⟩
         rw[←En.out]
         exact⟨rfl,HFn.out⟩
        | ok b s8=>
         rw[hres]at hpo
         obtain⟨v,rfl,⟨S,K3,hv,xb,eb⟩,h',f⟩:=hpo
         obtain⟨A3,n3,c3⟩:=S
         unfold Sl.val at hv
         subst hv
         have EQ3:=Hj eb
         have E2:=E20.out
         rw[hres,bind_ok]at E2
         have E21:=Hj E2
         have HR21:=Hj h'
         have HF21:=Hj (fx_trans HF20.out f)
         have NB_21:=Hj (f.blk NB_20.out NB_20.out.lt (on_ne HRN.out))
         have SB_21:=Hj (f.blk SB_20.out SB_20.out.lt (on_ne HRS.out))
         have XD_21:=Hj (XD_20.out.fx f (on_not HD.out))
         have XI_21:=Hj (XI_20.out.fx f (on_not HD.out))
         have XS_21:=Hj (xb.imp (D':=fun k=>sb<k) (fun k _ (x:wa20.heap.size≤k)=>Nat.lt_of_lt_of_le SB_20.out.lt x))
         clear f hres h' E2 HR20 HF20 E20 NB_20 SB_20 XD_20 XI_20
         clear xb eb
         have m22:wa21.cell? ⟨sb,3,none⟩=some (.slice none 0 0):=SB_21.out.cell 3
         have z22:wa21.frozen? ⟨sb,3,none⟩=false:=SB_21.out.frozen 3
         have SB_22:Hid (Blk (wa21.setCell ⟨sb,3,none⟩ (.slice A3 n3 c3)) sb 30 (prvs t.nn ⟨A1,n1,c1⟩ ⟨A2,n2,c2⟩ ⟨A3,n3,c3⟩).toArray):=SB_21.out.set_ 3 (.slice A3 n3 c3)
         have WR22:=Hj (wr1_set wa21 sb 3 (.slice A3 n3 c3))
         go_upto_region 10 with fail
         change (Code.region 10 _ _).wp _ _ _ (wa21.setCell ⟨sb,3,none⟩ (.slice A3 n3 c3))
         clear m22 z22
         generalize wa21.setCell ⟨sb,3,none⟩ (.slice A3 n3 c3)=wb22 at *
         have HR22:=Hj (WR22.out.rdr HR21.out HRS.out)
         have HF22:=Hj (WR22.out.fx HF21.out HSB.out)
         have NB_22:=Hj (WR22.out.blk NB_21.out HNE.out)
         have XD_22:=Hj (XD_21.out.fx WR22.out.1 (on_not HDS.out))
         have XI_22:=Hj (XI_21.out.fx WR22.out.1 (on_not HDS.out))
         have XS_22:=Hj (XS_21.out.fx WR22.out.1 (on_not HDS.out))
         clear HR21 HF21 NB_21 SB_21 XD_21 XI_21 XS_21
         have E2:=E21.out
         rw[endT_bind]at E2
         have Ez:=Hj E2
         clear E2 E21
         go_wp2_with fail
         refine(ppexpectEnd_any R 0 s8 wb22 HR22.out).mono ?_
         intro r wa23 hpo
         cases hres:endT () s8 with
         | no c q=>
          rw[hres]at hpo
          obtain⟨rfl,f⟩:=hpo
          have HFn:=Hj (fx_trans HF22.out f)
          have E2:=Ez.out
          rw[hres,bind_no]at E2
          have En:=Hj E2
          clear f hres E2
          go_wp2_with fail
          refine⟨rfl,?_⟩
          rw[←En.out]
          exact⟨rfl,HFn.out⟩
         | ok u5 s9=>
          rw[hres]at hpo
          obtain⟨v,rfl,hv,h',f⟩:=hpo
          unfold V0 at hv
          subst hv
          have E2:=Ez.out
          rw[hres,bind_ok]at E2
          have E23:=Hj E2
          have HR23:=Hj h'
          have HF23:=Hj (fx_trans HF22.out f)
          have NB_23:=Hj (f.blk NB_22.out NB_22.out.lt (on_ne HRN.out))
          have SB_23:=Hj (f.blk SB_22.out SB_22.out.lt (on_ne HRS.out))
          have XD_23:=Hj (XD_22.out.fx f (on_not HD.out))
          have XI_23:=Hj (XI_22.out.fx f (on_not HD.out))
          have XS_23:=Hj (XS_22.out.fx f (on_not HD.out))
          clear f hres h' E2 HR22 HF22 Ez NB_22 SB_22 XD_22 XI_22 XS_22
          go_wp2_with (first
           | refine ld_pr t.nn ⟨A1,n1,c1⟩ ⟨A2,n2,c2⟩ ⟨A3,n3,c3⟩ sb SB_23.out rfl _ rfl rfl ?_
           | refine st_pr t.nn ⟨A1,n1,c1⟩ ⟨A2,n2,c2⟩ ⟨A3,n3,c3⟩ w.heap.size _ NB_23.out rfl rfl _ _ rfl rfl rfl ?_)
          refine bodyPost_ret (rs_pr rfl _ _ w.heap.size t.nn ⟨A1,n1,c1⟩ ⟨A2,n2,c2⟩ ⟨A3,n3,c3⟩ rfl (NB_23.out.rowS _)) rfl ?_
          rw[←E23.out]
          exact⟨_,rfl,⟨⟨t.nn,⟨A1,n1,c1⟩,K1,⟨A2,n2,c2⟩,K2,⟨A3,n3,c3⟩,K3⟩,rfl,⟨⟨by have:=HNN.out.1;dsimp only;omega,by have:=HNN.out.2;dsimp only;omega⟩,((XD_23.out.fx (wr1_row _ w.heap.size _).1 (on_not HDN.out)).imp (fun k _ (x:sb<k)=>Nat.le_trans HSB.out (Nat.le_of_lt x))),((XI_23.out.fx (wr1_row _ w.heap.size _).1 (on_not HDN.out)).imp (fun k _ (x:sb<k)=>Nat.le_trans HSB.out (Nat.le_of_lt x))),((XS_23.out.fx (wr1_row _ w.heap.size _).1 (on_not HDN.out)).imp (fun k _ (x:sb<k)=>Nat.le_trans HSB.out (Nat.le_of_lt x)))⟩,rfl,EQ1.out,EQ2.out,EQ3.out⟩,HR23.out.row HRN.out _,fx_row HF23.out (.inr (Nat.le_refl _)) _⟩
theorem int_dig11 {l:List UInt8}(h:nuF l=false)(h2:nuL l≠0):(l.take (nuL l)).all isDig=true:=by
 have hdg:nuL l=dgL l:=by
  have h4:nuL l=nuA l+exL (l.drop (nuA l)):=by
   unfold nuL at h2 ⊢
   split at h2
   ·omega
   ·rename_i h3
    rw[if_neg h3]
  unfold nuF at h
  rw[decide_eq_false_iff_not]at h
  unfold nuA at h4
  omega
 rw[hdg]
 unfold dgL
 rw[take_tw]
 exact tw_all _ _
theorem nm_res {l:List UInt8}(h:nmL l≠0)(hk:kwS.contains (l.take (nmL l))=false):l.take (nmL l) ∉ resW:=by
 cases l with
 | nil=>exact absurd rfl h
 | cons b r=>
  have hb:isAl b=true:=by
   rw[nmL_cons]at h
   by_cases c:isAl b=true
   ·exact c
   ·rw[if_neg c]at h;exact absurd rfl h
  obtain⟨k,hk2⟩:∃k,nmL (b::r)=k+1:=⟨nmL (b::r) - 1,by omega⟩
  rw[hk2,List.take_succ_cons]at hk ⊢
  intro hm
  unfold resW at hm
  rw[List.mem_append,List.mem_append]at hm
  rcases hm with(hm|hm)|hm
  ·rw[List.contains_iff_mem.2 hm]at hk;cases hk
  ·simp only[twoS,List.mem_cons,List.cons.injEq,List.not_mem_nil,or_false]at hm
   rcases hm with⟨rfl,_⟩|⟨rfl,_⟩|⟨rfl,_⟩|⟨rfl,_⟩|⟨rfl,_⟩|⟨rfl,_⟩|⟨rfl,_⟩<;>exact absurd hb (by decide)
  ·rw[List.mem_map]at hm
   obtain⟨c,hc,e⟩:=hm
   have e:c=b:=by injection e
   subst e
   revert hb
   simp only[oneS,List.mem_cons,List.not_mem_nil,or_false]at hc
   rcases hc with rfl|rfl|rfl|rfl|rfl|rfl|rfl|rfl|rfl|rfl|rfl|rfl|rfl|rfl|rfl|rfl|rfl<;>decide
theorem nn_top:(0:Int)≤2147483647:=by decide
theorem ff_top:(0:Int)<9223372036854775808:=by decide
theorem nil_res:([]:List UInt8) ∉ resW:=by decide
theorem nil_len:([]:List UInt8).length≤16384:=by decide
theorem fi_tg {l:List UInt8}{a:Nat}(h:fiE l=0)(ha:a+l.length≤16384):Tg (fiT l a):=by
 have ha2:(a:Int)≤16384:=by omega
 unfold fiE at h
 unfold fiT
 by_cases c1:nmL l≠0
 ·rw[if_pos c1]
  have hl:(l.take (nmL l)).length≤16384:=by rw[List.length_take];omega
  refine⟨Int.natCast_nonneg _,ha2,?_,?_,Int.le_refl 0,nn_top,Int.le_refl 0,ff_top,hl⟩
  ·dsimp only;split<;>simp
  ·dsimp only
   intro hk
   refine nm_res c1 ?_
   cases e:kwS.contains (l.take (nmL l)) with
   | false=>rfl
   | true=>rw[e]at hk;simp at hk
 ·rw[if_neg c1]at h ⊢
  by_cases c2:nuL l≠0
  ·rw[if_pos c2]at h ⊢
   split at h
   ·cases h
   ·cases c3:nuF l with
    | true=>
     rw[c3]at h
     rw[if_pos rfl]
     have hps:psE (l.take (nuL l))=0:=by
      rw[if_pos rfl]at h
      by_cases c:psE (l.take (nuL l))=0
      ·exact c
      ·rw[if_neg c]at h;cases h
     obtain⟨⟨w0,w1⟩, -,hs, -⟩:=psF_fin hps
     refine⟨Int.natCast_nonneg _,ha2,.inr (.inr (.inl rfl)),fun _=>nil_res,Int.le_refl 0,nn_top,w0,?_,nil_len⟩
     unfold fS at hs
     have:=of_decide_eq_false hs
     dsimp only
     omega
    | false=>
     rw[c3]at h
     rw[if_neg (by decide)]
     have hd:=dval_bd (int_dig11 c3 c2)
     have hle:dval (l.take (nuL l))≤2147483647:=by
      rw[if_neg (by decide)]at h
      by_cases c:dval (l.take (nuL l))≤2147483647
      ·exact c
      ·rw[if_neg c]at h;cases h
     exact⟨Int.natCast_nonneg _,ha2,.inr (.inl rfl),fun _=>nil_res,hd.1,hle,Int.le_refl 0,ff_top,nil_len⟩
  ·rw[if_neg c2]
   have hl:(l.take (siL l)).length≤16384:=by rw[List.length_take];omega
   exact⟨Int.natCast_nonneg _,ha2,.inr (.inr (.inr (.inr rfl))),fun hk=>by simp at hk,Int.le_refl 0,nn_top,Int.le_refl 0,ff_top,hl⟩
theorem good_run {l:List UInt8}{a:Nat}{ts:List Tk}(h:Run l a ts):a+l.length≤16384→Good ts:=by
 induction h with
 | fin a=>exact fun ha=>.inl ⟨rfl,⟨Int.natCast_nonneg _,by show(a:Int)≤16384;simp at ha;omega,rfl,rfl,rfl,rfl⟩⟩
 | tok l a ts _ h r ih=>
  intro ha
  refine .inr ⟨fi_tg h ha,ih ?_⟩
  have h1:=fiN_le l
  have h2:=gpN_add (l.drop (fiN l))
  rw[List.length_drop]at h2
  omega
theorem good_lex {l:List UInt8}(h:(lexV l).2.1=0):Good (lexV l).1:=by
 unfold lexV at h ⊢
 by_cases c:16384<l.length
 ·rw[if_pos c]at h;cases h
 ·rw[if_neg c]at h ⊢
  have hg:=gpN_add l
  exact good_run (run_of _ _ _ (by omega) h).1 (by omega)
def PN (w:World)(r:List Tk×Int×Nat)(e:Ending)(w':World):Prop:=
 if r.2.1=0 then ∃R,e=.returned (.pointer (some ⟨R,0,none⟩))∧w.heap.size≤R∧Rdr R 0 ⟨r.1,0,0⟩ w'∧Below w.heap.size w w'
 else e=.panicked (flP r.2.1 (r.2.2:Nat))∧Below w.heap.size w w'
theorem own_tok {w:World}{B:Nat}{v:Value}{ts:List Tk}(h:w.ownsRow B 62 5 v ts.length (tksC ts))(hn:0<ts.length):∃T c,v=.slice (some ⟨T,0,none⟩) ts.length c∧B≤T∧T<w.heap.size∧w.rangeAt T 0 (tksC ts)∧ts.length≤c∧c≤maxLen:=by
 rcases h.2 with⟨_,e⟩|⟨T,c,cur,rfl,hb,hg,hn2,hc,hcs,ht⟩
 ·rw[e]at hn;cases hn
 ·refine⟨T,c,rfl,hb,(Array.getElem?_eq_some_iff.1 hg).1,fun j u hu=>?_,hn2,hc⟩
  have:=h.cells (g:=T) rfl j u hu
  rw[Addr.add_mid]at this
  exact this
theorem ppnewReader_any (s:ByteArray)(w:World)(hE:Env9 w):Calls Tryz.prog 28 #[.string s] w (PN w (lexV s.data.toList)):=by
 have LX:=Hj (xLex_any s w hE)
 have GL:=Hj (good_lex (l:=s.data.toList))
 clear hE
 generalize lexV s.data.toList=L at *
 obtain⟨ts,er,at_⟩:=L
 unfold PN
 by_cases c:er=0
 ·subst c
  simp only[if_true]
  go_enter Tryz.func28,Tryz.ntmps28
  go_wp2_with fail
  refine LX.out.mono ?_
  rintro e w1 ⟨v,rfl,own,hb⟩
  have hg:Good ts:=GL.out trivial
  obtain⟨T,cp,rfl,hT,hT2,hr,hc1,hc2⟩:=own_tok (ts:=ts) own hg.pos
  have F:=Hj (And.intro hb (And.intro hT (And.intro hT2 (And.intro hr (And.intro hc1 (And.intro hc2 hg))))))
  clear hb hT hT2 hr hc1 hc2 hg own LX GL
  go_wp2_with fail
  obtain⟨hb,hT,hT2,hr,hc1,hc2,hg⟩:=F.out
  refine bodyPost_ret (results_tmp rfl _ _ _) rfl ⟨_,rfl,hb.size,⟨T,0,cp,hT2,Blk.new _ _ _,rangeAt_blk hr ((bel_one w1 _).block T hT2),hc1,hc2,hg,Nat.zero_le _,Nat.zero_le _,Nat.zero_le _⟩,bel_trans hb (bel_one _ _)⟩
 ·simp only[if_neg c]
  have c2:(er == 0)=false:=by simp[c]
  go_enter Tryz.func28,Tryz.ntmps28
  go_wp2_with fail
  refine LX.out.mono ?_
  rintro e w1 ⟨v,rfl,own,hb⟩
  have HB:=Hj hb
  clear own hb LX GL
  go_wp2_with fail
  refine(ppfail_any _ _ _).mono ?_
  rintro e w2 ⟨rfl,rfl⟩
  go_wp2_with fail
  exact⟨rfl,rfl,HB.out⟩
end Go.Proofs.YthmlhkllbichgaaGreatDoor
