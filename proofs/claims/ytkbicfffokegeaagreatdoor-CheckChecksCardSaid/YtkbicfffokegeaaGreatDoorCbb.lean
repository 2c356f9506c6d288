/-
  Whatever program is handed in, CheckChecks answers true. (part 28 of 38) Conditions: none beside what the card ties.
-/
import Derived.Test.YtkbicfffokegeaaGreatDoorCba
namespace Go.Proofs.YtkbicfffokegeaaGreatDoor
set_option maxHeartbeats 16000000
open Go.RowKit Go.Maps
set_option maxRecDepth 100000
def oO (K:Nat→St):Nat→List Value
 | 0=>[]
 | n+1=>oO K n++aS (K n).h (K n).e.h
theorem bW (K:Nat→St)(n:Nat):(oO K n).length=n*15:=by
 induction n with
 | zero=>rfl
 | succ n ih=>rw[oO,List.length_append,ih,aBj,Nat.succ_mul]
theorem aCW {K J:Nat→St}{n:Nat}(h:∀i,i<n→K i=J i):oO K n=oO J n:=by
 induction n with
 | zero=>rfl
 | succ n ih=>rw[oO,oO,ih fun i hi=>h i (by omega),h n (by omega)]
theorem aJs {K:Nat→St}{n i j:Nat}{v:Value}(hi:i<n)(hv:(aS (K i).h (K i).e.h)[j]? = some v):(oO K n)[i*15+j]? = some v:=by
 induction n with
 | zero=>omega
 | succ n ih=>
  rw[oO]
  have hj:j<15:=by
   have:=(List.getElem?_eq_some_iff.1 hv).1
   rwa [aBj]at this
  by_cases h:i<n
  ·rw[List.getElem?_append_left (by rw[bW];omega)]
   exact ih h
  ·obtain rfl:i=n:=by omega
   rw[List.getElem?_append_right (by rw[bW];omega),bW,show i*15+j-i*15=j by omega];exact hv
def Dv (bl:Nat)(v:Value):Nat→Prop:=fun k=>bl<k∧v.ownBlock≠some k
theorem aLD {w:World}{B bl n:Nat}{v:Value}{K:Nat→St}(h:w.ownsRow B 48 15 v n (oO K n))(hB:bl<B)(hK:∀i,i<n→XS (Dv bl v) (K i) w):∃S:Sl,v=S.val∧S.n=n∧XB (fun k=>bl<k) S K w:=by
 have hk:∀i,i<n→XS (fun k=>bl<k) (K i) w:=fun i hi=>(hK i hi).imp (fun k _ x=>x.1);rcases h.2 with⟨rfl,rfl⟩|⟨g,cap,cur,rfl,hb,hg,hn,hc,hcs,ht⟩
 ·exact⟨⟨none,0,0⟩,rfl,rfl,uX⟩
 ·refine⟨⟨some ⟨g,0,none⟩,n,cap⟩,rfl,rfl,⟨hn,hc,fun e=>by cases e⟩,?_,hk⟩
  intro a ha i hi;cases ha;have hi:i<n:=hi;refine⟨(Array.getElem?_eq_some_iff.1 hg).1,fun j u hu=>?_⟩;rw[gM];refine⟨?_,h.cells (g:=g) rfl _ _ (aJs hi hu)⟩;rw[oJ];show bl<g;omega
theorem fU {w:World}{B n g cap:Nat}{t:TypeId}{xs zs vs:List Value}(h:w.ownsRow B t 15 (.slice (some ⟨g,0,none⟩) (n+1) cap) (n+1) (xs++zs))(hx:xs.length=n*15)(_hz:zs.length=15)(hv:vs.length=15) :
  (w.setCells g (n*15) vs).ownsRow B t 15 (.slice (some ⟨g,0,none⟩) (n+1) cap) (n+1) (xs++vs):=by
 refine⟨by rw[List.length_append,hx,hv];omega,.inr ?_⟩;rcases h.2 with⟨e,_⟩|⟨g',cap',cur,e,hb,hg,hn,hc,hcs,ht⟩
 ·cases e
 ·cases e
  obtain⟨c',h1,h2,h3⟩:=oG vs (n * 15) w cur hg;refine⟨g,cap,c',rfl,hb,h1,hn,hc,by rw[h2];exact hcs,?_⟩;apply List.ext_getElem?;intro j
  have hcur:∀j,j<(n+1)*15→cur[j]? = (xs++zs)[j]?:=fun j hj=>by
   rw[←ht,List.getElem?_take,if_pos hj,Array.getElem?_toList]
  have hsz:(n+1)*15≤cur.size:=by rw[hcs];exact Nat.mul_le_mul_right _ hn
  by_cases a1:j<n*15
  ·rw[List.getElem?_take,if_pos (by omega),Array.getElem?_toList,h3 j,if_neg (by omega),hcur j (by omega),List.getElem?_append_left (by omega),List.getElem?_append_left (by omega)]
  ·by_cases a2:j<(n+1)*15
   ·rw[List.getElem?_take,if_pos a2,Array.getElem?_toList,h3 j,if_pos (by omega),List.getElem?_append_right (by omega),hx]
   ·rw[List.getElem?_take,if_neg a2,List.getElem?_eq_none (by rw[List.length_append,hx,hv];omega)]
theorem aGq:(Tryz.prog.info? 48).map (fun i=>(i.zero,i.size,i.bytes))=some (some (.agg (aS cG aP).toArray),15,184):=by kernel_rfl
def mny (p:PS→Rs St):Nat→List St→PS→Rs (List St)
 | 0,_,_=>.no 0 0
 | f+1,l,s=>if s.hd.tx=[125]then .ok l s else(p s).bind fun x s'=>mny p f (l++[x]) s'
theorem aHG (p:PS→Rs St):∀(f:Nat) (l:List St) (s:PS),aDo p f l s=(mny p f l s).bind fun l s'=>(cF [125] s').bind fun _ s''=>.ok l s'':=by
 intro f
 induction f with
 | zero=>exact fun _ _=>rfl
 | succ f ih=>
  intro l s;rw[aDo,mny]
  by_cases c:s.hd.tx=[125]
  ·rw[if_pos c,if_pos c,bG]
   unfold cF;rw[if_pos c];rfl
  ·rw[if_neg c,if_neg c]
   cases p s with
   | no e q=>rfl
   | ok x s'=>exact ih _ _
def wK (p:PS→Rs St)(s:PS):Rs (List St):=mny p (s.ts.length+2) [] s
theorem Rdr.ns {R d:Nat}{s:PS}{w:World}(h:Rdr R d s w):s.ns≤200:=by
 obtain⟨T,o,c,C⟩:=h.rc;exact C.ns
theorem pG {X:Nat→Prop}{w w':World}{B n k:Nat}{t:TypeId}{v:Value}{xs:List Value}(h:w.ownsRow B t k v n xs)(hf:Fx X w.heap.size w w')(hX:∀k,B≤k→¬X k):w'.ownsRow B t k v n xs:=by
 refine⟨h.1,?_⟩;rcases h.2 with hn|⟨g,cap,cur,rfl,hb,hgg,r⟩
 ·exact .inl hn
 ·exact .inr ⟨g,cap,cur,rfl,hb,(hf.block g (Array.getElem?_eq_some_iff.1 hgg).1 (hX g hb)).trans hgg,r⟩
theorem zJ {w w':World}{row:Option Nat}(h:w.grownBy w' row):Fx (fun k=>row=some k) w.heap.size w w':=⟨h.os,h.tape,h.output,h.size,fun k hk hx=>h.block k hk (fun e=>hx e.symm)⟩
theorem iY {w w':World}{bl:Nat}{v v':Value}{s:St}(gr:w.grownBy w' v.ownBlock)(mv:aCs w v v')(h:XS (Dv bl v) s w):XS (Dv bl v') s w':=by
 have h2:XS (fun k=>Dv bl v k∧v'.ownBlock≠some k) s w:=h.imp fun k hk x=>⟨x,fun e=>by
  rcases mv k e with h|h
  ·exact x.2 h
  ·omega⟩
 exact(h2.fx (zJ gr) (fun k hk x=>x.1.2 hk)).imp fun k _ x=>⟨x.1.1,x.2⟩
theorem eX {w w':World}{B n z k:Nat}{t u:TypeId}{v:Value}{xs:List Value}{cs:Array Value}(gr:w.grownBy w' v.ownBlock)(own:w.ownsRow B t z v n xs)(b:Blk w k u cs)(hk:k<B):Blk w' k u cs:=
 (zJ gr).blk b b.lt fun e=>by have:=(dS own e).1;omega
theorem kN {w w':World}{B n z R d:Nat}{t:TypeId}{v:Value}{xs:List Value}{s:PS}(gr:w.grownBy w' v.ownBlock)(own:w.ownsRow B t z v n xs)(r:Rdr R d s w)(hR:R<B):Rdr R d s w':=
 r.fx (zJ gr) r.lt fun k hk e=>by have:=(dS own e).1;omega
theorem nP {X:Nat→Prop}{a w w':World}{n z:Nat}{t:TypeId}{v:Value}{xs:List Value}(gr:w.grownBy w' v.ownBlock)(own:w.ownsRow a.heap.size t z v n xs)(f:Fx X a.heap.size a w):Fx X a.heap.size a w':=
 f.trans ((zJ gr).mono f.size fun k hk e=>by have:=(dS own e).1;omega)
theorem aBF {w:World}{B n z:Nat}{t:TypeId}{v:Value}{xs:List Value}(h:w.ownsRow B t z v n xs):∃A cp,v=.slice A n cp:=by
 rcases h.2 with⟨e,e2⟩|⟨g,cap,cur,e,hb,_⟩
 ·subst e2;exact⟨none,0,e⟩
 ·exact⟨some ⟨g,0,none⟩,cap,e⟩
theorem iI {w:World}{B n z:Nat}{t:TypeId}{v:Value}{xs:List Value}(h:w.ownsRow B t z v n xs)(hn:0<n):∃g cap,v=.slice (some ⟨g,0,none⟩) n cap∧B≤g:=by
 rcases h.2 with⟨_,e⟩|⟨g,cap,cur,e,hb,_⟩
 ·omega
 ·exact⟨g,cap,e,hb⟩
theorem iX {w:World}{B n g cap j:Nat}{t:TypeId}{xs zs:List Value}(h:w.ownsRow B t 15 (.slice (some ⟨g,0,none⟩) (n+1) cap) (n+1) (xs++zs))(hx:xs.length=n*15)(hz:zs.length=15)(hj:j<15):(w.cell? ⟨g,n*15+j,none⟩).isSome=true∧w.frozen? ⟨g,n*15+j,none⟩=false:=by
 refine⟨?_,h.frozenAt _⟩;rw[h.cellAt _ (by omega),List.getElem?_append_right (by omega)];have:n*15+j-xs.length<zs.length:=by omega
 rw[List.getElem?_eq_getElem this];rfl
theorem eH {w:World}{B n cap g:Nat}{K:Nat→St}{b:St}(h:w.ownsRow B 48 15 (.slice (some ⟨g,0,none⟩) (n+1) cap) (n+1) (oO K n++aS b.h b.e.h)):w.ownsRow B 48 15 (.slice (some ⟨g,0,none⟩) (n+1) cap) (n+1) (oO (fun i=>if i<n then K i else b) (n+1)):=by
 have e:oO (fun i=>if i<n then K i else b) (n+1)=oO K n++aS b.h b.e.h:=by
  rw[oO,aCW (J:=K) (fun i hi=>by rw[if_pos hi]),if_neg (Nat.lt_irrefl n)]
 rw[e];exact h
theorem fV {D:Nat→Prop}{w:World}{n:Nat}{K:Nat→St}{b:St}(h:∀i,i<n→XS D (K i) w)(hb:XS D b w):∀i,i<n+1→XS D ((fun i=>if i<n then K i else b) i) w:=by
 intro i hi;dsimp only;split
 ·rename_i h1;exact h i h1
 ·exact hb
theorem eI {n:Nat}{K:Nat→St}{b x:St}{l:List St}(hn:n=l.length)(h:∀i,i<n→(K i).eqv (l.getD i .no))(hb:b.eqv x):∀i,i<n+1→((fun i=>if i<n then K i else b) i).eqv ((l++[x]).getD i .no):=by
 intro i hi;dsimp only;rw[List.getD_eq_getElem?_getD];split
 ·rename_i h1
  rw[List.getElem?_append_left (by omega),←List.getD_eq_getElem?_getD];exact h i h1
 ·obtain rfl:i=l.length:=by omega
  rw[List.getElem?_append_right (aD _),Nat.sub_self];exact hb
theorem aHi (R d b0 bl:Nat)(P:PS→Rs St)(hP:xW R d 106 P)(hrd:Rdy P)(s:PS)(w:World)(h:Rdr R d s w)(h0:Blk w b0 108 #[.pointer (some ⟨R,0,none⟩)])(he:Blk w bl 23 #[.slice none 0 0])(hb:R<bl)(hb0:R<b0)(hbb:b0≠bl) :
  Calls Tryz.prog 105 #[.pointer (some ⟨b0,0,none⟩),.pointer (some ⟨bl,0,none⟩)] w (PC R d (Two R bl) w (wK P s) (GS bl)):=by
 obtain⟨i0,hi,hz0,hz1,hz2⟩:=info_parts aGq;have HI:=Hj hi;have HZ0:=Hj hz0;have HZ1:=Hj hz1;have HZ2:=Hj hz2;have HR:=Hj h;have HE:=Hj (And.intro h0 he);have HB:=Hj (And.intro hb (And.intro hb0 hbb));have HW:Hid (b0<w.heap.size∧bl<w.heap.size):=⟨h0.lt,he.lt⟩;generalize hZ:wK P s=Z;have HZ:Hid (mny P (s.ts.length+2) [] s=Z):=hZ;clear hi hz0 hz1 hz2 h0 he h hb hb0 hbb hZ;go_enter Tryz.func105,Tryz.ntmps105;go_wp2_with fail
 go_loopg [2] s.ts.length (fun gk _ wr=>∃(l:List St) (n:Nat) (v:Value) (K:Nat→St) (s:PS) (f:Nat),Hid (gk=s.ts.length)∧Hid (Blk wr bl 23 #[v])∧Hid (wr.ownsRow w.heap.size 48 15 v n (oO K n))∧Hid (n=l.length∧n≤s.ns)∧Hid (∀i,i<n→XS (Dv bl v) (K i) wr)∧Hid (∀i,i<n→(K i).eqv (l.getD i .no))∧Hid (Rdr R d s wr)∧Hid (Fx (Two R bl) w.heap.size w wr)∧Hid (Blk wr b0 108 #[.pointer (some ⟨R,0,none⟩)])∧Hid (s.ts.length<f)∧Hid (mny P f l s=Z))
 case atStart=>exact⟨[],0,.slice none 0 0,fun _=>.no,s,s.ts.length+2,rfl,HE.out.2,⟨rfl,.inl ⟨rfl,rfl⟩⟩,⟨rfl,Nat.zero_le _⟩,(fun i hi=>absurd hi (Nat.not_lt_zero i)),(fun i hi=>absurd hi (Nat.not_lt_zero i)),HR.out,Fx.refl _ _ _,HE.out.1,Nat.lt_succ_of_lt (Nat.lt_succ_self _),HZ.out⟩
 case round=>
  clear HE HR HZ;obtain⟨l,n,v,K,s,f,HGK,HBL,HOW,HN,HK,HQ,HR,HF,HB0,HFL,HZ⟩:=hrel;obtain⟨f,rfl⟩:∃f',f=f'+1:=⟨f - 1,by have:=HFL.out;omega⟩;obtain⟨A,cp,rfl⟩:=aBF HOW.out;have c0:wr.cell? ⟨b0,0,none⟩=some (.pointer (some ⟨R,0,none⟩)):=HB0.out.cell 0;go_wp2_with fail;refine(dZ R d s [125] wr HR.out).mono ?_;rintro e w1 ⟨rfl,hb⟩;have HBL1:=Hj (HBL.out.below hb HBL.out.lt);have HB01:=Hj (HB0.out.below hb HB0.out.lt);have HOW1:=Hj (bE HOW.out hb);have HK1:=Hj (fun i hi=>(HK.out i hi).bel hb);have HR1:=Hj (HR.out.below hb HR.out.lt);have HF1:=Hj (aZ HF.out hb);clear hb HBL HB0 HOW HK HR HF c0
  by_cases c:s.hd.tx=[125]
  ·have E:Hid (Z=.ok l s):=by show Z=_;rw[←HZ.out,mny,if_pos c]
   rw[cS c];clear c HZ;go_wp2_with fail;refine bodyPost_end (results_none rfl _ _ _) rfl ?_;rw[E.out];obtain⟨⟨A',n',cp'⟩,hS,hSn,hx⟩:=aLD HOW1.out HW.out.2 HK1.out;unfold Sl.val at hS;cases hS;exact⟨rfl,⟨⟨A',n',cp'⟩,K,HBL1.out,hx,HN.out.1,HQ.out⟩,HR1.out,HF1.out⟩
  ·have E:Hid ((P s).bind (fun x s'=>mny P f (l++[x]) s')=Z):=by show _=Z;rw[←HZ.out,mny,if_neg c]
   rw[cU c];clear c HZ;go_upto_region 1 with fail
   cases hres:P s with
   | no c q=>
    have HRES:=Hj hres;have E2:=E.out;rw[hres,bL]at E2;have E:Hid (Z=.no c q):=E2.symm;clear hres E2;have HS0:(w1.drew).cell? ⟨b0,0,none⟩=some (.pointer (some ⟨R,0,none⟩)):=HB01.out.cell 0;refine bY (S:=fun w'=>w'.cell? ⟨b0,0,none⟩=some (.pointer (some ⟨R,0,none⟩))) _ (.take 1 (.three 0 (.take 3 (.two 2 (.act 4 (.act 5 (.take 6 (.two 7 (.act 8 .done) 8 (.act 7 .done))))) 4 (.act 2 (.act 5 (.take 6 (.two 7 (.act 8 .done) 8 (.act 7 .done))))))) 2 (.two 0 (.take 3 (.act 4 (.act 5 (.take 6 (.two 7 (.act 8 .done) 8 (.act 7 .done)))))) 4 (.act 0 (.take 3 (.act 5 (.take 6 (.two 7 (.act 8 .done) 8 (.act 7 .done))))))) 4 (.two 0 (.take 3 (.act 2 (.act 5 (.take 6 (.two 7 (.act 8 .done) 8 (.act 7 .done)))))) 2 (.act 0 (.take 3 (.act 5 (.take 6 (.two 7 (.act 8 .done) 8 (.act 7 .done))))))))) (by kernel_rfl) (by kernel_rfl) rfl (by kernel_rfl) (by kernel_rfl) (fun _ _ d _ _ h=>by cases d<;>exact h) HS0 ?_;clear HS0;refine aN.take (v:=?_) rfl (by rfl) ?_ ?_;rotate_left
    ·(intro w' hSw;(try dsimp only at hSw);go_simp<;>with_reducible rfl)
    try simp only[Act.put,aA,aC,aB]
    refine⟨bF rfl (by rfl) (fun K' hK=>?_),bF rfl (by rfl) (fun K' hK=>?_),bF rfl (by rfl) (fun K' hK=>?_)⟩
    ·have ml:=HBL1.out.cell 0
     change _=some (Value.slice A n cp)at ml;have mlt:=HBL1.out.lt;go_simp;refine hK.out _ _ (Blk.cell (HB01.out.below (aH (Below.refl _ _)) HB01.out.lt) 0) ?_;clear hK K' ml mlt;try simp only[Act.put,aA,aC,aB]
     refine aN.take (v:=?_) rfl (by rfl) ?_ ?_;rotate_left
     ·(intro w' hSw;(try dsimp only at hSw);go_simp<;>with_reducible rfl)
     try simp only[Act.put,aA,aC,aB]
     refine⟨bF rfl (by rfl) (fun K' hK=>?_),bF rfl (by rfl) (fun K' hK=>?_)⟩
     ·go_simp
      go_at_call 106;have HPq:=hP s _ (HR1.out.below (aH (Below.refl _ _)) HR1.out.lt);rw[HRES.out]at HPq;refine HPq.mono ?_;clear HPq;rintro r w2 ⟨rfl,f2⟩;have BA:Below w1.heap.size w1 _:=(aH (Below.refl _ _));have HF2:=Hj (aJ (aZ HF1.out BA) (f2.mono (Y:=Two R bl) (aD _) (fun k _ x=>.inl x)));clear f2 BA hK;go_wp2_with fail;refine⟨rfl,?_⟩;rw[E.out];exact⟨rfl,HF2.out⟩
     ·go_simp
      refine hK.out _ _ (Blk.cell (HB01.out.below (aH (aI (Below.refl _ _) zS)) HB01.out.lt) 0) ?_;clear hK K';try simp only[Act.put,aA,aC,aB]
      refine aN.act rfl (by rfl) (fun K' hK=>?_);go_simp;go_at_call 106;have HPq:=hP s _ (HR1.out.below (aH (aI (Below.refl _ _) zS)) HR1.out.lt);rw[HRES.out]at HPq;refine HPq.mono ?_;clear HPq;rintro r w2 ⟨rfl,f2⟩;have BA:Below w1.heap.size w1 _:=(aH (aI (Below.refl _ _) zS));have HF2:=Hj (aJ (aZ HF1.out BA) (f2.mono (Y:=Two R bl) (aD _) (fun k _ x=>.inl x)));clear f2 BA hK;go_wp2_with fail;refine⟨rfl,?_⟩;rw[E.out];exact⟨rfl,HF2.out⟩
    ·go_simp
     go_at_call 106;have HPq:=hP s _ (HR1.out.below (aH (Below.refl _ _)) HR1.out.lt);rw[HRES.out]at HPq;refine HPq.mono ?_;clear HPq;rintro r w2 ⟨rfl,f2⟩;have BA:Below w1.heap.size w1 _:=(aH (Below.refl _ _));have HF2:=Hj (aJ (aZ HF1.out BA) (f2.mono (Y:=Two R bl) (aD _) (fun k _ x=>.inl x)));clear f2 BA hK;go_wp2_with fail;refine⟨rfl,?_⟩;rw[E.out];exact⟨rfl,HF2.out⟩
    ·go_simp
     refine hK.out _ _ (Blk.cell (HB01.out.below (aH (aI (Below.refl _ _) zS)) HB01.out.lt) 0) ?_;clear hK K';try simp only[Act.put,aA,aC,aB]
     refine⟨bF rfl (by rfl) (fun K' hK=>?_),bF rfl (by rfl) (fun K' hK=>?_)⟩
     ·have ml:=HBL1.out.cell 0
      change _=some (Value.slice A n cp)at ml;have mlt:=HBL1.out.lt;go_simp;refine hK.out _ _ (Blk.cell (HB01.out.below (aH (aI (Below.refl _ _) zS)) HB01.out.lt) 0) ?_;clear hK K' ml mlt;try simp only[Act.put,aA,aC,aB]
      refine aN.take (v:=?_) rfl (by rfl) ?_ ?_;rotate_left
      ·(intro w' hSw;(try dsimp only at hSw);go_simp<;>with_reducible rfl)
      try simp only[Act.put,aA,aC,aB]
      refine aN.act rfl (by rfl) (fun K' hK=>?_);go_simp;go_at_call 106;have HPq:=hP s _ (HR1.out.below (aH (aI (Below.refl _ _) zS)) HR1.out.lt);rw[HRES.out]at HPq;refine HPq.mono ?_;clear HPq;rintro r w2 ⟨rfl,f2⟩;have BA:Below w1.heap.size w1 _:=(aH (aI (Below.refl _ _) zS));have HF2:=Hj (aJ (aZ HF1.out BA) (f2.mono (Y:=Two R bl) (aD _) (fun k _ x=>.inl x)));clear f2 BA hK;go_wp2_with fail;refine⟨rfl,?_⟩;rw[E.out];exact⟨rfl,HF2.out⟩
     ·go_simp
      go_at_call 106;have HPq:=hP s _ (HR1.out.below (aH (aI (Below.refl _ _) zS)) HR1.out.lt);rw[HRES.out]at HPq;refine HPq.mono ?_;clear HPq;rintro r w2 ⟨rfl,f2⟩;have BA:Below w1.heap.size w1 _:=(aH (aI (Below.refl _ _) zS));have HF2:=Hj (aJ (aZ HF1.out BA) (f2.mono (Y:=Two R bl) (aD _) (fun k _ x=>.inl x)));clear f2 BA hK;go_wp2_with fail;refine⟨rfl,?_⟩;rw[E.out];exact⟨rfl,HF2.out⟩
   | ok x s2=>
    have HRES:=Hj hres;have E2:=E.out;rw[hres,bG]at E2;have E:=Hj E2;have HLF:=Hj (hrd s HR1.out.good x s2 hres);have HPO:=Hj HR1.out.good.pos;have HNS:Hid (s.ns≤200):=HR1.out.ns;clear hres E2;have HS0:(w1.drew).cell? ⟨b0,0,none⟩=some (.pointer (some ⟨R,0,none⟩)):=HB01.out.cell 0;refine bY (S:=fun w'=>w'.cell? ⟨b0,0,none⟩=some (.pointer (some ⟨R,0,none⟩))) _ (.take 1 (.three 0 (.take 3 (.two 2 (.act 4 (.act 5 (.take 6 (.two 7 (.act 8 .done) 8 (.act 7 .done))))) 4 (.act 2 (.act 5 (.take 6 (.two 7 (.act 8 .done) 8 (.act 7 .done))))))) 2 (.two 0 (.take 3 (.act 4 (.act 5 (.take 6 (.two 7 (.act 8 .done) 8 (.act 7 .done)))))) 4 (.act 0 (.take 3 (.act 5 (.take 6 (.two 7 (.act 8 .done) 8 (.act 7 .done))))))) 4 (.two 0 (.take 3 (.act 2 (.act 5 (.take 6 (.two 7 (.act 8 .done) 8 (.act 7 .done)))))) 2 (.act 0 (.take 3 (.act 5 (.take 6 (.two 7 (.act 8 .done) 8 (.act 7 .done))))))))) (by kernel_rfl) (by kernel_rfl) rfl (by kernel_rfl) (by kernel_rfl) (fun _ _ d _ _ h=>by cases d<;>exact h) HS0 ?_;clear HS0;refine aN.take (v:=?_) rfl (by rfl) ?_ ?_;rotate_left
    ·(intro w' hSw;(try dsimp only at hSw);go_simp<;>with_reducible rfl)
    try simp only[Act.put,aA,aC,aB]
    refine⟨bF rfl (by rfl) (fun K' hK=>?_),bF rfl (by rfl) (fun K' hK=>?_),bF rfl (by rfl) (fun K' hK=>?_)⟩
    ·have ml:=HBL1.out.cell 0
     change _=some (Value.slice A n cp)at ml;have mlt:=HBL1.out.lt;go_simp;refine hK.out _ _ (Blk.cell (HB01.out.below (aH (Below.refl _ _)) HB01.out.lt) 0) ?_;clear hK K' ml mlt;try simp only[Act.put,aA,aC,aB]
     refine aN.take (v:=?_) rfl (by rfl) ?_ ?_;rotate_left
     ·(intro w' hSw;(try dsimp only at hSw);go_simp<;>with_reducible rfl)
     try simp only[Act.put,aA,aC,aB]
     refine⟨bF rfl (by rfl) (fun K' hK=>?_),bF rfl (by rfl) (fun K' hK=>?_)⟩
     ·go_simp
      go_at_call 106;have HPq:=hP s _ (HR1.out.below (aH (Below.refl _ _)) HR1.out.lt);rw[HRES.out]at HPq;refine HPq.mono ?_;clear HPq;rintro r w2 ⟨vv,rfl,⟨b,rfl,xb,eb⟩,h2,f2⟩;have BA:Below w1.heap.size w1 _:=(aH (Below.refl _ _));have HS2:=aF BA.size f2.size;have q0:=HB01.out.below BA HB01.out.lt;have q1:=HBL1.out.below BA HBL1.out.lt;have HB02:=Hj (f2.blk q0 q0.lt (aO HB.out.2.1));have HBL2:=Hj (f2.blk q1 q1.lt (aO HB.out.1));have HOW2:=Hj (pG (bE HOW1.out BA) f2 (fun k hk (x:k=R)=>by have:=HW.out.1;have:=HB.out.2.1;omega));have HK2:=Hj (fun i hi=>((HK1.out i hi).bel BA).fx f2 (aQ (fun x=>Nat.lt_asymm x.1 HB.out.1)));have HF2:=Hj (aJ (aZ HF1.out BA) (f2.mono (Y:=Two R bl) (aD _) (fun k _ x=>.inl x)));have HR2:=Hj h2;have EB:=Hj eb;have HX2:=Hj (xb.imp (D':=Dv bl (.slice A n cp)) (fun k _ (x:_≤k)=>⟨aE q1.lt x,fun e=>Nat.lt_irrefl _ (aE (dS (bE HOW1.out BA) e).2 x)⟩));refine hK.out _ _ (Blk.cell (HB02.out.below (Below.refl _ _) HB02.out.lt) 0) ?_;clear hK K' q0 q1 BA xb eb h2 f2;try simp only[Act.put,aA,aC,aB]
      refine aN.act rfl (by rfl) (fun K' hK=>?_);go_simp;refine hK.out _ _ (Blk.cell (HB02.out.below (aI (Below.refl _ _) zS) HB02.out.lt) 0) ?_;clear hK K';try simp only[Act.put,aA,aC,aB]
      have BQ:Below w2.heap.size w2 _:=(aI (Below.refl _ _) zS);have ZBq:Blk _ (w2.heap.size) 48 (aS cG aP).toArray:=Blk.new w2 48 (aS cG aP).toArray;have OWq:=bE HOW2.out BQ;have LN:n+1≤201:=by have:=HN.out.2;have:=HNS.out;omega
      refine aN.act rfl (by rfl) (fun K' hK=>?_);refine cW _ _ _ 23 rfl w.heap.size 48 i0 (.agg (aS cG aP).toArray) 15 184 Tryz.underlying23 HI.out HZ0.out HZ1.out HZ2.out rfl (by decide) (.slice A n cp) n _ rfl OWq ⟨w2.heap.size,0,none⟩ 1 1 (aS cG aP) rfl rfl (fun j u hu=>by rw[Addr.add_mid,Nat.zero_add];exact(ZBq.cell j).trans (by rw[List.getElem?_toArray];exact hu)) (by simp[aS,Value.oneCell']) (aF LN (by unfold maxLen;decide)) (by omega) (aF HF2.out.size BQ.size) ?_;intro v' w5 own5 gr5 mv5;obtain⟨g,cap,rfl,hgB⟩:=iI own5 (Nat.succ_pos n);have HX5:=Hj (iY gr5 mv5 (HX2.out.bel BQ));have HK5:=Hj (fun i hi=>iY gr5 mv5 ((HK2.out i hi).bel BQ));have HB05:=Hj (eX gr5 OWq (HB02.out.below BQ HB02.out.lt) HW.out.1);have HBL5:=Hj (eX gr5 OWq (HBL2.out.below BQ HBL2.out.lt) HW.out.2);have HR5:=Hj (kN gr5 OWq (HR2.out.below BQ HR2.out.lt) (Nat.lt_trans HB.out.1 HW.out.2));have HF5:=Hj (nP gr5 OWq (aZ HF2.out BQ));have OW5:=Hj own5;have HGB:=Hj hgB;refine hK.out _ _ (HB05.out.cell 0) ?_;clear hK K' own5 gr5 mv5 OWq ZBq BQ hgB;try simp only[Act.put,aA,aC,aB]
      have i1:(0:Int)≤(n:Int):=by omega
      have i2:(n:Int)<(n:Int)+1:=by omega
      have i3:n<n+1:=Nat.lt_succ_self n;refine aN.take (v:=?_) rfl (by rfl) ?_ ?_;rotate_left
      ·(intro w' hSw;(try dsimp only at hSw);go_simp<;>with_reducible rfl)
      try simp only[Act.put,aA,aC,aB]
      refine⟨bF rfl (by rfl) (fun K' hK=>?_),bF rfl (by rfl) (fun K' hK=>?_)⟩
      ·refine wp_store_mid 48 _ _ rfl g (n*15) (aS b.h b.e.h).toArray rfl rfl (fun j hj=>iX OW5.out (bW K n) rfl hj) (by kernel_rfl) (by simp[aS,Value.oneCell']) ?_
       refine hK.out _ _ (Blk.cell ((cB g (aS b.h b.e.h) (n*15) w5).blk HB05.out (Nat.ne_of_lt (aE HW.out.1 HGB.out))) 0) ?_;clear hK K';try simp only[Act.put]
       have W6:=cB g (aS b.h b.e.h) (n*15) w5;have l6:=W6.blk HBL5.out (Nat.ne_of_lt (aE HW.out.2 HGB.out));have b6:=W6.blk HB05.out (Nat.ne_of_lt (aE HW.out.1 HGB.out));have o6:=fU OW5.out (bW K n) rfl (vs:=aS b.h b.e.h) rfl;have x6:=HX5.out.fx W6.1 (aQ (fun x=>x.2 rfl));have k6:=fun i hi=>(HK5.out i hi).fx W6.1 (aQ (fun x=>x.2 rfl));have r6:=W6.rdr HR5.out (Nat.lt_trans HB.out.1 (aE HW.out.2 HGB.out));have f6:=W6.fx HF5.out HGB.out;change aN _ _ _ _ _ _ (w5.setCells g (n*15) (aS b.h b.e.h));generalize w5.setCells g (n*15) (aS b.h b.e.h)=w6 at *;clear W6;refine aN.act rfl (by rfl) (fun K' hK=>?_);have m6:=l6.cell 0;change _=some (Value.slice A n cp)at m6;have z6:=l6.frozen 0;go_simp;refine hK.out _ _ (Blk.cell (b6.far (p:=⟨bl,0,none⟩) HB.out.2.2 _) 0) ?_;clear hK K' m6 z6;try simp only[Act.put]
       refine aN.done ?_;have o7:=Hj (ownsRow_setCell_below o6 (a:=⟨bl,0,none⟩) HW.out.2 (.slice (some ⟨g,0,none⟩) (n+1) cap));have l7:Hid (Blk (w6.setCell ⟨bl,0,none⟩ (.slice (some ⟨g,0,none⟩) (n+1) cap)) bl 23 #[.slice (some ⟨g,0,none⟩) (n+1) cap]):=l6.set_ 0 _;have b7:=Hj (b6.far (p:=⟨bl,0,none⟩) HB.out.2.2 (.slice (some ⟨g,0,none⟩) (n+1) cap));have x7:=Hj (x6.set (p:=⟨bl,0,none⟩) (fun x=>Nat.lt_irrefl _ x.1) (.slice (some ⟨g,0,none⟩) (n+1) cap));have k7:=Hj (fun i hi=>(k6 i hi).set (p:=⟨bl,0,none⟩) (fun x=>Nat.lt_irrefl _ x.1) (.slice (some ⟨g,0,none⟩) (n+1) cap));have r7:=Hj (r6.set (p:=⟨bl,0,none⟩) HB.out.1 (.slice (some ⟨g,0,none⟩) (n+1) cap));have f7:=Hj (bJ f6 (p:=⟨bl,0,none⟩) (.inl (.inr rfl)) (.slice (some ⟨g,0,none⟩) (n+1) cap));clear o6 l6 b6 x6 k6 r6 f6 OW5 HBL5 HB05 HX5 HK5 HR5 HF5;go_wp2_with fail
       go_roundg s2.ts.length
       case measure=>have:=HPO.out;have:=HLF.out.2.1;have:=HGK.out;omega
       case rel=>exact⟨l++[x],n+1,.slice (some ⟨g,0,none⟩) (n+1) cap,fun i=>if i<n then K i else b,s2,f,rfl,l7.out,eH o7.out,⟨by rw[List.length_append,HN.out.1];rfl,by have:=HN.out.2;have:=HLF.out.2.2;omega⟩,fV k7.out x7.out,eI HN.out.1 HQ.out EB.out,r7.out,f7.out,b7.out,by show s2.ts.length<f;have:=HPO.out;have:=HLF.out.2.1;have:=HFL.out;omega,E.out⟩
      ·have m6:=HBL5.out.cell 0
       change _=some (Value.slice A n cp)at m6;have z6:=HBL5.out.frozen 0;go_simp;have o6:=ownsRow_setCell_below OW5.out (a:=⟨bl,0,none⟩) HW.out.2 (.slice (some ⟨g,0,none⟩) (n+1) cap);have l6:Blk (w5.setCell ⟨bl,0,none⟩ (.slice (some ⟨g,0,none⟩) (n+1) cap)) bl 23 #[.slice (some ⟨g,0,none⟩) (n+1) cap]:=HBL5.out.set_ 0 _;have b6:=HB05.out.far (p:=⟨bl,0,none⟩) HB.out.2.2 (.slice (some ⟨g,0,none⟩) (n+1) cap);have x6:=HX5.out.set (p:=⟨bl,0,none⟩) (fun x=>Nat.lt_irrefl _ x.1) (.slice (some ⟨g,0,none⟩) (n+1) cap);have k6:=fun i hi=>(HK5.out i hi).set (p:=⟨bl,0,none⟩) (fun x=>Nat.lt_irrefl _ x.1) (.slice (some ⟨g,0,none⟩) (n+1) cap);have r6:=HR5.out.set (p:=⟨bl,0,none⟩) HB.out.1 (.slice (some ⟨g,0,none⟩) (n+1) cap);have f6:=bJ HF5.out (p:=⟨bl,0,none⟩) (.inl (.inr rfl)) (.slice (some ⟨g,0,none⟩) (n+1) cap);refine hK.out _ _ (b6.cell 0) ?_;clear hK K' m6 z6;try simp only[Act.put]
       change aN _ _ _ _ _ _ (w5.setCell ⟨bl,0,none⟩ (.slice (some ⟨g,0,none⟩) (n+1) cap));generalize (w5.setCell ⟨bl,0,none⟩ (.slice (some ⟨g,0,none⟩) (n+1) cap))=w6 at *;clear OW5 HBL5 HB05 HX5 HK5 HR5 HF5;refine aN.act rfl (by rfl) (fun K' hK=>?_);refine wp_store_mid 48 _ _ rfl g (n*15) (aS b.h b.e.h).toArray rfl rfl (fun j hj=>iX o6 (bW K n) rfl hj) (by kernel_rfl) (by simp[aS,Value.oneCell']) ?_;have W7:=cB g (aS b.h b.e.h) (n*15) w6;have l7:=Hj (W7.blk l6 (Nat.ne_of_lt (aE HW.out.2 HGB.out)));have b7:=Hj (W7.blk b6 (Nat.ne_of_lt (aE HW.out.1 HGB.out)));have o7:=Hj (fU o6 (bW K n) rfl (vs:=aS b.h b.e.h) rfl);have x7:=Hj (x6.fx W7.1 (aQ (fun x=>x.2 rfl)));have k7:=Hj (fun i hi=>(k6 i hi).fx W7.1 (aQ (fun x=>x.2 rfl)));have r7:=Hj (W7.rdr r6 (Nat.lt_trans HB.out.1 (aE HW.out.2 HGB.out)));have f7:=Hj (W7.fx f6 HGB.out);refine hK.out _ _ (b7.out.cell 0) ?_;clear hK K' W7 o6 l6 b6 x6 k6 r6 f6;try simp only[Act.put]
       refine aN.done ?_;go_wp2_with fail
       go_roundg s2.ts.length
       case measure=>have:=HPO.out;have:=HLF.out.2.1;have:=HGK.out;omega
       case rel=>exact⟨l++[x],n+1,.slice (some ⟨g,0,none⟩) (n+1) cap,fun i=>if i<n then K i else b,s2,f,rfl,l7.out,eH o7.out,⟨by rw[List.length_append,HN.out.1];rfl,by have:=HN.out.2;have:=HLF.out.2.2;omega⟩,fV k7.out x7.out,eI HN.out.1 HQ.out EB.out,r7.out,f7.out,b7.out,by show s2.ts.length<f;have:=HPO.out;have:=HLF.out.2.1;have:=HFL.out;omega,E.out⟩
     ·go_simp
      refine hK.out _ _ (Blk.cell (HB01.out.below (aH (aI (Below.refl _ _) zS)) HB01.out.lt) 0) ?_;clear hK K';try simp only[Act.put,aA,aC,aB]
      refine aN.act rfl (by rfl) (fun K' hK=>?_);go_simp;go_at_call 106;have HPq:=hP s _ (HR1.out.below (aH (aI (Below.refl _ _) zS)) HR1.out.lt);rw[HRES.out]at HPq;refine HPq.mono ?_;clear HPq;rintro r w2 ⟨vv,rfl,⟨b,rfl,xb,eb⟩,h2,f2⟩;have BA:Below w1.heap.size w1 _:=(aH (aI (Below.refl _ _) zS));have HS2:=aF BA.size f2.size;have q0:=HB01.out.below BA HB01.out.lt;have q1:=HBL1.out.below BA HBL1.out.lt;have HB02:=Hj (f2.blk q0 q0.lt (aO HB.out.2.1));have HBL2:=Hj (f2.blk q1 q1.lt (aO HB.out.1));have HOW2:=Hj (pG (bE HOW1.out BA) f2 (fun k hk (x:k=R)=>by have:=HW.out.1;have:=HB.out.2.1;omega));have HK2:=Hj (fun i hi=>((HK1.out i hi).bel BA).fx f2 (aQ (fun x=>Nat.lt_asymm x.1 HB.out.1)));have HF2:=Hj (aJ (aZ HF1.out BA) (f2.mono (Y:=Two R bl) (aD _) (fun k _ x=>.inl x)));have HR2:=Hj h2;have EB:=Hj eb;have HX2:=Hj (xb.imp (D':=Dv bl (.slice A n cp)) (fun k _ (x:_≤k)=>⟨aE q1.lt x,fun e=>Nat.lt_irrefl _ (aE (dS (bE HOW1.out BA) e).2 x)⟩))
      have ZB2:=Hj (f2.blk (Blk.drew (Blk.new w1 48 (aS cG aP).toArray)) (Blk.drew (Blk.new w1 48 (aS cG aP).toArray)).lt (fun(x:w1.heap.size=R)=>by have:=HR1.out.lt;omega));refine hK.out _ _ (Blk.cell (HB02.out.below (Below.refl _ _) HB02.out.lt) 0) ?_;clear hK K' q0 q1 BA xb eb h2 f2;try simp only[Act.put,aA,aC,aB]
      have BQ:Below w2.heap.size w2 _:=(Below.refl _ _);have ZBq:Blk _ (w1.heap.size) 48 (aS cG aP).toArray:=(ZB2.out.below BQ ZB2.out.lt);have OWq:=bE HOW2.out BQ;have LN:n+1≤201:=by have:=HN.out.2;have:=HNS.out;omega
      refine aN.act rfl (by rfl) (fun K' hK=>?_);refine cW _ _ _ 23 rfl w.heap.size 48 i0 (.agg (aS cG aP).toArray) 15 184 Tryz.underlying23 HI.out HZ0.out HZ1.out HZ2.out rfl (by decide) (.slice A n cp) n _ rfl OWq ⟨w1.heap.size,0,none⟩ 1 1 (aS cG aP) rfl rfl (fun j u hu=>by rw[Addr.add_mid,Nat.zero_add];exact(ZBq.cell j).trans (by rw[List.getElem?_toArray];exact hu)) (by simp[aS,Value.oneCell']) (aF LN (by unfold maxLen;decide)) (by omega) (aF HF2.out.size BQ.size) ?_;intro v' w5 own5 gr5 mv5;obtain⟨g,cap,rfl,hgB⟩:=iI own5 (Nat.succ_pos n);have HX5:=Hj (iY gr5 mv5 (HX2.out.bel BQ));have HK5:=Hj (fun i hi=>iY gr5 mv5 ((HK2.out i hi).bel BQ));have HB05:=Hj (eX gr5 OWq (HB02.out.below BQ HB02.out.lt) HW.out.1);have HBL5:=Hj (eX gr5 OWq (HBL2.out.below BQ HBL2.out.lt) HW.out.2);have HR5:=Hj (kN gr5 OWq (HR2.out.below BQ HR2.out.lt) (Nat.lt_trans HB.out.1 HW.out.2));have HF5:=Hj (nP gr5 OWq (aZ HF2.out BQ));have OW5:=Hj own5;have HGB:=Hj hgB;refine hK.out _ _ (HB05.out.cell 0) ?_;clear hK K' own5 gr5 mv5 OWq ZBq BQ hgB;try simp only[Act.put,aA,aC,aB]
      have i1:(0:Int)≤(n:Int):=by omega
      have i2:(n:Int)<(n:Int)+1:=by omega
      have i3:n<n+1:=Nat.lt_succ_self n;refine aN.take (v:=?_) rfl (by rfl) ?_ ?_;rotate_left
      ·(intro w' hSw;(try dsimp only at hSw);go_simp<;>with_reducible rfl)
      try simp only[Act.put,aA,aC,aB]
      refine⟨bF rfl (by rfl) (fun K' hK=>?_),bF rfl (by rfl) (fun K' hK=>?_)⟩
      ·refine wp_store_mid 48 _ _ rfl g (n*15) (aS b.h b.e.h).toArray rfl rfl (fun j hj=>iX OW5.out (bW K n) rfl hj) (by kernel_rfl) (by simp[aS,Value.oneCell']) ?_
       refine hK.out _ _ (Blk.cell ((cB g (aS b.h b.e.h) (n*15) w5).blk HB05.out (Nat.ne_of_lt (aE HW.out.1 HGB.out))) 0) ?_;clear hK K';try simp only[Act.put]
       have W6:=cB g (aS b.h b.e.h) (n*15) w5;have l6:=W6.blk HBL5.out (Nat.ne_of_lt (aE HW.out.2 HGB.out));have b6:=W6.blk HB05.out (Nat.ne_of_lt (aE HW.out.1 HGB.out));have o6:=fU OW5.out (bW K n) rfl (vs:=aS b.h b.e.h) rfl;have x6:=HX5.out.fx W6.1 (aQ (fun x=>x.2 rfl));have k6:=fun i hi=>(HK5.out i hi).fx W6.1 (aQ (fun x=>x.2 rfl));have r6:=W6.rdr HR5.out (Nat.lt_trans HB.out.1 (aE HW.out.2 HGB.out));have f6:=W6.fx HF5.out HGB.out;change aN _ _ _ _ _ _ (w5.setCells g (n*15) (aS b.h b.e.h));generalize w5.setCells g (n*15) (aS b.h b.e.h)=w6 at *;clear W6;refine aN.act rfl (by rfl) (fun K' hK=>?_);have m6:=l6.cell 0;change _=some (Value.slice A n cp)at m6;have z6:=l6.frozen 0;go_simp;refine hK.out _ _ (Blk.cell (b6.far (p:=⟨bl,0,none⟩) HB.out.2.2 _) 0) ?_;clear hK K' m6 z6;try simp only[Act.put]
       refine aN.done ?_;have o7:=Hj (ownsRow_setCell_below o6 (a:=⟨bl,0,none⟩) HW.out.2 (.slice (some ⟨g,0,none⟩) (n+1) cap));have l7:Hid (Blk (w6.setCell ⟨bl,0,none⟩ (.slice (some ⟨g,0,none⟩) (n+1) cap)) bl 23 #[.slice (some ⟨g,0,none⟩) (n+1) cap]):=l6.set_ 0 _;have b7:=Hj (b6.far (p:=⟨bl,0,none⟩) HB.out.2.2 (.slice (some ⟨g,0,none⟩) (n+1) cap));have x7:=Hj (x6.set (p:=⟨bl,0,none⟩) (fun x=>Nat.lt_irrefl _ x.1) (.slice (some ⟨g,0,none⟩) (n+1) cap));have k7:=Hj (fun i hi=>(k6 i hi).set (p:=⟨bl,0,none⟩) (fun x=>Nat.lt_irrefl _ x.1) (.slice (some ⟨g,0,none⟩) (n+1) cap));have r7:=Hj (r6.set (p:=⟨bl,0,none⟩) HB.out.1 (.slice (some ⟨g,0,none⟩) (n+1) cap));have f7:=Hj (bJ f6 (p:=⟨bl,0,none⟩) (.inl (.inr rfl)) (.slice (some ⟨g,0,none⟩) (n+1) cap));clear o6 l6 b6 x6 k6 r6 f6 OW5 HBL5 HB05 HX5 HK5 HR5 HF5;go_wp2_with fail
       go_roundg s2.ts.length
       case measure=>have:=HPO.out;have:=HLF.out.2.1;have:=HGK.out;omega
       case rel=>exact⟨l++[x],n+1,.slice (some ⟨g,0,none⟩) (n+1) cap,fun i=>if i<n then K i else b,s2,f,rfl,l7.out,eH o7.out,⟨by rw[List.length_append,HN.out.1];rfl,by have:=HN.out.2;have:=HLF.out.2.2;omega⟩,fV k7.out x7.out,eI HN.out.1 HQ.out EB.out,r7.out,f7.out,b7.out,by show s2.ts.length<f;have:=HPO.out;have:=HLF.out.2.1;have:=HFL.out;omega,E.out⟩
      ·have m6:=HBL5.out.cell 0
       change _=some (Value.slice A n cp)at m6;have z6:=HBL5.out.frozen 0;go_simp;have o6:=ownsRow_setCell_below OW5.out (a:=⟨bl,0,none⟩) HW.out.2 (.slice (some ⟨g,0,none⟩) (n+1) cap);have l6:Blk (w5.setCell ⟨bl,0,none⟩ (.slice (some ⟨g,0,none⟩) (n+1) cap)) bl 23 #[.slice (some ⟨g,0,none⟩) (n+1) cap]:=HBL5.out.set_ 0 _;have b6:=HB05.out.far (p:=⟨bl,0,none⟩) HB.out.2.2 (.slice (some ⟨g,0,none⟩) (n+1) cap);have x6:=HX5.out.set (p:=⟨bl,0,none⟩) (fun x=>Nat.lt_irrefl _ x.1) (.slice (some ⟨g,0,none⟩) (n+1) cap);have k6:=fun i hi=>(HK5.out i hi).set (p:=⟨bl,0,none⟩) (fun x=>Nat.lt_irrefl _ x.1) (.slice (some ⟨g,0,none⟩) (n+1) cap);have r6:=HR5.out.set (p:=⟨bl,0,none⟩) HB.out.1 (.slice (some ⟨g,0,none⟩) (n+1) cap);have f6:=bJ HF5.out (p:=⟨bl,0,none⟩) (.inl (.inr rfl)) (.slice (some ⟨g,0,none⟩) (n+1) cap);refine hK.out _ _ (b6.cell 0) ?_;clear hK K' m6 z6;try simp only[Act.put]
       change aN _ _ _ _ _ _ (w5.setCell ⟨bl,0,none⟩ (.slice (some ⟨g,0,none⟩) (n+1) cap));generalize (w5.setCell ⟨bl,0,none⟩ (.slice (some ⟨g,0,none⟩) (n+1) cap))=w6 at *;clear OW5 HBL5 HB05 HX5 HK5 HR5 HF5;refine aN.act rfl (by rfl) (fun K' hK=>?_);refine wp_store_mid 48 _ _ rfl g (n*15) (aS b.h b.e.h).toArray rfl rfl (fun j hj=>iX o6 (bW K n) rfl hj) (by kernel_rfl) (by simp[aS,Value.oneCell']) ?_;have W7:=cB g (aS b.h b.e.h) (n*15) w6;have l7:=Hj (W7.blk l6 (Nat.ne_of_lt (aE HW.out.2 HGB.out)));have b7:=Hj (W7.blk b6 (Nat.ne_of_lt (aE HW.out.1 HGB.out)));have o7:=Hj (fU o6 (bW K n) rfl (vs:=aS b.h b.e.h) rfl);have x7:=Hj (x6.fx W7.1 (aQ (fun x=>x.2 rfl)));have k7:=Hj (fun i hi=>(k6 i hi).fx W7.1 (aQ (fun x=>x.2 rfl)));have r7:=Hj (W7.rdr r6 (Nat.lt_trans HB.out.1 (aE HW.out.2 HGB.out)));have f7:=Hj (W7.fx f6 HGB.out);refine hK.out _ _ (b7.out.cell 0) ?_;clear hK K' W7 o6 l6 b6 x6 k6 r6 f6;try simp only[Act.put]
       refine aN.done ?_;go_wp2_with fail
       go_roundg s2.ts.length
       case measure=>have:=HPO.out;have:=HLF.out.2.1;have:=HGK.out;omega
       case rel=>exact⟨l++[x],n+1,.slice (some ⟨g,0,none⟩) (n+1) cap,fun i=>if i<n then K i else b,s2,f,rfl,l7.out,eH o7.out,⟨by rw[List.length_append,HN.out.1];rfl,by have:=HN.out.2;have:=HLF.out.2.2;omega⟩,fV k7.out x7.out,eI HN.out.1 HQ.out EB.out,r7.out,f7.out,b7.out,by show s2.ts.length<f;have:=HPO.out;have:=HLF.out.2.1;have:=HFL.out;omega,E.out⟩
    ·go_simp
     go_at_call 106;have HPq:=hP s _ (HR1.out.below (aH (Below.refl _ _)) HR1.out.lt);rw[HRES.out]at HPq;refine HPq.mono ?_;clear HPq;rintro r w2 ⟨vv,rfl,⟨b,rfl,xb,eb⟩,h2,f2⟩;have BA:Below w1.heap.size w1 _:=(aH (Below.refl _ _));have HS2:=aF BA.size f2.size;have q0:=HB01.out.below BA HB01.out.lt;have q1:=HBL1.out.below BA HBL1.out.lt;have HB02:=Hj (f2.blk q0 q0.lt (aO HB.out.2.1));have HBL2:=Hj (f2.blk q1 q1.lt (aO HB.out.1));have HOW2:=Hj (pG (bE HOW1.out BA) f2 (fun k hk (x:k=R)=>by have:=HW.out.1;have:=HB.out.2.1;omega));have HK2:=Hj (fun i hi=>((HK1.out i hi).bel BA).fx f2 (aQ (fun x=>Nat.lt_asymm x.1 HB.out.1)));have HF2:=Hj (aJ (aZ HF1.out BA) (f2.mono (Y:=Two R bl) (aD _) (fun k _ x=>.inl x)));have HR2:=Hj h2;have EB:=Hj eb;have HX2:=Hj (xb.imp (D':=Dv bl (.slice A n cp)) (fun k _ (x:_≤k)=>⟨aE q1.lt x,fun e=>Nat.lt_irrefl _ (aE (dS (bE HOW1.out BA) e).2 x)⟩));refine hK.out _ _ (Blk.cell (HB02.out.below (Below.refl _ _) HB02.out.lt) 0) ?_;clear hK K' q0 q1 BA xb eb h2 f2;try simp only[Act.put,aA,aC,aB]
     refine⟨bF rfl (by rfl) (fun K' hK=>?_),bF rfl (by rfl) (fun K' hK=>?_)⟩
     ·have ml:=HBL2.out.cell 0
      change _=some (Value.slice A n cp)at ml;have mlt:=HBL2.out.lt;go_simp;refine hK.out _ _ (Blk.cell (HB02.out.below (Below.refl _ _) HB02.out.lt) 0) ?_;clear hK K' ml mlt;try simp only[Act.put,aA,aC,aB]
      refine aN.take (v:=?_) rfl (by rfl) ?_ ?_;rotate_left
      ·(intro w' hSw;(try dsimp only at hSw);go_simp<;>with_reducible rfl)
      try simp only[Act.put,aA,aC,aB]
      refine aN.act rfl (by rfl) (fun K' hK=>?_);go_simp;refine hK.out _ _ (Blk.cell (HB02.out.below (aI (Below.refl _ _) zS) HB02.out.lt) 0) ?_;clear hK K';try simp only[Act.put,aA,aC,aB]
      have BQ:Below w2.heap.size w2 _:=(aI (Below.refl _ _) zS);have ZBq:Blk _ (w2.heap.size) 48 (aS cG aP).toArray:=Blk.new w2 48 (aS cG aP).toArray;have OWq:=bE HOW2.out BQ;have LN:n+1≤201:=by have:=HN.out.2;have:=HNS.out;omega
      refine aN.act rfl (by rfl) (fun K' hK=>?_);refine cW _ _ _ 23 rfl w.heap.size 48 i0 (.agg (aS cG aP).toArray) 15 184 Tryz.underlying23 HI.out HZ0.out HZ1.out HZ2.out rfl (by decide) (.slice A n cp) n _ rfl OWq ⟨w2.heap.size,0,none⟩ 1 1 (aS cG aP) rfl rfl (fun j u hu=>by rw[Addr.add_mid,Nat.zero_add];exact(ZBq.cell j).trans (by rw[List.getElem?_toArray];exact hu)) (by simp[aS,Value.oneCell']) (aF LN (by unfold maxLen;decide)) (by omega) (aF HF2.out.size BQ.size) ?_;intro v' w5 own5 gr5 mv5;obtain⟨g,cap,rfl,hgB⟩:=iI own5 (Nat.succ_pos n);have HX5:=Hj (iY gr5 mv5 (HX2.out.bel BQ));have HK5:=Hj (fun i hi=>iY gr5 mv5 ((HK2.out i hi).bel BQ));have HB05:=Hj (eX gr5 OWq (HB02.out.below BQ HB02.out.lt) HW.out.1);have HBL5:=Hj (eX gr5 OWq (HBL2.out.below BQ HBL2.out.lt) HW.out.2);have HR5:=Hj (kN gr5 OWq (HR2.out.below BQ HR2.out.lt) (Nat.lt_trans HB.out.1 HW.out.2));have HF5:=Hj (nP gr5 OWq (aZ HF2.out BQ));have OW5:=Hj own5;have HGB:=Hj hgB;refine hK.out _ _ (HB05.out.cell 0) ?_;clear hK K' own5 gr5 mv5 OWq ZBq BQ hgB;try simp only[Act.put,aA,aC,aB]
      have i1:(0:Int)≤(n:Int):=by omega
      have i2:(n:Int)<(n:Int)+1:=by omega
      have i3:n<n+1:=Nat.lt_succ_self n;refine aN.take (v:=?_) rfl (by rfl) ?_ ?_;rotate_left
      ·(intro w' hSw;(try dsimp only at hSw);go_simp<;>with_reducible rfl)
      try simp only[Act.put,aA,aC,aB]
      refine⟨bF rfl (by rfl) (fun K' hK=>?_),bF rfl (by rfl) (fun K' hK=>?_)⟩
      ·refine wp_store_mid 48 _ _ rfl g (n*15) (aS b.h b.e.h).toArray rfl rfl (fun j hj=>iX OW5.out (bW K n) rfl hj) (by kernel_rfl) (by simp[aS,Value.oneCell']) ?_
       refine hK.out _ _ (Blk.cell ((cB g (aS b.h b.e.h) (n*15) w5).blk HB05.out (Nat.ne_of_lt (aE HW.out.1 HGB.out))) 0) ?_;clear hK K';try simp only[Act.put]
       have W6:=cB g (aS b.h b.e.h) (n*15) w5;have l6:=W6.blk HBL5.out (Nat.ne_of_lt (aE HW.out.2 HGB.out));have b6:=W6.blk HB05.out (Nat.ne_of_lt (aE HW.out.1 HGB.out));have o6:=fU OW5.out (bW K n) rfl (vs:=aS b.h b.e.h) rfl;have x6:=HX5.out.fx W6.1 (aQ (fun x=>x.2 rfl));have k6:=fun i hi=>(HK5.out i hi).fx W6.1 (aQ (fun x=>x.2 rfl));have r6:=W6.rdr HR5.out (Nat.lt_trans HB.out.1 (aE HW.out.2 HGB.out));have f6:=W6.fx HF5.out HGB.out;change aN _ _ _ _ _ _ (w5.setCells g (n*15) (aS b.h b.e.h));generalize w5.setCells g (n*15) (aS b.h b.e.h)=w6 at *;clear W6;refine aN.act rfl (by rfl) (fun K' hK=>?_);have m6:=l6.cell 0;change _=some (Value.slice A n cp)at m6;have z6:=l6.frozen 0;go_simp;refine hK.out _ _ (Blk.cell (b6.far (p:=⟨bl,0,none⟩) HB.out.2.2 _) 0) ?_;clear hK K' m6 z6;try simp only[Act.put]
       refine aN.done ?_;have o7:=Hj (ownsRow_setCell_below o6 (a:=⟨bl,0,none⟩) HW.out.2 (.slice (some ⟨g,0,none⟩) (n+1) cap));have l7:Hid (Blk (w6.setCell ⟨bl,0,none⟩ (.slice (some ⟨g,0,none⟩) (n+1) cap)) bl 23 #[.slice (some ⟨g,0,none⟩) (n+1) cap]):=l6.set_ 0 _;have b7:=Hj (b6.far (p:=⟨bl,0,none⟩) HB.out.2.2 (.slice (some ⟨g,0,none⟩) (n+1) cap));have x7:=Hj (x6.set (p:=⟨bl,0,none⟩) (fun x=>Nat.lt_irrefl _ x.1) (.slice (some ⟨g,0,none⟩) (n+1) cap));have k7:=Hj (fun i hi=>(k6 i hi).set (p:=⟨bl,0,none⟩) (fun x=>Nat.lt_irrefl _ x.1) (.slice (some ⟨g,0,none⟩) (n+1) cap));have r7:=Hj (r6.set (p:=⟨bl,0,none⟩) HB.out.1 (.slice (some ⟨g,0,none⟩) (n+1) cap));have f7:=Hj (bJ f6 (p:=⟨bl,0,none⟩) (.inl (.inr rfl)) (.slice (some ⟨g,0,none⟩) (n+1) cap));clear o6 l6 b6 x6 k6 r6 f6 OW5 HBL5 HB05 HX5 HK5 HR5 HF5;go_wp2_with fail
       go_roundg s2.ts.length
       case measure=>have:=HPO.out;have:=HLF.out.2.1;have:=HGK.out;omega
       case rel=>exact⟨l++[x],n+1,.slice (some ⟨g,0,none⟩) (n+1) cap,fun i=>if i<n then K i else b,s2,f,rfl,l7.out,eH o7.out,⟨by rw[List.length_append,HN.out.1];rfl,by have:=HN.out.2;have:=HLF.out.2.2;omega⟩,fV k7.out x7.out,eI HN.out.1 HQ.out EB.out,r7.out,f7.out,b7.out,by show s2.ts.length<f;have:=HPO.out;have:=HLF.out.2.1;have:=HFL.out;omega,E.out⟩
      ·have m6:=HBL5.out.cell 0
       change _=some (Value.slice A n cp)at m6;have z6:=HBL5.out.frozen 0;go_simp;have o6:=ownsRow_setCell_below OW5.out (a:=⟨bl,0,none⟩) HW.out.2 (.slice (some ⟨g,0,none⟩) (n+1) cap);have l6:Blk (w5.setCell ⟨bl,0,none⟩ (.slice (some ⟨g,0,none⟩) (n+1) cap)) bl 23 #[.slice (some ⟨g,0,none⟩) (n+1) cap]:=HBL5.out.set_ 0 _;have b6:=HB05.out.far (p:=⟨bl,0,none⟩) HB.out.2.2 (.slice (some ⟨g,0,none⟩) (n+1) cap);have x6:=HX5.out.set (p:=⟨bl,0,none⟩) (fun x=>Nat.lt_irrefl _ x.1) (.slice (some ⟨g,0,none⟩) (n+1) cap);have k6:=fun i hi=>(HK5.out i hi).set (p:=⟨bl,0,none⟩) (fun x=>Nat.lt_irrefl _ x.1) (.slice (some ⟨g,0,none⟩) (n+1) cap);have r6:=HR5.out.set (p:=⟨bl,0,none⟩) HB.out.1 (.slice (some ⟨g,0,none⟩) (n+1) cap);have f6:=bJ HF5.out (p:=⟨bl,0,none⟩) (.inl (.inr rfl)) (.slice (some ⟨g,0,none⟩) (n+1) cap);refine hK.out _ _ (b6.cell 0) ?_;clear hK K' m6 z6;try simp only[Act.put]
       change aN _ _ _ _ _ _ (w5.setCell ⟨bl,0,none⟩ (.slice (some ⟨g,0,none⟩) (n+1) cap));generalize (w5.setCell ⟨bl,0,none⟩ (.slice (some ⟨g,0,none⟩) (n+1) cap))=w6 at *;clear OW5 HBL5 HB05 HX5 HK5 HR5 HF5;refine aN.act rfl (by rfl) (fun K' hK=>?_);refine wp_store_mid 48 _ _ rfl g (n*15) (aS b.h b.e.h).toArray rfl rfl (fun j hj=>iX o6 (bW K n) rfl hj) (by kernel_rfl) (by simp[aS,Value.oneCell']) ?_;have W7:=cB g (aS b.h b.e.h) (n*15) w6;have l7:=Hj (W7.blk l6 (Nat.ne_of_lt (aE HW.out.2 HGB.out)));have b7:=Hj (W7.blk b6 (Nat.ne_of_lt (aE HW.out.1 HGB.out)));have o7:=Hj (fU o6 (bW K n) rfl (vs:=aS b.h b.e.h) rfl);have x7:=Hj (x6.fx W7.1 (aQ (fun x=>x.2 rfl)));have k7:=Hj (fun i hi=>(k6 i hi).fx W7.1 (aQ (fun x=>x.2 rfl)));have r7:=Hj (W7.rdr r6 (Nat.lt_trans HB.out.1 (aE HW.out.2 HGB.out)));have f7:=Hj (W7.fx f6 HGB.out);refine hK.out _ _ (b7.out.cell 0) ?_;clear hK K' W7 o6 l6 b6 x6 k6 r6 f6;try simp only[Act.put]
       refine aN.done ?_;go_wp2_with fail
       go_roundg s2.ts.length
       case measure=>have:=HPO.out;have:=HLF.out.2.1;have:=HGK.out;omega
       case rel=>exact⟨l++[x],n+1,.slice (some ⟨g,0,none⟩) (n+1) cap,fun i=>if i<n then K i else b,s2,f,rfl,l7.out,eH o7.out,⟨by rw[List.length_append,HN.out.1];rfl,by have:=HN.out.2;have:=HLF.out.2.2;omega⟩,fV k7.out x7.out,eI HN.out.1 HQ.out EB.out,r7.out,f7.out,b7.out,by show s2.ts.length<f;have:=HPO.out;have:=HLF.out.2.1;have:=HFL.out;omega,E.out⟩
     ·go_simp
      refine hK.out _ _ (Blk.cell (HB02.out.below (aI (Below.refl _ _) zS) HB02.out.lt) 0) ?_;clear hK K';try simp only[Act.put,aA,aC,aB]
      refine aN.act rfl (by rfl) (fun K' hK=>?_);have ml:=HBL2.out.cell 0;change _=some (Value.slice A n cp)at ml;have mlt:=HBL2.out.lt;go_simp;refine hK.out _ _ (Blk.cell (HB02.out.below (aI (Below.refl _ _) zS) HB02.out.lt) 0) ?_;clear hK K' ml mlt;try simp only[Act.put,aA,aC,aB]
      refine aN.take (v:=?_) rfl (by rfl) ?_ ?_;rotate_left
      ·(intro w' hSw;(try dsimp only at hSw);go_simp<;>with_reducible rfl)
      try simp only[Act.put,aA,aC,aB]
      have BQ:Below w2.heap.size w2 _:=(aI (Below.refl _ _) zS);have ZBq:Blk _ (w2.heap.size) 48 (aS cG aP).toArray:=Blk.new w2 48 (aS cG aP).toArray;have OWq:=bE HOW2.out BQ;have LN:n+1≤201:=by have:=HN.out.2;have:=HNS.out;omega
      refine aN.act rfl (by rfl) (fun K' hK=>?_);refine cW _ _ _ 23 rfl w.heap.size 48 i0 (.agg (aS cG aP).toArray) 15 184 Tryz.underlying23 HI.out HZ0.out HZ1.out HZ2.out rfl (by decide) (.slice A n cp) n _ rfl OWq ⟨w2.heap.size,0,none⟩ 1 1 (aS cG aP) rfl rfl (fun j u hu=>by rw[Addr.add_mid,Nat.zero_add];exact(ZBq.cell j).trans (by rw[List.getElem?_toArray];exact hu)) (by simp[aS,Value.oneCell']) (aF LN (by unfold maxLen;decide)) (by omega) (aF HF2.out.size BQ.size) ?_;intro v' w5 own5 gr5 mv5;obtain⟨g,cap,rfl,hgB⟩:=iI own5 (Nat.succ_pos n);have HX5:=Hj (iY gr5 mv5 (HX2.out.bel BQ));have HK5:=Hj (fun i hi=>iY gr5 mv5 ((HK2.out i hi).bel BQ));have HB05:=Hj (eX gr5 OWq (HB02.out.below BQ HB02.out.lt) HW.out.1);have HBL5:=Hj (eX gr5 OWq (HBL2.out.below BQ HBL2.out.lt) HW.out.2);have HR5:=Hj (kN gr5 OWq (HR2.out.below BQ HR2.out.lt) (Nat.lt_trans HB.out.1 HW.out.2));have HF5:=Hj (nP gr5 OWq (aZ HF2.out BQ));have OW5:=Hj own5;have HGB:=Hj hgB;refine hK.out _ _ (HB05.out.cell 0) ?_;clear hK K' own5 gr5 mv5 OWq ZBq BQ hgB;try simp only[Act.put,aA,aC,aB]
      have i1:(0:Int)≤(n:Int):=by omega
      have i2:(n:Int)<(n:Int)+1:=by omega
      have i3:n<n+1:=Nat.lt_succ_self n;refine aN.take (v:=?_) rfl (by rfl) ?_ ?_;rotate_left
      ·(intro w' hSw;(try dsimp only at hSw);go_simp<;>with_reducible rfl)
      try simp only[Act.put,aA,aC,aB]
      refine⟨bF rfl (by rfl) (fun K' hK=>?_),bF rfl (by rfl) (fun K' hK=>?_)⟩
      ·refine wp_store_mid 48 _ _ rfl g (n*15) (aS b.h b.e.h).toArray rfl rfl (fun j hj=>iX OW5.out (bW K n) rfl hj) (by kernel_rfl) (by simp[aS,Value.oneCell']) ?_
       refine hK.out _ _ (Blk.cell ((cB g (aS b.h b.e.h) (n*15) w5).blk HB05.out (Nat.ne_of_lt (aE HW.out.1 HGB.out))) 0) ?_;clear hK K';try simp only[Act.put]
       have W6:=cB g (aS b.h b.e.h) (n*15) w5;have l6:=W6.blk HBL5.out (Nat.ne_of_lt (aE HW.out.2 HGB.out));have b6:=W6.blk HB05.out (Nat.ne_of_lt (aE HW.out.1 HGB.out));have o6:=fU OW5.out (bW K n) rfl (vs:=aS b.h b.e.h) rfl;have x6:=HX5.out.fx W6.1 (aQ (fun x=>x.2 rfl));have k6:=fun i hi=>(HK5.out i hi).fx W6.1 (aQ (fun x=>x.2 rfl));have r6:=W6.rdr HR5.out (Nat.lt_trans HB.out.1 (aE HW.out.2 HGB.out));have f6:=W6.fx HF5.out HGB.out;change aN _ _ _ _ _ _ (w5.setCells g (n*15) (aS b.h b.e.h));generalize w5.setCells g (n*15) (aS b.h b.e.h)=w6 at *;clear W6;refine aN.act rfl (by rfl) (fun K' hK=>?_);have m6:=l6.cell 0;change _=some (Value.slice A n cp)at m6;have z6:=l6.frozen 0;go_simp;refine hK.out _ _ (Blk.cell (b6.far (p:=⟨bl,0,none⟩) HB.out.2.2 _) 0) ?_;clear hK K' m6 z6;try simp only[Act.put]
       refine aN.done ?_;have o7:=Hj (ownsRow_setCell_below o6 (a:=⟨bl,0,none⟩) HW.out.2 (.slice (some ⟨g,0,none⟩) (n+1) cap));have l7:Hid (Blk (w6.setCell ⟨bl,0,none⟩ (.slice (some ⟨g,0,none⟩) (n+1) cap)) bl 23 #[.slice (some ⟨g,0,none⟩) (n+1) cap]):=l6.set_ 0 _;have b7:=Hj (b6.far (p:=⟨bl,0,none⟩) HB.out.2.2 (.slice (some ⟨g,0,none⟩) (n+1) cap));have x7:=Hj (x6.set (p:=⟨bl,0,none⟩) (fun x=>Nat.lt_irrefl _ x.1) (.slice (some ⟨g,0,none⟩) (n+1) cap));have k7:=Hj (fun i hi=>(k6 i hi).set (p:=⟨bl,0,none⟩) (fun x=>Nat.lt_irrefl _ x.1) (.slice (some ⟨g,0,none⟩) (n+1) cap));have r7:=Hj (r6.set (p:=⟨bl,0,none⟩) HB.out.1 (.slice (some ⟨g,0,none⟩) (n+1) cap));have f7:=Hj (bJ f6 (p:=⟨bl,0,none⟩) (.inl (.inr rfl)) (.slice (some ⟨g,0,none⟩) (n+1) cap));clear o6 l6 b6 x6 k6 r6 f6 OW5 HBL5 HB05 HX5 HK5 HR5 HF5;go_wp2_with fail
       go_roundg s2.ts.length
       case measure=>have:=HPO.out;have:=HLF.out.2.1;have:=HGK.out;omega
       case rel=>exact⟨l++[x],n+1,.slice (some ⟨g,0,none⟩) (n+1) cap,fun i=>if i<n then K i else b,s2,f,rfl,l7.out,eH o7.out,⟨by rw[List.length_append,HN.out.1];rfl,by have:=HN.out.2;have:=HLF.out.2.2;omega⟩,fV k7.out x7.out,eI HN.out.1 HQ.out EB.out,r7.out,f7.out,b7.out,by show s2.ts.length<f;have:=HPO.out;have:=HLF.out.2.1;have:=HFL.out;omega,E.out⟩
      ·have m6:=HBL5.out.cell 0
       change _=some (Value.slice A n cp)at m6;have z6:=HBL5.out.frozen 0;go_simp;have o6:=ownsRow_setCell_below OW5.out (a:=⟨bl,0,none⟩) HW.out.2 (.slice (some ⟨g,0,none⟩) (n+1) cap);have l6:Blk (w5.setCell ⟨bl,0,none⟩ (.slice (some ⟨g,0,none⟩) (n+1) cap)) bl 23 #[.slice (some ⟨g,0,none⟩) (n+1) cap]:=HBL5.out.set_ 0 _;have b6:=HB05.out.far (p:=⟨bl,0,none⟩) HB.out.2.2 (.slice (some ⟨g,0,none⟩) (n+1) cap);have x6:=HX5.out.set (p:=⟨bl,0,none⟩) (fun x=>Nat.lt_irrefl _ x.1) (.slice (some ⟨g,0,none⟩) (n+1) cap);have k6:=fun i hi=>(HK5.out i hi).set (p:=⟨bl,0,none⟩) (fun x=>Nat.lt_irrefl _ x.1) (.slice (some ⟨g,0,none⟩) (n+1) cap);have r6:=HR5.out.set (p:=⟨bl,0,none⟩) HB.out.1 (.slice (some ⟨g,0,none⟩) (n+1) cap);have f6:=bJ HF5.out (p:=⟨bl,0,none⟩) (.inl (.inr rfl)) (.slice (some ⟨g,0,none⟩) (n+1) cap);refine hK.out _ _ (b6.cell 0) ?_;clear hK K' m6 z6;try simp only[Act.put]
       change aN _ _ _ _ _ _ (w5.setCell ⟨bl,0,none⟩ (.slice (some ⟨g,0,none⟩) (n+1) cap));generalize (w5.setCell ⟨bl,0,none⟩ (.slice (some ⟨g,0,none⟩) (n+1) cap))=w6 at *;clear OW5 HBL5 HB05 HX5 HK5 HR5 HF5;refine aN.act rfl (by rfl) (fun K' hK=>?_);refine wp_store_mid 48 _ _ rfl g (n*15) (aS b.h b.e.h).toArray rfl rfl (fun j hj=>iX o6 (bW K n) rfl hj) (by kernel_rfl) (by simp[aS,Value.oneCell']) ?_;have W7:=cB g (aS b.h b.e.h) (n*15) w6;have l7:=Hj (W7.blk l6 (Nat.ne_of_lt (aE HW.out.2 HGB.out)));have b7:=Hj (W7.blk b6 (Nat.ne_of_lt (aE HW.out.1 HGB.out)));have o7:=Hj (fU o6 (bW K n) rfl (vs:=aS b.h b.e.h) rfl);have x7:=Hj (x6.fx W7.1 (aQ (fun x=>x.2 rfl)));have k7:=Hj (fun i hi=>(k6 i hi).fx W7.1 (aQ (fun x=>x.2 rfl)));have r7:=Hj (W7.rdr r6 (Nat.lt_trans HB.out.1 (aE HW.out.2 HGB.out)));have f7:=Hj (W7.fx f6 HGB.out);refine hK.out _ _ (b7.out.cell 0) ?_;clear hK K' W7 o6 l6 b6 x6 k6 r6 f6;try simp only[Act.put]
       refine aN.done ?_;go_wp2_with fail
       go_roundg s2.ts.length
       case measure=>have:=HPO.out;have:=HLF.out.2.1;have:=HGK.out;omega
       case rel=>exact⟨l++[x],n+1,.slice (some ⟨g,0,none⟩) (n+1) cap,fun i=>if i<n then K i else b,s2,f,rfl,l7.out,eH o7.out,⟨by rw[List.length_append,HN.out.1];rfl,by have:=HN.out.2;have:=HLF.out.2.2;omega⟩,fV k7.out x7.out,eI HN.out.1 HQ.out EB.out,r7.out,f7.out,b7.out,by show s2.ts.length<f;have:=HPO.out;have:=HLF.out.2.1;have:=HFL.out;omega,E.out⟩
    ·go_simp
     refine hK.out _ _ (Blk.cell (HB01.out.below (aH (aI (Below.refl _ _) zS)) HB01.out.lt) 0) ?_;clear hK K';try simp only[Act.put,aA,aC,aB]
     refine⟨bF rfl (by rfl) (fun K' hK=>?_),bF rfl (by rfl) (fun K' hK=>?_)⟩
     ·have ml:=HBL1.out.cell 0
      change _=some (Value.slice A n cp)at ml;have mlt:=HBL1.out.lt;go_simp;refine hK.out _ _ (Blk.cell (HB01.out.below (aH (aI (Below.refl _ _) zS)) HB01.out.lt) 0) ?_;clear hK K' ml mlt;try simp only[Act.put,aA,aC,aB]
      refine aN.take (v:=?_) rfl (by rfl) ?_ ?_;rotate_left
      ·(intro w' hSw;(try dsimp only at hSw);go_simp<;>with_reducible rfl)
      try simp only[Act.put,aA,aC,aB]
      refine aN.act rfl (by rfl) (fun K' hK=>?_);go_simp;go_at_call 106;have HPq:=hP s _ (HR1.out.below (aH (aI (Below.refl _ _) zS)) HR1.out.lt);rw[HRES.out]at HPq;refine HPq.mono ?_;clear HPq;rintro r w2 ⟨vv,rfl,⟨b,rfl,xb,eb⟩,h2,f2⟩;have BA:Below w1.heap.size w1 _:=(aH (aI (Below.refl _ _) zS));have HS2:=aF BA.size f2.size;have q0:=HB01.out.below BA HB01.out.lt;have q1:=HBL1.out.below BA HBL1.out.lt;have HB02:=Hj (f2.blk q0 q0.lt (aO HB.out.2.1));have HBL2:=Hj (f2.blk q1 q1.lt (aO HB.out.1));have HOW2:=Hj (pG (bE HOW1.out BA) f2 (fun k hk (x:k=R)=>by have:=HW.out.1;have:=HB.out.2.1;omega));have HK2:=Hj (fun i hi=>((HK1.out i hi).bel BA).fx f2 (aQ (fun x=>Nat.lt_asymm x.1 HB.out.1)));have HF2:=Hj (aJ (aZ HF1.out BA) (f2.mono (Y:=Two R bl) (aD _) (fun k _ x=>.inl x)));have HR2:=Hj h2;have EB:=Hj eb;have HX2:=Hj (xb.imp (D':=Dv bl (.slice A n cp)) (fun k _ (x:_≤k)=>⟨aE q1.lt x,fun e=>Nat.lt_irrefl _ (aE (dS (bE HOW1.out BA) e).2 x)⟩))
      have ZB2:=Hj (f2.blk (Blk.drew (Blk.new w1 48 (aS cG aP).toArray)) (Blk.drew (Blk.new w1 48 (aS cG aP).toArray)).lt (fun(x:w1.heap.size=R)=>by have:=HR1.out.lt;omega));refine hK.out _ _ (Blk.cell (HB02.out.below (Below.refl _ _) HB02.out.lt) 0) ?_;clear hK K' q0 q1 BA xb eb h2 f2;try simp only[Act.put,aA,aC,aB]
      have BQ:Below w2.heap.size w2 _:=(Below.refl _ _);have ZBq:Blk _ (w1.heap.size) 48 (aS cG aP).toArray:=(ZB2.out.below BQ ZB2.out.lt);have OWq:=bE HOW2.out BQ;have LN:n+1≤201:=by have:=HN.out.2;have:=HNS.out;omega
      refine aN.act rfl (by rfl) (fun K' hK=>?_);refine cW _ _ _ 23 rfl w.heap.size 48 i0 (.agg (aS cG aP).toArray) 15 184 Tryz.underlying23 HI.out HZ0.out HZ1.out HZ2.out rfl (by decide) (.slice A n cp) n _ rfl OWq ⟨w1.heap.size,0,none⟩ 1 1 (aS cG aP) rfl rfl (fun j u hu=>by rw[Addr.add_mid,Nat.zero_add];exact(ZBq.cell j).trans (by rw[List.getElem?_toArray];exact hu)) (by simp[aS,Value.oneCell']) (aF LN (by unfold maxLen;decide)) (by omega) (aF HF2.out.size BQ.size) ?_;intro v' w5 own5 gr5 mv5;obtain⟨g,cap,rfl,hgB⟩:=iI own5 (Nat.succ_pos n);have HX5:=Hj (iY gr5 mv5 (HX2.out.bel BQ));have HK5:=Hj (fun i hi=>iY gr5 mv5 ((HK2.out i hi).bel BQ));have HB05:=Hj (eX gr5 OWq (HB02.out.below BQ HB02.out.lt) HW.out.1);have HBL5:=Hj (eX gr5 OWq (HBL2.out.below BQ HBL2.out.lt) HW.out.2);have HR5:=Hj (kN gr5 OWq (HR2.out.below BQ HR2.out.lt) (Nat.lt_trans HB.out.1 HW.out.2));have HF5:=Hj (nP gr5 OWq (aZ HF2.out BQ));have OW5:=Hj own5;have HGB:=Hj hgB;refine hK.out _ _ (HB05.out.cell 0) ?_;clear hK K' own5 gr5 mv5 OWq ZBq BQ hgB;try simp only[Act.put,aA,aC,aB]
      have i1:(0:Int)≤(n:Int):=by omega
      have i2:(n:Int)<(n:Int)+1:=by omega
      have i3:n<n+1:=Nat.lt_succ_self n;refine aN.take (v:=?_) rfl (by rfl) ?_ ?_;rotate_left
      ·(intro w' hSw;(try dsimp only at hSw);go_simp<;>with_reducible rfl)
      try simp only[Act.put,aA,aC,aB]
      refine⟨bF rfl (by rfl) (fun K' hK=>?_),bF rfl (by rfl) (fun K' hK=>?_)⟩
      ·refine wp_store_mid 48 _ _ rfl g (n*15) (aS b.h b.e.h).toArray rfl rfl (fun j hj=>iX OW5.out (bW K n) rfl hj) (by kernel_rfl) (by simp[aS,Value.oneCell']) ?_
       refine hK.out _ _ (Blk.cell ((cB g (aS b.h b.e.h) (n*15) w5).blk HB05.out (Nat.ne_of_lt (aE HW.out.1 HGB.out))) 0) ?_;clear hK K';try simp only[Act.put]
       have W6:=cB g (aS b.h b.e.h) (n*15) w5;have l6:=W6.blk HBL5.out (Nat.ne_of_lt (aE HW.out.2 HGB.out));have b6:=W6.blk HB05.out (Nat.ne_of_lt (aE HW.out.1 HGB.out));have o6:=fU OW5.out (bW K n) rfl (vs:=aS b.h b.e.h) rfl;have x6:=HX5.out.fx W6.1 (aQ (fun x=>x.2 rfl));have k6:=fun i hi=>(HK5.out i hi).fx W6.1 (aQ (fun x=>x.2 rfl));have r6:=W6.rdr HR5.out (Nat.lt_trans HB.out.1 (aE HW.out.2 HGB.out));have f6:=W6.fx HF5.out HGB.out;change aN _ _ _ _ _ _ (w5.setCells g (n*15) (aS b.h b.e.h));generalize w5.setCells g (n*15) (aS b.h b.e.h)=w6 at *;clear W6;refine aN.act rfl (by rfl) (fun K' hK=>?_);have m6:=l6.cell 0;change _=some (Value.slice A n cp)at m6;have z6:=l6.frozen 0;go_simp;refine hK.out _ _ (Blk.cell (b6.far (p:=⟨bl,0,none⟩) HB.out.2.2 _) 0) ?_;clear hK K' m6 z6;try simp only[Act.put]
       refine aN.done ?_;have o7:=Hj (ownsRow_setCell_below o6 (a:=⟨bl,0,none⟩) HW.out.2 (.slice (some ⟨g,0,none⟩) (n+1) cap));have l7:Hid (Blk (w6.setCell ⟨bl,0,none⟩ (.slice (some ⟨g,0,none⟩) (n+1) cap)) bl 23 #[.slice (some ⟨g,0,none⟩) (n+1) cap]):=l6.set_ 0 _;have b7:=Hj (b6.far (p:=⟨bl,0,none⟩) HB.out.2.2 (.slice (some ⟨g,0,none⟩) (n+1) cap));have x7:=Hj (x6.set (p:=⟨bl,0,none⟩) (fun x=>Nat.lt_irrefl _ x.1) (.slice (some ⟨g,0,none⟩) (n+1) cap));have k7:=Hj (fun i hi=>(k6 i hi).set (p:=⟨bl,0,none⟩) (fun x=>Nat.lt_irrefl _ x.1) (.slice (some ⟨g,0,none⟩) (n+1) cap));have r7:=Hj (r6.set (p:=⟨bl,0,none⟩) HB.out.1 (.slice (some ⟨g,0,none⟩) (n+1) cap));have f7:=Hj (bJ f6 (p:=⟨bl,0,none⟩) (.inl (.inr rfl)) (.slice (some ⟨g,0,none⟩) (n+1) cap));clear o6 l6 b6 x6 k6 r6 f6 OW5 HBL5 HB05 HX5 HK5 HR5 HF5;go_wp2_with fail
       go_roundg s2.ts.length
       case measure=>have:=HPO.out;have:=HLF.out.2.1;have:=HGK.out;omega
       case rel=>exact⟨l++[x],n+1,.slice (some ⟨g,0,none⟩) (n+1) cap,fun i=>if i<n then K i else b,s2,f,rfl,l7.out,eH o7.out,⟨by rw[List.length_append,HN.out.1];rfl,by have:=HN.out.2;have:=HLF.out.2.2;omega⟩,fV k7.out x7.out,eI HN.out.1 HQ.out EB.out,r7.out,f7.out,b7.out,by show s2.ts.length<f;have:=HPO.out;have:=HLF.out.2.1;have:=HFL.out;omega,E.out⟩
      ·have m6:=HBL5.out.cell 0
       change _=some (Value.slice A n cp)at m6;have z6:=HBL5.out.frozen 0;go_simp;have o6:=ownsRow_setCell_below OW5.out (a:=⟨bl,0,none⟩) HW.out.2 (.slice (some ⟨g,0,none⟩) (n+1) cap);have l6:Blk (w5.setCell ⟨bl,0,none⟩ (.slice (some ⟨g,0,none⟩) (n+1) cap)) bl 23 #[.slice (some ⟨g,0,none⟩) (n+1) cap]:=HBL5.out.set_ 0 _;have b6:=HB05.out.far (p:=⟨bl,0,none⟩) HB.out.2.2 (.slice (some ⟨g,0,none⟩) (n+1) cap);have x6:=HX5.out.set (p:=⟨bl,0,none⟩) (fun x=>Nat.lt_irrefl _ x.1) (.slice (some ⟨g,0,none⟩) (n+1) cap);have k6:=fun i hi=>(HK5.out i hi).set (p:=⟨bl,0,none⟩) (fun x=>Nat.lt_irrefl _ x.1) (.slice (some ⟨g,0,none⟩) (n+1) cap);have r6:=HR5.out.set (p:=⟨bl,0,none⟩) HB.out.1 (.slice (some ⟨g,0,none⟩) (n+1) cap);have f6:=bJ HF5.out (p:=⟨bl,0,none⟩) (.inl (.inr rfl)) (.slice (some ⟨g,0,none⟩) (n+1) cap);refine hK.out _ _ (b6.cell 0) ?_;clear hK K' m6 z6;try simp only[Act.put]
       change aN _ _ _ _ _ _ (w5.setCell ⟨bl,0,none⟩ (.slice (some ⟨g,0,none⟩) (n+1) cap));generalize (w5.setCell ⟨bl,0,none⟩ (.slice (some ⟨g,0,none⟩) (n+1) cap))=w6 at *;clear OW5 HBL5 HB05 HX5 HK5 HR5 HF5;refine aN.act rfl (by rfl) (fun K' hK=>?_);refine wp_store_mid 48 _ _ rfl g (n*15) (aS b.h b.e.h).toArray rfl rfl (fun j hj=>iX o6 (bW K n) rfl hj) (by kernel_rfl) (by simp[aS,Value.oneCell']) ?_;have W7:=cB g (aS b.h b.e.h) (n*15) w6;have l7:=Hj (W7.blk l6 (Nat.ne_of_lt (aE HW.out.2 HGB.out)));have b7:=Hj (W7.blk b6 (Nat.ne_of_lt (aE HW.out.1 HGB.out)));have o7:=Hj (fU o6 (bW K n) rfl (vs:=aS b.h b.e.h) rfl);have x7:=Hj (x6.fx W7.1 (aQ (fun x=>x.2 rfl)));have k7:=Hj (fun i hi=>(k6 i hi).fx W7.1 (aQ (fun x=>x.2 rfl)));have r7:=Hj (W7.rdr r6 (Nat.lt_trans HB.out.1 (aE HW.out.2 HGB.out)));have f7:=Hj (W7.fx f6 HGB.out);refine hK.out _ _ (b7.out.cell 0) ?_;clear hK K' W7 o6 l6 b6 x6 k6 r6 f6;try simp only[Act.put]
       refine aN.done ?_;go_wp2_with fail
       go_roundg s2.ts.length
       case measure=>have:=HPO.out;have:=HLF.out.2.1;have:=HGK.out;omega
       case rel=>exact⟨l++[x],n+1,.slice (some ⟨g,0,none⟩) (n+1) cap,fun i=>if i<n then K i else b,s2,f,rfl,l7.out,eH o7.out,⟨by rw[List.length_append,HN.out.1];rfl,by have:=HN.out.2;have:=HLF.out.2.2;omega⟩,fV k7.out x7.out,eI HN.out.1 HQ.out EB.out,r7.out,f7.out,b7.out,by show s2.ts.length<f;have:=HPO.out;have:=HLF.out.2.1;have:=HFL.out;omega,E.out⟩
     ·go_simp
      go_at_call 106;have HPq:=hP s _ (HR1.out.below (aH (aI (Below.refl _ _) zS)) HR1.out.lt);rw[HRES.out]at HPq;refine HPq.mono ?_;clear HPq;rintro r w2 ⟨vv,rfl,⟨b,rfl,xb,eb⟩,h2,f2⟩;have BA:Below w1.heap.size w1 _:=(aH (aI (Below.refl _ _) zS));have HS2:=aF BA.size f2.size;have q0:=HB01.out.below BA HB01.out.lt;have q1:=HBL1.out.below BA HBL1.out.lt;have HB02:=Hj (f2.blk q0 q0.lt (aO HB.out.2.1));have HBL2:=Hj (f2.blk q1 q1.lt (aO HB.out.1));have HOW2:=Hj (pG (bE HOW1.out BA) f2 (fun k hk (x:k=R)=>by have:=HW.out.1;have:=HB.out.2.1;omega));have HK2:=Hj (fun i hi=>((HK1.out i hi).bel BA).fx f2 (aQ (fun x=>Nat.lt_asymm x.1 HB.out.1)));have HF2:=Hj (aJ (aZ HF1.out BA) (f2.mono (Y:=Two R bl) (aD _) (fun k _ x=>.inl x)));have HR2:=Hj h2;have EB:=Hj eb;have HX2:=Hj (xb.imp (D':=Dv bl (.slice A n cp)) (fun k _ (x:_≤k)=>⟨aE q1.lt x,fun e=>Nat.lt_irrefl _ (aE (dS (bE HOW1.out BA) e).2 x)⟩));have ZB2:=Hj (f2.blk (Blk.drew (Blk.new w1 48 (aS cG aP).toArray)) (Blk.drew (Blk.new w1 48 (aS cG aP).toArray)).lt (fun(x:w1.heap.size=R)=>by have:=HR1.out.lt;omega))
      refine hK.out _ _ (Blk.cell (HB02.out.below (Below.refl _ _) HB02.out.lt) 0) ?_;clear hK K' q0 q1 BA xb eb h2 f2;try simp only[Act.put,aA,aC,aB]
      refine aN.act rfl (by rfl) (fun K' hK=>?_);have ml:=HBL2.out.cell 0;change _=some (Value.slice A n cp)at ml;have mlt:=HBL2.out.lt;go_simp;refine hK.out _ _ (Blk.cell (HB02.out.below (Below.refl _ _) HB02.out.lt) 0) ?_;clear hK K' ml mlt;try simp only[Act.put,aA,aC,aB]
      refine aN.take (v:=?_) rfl (by rfl) ?_ ?_;rotate_left
      ·(intro w' hSw;(try dsimp only at hSw);go_simp<;>with_reducible rfl)
      try simp only[Act.put,aA,aC,aB]
      have BQ:Below w2.heap.size w2 _:=(Below.refl _ _);have ZBq:Blk _ (w1.heap.size) 48 (aS cG aP).toArray:=(ZB2.out.below BQ ZB2.out.lt);have OWq:=bE HOW2.out BQ;have LN:n+1≤201:=by have:=HN.out.2;have:=HNS.out;omega
      refine aN.act rfl (by rfl) (fun K' hK=>?_);refine cW _ _ _ 23 rfl w.heap.size 48 i0 (.agg (aS cG aP).toArray) 15 184 Tryz.underlying23 HI.out HZ0.out HZ1.out HZ2.out rfl (by decide) (.slice A n cp) n _ rfl OWq ⟨w1.heap.size,0,none⟩ 1 1 (aS cG aP) rfl rfl (fun j u hu=>by rw[Addr.add_mid,Nat.zero_add];exact(ZBq.cell j).trans (by rw[List.getElem?_toArray];exact hu)) (by simp[aS,Value.oneCell']) (aF LN (by unfold maxLen;decide)) (by omega) (aF HF2.out.size BQ.size) ?_;intro v' w5 own5 gr5 mv5;obtain⟨g,cap,rfl,hgB⟩:=iI own5 (Nat.succ_pos n);have HX5:=Hj (iY gr5 mv5 (HX2.out.bel BQ));have HK5:=Hj (fun i hi=>iY gr5 mv5 ((HK2.out i hi).bel BQ));have HB05:=Hj (eX gr5 OWq (HB02.out.below BQ HB02.out.lt) HW.out.1);have HBL5:=Hj (eX gr5 OWq (HBL2.out.below BQ HBL2.out.lt) HW.out.2);have HR5:=Hj (kN gr5 OWq (HR2.out.below BQ HR2.out.lt) (Nat.lt_trans HB.out.1 HW.out.2));have HF5:=Hj (nP gr5 OWq (aZ HF2.out BQ));have OW5:=Hj own5;have HGB:=Hj hgB;refine hK.out _ _ (HB05.out.cell 0) ?_;clear hK K' own5 gr5 mv5 OWq ZBq BQ hgB;try simp only[Act.put,aA,aC,aB]
      have i1:(0:Int)≤(n:Int):=by omega
      have i2:(n:Int)<(n:Int)+1:=by omega
      have i3:n<n+1:=Nat.lt_succ_self n;refine aN.take (v:=?_) rfl (by rfl) ?_ ?_;rotate_left
      ·(intro w' hSw;(try dsimp only at hSw);go_simp<;>with_reducible rfl)
      try simp only[Act.put,aA,aC,aB]
      refine⟨bF rfl (by rfl) (fun K' hK=>?_),bF rfl (by rfl) (fun K' hK=>?_)⟩
      ·refine wp_store_mid 48 _ _ rfl g (n*15) (aS b.h b.e.h).toArray rfl rfl (fun j hj=>iX OW5.out (bW K n) rfl hj) (by kernel_rfl) (by simp[aS,Value.oneCell']) ?_
       refine hK.out _ _ (Blk.cell ((cB g (aS b.h b.e.h) (n*15) w5).blk HB05.out (Nat.ne_of_lt (aE HW.out.1 HGB.out))) 0) ?_;clear hK K';try simp only[Act.put]
       have W6:=cB g (aS b.h b.e.h) (n*15) w5;have l6:=W6.blk HBL5.out (Nat.ne_of_lt (aE HW.out.2 HGB.out));have b6:=W6.blk HB05.out (Nat.ne_of_lt (aE HW.out.1 HGB.out));have o6:=fU OW5.out (bW K n) rfl (vs:=aS b.h b.e.h) rfl;have x6:=HX5.out.fx W6.1 (aQ (fun x=>x.2 rfl));have k6:=fun i hi=>(HK5.out i hi).fx W6.1 (aQ (fun x=>x.2 rfl));have r6:=W6.rdr HR5.out (Nat.lt_trans HB.out.1 (aE HW.out.2 HGB.out));have f6:=W6.fx HF5.out HGB.out;change aN _ _ _ _ _ _ (w5.setCells g (n*15) (aS b.h b.e.h));generalize w5.setCells g (n*15) (aS b.h b.e.h)=w6 at *;clear W6;refine aN.act rfl (by rfl) (fun K' hK=>?_);have m6:=l6.cell 0;change _=some (Value.slice A n cp)at m6;have z6:=l6.frozen 0;go_simp;refine hK.out _ _ (Blk.cell (b6.far (p:=⟨bl,0,none⟩) HB.out.2.2 _) 0) ?_;clear hK K' m6 z6;try simp only[Act.put]
       refine aN.done ?_;have o7:=Hj (ownsRow_setCell_below o6 (a:=⟨bl,0,none⟩) HW.out.2 (.slice (some ⟨g,0,none⟩) (n+1) cap));have l7:Hid (Blk (w6.setCell ⟨bl,0,none⟩ (.slice (some ⟨g,0,none⟩) (n+1) cap)) bl 23 #[.slice (some ⟨g,0,none⟩) (n+1) cap]):=l6.set_ 0 _;have b7:=Hj (b6.far (p:=⟨bl,0,none⟩) HB.out.2.2 (.slice (some ⟨g,0,none⟩) (n+1) cap));have x7:=Hj (x6.set (p:=⟨bl,0,none⟩) (fun x=>Nat.lt_irrefl _ x.1) (.slice (some ⟨g,0,none⟩) (n+1) cap));have k7:=Hj (fun i hi=>(k6 i hi).set (p:=⟨bl,0,none⟩) (fun x=>Nat.lt_irrefl _ x.1) (.slice (some ⟨g,0,none⟩) (n+1) cap));have r7:=Hj (r6.set (p:=⟨bl,0,none⟩) HB.out.1 (.slice (some ⟨g,0,none⟩) (n+1) cap));have f7:=Hj (bJ f6 (p:=⟨bl,0,none⟩) (.inl (.inr rfl)) (.slice (some ⟨g,0,none⟩) (n+1) cap));clear o6 l6 b6 x6 k6 r6 f6 OW5 HBL5 HB05 HX5 HK5 HR5 HF5;go_wp2_with fail
       go_roundg s2.ts.length
       case measure=>have:=HPO.out;have:=HLF.out.2.1;have:=HGK.out;omega
       case rel=>exact⟨l++[x],n+1,.slice (some ⟨g,0,none⟩) (n+1) cap,fun i=>if i<n then K i else b,s2,f,rfl,l7.out,eH o7.out,⟨by rw[List.length_append,HN.out.1];rfl,by have:=HN.out.2;have:=HLF.out.2.2;omega⟩,fV k7.out x7.out,eI HN.out.1 HQ.out EB.out,r7.out,f7.out,b7.out,by show s2.ts.length<f;have:=HPO.out;have:=HLF.out.2.1;have:=HFL.out;omega,E.out⟩
      ·have m6:=HBL5.out.cell 0
       change _=some (Value.slice A n cp)at m6;have z6:=HBL5.out.frozen 0;go_simp;have o6:=ownsRow_setCell_below OW5.out (a:=⟨bl,0,none⟩) HW.out.2 (.slice (some ⟨g,0,none⟩) (n+1) cap);have l6:Blk (w5.setCell ⟨bl,0,none⟩ (.slice (some ⟨g,0,none⟩) (n+1) cap)) bl 23 #[.slice (some ⟨g,0,none⟩) (n+1) cap]:=HBL5.out.set_ 0 _;have b6:=HB05.out.far (p:=⟨bl,0,none⟩) HB.out.2.2 (.slice (some ⟨g,0,none⟩) (n+1) cap);have x6:=HX5.out.set (p:=⟨bl,0,none⟩) (fun x=>Nat.lt_irrefl _ x.1) (.slice (some ⟨g,0,none⟩) (n+1) cap);have k6:=fun i hi=>(HK5.out i hi).set (p:=⟨bl,0,none⟩) (fun x=>Nat.lt_irrefl _ x.1) (.slice (some ⟨g,0,none⟩) (n+1) cap);have r6:=HR5.out.set (p:=⟨bl,0,none⟩) HB.out.1 (.slice (some ⟨g,0,none⟩) (n+1) cap);have f6:=bJ HF5.out (p:=⟨bl,0,none⟩) (.inl (.inr rfl)) (.slice (some ⟨g,0,none⟩) (n+1) cap);refine hK.out _ _ (b6.cell 0) ?_;clear hK K' m6 z6;try simp only[Act.put]
       change aN _ _ _ _ _ _ (w5.setCell ⟨bl,0,none⟩ (.slice (some ⟨g,0,none⟩) (n+1) cap));generalize (w5.setCell ⟨bl,0,none⟩ (.slice (some ⟨g,0,none⟩) (n+1) cap))=w6 at *;clear OW5 HBL5 HB05 HX5 HK5 HR5 HF5;refine aN.act rfl (by rfl) (fun K' hK=>?_);refine wp_store_mid 48 _ _ rfl g (n*15) (aS b.h b.e.h).toArray rfl rfl (fun j hj=>iX o6 (bW K n) rfl hj) (by kernel_rfl) (by simp[aS,Value.oneCell']) ?_;have W7:=cB g (aS b.h b.e.h) (n*15) w6;have l7:=Hj (W7.blk l6 (Nat.ne_of_lt (aE HW.out.2 HGB.out)));have b7:=Hj (W7.blk b6 (Nat.ne_of_lt (aE HW.out.1 HGB.out)));have o7:=Hj (fU o6 (bW K n) rfl (vs:=aS b.h b.e.h) rfl);have x7:=Hj (x6.fx W7.1 (aQ (fun x=>x.2 rfl)));have k7:=Hj (fun i hi=>(k6 i hi).fx W7.1 (aQ (fun x=>x.2 rfl)));have r7:=Hj (W7.rdr r6 (Nat.lt_trans HB.out.1 (aE HW.out.2 HGB.out)));have f7:=Hj (W7.fx f6 HGB.out);refine hK.out _ _ (b7.out.cell 0) ?_;clear hK K' W7 o6 l6 b6 x6 k6 r6 f6;try simp only[Act.put]
       refine aN.done ?_;go_wp2_with fail
       go_roundg s2.ts.length
       case measure=>have:=HPO.out;have:=HLF.out.2.1;have:=HGK.out;omega
       case rel=>exact⟨l++[x],n+1,.slice (some ⟨g,0,none⟩) (n+1) cap,fun i=>if i<n then K i else b,s2,f,rfl,l7.out,eH o7.out,⟨by rw[List.length_append,HN.out.1];rfl,by have:=HN.out.2;have:=HLF.out.2.2;omega⟩,fV k7.out x7.out,eI HN.out.1 HQ.out EB.out,r7.out,f7.out,b7.out,by show s2.ts.length<f;have:=HPO.out;have:=HLF.out.2.1;have:=HFL.out;omega,E.out⟩
end Go.Proofs.YtkbicfffokegeaaGreatDoor
