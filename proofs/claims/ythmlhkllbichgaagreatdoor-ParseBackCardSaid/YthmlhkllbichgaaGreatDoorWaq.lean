/-
  ParseBack holds, tied to the program's text. (part 17 of 41) Conditions: none beside what the card ties.
-/
import Derived.Test.YthmlhkllbichgaaGreatDoorWap
namespace Go.Proofs.YthmlhkllbichgaaGreatDoor
set_option maxHeartbeats 16000000
open Go.RowKit
set_option maxRecDepth 100000
def hT (us:List Tk):Tk:=us.headD noT
theorem er_hd {s:PS}{us:List Tk}(h:s.ts.map Tk.er=us):s.hd.er=hT us:=by
 subst h
 unfold PS.hd hT
 cases s.ts<;>rfl
theorem er_tk {s:PS}{us:List Tk}(h:s.ts.map Tk.er=us):s.tk.ts.map Tk.er=us.tail:=by
 subst h
 show s.ts.tail.map Tk.er=_
 cases s.ts<;>rfl
theorem er_tx {s:PS}{us:List Tk}(h:s.ts.map Tk.er=us):s.hd.tx=(hT us).tx:=(congrArg Tk.tx (er_hd h):s.hd.er.tx=_)
theorem er_kd {s:PS}{us:List Tk}(h:s.ts.map Tk.er=us):s.hd.kd=(hT us).kd:=(congrArg Tk.kd (er_hd h):s.hd.er.kd=_)
theorem er_at {s:PS}{us:List Tk}(h:s.ts.map Tk.er=us):atT s.hd=atT (hT us):=(congrArg atT (er_hd h):atT s.hd.er=_)
def RtK {α:Type}(R:α→Prop)(c:Nat)(rest:List Tk)(s:PS)(r:Rs α):Prop:=(∃q,r=.no 111 q)∨∃e' s',r=.ok e' s'∧R e'∧s'.ts.map Tk.er=rest∧s'.ns=s.ns∧s'.nx=s.nx+c
def Rto (p:PS→Rs Ex)(e:Ex)(us rest:List Tk):Prop:=∀s:PS,s.ts.map Tk.er=us++rest→s.nx+e.cnt≤2000→RtK (fun e'=>e'.same e.bare=true) e.cnt rest s (p s)
theorem rto_pass {u:PS→Rs Ex}{m:Nat}{e:Ex}{us rest:List Tk}(h:Rto (lvl u m) e us rest)(hs:sgO (4-m) (hT rest).tx=0):Rto (lvl u (m+1)) e us rest:=fun s hu hn=>by
 rcases h s hu hn with⟨q,hq⟩|⟨e',s',h1,h2,h3,h4⟩
 ·left
  refine⟨q,?_⟩
  show(lvl u m s).bind _=_
  rw[hq];rfl
 ·right
  refine⟨e',s',?_,h2,h3,h4⟩
  have hs':sgO (4-m) s'.hd.tx=0:=by rw[er_tx h3];exact hs
  show(lvl u m s).bind _=_
  rw[h1,bind_ok]
  by_cases c:m=2
  ·subst c;rw[if_pos rfl,if_pos hs']
  ·rw[if_neg c,chain,if_pos hs']
theorem rto_up {u:PS→Rs Ex}{e:Ex}{us rest:List Tk}{j:Nat}(h:Rto (lvl u j) e us rest):∀d:Nat,(∀i,j≤i→i<j+d→sgO (4-i) (hT rest).tx=0)→Rto (lvl u (j+d)) e us rest
 | 0,_=>h
 | d+1,hs=>rto_pass (rto_up h d fun i h1 h2=>hs i h1 (by omega)) (hs (j+d) (by omega) (by omega))
theorem cnt_two {e:Ex}(h:e.h.s.n=2):e.cnt=1+(e.k 0).cnt+(e.k 1).cnt:=by
 rw[Ex.cnt_eq,h];simp only[sm];omega
theorem cnt_one {e:Ex}(h:e.h.s.n=1):e.cnt=1+(e.k 0).cnt:=by
 rw[Ex.cnt_eq,h];simp only[sm];omega
theorem cnt_nil {e:Ex}(h:e.h.s.n=0):e.cnt=1:=by
 rw[Ex.cnt_eq,h];rfl
theorem whole_is {e:Ex}{s:PS}(h:s.nx+1≤2000):whole e s=.ok e ⟨s.ts,s.ns,s.nx+1⟩:=by
 unfold whole;rw[if_neg (by omega)]
theorem same_bare {e' e:Ex}(h1:e'.h.op=e.h.op)(h2:e'.h.bo=if e.h.op=1 then e.h.bo else false)(h3:e'.h.it=if e.h.op=2 then e.h.it else 0)(h4:e'.h.fl=if e.h.op=3 then e.h.fl else 0)(h5:e'.h.nm=if e.h.op=4 then e.h.nm else[])(h6:e'.h.s.n=e.h.s.n)
  (h7:∀i,i<e.h.s.n→(e'.k i).same (e.k i).bare=true):e'.same e.bare=true:=
 Ex.same_iff.2 ⟨by rw[Ex.bare_h];exact h1,by rw[Ex.bare_h];exact h2,by rw[Ex.bare_h];exact h3,by rw[Ex.bare_h];exact h4,by rw[Ex.bare_h];exact h5,by rw[Ex.bare_h];exact h6,fun i hi=>by rw[Ex.bare_k];exact h7 i (by omega)⟩
theorem op_lv {op:Int}(h0:5≤op)(h1:op≤16):signB op≠[91]∧∃n,n≤4∧sgO n (signB op)=op∧∀j,j≤4→j≠n→sgO j (signB op)=0:=by
 have:op=5∨op=6∨op=7∨op=8∨op=9∨op=10∨op=11∨op=12∨op=13∨op=14∨op=15∨op=16:=by omega
 rcases this with rfl|rfl|rfl|rfl|rfl|rfl|rfl|rfl|rfl|rfl|rfl|rfl
 ·exact⟨by decide,3,by decide⟩
 ·exact⟨by decide,3,by decide⟩
 ·exact⟨by decide,4,by decide⟩
 ·exact⟨by decide,4,by decide⟩
 ·exact⟨by decide,2,by decide⟩
 ·exact⟨by decide,2,by decide⟩
 ·exact⟨by decide,2,by decide⟩
 ·exact⟨by decide,2,by decide⟩
 ·exact⟨by decide,2,by decide⟩
 ·exact⟨by decide,2,by decide⟩
 ·exact⟨by decide,1,by decide⟩
 ·exact⟨by decide,0,by decide⟩
theorem rto_bin {u:PS→Rs Ex}{m:Nat}{e:Ex}{ta tb rest:List Tk}(h0:5≤e.h.op)(h1:e.h.op≤16)(hn2:e.h.s.n=2)(A:Rto (lvl u m) (e.k 0) ta (tSg (signB e.h.op)::(tb++rest)))(B:Rto (lvl u m) (e.k 1) tb rest)
  (ho:sgO (4-m) (signB e.h.op)=e.h.op) (hr:sgO (4-m) (hT rest).tx=0):Rto (lvl u (m+1)) e (ta++tSg (signB e.h.op)::tb) rest:=fun s hu hn=>by
 rw[cnt_two hn2]at hn ⊢
 have hu':s.ts.map Tk.er=ta++tSg (signB e.h.op)::(tb++rest):=by rw[hu];simp
 rcases A s hu' (by omega) with⟨q,hq⟩|⟨a,s1,a1,a2,a3,a4,a5⟩
 ·left
  refine⟨q,?_⟩
  show(lvl u m s).bind _=_
  rw[hq];rfl
 have hx:s1.hd.tx=signB e.h.op:=er_tx a3
 have h9:sgO (4-m) s1.hd.tx=e.h.op:=by rw[hx];exact ho
 have h9':¬sgO (4-m) s1.hd.tx=0:=by rw[h9];omega
 have hl:∃f,s1.ts.length=f+1:=by
  have:=congrArg List.length a3
  rw[List.length_map,List.length_cons]at this
  exact⟨_,this⟩
 obtain⟨f,hf⟩:=hl
 have hbn:binr (4-m) (lvl u m) a s1=(lvl u m s1.tk).bind fun b s'=>whole (opX (sgO (4-m) s1.hd.tx) s1.hd.ps [a,b]) s':=rfl
 rcases B s1.tk (er_tk a3) (by show s1.nx+_≤_;omega) with⟨q,hq⟩|⟨b,s2,b1,b2,b3,b4,b5⟩
 ·left
  refine⟨q,?_⟩
  rw[hq,bind_no]at hbn
  show(lvl u m s).bind _=_
  rw[a1,bind_ok]
  by_cases c:m=2
  ·subst c;rw[if_pos rfl,if_neg h9'];exact hbn
  ·rw[if_neg c,chain,if_neg h9',hbn];rfl
 right
 have b5':s2.nx=s1.nx+(e.k 1).cnt:=b5
 have b4':s2.ns=s1.ns:=b4
 rw[b1,bind_ok,whole_is (by omega),h9]at hbn
 refine⟨opX e.h.op s1.hd.ps [a,b],⟨s2.ts,s2.ns,s2.nx+1⟩,?_,?_,b3,by show s2.ns=s.ns;omega,by show s2.nx+1=_;omega⟩
 ·show(lvl u m s).bind _=_
  rw[a1,bind_ok]
  by_cases c:m=2
  ·subst c;rw[if_pos rfl,if_neg h9'];exact hbn
  ·rw[if_neg c,chain,if_neg h9',hbn,bind_ok,hf,chain,if_pos]
   rw[show(⟨s2.ts,s2.ns,s2.nx+1⟩:PS).hd=s2.hd from rfl,er_tx b3]
   exact hr
 ·refine same_bare rfl ?_ ?_ ?_ ?_ hn2.symm ?_
  ·rw[if_neg (by omega)];rfl
  ·rw[if_neg (by omega)];rfl
  ·rw[if_neg (by omega)];rfl
  ·rw[if_neg (by omega)];rfl
  ·intro i hi
   rcases(show i=0∨i=1 by omega)with rfl|rfl
   ·exact a2
   ·exact b2
theorem rt_one {e:Ex}{op ps:Int}{rest:List Tk}{s s0:PS}{r:Rs Ex}(h0:17≤e.h.op)(ho:op=e.h.op)(hn:e.h.s.n=1)(hs:s0.ns=s.ns∧s0.nx=s.nx)(hx:s.nx+e.cnt≤2000)(h:RtK (fun e'=>e'.same (e.k 0).bare=true) (e.k 0).cnt rest s0 r) :
  RtK (fun e'=>e'.same e.bare=true) e.cnt rest s (r.bind fun x s'=>whole (opX op ps [x]) s'):=by
 rw[cnt_one hn]at hx ⊢
 rcases h with⟨q,rfl⟩|⟨a,s1,rfl,a2,a3,a4,a5⟩
 ·exact .inl ⟨q,rfl⟩
 ·right
  refine⟨opX op ps [a],⟨s1.ts,s1.ns,s1.nx+1⟩,?_,?_,a3,by show s1.ns=s.ns;omega,by show s1.nx+1=_;omega⟩
  ·rw[bind_ok,whole_is (by omega)]
  ·refine same_bare ho ?_ ?_ ?_ ?_ hn.symm ?_
   ·rw[if_neg (by omega)];rfl
   ·rw[if_neg (by omega)];rfl
   ·rw[if_neg (by omega)];rfl
   ·rw[if_neg (by omega)];rfl
   ·intro i hi
    obtain rfl:i=0:=by omega
    exact a2
theorem rto_un {k:Nat}{e:Ex}{x:List UInt8}{ta rest:List Tk}(h0:17≤e.h.op)(hn1:e.h.s.n=1)(hx:unT x=e.h.op)(A:∀k,Rto (unK k) (e.k 0) ta rest):Rto (unK k) e (tSg x::ta) rest:=fun s hu hn=>by
 rw[unK_eq]
 have e1:unT s.hd.tx=e.h.op:=by rw[er_tx hu];exact hx
 unfold un
 rw[if_neg (by omega),e1]
 cases k with
 | zero=>exact .inl ⟨_,rfl⟩
 | succ k=>exact rt_one h0 rfl hn1 ⟨rfl,rfl⟩ hn (A k s.tk (er_tk hu) (by rw[cnt_one hn1]at hn;show s.nx+_≤_;omega))
theorem within_to {k:Nat}{e:Ex}{o c:List UInt8}{ta rest:List Tk}(B:∀k,Rto (exK k) e ta (tSg c::rest))(s:PS)(hu:s.ts.map Tk.er=tSg o::(ta++tSg c::rest))(hn:s.nx+e.cnt≤2000) :
  RtK (fun e'=>e'.same e.bare=true) e.cnt rest s (within (dK k) o c s):=by
 unfold within
 rw[if_pos (show s.hd.tx=o from er_tx hu)]
 cases k with
 | zero=>exact .inl ⟨_,rfl⟩
 | succ k=>
  show RtK _ _ _ _ ((exK k s.tk).bind _)
  rcases B k s.tk (er_tk hu) hn with⟨q,hq⟩|⟨a,s1,a1,a2,a3,a4,a5⟩
  ·rw[hq];exact .inl ⟨q,rfl⟩
  ·right
   refine⟨a,s1.tk,?_,a2,er_tk a3,a4,a5⟩
   rw[a1,bind_ok]
   unfold expT
   rw[if_pos (show s1.hd.tx=c from er_tx a3)]
   rfl
theorem sg_41:∀n,n≤4→sgO n [41]=0:=by decide
theorem sg_93:∀n,n≤4→sgO n [93]=0:=by decide
theorem nm_not {x:List UInt8}(h:NmOk x):unT x=0∧x≠[40]:=by
 obtain⟨c,r,rfl,hc⟩:=nm_head h
 constructor
 ·unfold unT
  rw[if_neg,if_neg]
  ·intro e;cases e;exact absurd hc (by decide)
  ·intro e;cases e;exact absurd hc (by decide)
 ·intro e;cases e;exact absurd hc (by decide)
theorem rto_leaf {k:Nat}{e:Ex}{t:Tk}{rest:List Tk}(hn:e.h.s.n=0)(hu:unT t.tx=0)(_:t.tx≠[40])(h:∀s:PS,s.hd.er=t→s.nx+1≤2000→∃e',atom (dK k) s=whole e' s.tk∧e'.same e.bare=true):Rto (unK k) e [t] rest:=fun s hs hx=>by
 rw[cnt_nil hn]at hx ⊢
 rw[unK_eq]
 unfold un
 rw[if_pos (by rw[er_tx hs];exact hu)]
 obtain⟨e',h1,h2⟩:=h s (er_hd hs) hx
 rw[h1,whole_is (by exact hx)]
 exact .inr ⟨e',_,rfl,h2,er_tk hs,rfl,rfl⟩
theorem rto_main (e:Ex):e.pl→(∀k rest,(hT rest).tx≠[91]→Rto (unK k) e (brkK e.bin e.tks) rest)∧(∀k rest,(hT rest).tx≠[91]→(∀n,n≤4→sgO n (hT rest).tx=0)→Rto (exK k) e e.tks rest):=by
 induction e using Ex.ind with
 | H e ih=>
  intro hp
  have P:(e.bin=true∧∀k rest,(hT rest).tx≠[91]→(∀n,n≤4→sgO n (hT rest).tx=0)→Rto (exK k) e e.tks rest)∨(e.bin=false∧∀k rest,(hT rest).tx≠[91]→Rto (unK k) e e.tks rest):=by
   have fnB:∀x:List UInt8,e.h.s.n=1→17≤e.h.op→unT x=0→x≠[40]→atT (tWd x)=e.h.op→e.h.op=19∨e.h.op=20∨e.h.op=21→∀k rest,Rto (unK k) e (tWd x::tSg [40]::((e.k 0).tks++[tSg [41]])) rest:=fun x hn h17 hx1 hx2 hx3 hx4 k rest s hs hx=>by
    have i0:=(ih 0 (by omega) (hp.ki (by omega))).2
    rw[unK_eq]
    unfold un
    rw[if_pos (by rw[er_tx hs];exact hx1)]
    have ea:atT s.hd=e.h.op:=(er_at hs).trans hx3
    unfold atom
    rw[if_neg (by rw[er_tx hs];exact hx2),if_neg (by omega),if_neg (by omega),if_neg (by omega),if_neg (by omega),if_neg (by omega),ea]
    refine rt_one h17 rfl hn ⟨rfl,rfl⟩ hx (within_to (fun k'=>i0 k' (tSg [41]::rest) (show([41]:List UInt8)≠[91] by decide) sg_41) s.tk ?_ (by rw[cnt_one hn]at hx;show s.nx+_≤_;omega))
    rw[er_tk hs]
    simp
   cases hp.hd with
   | bin h0 h1 hn=>
    left
    have ob:opBin e.h.op=true:=by unfold opBin;exact decide_eq_true ⟨h0,h1⟩
    refine⟨ob,fun k rest hr hs=>?_⟩
    have i0:=(ih 0 (by omega) (hp.ki (by omega))).1
    have i1:=(ih 1 (by omega) (hp.ki (by omega))).1
    rw[Ex.tks_eq]
    unfold headK
    repeat rw[if_neg (show ¬e.h.op=_ by omega)]
    rw[if_pos ob,if_pos (show 0<e.h.s.n by omega),if_pos (show 1<e.h.s.n by omega)]
    obtain⟨hb,n,hn4,ho,hj⟩:=op_lv h0 h1
    have A:=rto_up (j:=0) (i0 k (tSg (signB e.h.op)::(brkK (e.k 1).bin (e.k 1).tks++rest)) hb) (4-n) (fun i _ h2=>hj _ (by omega) (by omega))
    have B:=rto_up (j:=0) (i1 k rest hr) (4-n) (fun i _ h2=>hs _ (by omega))
    rw[Nat.zero_add]at A B
    have C:=rto_bin h0 h1 hn A B (by rw[show 4-(4-n)=n by omega];exact ho) (hs _ (by omega))
    have D:=rto_up C n (fun i _ _=>hs _ (by omega))
    rw[show 4-n+1+n=5 by omega]at D
    exact D
   | neg h0 hn=>
    right
    refine⟨by unfold Ex.bin opBin;rw[decide_eq_false];omega,fun k rest hr=>?_⟩
    have i0:=(ih 0 (by omega) (hp.ki (by omega))).1
    rw[Ex.tks_eq]
    unfold headK
    rcases h0 with h0|h0
    ·simp only[h0,if_pos (show 0<e.h.s.n by omega)]
     exact rto_un (by omega) hn (by rw[h0];rfl) fun k=>i0 k rest hr
    ·simp only[h0,if_pos (show 0<e.h.s.n by omega)]
     exact rto_un (by omega) hn (by rw[h0];rfl) fun k=>i0 k rest hr
   | fn h0 hn=>
    right
    refine⟨by unfold Ex.bin opBin;rw[decide_eq_false];omega,fun k rest hr=>?_⟩
    rw[Ex.tks_eq]
    unfold headK
    rcases h0 with h0|h0|h0
    ·simp only[h0,if_pos (show 0<e.h.s.n by omega)]
     exact fnB _ hn (by omega) (by decide) (by decide) (by rw[h0];decide) (by omega) k rest
    ·simp only[h0,if_pos (show 0<e.h.s.n by omega)]
     exact fnB _ hn (by omega) (by decide) (by decide) (by rw[h0];decide) (by omega) k rest
    ·simp only[h0,if_pos (show 0<e.h.s.n by omega)]
     exact fnB _ hn (by omega) (by decide) (by decide) (by rw[h0];decide) (by omega) k rest
   | nam h0 hn hm=>
    right
    refine⟨by unfold Ex.bin opBin;rw[decide_eq_false];omega,fun k rest hr=>?_⟩
    rw[Ex.tks_eq]
    unfold headK
    simp only[h0]
    show Rto (unK k) e (nameK e.h.nm e.h.s.n _) rest
    unfold nameK
    obtain⟨m1,m2⟩:=nm_not hm
    intro s hs hx
    have hk:s.hd.kd=1:=er_kd hs
    have htx:s.hd.tx=e.h.nm:=er_tx hs
    rw[unK_eq]
    unfold un
    rw[if_pos (by rw[htx];exact m1)]
    have ea:atT s.hd=4:=by rw[er_at hs];rfl
    unfold atom
    rw[if_neg (by rw[htx];exact m2),if_neg (by omega),if_neg (by omega),if_neg (by omega),if_neg (by omega),if_pos (by omega),htx]
    by_cases c:0<e.h.s.n
    ·have i0:=(ih 0 c (hp.ki c)).2
     have hn1:e.h.s.n=1:=by omega
     rw[if_pos c,if_pos c]at hs
     have hs1:=er_tk hs
     have W:=within_to (k:=k) (o:=[91]) (c:=[93]) (rest:=rest) (fun k'=>i0 k' (tSg [93]::rest) (show([93]:List UInt8)≠[91] by decide) sg_93) s.tk (by rw[hs1];simp) (by rw[cnt_one hn1]at hx;show s.nx+_≤_;omega)
     unfold index
     rw[if_pos (show s.tk.hd.tx=[91]from er_tx hs1)]
     rw[cnt_one hn1]at hx ⊢
     rcases W with⟨q,hq⟩|⟨a,s1,a1,a2,a3,a4,a5⟩
     ·rw[hq];exact .inl ⟨q,rfl⟩
     ·right
      have a5':s1.nx=s.nx+(e.k 0).cnt:=a5
      refine⟨nmX s.hd.ps e.h.nm [a],⟨s1.ts,s1.ns,s1.nx+1⟩,?_,?_,a3,a4,by show s1.nx+1=_;omega⟩
      ·rw[a1,bind_ok,bind_ok,whole_is (by omega)]
      ·refine same_bare h0.symm ?_ ?_ ?_ ?_ hn1.symm ?_
       ·rw[if_neg (by omega)];rfl
       ·rw[if_neg (by omega)];rfl
       ·rw[if_neg (by omega)];rfl
       ·rw[if_pos h0];rfl
       ·intro i hi
        obtain rfl:i=0:=by omega
        exact a2
    ·have hn0:e.h.s.n=0:=by omega
     rw[if_neg c]at hs
     have hs1:s.tk.ts.map Tk.er=rest:=er_tk hs
     unfold index
     rw[if_neg (by rw[er_tx hs1];exact hr),bind_ok]
     rw[cnt_nil hn0]at hx ⊢
     rw[whole_is (by exact hx)]
     refine .inr ⟨_,_,rfl,?_,hs1,rfl,rfl⟩
     refine same_bare h0.symm ?_ ?_ ?_ ?_ hn0.symm (fun i hi=>by omega)
     ·rw[if_neg (by omega)];rfl
     ·rw[if_neg (by omega)];rfl
     ·rw[if_neg (by omega)];rfl
     ·rw[if_pos h0];rfl
   | int h0 hn h1 h2=>
    right
    refine⟨by unfold Ex.bin opBin;rw[decide_eq_false];omega,fun k rest hr=>?_⟩
    rw[Ex.tks_eq]
    unfold headK
    simp only[h0]
    refine rto_leaf hn rfl (by simp[tIn]) fun s hs _=>⟨inX s.hd.ps s.hd.nn,?_,?_⟩
    ·have ea:atT s.hd=2:=(congrArg atT hs).trans rfl
     have et:s.hd.tx=[]:=(congrArg Tk.tx hs).trans rfl
     unfold atom
     rw[if_neg (by rw[et];simp),if_neg (by omega),if_neg (by omega),if_pos ea]
    ·refine same_bare h0.symm ?_ ?_ ?_ ?_ hn.symm (fun i hi=>by omega)
     ·rw[if_neg (by omega)];rfl
     ·rw[if_pos h0];exact(congrArg Tk.nn hs).trans rfl
     ·rw[if_neg (by omega)];rfl
     ·rw[if_neg (by omega)];rfl
   | flt h0 hn h1 h2=>
    right
    refine⟨by unfold Ex.bin opBin;rw[decide_eq_false];omega,fun k rest hr=>?_⟩
    rw[Ex.tks_eq]
    unfold headK
    simp only[h0]
    refine rto_leaf hn rfl (by simp[tFl]) fun s hs _=>⟨flX s.hd.ps s.hd.ff,?_,?_⟩
    ·have ea:atT s.hd=3:=(congrArg atT hs).trans rfl
     have et:s.hd.tx=[]:=(congrArg Tk.tx hs).trans rfl
     unfold atom
     rw[if_neg (by rw[et];simp),if_neg (by omega),if_neg (by omega),if_neg (by omega),if_pos ea]
    ·refine same_bare h0.symm ?_ ?_ ?_ ?_ hn.symm (fun i hi=>by omega)
     ·rw[if_neg (by omega)];rfl
     ·rw[if_neg (by omega)];rfl
     ·rw[if_pos h0];exact(congrArg Tk.ff hs).trans rfl
     ·rw[if_neg (by omega)];rfl
   | boo h0 hn=>
    right
    refine⟨by unfold Ex.bin opBin;rw[decide_eq_false];omega,fun k rest hr=>?_⟩
    rw[Ex.tks_eq]
    unfold headK
    simp only[h0]
    have D:∀b:Bool,unT (tWd (if b then[116,114,117,101] else[102,97,108,115,101])).tx=0∧(tWd (if b then[116,114,117,101] else[102,97,108,115,101])).tx≠[40]∧atT (tWd (if b then[116,114,117,101] else[102,97,108,115,101]))=1∧((tWd (if b then[116,114,117,101] else[102,97,108,115,101])).tx == [116,114,117,101])=b:=by decide
    obtain⟨d1,d2,d3,d4⟩:=D e.h.bo
    refine rto_leaf hn d1 d2 fun s hs _=>⟨boX s.hd.ps (s.hd.tx == [116,114,117,101]),?_,?_⟩
    ·have ea:atT s.hd=1:=(congrArg atT hs).trans d3
     have et:s.hd.tx=(tWd (if e.h.bo then[116,114,117,101] else[102,97,108,115,101])).tx:=(congrArg Tk.tx hs:s.hd.er.tx=_)
     unfold atom
     rw[if_neg (by rw[et];exact d2),if_neg (by omega),if_pos ea]
    ·refine same_bare h0.symm ?_ ?_ ?_ ?_ hn.symm (fun i hi=>by omega)
     ·rw[if_pos h0]
      show(s.hd.tx == _)=_
      rw[show s.hd.tx=(tWd (if e.h.bo then[116,114,117,101] else[102,97,108,115,101])).tx from(congrArg Tk.tx hs:s.hd.er.tx=_)]
      exact d4
     ·rw[if_neg (by omega)];rfl
     ·rw[if_neg (by omega)];rfl
     ·rw[if_neg (by omega)];rfl
  rcases P with⟨hb,hx⟩|⟨hb,hu⟩
  ·refine⟨fun k rest hr s hs hn=>?_,hx⟩
   rw[hb]at hs
   have hs':s.ts.map Tk.er=tSg [40]::(e.tks++tSg [41]::rest):=by rw[hs];simp[brkK]
   rw[unK_eq]
   unfold un
   rw[if_pos (by rw[show s.hd.tx=[40]from er_tx hs'];decide)]
   unfold atom
   rw[if_pos (show s.hd.tx=[40]from er_tx hs')]
   exact within_to (fun k'=>hx k' (tSg [41]::rest) (show([41]:List UInt8)≠[91] by decide) sg_41) s hs' hn
  ·refine⟨fun k rest hr=>?_,fun k rest hr hs=>?_⟩
   ·rw[hb];exact hu k rest hr
   ·have:=rto_up (j:=0) (hu k rest hr) 5 (fun i _ _=>hs _ (by omega))
    exact this
end Go.Proofs.YthmlhkllbichgaaGreatDoor
