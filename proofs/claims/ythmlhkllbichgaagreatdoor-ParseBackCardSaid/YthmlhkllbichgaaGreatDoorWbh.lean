/-
  ParseBack holds, tied to the program's text. (part 34 of 41) Conditions: none beside what the card ties.
-/
import Derived.Test.YthmlhkllbichgaaGreatDoorWbg
namespace Go.Proofs.YthmlhkllbichgaaGreatDoor
set_option maxHeartbeats 16000000
open Go.RowKit
set_option maxRecDepth 100000
theorem Ex.same_wt {e:Ex}:∀ {f:Ex},e.same f=true→e.wt=f.wt:=by
 induction e using Ex.ind with
 | H e ih=>
  intro f h
  obtain⟨-, -, -, -,h5,h6,h7⟩:=Ex.same_iff.1 h
  rw[Ex.wt_eq e,Ex.wt_eq f,h5,←h6,sm_congr fun i hi=>ih i hi (h7 i hi)]
theorem St.same_wt {s:St}:∀ {r:St},s.same r=true→s.wt=r.wt:=by
 induction s using St.ind with
 | H s it il=>
  intro r h
  obtain⟨⟨-,h2, -, -,h5,h6⟩,h7,⟨h8,h9⟩,h10,h11⟩:=St.same_iff.1 h
  rw[St.wt_eq s,St.wt_eq r,h2,←h5,←h6,←h8,Ex.same_wt h7,sm_congr fun i hi=>Ex.same_wt (h9 i hi),sm_congr fun i hi=>it i hi (h10 i hi),sm_congr fun i hi=>il i hi (h11 i hi)]
theorem De.same_wt {a b:De}(h:a.same b=true):a.wt=b.wt:=by
 obtain⟨-,h2, -, -, -,h6,h7⟩:=De.same_iff.1 h
 unfold De.wt
 rw[h2,Ex.same_wt h6,Ex.same_wt h7]
theorem Pr.same_wt {p q:Pr}(h:p.same q=true):p.wt=q.wt:=by
 obtain⟨-,h2,h3,h4⟩:=Pr.same_iff.1 h
 rw[sameD_iff]at h2
 rw[sameS_iff]at h3 h4
 unfold Pr.wt
 rw[←h2.1,←h3.1,←h4.1,sm_congr fun i hi=>De.same_wt (h2.2 i hi),sm_congr fun i hi=>St.same_wt (h3.2 i hi),sm_congr fun i hi=>St.same_wt (h4.2 i hi)]
theorem wf_k {e:Ex}(h:e.wf){i:Nat}(hi:i<e.h.s.n):(e.k i).wf:=by
 refine⟨h.1.ki hi,?_⟩
 have:=(Ex.same_iff.1 h.2).2.2.2.2.2.2 i hi
 rwa [Ex.bare_k]at this
theorem wf_nm {e:Ex}(h:e.wf):e.h.nm.length≤32:=by
 have h5:=(Ex.same_iff.1 h.2).2.2.2.2.1
 rw[Ex.bare_h]at h5
 have h5:e.h.nm=if e.h.op=4 then e.h.nm else[]:=h5
 by_cases c:e.h.op=4
 ·cases h.1.hd with
  | nam _ _ hm=>exact hm.le
  | bin=>omega
  | neg=>omega
  | fn=>omega
  | int=>omega
  | flt=>omega
  | boo=>omega
 ·rw[if_neg c]at h5
  rw[h5]
  exact Nat.zero_le _
theorem wt_cnt (e:Ex):e.wf→e.wt≤33*e.cnt:=by
 induction e using Ex.ind with
 | H e ih=>
  intro h
  have h1:=wf_nm h
  have h2:=sm_mono (f:=fun i=>(e.k i).wt) (g:=fun i=>(e.k i).cnt*33) (n:=e.h.s.n) fun i hi=>by have:=ih i hi (wf_k h hi);omega
  rw[sm_mul]at h2
  rw[Ex.wt_eq,Ex.cnt_eq]
  omega
theorem St.wf_wt (s:St):s.wf→s.wt≤34*s.cs+33*s.ce:=by
 induction s using St.ind with
 | H s it il=>
  cases s with
  | no=>exact fun h=>h.elim
  | mk h x e t l=>
   rintro⟨hk,ht,hl⟩
   have a:=sm_mono (f:=fun i=>(t i).wt) (g:=fun i=>(t i).cs*34+(t i).ce*33) (n:=h.ts.n) fun i hi=>by have:=it i hi (ht i hi);have:(t i).wt≤34*(t i).cs+33*(t i).ce:=this;omega
   have b:=sm_mono (f:=fun i=>(l i).wt) (g:=fun i=>(l i).cs*34+(l i).ce*33) (n:=h.es.n) fun i hi=>by have:=il i hi (hl i hi);have:(l i).wt≤34*(l i).cs+33*(l i).ce:=this;omega
   have add:∀(f g:Nat→Nat) n,sm (fun i=>f i*34+g i*33) n=sm f n*34+sm g n*33:=fun f g n=>by
    induction n with
    | zero=>rfl
    | succ n ih=>simp only[sm];rw[ih];omega
   rw[add]at a b
   have ew:(St.mk h x e t l).wt=1+h.nm.length+sm (fun i=>(x i).wt) h.xs.n+e.wt+sm (fun i=>(t i).wt) h.ts.n+sm (fun i=>(l i).wt) h.es.n:=rfl
   have ec:(St.mk h x e t l).cs=1+sm (fun i=>(t i).cs) h.ts.n+sm (fun i=>(l i).cs) h.es.n:=rfl
   have ee:(St.mk h x e t l).ce=sm (fun i=>(x i).cnt) h.xs.n+(if h.kd=1∨h.kd=2 then e.cnt else 0)+sm (fun i=>(t i).ce) h.ts.n+sm (fun i=>(l i).ce) h.es.n:=rfl
   generalize (St.mk h x e t l).wt=WT at *
   generalize (St.mk h x e t l).cs=CS at *
   generalize (St.mk h x e t l).ce=CE at *
   rcases hk with⟨k1,k2,k3,k4,k5, -⟩|⟨k1,k2,k3,k4, -⟩|⟨k1,k2,k3,k4, -⟩
   ·rw[if_pos (.inl k1)]at ee
    have c:=sm_mono (f:=fun i=>(x i).wt) (g:=fun i=>(x i).cnt*33) (n:=h.xs.n) fun i hi=>by have:=wt_cnt (x i) (k4 i hi);omega
    rw[sm_mul]at c
    have:=wt_cnt e k5
    have:=k2.le
    omega
   ·rw[if_pos (.inr k1)]at ee
    have:=wt_cnt e k4
    rw[k2,k3]at ew
    rw[k3]at ee
    simp only[sm,List.length_nil]at ew ee
    omega
   ·rw[if_neg (by omega)]at ee
    rw[k3,k4]at ew
    rw[k3]at ee
    have hw:(Ex.no).wt=1:=rfl
    simp only[sm]at ew ee
    have:=k2.le
    omega
theorem num_wt {e:Ex}(h:NumX e):e.wt=1:=by
 rcases h with⟨_,_,rfl,_⟩|⟨_,_,_,rfl,_⟩<;>rfl
theorem De.wf_wt {d:De}(h:d.wf):d.wt≤35:=by
 unfold De.wt
 have:=h.nm.le
 cases hr:d.rg with
 | true=>
  obtain⟨-,h1,h2, -⟩:=h.r1 hr
  rw[num_wt h1,num_wt h2]
  omega
 | false=>
  obtain⟨h1,h2, -⟩:=h.r0 hr
  rw[h1,h2]
  show 1+d.nm.length+1+1≤35
  omega
theorem sm_const {f:Nat→Nat}{c n:Nat}(h:∀i,i<n→f i≤c):sm f n≤c*n:=by
 induction n with
 | zero=>simp[sm]
 | succ n ih=>have:=ih fun i hi=>h i (by omega);have:=h n (by omega);simp only[sm];rw[Nat.mul_succ];omega
theorem sm_lin {f a b:Nat→Nat}{c d n:Nat}(h:∀i,i<n→f i≤c*a i+d*b i):sm f n≤c*sm a n+d*sm b n:=by
 induction n with
 | zero=>simp[sm]
 | succ n ih=>
  have h1:=ih fun i hi=>h i (by omega)
  have h2:=h n (by omega)
  simp only[sm,Nat.mul_add]
  omega
theorem Pr.wf_wt {p:Pr}(h:PrWf p):p.wt≤90000:=by
 have a:=sm_const (f:=fun i=>(p.d i).wt) (n:=p.ds.n) fun i hi=>De.wf_wt (h.d i hi)
 have b:=sm_lin (f:=fun i=>(p.i i).wt) (a:=fun i=>(p.i i).cs) (b:=fun i=>(p.i i).ce) (n:=p.is.n) fun i hi=>St.wf_wt _ (h.i i hi)
 have c:=sm_lin (f:=fun i=>(p.s i).wt) (a:=fun i=>(p.s i).cs) (b:=fun i=>(p.s i).ce) (n:=p.ss.n) fun i hi=>St.wf_wt _ (h.s i hi)
 have hd:=h.dn
 have hs:=h.cs
 have he:=h.ce
 unfold Pr.cs at hs
 unfold Pr.ce at he
 unfold Pr.wt
 omega
theorem txt_cnt {e:Ex}(h:e.wf):(e.txt prT).length≤900*e.cnt:=by
 have h1:=txt_bd e h.1
 have h2:=wt_cnt e h
 have h3:1≤e.cnt:=by rw[Ex.cnt_eq];omega
 omega
theorem tabs_len (d:Nat):(tabs d).length=d:=List.length_replicate
theorem name_len {nm:List UInt8}(hm:NmOk nm){x:Nat→Ex}{n:Nat}(hn:n≤1)(hx:∀i,i<n→(x i).wf):(nameT nm n (if 0<n then(x 0).txt prT else[])).length≤34+900*sm (fun i=>(x i).cnt) n:=by
 have:=hm.le
 unfold nameT
 by_cases c:0<n
 ·obtain rfl:n=1:=by omega
  have h1:=txt_cnt (hx 0 c)
  have h2:sm (fun i=>(x i).cnt) 1=(x 0).cnt:=by simp[sm]
  rw[h2]
  simp only[if_pos c,List.length_append,List.length_cons,List.length_nil]
  omega
 ·simp only[if_neg c,List.length_append,List.length_nil]
  omega
theorem St.wf_txt (s:St):s.wf→∀d,d+s.cs≤1000→(s.txt prT d).length≤5000*s.cs+900*s.ce:=by
 induction s using St.ind with
 | H s it il=>
  cases s with
  | no=>exact fun h=>h.elim
  | mk h x e t l=>
   rintro⟨hk,ht,hl⟩ d hd
   have ec:(St.mk h x e t l).cs=1+sm (fun i=>(t i).cs) h.ts.n+sm (fun i=>(l i).cs) h.es.n:=rfl
   have ee:(St.mk h x e t l).ce=sm (fun i=>(x i).cnt) h.xs.n+(if h.kd=1∨h.kd=2 then e.cnt else 0)+sm (fun i=>(t i).ce) h.ts.n+sm (fun i=>(l i).ce) h.es.n:=rfl
   generalize (St.mk h x e t l).cs=CS at *
   generalize (St.mk h x e t l).ce=CE at *
   have a:(cat (fun i=>(t i).txt prT (d+1)) h.ts.n).length≤5000*sm (fun i=>(t i).cs) h.ts.n+900*sm (fun i=>(t i).ce) h.ts.n:=by
    rw[cat_len]
    refine sm_lin fun i hi=>it i hi (ht i hi) (d+1) ?_
    have:=sm_one (f:=fun i=>(t i).cs) hi
    have h2:(fun i=>(t i).cs) i=(t i).cs:=rfl
    show d+1+(t i).cs≤1000
    omega
   have b:(cat (fun i=>(l i).txt prT (d+1)) h.es.n).length≤5000*sm (fun i=>(l i).cs) h.es.n+900*sm (fun i=>(l i).ce) h.es.n:=by
    rw[cat_len]
    refine sm_lin fun i hi=>il i hi (hl i hi) (d+1) ?_
    have:=sm_one (f:=fun i=>(l i).cs) hi
    have h2:(fun i=>(l i).cs) i=(l i).cs:=rfl
    show d+1+(l i).cs≤1000
    omega
   have tb:=tabs_len d
   show(lineT h d (if 0<h.xs.n then(x 0).txt prT else[]) (e.txt prT) (cat (fun i=>(t i).txt prT (d+1)) h.ts.n) (cat (fun i=>(l i).txt prT (d+1)) h.es.n)).length≤_
   generalize cat (fun i=>(t i).txt prT (d+1)) h.ts.n=T at *
   generalize cat (fun i=>(l i).txt prT (d+1)) h.es.n=L at *
   unfold lineT
   rcases hk with⟨k1,k2,k3,k4,k5, -⟩|⟨k1,k2,k3,k4, -⟩|⟨k1,k2,k3,k4,k5,k6, -⟩
   ·rw[if_pos (.inl k1)]at ee
    rw[if_pos k1]
    have c:=name_len k2 k3 k4
    have f:=txt_cnt k5
    simp only[List.length_append,List.length_cons,List.length_nil]
    omega
   ·rw[if_pos (.inr k1)]at ee
    rw[if_neg (by omega),if_pos k1]
    have f:=txt_cnt k4
    have g:(if 0<h.es.n then[32,101,108,115,101,32,123,10]++L++tabs d++[125] else[]).length≤9+L.length+d:=by
     split
     ·simp only[List.length_append,List.length_cons,List.length_nil];omega
     ·exact Nat.zero_le _
    simp only[List.length_append,List.length_cons,List.length_nil]
    omega
   ·rw[if_neg (by omega)]at ee
    rw[if_neg (by omega),if_neg (by omega),if_pos k1]
    have:=k2.le
    have:=itoa_len (n:=h.lo) (by have:=k5.1;omega) (by have:=k5.2;omega)
    have:=itoa_len (n:=h.hi) (by have:=k6.1;omega) (by have:=k6.2;omega)
    simp only[List.length_append,List.length_cons,List.length_nil]
    omega
theorem num_len {e:Ex}(h:NumX e):(e.txt prT).length≤30:=by
 rcases h with⟨_,n,rfl,h1,h2⟩|⟨_,m,g,rfl,h0,h1⟩
 ·have:=itoa_len (n:=n) (by omega) (by omega)
  show(Lib.itoa n).length≤30
  omega
 ·exact prT_len (neF_is (m:=m) h0 h1).1
theorem De.wf_txt {d:De}(h:d.wf):(d.txt prT).length≤300:=by
 unfold De.txt
 have h1:=h.nm.le
 have a:(if d.inp then[105,110,112,117,116,32] else[118,97,114,32]:List UInt8).length≤6:=by cases d.inp<;>decide
 have b:(typT d.ty).length≤5:=by rcases h.ty with e|e|e<;>rw[e]<;>decide
 have c:(if 0<d.len then[91]++Lib.itoa d.len++[93] else[]).length≤23:=by
  split
  ·have hb:d.len≤2147483647:=by
    cases hr:d.rg with
    | true=>have:=(h.r1 hr).2.2.2;omega
    | false=>exact(h.r0 hr).2.2.2.1
   have:=itoa_len (n:=d.len) (by omega) (by omega)
   simp only[List.length_append,List.length_cons,List.length_nil]
   omega
  ·exact Nat.zero_le _
 have e:(if d.rg then[32,105,110,32,91]++d.lo.txt prT++[44,32]++d.hi.txt prT++[93] else[]).length≤68:=by
  cases hr:d.rg with
  | true=>
   obtain⟨-,h2,h3, -⟩:=h.r1 hr
   have:=num_len h2
   have:=num_len h3
   rw[if_pos rfl]
   simp only[List.length_append,List.length_cons,List.length_nil]
   omega
  | false=>exact Nat.zero_le _
 simp only[List.length_append,List.length_cons,List.length_nil]at a c e ⊢
 omega
theorem Pr.wf_txt {p:Pr}(h:PrWf p):(p.txt prT).length≤140737488355328:=by
 have hd:=h.dn
 have hs:=h.cs
 have he:=h.ce
 unfold Pr.cs at hs
 unfold Pr.ce at he
 have a:=sm_const (f:=fun i=>((p.d i).txt prT).length) (n:=p.ds.n) fun i hi=>De.wf_txt (h.d i hi)
 have one:∀(x:Nat→St) n,sm (fun i=>(x i).cs) n≤200→∀i,i<n→1+(x i).cs≤1000:=fun x n hn i hi=>by
  have:=sm_one (f:=fun i=>(x i).cs) hi
  have h2:(fun i=>(x i).cs) i=(x i).cs:=rfl
  omega
 have b:=sm_lin (f:=fun i=>((p.i i).txt prT 1).length) (a:=fun i=>(p.i i).cs) (b:=fun i=>(p.i i).ce) (n:=p.is.n) fun i hi=>St.wf_txt _ (h.i i hi) 1 (one p.i p.is.n (by omega) i hi)
 have c:=sm_lin (f:=fun i=>((p.s i).txt prT 1).length) (a:=fun i=>(p.s i).cs) (b:=fun i=>(p.s i).ce) (n:=p.ss.n) fun i hi=>St.wf_txt _ (h.s i hi) 1 (one p.s p.ss.n (by omega) i hi)
 have t:=itoa_len (n:=p.ticks) (by have:=h.tk.1;omega) (by have:=h.tk.2;omega)
 unfold Pr.txt
 simp only[List.length_append,List.length_cons,List.length_nil,cat_len]
 omega
theorem noEx_v (L:Nat)(w:World):VX L .no zeroH.v w:=⟨.no,rfl,trivial,Ex.eqv_refl _⟩
theorem st_exW {ops:Array Oper}{rest:List Oper}{o:Oper}{a:Act}{w:World}{Q:Exit→Act→World→Prop}(e:EH)(g:Nat){old:Array Value}(hg:Blk w g 41 old)(hgd:o.guard=none)(x y:Operand)(ho:o.op=.store 41 x y)(hx:a.eval x=.pointer (some ⟨g,0,none⟩))(hy:a.eval y=e.v)(hold:old.size=7)
  (hw:∀w',Hid (Blk w' g 41 e.va)→Hid (Wr1 g w w')→wpList Tryz.prog ops Q rest (a.put o.dst undef) w'):wpList Tryz.prog ops Q (o::rest) a w:=
 st_ex e g old hg hold hgd x y ho hx hy (hw _ (hg.rowS _) (wr1_row w g _))
theorem ppExpr_top (s:ByteArray)(w:World)(hE:Env9 w):Calls Tryz.prog 13 #[.string s] w (PTop w (rsX s.data.toList) Ex.no (VX w.heap.size)):=by
 have hmf:∀(fn:Fn) (first cap:Array Value) (w:World),(Instr.makeFunc fn first cap).run Tryz.prog w=.ok (.func fn first cap) w:=fun _ _ _ _=>rfl
 have BL:Below w.heap.size w (((w.alloc zX).alloc (.cells #[.int .i64 0] 24)).alloc (.cells #[.int .i64 0] 3)):=bel_alloc (bel_alloc (bel_one w _) _) _
 have k0:Blk (((w.alloc zX).alloc (.cells #[.int .i64 0] 24)).alloc (.cells #[.int .i64 0] 3)) w.heap.size 41 zeroH.va:=((Blk.new w _ _).alloc _).alloc _
 have k1:Blk (((w.alloc zX).alloc (.cells #[.int .i64 0] 24)).alloc (.cells #[.int .i64 0] 3)) (w.heap.size+1) 24 #[.int .i64 0]:=by
  have:=(Blk.new (w.alloc zX) 24 #[.int .i64 0]).alloc (.cells #[.int .i64 0] 3)
  rw[World.size_alloc]at this
  exact this
 have k2:Blk (((w.alloc zX).alloc (.cells #[.int .i64 0] 24)).alloc (.cells #[.int .i64 0] 3)) (w.heap.size+1+1) 3 #[.int .i64 0]:=by
  have:=Blk.new ((w.alloc zX).alloc (.cells #[.int .i64 0] 24)) 3 #[.int .i64 0]
  rw[World.size_alloc,World.size_alloc]at this
  exact this
 have HBL:=Hj BL
 have HN:=Hj (ppnewReader_any s _ (hE.below BL))
 have B0:=Hj k0
 have B1:=Hj k1
 have B2:=Hj k2
 have HNE:Hid (w.heap.size≠w.heap.size+1∧w.heap.size≠w.heap.size+1+1∧w.heap.size+1≠w.heap.size+1+1):=(by show _∧_∧_;omega)
 have HLE:Hid (w.heap.size≤w.heap.size+1∧w.heap.size≤w.heap.size+1+1):=(by show _∧_;omega)
 have HRS:Hid (rsX s.data.toList=if(lexV s.data.toList).2.1=0 then oneX 24 ⟨(lexV s.data.toList).1,0,0⟩else .no (lexV s.data.toList).2.1 ((lexV s.data.toList).2.2:Nat)):=rfl
 clear BL k0 k1 k2 hE
 generalize rsX s.data.toList=Z at *
 generalize lexV s.data.toList=L at *
 go_enter_defers Tryz.func13,Tryz.ntmps13
 go_upto_region 2 with fail
 change (Code.region 2 _ _).wp _ _ _ (((w.alloc zX).alloc (.cells #[.int .i64 0] 24)).alloc (.cells #[.int .i64 0] 3))
 generalize ((w.alloc zX).alloc (.cells #[.int .i64 0] 24)).alloc (.cells #[.int .i64 0] 3)=w0 at *
 generalize w.heap.size+1+1=b2 at *
 generalize w.heap.size+1=b1 at *
 go_wp2_with fail
 refine HN.out.mono ?_
 intro e w1 hpn
 unfold PN at hpn
 clear HN
 by_cases c:L.2.1=0
 ·rw[if_pos c]at hpn
  obtain⟨R,rfl,hR,rd,hb⟩:=hpn
  have B0_1:=Hj (B0.out.below hb B0.out.lt)
  have B1_1:=Hj (B1.out.below hb B1.out.lt)
  have B2_1:=Hj (B2.out.below hb B2.out.lt)
  have HB1:=Hj (bel_trans HBL.out hb)
  have HR0:Hid (w.heap.size≠R∧b1≠R∧b2≠R∧w.heap.size≤R):=(by show _∧_∧_∧_;have:=B0.out.lt;have:=B1.out.lt;have:=B2.out.lt;omega)
  have HZ:Hid (Z=oneX 24 ⟨L.1,0,0⟩):=by show Z=_;rw[HRS.out,if_pos c]
  have HRD:=Hj rd
  clear hb c HRS HBL B0 B1 B2 rd hR
  go_wp2_with fail
  refine(ppsingle_any R _ w1 HRD.out).mono ?_
  intro e w2 hpo
  cases hres:oneX 24 ⟨L.1,0,0⟩ with
  | no c q=>
   rw[hres]at hpo
   obtain⟨rfl,f⟩:=hpo
   have E:Hid (Z=.no c q):=by show Z=_;rw[HZ.out,hres]
   have B0_2:=Hj (f.blk B0_1.out B0_1.out.lt HR0.out.1)
   have B1_2:=Hj (f.blk B1_1.out B1_1.out.lt HR0.out.2.1)
   have B2_2:=Hj (f.blk B2_1.out B2_1.out.lt HR0.out.2.2.1)
   have HB2:=Hj (fx_bel_of HB1.out f (fun k hk (x:k=R)=>by have:=HR0.out.2.2.2;omega))
   clear f hres HZ HRD B0_1 B1_1 B2_1 HB1
   go_wp2_with fail
   refine leaves_cons (f:=39) (args:=#[.pointer (some ⟨b1,0,none⟩),.pointer (some ⟨b2,0,none⟩)]) (by simp) (by simp[go_sem]) ?_
   refine(px_panicking b1 b2 0 0 c q [] w2 B1_2.out B2_2.out HNE.out.2.2).mono ?_
   rintro e u' w3 ⟨rfl,rfl,k1,k2,f3⟩
   refine⟨_,results_row3 rfl _ w3 w.heap.size 41 zeroH.va _ b1 b2 _ _ rfl rfl rfl (f3.blk B0_2.out B0_2.out.lt (fun x=>x.elim HNE.out.1 HNE.out.2.1)) Tryz.underlying41 rfl (by kernel_rfl) (ld_err k1) (ld_int k2),?_⟩
   rw[E.out]
   exact⟨_,rfl,noEx_v _ _,fx_bel_of HB2.out f3 (fun k hk x=>by have:=HLE.out;rcases x with x|x<;>omega)⟩
  | ok p s2=>
   rw[hres]at hpo
   obtain⟨v,rfl,⟨p',rfl,xp,ep⟩,h2,f⟩:=hpo
   have E:Hid (Z=.ok p s2):=by show Z=_;rw[HZ.out,hres]
   have B0_2:=Hj (f.blk B0_1.out B0_1.out.lt HR0.out.1)
   have B1_2:=Hj (f.blk B1_1.out B1_1.out.lt HR0.out.2.1)
   have B2_2:=Hj (f.blk B2_1.out B2_1.out.lt HR0.out.2.2.1)
   have HB2:=Hj (fx_bel_of HB1.out f (fun k hk (x:k=R)=>by have:=HR0.out.2.2.2;omega))
   have XP:=Hj xp
   have EP:=Hj ep
   have L1:Hid (b1<w1.heap.size∧b2<w1.heap.size∧w.heap.size<w1.heap.size):=⟨B1_1.out.lt,B2_1.out.lt,B0_1.out.lt⟩
   clear f h2 xp ep hres HZ HRD B0_1 B1_1 B2_1 HB1
   have ne12:=HNE.out.2.2
   have ne21:=Ne.symm HNE.out.2.2
   unfold EH.v
   go_wp2_with (refine st_exW p'.h w.heap.size B0_2.out rfl _ _ rfl rfl rfl rfl ?_;intro w3 B0_3 WR;have B1_3:=Hj (WR.out.blk B1_2.out (Ne.symm HNE.out.1));have B2_3:=Hj (WR.out.blk B2_2.out (Ne.symm HNE.out.2.1));have m1:=B1_3.out.cell 0;have m2:=B2_3.out.cell 0;have z1:=B1_3.out.frozen 0;have z2:=B2_3.out.frozen 0)
   have F4:=fx_set (fx_set (WR.out.1.mono (Y:=Th3 w.heap.size b1 b2) (Nat.le_refl _) (fun k _ x=>.inl x)) (p:=⟨b1,0,none⟩) (.inl (.inr (.inl rfl))) (.int .i64 0)) (p:=⟨b2,0,none⟩) (.inl (.inr (.inr rfl))) (.int .i64 0)
   have e1:Blk ((w3.setCell ⟨b1,0,none⟩ (.int .i64 0)).setCell ⟨b2,0,none⟩ (.int .i64 0)) b1 24 #[.int .i64 0]:=(B1_3.out.set_ 0 (.int .i64 0)).far (p:=⟨b2,0,none⟩) ne12 _
   have e2:Blk ((w3.setCell ⟨b1,0,none⟩ (.int .i64 0)).setCell ⟨b2,0,none⟩ (.int .i64 0)) b2 3 #[.int .i64 0]:=(B2_3.out.far (p:=⟨b1,0,none⟩) ne21 (.int .i64 0)).set_ 0 (.int .i64 0)
   have e0:Blk ((w3.setCell ⟨b1,0,none⟩ (.int .i64 0)).setCell ⟨b2,0,none⟩ (.int .i64 0)) w.heap.size 41 _:=(B0_3.out.far (p:=⟨b1,0,none⟩) HNE.out.1 (.int .i64 0)).far (p:=⟨b2,0,none⟩) HNE.out.2.1 (.int .i64 0)
   clear m1 m2 z1 z2 WR B0_2 B1_2 B2_2 B0_3 B1_3 B2_3
   generalize (w3.setCell ⟨b1,0,none⟩ (.int .i64 0)).setCell ⟨b2,0,none⟩ (.int .i64 0)=w4 at *
   refine leaves_cons (f:=39) (args:=#[.pointer (some ⟨b1,0,none⟩),.pointer (some ⟨b2,0,none⟩)]) (by simp) (by simp[go_sem]) ?_
   refine(px_idle b1 b2 w4).mono ?_
   rintro e u' w5 ⟨rfl,rfl,h5⟩
   refine⟨_,results_row3 rfl _ w5 w.heap.size 41 p'.h.va _ b1 b2 _ _ rfl rfl rfl (e0.below h5 e0.lt) Tryz.underlying41 rfl (by kernel_rfl) (ld_err (e1.below h5 e1.lt)) (ld_int (e2.below h5 e2.lt)),?_⟩
   rw[E.out]
   have hX:∀k,Th3 w.heap.size b1 b2 k→¬Fro w1.heap.size k:=fun k x (y:w1.heap.size≤k)=>by have:=L1.out;rcases x with x|x|x<;>omega
   exact⟨_,rfl,⟨p',rfl,((XP.out.fx F4 hX).bel h5).imp (fun k _ (x:w1.heap.size≤k)=>Nat.le_trans (Nat.le_of_lt L1.out.2.2) x),EP.out⟩,bel_trans (fx_bel_of HB2.out F4 (fun k hk x=>by have:=HLE.out;rcases x with x|x|x<;>omega)) h5⟩
 ·rw[if_neg c]at hpn
  obtain⟨rfl,hb⟩:=hpn
  have B0_2:=Hj (B0.out.below hb B0.out.lt)
  have B1_2:=Hj (B1.out.below hb B1.out.lt)
  have B2_2:=Hj (B2.out.below hb B2.out.lt)
  have HB2:=Hj (bel_trans HBL.out hb)
  have E:Hid (Z=.no L.2.1 (L.2.2:Nat)):=by show Z=_;rw[HRS.out,if_neg c]
  clear hb c HRS HBL B0 B1 B2
  go_wp2_with fail
  refine leaves_cons (f:=39) (args:=#[.pointer (some ⟨b1,0,none⟩),.pointer (some ⟨b2,0,none⟩)]) (by simp) (by simp[go_sem]) ?_
  refine(px_panicking b1 b2 0 0 _ _ [] w1 B1_2.out B2_2.out HNE.out.2.2).mono ?_
  rintro e u' w3 ⟨rfl,rfl,k1,k2,f3⟩
  refine⟨_,results_row3 rfl _ w3 w.heap.size 41 zeroH.va _ b1 b2 _ _ rfl rfl rfl (f3.blk B0_2.out B0_2.out.lt (fun x=>x.elim HNE.out.1 HNE.out.2.1)) Tryz.underlying41 rfl (by kernel_rfl) (ld_err k1) (ld_int k2),?_⟩
  rw[E.out]
  exact⟨_,rfl,noEx_v _ _,fx_bel_of HB2.out f3 (fun k hk x=>by have:=HLE.out;rcases x with x|x<;>omega)⟩
theorem St.eqv_hd {s:St}:∀ {r:St},s.eqv r→hsS s.h r.h=true∧r.h.ps=s.h.ps∧s.e.eqv r.e∧(s.h.xs.n=r.h.xs.n∧∀i,i<s.h.xs.n→(s.x i).eqv (r.x i))∧(∀i,i<s.h.ts.n→(s.t i).eqv (r.t i))∧∀i,i<s.h.es.n→(s.l i).eqv (r.l i):=by
 intro r h
 cases s with
 | no=>exact⟨h.1,h.2.1,h.2.2.1,⟨h.2.2.2.symm,fun i hi=>absurd hi (Nat.not_lt_zero i)⟩,fun i hi=>absurd hi (Nat.not_lt_zero i),fun i hi=>absurd hi (Nat.not_lt_zero i)⟩
 | mk=>exact h
theorem St.eqv_same {s:St}:∀ {r:St},s.eqv r→s.same r=true:=by
 induction s using St.ind with
 | H s it il=>
  intro r h
  obtain⟨h1,h2,h3,⟨h4,h5⟩,h6,h7⟩:=St.eqv_hd h
  simp only[hsS,Bool.and_eq_true,decide_eq_true_eq,beq_iff_eq]at h1
  obtain⟨⟨⟨⟨⟨g1,g2⟩,g3⟩,g4⟩,g5⟩,g6⟩:=h1
  exact St.same_iff.2 ⟨⟨g1,g2,g3,g4,g5,g6⟩,Ex.eqv_same h3,⟨h4,fun i hi=>Ex.eqv_same (h5 i hi)⟩,fun i hi=>it i hi (h6 i hi),fun i hi=>il i hi (h7 i hi)⟩
theorem De.eqv_same {a b:De}(h:a.eqv b):a.same b=true:=De.same_iff.2 ⟨h.1.2.1,h.1.2.2.1,h.1.2.2.2.1,h.1.2.2.2.2.1,h.1.2.2.2.2.2,Ex.eqv_same h.2.1,Ex.eqv_same h.2.2⟩
theorem Pr.eqv_same {p q:Pr}(h:p.eqv q):p.same q=true:=Pr.same_iff.2 ⟨h.1,sameD_iff.2 ⟨h.2.1.1,fun i hi=>De.eqv_same (h.2.1.2 i hi)⟩,sameS_iff.2 ⟨h.2.2.1.1,fun i hi=>St.eqv_same (h.2.2.1.2 i hi)⟩,sameS_iff.2 ⟨h.2.2.2.1,fun i hi=>St.eqv_same (h.2.2.2.2 i hi)⟩⟩
end Go.Proofs.YthmlhkllbichgaaGreatDoor
