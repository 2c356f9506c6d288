/-
  Layer 12's checks answer true, whatever program is handed in. (part 25 of 35) Conditions: none beside what the card ties.
-/
import Derived.Test.YtkbicfffokegeaaGreatDoorUad
import Derived.Test.YtkbicfffokegeaaGreatDoorUax
import Derived.Deep.LoopGhost
namespace Go.Proofs.YtkbicfffokegeaaGreatDoor
set_option maxHeartbeats 16000000
open Go.RowKit
set_option maxRecDepth 100000
inductive Ck (α:Type) where
 | ok (a:α)
 | no (e p:Int)
def Ck.bind {α β:Type}(r:Ck α)(f:α→Ck β):Ck β:=
 match r with
 | .ok a=>f a
 | .no e p=>.no e p
def Ck.er {α:Type}:Ck α→Int
 | .ok _=>0
 | .no e _=>e
def Ck.pl {α:Type}:Ck α→Int
 | .ok _=>0
 | .no _ p=>p
structure Sc where
 n:Nat
 d:Nat→De
 loops:List (List UInt8)
 init:Bool
def fd (d:Nat→De)(x:List UInt8):Nat→Option Nat
 | 0=>none
 | n+1=>match fd d x n with
  | some i=>some i
  | none=>if(d n).nm=x then some n else none
theorem fd_lt {d:Nat→De}{x:List UInt8}{n i:Nat}(h:fd d x n=some i):i<n∧(d i).nm=x∧∀j,j<i→(d j).nm≠x:=by
 induction n with
 | zero=>cases h
 | succ n ih=>
  simp only[fd]at h
  cases hn:fd d x n with
  | some k=>
   rw[hn]at h;cases h;obtain⟨h1,h2,h3⟩:=ih hn;exact⟨by omega,h2,h3⟩
  | none=>
   rw[hn]at h
   by_cases c:(d n).nm=x
   ·simp only[c,if_true]at h
    cases h;refine⟨by omega,c,fun j hj e=>?_⟩;clear ih c
    have:∀m,j<m→fd d x m≠none:=by
     intro m
     induction m with
     | zero=>intro hm;omega
     | succ m im=>
      intro hm;simp only[fd]
      cases hm':fd d x m with
      | some k=>simp
      | none=>
       rcases Nat.lt_succ_iff_lt_or_eq.1 hm with h4|rfl
       ·exact absurd hm' (im h4)
       ·simp[e]
    exact this _ hj hn
   ·simp[c]at h
def Sc.find (S:Sc)(x:List UInt8):Option Nat:=fd S.d x S.n
def numT (t:Int):Bool:=t == 2 || t == 3
def resT (op:Int):List Int→Int
 | []=>if op=1 then 1 else if op=2 then 2 else if op=3 then 3 else 0
 | [a]=>if(op=17∨op=21)∧numT a=true then a else if op=18∧a=1 then 1 else if op=19∧a=3 then 2 else if op=20∧a=2 then 3 else 0
 | [a,b]=>if b≠a then 0 else if(5≤op∧op≤8)∧numT a=true then a else if(op=9∨op=10∨op=13∨op=14)∧numT a=true then 1 else if op=11∨op=12 then 1 else if(op=15∨op=16)∧a=1 then 1 else 0
 | _=>0
def cks (f:Nat→Ck Int):Nat→Ck (List Int)
 | 0=>.ok []
 | n+1=>(cks f n).bind fun l=>(f n).bind fun t=>.ok (l++[t])
def finF (f:Int):Bool:=decide (f % 9223372036854775808<9218868437227405312)
def Sc.look (S:Sc)(x:List UInt8)(p:Int):Ck (Int×Int):=
 if x∈S.loops then .ok (2,0) else
 match S.find x with
 | none=>.no 120 p
 | some i=>if S.init=true∧(S.d i).inp=true then .no 124 p else .ok ((S.d i).ty,(S.d i).len)
def opsC (t long:Int)(n:Nat)(p:Int)(a:Ck Int):Ck Int:=
 if 0<long then(if n=1 then a.bind fun u=>if u=2 then .ok t else .no 122 p else .no 125 p)
 else if n=0 then .ok t else .no 125 p
def Ex.ck (S:Sc):Ex→Ck Int
 | .no=>.no 122 0
 | .mk h k=>
  if h.op=4 then(S.look h.nm h.ps).bind fun tl=>opsC tl.1 tl.2 h.s.n h.ps ((k 0).ck S)
  else(cks (fun i=>(k i).ck S) h.s.n).bind fun l=>if resT h.op l=0 then .no 122 h.ps else if h.op=3∧finF h.fl=false then .no 123 h.ps else .ok (resT h.op l)
theorem Ex.ck_eq (S:Sc)(e:Ex):e.ck S=if e.h.op=4 then(S.look e.h.nm e.h.ps).bind fun tl=>opsC tl.1 tl.2 e.h.s.n e.h.ps ((e.k 0).ck S)
  else(cks (fun i=>(e.k i).ck S) e.h.s.n).bind fun l=>if resT e.h.op l=0 then .no 122 e.h.ps else if e.h.op=3∧finF e.h.fl=false then .no 123 e.h.ps else .ok (resT e.h.op l):=by
 cases e with
 | no=>simp[Ex.ck,Ex.h,zeroH,cks,Ck.bind,resT]
 | mk h k=>rfl
def seqC (f:Nat→Ck Unit):Nat→Ck Unit
 | 0=>.ok ()
 | n+1=>(seqC f n).bind fun _=>f n
def Sc.inner (S:Sc)(x:List UInt8):Sc:=⟨S.n,S.d,S.loops++[x],S.init⟩
def wantC (c:Bool)(e p:Int):Ck Unit:=if c then .ok ()else .no e p
def asgC (S:Sc)(h:SH)(x:Nat→Ex)(e:Ex):Ck Unit:=
 if h.nm∈S.loops then .no 124 h.ps else
 match S.find h.nm with
 | none=>.no 120 h.ps
 | some i=>
  if(S.d i).inp=true then .no 124 h.ps
  else if(0<(S.d i).len∧h.xs.n≠1)∨(¬0<(S.d i).len∧h.xs.n≠0)then .no 125 h.ps
  else(if 0<(S.d i).len then((x 0).ck S).bind fun t=>wantC (t == 2) 122 (x 0).h.ps else .ok ()).bind fun _=>
   (e.ck S).bind fun t=>wantC (t == (S.d i).ty) 122 e.h.ps
def St.ck (nam:List UInt8→Bool):St→Sc→Ck Unit
 | .no,_=>.no 122 0
 | .mk h x e t l,S=>
  if h.kd=1 then asgC S h x e
  else if h.kd=2 then(e.ck S).bind fun ty=>(wantC (ty == 1) 122 e.h.ps).bind fun _=>(seqC (fun i=>(t i).ck nam S) h.ts.n).bind fun _=>seqC (fun i=>(l i).ck nam S) h.es.n
  else if h.kd=3 then
   (if nam h.nm=false then .no 120 h.ps
   else if(S.find h.nm).isSome=true∨h.nm∈S.loops then .no 121 h.ps
   else if 16≤h.hi-h.lo∨2≤S.loops.length then .no 123 h.ps
   else seqC (fun i=>(t i).ck nam (S.inner h.nm)) h.ts.n)
  else .no 122 h.ps
theorem St.ck_eq (nam:List UInt8→Bool)(s:St)(S:Sc):s.ck nam S =
  if s.h.kd=1 then asgC S s.h s.x s.e
  else if s.h.kd=2 then(s.e.ck S).bind fun ty=>(wantC (ty == 1) 122 s.e.h.ps).bind fun _=>(seqC (fun i=>(s.t i).ck nam S) s.h.ts.n).bind fun _=>seqC (fun i=>(s.l i).ck nam S) s.h.es.n
  else if s.h.kd=3 then
   (if nam s.h.nm=false then .no 120 s.h.ps
   else if(S.find s.h.nm).isSome=true∨s.h.nm∈S.loops then .no 121 s.h.ps
   else if 16≤s.h.hi-s.h.lo∨2≤S.loops.length then .no 123 s.h.ps
   else seqC (fun i=>(s.t i).ck nam (S.inner s.h.nm)) s.h.ts.n)
  else .no 122 s.h.ps:=by
 cases s with
 | no=>simp[St.ck,St.h,zeroS]
 | mk=>rfl
def De.cells (d:De):Int:=if d.inp=false∧0<d.len then d.len else 1
def deC (nam:List UInt8→Bool)(ran:De→Bool)(d:Nat→De)(i:Nat)(c:Int):Ck Int:=
 if nam (d i).nm=false then .no 120 (d i).ps
 else if(fd d (d i).nm i).isSome=true then .no 121 (d i).ps
 else if ¬(1≤(d i).ty∧(d i).ty≤3)then .no 122 (d i).ps
 else if ran (d i)=false then .no 123 (d i).ps
 else if 96<c+(d i).cells then .no 123 (d i).ps
 else .ok (c+(d i).cells)
def desC (nam:List UInt8→Bool)(ran:De→Bool)(d:Nat→De):Nat→Ck Int
 | 0=>.ok 0
 | n+1=>(desC nam ran d n).bind fun c=>deC nam ran d n c
def Pr.ck (nam:List UInt8→Bool)(ran:De→Bool)(p:Pr):Ck Unit:=
 if ¬(1≤p.ticks∧p.ticks≤2147483647)then .no 123 0
 else(desC nam ran p.d p.ds.n).bind fun _=>(seqC (fun i=>(p.i i).ck nam ⟨p.ds.n,p.d,[],true⟩) p.is.n).bind fun _=>seqC (fun i=>(p.s i).ck nam ⟨p.ds.n,p.d,[],false⟩) p.ss.n
theorem cks_ok {f:Nat→Ck Int}{n:Nat}{l:List Int}(h:cks f n=.ok l):l.length=n∧∀i,i<n→f i=.ok (l.getD i 0):=by
 induction n generalizing l with
 | zero=>cases h;exact⟨rfl,fun i hi=>absurd hi (Nat.not_lt_zero i)⟩
 | succ n ih=>
  simp only[cks]at h
  cases h1:cks f n with
  | no e p=>rw[h1]at h;cases h
  | ok m=>
   rw[h1]at h
   cases h2:f n with
   | no e p=>simp only[Ck.bind,h2]at h;cases h
   | ok t=>
    simp only[Ck.bind,h2]at h;cases h;obtain⟨g1,g2⟩:=ih h1;refine⟨by simp[g1],fun i hi=>?_⟩;rcases Nat.lt_succ_iff_lt_or_eq.1 hi with h4|rfl
    ·rw[g2 i h4,List.getD_eq_getElem?_getD,List.getD_eq_getElem?_getD,List.getElem?_append_left (by omega)]
    ·rw[h2,List.getD_eq_getElem?_getD,List.getElem?_append_right (by omega)]
     simp[g1]
theorem cks_stop {f:Nat→Ck Int}{j:Nat}{e p:Int}(h1:f j=.no e p){l:List Int}(h2:cks f j=.ok l):∀n,j<n→cks f n=.no e p:=by
 intro n
 induction n with
 | zero=>intro h;omega
 | succ n ih=>
  intro h;rcases Nat.lt_succ_iff_lt_or_eq.1 h with h4|rfl
  ·simp only[cks,ih h4,Ck.bind]
  ·simp only[cks,h2,Ck.bind,h1]
theorem seqC_stop {f:Nat→Ck Unit}{j:Nat}{e p:Int}(h1:f j=.no e p)(h2:seqC f j=.ok ()):∀n,j<n→seqC f n=.no e p:=by
 intro n
 induction n with
 | zero=>intro h;omega
 | succ n ih=>
  intro h;rcases Nat.lt_succ_iff_lt_or_eq.1 h with h4|rfl
  ·simp only[seqC,ih h4,Ck.bind]
  ·simp only[seqC,h2,Ck.bind,h1]
theorem desC_stop {nam:List UInt8→Bool}{ran:De→Bool}{d:Nat→De}{j:Nat}{c e p:Int}(h1:deC nam ran d j c=.no e p)(h2:desC nam ran d j=.ok c):∀n,j<n→desC nam ran d n=.no e p:=by
 intro n
 induction n with
 | zero=>intro h;omega
 | succ n ih=>
  intro h;rcases Nat.lt_succ_iff_lt_or_eq.1 h with h4|rfl
  ·simp only[desC,ih h4,Ck.bind]
  ·simp only[desC,h2,Ck.bind,h1]
def Ck.mv {α:Type}(b:Int):Ck α→Ck α
 | .ok a=>.ok a
 | .no e _=>.no e b
theorem bind_mv {α β:Type}(b:Int)(r:Ck α)(f:α→Ck β):(r.bind f).mv b=(r.mv b).bind fun a=>(f a).mv b:=by cases r<;>rfl
theorem cks_mv {b:Int}{f f':Nat→Ck Int}{n:Nat}(h:∀i,i<n→f' i=(f i).mv b):cks f' n=(cks f n).mv b:=by
 induction n with
 | zero=>rfl
 | succ n ih=>
  simp only[cks];rw[ih fun i hi=>h i (by omega),h n (by omega),bind_mv]
  congr 1
  funext l
  rw[bind_mv];rfl
theorem seqC_mv {b:Int}{f f':Nat→Ck Unit}{n:Nat}(h:∀i,i<n→f' i=(f i).mv b):seqC f' n=(seqC f n).mv b:=by
 induction n with
 | zero=>rfl
 | succ n ih=>
  simp only[seqC];rw[ih fun i hi=>h i (by omega),h n (by omega),bind_mv]
theorem wantC_mv (b:Int)(c:Bool)(e p:Int):wantC c e b=(wantC c e p).mv b:=by unfold wantC;split<;>rfl
structure Dh (a b:De):Prop where
 inp:a.inp=b.inp
 nm:a.nm=b.nm
 ty:a.ty=b.ty
 len:a.len=b.len
structure Sh (S S':Sc):Prop where
 n:S.n=S'.n
 d:∀i,i<S.n→Dh (S.d i) (S'.d i)
 loops:S.loops=S'.loops
 init:S.init=S'.init
theorem fd_congr {d d':Nat→De}{x:List UInt8}{n:Nat}(h:∀i,i<n→(d i).nm=(d' i).nm):fd d x n=fd d' x n:=by
 induction n with
 | zero=>rfl
 | succ n ih=>simp only[fd];rw[ih fun i hi=>h i (by omega),h n (by omega)]
theorem Sh.find {S S':Sc}(h:Sh S S')(x:List UInt8):S'.find x=S.find x:=by
 unfold Sc.find;rw[←h.n];exact(fd_congr fun i hi=>(h.d i hi).nm).symm
theorem Sh.inner {S S':Sc}(h:Sh S S')(x:List UInt8):Sh (S.inner x) (S'.inner x):=⟨h.n,h.d,by show S.loops++[x]=S'.loops++[x];rw[h.loops],h.init⟩
theorem look_mv {S S':Sc}(h:Sh S S')(x:List UInt8)(p b:Int):S'.look x b=(S.look x p).mv b:=by
 unfold Sc.look;rw[h.find,h.loops];split
 ·rfl
 ·cases hf:S.find x with
  | none=>rfl
  | some i=>
   have hd:=h.d i (fd_lt hf).1;simp only;rw[←hd.inp,←hd.ty,←hd.len,←h.init]
   split<;>rfl
theorem opsC_mv (t long:Int)(n:Nat)(p b:Int)(a:Ck Int):opsC t long n b (a.mv b)=(opsC t long n p a).mv b:=by
 unfold opsC;split
 ·split
  ·rw[bind_mv]
   congr 1
   funext u
   split<;>rfl
  ·rfl
 ·split<;>rfl
def Ex.allp (b:Int):Ex→Prop
 | .no=>(0:Int)=b
 | .mk h k=>h.ps=b∧∀i,i<h.s.n→(k i).allp b
theorem Ex.allp_hd {b:Int}{e:Ex}(h:e.allp b):e.h.ps=b∧∀i,i<e.h.s.n→(e.k i).allp b:=by
 cases e with
 | no=>exact⟨h,fun i hi=>absurd hi (Nat.not_lt_zero i)⟩
 | mk=>exact h
theorem Ex.ck_mv {S S':Sc}{b:Int}(hS:Sh S S'){e:Ex}:∀ {e':Ex},e.same e'=true→e'.allp b→e'.ck S'=(e.ck S).mv b:=by
 induction e using Ex.ind with
 | H e ih=>
  intro e' hs hp;obtain⟨h1,h2,h3,h4,h5,h6,h7⟩:=Ex.same_iff.1 hs;obtain⟨p1,p2⟩:=Ex.allp_hd hp;rw[Ex.ck_eq S' e',Ex.ck_eq S e,←h1,←h4,←h5,←h6,p1];split
  ·rw[bind_mv,look_mv hS _ e.h.ps]
   cases hl:S.look e.h.nm e.h.ps with
   | no c q=>rfl
   | ok tl=>
    show opsC tl.1 tl.2 e.h.s.n b ((e'.k 0).ck S')=(opsC tl.1 tl.2 e.h.s.n e.h.ps ((e.k 0).ck S)).mv b
    by_cases c:0<e.h.s.n
    ·rw[ih 0 c (h7 0 c) (p2 0 (by omega))]
     exact opsC_mv ..
    ·have c0:e.h.s.n=0:=by omega
     rw[c0];unfold opsC
     split<;>rfl
  ·rw[bind_mv,cks_mv (f:=fun i=>(e.k i).ck S) fun i hi=>ih i hi (h7 i hi) (p2 i (by omega))]
   congr 1
   funext l
   split
   ·rfl
   ·split<;>rfl
def St.allp (b:Int):St→Prop
 | .no=>(0:Int)=b
 | .mk h x e t l=>h.ps=b∧(∀i,i<h.xs.n→(x i).allp b)∧e.allp b∧(∀i,i<h.ts.n→(t i).allp b)∧∀i,i<h.es.n→(l i).allp b
theorem St.allp_hd {b:Int}{s:St}(h:s.allp b):s.h.ps=b∧(∀i,i<s.h.xs.n→(s.x i).allp b)∧s.e.allp b∧(∀i,i<s.h.ts.n→(s.t i).allp b)∧∀i,i<s.h.es.n→(s.l i).allp b:=by
 cases s with
 | no=>exact⟨h,fun i hi=>absurd hi (Nat.not_lt_zero i),h,fun i hi=>absurd hi (Nat.not_lt_zero i),fun i hi=>absurd hi (Nat.not_lt_zero i)⟩
 | mk=>exact h
theorem asgC_mv {S S':Sc}{b:Int}(hS:Sh S S'){h h':SH}{x x':Nat→Ex}{e e':Ex}(hn:h.nm=h'.nm)(hx:h.xs.n=h'.xs.n)(hp:h'.ps=b)(xs:∀i,i<h.xs.n→(x i).same (x' i)=true)(xp:∀i,i<h'.xs.n→(x' i).allp b)(es:e.same e'=true)(ep:e'.allp b) :
  asgC S' h' x' e'=(asgC S h x e).mv b:=by
 unfold asgC;rw[←hn,←hx,hp,hS.find,hS.loops];split
 ·rfl
 ·cases hf:S.find h.nm with
  | none=>rfl
  | some i=>
   have hd:=hS.d i (fd_lt hf).1;simp only;rw[←hd.inp,←hd.ty,←hd.len];split
   ·rfl
   ·split
    ·rfl
    ·rename_i c1 c2
     rw[bind_mv]
     have e1:(if 0<(S.d i).len then((x' 0).ck S').bind fun t=>wantC (t == 2) 122 (x' 0).h.ps else .ok ())=(if 0<(S.d i).len then((x 0).ck S).bind fun t=>wantC (t == 2) 122 (x 0).h.ps else .ok ()).mv b:=by
      split
      ·rename_i c3
       have c4:0<h.xs.n:=by
        rcases Nat.eq_zero_or_pos h.xs.n with c5|c5
        ·exact absurd (.inl ⟨c3,by omega⟩) c2
        ·exact c5
       rw[bind_mv,Ex.ck_mv hS (xs 0 c4) (xp 0 (by omega)),(Ex.allp_hd (xp 0 (by omega))).1]
       congr 1
       funext t
       exact wantC_mv ..
      ·rfl
     rw[e1]
     congr 1
     funext _
     rw[bind_mv,Ex.ck_mv hS es ep,(Ex.allp_hd ep).1]
     congr 1
     funext t
     exact wantC_mv ..
theorem St.ck_mv {nam:List UInt8→Bool}{b:Int}{s:St}:∀ {S S':Sc} {s':St},Sh S S'→s.same s'=true→s'.allp b→s'.ck nam S'=(s.ck nam S).mv b:=by
 induction s using St.ind with
 | H s it il=>
  intro S S' s' hS hs hp;obtain⟨⟨h1,h2,h3,h4,h5,h6⟩,h7,⟨h8,h9⟩,h10,h11⟩:=St.same_iff.1 hs;obtain⟨p1,p2,p3,p4,p5⟩:=St.allp_hd hp;rw[St.ck_eq nam s' S',St.ck_eq nam s S,←h1];split
  ·exact asgC_mv hS h2 h8 p1 h9 p2 h7 p3
  ·split
   ·rw[bind_mv,Ex.ck_mv hS h7 p3,(Ex.allp_hd p3).1,←h5,←h6]
    congr 1
    funext ty
    rw[bind_mv,wantC_mv b _ _ s.e.h.ps]
    congr 1
    funext _
    rw[bind_mv,seqC_mv (f:=fun i=>(s.t i).ck nam S) fun i hi=>it i hi hS (h10 i hi) (p4 i (by omega))]
    congr 1
    funext _
    exact seqC_mv fun i hi=>il i hi hS (h11 i hi) (p5 i (by omega))
   ·split
    ·rw[←h2,←h3,←h4,←h5,p1,hS.find,←hS.loops]
     split
     ·rfl
     ·split
      ·rfl
      ·split
       ·rfl
       ·exact seqC_mv fun i hi=>it i hi (hS.inner _) (h10 i hi) (p4 i (by omega))
    ·rw[p1];rfl
theorem deC_mv {nam:List UInt8→Bool}{ran:De→Bool}{d d':Nat→De}{b:Int}(hr:∀a a':De,a.same a'=true→ran a=ran a'){i:Nat}(h:∀j,j≤i→(d j).same (d' j)=true)(hp:(d' i).ps=b)(c:Int):deC nam ran d' i c=(deC nam ran d i c).mv b:=by
 obtain⟨h1,h2,h3,h4, -, -, -⟩:=De.same_iff.1 (h i (Nat.le_refl i));have e2:fd d' (d i).nm i=fd d (d i).nm i:=(fd_congr fun j hj=>(De.same_iff.1 (h j (Nat.le_of_lt hj))).2.1).symm;have e3:(d' i).cells=(d i).cells:=by unfold De.cells;rw[h1,h4]
 unfold deC;rw[←h2,←h3,e2,e3,←hr _ _ (h i (Nat.le_refl i)),hp];split
 ·rfl
 ·split
  ·rfl
  ·split
   ·rfl
   ·split
    ·rfl
    ·split<;>rfl
theorem desC_mv {nam:List UInt8→Bool}{ran:De→Bool}{d d':Nat→De}{b:Int}(hr:∀a a':De,a.same a'=true→ran a=ran a'){n:Nat}(h:∀j,j<n→(d j).same (d' j)=true)(hp:∀j,j<n→(d' j).ps=b):desC nam ran d' n=(desC nam ran d n).mv b:=by
 induction n with
 | zero=>rfl
 | succ n ih=>
  simp only[desC];rw[ih (fun j hj=>h j (by omega)) (fun j hj=>hp j (by omega)),bind_mv]
  congr 1
  funext c
  exact deC_mv hr (fun j hj=>h j (by omega)) (hp n (by omega)) c
theorem Pr.ck_mv {nam:List UInt8→Bool}{ran:De→Bool}{p q:Pr}{b:Int}(hr:∀a a':De,a.same a'=true→ran a=ran a')(h:p.same q=true)(hd:∀j,j<q.ds.n→(q.d j).ps=b)(hi:∀j,j<q.is.n→(q.i j).allp b)(hs:∀j,j<q.ss.n→(q.s j).allp b) :
  q.ck nam ran=if 1≤p.ticks∧p.ticks≤2147483647 then(p.ck nam ran).mv b else .no 123 0:=by
 obtain⟨h1,h2,h3,h4⟩:=Pr.same_iff.1 h;obtain⟨d1,d2⟩:=sameD_iff.1 h2;obtain⟨i1,i2⟩:=sameS_iff.1 h3;obtain⟨s1,s2⟩:=sameS_iff.1 h4;unfold Pr.ck;rw[←h1,←d1,←i1,←s1];have hS:∀b,Sh ⟨p.ds.n,p.d,[],b⟩ ⟨p.ds.n,q.d,[],b⟩:=fun b=>⟨rfl,fun i hi=>by have g:=De.same_iff.1 (d2 i hi);exact⟨g.1,g.2.1,g.2.2.1,g.2.2.2.1⟩,rfl,rfl⟩
 by_cases c:1≤p.ticks∧p.ticks≤2147483647
 ·rw[if_neg (not_not_intro c),if_pos c,if_neg (not_not_intro c),bind_mv,desC_mv hr d2 fun j hj=>hd j (by omega)]
  congr 1
  funext _
  rw[bind_mv,seqC_mv (f:=fun i=>(p.i i).ck nam ⟨p.ds.n,p.d,[],true⟩) fun i hi2=>St.ck_mv (hS true) (i2 i hi2) (hi i (by omega))]
  congr 1
  funext _
  exact seqC_mv fun i hi2=>St.ck_mv (hS false) (s2 i hi2) (hs i (by omega))
 ·rw[if_pos c,if_neg c]
def mvH (b:Int)(h:EH)(s:Sl):EH:=⟨h.op,b,h.bo,h.it,h.fl,h.nm,s⟩
def RetMv (b:Int)(e:Ex)(w:World)(r:Ending)(w':World):Prop:=∃e':Ex,r=.returned e'.h.v∧XO (Fro w.heap.size) e' w'∧e.same e'=true∧e'.allp b∧Below w.heap.size w w'
def MvX (b:Int)(B:Nat)(e:Ex):Prop:=∀(w:World),e.In B w→B≤w.heap.size→Calls Tryz.prog 26 #[e.h.v,.int .i64 b] w (RetMv b e w)
theorem mvH_ok {b:Int}{h:EH}{s:Sl}(b0:-9223372036854775808≤b)(b1:b≤9223372036854775807)(g:h.ok)(hs:s.ok):(mvH b h s).ok:=
 ⟨g.op0,g.op1,b0,b1,g.it0,g.it1,g.fl,g.nm,hs⟩
theorem rows_wt {e:Ex}:e.h.s.n≤e.wt:=by
 have hs:∀n,n≤sm (fun i=>(e.k i).wt) n:=fun n=>by
  induction n with
  | zero=>exact Nat.le_refl _
  | succ n ihn=>
   have h3:1≤(e.k n).wt:=by rw[Ex.wt_eq];omega
   show n+1≤sm _ n+_;have h4:(fun i=>(e.k i).wt) n=(e.k n).wt:=rfl;omega
 have:=hs e.h.s.n;rw[Ex.wt_eq];omega
theorem moved_of (b:Int)(b0:-9223372036854775808≤b)(b1:b≤9223372036854775807)(B:Nat)(e:Ex)(hn4:e.h.s.n≤100000)(ih:∀i,i<e.h.s.n→MvX b B (e.k i)):MvX b B e:=by
 intro w hI hB;have hb:Below w.heap.size w ((bx w (xO e.h)).alloc zX):=bel_alloc (bx_bel (Below.refl _ _) (Nat.le_refl _) _) _;have g0:Blk ((bx w (xO e.h)).alloc zX) w.heap.size 42 e.h.va:=(Below.heap_alloc _ _ _ (by rw[bx_size];omega)).trans (bx_new _ _)
 have g1:Blk ((bx w (xO e.h)).alloc zX) (w.heap.size+1) 42 zeroH.va:=by
  have:=Blk.new (bx w (xO e.h)) 42 zeroH.va;rw[bx_size]at this;exact this
 have z1:((bx w (xO e.h)).alloc zX).heap.size=w.heap.size+1+1:=by rw[World.size_alloc,bx_size]
 have G0:=Hj g0;have R1:=Hj g1;have Z1:=Hj z1;have HI:=Hj (hI.xs.below hb hB);have BW:=Hj hb;have HB:=Hj hB;have IH:=Hj ih;have OK:=Hj (fun s hs=>mvH_ok (s:=s) b0 b1 hI.ok hs);have HN:=Hj hn4;clear hI hb hB ih hn4 g0 g1 z1 b0 b1
 obtain⟨i0,HI0,hi0⟩:∃i,Tryz.prog.info? 42=some i∧(i.zero=some zeroH.v∧i.size=7∧i.bytes=72):=by
  have h:=expr_info
  cases hh:Tryz.prog.info? 42 with
  | none=>rw[hh]at h;cases h
  | some i=>
   rw[hh]at h;have h:=Option.some.inj h;simp only[Prod.mk.injEq]at h;exact⟨i,rfl,h⟩
 have HIN:=Hj (And.intro HI0 hi0);clear HI0 hi0;show Calls Tryz.prog 26 #[.agg #[.int .u8 e.h.op,.int .i64 e.h.ps,.bool e.h.bo,.int .i32 e.h.it,.int .u64 e.h.fl,.string ⟨e.h.nm.toArray⟩,.slice e.h.s.ao e.h.s.n e.h.s.c],.int .i64 b] w _;go_enter Tryz.func26,Tryz.ntmps26;go_upto_region 1 with fail;rw[bx_x];change (Code.region 1 _ _).wp _ _ _ ((bx w (xO e.h)).alloc zX);generalize (bx w (xO e.h)).alloc zX=W at *;have m:W.cell? ⟨w.heap.size,1,none⟩=some (.int .i64 e.h.ps):=G0.out.cell 1;have z:W.frozen? ⟨w.heap.size,1,none⟩=false:=G0.out.frozen 1;have q:=G0.out.lt;go_upto_region 2 with fail;have XB:Hid (Blk (W.setCell ⟨w.heap.size,1,none⟩ (.int .i64 b)) w.heap.size 42 (EH.va (mvH b e.h e.h.s))):=G0.out.set_ 1 (.int .i64 b);have R2:Hid (Blk (W.setCell ⟨w.heap.size,1,none⟩ (.int .i64 b)) (w.heap.size+1) 42 zeroH.va):=R1.out.far (p:=⟨w.heap.size,1,none⟩) (Nat.succ_ne_self _) _;have HI2:=Hj (HI.out.below (Below.setCell (Below.refl w.heap.size W) (p:=⟨w.heap.size,1,none⟩) (Nat.le_refl _) (.int .i64 b)) HB.out);have BW2:=Hj (bel_set BW.out (p:=⟨w.heap.size,1,none⟩) (Nat.le_refl _) (.int .i64 b))
 have Z2:Hid ((W.setCell ⟨w.heap.size,1,none⟩ (.int .i64 b)).heap.size=w.heap.size+1+1):=(World.size_setCell ..).trans Z1.out;clear m z q G0 R1 HI BW Z1;generalize W.setCell ⟨w.heap.size,1,none⟩ (.int .i64 b)=V at *;have HOWN:Hid (V.ownsRow (w.heap.size+1+1) 42 7 (.slice none 0 0) 0 (rowE (fun _=>Ex.no) 0)):=World.ownsRow_nil V (w.heap.size+1+1) 42 7;clear W;generalize hge:w.heap.size=ge at *;go_wp2_with fail
 go_loopg [5,6] e.h.s.n (fun gk l i wr=>∃(j c:Nat) (A:Option Addr) (K:Nat→Ex),l=.slice A j c∧i=.int .i64 (j:Int)∧Hid (gk=e.h.s.n-j∧j≤e.h.s.n)∧Hid (wr.ownsRow (ge+1+1) 42 7 (.slice A j c) j (rowE K j))∧Hid (∀i,i<j→XO (Dr (ge+1+1) (.slice A j c)) (K i) wr)∧Hid (∀i,i<j→(e.k i).same (K i)=true∧(K i).allp b)∧Hid (Below V.heap.size V wr))
 case atStart=>exact⟨0,0,none,fun _=>.no,rfl,rfl,⟨rfl,Nat.zero_le _⟩,HOWN.out,(fun i hi=>absurd hi (Nat.not_lt_zero i)),(fun i hi=>absurd hi (Nat.not_lt_zero i)),Below.refl _ _⟩
 case round=>
  clear HOWN;obtain⟨j,c,A,K,rfl,rfl,HJ,OJ,KJ,SJ,BJ⟩:=hrel;have XJ:=Hj (XB.out.below BJ.out XB.out.lt);have c6:wr.cell? ⟨ge,6,none⟩=some (.slice e.h.s.ao e.h.s.n e.h.s.c):=XJ.out.cell 6;have HBV:Hid (B≤V.heap.size):=by have h1:=HB.out;have h2:=Z2.out;show B≤_;omega
  by_cases hlt:j<e.h.s.n
  ·have z0:(j:Int)<(e.h.s.n:Int):=by omega
   have ovi:IntKind.i64.wrap ((j:Int)+1)=((j+1:Nat):Int):=by have:=HN.out;rw[IntKind.wrap_i64];omega
   obtain⟨a,b',o,ha,hA,hb,X,I⟩:=XsIn.at (HI2.out.below BJ.out HBV.out) (i:=j) hlt;rw[ha]at c6;have x0:=X.c0;have x1:=X.c1;have x2:=X.c2;have x3:=X.c3;have x4:=X.c4;have x5:=X.c5;have x6:=X.c6;have CP:=Hj fun w' (hb:Below wr.heap.size wr w')=>IH.out j hlt w' (I.below hb (Nat.le_trans HBV.out BJ.out.size)) (Nat.le_trans HBV.out (Nat.le_trans BJ.out.size hb.size));have HLT:=Hj hlt;have LN:Hid (j+1≤maxLen):=by show _≤_;have:=HN.out;unfold maxLen;omega
   have LB:Hid ((j+1)*72≤140737488355328):=by show _≤_;have:=HN.out;omega
   have SZ:Hid (ge+1+1≤wr.heap.size):=by have h1:=BJ.out.size;have h2:=Z2.out;show _≤_;omega
   have ONE:Hid (∀e':Ex,∀u∈e'.h.vs,u.oneCell'=true):=fun e'=>by simp[EH.vs,Value.oneCell']
   clear X hb I hlt ha;go_wp2_with fail;refine(CP.out wr (Below.refl _ _)).mono ?_;rintro y w8 ⟨e',rfl,xe,se,ae,b8⟩;have XE:=Hj xe;have SE:=Hj (And.intro se ae);have B8:=Hj b8;clear xe se ae b8 CP x0 x1 x2 x3 x4 x5 x6 c6;unfold EH.v
   go_wp2_with (at_builtin;refine wpList_append_moved _ rfl _ _ 40 rfl (ge+1+1) 42 i0 zeroH.v 7 72 Tryz.underlying40 HIN.out.1 HIN.out.2.1 HIN.out.2.2.1 HIN.out.2.2.2 rfl (by decide) (.slice A j c) j (rowE K j) rfl (own_belowK OJ.out (bel_alloc B8.out (.cells e'.h.vs.toArray 42))) ⟨w8.heap.size,0,none⟩ 1 1 e'.h.vs rfl rfl (new_oneE w8 e') (ONE.out e') LN.out LB.out (Nat.le_trans SZ.out (bel_alloc B8.out (.cells e'.h.vs.toArray 42)).size) ?_;intro v' w10 own' hgrow mv;obtain⟨D1,e1,rfl⟩:=own_form own')
   have BA:=bel_alloc B8.out (.cells e'.h.vs.toArray 42);have OW:=own_belowK OJ.out BA;have R2':=Hj (moreE_row own');have xe':XO (Dr (ge+1+1) (.slice A j c)) e' (w8.alloc (.cells e'.h.vs.toArray 42)):=(XE.out.bel (bel_one w8 _)).imp (fun k hk (x:wr.heap.size≤k)=>⟨Nat.le_trans SZ.out x,fun h=>Nat.lt_irrefl _ (Nat.lt_of_lt_of_le (own_block OJ.out h).2 x)⟩);have R3:=Hj (moreE_x (fun i hi=>app_xo hgrow mv ((KJ.out i hi).bel BA)) (app_xo hgrow mv xe'))
   have R4:Hid (∀i,i<j+1→(e.k i).same ((fun i=>if i<j then K i else e') i)=true∧((fun i=>if i<j then K i else e') i).allp b):=fun i hi=>by
    dsimp only;split
    ·rename_i h1;exact SJ.out i h1
    ·obtain rfl:i=j:=by omega
     exact SE.out
   have R5:Hid (Below V.heap.size V w10):=by
    have h:=BJ.out.trans (BA.mono BJ.out.size);exact h.trans (((gr_fx hgrow).mono (C:=V.heap.size) (Y:=fun k=>(Value.slice A j c).ownBlock=some k) h.size (fun _ _ x=>x)).bel (fun k hk x=>by have h1:=(own_block OW x).1;have h2:=Z2.out;omega))
   clear BA OW own' hgrow mv xe' XE SE B8 OJ KJ SJ;go_wp2_with fail
   go_roundg (e.h.s.n-(j+1))
   case measure=>have:=HJ.out;have:=HLT.out;omega
   case rel=>exact⟨j+1,e1,D1,fun i=>if i<j then K i else e',by go_num,by go_num,⟨rfl,HLT.out⟩,R2'.out,R3.out,R4.out,R5.out⟩
  ·obtain rfl:j=e.h.s.n:=by have:=HJ.out;omega
   have z0:¬(e.h.s.n:Int)<(e.h.s.n:Int):=by omega
   obtain⟨S,hS,hSn,hXL⟩:=own_xl OJ.out KJ.out;obtain⟨Sa,Sn,Sc⟩:=S
   obtain⟨rfl, -,rfl⟩:A=Sa∧e.h.s.n=Sn∧c=Sc:=by
    have h:=hS;unfold Sl.val at h;injection h with h1 h2 h3;exact⟨h1,h2,h3⟩
   have hSn:Sn=e.h.s.n:=hSn;subst hSn;have OK2:=OK.out ⟨A,e.h.s.n,c⟩ hXL.1;have XF:=Hj (row_in (h:=mvH b e.h ⟨A,e.h.s.n,c⟩) OK2 hXL);have SM:Hid (e.same (Ex.mk (mvH b e.h ⟨A,e.h.s.n,c⟩) K)=true):=Ex.same_iff.2 ⟨rfl,rfl,rfl,rfl,rfl,rfl,fun i hi=>(SJ.out i hi).1⟩;have AM:Hid ((Ex.mk (mvH b e.h ⟨A,e.h.s.n,c⟩) K).allp b):=⟨rfl,fun i hi=>(SJ.out i hi).2⟩;have NR:=Hj (R2.out.below BJ.out R2.out.lt);have BB:=Hj (BW2.out.trans (BJ.out.mono (show ge≤V.heap.size by have:=Z2.out;omega)));have t6:=XJ.out.frozen 6;have qlt:=XJ.out.lt;have qne:ge≠ge+1:=by omega
   clear hlt hS hXL KJ SJ OJ OK2;go_upto_region 8 with fail;have XK:Hid (Blk (wr.setCell ⟨ge,6,none⟩ (.slice A (e.h.s.n) c)) ge 42 (EH.va (mvH b e.h ⟨A,e.h.s.n,c⟩))):=XJ.out.set_ 6 (.slice A (e.h.s.n) c);have NK:Hid (Blk (wr.setCell ⟨ge,6,none⟩ (.slice A (e.h.s.n) c)) (ge+1) 42 zeroH.va):=NR.out.far (p:=⟨ge,6,none⟩) (Nat.succ_ne_self _) _;have XFK:=Hj (XF.out.set (p:=⟨ge,6,none⟩) (fun(x:ge+1+1≤ge)=>by omega) (.slice A (e.h.s.n) c));have BBK:=Hj (Below.setCell BB.out (p:=⟨ge,6,none⟩) (Nat.le_refl ge) (.slice A (e.h.s.n) c));clear t6 qlt XJ NR XF BB c6;generalize wr.setCell ⟨ge,6,none⟩ (.slice A (e.h.s.n) c)=wv at *
   go_wp2_with (first
    | refine ld_ex (mvH b e.h ⟨A,e.h.s.n,c⟩) ge XK.out rfl _ rfl rfl ?_
    | refine st_ex (mvH b e.h ⟨A,e.h.s.n,c⟩) (ge+1) _ NK.out rfl rfl _ _ rfl rfl rfl ?_)
   refine bodyPost_ret (rs_ex rfl _ _ (ge+1) (mvH b e.h ⟨A,e.h.s.n,c⟩) rfl (NK.out.rowS _)) rfl ⟨Ex.mk (mvH b e.h ⟨A,e.h.s.n,c⟩) K,rfl,?_,SM.out,AM.out,?_⟩
   ·refine(XFK.out.row (fun(x:ge+1+1≤ge+1)=>by omega) _).imp (fun k _ (x:ge+1+1≤k)=>?_)
    show w.heap.size≤k;omega
   ·show Below w.heap.size w _
    rw[hge];exact BBK.out.trans (((wr1_row wv (ge+1) _).1.mono (C:=ge) (Y:=On (ge+1)) (show ge≤wv.heap.size by have:=BBK.out.size;omega) (fun _ _ x=>x)).bel (fun k hk (x:k=ge+1)=>by omega))
theorem moved_any (b:Int)(b0:-9223372036854775808≤b)(b1:b≤9223372036854775807)(B:Nat)(e:Ex):e.wt≤100000→MvX b B e:=by
 induction e using Ex.ind with
 | H e ih=>
  intro hw;exact moved_of b b0 b1 B e (Nat.le_trans rows_wt hw) fun i hi=>ih i hi (by have:=wt_k e hi;omega)
def us (l:List UInt8):List UInt8:=l++[95]
theorem us_inj {a b:List UInt8}:us a=us b↔a=b:=by unfold us;exact⟨fun h=>List.append_cancel_right h,fun h=>by rw[h]⟩
theorem us_mem {a:List UInt8}{l:List (List UInt8)}:us a∈l.map us↔a∈l:=by
 rw[List.mem_map];exact⟨fun⟨b,h1,h2⟩=>by rw[←us_inj.1 h2];exact h1,fun h=>⟨a,h,rfl⟩⟩
def Ex.cal:Ex→Ex
 | .no=>.no
 | .mk h k=>.mk ⟨h.op,h.ps,h.bo,h.it,h.fl,if h.op=4 then us h.nm else h.nm,⟨none,h.s.n,h.s.n⟩⟩ fun i=>(k i).cal
theorem Ex.cal_hd (e:Ex):e.cal.h.op=e.h.op∧e.cal.h.ps=e.h.ps∧e.cal.h.fl=e.h.fl∧e.cal.h.s.n=e.h.s.n∧(e.h.op=4→e.cal.h.nm=us e.h.nm)∧∀i,i<e.h.s.n→e.cal.k i=(e.k i).cal:=by
 cases e with
 | no=>exact⟨rfl,rfl,rfl,rfl,fun h=>absurd h (by decide),fun i hi=>absurd hi (Nat.not_lt_zero i)⟩
 | mk h k=>exact⟨rfl,rfl,rfl,rfl,fun c=>if_pos c,fun i _=>rfl⟩
structure Ru (S S':Sc):Prop where
 n:S.n=S'.n
 nm:∀i,i<S.n→(S'.d i).nm=us (S.d i).nm
 d:∀i,i<S.n→(S.d i).inp=(S'.d i).inp∧(S.d i).ty=(S'.d i).ty∧(S.d i).len=(S'.d i).len
 loops:S'.loops=S.loops.map us
 init:S.init=S'.init
theorem fd_us {d d':Nat→De}{x:List UInt8}{n:Nat}(h:∀i,i<n→(d' i).nm=us (d i).nm):fd d' (us x) n=fd d x n:=by
 induction n with
 | zero=>rfl
 | succ n ih=>
  simp only[fd];rw[ih fun i hi=>h i (by omega),h n (by omega)]
  cases fd d x n with
  | some i=>rfl
  | none=>
   by_cases c:(d n).nm=x
   ·simp[c]
   ·simp only[us_inj,c]
theorem Ru.find {S S':Sc}(h:Ru S S')(x:List UInt8):S'.find (us x)=S.find x:=by
 unfold Sc.find;rw[←h.n];exact fd_us h.nm
theorem Ru.inner {S S':Sc}(h:Ru S S')(x:List UInt8):Ru (S.inner x) (S'.inner (us x)):=⟨h.n,h.nm,h.d,by show S'.loops++[us x]=(S.loops++[x]).map us;rw[h.loops,List.map_append];rfl,h.init⟩
theorem look_us {S S':Sc}(h:Ru S S')(x:List UInt8)(p:Int):S'.look (us x) p=S.look x p:=by
 unfold Sc.look;rw[h.find,h.loops]
 by_cases c:x∈S.loops
 ·rw[if_pos (us_mem.2 c),if_pos c]
 ·rw[if_neg (fun g=>c (us_mem.1 g)),if_neg c]
  cases hf:S.find x with
  | none=>rfl
  | some i=>
   have hd:=h.d i (fd_lt hf).1;simp only;rw[←hd.1,←hd.2.1,←hd.2.2,←h.init]
theorem cks_congr {f f':Nat→Ck Int}{n:Nat}(h:∀i,i<n→f' i=f i):cks f' n=cks f n:=by
 induction n with
 | zero=>rfl
 | succ n ih=>simp only[cks];rw[ih fun i hi=>h i (by omega),h n (by omega)]
theorem seqC_congr {f f':Nat→Ck Unit}{n:Nat}(h:∀i,i<n→f' i=f i):seqC f' n=seqC f n:=by
 induction n with
 | zero=>rfl
 | succ n ih=>simp only[seqC];rw[ih fun i hi=>h i (by omega),h n (by omega)]
theorem opsC_none (t long:Int)(n:Nat)(p:Int)(a b:Ck Int)(h:n=0):opsC t long n p a=opsC t long n p b:=by
 subst h;unfold opsC
 split<;>rfl
theorem Ex.ck_cal {S S':Sc}(hS:Ru S S')(e:Ex):e.cal.ck S'=e.ck S:=by
 induction e using Ex.ind with
 | H e ih=>
  obtain⟨h1,h2,h3,h4,h5,h6⟩:=Ex.cal_hd e;rw[Ex.ck_eq S' e.cal,Ex.ck_eq S e,h1,h2,h3,h4];split
  ·rename_i c
   rw[h5 c,look_us hS]
   congr 1
   funext tl
   by_cases c0:0<e.h.s.n
   ·rw[h6 0 c0,ih 0 c0]
   ·exact opsC_none _ _ _ _ _ _ (by omega)
  ·rw[cks_congr (f:=fun i=>(e.k i).ck S) fun i hi=>by rw[h6 i hi];exact ih i hi]
def nmS (h:SH):SH:=⟨h.kd,h.ps,us h.nm,⟨none,h.xs.n,h.xs.n⟩,h.lo,h.hi,⟨none,h.ts.n,h.ts.n⟩,⟨none,h.es.n,h.es.n⟩⟩
def St.nmd:St→St
 | .no=>.mk (nmS zeroS) (fun _=>.no) .no (fun _=>.no) fun _=>.no
 | .mk h x e t l=>.mk (nmS h) (fun i=>(x i).cal) e.cal (fun i=>(t i).nmd) fun i=>(l i).nmd
theorem St.nmd_hd (s:St):s.nmd.h=nmS s.h∧s.nmd.e=s.e.cal∧(∀i,i<s.h.xs.n→s.nmd.x i=(s.x i).cal)∧(∀i,i<s.h.ts.n→s.nmd.t i=(s.t i).nmd)∧∀i,i<s.h.es.n→s.nmd.l i=(s.l i).nmd:=by
 cases s with
 | no=>exact⟨rfl,rfl,fun i hi=>absurd hi (Nat.not_lt_zero i),fun i hi=>absurd hi (Nat.not_lt_zero i),fun i hi=>absurd hi (Nat.not_lt_zero i)⟩
 | mk=>exact⟨rfl,rfl,fun _ _=>rfl,fun _ _=>rfl,fun _ _=>rfl⟩
def St.shl (nam:List UInt8→Bool):St→Prop
 | .no=>True
 | .mk h _ _ t l=>(h.kd=3→nam h.nm=true∧nam (us h.nm)=true)∧(∀i,i<h.ts.n→(t i).shl nam)∧∀i,i<h.es.n→(l i).shl nam
theorem St.shl_hd {nam:List UInt8→Bool}{s:St}(h:s.shl nam):(s.h.kd=3→nam s.h.nm=true∧nam (us s.h.nm)=true)∧(∀i,i<s.h.ts.n→(s.t i).shl nam)∧∀i,i<s.h.es.n→(s.l i).shl nam:=by
 cases s with
 | no=>exact⟨fun c=>absurd c (by decide),fun i hi=>absurd hi (Nat.not_lt_zero i),fun i hi=>absurd hi (Nat.not_lt_zero i)⟩
 | mk=>exact h
theorem asgC_us {S S':Sc}(hS:Ru S S')(h:SH){x x':Nat→Ex}(e:Ex)(hx:∀i,i<h.xs.n→x' i=(x i).cal):asgC S' (nmS h) x' e.cal=asgC S h x e:=by
 have e0:(us h.nm∈S'.loops)↔h.nm∈S.loops:=by rw[hS.loops];exact us_mem
 unfold asgC
 by_cases c:h.nm∈S.loops
 ·rw[if_pos (show(nmS h).nm∈S'.loops from e0.2 c),if_pos c]
  rfl
 ·rw[if_neg (show ¬(nmS h).nm∈S'.loops from fun g=>c (e0.1 g)),if_neg c,show(nmS h).nm=us h.nm from rfl,show(nmS h).ps=h.ps from rfl,show(nmS h).xs.n=h.xs.n from rfl,hS.find]
  cases hf:S.find h.nm with
  | none=>rfl
  | some i=>
   have hd:=hS.d i (fd_lt hf).1;simp only;rw[←hd.1,←hd.2.1,←hd.2.2];split
   ·rfl
   ·split
    ·rfl
    ·rename_i c1 c2
     have e1:(if 0<(S.d i).len then((x' 0).ck S').bind fun t=>wantC (t == 2) 122 (x' 0).h.ps else .ok ())=(if 0<(S.d i).len then((x 0).ck S).bind fun t=>wantC (t == 2) 122 (x 0).h.ps else .ok ()):=by
      split
      ·rename_i c3
       have c4:0<h.xs.n:=by
        rcases Nat.eq_zero_or_pos h.xs.n with c5|c5
        ·exact absurd (.inl ⟨c3,by omega⟩) c2
        ·exact c5
       rw[hx 0 c4,Ex.ck_cal hS,(Ex.cal_hd (x 0)).2.1]
      ·rfl
     rw[e1,Ex.ck_cal hS,(Ex.cal_hd e).2.1]
theorem St.ck_nmd {nam:List UInt8→Bool}{s:St}:∀ {S S':Sc},Ru S S'→s.shl nam→s.nmd.ck nam S'=s.ck nam S:=by
 induction s using St.ind with
 | H s it il=>
  intro S S' hS hp;obtain⟨h1,h2,h3,h4,h5⟩:=St.nmd_hd s;obtain⟨p1,p2,p3⟩:=St.shl_hd hp;rw[St.ck_eq nam s.nmd S',St.ck_eq nam s S,h1,h2];show(if s.h.kd=1 then _ else if s.h.kd=2 then _ else if s.h.kd=3 then _ else _)=_;split
  ·exact asgC_us hS s.h s.e h3
  ·split
   ·rw[Ex.ck_cal hS,(Ex.cal_hd s.e).2.1]
    congr 1
    funext ty
    congr 1
    funext _
    have g1:seqC (fun i=>(s.nmd.t i).ck nam S') s.h.ts.n=seqC (fun i=>(s.t i).ck nam S) s.h.ts.n:=seqC_congr fun i hi=>by rw[h4 i hi];exact it i hi hS (p2 i hi)
    have g2:seqC (fun i=>(s.nmd.l i).ck nam S') s.h.es.n=seqC (fun i=>(s.l i).ck nam S) s.h.es.n:=seqC_congr fun i hi=>by rw[h5 i hi];exact il i hi hS (p3 i hi)
    show(seqC (fun i=>(s.nmd.t i).ck nam S') s.h.ts.n).bind (fun _=>seqC (fun i=>(s.nmd.l i).ck nam S') s.h.es.n)=_;rw[g1,g2]
   ·split
    ·rename_i c1 c2 c3
     obtain⟨n1,n2⟩:=p1 c3;show(if nam (us s.h.nm)=false then _ else if(S'.find (us s.h.nm)).isSome=true∨us s.h.nm∈S'.loops then _ else if 16≤s.h.hi-s.h.lo∨2≤S'.loops.length then _ else seqC _ s.h.ts.n)=_;have e0:((S.find s.h.nm).isSome=true∨us s.h.nm∈S.loops.map us)↔((S.find s.h.nm).isSome=true∨s.h.nm∈S.loops):=by rw[us_mem]
     have tf:¬(true=false):=by decide
     rw[n1,n2,hS.find,hS.loops,List.length_map,if_neg tf,if_neg tf]
     by_cases c4:(S.find s.h.nm).isSome=true∨s.h.nm∈S.loops
     ·rw[if_pos (e0.2 c4),if_pos c4]
      rfl
     ·rw[if_neg (fun g=>c4 (e0.1 g)),if_neg c4]
      have g1:seqC (fun i=>(s.nmd.t i).ck nam (S'.inner (nmS s.h).nm)) s.h.ts.n=seqC (fun i=>(s.t i).ck nam (S.inner s.h.nm)) s.h.ts.n:=seqC_congr fun i hi=>by rw[h4 i hi];exact it i hi (hS.inner _) (p2 i hi)
      rw[g1];rfl
    ·rfl
theorem deC_us {nam:List UInt8→Bool}{ran:De→Bool}{d d':Nat→De}{i:Nat}(h:∀j,j≤i→(d' j).nm=us (d j).nm)(h1:(d i).ps=(d' i).ps)(h2:(d i).inp=(d' i).inp)(h3:(d i).ty=(d' i).ty)(h4:(d i).len=(d' i).len)(hr:ran (d i)=ran (d' i))(n1:nam (d i).nm=true)(n2:nam (us (d i).nm)=true)(c:Int):deC nam ran d' i c=deC nam ran d i c:=by
 have e3:(d' i).cells=(d i).cells:=by unfold De.cells;rw[h2,h4]
 unfold deC;rw[h i (Nat.le_refl i),fd_us fun j hj=>h j (Nat.le_of_lt hj),n1,n2,←h1,←h3,e3,←hr]
structure Pu (nam:List UInt8→Bool) (ran:De→Bool) (p q:Pr):Prop where
 tk:p.ticks=q.ticks
 dn:p.ds.n=q.ds.n
 nm:∀i,i<p.ds.n→(q.d i).nm=us (p.d i).nm
 ok:∀i,i<p.ds.n→nam (p.d i).nm=true∧nam (us (p.d i).nm)=true∧ran (p.d i)=ran (q.d i)
 d:∀i,i<p.ds.n→(p.d i).ps=(q.d i).ps∧(p.d i).inp=(q.d i).inp∧(p.d i).ty=(q.d i).ty∧(p.d i).len=(q.d i).len
 iN:p.is.n=q.is.n
 i:∀j,j<p.is.n→(p.i j).shl nam∧∀S,(q.i j).ck nam S=(p.i j).nmd.ck nam S
 sN:p.ss.n=q.ss.n
 s:∀j,j<p.ss.n→(p.s j).shl nam∧∀S,(q.s j).ck nam S=(p.s j).nmd.ck nam S
theorem Pr.ck_us {nam:List UInt8→Bool}{ran:De→Bool}{p q:Pr}(h:Pu nam ran p q):q.ck nam ran=p.ck nam ran:=by
 have hS:∀b,Ru ⟨p.ds.n,p.d,[],b⟩ ⟨p.ds.n,q.d,[],b⟩:=fun b=>⟨rfl,h.nm,fun i hi=>(h.d i hi).2,rfl,rfl⟩
 have e1:∀n,n≤p.ds.n→desC nam ran q.d n=desC nam ran p.d n:=by
  intro n
  induction n with
  | zero=>intro _;rfl
  | succ n ih=>
   intro hn;simp only[desC];rw[ih (by omega)]
   congr 1
   funext c
   obtain⟨g1,g2,g3,g4⟩:=h.d n hn;obtain⟨k1,k2,k3⟩:=h.ok n hn;exact deC_us (fun j hj=>h.nm j (by omega)) g1 g2 g3 g4 k3 k1 k2 c
 have g1:seqC (fun i=>(q.i i).ck nam ⟨p.ds.n,q.d,[],true⟩) p.is.n=seqC (fun i=>(p.i i).ck nam ⟨p.ds.n,p.d,[],true⟩) p.is.n:=seqC_congr fun j hj=>by rw[(h.i j hj).2];exact St.ck_nmd (hS true) (h.i j hj).1
 have g2:seqC (fun i=>(q.s i).ck nam ⟨p.ds.n,q.d,[],false⟩) p.ss.n=seqC (fun i=>(p.s i).ck nam ⟨p.ds.n,p.d,[],false⟩) p.ss.n:=seqC_congr fun j hj=>by rw[(h.s j hj).2];exact St.ck_nmd (hS false) (h.s j hj).1
 unfold Pr.ck;rw[←h.tk,←h.dn,←h.iN,←h.sN,e1 _ (Nat.le_refl _),g1,g2]
def Sm (b:ByteArray):Prop:=b.size≤1000000000
theorem sadd_sm {P:Program}(w:World)(a b:ByteArray)(ha:Sm a)(hb:Sm b):(Op.stringOp .add a b).run P w=.ok (.string (a++b)) w:=
 run_string_add_sum w a b (by unfold Sm at *;omega)
def caH (h:EH)(s:Sl):EH:=⟨h.op,h.ps,h.bo,h.it,h.fl,if h.op=4 then us h.nm else h.nm,s⟩
def RetCa (e:Ex)(w:World)(r:Ending)(w':World):Prop:=∃e':Ex,r=.returned e'.h.v∧XO (Fro w.heap.size) e' w'∧e'.eqv e.cal∧Below w.heap.size w w'
def CaX (B:Nat)(e:Ex):Prop:=∀(w:World),e.In B w→B≤w.heap.size→Calls Tryz.prog 31 #[e.h.v] w (RetCa e w)
theorem caH_ok {h:EH}{s:Sl}(hl:h.nm.length≤1000000)(g:h.ok)(hs:s.ok):(caH h s).ok:=by
 refine⟨g.op0,g.op1,g.ps0,g.ps1,g.it0,g.it1,g.fl,?_,hs⟩;show(if h.op=4 then us h.nm else h.nm).length≤maxLen;split
 ·unfold us maxLen;rw[List.length_append];show h.nm.length+1≤_;omega
 ·exact g.nm
theorem us_str (l:List UInt8):(⟨l.toArray⟩:ByteArray)++⟨#[95]⟩=⟨(us l).toArray⟩:=by
 apply ByteArray.ext;rw[ByteArray.data_append]
 simp[us]
theorem sadd_us {l:List UInt8}(h:l.length≤1000000)(w:World):(Op.stringOp .add ⟨l.toArray⟩ ⟨#[95]⟩).run Tryz.prog w=.ok (.string ⟨(us l).toArray⟩) w:=by
 rw[←us_str];exact sadd_sm w _ _ (by show ByteArray.size _≤_;rw[Lib.size_eq];show l.length≤_;omega) (by show ByteArray.size _≤_;decide)
theorem ca_eqv {e:Ex}{A:Option Addr}{c:Nat}{K:Nat→Ex}(h:∀i,i<e.h.s.n→(K i).eqv (e.k i).cal):(Ex.mk (caH e.h ⟨A,e.h.s.n,c⟩) K).eqv e.cal:=by
 cases e with
 | no=>exact⟨by simp[hdS,Ex.cal,Ex.h,caH,zeroH],rfl,fun i hi=>absurd hi (Nat.not_lt_zero i)⟩
 | mk h' k=>exact⟨by simp[hdS,Ex.cal,Ex.h,caH]<;>rfl,rfl,h⟩
theorem called_of (B:Nat)(e:Ex)(hn4:e.h.s.n≤100000)(hnm:e.h.nm.length≤1000000)(ih:∀i,i<e.h.s.n→CaX B (e.k i)):CaX B e:=by
 intro w hI hB;have hb:Below w.heap.size w ((bx w (xO e.h)).alloc zX):=bel_alloc (bx_bel (Below.refl _ _) (Nat.le_refl _) _) _;have g0:Blk ((bx w (xO e.h)).alloc zX) w.heap.size 42 e.h.va:=(Below.heap_alloc _ _ _ (by rw[bx_size];omega)).trans (bx_new _ _)
 have g1:Blk ((bx w (xO e.h)).alloc zX) (w.heap.size+1) 42 zeroH.va:=by
  have:=Blk.new (bx w (xO e.h)) 42 zeroH.va;rw[bx_size]at this;exact this
 have z1:((bx w (xO e.h)).alloc zX).heap.size=w.heap.size+1+1:=by rw[World.size_alloc,bx_size]
 have G0:=Hj g0;have R1:=Hj g1;have Z1:=Hj z1;have HI:=Hj (hI.xs.below hb hB);have BW:=Hj hb;have HB:=Hj hB;have IH:=Hj ih;have OK:=Hj (fun s hs=>caH_ok (s:=s) hnm hI.ok hs);have HN:=Hj hn4;have HNM:=Hj hnm;clear hI hb hB ih hn4 g0 g1 z1 hnm
 obtain⟨i0,HI0,hi0⟩:∃i,Tryz.prog.info? 42=some i∧(i.zero=some zeroH.v∧i.size=7∧i.bytes=72):=by
  have h:=expr_info
  cases hh:Tryz.prog.info? 42 with
  | none=>rw[hh]at h;cases h
  | some i=>
   rw[hh]at h;have h:=Option.some.inj h;simp only[Prod.mk.injEq]at h;exact⟨i,rfl,h⟩
 have HIN:=Hj (And.intro HI0 hi0);clear HI0 hi0;show Calls Tryz.prog 31 #[.agg #[.int .u8 e.h.op,.int .i64 e.h.ps,.bool e.h.bo,.int .i32 e.h.it,.int .u64 e.h.fl,.string ⟨e.h.nm.toArray⟩,.slice e.h.s.ao e.h.s.n e.h.s.c]] w _;go_enter Tryz.func31,Tryz.ntmps31;go_upto_region 1 with fail;rw[bx_x];change (Code.region 1 _ _).wp _ _ _ ((bx w (xO e.h)).alloc zX);generalize (bx w (xO e.h)).alloc zX=W at *;have c0:W.cell? ⟨w.heap.size,0,none⟩=some (.int .u8 e.h.op):=G0.out.cell 0
 go_upto_if 7 with fail
 go_cut [7] (fun v wx=>∃bb:Bool,v=.bool bb∧Hid (Blk wx w.heap.size 42 (EH.va (caH e.h e.h.s)))∧Hid (Blk wx (w.heap.size+1) 42 zeroH.va)∧Hid (XsIn B wx e.h.s e.k)∧Hid (Below w.heap.size w wx)∧Hid (wx.heap.size=w.heap.size+1+1))
 case first=>
  by_cases h4:e.h.op=4
  case pos=>
   have b4:(e.h.op == 4)=true:=by simp[h4]
   have e4:caH e.h e.h.s=⟨e.h.op,e.h.ps,e.h.bo,e.h.it,e.h.fl,us e.h.nm,e.h.s⟩:=by unfold caH;rw[if_pos h4]
   have m:W.cell? ⟨w.heap.size,5,none⟩=some (.string ⟨e.h.nm.toArray⟩):=G0.out.cell 5;have z:W.frozen? ⟨w.heap.size,5,none⟩=false:=G0.out.frozen 5;have q:=G0.out.lt;have SADD:=fun w=>sadd_us HNM.out w;have XB:Hid (Blk (W.setCell ⟨w.heap.size,5,none⟩ (.string ⟨(us e.h.nm).toArray⟩)) w.heap.size 42 (EH.va (caH e.h e.h.s))):=by rw[e4];exact G0.out.set_ 5 (.string ⟨(us e.h.nm).toArray⟩)
   have R2:Hid (Blk (W.setCell ⟨w.heap.size,5,none⟩ (.string ⟨(us e.h.nm).toArray⟩)) (w.heap.size+1) 42 zeroH.va):=R1.out.far (p:=⟨w.heap.size,5,none⟩) (Nat.succ_ne_self _) _;have HI2:=Hj (HI.out.below (Below.setCell (Below.refl w.heap.size W) (p:=⟨w.heap.size,5,none⟩) (Nat.le_refl _) (.string ⟨(us e.h.nm).toArray⟩)) HB.out);have BW2:=Hj (bel_set BW.out (p:=⟨w.heap.size,5,none⟩) (Nat.le_refl _) (.string ⟨(us e.h.nm).toArray⟩));have Z2:Hid ((W.setCell ⟨w.heap.size,5,none⟩ (.string ⟨(us e.h.nm).toArray⟩)).heap.size=w.heap.size+1+1):=(World.size_setCell ..).trans Z1.out;clear h4 e4;go_wp2_with fail;go_meet;exact⟨_,rfl,XB.out,R2.out,HI2.out,BW2.out,Z2.out⟩
  case neg=>
   have b4:(e.h.op == 4)=false:=neB h4;have e4:caH e.h e.h.s=⟨e.h.op,e.h.ps,e.h.bo,e.h.it,e.h.fl,e.h.nm,e.h.s⟩:=by unfold caH;rw[if_neg h4]
   have XB:Hid (Blk W w.heap.size 42 (EH.va (caH e.h e.h.s))):=by rw[e4];exact G0.out
   clear h4 e4;go_wp2_with fail;go_meet;exact⟨_,rfl,XB.out,R1.out,HI.out,BW.out,Z1.out⟩
 obtain⟨bb,rfl,XB,R2,HI2,BW2,Z2⟩:=hcut;clear G0 R1 HI BW Z1 HNM;generalize wc=V at *;have HOWN:Hid (V.ownsRow (w.heap.size+1+1) 42 7 (.slice none 0 0) 0 (rowE (fun _=>Ex.no) 0)):=World.ownsRow_nil V (w.heap.size+1+1) 42 7;generalize hge:w.heap.size=ge at *;go_wp2_with fail
 go_loopg [3,4] e.h.s.n (fun gk l i wr=>∃(j c:Nat) (A:Option Addr) (K:Nat→Ex),l=.slice A j c∧i=.int .i64 (j:Int)∧Hid (gk=e.h.s.n-j∧j≤e.h.s.n)∧Hid (wr.ownsRow (ge+1+1) 42 7 (.slice A j c) j (rowE K j))∧Hid (∀i,i<j→XO (Dr (ge+1+1) (.slice A j c)) (K i) wr)∧Hid (∀i,i<j→(K i).eqv (e.k i).cal)∧Hid (Below V.heap.size V wr))
 case atStart=>exact⟨0,0,none,fun _=>.no,rfl,rfl,⟨rfl,Nat.zero_le _⟩,HOWN.out,(fun i hi=>absurd hi (Nat.not_lt_zero i)),(fun i hi=>absurd hi (Nat.not_lt_zero i)),Below.refl _ _⟩
 case round=>
  clear HOWN;obtain⟨j,c,A,K,rfl,rfl,HJ,OJ,KJ,SJ,BJ⟩:=hrel;have XJ:=Hj (XB.out.below BJ.out XB.out.lt);have c6:wr.cell? ⟨ge,6,none⟩=some (.slice e.h.s.ao e.h.s.n e.h.s.c):=XJ.out.cell 6;have HBV:Hid (B≤V.heap.size):=by have h1:=HB.out;have h2:=Z2.out;show B≤_;omega
  by_cases hlt:j<e.h.s.n
  ·have z0:(j:Int)<(e.h.s.n:Int):=by omega
   have ovi:IntKind.i64.wrap ((j:Int)+1)=((j+1:Nat):Int):=by have:=HN.out;rw[IntKind.wrap_i64];omega
   obtain⟨a,b',o,ha,hA,hb,X,I⟩:=XsIn.at (HI2.out.below BJ.out HBV.out) (i:=j) hlt;rw[ha]at c6;have x0:=X.c0;have x1:=X.c1;have x2:=X.c2;have x3:=X.c3;have x4:=X.c4;have x5:=X.c5;have x6:=X.c6;have CP:=Hj fun w' (hb:Below wr.heap.size wr w')=>IH.out j hlt w' (I.below hb (Nat.le_trans HBV.out BJ.out.size)) (Nat.le_trans HBV.out (Nat.le_trans BJ.out.size hb.size));have HLT:=Hj hlt;have LN:Hid (j+1≤maxLen):=by show _≤_;have:=HN.out;unfold maxLen;omega
   have LB:Hid ((j+1)*72≤140737488355328):=by show _≤_;have:=HN.out;omega
   have SZ:Hid (ge+1+1≤wr.heap.size):=by have h1:=BJ.out.size;have h2:=Z2.out;show _≤_;omega
   have ONE:Hid (∀e':Ex,∀u∈e'.h.vs,u.oneCell'=true):=fun e'=>by simp[EH.vs,Value.oneCell']
   clear X hb I hlt ha;go_wp2_with fail;refine(CP.out wr (Below.refl _ _)).mono ?_;rintro y w8 ⟨e',rfl,xe,se,b8⟩;have XE:=Hj xe;have SE:=Hj se;have B8:=Hj b8;clear xe se b8 CP x0 x1 x2 x3 x4 x5 x6 c6;unfold EH.v
   go_wp2_with (at_builtin;refine wpList_append_moved _ rfl _ _ 40 rfl (ge+1+1) 42 i0 zeroH.v 7 72 Tryz.underlying40 HIN.out.1 HIN.out.2.1 HIN.out.2.2.1 HIN.out.2.2.2 rfl (by decide) (.slice A j c) j (rowE K j) rfl (own_belowK OJ.out (bel_alloc B8.out (.cells e'.h.vs.toArray 42))) ⟨w8.heap.size,0,none⟩ 1 1 e'.h.vs rfl rfl (new_oneE w8 e') (ONE.out e') LN.out LB.out (Nat.le_trans SZ.out (bel_alloc B8.out (.cells e'.h.vs.toArray 42)).size) ?_;intro v' w10 own' hgrow mv;obtain⟨D1,e1,rfl⟩:=own_form own')
   have BA:=bel_alloc B8.out (.cells e'.h.vs.toArray 42);have OW:=own_belowK OJ.out BA;have R2':=Hj (moreE_row own');have xe':XO (Dr (ge+1+1) (.slice A j c)) e' (w8.alloc (.cells e'.h.vs.toArray 42)):=(XE.out.bel (bel_one w8 _)).imp (fun k hk (x:wr.heap.size≤k)=>⟨Nat.le_trans SZ.out x,fun h=>Nat.lt_irrefl _ (Nat.lt_of_lt_of_le (own_block OJ.out h).2 x)⟩);have R3:=Hj (moreE_x (fun i hi=>app_xo hgrow mv ((KJ.out i hi).bel BA)) (app_xo hgrow mv xe'))
   have R4:Hid (∀i,i<j+1→((fun i=>if i<j then K i else e') i).eqv (e.k i).cal):=fun i hi=>by
    dsimp only;split
    ·rename_i h1;exact SJ.out i h1
    ·obtain rfl:i=j:=by omega
     exact SE.out
   have R5:Hid (Below V.heap.size V w10):=by
    have h:=BJ.out.trans (BA.mono BJ.out.size);exact h.trans (((gr_fx hgrow).mono (C:=V.heap.size) (Y:=fun k=>(Value.slice A j c).ownBlock=some k) h.size (fun _ _ x=>x)).bel (fun k hk x=>by have h1:=(own_block OW x).1;have h2:=Z2.out;omega))
   clear BA OW own' hgrow mv xe' XE SE B8 OJ KJ SJ;go_wp2_with fail
   go_roundg (e.h.s.n-(j+1))
   case measure=>have:=HJ.out;have:=HLT.out;omega
   case rel=>exact⟨j+1,e1,D1,fun i=>if i<j then K i else e',by go_num,by go_num,⟨rfl,HLT.out⟩,R2'.out,R3.out,R4.out,R5.out⟩
  ·obtain rfl:j=e.h.s.n:=by have:=HJ.out;omega
   have z0:¬(e.h.s.n:Int)<(e.h.s.n:Int):=by omega
   obtain⟨S,hS,hSn,hXL⟩:=own_xl OJ.out KJ.out;obtain⟨Sa,Sn,Sc⟩:=S
   obtain⟨rfl, -,rfl⟩:A=Sa∧e.h.s.n=Sn∧c=Sc:=by
    have h:=hS;unfold Sl.val at h;injection h with h1 h2 h3;exact⟨h1,h2,h3⟩
   have hSn:Sn=e.h.s.n:=hSn;subst hSn;have OK2:=OK.out ⟨A,e.h.s.n,c⟩ hXL.1;have XF:=Hj (row_in (h:=caH e.h ⟨A,e.h.s.n,c⟩) OK2 hXL);have SM:Hid ((Ex.mk (caH e.h ⟨A,e.h.s.n,c⟩) K).eqv e.cal):=ca_eqv SJ.out;have NR:=Hj (R2.out.below BJ.out R2.out.lt);have BB:=Hj (BW2.out.trans (BJ.out.mono (show ge≤V.heap.size by have:=Z2.out;omega)));have t6:=XJ.out.frozen 6;have qlt:=XJ.out.lt;have qne:ge≠ge+1:=by omega
   clear hlt hS hXL KJ SJ OJ OK2;go_upto_region 9 with fail;have XK:Hid (Blk (wr.setCell ⟨ge,6,none⟩ (.slice A (e.h.s.n) c)) ge 42 (EH.va (caH e.h ⟨A,e.h.s.n,c⟩))):=XJ.out.set_ 6 (.slice A (e.h.s.n) c);have NK:Hid (Blk (wr.setCell ⟨ge,6,none⟩ (.slice A (e.h.s.n) c)) (ge+1) 42 zeroH.va):=NR.out.far (p:=⟨ge,6,none⟩) (Nat.succ_ne_self _) _;have XFK:=Hj (XF.out.set (p:=⟨ge,6,none⟩) (fun(x:ge+1+1≤ge)=>by omega) (.slice A (e.h.s.n) c));have BBK:=Hj (Below.setCell BB.out (p:=⟨ge,6,none⟩) (Nat.le_refl ge) (.slice A (e.h.s.n) c));clear t6 qlt XJ NR XF BB c6;generalize wr.setCell ⟨ge,6,none⟩ (.slice A (e.h.s.n) c)=wv at *
   go_wp2_with (first
    | refine ld_ex (caH e.h ⟨A,e.h.s.n,c⟩) ge XK.out rfl _ rfl rfl ?_
    | refine st_ex (caH e.h ⟨A,e.h.s.n,c⟩) (ge+1) _ NK.out rfl rfl _ _ rfl rfl rfl ?_)
   refine bodyPost_ret (rs_ex rfl _ _ (ge+1) (caH e.h ⟨A,e.h.s.n,c⟩) rfl (NK.out.rowS _)) rfl ⟨Ex.mk (caH e.h ⟨A,e.h.s.n,c⟩) K,rfl,?_,SM.out,?_⟩
   ·refine(XFK.out.row (fun(x:ge+1+1≤ge+1)=>by omega) _).imp (fun k _ (x:ge+1+1≤k)=>?_)
    show w.heap.size≤k;omega
   ·show Below w.heap.size w _
    rw[hge];exact BBK.out.trans (((wr1_row wv (ge+1) _).1.mono (C:=ge) (Y:=On (ge+1)) (show ge≤wv.heap.size by have:=BBK.out.size;omega) (fun _ _ x=>x)).bel (fun k hk (x:k=ge+1)=>by omega))
theorem called_any (B:Nat)(e:Ex):e.wt≤100000→CaX B e:=by
 induction e using Ex.ind with
 | H e ih=>
  intro hw;exact called_of B e (Nat.le_trans rows_wt hw) (by rw[Ex.wt_eq]at hw;omega) fun i hi=>ih i hi (by have:=wt_k e hi;omega)
end Go.Proofs.YtkbicfffokegeaaGreatDoor
namespace Go.Proofs.YtkbicfffokegeaaGreatDoor
set_option maxHeartbeats 16000000
open Go.RowKit Go.Maps
set_option maxRecDepth 100000
theorem own_xs {w:World}{L n:Nat}{v:Value}{K:Nat→St}(h:w.ownsRow L 48 15 v n (rowC K n))(hK:∀i,i<n→XS (Dr L v) (K i) w):∃S:Sl,v=S.val∧S.n=n∧XB (Fro L) S K w:=by
 have hk:∀i,i<n→XS (Fro L) (K i) w:=fun i hi=>(hK i hi).imp (fun k _ x=>x.1);rcases h.2 with⟨rfl,rfl⟩|⟨g,cap,cur,rfl,hb,hg,hn,hc,hcs,ht⟩
 ·exact⟨⟨none,0,0⟩,rfl,rfl,xb_no⟩
 ·refine⟨⟨some ⟨g,0,none⟩,n,cap⟩,rfl,rfl,⟨hn,hc,fun e=>by cases e⟩,?_,hk⟩
  intro a ha i hi;cases ha;have hi:i<n:=hi;refine⟨(Array.getElem?_eq_some_iff.1 hg).1,fun j u hu=>?_⟩;rw[up_cell];refine⟨?_,h.cells (g:=g) rfl _ _ (rowC_at hi hu)⟩;rw[add_block];exact hb
theorem app_xsr {w w':World}{L:Nat}{v v':Value}{d:St}(gr:w.grownBy w' v.ownBlock)(mv:RowAt w v v')(h:XS (Dr L v) d w):XS (Dr L v') d w':=by
 have h2:XS (fun k=>Dr L v k∧v'.ownBlock≠some k) d w:=h.imp fun k hk x=>⟨x,fun e=>by
  rcases mv k e with h|h
  ·exact x.2 h
  ·omega⟩
 exact(h2.fx (gr_fx gr) (fun k hk x=>x.1.2 hk)).imp fun k _ x=>⟨x.1.1,x.2⟩
theorem moreC_row {w:World}{B n:Nat}{K:Nat→St}{b:St}{v:Value}(h:w.ownsRow B 48 15 v (n+1) (rowC K n++stvs b.h b.e.h)):w.ownsRow B 48 15 v (n+1) (rowC (fun i=>if i<n then K i else b) (n+1)):=by
 have e:rowC (fun i=>if i<n then K i else b) (n+1)=rowC K n++stvs b.h b.e.h:=by
  rw[rowC,rowC_congr (J:=K) (fun i hi=>by rw[if_pos hi]),if_neg (Nat.lt_irrefl n)]
 rw[e];exact h
theorem stm_slice (h:SH)(e:EH):Tryz.prog.builtSlice 48 1 [(0,stv h e)]=some (stvs h e).toArray:=by kernel_rfl
theorem bs_st {ops:Array Oper}{rest:List Oper}{o:Oper}{a:Act}{w:World}{Q:Exit→Act→World→Prop}(h:SH)(e:EH)(hgd:o.guard=none)(x:Operand)(ho:o.op=.buildSlice 23 1 #[(0,x)])(hx:a.eval x=stv h e)
  (hw:∀g w',Hid (g=w.heap.size)→Hid (Blk w' g 48 (stvs h e).toArray)→Hid (Below w.heap.size w w')→wpList Tryz.prog ops Q rest (a.put o.dst (.slice (some ⟨g,0,none⟩) 1 1)) w'):wpList Tryz.prog ops Q (o::rest) a w:=by
 refine Great.wpList_buildSliceTo hgd 23 48 1 #[(0,x)] ho w.heap.size rfl o.dst rfl Tryz.underlying23 (stvs h e).toArray ?_ (hw _ _ rfl (Blk.new w _ _) (bel_one w _));have e1:((#[(0,x)]:Array (Nat×Operand)).map fun(i,x)=>(i,a.eval x)).toList=[(0,stv h e)]:=by simp[hx]
 rw[e1];exact stm_slice h e
theorem new_stm {w:World}{g:Nat}{h:SH}{e:EH}(hb:Blk w g 48 (stvs h e).toArray)(j:Nat)(u:Value)(hu:(stvs h e)[j]? = some u):w.cell? ((⟨g,0,none⟩:Addr).add j)=some u:=by
 rw[Addr.add_mid,Nat.zero_add];exact(hb.cell j).trans (by rw[List.getElem?_toArray];exact hu)
end Go.Proofs.YtkbicfffokegeaaGreatDoor
