/-
  ParseParses: a source's tree, or what is wrong with it, is the reference's. (part 3 of 38) Conditions: none beside what the card ties.
-/
import Derived.Lib.ItoaNum
import Derived.Deep.Slices
import Derived.Lib.OthersKept
import Derived.Deep.MidRow
import Derived.Deep.WholeRow
import Derived.Test.YthmlhkllbichgaaGreatDoorVab
namespace Go.Proofs.YthmlhkllbichgaaGreatDoor
set_option maxHeartbeats 16000000
open Go.RowKit
set_option maxRecDepth 100000
structure Sl where
 ao:Option Addr
 n:Nat
 c:Nat
def Sl.val (s:Sl):Value:=.slice s.ao s.n s.c
structure EH where
 op:Int
 ps:Int
 bo:Bool
 it:Int
 fl:Int
 nm:List UInt8
 s:Sl
def zeroH:EH:=⟨0,0,false,0,0,[],⟨none,0,0⟩⟩
inductive Ex where
 | no
 | mk (h:EH) (k:Nat→Ex)
def Ex.h:Ex→EH
 | .no=>zeroH
 | .mk h _=>h
def Ex.k:Ex→Nat→Ex
 | .no=>fun _=>.no
 | .mk _ k=>k
theorem Ex.ind {P:Ex→Prop}(H:∀e:Ex,(∀i,i<e.h.s.n→P (e.k i))→P e)(e:Ex):P e:=by
 induction e with
 | no=>exact H .no fun i hi=>absurd hi (Nat.not_lt_zero i)
 | mk h k ih=>exact H (.mk h k) fun i _=>ih i
structure SH where
 kd:Int
 ps:Int
 nm:List UInt8
 xs:Sl
 lo:Int
 hi:Int
 ts:Sl
 es:Sl
def zeroS:SH:=⟨0,0,[],⟨none,0,0⟩,0,0,⟨none,0,0⟩,⟨none,0,0⟩⟩
inductive St where
 | no
 | mk (h:SH) (x:Nat→Ex) (e:Ex) (t:Nat→St) (l:Nat→St)
def St.h:St→SH
 | .no=>zeroS
 | .mk h _ _ _ _=>h
def St.x:St→Nat→Ex
 | .no=>fun _=>.no
 | .mk _ x _ _ _=>x
def St.e:St→Ex
 | .no=>.no
 | .mk _ _ e _ _=>e
def St.t:St→Nat→St
 | .no=>fun _=>.no
 | .mk _ _ _ t _=>t
def St.l:St→Nat→St
 | .no=>fun _=>.no
 | .mk _ _ _ _ l=>l
theorem St.ind {P:St→Prop}(H:∀s:St,(∀i,i<s.h.ts.n→P (s.t i))→(∀i,i<s.h.es.n→P (s.l i))→P s)(s:St):P s:=by
 induction s with
 | no=>exact H .no (fun i hi=>absurd hi (Nat.not_lt_zero i)) (fun i hi=>absurd hi (Nat.not_lt_zero i))
 | mk h x e t l it il=>exact H (.mk h x e t l) (fun i _=>it i) (fun i _=>il i)
structure De where
 ps:Int
 inp:Bool
 nm:List UInt8
 ty:Int
 len:Int
 rg:Bool
 lo:Ex
 hi:Ex
structure Pr where
 ticks:Int
 ds:Sl
 d:Nat→De
 is:Sl
 i:Nat→St
 ss:Sl
 s:Nat→St
def al (f:Nat→Bool):Nat→Bool
 | 0=>true
 | n+1=>al f n && f n
theorem al_iff {f:Nat→Bool}{n:Nat}:al f n=true↔∀i,i<n→f i=true:=by
 induction n with
 | zero=>simp[al]
 | succ n ih=>
  simp only[al,Bool.and_eq_true,ih];constructor
  ·rintro⟨a,b⟩ i hi
   rcases Nat.lt_succ_iff_lt_or_eq.1 hi with h|rfl
   ·exact a i h
   ·exact b
  ·exact fun h=>⟨fun i hi=>h i (by omega),h n (by omega)⟩
theorem al_false {f:Nat→Bool}{n:Nat}:al f n=false↔∃i,i<n∧f i=false:=by
 constructor
 ·intro h
  apply Classical.byContradiction;intro hn
  have:al f n=true:=al_iff.2 fun i hi=>by
   cases hf:f i with
   | true=>rfl
   | false=>exact absurd ⟨i,hi,hf⟩ hn
  rw[this]at h;cases h
 ·rintro⟨i,hi,hf⟩
  cases h:al f n with
  | false=>rfl
  | true=>rw[al_iff.1 h i hi]at hf;cases hf
def hdS (h g:EH):Bool:=decide (h.op=g.op) && (h.bo == g.bo) && decide (h.it=g.it) && decide (h.fl=g.fl) && (h.nm == g.nm) && decide (h.s.n=g.s.n)
def Ex.same:Ex→Ex→Bool
 | .no,f=>hdS zeroH f.h
 | .mk h k,f=>hdS h f.h && al (fun i=>(k i).same (f.k i)) h.s.n
def sameX (n:Nat)(k:Nat→Ex)(m:Nat)(l:Nat→Ex):Bool:=decide (n=m) && al (fun i=>(k i).same (l i)) n
theorem Ex.same_hd (e f:Ex):e.same f=(hdS e.h f.h && al (fun i=>(e.k i).same (f.k i)) e.h.s.n):=by
 cases e with
 | no=>simp[Ex.same,Ex.h,zeroH,al]
 | mk h k=>rfl
def hsS (h g:SH):Bool:=decide (h.kd=g.kd) && (h.nm == g.nm) && decide (h.lo=g.lo) && decide (h.hi=g.hi) && decide (h.ts.n=g.ts.n) && decide (h.es.n=g.es.n)
def St.same:St→St→Bool
 | .no,r=>hsS zeroS r.h && Ex.no.same r.e && sameX 0 (fun _=>.no) r.h.xs.n r.x
 | .mk h x e t l,r=>hsS h r.h && e.same r.e && sameX h.xs.n x r.h.xs.n r.x && al (fun i=>(t i).same (r.t i)) h.ts.n && al (fun i=>(l i).same (r.l i)) h.es.n
theorem St.same_hd (s r:St):s.same r=(hsS s.h r.h && s.e.same r.e && sameX s.h.xs.n s.x r.h.xs.n r.x && al (fun i=>(s.t i).same (r.t i)) s.h.ts.n && al (fun i=>(s.l i).same (r.l i)) s.h.es.n):=by
 cases s with
 | no=>simp[St.same,St.h,St.e,St.x,zeroS,al]
 | mk=>rfl
def sameS (n:Nat)(k:Nat→St)(m:Nat)(l:Nat→St):Bool:=decide (n=m) && al (fun i=>(k i).same (l i)) n
def De.same (a b:De):Bool:=(a.inp == b.inp) && (a.nm == b.nm) && decide (a.ty=b.ty) && decide (a.len=b.len) && (a.rg == b.rg) && a.lo.same b.lo && a.hi.same b.hi
def sameD (n:Nat)(k:Nat→De)(m:Nat)(l:Nat→De):Bool:=decide (n=m) && al (fun i=>(k i).same (l i)) n
def Pr.same (p q:Pr):Bool:=decide (p.ticks=q.ticks) && sameD p.ds.n p.d q.ds.n q.d && sameS p.is.n p.i q.is.n q.i && sameS p.ss.n p.s q.ss.n q.s
def opBin (op:Int):Bool:=decide (5≤op∧op≤16)
def Ex.bin (e:Ex):Bool:=opBin e.h.op
def signB (op:Int):List UInt8:=
 if op=5 then[43]else if op=6 then[45]else if op=7 then[42]else if op=8 then[47]else if op=9 then[60]else if op=10 then[60,61]else if op=11 then[61,61]
 else if op=12 then[33,61]else if op=13 then[62]else if op=14 then[62,61]else if op=15 then[38,38] else[124,124]
def brk (b:Bool)(l:List UInt8):List UInt8:=if b then 40::(l++[41])else l
def nameT (nm:List UInt8)(n:Nat)(a:List UInt8):List UInt8:=nm++(if 0<n then 91::(a++[93]) else[])
def headT (F:Int→List UInt8)(h:EH)(a0 s0 s1:List UInt8):List UInt8:=
 if h.op=1 then(if h.bo then[116,114,117,101] else[102,97,108,115,101])
 else if h.op=2 then Lib.itoa h.it
 else if h.op=3 then F h.fl
 else if h.op=4 then nameT h.nm h.s.n a0
 else if h.op=19 then[105,110,116,40]++a0++[41]
 else if h.op=20 then[102,108,111,97,116,40]++a0++[41]
 else if h.op=21 then[97,98,115,40]++a0++[41]
 else if h.op=17 then 45::s0
 else if h.op=18 then 33::s0
 else if opBin h.op then s0++[32]++signB h.op++[32]++s1
 else[]
def Ex.txt (F:Int→List UInt8):Ex→List UInt8
 | .no=>[]
 | .mk h k=>headT F h (if 0<h.s.n then(k 0).txt F else[]) (if 0<h.s.n then brk (k 0).bin ((k 0).txt F) else[]) (if 1<h.s.n then brk (k 1).bin ((k 1).txt F) else[])
theorem Ex.txt_eq (F:Int→List UInt8)(e:Ex):e.txt F=headT F e.h (if 0<e.h.s.n then(e.k 0).txt F else[]) (if 0<e.h.s.n then brk (e.k 0).bin ((e.k 0).txt F) else[]) (if 1<e.h.s.n then brk (e.k 1).bin ((e.k 1).txt F) else[]):=by
 cases e<;>rfl
theorem Ex.same_iff {e f:Ex}:e.same f=true↔e.h.op=f.h.op∧e.h.bo=f.h.bo∧e.h.it=f.h.it∧e.h.fl=f.h.fl∧e.h.nm=f.h.nm∧e.h.s.n=f.h.s.n∧∀i,i<e.h.s.n→(e.k i).same (f.k i)=true:=by
 rw[Ex.same_hd];simp only[hdS,Bool.and_eq_true,decide_eq_true_eq,beq_iff_eq,al_iff,and_assoc]
theorem Ex.symm {e:Ex}:∀ {f:Ex},e.same f=true→f.same e=true:=by
 induction e using Ex.ind with
 | H e ih=>
  intro f hs;obtain⟨h1,h2,h3,h4,h5,h6,h7⟩:=Ex.same_iff.1 hs;exact Ex.same_iff.2 ⟨h1.symm,h2.symm,h3.symm,h4.symm,h5.symm,h6.symm,fun i hi=>ih i (by omega) (h7 i (by omega))⟩
theorem Ex.trans {e:Ex}:∀ {f g:Ex},e.same f=true→f.same g=true→e.same g=true:=by
 induction e using Ex.ind with
 | H e ih=>
  intro f g hs ht;obtain⟨h1,h2,h3,h4,h5,h6,h7⟩:=Ex.same_iff.1 hs;obtain⟨g1,g2,g3,g4,g5,g6,g7⟩:=Ex.same_iff.1 ht;exact Ex.same_iff.2 ⟨h1.trans g1,h2.trans g2,h3.trans g3,h4.trans g4,h5.trans g5,h6.trans g6,fun i hi=>ih i hi (h7 i hi) (g7 i (by omega))⟩
theorem Ex.same_bin {e f:Ex}(h:e.same f=true):e.bin=f.bin:=by
 obtain⟨h1, -⟩:=Ex.same_iff.1 h;simp only[Ex.bin,h1]
theorem Ex.same_txt (F:Int→List UInt8){e:Ex}:∀ {f:Ex},e.same f=true→e.txt F=f.txt F:=by
 induction e using Ex.ind with
 | H e ih=>
  intro f hs;obtain⟨h1,h2,h3,h4,h5,h6,h7⟩:=Ex.same_iff.1 hs;have a0:0<f.h.s.n→(e.k 0).txt F=(f.k 0).txt F∧(e.k 0).bin=(f.k 0).bin:=fun h0=>⟨ih 0 (by omega) (h7 0 (by omega)),Ex.same_bin (h7 0 (by omega))⟩;have a1:1<f.h.s.n→(e.k 1).txt F=(f.k 1).txt F∧(e.k 1).bin=(f.k 1).bin:=fun h0=>⟨ih 1 (by omega) (h7 1 (by omega)),Ex.same_bin (h7 1 (by omega))⟩;rw[Ex.txt_eq F e,Ex.txt_eq F f];simp only[headT,h1,h2,h3,h4,h5,h6,nameT]
  by_cases c0:0<f.h.s.n
  ·by_cases c1:1<f.h.s.n
   ·simp only[if_pos c0,if_pos c1,a0 c0,a1 c1]
   ·simp only[if_pos c0,if_neg c1,a0 c0]
  ·simp only[if_neg c0,if_neg (show ¬1<f.h.s.n by omega)]
theorem sameX_iff {n m:Nat}{k l:Nat→Ex}:sameX n k m l=true↔n=m∧∀i,i<n→(k i).same (l i)=true:=by
 simp only[sameX,Bool.and_eq_true,decide_eq_true_eq,al_iff]
theorem St.same_iff {s r:St}:s.same r=true ↔
  (s.h.kd=r.h.kd∧s.h.nm=r.h.nm∧s.h.lo=r.h.lo∧s.h.hi=r.h.hi∧s.h.ts.n=r.h.ts.n∧s.h.es.n=r.h.es.n)∧s.e.same r.e=true∧(s.h.xs.n=r.h.xs.n∧∀i,i<s.h.xs.n→(s.x i).same (r.x i)=true)∧(∀i,i<s.h.ts.n→(s.t i).same (r.t i)=true)∧∀i,i<s.h.es.n→(s.l i).same (r.l i)=true:=by
 rw[St.same_hd];simp only[hsS,Bool.and_eq_true,decide_eq_true_eq,beq_iff_eq,al_iff,sameX_iff,and_assoc]
theorem St.symm {s:St}:∀ {r:St},s.same r=true→r.same s=true:=by
 induction s using St.ind with
 | H s it il=>
  intro r hs;obtain⟨⟨h1,h2,h3,h4,h7,h8⟩,h5,⟨h6,h6'⟩,h7',h8'⟩:=St.same_iff.1 hs;exact St.same_iff.2 ⟨⟨h1.symm,h2.symm,h3.symm,h4.symm,h7.symm,h8.symm⟩,Ex.symm h5,⟨h6.symm,fun i hi=>Ex.symm (h6' i (by omega))⟩,fun i hi=>it i (by omega) (h7' i (by omega)),fun i hi=>il i (by omega) (h8' i (by omega))⟩
theorem St.trans {s:St}:∀ {r q:St},s.same r=true→r.same q=true→s.same q=true:=by
 induction s using St.ind with
 | H s it il=>
  intro r q hs ht;obtain⟨⟨h1,h2,h3,h4,h7,h8⟩,h5,⟨h6,h6'⟩,h7',h8'⟩:=St.same_iff.1 hs;obtain⟨⟨g1,g2,g3,g4,g7,g8⟩,g5,⟨g6,g6'⟩,g7',g8'⟩:=St.same_iff.1 ht;exact St.same_iff.2 ⟨⟨h1.trans g1,h2.trans g2,h3.trans g3,h4.trans g4,h7.trans g7,h8.trans g8⟩,Ex.trans h5 g5,⟨h6.trans g6,fun i hi=>Ex.trans (h6' i hi) (g6' i (by omega))⟩,fun i hi=>it i hi (h7' i hi) (g7' i (by omega)),fun i hi=>il i hi (h8' i hi) (g8' i (by omega))⟩
theorem sameS_iff {n m:Nat}{k l:Nat→St}:sameS n k m l=true↔n=m∧∀i,i<n→(k i).same (l i)=true:=by
 simp only[sameS,Bool.and_eq_true,decide_eq_true_eq,al_iff]
theorem De.same_iff {a b:De}:a.same b=true↔a.inp=b.inp∧a.nm=b.nm∧a.ty=b.ty∧a.len=b.len∧a.rg=b.rg∧a.lo.same b.lo=true∧a.hi.same b.hi=true:=by
 simp only[De.same,Bool.and_eq_true,decide_eq_true_eq,beq_iff_eq,and_assoc]
theorem sameD_iff {n m:Nat}{k l:Nat→De}:sameD n k m l=true↔n=m∧∀i,i<n→(k i).same (l i)=true:=by
 simp only[sameD,Bool.and_eq_true,decide_eq_true_eq,al_iff]
theorem Pr.same_iff {p q:Pr}:p.same q=true↔p.ticks=q.ticks∧sameD p.ds.n p.d q.ds.n q.d=true∧sameS p.is.n p.i q.is.n q.i=true∧sameS p.ss.n p.s q.ss.n q.s=true:=by
 simp only[Pr.same,Bool.and_eq_true,decide_eq_true_eq,and_assoc]
theorem Pr.symm {p q:Pr}(h:p.same q=true):q.same p=true:=by
 obtain⟨h1,h2,h3,h4⟩:=Pr.same_iff.1 h;rw[sameD_iff]at h2;rw[sameS_iff]at h3 h4;refine Pr.same_iff.2 ⟨h1.symm,sameD_iff.2 ⟨h2.1.symm,fun i hi=>?_⟩,sameS_iff.2 ⟨h3.1.symm,fun i hi=>St.symm (h3.2 i (by omega))⟩,sameS_iff.2 ⟨h4.1.symm,fun i hi=>St.symm (h4.2 i (by omega))⟩⟩;obtain⟨a1,a2,a3,a4,a5,a6,a7⟩:=De.same_iff.1 (h2.2 i (by omega));exact De.same_iff.2 ⟨a1.symm,a2.symm,a3.symm,a4.symm,a5.symm,Ex.symm a6,Ex.symm a7⟩
theorem Pr.trans {p q r:Pr}(h:p.same q=true)(g:q.same r=true):p.same r=true:=by
 obtain⟨h1,h2,h3,h4⟩:=Pr.same_iff.1 h;obtain⟨g1,g2,g3,g4⟩:=Pr.same_iff.1 g;rw[sameD_iff]at h2 g2;rw[sameS_iff]at h3 h4 g3 g4;refine Pr.same_iff.2 ⟨h1.trans g1,sameD_iff.2 ⟨h2.1.trans g2.1,fun i hi=>?_⟩,sameS_iff.2 ⟨h3.1.trans g3.1,fun i hi=>St.trans (h3.2 i hi) (g3.2 i (by omega))⟩,sameS_iff.2 ⟨h4.1.trans g4.1,fun i hi=>St.trans (h4.2 i hi) (g4.2 i (by omega))⟩⟩;obtain⟨a1,a2,a3,a4,a5,a6,a7⟩:=De.same_iff.1 (h2.2 i hi);obtain⟨b1,b2,b3,b4,b5,b6,b7⟩:=De.same_iff.1 (g2.2 i (by omega));exact De.same_iff.2 ⟨a1.trans b1,a2.trans b2,a3.trans b3,a4.trans b4,a5.trans b5,Ex.trans a6 b6,Ex.trans a7 b7⟩
def Sl.ok (s:Sl):Prop:=s.n≤s.c∧s.c≤maxLen∧(s.ao=none→s.n=0)
structure EH.ok (h:EH):Prop where
 op0:0≤h.op
 op1:h.op≤255
 ps0:-9223372036854775808≤h.ps
 ps1:h.ps≤9223372036854775807
 it0:-2147483648≤h.it
 it1:h.it≤2147483647
 fl:Word h.fl
 nm:h.nm.length≤maxLen
 s:h.s.ok
def EH.vs (h:EH):List Value:=[.int .u8 h.op,.int .i64 h.ps,.bool h.bo,.int .i32 h.it,.int .u64 h.fl,.string ⟨h.nm.toArray⟩,.slice h.s.ao h.s.n h.s.c]
def EH.v (h:EH):Value:=.agg #[.int .u8 h.op,.int .i64 h.ps,.bool h.bo,.int .i32 h.it,.int .u64 h.fl,.string ⟨h.nm.toArray⟩,.slice h.s.ao h.s.n h.s.c]
def Rw (w:World)(B:Nat)(s:Sl)(sz:Nat)(cs:Nat→List Value):Prop:=∀a,s.ao=some a→∀i,i<s.n→a.block<B∧∀j v,(cs i)[j]? = some v→w.cell? (a.add (i*sz+j))=some v
theorem Rw.mono {w w':World}{B B':Nat}{s:Sl}{sz:Nat}{cs:Nat→List Value}(h:Rw w B s sz cs)(hb:∀p:Addr,p.block<B→w'.cell? p=w.cell? p)(hB:B≤B'):Rw w' B' s sz cs:=by
 intro a ha i hi;obtain⟨h1,h2⟩:=h a ha i hi;refine⟨by omega,fun j v hv=>?_⟩;rw[hb _ (by unfold Addr.add;split<;>exact h1)];exact h2 j v hv
def Ex.In (B:Nat)(w:World):Ex→Prop
 | .no=>True
 | .mk h k=>h.ok∧Rw w B h.s 7 (fun i=>(k i).h.vs)∧∀i,i<h.s.n→(k i).In B w
theorem zero_ok:zeroH.ok:=⟨by decide,by decide,by decide,by decide,by decide,by decide,by unfold Word zeroH;decide,Nat.zero_le _,⟨Nat.le_refl _,Nat.zero_le _,fun _=>rfl⟩⟩
theorem Ex.In.ok {B:Nat}{w:World}{e:Ex}(h:e.In B w):e.h.ok:=by
 cases e with
 | no=>exact zero_ok
 | mk h' k=>exact h.1
theorem Ex.In.mono {B B':Nat}{w w':World}(hb:∀p:Addr,p.block<B→w'.cell? p=w.cell? p)(hB:B≤B'){e:Ex}:e.In B w→e.In B' w':=by
 induction e with
 | no=>exact fun _=>trivial
 | mk h k ih=>exact fun⟨h1,h2,h3⟩=>⟨h1,h2.mono hb hB,fun i hi=>ih i (h3 i hi)⟩
def XsIn (B:Nat)(w:World)(s:Sl)(k:Nat→Ex):Prop:=s.ok∧Rw w B s 7 (fun i=>(k i).h.vs)∧∀i,i<s.n→(k i).In B w
theorem Ex.In.xs {B:Nat}{w:World}{e:Ex}(h:e.In B w):XsIn B w e.h.s e.k:=by
 cases e with
 | no=>exact⟨zero_ok.s,fun a ha=>(by simp[zeroH,Ex.h]at ha),fun i hi=>absurd hi (Nat.not_lt_zero i)⟩
 | mk h' k=>exact⟨h.1.s,h.2.1,h.2.2⟩
theorem XsIn.mono {B B':Nat}{w w':World}{s:Sl}{k:Nat→Ex}(h:XsIn B w s k)(hb:∀p:Addr,p.block<B→w'.cell? p=w.cell? p)(hB:B≤B'):XsIn B' w' s k:=
 ⟨h.1,h.2.1.mono hb hB,fun i hi=>(h.2.2 i hi).mono hb hB⟩
theorem bel_same {B B':Nat}{w w':World}(hb:Below B' w w')(h:B≤B'):∀p:Addr,p.block<B→w'.cell? p=w.cell? p:=fun _ hp=>hb.cell (by omega)
theorem Ex.In.below {B B':Nat}{w w':World}{e:Ex}(h:e.In B w)(hb:Below B' w w')(hB:B≤B'):e.In B w':=h.mono (bel_same hb hB) (Nat.le_refl _)
theorem XsIn.below {B B':Nat}{w w':World}{s:Sl}{k:Nat→Ex}(h:XsIn B w s k)(hb:Below B' w w')(hB:B≤B'):XsIn B w' s k:=h.mono (bel_same hb hB) (Nat.le_refl _)
structure X7 (w:World) (b o:Nat) (h:EH):Prop where
 c0:w.cell? ⟨b,o,none⟩=some (.int .u8 h.op)
 c1:w.cell? ⟨b,o+1,none⟩=some (.int .i64 h.ps)
 c2:w.cell? ⟨b,o+2,none⟩=some (.bool h.bo)
 c3:w.cell? ⟨b,o+3,none⟩=some (.int .i32 h.it)
 c4:w.cell? ⟨b,o+4,none⟩=some (.int .u64 h.fl)
 c5:w.cell? ⟨b,o+5,none⟩=some (.string ⟨h.nm.toArray⟩)
 c6:w.cell? ⟨b,o+6,none⟩=some (.slice h.s.ao h.s.n h.s.c)
theorem x7_of {w:World}{b o:Nat}{h:EH}(g:∀j v,h.vs[j]? = some v→w.cell? ⟨b,o+j,none⟩=some v):X7 w b o h:=⟨g 0 _ rfl,g 1 _ rfl,g 2 _ rfl,g 3 _ rfl,g 4 _ rfl,g 5 _ rfl,g 6 _ rfl⟩
theorem spot_none {w:World}{a:Addr}{v:Value}(h:w.cell? a=some v):a=⟨a.block,a.off,none⟩:=by
 obtain⟨b,o,s⟩:=a
 cases s with
 | none=>rfl
 | some s=>
  unfold World.cell? at h
  split at h<;>simp at h
theorem add_of {a:Addr}{i b o:Nat}(h:a.add i=⟨b,o,none⟩)(j:Nat):a.add (i+j)=⟨b,o+j,none⟩:=by
 rw[←Go.Deep.add_add,h];unfold Addr.add;split
 ·rename_i h0;subst h0;rfl
 ·rfl
theorem add_block (a:Addr)(i:Nat):(a.add i).block=a.block:=by unfold Addr.add;split<;>rfl
theorem Rw.at {w:World}{B:Nat}{s:Sl}{sz:Nat}{cs:Nat→List Value}(h:Rw w B s sz cs)(ho:s.ok){i:Nat}(hi:i<s.n){v0:Value}{r:List Value}(hc:cs i=v0::r) :
  ∃a b o,s.ao=some a∧a.add (i*sz)=⟨b,o,none⟩∧b<B∧∀j v,(cs i)[j]? = some v→w.cell? ⟨b,o+j,none⟩=some v:=by
 cases ha:s.ao with
 | none=>have:=ho.2.2 ha;omega
 | some a=>
  obtain⟨g1,g2⟩:=h a ha i hi;have e:a.add (i*sz)=⟨(a.add (i*sz)).block,(a.add (i*sz)).off,none⟩:=spot_none (v:=v0) (by have:=g2 0 v0 (by rw[hc];rfl);exact this);exact⟨a,_,_,rfl,e,by rw[add_block];exact g1,fun j v hv=>by rw[←add_of e j];exact g2 j v hv⟩
theorem XsIn.at {B:Nat}{w:World}{s:Sl}{k:Nat→Ex}(h:XsIn B w s k){i:Nat}(hi:i<s.n):∃a b o,s.ao=some a∧a.add (i*7)=⟨b,o,none⟩∧b<B∧X7 w b o (k i).h∧(k i).In B w:=by
 obtain⟨a,b,o,h1,h2,h3,h4⟩:=h.2.1.at h.1 hi rfl;exact⟨a,b,o,h1,h2,h3,x7_of h4,h.2.2 i hi⟩
structure SH.ok (h:SH):Prop where
 kd0:0≤h.kd
 kd1:h.kd≤255
 ps0:-9223372036854775808≤h.ps
 ps1:h.ps≤9223372036854775807
 lo0:-2147483648≤h.lo
 lo1:h.lo≤2147483647
 hi0:-2147483648≤h.hi
 hi1:h.hi≤2147483647
 nm:h.nm.length≤maxLen
 xs:h.xs.ok
 ts:h.ts.ok
 es:h.es.ok
def stvs (h:SH)(e:EH):List Value:=[.int .u8 h.kd,.int .i64 h.ps,.string ⟨h.nm.toArray⟩,.slice h.xs.ao h.xs.n h.xs.c,.int .u8 e.op,.int .i64 e.ps,.bool e.bo,.int .i32 e.it,.int .u64 e.fl,.string ⟨e.nm.toArray⟩,.slice e.s.ao e.s.n e.s.c,
 .int .i32 h.lo,.int .i32 h.hi,.slice h.ts.ao h.ts.n h.ts.c,.slice h.es.ao h.es.n h.es.c]
def stv (h:SH)(e:EH):Value:=.agg #[.int .u8 h.kd,.int .i64 h.ps,.string ⟨h.nm.toArray⟩,.slice h.xs.ao h.xs.n h.xs.c,.int .u8 e.op,.int .i64 e.ps,.bool e.bo,.int .i32 e.it,.int .u64 e.fl,.string ⟨e.nm.toArray⟩,.slice e.s.ao e.s.n e.s.c,
 .int .i32 h.lo,.int .i32 h.hi,.slice h.ts.ao h.ts.n h.ts.c,.slice h.es.ao h.es.n h.es.c]
def St.In (B:Nat)(w:World):St→Prop
 | .no=>True
 | .mk h x e t l=>h.ok∧XsIn B w h.xs x∧e.In B w∧Rw w B h.ts 15 (fun i=>stvs (t i).h (t i).e.h)∧(∀i,i<h.ts.n→(t i).In B w)∧Rw w B h.es 15 (fun i=>stvs (l i).h (l i).e.h)∧∀i,i<h.es.n→(l i).In B w
def SsIn (B:Nat)(w:World)(s:Sl)(k:Nat→St):Prop:=s.ok∧Rw w B s 15 (fun i=>stvs (k i).h (k i).e.h)∧∀i,i<s.n→(k i).In B w
theorem zeroS_ok:zeroS.ok:=⟨by decide,by decide,by decide,by decide,by decide,by decide,by decide,by decide,Nat.zero_le _,⟨Nat.le_refl _,Nat.zero_le _,fun _=>rfl⟩,⟨Nat.le_refl _,Nat.zero_le _,fun _=>rfl⟩,⟨Nat.le_refl _,Nat.zero_le _,fun _=>rfl⟩⟩
theorem St.In.xs {B:Nat}{w:World}{s:St}(h:s.In B w):XsIn B w s.h.xs s.x:=by
 cases s with
 | no=>exact⟨zeroS_ok.xs,fun a ha=>(by simp[zeroS,St.h]at ha),fun i hi=>absurd hi (Nat.not_lt_zero i)⟩
 | mk=>exact h.2.1
theorem St.In.ex {B:Nat}{w:World}{s:St}(h:s.In B w):s.e.In B w:=by
 cases s with
 | no=>trivial
 | mk=>exact h.2.2.1
theorem St.In.ts {B:Nat}{w:World}{s:St}(h:s.In B w):SsIn B w s.h.ts s.t:=by
 cases s with
 | no=>exact⟨zeroS_ok.ts,fun a ha=>(by simp[zeroS,St.h]at ha),fun i hi=>absurd hi (Nat.not_lt_zero i)⟩
 | mk=>exact⟨h.1.ts,h.2.2.2.1,h.2.2.2.2.1⟩
theorem St.In.es {B:Nat}{w:World}{s:St}(h:s.In B w):SsIn B w s.h.es s.l:=by
 cases s with
 | no=>exact⟨zeroS_ok.es,fun a ha=>(by simp[zeroS,St.h]at ha),fun i hi=>absurd hi (Nat.not_lt_zero i)⟩
 | mk=>exact⟨h.1.es,h.2.2.2.2.2.1,h.2.2.2.2.2.2⟩
theorem St.In.mono {B B':Nat}{w w':World}(hb:∀p:Addr,p.block<B→w'.cell? p=w.cell? p)(hB:B≤B'){s:St}:s.In B w→s.In B' w':=by
 induction s with
 | no=>exact fun _=>trivial
 | mk h x e t l it il=>exact fun⟨h1,h2,h3,h4,h5,h6,h7⟩=>⟨h1,h2.mono hb hB,h3.mono hb hB,h4.mono hb hB,fun i hi=>it i (h5 i hi),h6.mono hb hB,fun i hi=>il i (h7 i hi)⟩
theorem SsIn.mono {B B':Nat}{w w':World}{s:Sl}{k:Nat→St}(h:SsIn B w s k)(hb:∀p:Addr,p.block<B→w'.cell? p=w.cell? p)(hB:B≤B'):SsIn B' w' s k:=
 ⟨h.1,h.2.1.mono hb hB,fun i hi=>(h.2.2 i hi).mono hb hB⟩
theorem SsIn.below {B B':Nat}{w w':World}{s:Sl}{k:Nat→St}(h:SsIn B w s k)(hb:Below B' w w')(hB:B≤B'):SsIn B w' s k:=h.mono (bel_same hb hB) (Nat.le_refl _)
structure S15 (w:World) (b o:Nat) (h:SH) (e:EH):Prop where
 c0:w.cell? ⟨b,o,none⟩=some (.int .u8 h.kd)
 c1:w.cell? ⟨b,o+1,none⟩=some (.int .i64 h.ps)
 c2:w.cell? ⟨b,o+2,none⟩=some (.string ⟨h.nm.toArray⟩)
 c3:w.cell? ⟨b,o+3,none⟩=some (.slice h.xs.ao h.xs.n h.xs.c)
 c4:w.cell? ⟨b,o+4,none⟩=some (.int .u8 e.op)
 c5:w.cell? ⟨b,o+5,none⟩=some (.int .i64 e.ps)
 c6:w.cell? ⟨b,o+6,none⟩=some (.bool e.bo)
 c7:w.cell? ⟨b,o+7,none⟩=some (.int .i32 e.it)
 c8:w.cell? ⟨b,o+8,none⟩=some (.int .u64 e.fl)
 c9:w.cell? ⟨b,o+9,none⟩=some (.string ⟨e.nm.toArray⟩)
 c10:w.cell? ⟨b,o+10,none⟩=some (.slice e.s.ao e.s.n e.s.c)
 c11:w.cell? ⟨b,o+11,none⟩=some (.int .i32 h.lo)
 c12:w.cell? ⟨b,o+12,none⟩=some (.int .i32 h.hi)
 c13:w.cell? ⟨b,o+13,none⟩=some (.slice h.ts.ao h.ts.n h.ts.c)
 c14:w.cell? ⟨b,o+14,none⟩=some (.slice h.es.ao h.es.n h.es.c)
theorem s15_of {w:World}{b o:Nat}{h:SH}{e:EH}(g:∀j v,(stvs h e)[j]? = some v→w.cell? ⟨b,o+j,none⟩=some v):S15 w b o h e:=
 ⟨g 0 _ rfl,g 1 _ rfl,g 2 _ rfl,g 3 _ rfl,g 4 _ rfl,g 5 _ rfl,g 6 _ rfl,g 7 _ rfl,g 8 _ rfl,g 9 _ rfl,g 10 _ rfl,g 11 _ rfl,g 12 _ rfl,g 13 _ rfl,g 14 _ rfl⟩
theorem SsIn.at {B:Nat}{w:World}{s:Sl}{k:Nat→St}(h:SsIn B w s k){i:Nat}(hi:i<s.n):∃a b o,s.ao=some a∧a.add (i*15)=⟨b,o,none⟩∧b<B∧S15 w b o (k i).h (k i).e.h∧(k i).In B w:=by
 obtain⟨a,b,o,h1,h2,h3,h4⟩:=h.2.1.at h.1 hi rfl;exact⟨a,b,o,h1,h2,h3,s15_of h4,h.2.2 i hi⟩
structure De.ok (d:De):Prop where
 ps0:-9223372036854775808≤d.ps
 ps1:d.ps≤9223372036854775807
 ty0:0≤d.ty
 ty1:d.ty≤255
 len0:-9223372036854775808≤d.len
 len1:d.len≤9223372036854775807
 nm:d.nm.length≤maxLen
def dcvs (d:De)(a b:EH):List Value:=[.int .i64 d.ps,.bool d.inp,.string ⟨d.nm.toArray⟩,.int .u8 d.ty,.int .i64 d.len,.bool d.rg,.int .u8 a.op,.int .i64 a.ps,.bool a.bo,.int .i32 a.it,.int .u64 a.fl,.string ⟨a.nm.toArray⟩,.slice a.s.ao a.s.n a.s.c,
 .int .u8 b.op,.int .i64 b.ps,.bool b.bo,.int .i32 b.it,.int .u64 b.fl,.string ⟨b.nm.toArray⟩,.slice b.s.ao b.s.n b.s.c]
def dcv (d:De)(a b:EH):Value:=.agg #[.int .i64 d.ps,.bool d.inp,.string ⟨d.nm.toArray⟩,.int .u8 d.ty,.int .i64 d.len,.bool d.rg,.int .u8 a.op,.int .i64 a.ps,.bool a.bo,.int .i32 a.it,.int .u64 a.fl,.string ⟨a.nm.toArray⟩,.slice a.s.ao a.s.n a.s.c,
 .int .u8 b.op,.int .i64 b.ps,.bool b.bo,.int .i32 b.it,.int .u64 b.fl,.string ⟨b.nm.toArray⟩,.slice b.s.ao b.s.n b.s.c]
def De.In (B:Nat)(w:World)(d:De):Prop:=d.ok∧d.lo.In B w∧d.hi.In B w
theorem De.In.mono {B B':Nat}{w w':World}{d:De}(h:d.In B w)(hb:∀p:Addr,p.block<B→w'.cell? p=w.cell? p)(hB:B≤B'):d.In B' w':=⟨h.1,h.2.1.mono hb hB,h.2.2.mono hb hB⟩
def DsIn (B:Nat)(w:World)(s:Sl)(k:Nat→De):Prop:=s.ok∧Rw w B s 20 (fun i=>dcvs (k i) (k i).lo.h (k i).hi.h)∧∀i,i<s.n→(k i).In B w
theorem DsIn.mono {B B':Nat}{w w':World}{s:Sl}{k:Nat→De}(h:DsIn B w s k)(hb:∀p:Addr,p.block<B→w'.cell? p=w.cell? p)(hB:B≤B'):DsIn B' w' s k:=
 ⟨h.1,h.2.1.mono hb hB,fun i hi=>(h.2.2 i hi).mono hb hB⟩
theorem DsIn.below {B B':Nat}{w w':World}{s:Sl}{k:Nat→De}(h:DsIn B w s k)(hb:Below B' w w')(hB:B≤B'):DsIn B w' s k:=h.mono (bel_same hb hB) (Nat.le_refl _)
structure D20 (w:World) (b o:Nat) (d:De) (x y:EH):Prop where
 c0:w.cell? ⟨b,o,none⟩=some (.int .i64 d.ps)
 c1:w.cell? ⟨b,o+1,none⟩=some (.bool d.inp)
 c2:w.cell? ⟨b,o+2,none⟩=some (.string ⟨d.nm.toArray⟩)
 c3:w.cell? ⟨b,o+3,none⟩=some (.int .u8 d.ty)
 c4:w.cell? ⟨b,o+4,none⟩=some (.int .i64 d.len)
 c5:w.cell? ⟨b,o+5,none⟩=some (.bool d.rg)
 c6:w.cell? ⟨b,o+6,none⟩=some (.int .u8 x.op)
 c7:w.cell? ⟨b,o+7,none⟩=some (.int .i64 x.ps)
 c8:w.cell? ⟨b,o+8,none⟩=some (.bool x.bo)
 c9:w.cell? ⟨b,o+9,none⟩=some (.int .i32 x.it)
 c10:w.cell? ⟨b,o+10,none⟩=some (.int .u64 x.fl)
 c11:w.cell? ⟨b,o+11,none⟩=some (.string ⟨x.nm.toArray⟩)
 c12:w.cell? ⟨b,o+12,none⟩=some (.slice x.s.ao x.s.n x.s.c)
 c13:w.cell? ⟨b,o+13,none⟩=some (.int .u8 y.op)
 c14:w.cell? ⟨b,o+14,none⟩=some (.int .i64 y.ps)
 c15:w.cell? ⟨b,o+15,none⟩=some (.bool y.bo)
 c16:w.cell? ⟨b,o+16,none⟩=some (.int .i32 y.it)
 c17:w.cell? ⟨b,o+17,none⟩=some (.int .u64 y.fl)
 c18:w.cell? ⟨b,o+18,none⟩=some (.string ⟨y.nm.toArray⟩)
 c19:w.cell? ⟨b,o+19,none⟩=some (.slice y.s.ao y.s.n y.s.c)
theorem d20_of {w:World}{b o:Nat}{d:De}{x y:EH}(g:∀j v,(dcvs d x y)[j]? = some v→w.cell? ⟨b,o+j,none⟩=some v):D20 w b o d x y:=
 ⟨g 0 _ rfl,g 1 _ rfl,g 2 _ rfl,g 3 _ rfl,g 4 _ rfl,g 5 _ rfl,g 6 _ rfl,g 7 _ rfl,g 8 _ rfl,g 9 _ rfl,g 10 _ rfl,g 11 _ rfl,g 12 _ rfl,g 13 _ rfl,g 14 _ rfl,g 15 _ rfl,g 16 _ rfl,g 17 _ rfl,g 18 _ rfl,g 19 _ rfl⟩
theorem DsIn.at {B:Nat}{w:World}{s:Sl}{k:Nat→De}(h:DsIn B w s k){i:Nat}(hi:i<s.n):∃a b o,s.ao=some a∧a.add (i*20)=⟨b,o,none⟩∧b<B∧D20 w b o (k i) (k i).lo.h (k i).hi.h∧(k i).In B w:=by
 obtain⟨a,b,o,h1,h2,h3,h4⟩:=h.2.1.at h.1 hi rfl;exact⟨a,b,o,h1,h2,h3,d20_of h4,h.2.2 i hi⟩
theorem X7.below {w w':World}{B B' b o:Nat}{h:EH}(X:X7 w b o h)(g:b<B)(hb:Below B' w w')(hB:B≤B'):X7 w' b o h:=⟨(bel_same hb hB _ g).trans X.c0,(bel_same hb hB _ g).trans X.c1,(bel_same hb hB _ g).trans X.c2,(bel_same hb hB _ g).trans X.c3,(bel_same hb hB _ g).trans X.c4,(bel_same hb hB _ g).trans X.c5,(bel_same hb hB _ g).trans X.c6⟩
theorem S15.below {w w':World}{B B' b o:Nat}{h:SH}{e:EH}(X:S15 w b o h e)(g:b<B)(hb:Below B' w w')(hB:B≤B'):S15 w' b o h e:=⟨(bel_same hb hB _ g).trans X.c0,(bel_same hb hB _ g).trans X.c1,(bel_same hb hB _ g).trans X.c2,(bel_same hb hB _ g).trans X.c3,(bel_same hb hB _ g).trans X.c4,(bel_same hb hB _ g).trans X.c5,(bel_same hb hB _ g).trans X.c6,(bel_same hb hB _ g).trans X.c7,(bel_same hb hB _ g).trans X.c8,(bel_same hb hB _ g).trans X.c9,(bel_same hb hB _ g).trans X.c10,(bel_same hb hB _ g).trans X.c11,(bel_same hb hB _ g).trans X.c12,(bel_same hb hB _ g).trans X.c13,(bel_same hb hB _ g).trans X.c14⟩
theorem D20.below {w w':World}{B B' b o:Nat}{d:De}{x y:EH}(X:D20 w b o d x y)(g:b<B)(hb:Below B' w w')(hB:B≤B'):D20 w' b o d x y:=⟨(bel_same hb hB _ g).trans X.c0,(bel_same hb hB _ g).trans X.c1,(bel_same hb hB _ g).trans X.c2,(bel_same hb hB _ g).trans X.c3,(bel_same hb hB _ g).trans X.c4,(bel_same hb hB _ g).trans X.c5,(bel_same hb hB _ g).trans X.c6,(bel_same hb hB _ g).trans X.c7,(bel_same hb hB _ g).trans X.c8,(bel_same hb hB _ g).trans X.c9,(bel_same hb hB _ g).trans X.c10,(bel_same hb hB _ g).trans X.c11,(bel_same hb hB _ g).trans X.c12,(bel_same hb hB _ g).trans X.c13,(bel_same hb hB _ g).trans X.c14,(bel_same hb hB _ g).trans X.c15,(bel_same hb hB _ g).trans X.c16,(bel_same hb hB _ g).trans X.c17,(bel_same hb hB _ g).trans X.c18,(bel_same hb hB _ g).trans X.c19⟩
theorem Ex.In.drew {B:Nat}{w:World}{e:Ex}(h:e.In B w):e.In B w.drew:=Ex.In.mono (w:=w) (w':=w.drew) (fun _ _=>rfl) (Nat.le_refl _) h
def Pr.In (B:Nat)(w:World)(p:Pr):Prop:=(-9223372036854775808≤p.ticks∧p.ticks≤9223372036854775807)∧DsIn B w p.ds p.d∧SsIn B w p.is p.i∧SsIn B w p.ss p.s
def Pr.v (p:Pr):Value:=.agg #[.int .i64 p.ticks,.slice p.ds.ao p.ds.n p.ds.c,.slice p.is.ao p.is.n p.is.c,.slice p.ss.ao p.ss.n p.ss.c]
theorem Pr.In.below {B B':Nat}{w w':World}{p:Pr}(h:p.In B w)(hb:Below B' w w')(hB:B≤B'):p.In B w':=⟨h.1,h.2.1.below hb hB,h.2.2.1.below hb hB,h.2.2.2.below hb hB⟩
def xO (h:EH):Obj:=.cells #[.int .u8 h.op,.int .i64 h.ps,.bool h.bo,.int .i32 h.it,.int .u64 h.fl,.string ⟨h.nm.toArray⟩,.slice h.s.ao h.s.n h.s.c] 41 (0,0)
def sO (h:SH)(e:EH):Obj:=.cells #[.int .u8 h.kd,.int .i64 h.ps,.string ⟨h.nm.toArray⟩,.slice h.xs.ao h.xs.n h.xs.c,.int .u8 e.op,.int .i64 e.ps,.bool e.bo,.int .i32 e.it,.int .u64 e.fl,.string ⟨e.nm.toArray⟩,.slice e.s.ao e.s.n e.s.c,
 .int .i32 h.lo,.int .i32 h.hi,.slice h.ts.ao h.ts.n h.ts.c,.slice h.es.ao h.es.n h.es.c] 53 (0,0)
def dO (d:De)(a b:EH):Obj:=.cells #[.int .i64 d.ps,.bool d.inp,.string ⟨d.nm.toArray⟩,.int .u8 d.ty,.int .i64 d.len,.bool d.rg,.int .u8 a.op,.int .i64 a.ps,.bool a.bo,.int .i32 a.it,.int .u64 a.fl,.string ⟨a.nm.toArray⟩,.slice a.s.ao a.s.n a.s.c,
 .int .u8 b.op,.int .i64 b.ps,.bool b.bo,.int .i32 b.it,.int .u64 b.fl,.string ⟨b.nm.toArray⟩,.slice b.s.ao b.s.n b.s.c] 56 (0,0)
def pO (p:Pr):Obj:=.cells #[.int .i64 p.ticks,.slice p.ds.ao p.ds.n p.ds.c,.slice p.is.ao p.is.n p.is.c,.slice p.ss.ao p.ss.n p.ss.c] 30 (0,0)
def bx (w:World)(o:Obj):World:=w.alloc o
theorem bx_x (w:World)(h:EH):w.alloc (.cells #[.int .u8 h.op,.int .i64 h.ps,.bool h.bo,.int .i32 h.it,.int .u64 h.fl,.string ⟨h.nm.toArray⟩,.slice h.s.ao h.s.n h.s.c] 41 (0,0))=bx w (xO h):=rfl
theorem bx_s (w:World)(h:SH)(e:EH):w.alloc (.cells #[.int .u8 h.kd,.int .i64 h.ps,.string ⟨h.nm.toArray⟩,.slice h.xs.ao h.xs.n h.xs.c,.int .u8 e.op,.int .i64 e.ps,.bool e.bo,.int .i32 e.it,.int .u64 e.fl,.string ⟨e.nm.toArray⟩,.slice e.s.ao e.s.n e.s.c,
 .int .i32 h.lo,.int .i32 h.hi,.slice h.ts.ao h.ts.n h.ts.c,.slice h.es.ao h.es.n h.es.c] 53 (0,0))=bx w (sO h e):=rfl
theorem bx_p (w:World)(p:Pr):w.alloc (.cells #[.int .i64 p.ticks,.slice p.ds.ao p.ds.n p.ds.c,.slice p.is.ao p.is.n p.is.c,.slice p.ss.ao p.ss.n p.ss.c] 30 (0,0))=bx w (pO p):=rfl
theorem bx_size (w:World)(o:Obj):(bx w o).heap.size=w.heap.size+1:=World.size_alloc ..
theorem bx_new (w:World)(o:Obj):(bx w o).heap[w.heap.size]? = some o:=heap_alloc_new w o
theorem bx_old (w:World)(o:Obj){k:Nat}(hk:k<w.heap.size):(bx w o).heap[k]? = w.heap[k]?:=Below.heap_alloc w o k hk
theorem bx_bel {B:Nat}{a w:World}(h:Below B a w)(hB:B≤a.heap.size)(o:Obj):Below B a (bx w o):=h.alloc (Nat.le_trans hB h.size) o
theorem cell_obj {w:World}{k:Nat}{cs:Array Value}{t:TypeId}(h:w.heap[k]? = some (.cells cs t (0,0)))(j:Nat):w.cell? ⟨k,j,none⟩=cs[j]?:=by simp[World.cell?,h]
theorem frozen_obj {w:World}{k:Nat}{cs:Array Value}{t:TypeId}(h:w.heap[k]? = some (.cells cs t (0,0)))(j:Nat):w.frozen? ⟨k,j,none⟩=false:=Lib.frozen_of_heap h j
theorem x_cells {w:World}{k:Nat}{h:EH}(g:w.heap[k]? = some (xO h)):w.cell? ⟨k,0,none⟩=some (.int .u8 h.op)∧w.cell? ⟨k,1,none⟩=some (.int .i64 h.ps)∧w.cell? ⟨k,2,none⟩=some (.bool h.bo)∧w.cell? ⟨k,3,none⟩=some (.int .i32 h.it) ∧
  w.cell? ⟨k,4,none⟩=some (.int .u64 h.fl)∧w.cell? ⟨k,5,none⟩=some (.string ⟨h.nm.toArray⟩)∧w.cell? ⟨k,6,none⟩=some (.slice h.s.ao h.s.n h.s.c):=
 ⟨cell_obj g 0,cell_obj g 1,cell_obj g 2,cell_obj g 3,cell_obj g 4,cell_obj g 5,cell_obj g 6⟩
structure SC (w:World) (k:Nat) (h:SH) (e:EH):Prop where
 c0:w.cell? ⟨k,0,none⟩=some (.int .u8 h.kd)
 c1:w.cell? ⟨k,1,none⟩=some (.int .i64 h.ps)
 c2:w.cell? ⟨k,2,none⟩=some (.string ⟨h.nm.toArray⟩)
 c3:w.cell? ⟨k,3,none⟩=some (.slice h.xs.ao h.xs.n h.xs.c)
 c4:w.cell? ⟨k,4,none⟩=some (.int .u8 e.op)
 c5:w.cell? ⟨k,5,none⟩=some (.int .i64 e.ps)
 c6:w.cell? ⟨k,6,none⟩=some (.bool e.bo)
 c7:w.cell? ⟨k,7,none⟩=some (.int .i32 e.it)
 c8:w.cell? ⟨k,8,none⟩=some (.int .u64 e.fl)
 c9:w.cell? ⟨k,9,none⟩=some (.string ⟨e.nm.toArray⟩)
 c10:w.cell? ⟨k,10,none⟩=some (.slice e.s.ao e.s.n e.s.c)
 c11:w.cell? ⟨k,11,none⟩=some (.int .i32 h.lo)
 c12:w.cell? ⟨k,12,none⟩=some (.int .i32 h.hi)
 c13:w.cell? ⟨k,13,none⟩=some (.slice h.ts.ao h.ts.n h.ts.c)
 c14:w.cell? ⟨k,14,none⟩=some (.slice h.es.ao h.es.n h.es.c)
theorem s_cells {w:World}{k:Nat}{h:SH}{e:EH}(g:w.heap[k]? = some (sO h e)):SC w k h e:=
 ⟨cell_obj g 0,cell_obj g 1,cell_obj g 2,cell_obj g 3,cell_obj g 4,cell_obj g 5,cell_obj g 6,cell_obj g 7,cell_obj g 8,cell_obj g 9,cell_obj g 10,cell_obj g 11,cell_obj g 12,cell_obj g 13,cell_obj g 14⟩
structure DC (w:World) (k:Nat) (d:De) (x y:EH):Prop where
 c0:w.cell? ⟨k,0,none⟩=some (.int .i64 d.ps)
 c1:w.cell? ⟨k,1,none⟩=some (.bool d.inp)
 c2:w.cell? ⟨k,2,none⟩=some (.string ⟨d.nm.toArray⟩)
 c3:w.cell? ⟨k,3,none⟩=some (.int .u8 d.ty)
 c4:w.cell? ⟨k,4,none⟩=some (.int .i64 d.len)
 c5:w.cell? ⟨k,5,none⟩=some (.bool d.rg)
 c6:w.cell? ⟨k,6,none⟩=some (.int .u8 x.op)
 c7:w.cell? ⟨k,7,none⟩=some (.int .i64 x.ps)
 c8:w.cell? ⟨k,8,none⟩=some (.bool x.bo)
 c9:w.cell? ⟨k,9,none⟩=some (.int .i32 x.it)
 c10:w.cell? ⟨k,10,none⟩=some (.int .u64 x.fl)
 c11:w.cell? ⟨k,11,none⟩=some (.string ⟨x.nm.toArray⟩)
 c12:w.cell? ⟨k,12,none⟩=some (.slice x.s.ao x.s.n x.s.c)
 c13:w.cell? ⟨k,13,none⟩=some (.int .u8 y.op)
 c14:w.cell? ⟨k,14,none⟩=some (.int .i64 y.ps)
 c15:w.cell? ⟨k,15,none⟩=some (.bool y.bo)
 c16:w.cell? ⟨k,16,none⟩=some (.int .i32 y.it)
 c17:w.cell? ⟨k,17,none⟩=some (.int .u64 y.fl)
 c18:w.cell? ⟨k,18,none⟩=some (.string ⟨y.nm.toArray⟩)
 c19:w.cell? ⟨k,19,none⟩=some (.slice y.s.ao y.s.n y.s.c)
theorem d_cells {w:World}{k:Nat}{d:De}{x y:EH}(g:w.heap[k]? = some (dO d x y)):DC w k d x y:=
 ⟨cell_obj g 0,cell_obj g 1,cell_obj g 2,cell_obj g 3,cell_obj g 4,cell_obj g 5,cell_obj g 6,cell_obj g 7,cell_obj g 8,cell_obj g 9,cell_obj g 10,cell_obj g 11,cell_obj g 12,cell_obj g 13,cell_obj g 14,cell_obj g 15,cell_obj g 16,cell_obj g 17,cell_obj g 18,cell_obj g 19⟩
theorem p_cells {w:World}{k:Nat}{p:Pr}(g:w.heap[k]? = some (pO p)):w.cell? ⟨k,0,none⟩=some (.int .i64 p.ticks)∧w.cell? ⟨k,1,none⟩=some (.slice p.ds.ao p.ds.n p.ds.c)∧w.cell? ⟨k,2,none⟩=some (.slice p.is.ao p.is.n p.is.c)∧w.cell? ⟨k,3,none⟩=some (.slice p.ss.ao p.ss.n p.ss.c):=
 ⟨cell_obj g 0,cell_obj g 1,cell_obj g 2,cell_obj g 3⟩
def Fr (B b:Nat)(w w':World):Prop:=Below B w w'∧Lib.OthersKept 5 (some b) w w'∧B≤w.heap.size
theorem Fr.refl {B:Nat}(b:Nat){w:World}(h:B≤w.heap.size):Fr B b w w:=⟨Below.refl _ _,Lib.OthersKept.refl _ _ _,h⟩
theorem Fr.size {B b:Nat}{w w':World}(h:Fr B b w w'):B≤w'.heap.size:=Nat.le_trans h.2.2 h.1.size
theorem Fr.trans {B b:Nat}{a c d:World}(h:Fr B b a c)(k:Fr B b c d):Fr B b a d:=⟨h.1.trans k.1,h.2.1.trans k.2.1,h.2.2⟩
theorem Fr.bx {B b:Nat}{a w:World}(h:Fr B b a w)(o:Obj):Fr B b a (bx w o):=⟨bx_bel h.1 h.2.2 o,h.2.1.alloc o,h.2.2⟩
theorem Fr.drew {B b:Nat}{a w:World}(h:Fr B b a w):Fr B b a w.drew:=⟨Below.drew h.1,h.2.1.drew,h.2.2⟩
theorem Fr.setCell {B b:Nat}{a w:World}(h:Fr B b a w)(hB:B≤b)(j:Nat)(v:Value):Fr B b a (w.setCell ⟨b,j,none⟩ v):=⟨h.1.setCell (p:=⟨b,j,none⟩) hB v,h.2.1.setCell ⟨b,j,none⟩ rfl v,h.2.2⟩
theorem Fr.of {B b:Nat}{w w':World}(h:Below w.heap.size w w')(hB:B≤w.heap.size):Fr B b w w':=
 ⟨h.mono hB,fun k _ hk _ _=>(h.block k (Array.getElem?_eq_some_iff.1 hk).1).trans hk,hB⟩
theorem Fr.obj {B b k:Nat}{w w':World}(h:Fr B b w w'){cs:Array Value}{t:TypeId}{fz:Nat×Nat}(g:w.heap[k]? = some (.cells cs t fz))(hk:k≠b)(ht:t≠5):w'.heap[k]? = some (.cells cs t fz):=
 h.2.1 k _ g (fun e=>hk (Option.some.inj e)) (fun c fz' e=>by injection e with e1 e2;exact ht e2)
theorem Fr.x {B b k:Nat}{w w':World}{e:EH}(h:Fr B b w w')(g:w.heap[k]? = some (xO e))(hk:k≠b):w'.heap[k]? = some (xO e):=h.obj g hk (by decide)
theorem d20_range {w:World}{b o:Nat}{d:De}{x y:EH}(X:D20 w b o d x y):w.rangeAt b o (dcvs d x y):=by
 intro j v hv
 have hj:j<20:=by
  rcases Nat.lt_or_ge j 20 with h|h
  ·exact h
  ·rw[List.getElem?_eq_none (by exact h)]at hv;cases hv
 match j,hj with
 | 0,_=>exact(Option.some.inj hv) ▸ X.c0
 | 1,_=>exact(Option.some.inj hv) ▸ X.c1
 | 2,_=>exact(Option.some.inj hv) ▸ X.c2
 | 3,_=>exact(Option.some.inj hv) ▸ X.c3
 | 4,_=>exact(Option.some.inj hv) ▸ X.c4
 | 5,_=>exact(Option.some.inj hv) ▸ X.c5
 | 6,_=>exact(Option.some.inj hv) ▸ X.c6
 | 7,_=>exact(Option.some.inj hv) ▸ X.c7
 | 8,_=>exact(Option.some.inj hv) ▸ X.c8
 | 9,_=>exact(Option.some.inj hv) ▸ X.c9
 | 10,_=>exact(Option.some.inj hv) ▸ X.c10
 | 11,_=>exact(Option.some.inj hv) ▸ X.c11
 | 12,_=>exact(Option.some.inj hv) ▸ X.c12
 | 13,_=>exact(Option.some.inj hv) ▸ X.c13
 | 14,_=>exact(Option.some.inj hv) ▸ X.c14
 | 15,_=>exact(Option.some.inj hv) ▸ X.c15
 | 16,_=>exact(Option.some.inj hv) ▸ X.c16
 | 17,_=>exact(Option.some.inj hv) ▸ X.c17
 | 18,_=>exact(Option.some.inj hv) ▸ X.c18
 | 19,_=>exact(Option.some.inj hv) ▸ X.c19
theorem dO_eq (d:De)(x y:EH):dO d x y=.cells (dcvs d x y).toArray 56 (0,0):=rfl
theorem dcvs_one (d:De)(x y:EH):((dcvs d x y).toArray.all (·.oneCell'))=true:=by simp[dcvs,Value.oneCell']
theorem store_bx {ops:Array Oper}{rest:List Oper}{op:Oper}{a:Act}{Q:Exit→Act→World→Prop}(hgd:op.guard=none)(ty:TypeId)(x y:Operand)(ho:op.op=.store ty x y)(w:World)(c c':Array Value)
  (hx:a.eval x=.pointer (some ⟨w.heap.size,0,none⟩)) (hy:a.eval y=.agg c') (hi:(Tryz.prog.info? ty).map (·.size)=some c'.size) (hs:c.size=c'.size) (h1:c'.all (·.oneCell')=true)
  (h:wpList Tryz.prog ops Q rest (a.put op.dst undef) (bx w (.cells c' ty (0,0)))):wpList Tryz.prog ops Q (op::rest) a (w.alloc (.cells c ty (0,0))):=
 wpList_plain hgd fun K hK=>by
  unfold Oper.wp execOp;simp only[ho,hx,hy,Instr.storeAt,Instr.sureAddr,Sem.run_bind,Sem.run_pure,Result.andThen_ok,run_storeVar_new w ty c c' hi hs h1];exact hK _ _ h
end Go.Proofs.YthmlhkllbichgaaGreatDoor
