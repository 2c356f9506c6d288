/-
  Whatever program is handed in, CheckChecks answers true. (part 36 of 38) Conditions: none beside what the card ties.
-/
import Derived.Test.YtkbicfffokegeaaGreatDoorCbi
import Derived.LaidMore
import Derived.Stop.Joined
import Derived.Lib.SmallJoins
import Derived.Lay
import Derived.HandedShaped
namespace Go.Proofs.YtkbicfffokegeaaGreatDoor
set_option maxHeartbeats 16000000
open Go.RowKit
set_option maxRecDepth 100000
theorem aIH {f f':Nat→Ck Int}{n:Nat}(h:∀i,i<n→f' i=f i):cks f' n=cks f n:=by
 induction n with
 | zero=>rfl
 | succ n ih=>simp only[cks];rw[ih fun i hi=>h i (by omega),h n (by omega)]
theorem mY {f f':Nat→Ck Unit}{n:Nat}(h:∀i,i<n→f' i=f i):cP f' n=cP f n:=by
 induction n with
 | zero=>rfl
 | succ n ih=>simp only[cP];rw[ih fun i hi=>h i (by omega),h n (by omega)]
theorem Sh.look {S S':Sc}(h:Sh S S')(x:List UInt8)(p:Int):S'.look x p=S.look x p:=by
 unfold Sc.look;rw[h.find,h.loops];split
 ·rfl
 ·cases hf:S.find x with
  | none=>rfl
  | some i=>
   have hd:=h.d i (zM hf).1;simp only;rw[←hd.inp,←hd.ty,←hd.len,←h.init]
theorem Ex.ck_eqv {S S':Sc}(hS:Sh S S'){e:Ex}:∀ {f:Ex},e.eqv f→f.ck S'=e.ck S:=by
 induction e using Ex.ind with
 | H e ih=>
  intro f h;obtain⟨h1,h2,h3⟩:=(Ex.eqv_iff e f).1 h;simp only[hdS,Bool.and_eq_true,decide_eq_true_eq,beq_iff_eq]at h1;obtain⟨⟨⟨⟨⟨g1,g2⟩,g3⟩,g4⟩,g5⟩,g6⟩:=h1;rw[Ex.ck_eq S' f,Ex.ck_eq S e,←g1,←g4,←g5,←g6,h2,hS.look,aIH (f:=fun i=>(e.k i).ck S) fun i hi=>ih i hi (h3 i hi)];split
  ·congr 1
   funext tl
   by_cases c:0<e.h.s.n
   ·rw[ih 0 c (h3 0 c)]
   ·have c0:e.h.s.n=0:=by omega
    rw[c0];unfold mP
    split<;>rfl
  ·rfl
theorem aIQ {S S':Sc}(hS:Sh S S'){h h':SH}{x x':Nat→Ex}{e e':Ex}(hn:h.nm=h'.nm)(hx:h.xs.n=h'.xs.n)(hp:h'.ps=h.ps)(xs:∀i,i<h.xs.n→(x i).eqv (x' i))(es:e.eqv e') :
  lQ S' h' x' e'=lQ S h x e:=by
 unfold lQ;rw[←hn,←hx,hp,hS.find,hS.loops];split
 ·rfl
 ·cases hf:S.find h.nm with
  | none=>rfl
  | some i=>
   have hd:=hS.d i (zM hf).1;simp only;rw[←hd.inp,←hd.ty,←hd.len,Ex.ck_eqv hS es,((Ex.eqv_iff _ _).1 es).2.1];split
   ·rfl
   ·split
    ·rfl
    ·rename_i c1 c2
     congr 1
     split
     ·rename_i c3
      have c4:0<h.xs.n:=by
       rcases Nat.eq_zero_or_pos h.xs.n with c5|c5
       ·exact absurd (.inl ⟨c3,by omega⟩) c2
       ·exact c5
      rw[Ex.ck_eqv hS (xs 0 c4),((Ex.eqv_iff _ _).1 (xs 0 c4)).2.1]
     ·rfl
theorem St.ck_eqv {nam:List UInt8→Bool}{s:St}:∀ {S S':Sc} {r:St},Sh S S'→s.eqv r→r.ck nam S'=s.ck nam S:=by
 induction s using St.ind with
 | H s it il=>
  intro S S' r hS h;obtain⟨h1,h2,h3,⟨h4,h5⟩,h6,h7⟩:=St.eqv_hd h;simp only[hsS,Bool.and_eq_true,decide_eq_true_eq,beq_iff_eq]at h1;obtain⟨⟨⟨⟨⟨g1,g2⟩,g3⟩,g4⟩,g5⟩,g6⟩:=h1
  rw[St.ck_eq nam r S',St.ck_eq nam s S,←g1,aIQ hS g2 h4 h2 h5 h3,Ex.ck_eqv hS h3,((Ex.eqv_iff _ _).1 h3).2.1,←g2,←g3,←g4,←g5,←g6,h2,hS.find,←hS.loops,
   mY (f:=fun i=>(s.t i).ck nam S) fun i hi=>it i hi hS (h6 i hi),mY (f:=fun i=>(s.l i).ck nam S) fun i hi=>il i hi hS (h7 i hi),
   mY (f:=fun i=>(s.t i).ck nam (S.inner s.h.nm)) fun i hi=>it i hi (hS.inner _) (h6 i hi)]
theorem aKp {nam:List UInt8→Bool}{ran:De→Bool}{d d':Nat→De}(hr:∀a a':De,a.same a'=true→ran a=ran a'){i:Nat}(h:∀j,j≤i→(d j).eqv (d' j))(c:Int):deC nam ran d' i c=deC nam ran d i c:=by
 obtain⟨⟨h0,h1,h2,h3,h4, -⟩, -⟩:=h i (aD i);have e2:fd d' (d i).nm i=fd d (d i).nm i:=(aBU fun j hj=>(h j (Nat.le_of_lt hj)).1.2.2.1).symm;have e3:(d' i).cells=(d i).cells:=by unfold De.cells;rw[h1,h4]
 unfold deC;rw[←h2,←h3,e2,e3,←hr _ _ (De.eqv_same (h i (aD i))),h0]
theorem aIz {nam:List UInt8→Bool}{ran:De→Bool}{d d':Nat→De}(hr:∀a a':De,a.same a'=true→ran a=ran a'){n:Nat}(h:∀j,j<n→(d j).eqv (d' j)):gV nam ran d' n=gV nam ran d n:=by
 induction n with
 | zero=>rfl
 | succ n ih=>
  simp only[gV];rw[ih fun j hj=>h j (by omega)]
  congr 1
  funext c
  exact aKp hr (fun j hj=>h j (by omega)) c
theorem Pr.ck_eqv {nam:List UInt8→Bool}{ran:De→Bool}{p q:Pr}(hr:∀a a':De,a.same a'=true→ran a=ran a')(h:p.eqv q):q.ck nam ran=p.ck nam ran:=by
 obtain⟨h1,⟨d1,d2⟩,⟨i1,i2⟩,s1,s2⟩:=h;have hS:∀b,Sh ⟨p.ds.n,p.d,[],b⟩ ⟨p.ds.n,q.d,[],b⟩:=fun b=>⟨rfl,fun i hi=>by have g:=(d2 i hi).1;exact⟨g.2.1,g.2.2.1,g.2.2.2.1,g.2.2.2.2.1⟩,rfl,rfl⟩;unfold Pr.ck
 rw[←h1,←d1,←i1,←s1,aIz hr d2,mY (f:=fun i=>(p.i i).ck nam ⟨p.ds.n,p.d,[],true⟩) fun i hi=>St.ck_eqv (hS true) (i2 i hi),
  mY (f:=fun i=>(p.s i).ck nam ⟨p.ds.n,p.d,[],false⟩) fun i hi=>St.ck_eqv (hS false) (s2 i hi)]
theorem lV {f g:Nat→Nat}{n:Nat}(h:∀i,i<n→f i=g i):sm f n=sm g n:=by
 induction n with
 | zero=>rfl
 | succ n ih=>simp only[sm];rw[ih fun i hi=>h i (by omega),h n (by omega)]
theorem Ex.same_wt12 {e:Ex}:∀ {f:Ex},e.same f=true→e.wt=f.wt:=by
 induction e using Ex.ind with
 | H e ih=>
  intro f h;obtain⟨-, -, -, -,h5,h6,h7⟩:=Ex.same_iff.1 h;rw[Ex.wt_eq e,Ex.wt_eq f,h5,←h6,lV fun i hi=>ih i hi (h7 i hi)]
theorem St.same_wt12 {s:St}:∀ {r:St},s.same r=true→s.wt=r.wt:=by
 induction s using St.ind with
 | H s it il=>
  intro r h;obtain⟨⟨-,h2, -, -,h5,h6⟩,h7,⟨h8,h9⟩,h10,h11⟩:=St.same_iff.1 h;rw[St.wt_eq s,St.wt_eq r,h2,←h5,←h6,←h8,Ex.same_wt12 h7,lV fun i hi=>Ex.same_wt12 (h9 i hi),lV fun i hi=>it i hi (h10 i hi),lV fun i hi=>il i hi (h11 i hi)]
theorem De.same_wt12 {a b:De}(h:a.same b=true):a.wt=b.wt:=by
 obtain⟨-,h2, -, -, -,h6,h7⟩:=De.same_iff.1 h;unfold De.wt;rw[h2,Ex.same_wt12 h6,Ex.same_wt12 h7]
theorem Pr.same_wt12 {p q:Pr}(h:p.same q=true):p.wt=q.wt:=by
 obtain⟨-,h2,h3,h4⟩:=Pr.same_iff.1 h;rw[yX]at h2;rw[rQ]at h3 h4;unfold Pr.wt;rw[←h2.1,←h3.1,←h4.1,lV fun i hi=>De.same_wt12 (h2.2 i hi),lV fun i hi=>St.same_wt12 (h3.2 i hi),lV fun i hi=>St.same_wt12 (h4.2 i hi)]
def aNa:List UInt8:=[116,105,99,107,115,32,49,59,32,118,97,114,32,120,58,32,102,108,111,97,116,59,32,118,97,114,32,121,58,32,102,108,111,97,116,59,32,105,110,105,116,32,123,125,32,115,116,101,112,32,123,32,120,32,61,32,121,32,43,32,49,59,32,125]
def aMZ:List UInt8:=[116,105,99,107,115,32,49,59,32,105,110,112,117,116,32,117,58,32,102,108,111,97,116,32,105,110,32,91,48,44,32,49,93,59,32,105,110,105,116,32,123,125,32,115,116,101,112,32,123,32,117,32,61,32,49,46,48,59,32,125]
def aMY:List UInt8:=[116,105,99,107,115,32,49,59,32,105,110,105,116,32,123,125,32,115,116,101,112,32,123,32,102,111,114,32,105,32,61,32,48,32,46,46,32,49,54,32,123,32,125,32,125]
def aMX:List UInt8:=[116,105,99,107,115,32,57,59,32,105,110,112,117,116,32,117,58,32,102,108,111,97,116,32,105,110,32,91,48,44,32,49,46,53,93,59,32,118,97,114,32,120,58,32,102,108,111,97,116,59,32,118,97,114,32,118,58,32,105,110,116,91,51,93,59,32,105,110,105,116,32,123,32,120,32,61,32,48,46,48,59,32,125,32,115,116,101,112,32,123,32,102,111,114,32,105,32,61,32,48,32,46,46,32,50,32,123,32,118,91,105,93,32,61,32,118,91,50,32,45,32,105,93,32,43,32,105,110,116,40,117,32,42,32,120,41,59,32,125,32,105,102,32,120,32,60,32,117,32,38,38,32,33,40,118,91,48,93,32,61,61,32,51,41,32,123,32,120,32,61,32,45,117,59,32,125,32,125]
def aFR (r:Rs Pr)(e p:Int):Bool:=match r with
 | .ok q _=>decide ((q.ck aU raN).er=e) && decide ((q.ck aU raN).pl=p) && decide (q.wt≤1000)
 | .no _ _=>false
theorem aJZ:aFR (rsP aNa) 122 58=true:=by decide +kernel
theorem aJY:aFR (rsP aMZ) 124 50=true:=by decide +kernel
theorem aJX:aFR (rsP aMY) 123 24=true:=by decide +kernel
theorem aJW:aFR (rsP aMX) 0 0=true:=by decide +kernel
theorem qF (l:List UInt8)(e q:Int)(h:aFR (rsP l) e q=true)(w:World)(hE:Env9 w):Calls Tryz.prog 17 #[.string ⟨l.toArray⟩] w fun r w'=>r=.returned (.tuple #[.int .i64 e,.int .i64 q])∧Below w.heap.size w w':=by
 have P:=aBC ⟨l.toArray⟩ w hE;change Calls _ _ _ _ (aNq w (rsP l) aJL (VP w.heap.size))at P;have HE:=Hj hE;clear hE;generalize rsP l=R at *
 cases R with
 | no c p=>cases h
 | ok p s=>
  simp only[aFR,Bool.and_eq_true,decide_eq_true_eq]at h;obtain⟨⟨h1,h2⟩,h3⟩:=h;have HH:=Hj (And.intro h1 (And.intro h2 h3));clear h1 h2 h3;go_enter Tryz.func17,Tryz.ntmps17;go_wp2_with fail;refine P.mono ?_;rintro r w1 ⟨v,rfl,⟨p',rfl,xp,ep⟩,b1⟩;have hI:p'.In w1.heap.size w1:=⟨xp.1,gF.stay xp.2.1 (aAf _ _) (aD _),gL.stay xp.2.2.1 (aAf _ _) (aD _),gL.stay xp.2.2.2 (aAf _ _) (aD _)⟩;have ep':p'.eqv p:=ep;have EC:Hid (p'.ck aU raN=p.ck aU raN):=(Pr.ck_eqv (fun a a' h=>aGV h) ep').symm
  have EW:Hid (p'.wt≤1000000):=by
   show p'.wt≤1000000;rw[Pr.same_wt12 (Pr.eqv_same ep')];exact aF HH.out.2.2 (by decide)
  have BLb:=bS (Below.refl w1.heap.size w1) (aD _) (pO p');have G1:Hid ((bx w1 (pO p')).heap[w1.heap.size]? = some (pO p')):=cD w1 _;have B1:=Hj (aG b1 BLb)
  have XA:Hid (p'.In (bx w1 (pO p')).heap.size (bx w1 (pO p'))):=by
   have:=hI.below BLb (aD _);exact⟨this.1,this.2.1.mono (fun _ _=>rfl) BLb.size,this.2.2.1.mono (fun _ _=>rfl) BLb.size,this.2.2.2.mono (fun _ _=>rfl) BLb.size⟩
  clear xp ep ep' hI b1 BLb P;dsimp only[Rs.er,Rs.pl];unfold Pr.v;go_upto_region 2 with fail;rw[aIJ];change Code.wp _ _ _ _ (bx w1 (pO p'));generalize w1.heap.size=ga at *;generalize bx w1 (pO p')=w2 at *;have C:=Hj (tT p' w2 (HE.out.below B1.out) XA.out EW.out);rw[EC.out,HH.out.1,HH.out.2.1]at C;obtain⟨x0,x1,x2,x3⟩:=eF G1.out;go_wp2_with fail;refine C.out.mono ?_;rintro r w3 ⟨rfl,b3⟩;have B3:=Hj (aG B1.out b3);clear C b3 x0 x1 x2 x3;go_wp2_with fail
  go_ret2
  exact⟨rfl,B3.out⟩
theorem aBe (w:World)(hE:Env9 w):Calls Tryz.prog 7 #[] w fun r w'=>r=.returned (.bool true)∧Below w.heap.size w w':=by
 have HE:=Hj hE;have PA:=Hj (qF aNa _ _ aJZ);have PB:=Hj (qF aMZ _ _ aJY);have PC:=Hj (qF aMY _ _ aJX);have PD:=Hj (qF aMX _ _ aJW);clear hE;go_enter Tryz.func7,Tryz.ntmps7;go_wp2_with fail;refine(PA.out w HE.out).mono ?_;rintro r w1 ⟨rfl,b1⟩;have B1:=Hj b1;have E1:=Hj (HE.out.below b1);clear b1 PA;go_wp2_with fail;refine(PB.out w1 E1.out).mono ?_;rintro r w2 ⟨rfl,b2⟩;have B2:=Hj (aG B1.out b2);have E2:=Hj (E1.out.below b2);clear b2 PB;go_wp2_with fail;refine(PC.out w2 E2.out).mono ?_;rintro r w3 ⟨rfl,b3⟩;have B3:=Hj (aG B2.out b3);have E3:=Hj (E2.out.below b3);clear b3 PC;go_wp2_with fail;refine(PD.out w3 E3.out).mono ?_;rintro r w4 ⟨rfl,b4⟩;have B4:=Hj (aG B3.out b4);clear b4 PD;go_wp2_with fail;go_ret;exact⟨rfl,B4.out⟩
def Sat (t m x:Nat):Prop:=x≤2*m+2∧(t≤m→x=t)∧(m<t→m<x)
theorem Sat.more {t u m x:Nat}(h:Sat t m x)(hx:m<x)(hu:t≤u):Sat u m x:=by
 obtain⟨h1,h2,h3⟩:=h;refine⟨h1,fun h=>?_,fun _=>hx⟩;have:=h2 (by omega);omega
theorem Sat.add {t u m x y:Nat}(h:Sat t m x)(hx:x≤m)(k:Sat u (m-x) y):Sat (t+u) m (x+y):=by
 obtain⟨h1,h2,h3⟩:=h;obtain⟨k1,k2,k3⟩:=k
 have e:t≤m:=by
  rcases Nat.lt_or_ge m t with g|g
  ·have:=h3 g;omega
  ·exact g
 have e1:=h2 e;refine⟨by omega,fun g=>?_,fun g=>?_⟩
 ·have:=k2 (by omega);omega
 ·have:=k3 (by omega);omega
theorem rO (l:List UInt8):(⟨l.toArray⟩:ByteArray).size=l.length:=by rw[Lib.size_eq]
def WgX (B:Nat)(e:Ex):Prop:=∀(m:Nat) (w:World),e.In B w→B≤w.heap.size→m≤100000→Calls Tryz.prog 12 #[e.h.v,.int .i64 (m:Int)] w fun r w'=>(∃x:Nat,r=.returned (.int .i64 (x:Int))∧Sat e.wt m x)∧Below w.heap.size w w'
theorem aKf (B:Nat)(h:EH)(k:Nat→Ex)(ih:∀i,i<h.s.n→WgX B (k i))(m:Nat)(w:World)(hok:h.ok)(hX0:gE B w h.s k)(hB:B≤w.heap.size)(hm:m≤100000) :
  Calls Tryz.prog 12 #[h.v,.int .i64 (m:Int)] w fun r w'=>(∃x:Nat,r=.returned (.int .i64 (x:Int))∧Sat (1+h.nm.length+sm (fun i=>(k i).wt) h.s.n) m x)∧Below w.heap.size w w':=by
 obtain⟨op,ps,bo,it,fl,nm,⟨ao,n,c⟩⟩:=h;dsimp only at ih hX0 ⊢;have hX:gE B w ⟨ao,n,c⟩ k:=hX0;have HI:=Hj hX;have IH:=Hj ih;have HB:=Hj hB;have hc:=hok.s;have hnm:=hok.nm;have hmx:n≤maxLen:=aF hc.1 hc.2.1;dsimp only at hnm;unfold maxLen at hmx hnm;have HM:=Hj hmx;have HMM:=Hj hm;have hsz:=rO nm;obtain⟨q,hq⟩:∃q,min nm.length (m+1)=q:=⟨_,rfl⟩;have hq':min ((nm.length:Nat):Int) ((m:Int)+1)=(q:Int):=by omega
 have S0:Sat (1+nm.length) m (1+q):=⟨by omega,fun _=>by omega,fun _=>by omega⟩;have ov1:IntKind.i64.wrap ((m:Int)+1)=(m:Int)+1:=by rw[IntKind.wrap_i64];omega
 have ov2:IntKind.i64.wrap (1+(q:Int))=((1+q:Nat):Int):=by rw[IntKind.wrap_i64];omega
 have c5:(bx w (xO ⟨op,ps,bo,it,fl,nm,⟨ao,n,c⟩⟩)).cell? ⟨w.heap.size,5,none⟩=some (.string ⟨nm.toArray⟩):=aK (cD w (xO ⟨op,ps,bo,it,fl,nm,⟨ao,n,c⟩⟩)) 5;have S0:=Hj S0;clear ih hok hX0 hX hB hc hnm hmx hm hq;show Calls Tryz.prog 12 #[.agg #[.int .u8 op,.int .i64 ps,.bool bo,.int .i32 it,.int .u64 fl,.string ⟨nm.toArray⟩,.slice ao n c],.int .i64 (m:Int)] w _;go_enter Tryz.func12,Tryz.ntmps12;go_upto_region 1 with fail;rw[kY w ⟨op,ps,bo,it,fl,nm,⟨ao,n,c⟩⟩];go_wp2_with fail
 go_loopg [5,6] n (fun gk t i wr=>∃j x:Nat,i=.int .i64 (j:Int)∧t=.int .i64 (x:Int)∧Hid (gk=n-j∧j≤n)∧Hid (Sat (1+nm.length+sm (fun i=>(k i).wt) j) m x)∧Hid (Below (bx w (xO ⟨op,ps,bo,it,fl,nm,⟨ao,n,c⟩⟩)).heap.size (bx w (xO ⟨op,ps,bo,it,fl,nm,⟨ao,n,c⟩⟩)) wr))
 case atStart=>exact⟨0,1+q,rfl,by simp,⟨rfl,Nat.zero_le _⟩,S0.out,Below.refl _ _⟩
 case round=>
  obtain⟨j,x,rfl,rfl,HJ,HS,HBw⟩:=hrel;have hz:(bx w (xO ⟨op,ps,bo,it,fl,nm,⟨ao,n,c⟩⟩)).heap.size=w.heap.size+1:=cJ _ _;have hBx:wr.heap[w.heap.size]? = some (xO ⟨op,ps,bo,it,fl,nm,⟨ao,n,c⟩⟩):=(HBw.out.block _ (by omega)).trans (cD _ _);have c6:wr.cell? ⟨w.heap.size,6,none⟩=some (.slice ao n c):=(bK hBx).2.2.2.2.2.2;have BEL:Hid (Below w.heap.size w wr):=(bS (Below.refl _ _) (aD _) _).trans (HBw.out.mono (by omega));have HZ:=Hj hz;clear hBx hz c5 hsz hq' ov1 ov2;have hxb:x≤200002:=by have:=HS.out.1;have:=HMM.out;omega
  by_cases hlt:j<n
  ·have z0:(j:Int)<(n:Int):=by omega
   by_cases hle:x≤m
   ·have z1:(x:Int)≤(m:Int):=by omega
    have ovi:IntKind.i64.wrap ((j:Int)+1)=((j+1:Nat):Int):=by have:=HM.out;rw[IntKind.wrap_i64];omega
    obtain⟨a,b,o,rfl,hA,hb,X,I⟩:=gE.at (HI.out.below BEL.out HB.out) (i:=j) hlt;have d0:=X.c0;have d1:=X.c1;have d2:=X.c2;have d3:=X.c3;have d4:=X.c4;have d5:=X.c5;have d6:=X.c6;have C:=Hj (IH.out j hlt (m-x) wr I (aF HB.out BEL.out.size) (by have:=HMM.out;omega));have ovs:IntKind.i64.wrap ((m:Int)-(x:Int))=((m-x:Nat):Int):=by rw[IntKind.wrap_i64];have:=HMM.out;omega
    have HLE:=Hj hle;have HLT:=Hj hlt;have hHM:=HMM.out;clear X I hb hle hlt;go_wp2_with fail;refine C.out.mono ?_;rintro e w' ⟨⟨y,rfl,hy⟩,hb⟩;have ov:IntKind.i64.wrap ((x:Int)+(y:Int))=((x+y:Nat):Int):=by rw[IntKind.wrap_i64];have:=hy.1;omega
    have HY:=Hj hy;have HB2:=Hj (HBw.out.trans (hb.mono HBw.out.size));clear hy hb;go_wp2_with fail
    go_roundg (n-(j+1))
    case measure=>have:=HJ.out;have:=HLT.out;omega
    case rel=>exact⟨j+1,x+y,by go_num,rfl,⟨rfl,HLT.out⟩,by have:=HS.out.add HLE.out HY.out;rwa [Nat.add_assoc]at this,HB2.out⟩
   ·have z1:¬(x:Int)≤(m:Int):=by omega
    have R:=Hj (HS.out.more (u:=1+nm.length+sm (fun i=>(k i).wt) n) (by omega) (by have:=iD (f:=fun i=>(k i).wt) hlt;omega));clear hlt hle;go_wp2_with fail;go_ret;exact⟨⟨x,rfl,R.out⟩,BEL.out⟩
  ·obtain rfl:j=n:=by have:=HJ.out;omega
   have z0:¬(j:Int)<(j:Int):=by omega
   clear hlt;go_wp2_with fail;go_ret;exact⟨⟨x,rfl,HS.out⟩,BEL.out⟩
theorem qR (B:Nat)(e:Ex):WgX B e:=by
 induction e using Ex.ind with
 | H e ih=>
  intro m w hI hB hm;rw[Ex.wt_eq];exact aKf B e.h e.k ih m w hI.ok hI.xs hB hm
theorem aFB (B:Nat)(s:Sl)(k:Nat→Ex)(m:Nat)(w:World)(hX:gE B w s k)(hB:B≤w.heap.size)(hm:m≤100000) :
  Calls Tryz.prog 35 #[.slice s.ao s.n s.c,.int .i64 (m:Int)] w fun r w'=>(∃x:Nat,r=.returned (.int .i64 (x:Int))∧Sat (sm (fun i=>(k i).wt) s.n) m x)∧Below w.heap.size w w':=by
 have HI:=Hj hX;have HB:=Hj hB;have hc:=hX.1;have hmx:s.n≤maxLen:=aF hc.1 hc.2.1;unfold maxLen at hmx;have HM:=Hj hmx;have HMM:=Hj hm;obtain⟨ao,n,c⟩:=s;dsimp only at *;clear hX hB hc hmx hm;go_enter Tryz.func35,Tryz.ntmps35;go_wp2_with fail
 go_loopg [5,6] n (fun gk t i wr=>∃j x:Nat,i=.int .i64 (j:Int)∧t=.int .i64 (x:Int)∧Hid (gk=n-j∧j≤n)∧Hid (Sat (sm (fun i=>(k i).wt) j) m x)∧Hid (Below w.heap.size w wr))
 case atStart=>exact⟨0,0,rfl,rfl,⟨rfl,Nat.zero_le _⟩,⟨by omega,fun _=>rfl,fun h=>by simp[sm]at h⟩,Below.refl _ _⟩
 case round=>
  obtain⟨j,x,rfl,rfl,HJ,HS,BEL⟩:=hrel;have hxb:x≤200002:=by have:=HS.out.1;have:=HMM.out;omega
  by_cases hlt:j<n
  ·have z0:(j:Int)<(n:Int):=by omega
   by_cases hle:x≤m
   ·have z1:(x:Int)≤(m:Int):=by omega
    have ovi:IntKind.i64.wrap ((j:Int)+1)=((j+1:Nat):Int):=by have:=HM.out;rw[IntKind.wrap_i64];omega
    obtain⟨a,b,o,rfl,hA,hb,X,I⟩:=gE.at (HI.out.below BEL.out HB.out) (i:=j) hlt;have d0:=X.c0;have d1:=X.c1;have d2:=X.c2;have d3:=X.c3;have d4:=X.c4;have d5:=X.c5;have d6:=X.c6;have C:=Hj (qR B (k j) (m-x) wr I (aF HB.out BEL.out.size) (by have:=HMM.out;omega));have ovs:IntKind.i64.wrap ((m:Int)-(x:Int))=((m-x:Nat):Int):=by rw[IntKind.wrap_i64];have:=HMM.out;omega
    have HLE:=Hj hle;have HLT:=Hj hlt;have hHM:=HMM.out;clear X I hb hle hlt;go_wp2_with fail;refine C.out.mono ?_;rintro e w' ⟨⟨y,rfl,hy⟩,hb⟩;have ov:IntKind.i64.wrap ((x:Int)+(y:Int))=((x+y:Nat):Int):=by rw[IntKind.wrap_i64];have:=hy.1;omega
    have HY:=Hj hy;have HB2:=Hj (BEL.out.trans (hb.mono BEL.out.size));clear hy hb;go_wp2_with fail
    go_roundg (n-(j+1))
    case measure=>have:=HJ.out;have:=HLT.out;omega
    case rel=>exact⟨j+1,x+y,by go_num,rfl,⟨rfl,HLT.out⟩,by have:=HS.out.add HLE.out HY.out;exact this,HB2.out⟩
   ·have z1:¬(x:Int)≤(m:Int):=by omega
    have R:=Hj (HS.out.more (u:=sm (fun i=>(k i).wt) n) (by omega) (aDX (by omega)));clear hlt hle;go_wp2_with fail;go_ret;exact⟨⟨x,rfl,R.out⟩,BEL.out⟩
  ·obtain rfl:j=n:=by have:=HJ.out;omega
   have z0:¬(j:Int)<(j:Int):=by omega
   clear hlt;go_wp2_with fail;go_ret;exact⟨⟨x,rfl,HS.out⟩,BEL.out⟩
theorem Sat.head {t m x l q:Nat}(h:Sat t m x)(hx:x≤m)(hq:min l (m+1)=q):Sat (t+(1+l)) m (x+1+q):=by
 obtain⟨h1,h2,h3⟩:=h
 have e:t=x:=by
  rcases Nat.lt_or_ge m t with g|g
  ·have:=h3 g;omega
  ·exact(h2 g).symm
 exact⟨by omega,fun _=>by omega,fun _=>by omega⟩
def aFZ (B:Nat)(s:Sl)(k:Nat→St):Prop:=∀(m:Nat) (w:World),gL B w s k→B≤w.heap.size→m≤100000 →
 Calls Tryz.prog 18 #[.slice s.ao s.n s.c,.int .i64 (m:Int)] w fun r w'=>(∃x:Nat,r=.returned (.int .i64 (x:Int))∧Sat (sm (fun i=>(k i).wt) s.n) m x)∧Below w.heap.size w w'
theorem aAB (B:Nat)(s:Sl)(k:Nat→St)(ih:∀i,i<s.n→aFZ B (k i).h.ts (k i).t∧aFZ B (k i).h.es (k i).l):aFZ B s k:=by
 intro m w hX hB hm;have HI:=Hj hX;have IH:=Hj ih;have HB:=Hj hB;have hc:=hX.1;have hmx:s.n≤maxLen:=aF hc.1 hc.2.1;unfold maxLen at hmx;have HM:=Hj hmx;have HMM:=Hj hm;obtain⟨ao,n,c⟩:=s;dsimp only at *;clear hX hB hc hmx hm ih;go_enter Tryz.func18,Tryz.ntmps18;go_wp2_with fail
 go_loopg [5,6] n (fun gk t i wr=>∃j x:Nat,i=.int .i64 (j:Int)∧t=.int .i64 (x:Int)∧Hid (gk=n-j∧j≤n)∧Hid (Sat (sm (fun i=>(k i).wt) j) m x)∧Hid (Below w.heap.size w wr))
 case atStart=>exact⟨0,0,rfl,rfl,⟨rfl,Nat.zero_le _⟩,⟨by omega,fun _=>rfl,fun h=>by simp[sm]at h⟩,Below.refl _ _⟩
 case round=>
  obtain⟨j,x,rfl,rfl,HJ,HS,BEL⟩:=hrel;have hxb:x≤200002:=by have:=HS.out.1;have:=HMM.out;omega
  by_cases hlt:j<n
  ·have z0:(j:Int)<(n:Int):=by omega
   by_cases hle:x≤m
   ·have z1:(x:Int)≤(m:Int):=by omega
    have ovi:IntKind.i64.wrap ((j:Int)+1)=((j+1:Nat):Int):=by have:=HM.out;rw[IntKind.wrap_i64];omega
    obtain⟨a,b,o,rfl,hA,hb,X,I⟩:=gL.at (HI.out.below BEL.out HB.out) (i:=j) hlt;have d2:=X.c2;have d3:=X.c3;have XX:=Hj (And.intro hb X);have II:=Hj I;have hsz:=rO (k j).h.nm;obtain⟨q,hq⟩:∃q,min (k j).h.nm.length (m+1)=q:=⟨_,rfl⟩;have hq':min (((k j).h.nm.length:Nat):Int) ((m:Int)+1)=(q:Int):=by omega
    have S1:=Hj (HS.out.head hle hq);have HLT:=Hj hlt;have hHM:=HMM.out;have HW:=Hj (show sm (fun i=>(k i).wt) (j+1)=sm (fun i=>(k i).wt) j+(k j).wt from rfl);have HE:=Hj (St.wt_eq (k j));have ov0:IntKind.i64.wrap ((m:Int)+1)=(m:Int)+1:=by rw[IntKind.wrap_i64];omega
    have ov1:IntKind.i64.wrap ((x:Int)+1)=(x:Int)+1:=by rw[IntKind.wrap_i64];omega
    have ov2:IntKind.i64.wrap ((x:Int)+1+(q:Int))=((x+1+q:Nat):Int):=by rw[IntKind.wrap_i64];omega
    obtain⟨x1,hx1⟩:∃x1,x+1+q=x1:=⟨_,rfl⟩;have hx1':((x+1+q:Nat):Int)=(x1:Int):=by omega
    rw[hx1']at ov2;rw[hx1]at S1;clear X I hb hle hlt hq hx1 hx1';go_upto_region 6 with fail;have HX1:Hid (x1≤200002):=by have:=S1.out.1;have:=HMM.out;show _≤_;omega
    by_cases h1:x1≤m
    ·have y1:(x1:Int)≤(m:Int):=by omega
     have C1:=Hj (aFB B (k j).h.xs (k j).x (m-x1) wr (II.out.xs) (aF HB.out BEL.out.size) (by have:=HMM.out;omega));have os1:IntKind.i64.wrap ((m:Int)-(x1:Int))=((m-x1:Nat):Int):=by rw[IntKind.wrap_i64];have:=HMM.out;omega
     have HL1:=Hj h1;clear h1;go_wp2_with fail;refine C1.out.mono ?_;rintro e w1 ⟨⟨y,rfl,hy⟩,hb⟩;have S2:=Hj (S1.out.add HL1.out hy);have ov:IntKind.i64.wrap ((x1:Int)+(y:Int))=((x1+y:Nat):Int):=by rw[IntKind.wrap_i64];have:=hy.1;have:=HX1.out;have:=HMM.out;omega
     have BEL1:=Hj (BEL.out.trans (hb.mono BEL.out.size));have BEL1':Hid (Below wr.heap.size wr w1):=hb;obtain⟨x2,hx⟩:∃z,x1+y=z:=⟨_,rfl⟩;have hx':((x1+y:Nat):Int)=(x2:Int):=by omega
     rw[hx']at ov;rw[hx]at S2;go_upto_region 8 with fail;clear hy hb hx hx' os1 y1 ov C1 d2 d3 hsz hq' ov0 ov1 ov2;have HX2:Hid (x2≤200002):=by have:=S2.out.1;have:=HMM.out;show _≤_;omega
     by_cases h2:x2≤m
     ·have y2:(x2:Int)≤(m:Int):=by omega
      have XC:=XX.out.2.below XX.out.1 BEL1'.out (aF HB.out BEL.out.size);have d4:=XC.c4;have d5:=XC.c5;have d6:=XC.c6;have d7:=XC.c7;have d8:=XC.c8;have d9:=XC.c9;have d10:=XC.c10;clear XC;have C2:=Hj (qR B (k j).e (m-x2) w1 (II.out.ex.below (BEL1'.out) (aF HB.out BEL.out.size)) (aF HB.out BEL1.out.size) (by have:=HMM.out;omega));have os2:IntKind.i64.wrap ((m:Int)-(x2:Int))=((m-x2:Nat):Int):=by rw[IntKind.wrap_i64];have:=HMM.out;omega
      have HL2:=Hj h2;clear h2;go_wp2_with fail;refine C2.out.mono ?_;rintro e w2 ⟨⟨y,rfl,hy⟩,hb⟩;have S3:=Hj (S2.out.add HL2.out hy);have ov:IntKind.i64.wrap ((x2:Int)+(y:Int))=((x2+y:Nat):Int):=by rw[IntKind.wrap_i64];have:=hy.1;have:=HX2.out;have:=HMM.out;omega
      have BEL2:=Hj (BEL1.out.trans (hb.mono BEL1.out.size));have BEL2':=Hj (BEL1'.out.trans (hb.mono BEL1'.out.size));obtain⟨x3,hx⟩:∃z,x2+y=z:=⟨_,rfl⟩;have hx':((x2+y:Nat):Int)=(x3:Int):=by omega
      rw[hx']at ov;rw[hx]at S3;go_upto_region 10 with fail;clear hy hb hx hx' os2 y2 ov C2 d4 d5 d6 d7 d8 d9 d10;have HX3:Hid (x3≤200002):=by have:=S3.out.1;have:=HMM.out;show _≤_;omega
      by_cases h3:x3≤m
      ·have y3:(x3:Int)≤(m:Int):=by omega
       have XC:=XX.out.2.below XX.out.1 BEL2'.out (aF HB.out BEL.out.size);have d13:=XC.c13;clear XC;have C3:=Hj ((IH.out j HLT.out).1 (m-x3) w2 (II.out.ts.below (BEL2'.out) (aF HB.out BEL.out.size)) (aF HB.out BEL2.out.size) (by have:=HMM.out;omega));have os3:IntKind.i64.wrap ((m:Int)-(x3:Int))=((m-x3:Nat):Int):=by rw[IntKind.wrap_i64];have:=HMM.out;omega
       have HL3:=Hj h3;clear h3;go_wp2_with fail;refine C3.out.mono ?_;rintro e w3 ⟨⟨y,rfl,hy⟩,hb⟩;have S4:=Hj (S3.out.add HL3.out hy);have ov:IntKind.i64.wrap ((x3:Int)+(y:Int))=((x3+y:Nat):Int):=by rw[IntKind.wrap_i64];have:=hy.1;have:=HX3.out;have:=HMM.out;omega
       have BEL3:=Hj (BEL2.out.trans (hb.mono BEL2.out.size));have BEL3':=Hj (BEL2'.out.trans (hb.mono BEL2'.out.size));obtain⟨x4,hx⟩:∃z,x3+y=z:=⟨_,rfl⟩;have hx':((x3+y:Nat):Int)=(x4:Int):=by omega
       rw[hx']at ov;rw[hx]at S4;go_upto_region 12 with fail;clear hy hb hx hx' os3 y3 ov C3 d13;have HX4:Hid (x4≤200002):=by have:=S4.out.1;have:=HMM.out;show _≤_;omega
       by_cases h4:x4≤m
       ·have y4:(x4:Int)≤(m:Int):=by omega
        have XC:=XX.out.2.below XX.out.1 BEL3'.out (aF HB.out BEL.out.size);have d14:=XC.c14;clear XC;have C4:=Hj ((IH.out j HLT.out).2 (m-x4) w3 (II.out.es.below (BEL3'.out) (aF HB.out BEL.out.size)) (aF HB.out BEL3.out.size) (by have:=HMM.out;omega));have os4:IntKind.i64.wrap ((m:Int)-(x4:Int))=((m-x4:Nat):Int):=by rw[IntKind.wrap_i64];have:=HMM.out;omega
        have HL4:=Hj h4;clear h4;go_wp2_with fail;refine C4.out.mono ?_;rintro e w4 ⟨⟨y,rfl,hy⟩,hb⟩;have S5:=Hj (S4.out.add HL4.out hy);have ov:IntKind.i64.wrap ((x4:Int)+(y:Int))=((x4+y:Nat):Int):=by rw[IntKind.wrap_i64];have:=hy.1;have:=HX4.out;have:=HMM.out;omega
        have BEL4:=Hj (BEL3.out.trans (hb.mono BEL3.out.size));have BEL4':=Hj (BEL3'.out.trans (hb.mono BEL3'.out.size));obtain⟨x5,hx⟩:∃z,x4+y=z:=⟨_,rfl⟩;have hx':((x4+y:Nat):Int)=(x5:Int):=by omega
        rw[hx']at ov;rw[hx]at S5;clear hy hb hx hx' C4;go_wp2_with fail
        go_roundg (n-(j+1))
        case measure=>have:=HJ.out;have:=HLT.out;omega
        case rel=>exact⟨j+1,x5,by go_num,rfl,⟨rfl,HLT.out⟩,by have:=S5.out;rw[HW.out,HE.out];rwa [show sm (fun i=>(k i).wt) j+(1+(k j).h.nm.length)+sm (fun i=>((k j).x i).wt) (k j).h.xs.n+(k j).e.wt+sm (fun i=>((k j).t i).wt) (k j).h.ts.n+sm (fun i=>((k j).l i).wt) (k j).h.es.n=sm (fun i=>(k i).wt) j+(1+(k j).h.nm.length+sm (fun i=>((k j).x i).wt) (k j).h.xs.n+(k j).e.wt+sm (fun i=>((k j).t i).wt) (k j).h.ts.n+sm (fun i=>((k j).l i).wt) (k j).h.es.n) by omega]at this,BEL4.out⟩
       ·have y4:¬(x4:Int)≤(m:Int):=by omega
        have HL4:=Hj h4;clear h4;go_wp2_with fail
        go_roundg (n-(j+1))
        case measure=>have:=HJ.out;have:=HLT.out;omega
        case rel=>exact⟨j+1,x4,by go_num,rfl,⟨rfl,HLT.out⟩,S4.out.more (by have:=HL4.out;omega) (by rw[HW.out,HE.out];omega),BEL3.out⟩
      ·have y3:¬(x3:Int)≤(m:Int):=by omega
       have HL3:=Hj h3;clear h3;go_wp2_with fail
       go_roundg (n-(j+1))
       case measure=>have:=HJ.out;have:=HLT.out;omega
       case rel=>exact⟨j+1,x3,by go_num,rfl,⟨rfl,HLT.out⟩,S3.out.more (by have:=HL3.out;omega) (by rw[HW.out,HE.out];omega),BEL2.out⟩
     ·have y2:¬(x2:Int)≤(m:Int):=by omega
      have HL2:=Hj h2;clear h2;go_wp2_with fail
      go_roundg (n-(j+1))
      case measure=>have:=HJ.out;have:=HLT.out;omega
      case rel=>exact⟨j+1,x2,by go_num,rfl,⟨rfl,HLT.out⟩,S2.out.more (by have:=HL2.out;omega) (by rw[HW.out,HE.out];omega),BEL1.out⟩
    ·have y1:¬(x1:Int)≤(m:Int):=by omega
     have HL1:=Hj h1;clear h1 d2 d3 hsz hq' ov0 ov1 ov2;go_wp2_with fail
     go_roundg (n-(j+1))
     case measure=>have:=HJ.out;have:=HLT.out;omega
     case rel=>exact⟨j+1,x1,by go_num,rfl,⟨rfl,HLT.out⟩,S1.out.more (by have:=HL1.out;omega) (by rw[HW.out,HE.out];omega),BEL.out⟩
   ·have z1:¬(x:Int)≤(m:Int):=by omega
    have R:=Hj (HS.out.more (u:=sm (fun i=>(k i).wt) n) (by omega) (aDX (by omega)));clear hlt hle;go_wp2_with fail;go_ret;exact⟨⟨x,rfl,R.out⟩,BEL.out⟩
  ·obtain rfl:j=n:=by have:=HJ.out;omega
   have z0:¬(j:Int)<(j:Int):=by omega
   clear hlt;go_wp2_with fail;go_ret;exact⟨⟨x,rfl,HS.out⟩,BEL.out⟩
theorem aMl (B:Nat)(s:St):aFZ B s.h.ts s.t∧aFZ B s.h.es s.l:=by
 induction s using St.ind with
 | H s it il=>exact⟨aAB B s.h.ts s.t it,aAB B s.h.es s.l il⟩
theorem aBS (B:Nat)(s:Sl)(k:Nat→St):aFZ B s k:=aAB B s k fun i _=>aMl B (k i)
theorem aDy (p:Pr)(B m:Nat)(w:World)(hp:p.In B w)(hB:B≤w.heap.size)(hm:m≤100000) :
  Calls Tryz.prog 8 #[p.v,.int .i64 (m:Int)] w fun r w'=>(∃x:Nat,r=.returned (.int .i64 (x:Int))∧Sat p.wt m x)∧Below w.heap.size w w':=by
 obtain⟨tk,⟨ao,n,c⟩,k,is,ki,ss,ks⟩:=p;have HI:Hid (gF B w ⟨ao,n,c⟩ k):=hp.2.1;have I1:Hid (gL B w is ki):=hp.2.2.1;have I2:Hid (gL B w ss ks):=hp.2.2.2;have HB:=Hj hB;have hc:=hp.2.1.1;have hmx:n≤maxLen:=aF hc.1 hc.2.1;unfold maxLen at hmx;have HM:=Hj hmx;have HMM:=Hj hm;have hz:(bx w (pO ⟨tk,⟨ao,n,c⟩,k,is,ki,ss,ks⟩)).heap.size=w.heap.size+1:=cJ _ _;have HZ:=Hj hz;clear hp hB hc hmx hm hz;show Calls Tryz.prog 8 #[.agg #[.int .i64 tk,.slice ao n c,.slice is.ao is.n is.c,.slice ss.ao ss.n ss.c],.int .i64 (m:Int)] w _;go_enter Tryz.func8,Tryz.ntmps8;go_upto_region 1 with fail;rw[aIJ w ⟨tk,⟨ao,n,c⟩,k,is,ki,ss,ks⟩];go_wp2_with fail
 go_loopg [5,6] n (fun gk t i wr=>∃j x:Nat,i=.int .i64 (j:Int)∧t=.int .i64 (x:Int)∧Hid (gk=n-j∧j≤n)∧Hid (Sat (sm (fun i=>(k i).wt) j) m x)∧Hid (Below (bx w (pO ⟨tk,⟨ao,n,c⟩,k,is,ki,ss,ks⟩)).heap.size (bx w (pO ⟨tk,⟨ao,n,c⟩,k,is,ki,ss,ks⟩)) wr))
 case atStart=>exact⟨0,0,rfl,rfl,⟨rfl,Nat.zero_le _⟩,⟨by omega,fun _=>rfl,fun h=>by simp[sm]at h⟩,Below.refl _ _⟩
 case round=>
  obtain⟨j,x,rfl,rfl,HJ,HS,HBw⟩:=hrel;have hBx:wr.heap[w.heap.size]? = some (pO ⟨tk,⟨ao,n,c⟩,k,is,ki,ss,ks⟩):=(HBw.out.block _ (by have:=HZ.out;omega)).trans (cD _ _);obtain⟨-,c1,c2,c3⟩:=eF hBx;dsimp only at c1 c2 c3;have BEL:Hid (Below w.heap.size w wr):=(bS (Below.refl _ _) (aD _) _).trans (HBw.out.mono (by have:=HZ.out;omega));have HP:=Hj hBx;have hxb:x≤200002:=by have:=HS.out.1;have:=HMM.out;omega
  clear hBx
  by_cases hlt:j<n
  ·have z0:(j:Int)<(n:Int):=by omega
   by_cases hle:x≤m
   ·have z1:(x:Int)≤(m:Int):=by omega
    have ovi:IntKind.i64.wrap ((j:Int)+1)=((j+1:Nat):Int):=by have:=HM.out;rw[IntKind.wrap_i64];omega
    obtain⟨a,b,o,rfl,hA,hb,X,I⟩:=gF.at (HI.out.below BEL.out HB.out) (i:=j) hlt;have d2:=X.c2;have XX:=Hj (And.intro hb X);have II:=Hj I;have hsz:=rO (k j).nm;obtain⟨q,hq⟩:∃q,min (k j).nm.length (m+1)=q:=⟨_,rfl⟩;have hq':min (((k j).nm.length:Nat):Int) ((m:Int)+1)=(q:Int):=by omega
    have S1:=Hj (HS.out.head hle hq);have HLT:=Hj hlt;have hHM:=HMM.out;have HW:=Hj (show sm (fun i=>(k i).wt) (j+1)=sm (fun i=>(k i).wt) j+(1+(k j).nm.length+(k j).lo.wt+(k j).hi.wt)from rfl);have ov0:IntKind.i64.wrap ((m:Int)+1)=(m:Int)+1:=by rw[IntKind.wrap_i64];omega
    have ov1:IntKind.i64.wrap ((x:Int)+1)=(x:Int)+1:=by rw[IntKind.wrap_i64];omega
    have ov2:IntKind.i64.wrap ((x:Int)+1+(q:Int))=((x+1+q:Nat):Int):=by rw[IntKind.wrap_i64];omega
    obtain⟨x1,hx1⟩:∃x1,x+1+q=x1:=⟨_,rfl⟩;have hx1':((x+1+q:Nat):Int)=(x1:Int):=by omega
    rw[hx1']at ov2;rw[hx1]at S1;clear X I hb hle hlt hq hx1 hx1' c2 c3;go_upto_region 6 with fail;have HX1:Hid (x1≤200002):=by have:=S1.out.1;have:=HMM.out;show _≤_;omega
    by_cases h1:x1≤m
    ·have y1:(x1:Int)≤(m:Int):=by omega
     have XC:=XX.out.2;have d6:=XC.c6;have d7:=XC.c7;have d8:=XC.c8;have d9:=XC.c9;have d10:=XC.c10;have d11:=XC.c11;have d12:=XC.c12;clear XC;have C1:=Hj (qR B (k j).lo (m-x1) wr II.out.2.1 (aF HB.out BEL.out.size) (by have:=HMM.out;omega));have os1:IntKind.i64.wrap ((m:Int)-(x1:Int))=((m-x1:Nat):Int):=by rw[IntKind.wrap_i64];have:=HMM.out;omega
     have HL1:=Hj h1;clear h1;go_wp2_with fail;refine C1.out.mono ?_;rintro e w1 ⟨⟨y,rfl,hy⟩,hb⟩;have S2:=Hj (S1.out.add HL1.out hy);have ov:IntKind.i64.wrap ((x1:Int)+(y:Int))=((x1+y:Nat):Int):=by rw[IntKind.wrap_i64];have:=hy.1;have:=HX1.out;have:=HMM.out;omega
     have BEL1:=Hj (BEL.out.trans (hb.mono BEL.out.size));have BEL1':Hid (Below wr.heap.size wr w1):=hb;obtain⟨x2,hx⟩:∃z,x1+y=z:=⟨_,rfl⟩;have hx':((x1+y:Nat):Int)=(x2:Int):=by omega
     rw[hx']at ov;rw[hx]at S2;go_upto_region 8 with fail;clear hy hb hx hx' os1 y1 ov C1 d2 hsz hq' ov0 ov1 ov2 c1 d6 d7 d8 d9 d10 d11 d12;have HX2:Hid (x2≤200002):=by have:=S2.out.1;have:=HMM.out;show _≤_;omega
     by_cases h2:x2≤m
     ·have y2:(x2:Int)≤(m:Int):=by omega
      have XC:=XX.out.2.below XX.out.1 BEL1'.out (aF HB.out BEL.out.size);have c1:=(eF ((BEL1'.out.block _ (Array.getElem?_eq_some_iff.1 HP.out).1).trans HP.out)).2.1;dsimp only at c1;have d13:=XC.c13;have d14:=XC.c14;have d15:=XC.c15;have d16:=XC.c16;have d17:=XC.c17;have d18:=XC.c18;have d19:=XC.c19;clear XC;have C2:=Hj (qR B (k j).hi (m-x2) w1 (II.out.2.2.below BEL1'.out (aF HB.out BEL.out.size)) (aF HB.out BEL1.out.size) (by have:=HMM.out;omega));have os2:IntKind.i64.wrap ((m:Int)-(x2:Int))=((m-x2:Nat):Int):=by rw[IntKind.wrap_i64];have:=HMM.out;omega
      have HL2:=Hj h2;clear h2;go_wp2_with fail;refine C2.out.mono ?_;rintro e w2 ⟨⟨y,rfl,hy⟩,hb⟩;have S3:=Hj (S2.out.add HL2.out hy);have ov:IntKind.i64.wrap ((x2:Int)+(y:Int))=((x2+y:Nat):Int):=by rw[IntKind.wrap_i64];have:=hy.1;have:=HX2.out;have:=HMM.out;omega
      have BEL2:=Hj (BEL1.out.trans (hb.mono BEL1.out.size));have BEL2':=Hj (BEL1'.out.trans (hb.mono BEL1'.out.size));obtain⟨x3,hx⟩:∃z,x2+y=z:=⟨_,rfl⟩;have hx':((x2+y:Nat):Int)=(x3:Int):=by omega
      rw[hx']at ov;rw[hx]at S3;clear hy hb hx hx' C2;go_wp2_with fail
      go_roundg (n-(j+1))
      case measure=>have:=HJ.out;have:=HLT.out;omega
      case rel=>exact⟨j+1,x3,by go_num,rfl,⟨rfl,HLT.out⟩,by have:=S3.out;rw[HW.out];rwa [show sm (fun i=>(k i).wt) j+(1+(k j).nm.length)+(k j).lo.wt+(k j).hi.wt=sm (fun i=>(k i).wt) j+(1+(k j).nm.length+(k j).lo.wt+(k j).hi.wt) by omega]at this,HBw.out.trans (BEL2'.out.mono HBw.out.size)⟩
     ·have y2:¬(x2:Int)≤(m:Int):=by omega
      have HL2:=Hj h2;clear h2;go_wp2_with fail
      go_roundg (n-(j+1))
      case measure=>have:=HJ.out;have:=HLT.out;omega
      case rel=>exact⟨j+1,x2,by go_num,rfl,⟨rfl,HLT.out⟩,S2.out.more (by have:=HL2.out;omega) (by rw[HW.out];omega),HBw.out.trans (BEL1'.out.mono HBw.out.size)⟩
    ·have y1:¬(x1:Int)≤(m:Int):=by omega
     have HL1:=Hj h1;clear h1 d2 hsz hq' ov0 ov1 ov2;go_wp2_with fail
     go_roundg (n-(j+1))
     case measure=>have:=HJ.out;have:=HLT.out;omega
     case rel=>exact⟨j+1,x1,by go_num,rfl,⟨rfl,HLT.out⟩,S1.out.more (by have:=HL1.out;omega) (by rw[HW.out];omega),HBw.out⟩
   ·have z1:¬(x:Int)≤(m:Int):=by omega
    have SN:=Hj (HS.out.more (u:=sm (fun i=>(k i).wt) n) (by omega) (aDX (by omega)));clear hlt;have R:=Hj (SN.out.more (u:=(⟨tk,⟨ao,n,c⟩,k,is,ki,ss,ks⟩:Pr).wt) (by omega) (by unfold Pr.wt;dsimp only;omega));clear hle c2 c3;go_wp2_with fail;go_ret;exact⟨⟨x,rfl,R.out⟩,BEL.out⟩
  ·obtain rfl:j=n:=by have:=HJ.out;omega
   have z0:¬(j:Int)<(j:Int):=by omega
   have SN:=HS;clear hlt;have HX:Hid (x≤200002):=hxb;clear hxb
   by_cases hle:x≤m
   ·have z1:(x:Int)≤(m:Int):=by omega
    have C1:=Hj (aBS B is ki (m-x) wr (I1.out.below BEL.out HB.out) (aF HB.out BEL.out.size) (by have:=HMM.out;omega));have os1:IntKind.i64.wrap ((m:Int)-(x:Int))=((m-x:Nat):Int):=by rw[IntKind.wrap_i64];have:=HMM.out;omega
    have HL1:=Hj hle;clear hle;go_wp2_with fail;refine C1.out.mono ?_;rintro e w1 ⟨⟨y,rfl,hy⟩,hb⟩;have S1:=Hj (SN.out.add HL1.out hy);have ov:IntKind.i64.wrap ((x:Int)+(y:Int))=((x+y:Nat):Int):=by rw[IntKind.wrap_i64];have:=hy.1;have:=HX.out;have:=HMM.out;omega
    have BEL1:=Hj (BEL.out.trans (hb.mono BEL.out.size));have c3:=(eF ((hb.block _ (Array.getElem?_eq_some_iff.1 HP.out).1).trans HP.out)).2.2.2;dsimp only at c3;obtain⟨x2,hx⟩:∃z,x+y=z:=⟨_,rfl⟩;have hx':((x+y:Nat):Int)=(x2:Int):=by omega
    rw[hx']at ov;rw[hx]at S1;go_upto_region 12 with fail;clear hy hb hx hx' os1 z1 ov C1 c1 c2;have HX2:Hid (x2≤200002):=by have:=S1.out.1;have:=HMM.out;show _≤_;omega
    by_cases h2:x2≤m
    ·have z1:(x2:Int)≤(m:Int):=by omega
     have C1:=Hj (aBS B ss ks (m-x2) w1 (I2.out.below BEL1.out HB.out) (aF HB.out BEL1.out.size) (by have:=HMM.out;omega));have os1:IntKind.i64.wrap ((m:Int)-(x2:Int))=((m-x2:Nat):Int):=by rw[IntKind.wrap_i64];have:=HMM.out;omega
     have HL2:=Hj h2;clear h2;go_wp2_with fail;refine C1.out.mono ?_;rintro e w2 ⟨⟨y,rfl,hy⟩,hb⟩;have S2:=Hj (S1.out.add HL2.out hy);have ov:IntKind.i64.wrap ((x2:Int)+(y:Int))=((x2+y:Nat):Int):=by rw[IntKind.wrap_i64];have:=hy.1;have:=HX2.out;have:=HMM.out;omega
     have BEL2:=Hj (BEL1.out.trans (hb.mono BEL1.out.size));clear hy hb;go_wp2_with fail;go_ret;exact⟨⟨x2+y,by simp,S2.out⟩,BEL2.out⟩
    ·have z1:¬(x2:Int)≤(m:Int):=by omega
     have R:=Hj (S1.out.more (u:=(⟨tk,⟨ao,j,c⟩,k,is,ki,ss,ks⟩:Pr).wt) (by omega) (by unfold Pr.wt;dsimp only;omega));clear h2;go_wp2_with fail;go_ret;exact⟨⟨x2,rfl,R.out⟩,BEL1.out⟩
   ·have z1:¬(x:Int)≤(m:Int):=by omega
    have R:=Hj (SN.out.more (u:=(⟨tk,⟨ao,j,c⟩,k,is,ki,ss,ks⟩:Pr).wt) (by omega) (by unfold Pr.wt;dsimp only;omega));clear hle c2 c3;go_wp2_with fail;go_ret;exact⟨⟨x,rfl,R.out⟩,BEL.out⟩
end Go.Proofs.YtkbicfffokegeaaGreatDoor
namespace Go.Proofs.YtkbicfffokegeaaGreatDoor
set_option maxHeartbeats 16000000
open Go.RowKit Go.Maps
set_option maxRecDepth 100000
theorem Sat.small12 {t m x:Nat}(h:Sat t m x)(hx:x≤m):t≤m:=by
 rcases Nat.lt_or_ge m t with g|g
 ·have:=h.2.2 g;omega
 ·exact g
theorem Pr.In.up12 {w:World}{p:Pr}{B B':Nat}(h:p.In B w)(hB:B≤B'):p.In B' w:=⟨h.1,h.2.1.mono (fun _ _=>rfl) hB,h.2.2.1.mono (fun _ _=>rfl) hB,h.2.2.2.mono (fun _ _=>rfl) hB⟩
end Go.Proofs.YtkbicfffokegeaaGreatDoor
namespace Go.Proofs.YtkbicfffokegeaaGreatDoor
set_option maxHeartbeats 16000000
open Go.RowKit
set_option maxRecDepth 100000
theorem aAv (p:Pr)(w:World)(hp:p.In w.heap.size w)(hE:Env9 w) :
  Calls Tryz.prog 3 #[p.v] w fun x w'=>x=.returned (.bool true)∧Below w.heap.size w w':=by
 have IP:=Hj hp;have HE:=Hj hE;have B0:Hid (Below w.heap.size w (bx w (pO p))):=bS (Below.refl _ _) (aD _) _;have GP:Hid ((bx w (pO p)).heap[w.heap.size]? = some (pO p)):=cD w (pO p);have CW:=Hj fun(w':World) hI hB=>aDy p w.heap.size 1500 w' hI hB (by decide);clear hp hE;show Calls Tryz.prog 3 #[.agg #[.int .i64 p.ticks,.slice p.ds.ao p.ds.n p.ds.c,.slice p.is.ao p.is.n p.is.c,.slice p.ss.ao p.ss.n p.ss.c]] w _;go_enter Tryz.func3,Tryz.ntmps3;go_upto_region 1 with fail;rw[aIJ];generalize bx w (pO p)=W at *;have WK:=Hj (aBe W (HE.out.below B0.out));go_wp2_with fail;refine WK.out.mono ?_;rintro x w1 ⟨rfl,b1⟩;have B1:=Hj (aG B0.out b1);have GP1:=Hj (aV b1 GP.out);obtain⟨a0,a1,a2,a3⟩:=eF GP1.out;clear b1 GP B0 WK;go_wp2_with fail;refine(CW.out _ (IP.out.below B1.out (aD _)) B1.out.size).mono ?_;rintro x w5 ⟨⟨n1,rfl,s1⟩,b2⟩;have B5:=Hj (aG B1.out b2);have GP5:=Hj (aV b2 GP1.out);have S1:=Hj s1;clear b2 GP1 B1 s1 CW a0 a1 a2 a3
 by_cases h1:n1≤1500
 case neg=>
  have z1:(1500:Int)<(n1:Int):=by omega
  go_wp2_with fail;go_ret;exact⟨rfl,B5.out⟩
 case pos=>
  have z1:¬(1500:Int)<(n1:Int):=by omega
  have P1:=Hj (S1.out.small12 h1);clear h1 S1;have C1:=Hj (tT p w5 (HE.out.below B5.out) ((IP.out.below B5.out (aD _)).up12 B5.out.size) (aF P1.out (by decide)));have C2:=Hj fun w' (hb:Below w5.heap.size w5 w')=>aBq p w' ((IP.out.below (aG B5.out hb) (aD _)).up12 (aF B5.out.size hb.size)) (aF P1.out (by decide));obtain⟨Z,hZ⟩:∃Z,p.ck aU raN=Z:=⟨_,rfl⟩;rw[hZ]at C1 C2;clear hZ;obtain⟨a0,a1,a2,a3⟩:=eF GP5.out;go_wp2_with fail;refine C1.out.mono ?_;rintro x w6 ⟨rfl,b6⟩;have B6:=Hj (aG B5.out b6);have GP6:=Hj (aV b6 GP5.out);have C2':Hid (Calls Tryz.prog 10 #[.agg #[.int .i64 p.ticks,.slice p.ds.ao p.ds.n p.ds.c,.slice p.is.ao p.is.n p.is.c,.slice p.ss.ao p.ss.n p.ss.c]] w6 fun r w'=>r=unW Z∧Below w6.heap.size w6 w'):=C2.out w6 b6;clear b6 GP5 B5 C1 C2 a0 a1 a2 a3;obtain⟨a0,a1,a2,a3⟩:=eF GP6.out;go_wp2_with fail;refine C2'.out.mono ?_;rintro x w7 ⟨rfl,b7⟩;have B7:=Hj (aG B6.out b7);clear b7 GP6 B6 C2' a0 a1 a2 a3;dsimp only[unW];generalize Z.er=ze at *;generalize Z.pl=zp at *;go_upto_region 8 with fail;change (Code.region 8 _ _).wp _ _ _ (w7.alloc (.cells #[.int .i64 ze,.int .i64 zp] 32))
  have NB:Hid (Blk (w7.alloc (.cells #[.int .i64 ze,.int .i64 zp] 32)) w7.heap.size 32 (wrA ze zp)):=Blk.new w7 _ _;have B8:=Hj (aI B7.out (.cells #[.int .i64 ze,.int .i64 zp] 32));clear B7;generalize w7.alloc (.cells #[.int .i64 ze,.int .i64 zp] 32)=w8 at *;have n0:w8.cell? ⟨w7.heap.size,0,none⟩=some (.int .i64 ze):=NB.out.cell 0;have n1:w8.cell? ⟨w7.heap.size,1,none⟩=some (.int .i64 zp):=NB.out.cell 1;have e0:(ze == ze)=true:=by simp
  have e1:(zp == zp)=true:=by simp
  go_wp2_with fail;go_ret;exact⟨rfl,B8.out⟩
theorem aAw (p:Pr)(w:World)(hp:p.In w.heap.size w)(hE:Env9 w):Calls Tryz.prog 3 #[p.v] w fun x w'=>x=.returned (.bool true)∧Below w.heap.size w w':=aAv p w hp hE
end Go.Proofs.YtkbicfffokegeaaGreatDoor
namespace Go.Proofs.YtkbicfffokegeaaGreatDoor
set_option maxHeartbeats 16000000
open Go.ChangeShapes Go.WideShapes Go.ChangeAt Go.RowKit Go.Joins
set_option maxRecDepth 100000
theorem own:ownKnob Tryz.prog.godebug=none:=by kernel_rfl
theorem aJV:laidOutB Tryz.prog=true:=by kernel_rfl
theorem aCy {x:Int}(h:(Lit.int .u64 x).wf=true):bC x:=by
 simp[Lit.wf,IntKind.min,IntKind.max,IntKind.signed,IntKind.bits]at h
 exact⟨by omega,by omega⟩
theorem fH {x:Int}(h:(Lit.int .i64 x).wf=true):-9223372036854775808≤x∧x≤9223372036854775807:=by
 simp[Lit.wf,IntKind.min,IntKind.max,IntKind.signed,IntKind.bits]at h
 exact⟨by omega,by omega⟩
section
variable {H:Type} {enc:TypeId×Value→H} {w:World} {base:Nat} {spare:Nat→Bool} {held:Bool} {r:Reach} {bb:Nat} {v:Value} {d:DataW H} {p:List MemPlace}
end
theorem aNI:Tryz.prog.globalNamed "math/bits.deBruijn32tab" = some 9:=by kernel_rfl
theorem aNt:(Tryz.prog.globals[9]?).map (·.type)=some 328:=by kernel_rfl
theorem aLm (l:List (DataW Unit))(hl:Rows.laid_math_bits_deBruijn32tab=DataW.agg l)(j:Nat)(hj:j<32):l[j]? = some (.lit (.int .u8 ((Lib.deBruijn32tab.getD j 0:Nat):Int))):=by
 unfold Rows.laid_math_bits_deBruijn32tab at hl;injection hl with hl;subst hl
 match j,hj with
 | 0,_=>rfl
 | 1,_=>rfl
 | 2,_=>rfl
 | 3,_=>rfl
 | 4,_=>rfl
 | 5,_=>rfl
 | 6,_=>rfl
 | 7,_=>rfl
 | 8,_=>rfl
 | 9,_=>rfl
 | 10,_=>rfl
 | 11,_=>rfl
 | 12,_=>rfl
 | 13,_=>rfl
 | 14,_=>rfl
 | 15,_=>rfl
 | 16,_=>rfl
 | 17,_=>rfl
 | 18,_=>rfl
 | 19,_=>rfl
 | 20,_=>rfl
 | 21,_=>rfl
 | 22,_=>rfl
 | 23,_=>rfl
 | 24,_=>rfl
 | 25,_=>rfl
 | 26,_=>rfl
 | 27,_=>rfl
 | 28,_=>rfl
 | 29,_=>rfl
 | 30,_=>rfl
 | 31,_=>rfl
 | n+32,h=>omega
end Go.Proofs.YtkbicfffokegeaaGreatDoor
namespace Go.Proofs.YtkbicfffokegeaaGreatDoor
set_option maxHeartbeats 16000000
open Go.ChangeShapes Go.WideShapes Go.ChangeAt Go.RowKit Go.Joins Go.Deep
set_option maxRecDepth 100000
section
variable {H:Type} {enc:TypeId×Value→H} {w:World} {base:Nat} {spare:Nat→Bool} {held:Bool} {r:Reach} {bb:Nat} {v:Value} {d:DataW H} {p:List MemPlace}
end
end Go.Proofs.YtkbicfffokegeaaGreatDoor
namespace Go.Proofs.YtkbicfffokegeaaGreatDoor
set_option maxHeartbeats 16000000
open Go.ChangeShapes Go.WideShapes Go.ChangeAt Go.RowKit Go.Joins
set_option maxRecDepth 100000
abbrev gO:List (String×DataW Unit):=[("math/bits.deBruijn32tab",Rows.laid_math_bits_deBruijn32tab),("math/bits.deBruijn64tab",Rows.laid_math_bits_deBruijn64tab),("internal/strconv.uint64pow10",Rows.laid_internal_strconv_uint64pow10),("unicode/utf8.acceptRanges",Rows.laid_unicode_utf8_acceptRanges),("strconv.ErrRange",Rows.laid_strconv_ErrRange),("strconv.ErrSyntax",Rows.laid_strconv_ErrSyntax),("unicode.White_Space",Rows.laid_unicode_White_Space),("strings.asciiSpace",Rows.laid_strings_asciiSpace),("unicode/utf8.first",Rows.laid_unicode_utf8_first)]
theorem aDb:(Tryz.prog.globals[8]?).map (·.type)=some 325:=by kernel_rfl
theorem aDd:(Rows.laid_internal_strconv_uint64pow10:DataW Unit)=Lib.tabData .u64 Lib.pow10Tab:=by kernel_rfl
theorem iM {W:World}(h:laidMetH Tryz.prog gO W):(aCr W∧Lib.TabIs Tryz.prog W "internal/strconv.uint64pow10" .u64 Lib.pow10Tab)∧Lib.TabIs Tryz.prog W "strings.asciiSpace" .u8 Lib.asciiSpaceTab∧∃ev,W.cell? ⟨6,0,none⟩=some ev∧(ev=.nilIface∨∃te pe,ev=.iface te pe):=by
 rw[MakeChecks.laidMetH_plain _ _ _ (by kernel_rfl)]at h;obtain⟨ps,⟨g0,t0,cs0,f0,p0,q0,hg0,ht0,hv0,hd0,⟨g1,t1,cs1,f1,p1,q1,hg1,ht1,hv1,hd1,⟨g2,t2,cs2,f2,p2,q2,hg2,ht2,hv2,hd2,⟨g3,t3,cs3,f3,p3,q3,hg3,ht3,hv3,hd3,⟨g4,t4,cs4,f4,p4,q4,hg4,ht4,hv4,hd4,⟨g5,t5,cs5,f5,p5,q5,hg5,ht5,hv5,hd5,⟨g6,t6,cs6,f6,p6,q6,hg6,ht6,hv6,hd6,⟨g7,t7,cs7,f7,p7,q7,hg7,ht7,hv7,hd7,_,_⟩,_⟩,_⟩,_⟩,_⟩,_⟩,_⟩,_⟩,_⟩:=h;refine⟨⟨?_,?_⟩,?_,?_⟩
 ·obtain rfl:=Option.some.inj (aNI.symm.trans hg0)
  obtain rfl:=Option.some.inj (aNt.symm.trans ht0);obtain⟨xs,m1,rfl,hx1,hlen,hn,hel⟩:=DataW.trod_array Tryz.underlying328 hd0;have c5:Tryz.prog.cellsOf 5=1:=by kernel_rfl
  simp only[Prod.mk.injEq]at hx1;have hx2:Rows.laid_math_bits_deBruijn32tab=DataW.agg (xs.map (·.1)):=hx1.1;intro j hj;rw[World.var?_cell hg0 hv0 j];have he:=hel j hj;rw[c5,Nat.mul_one]at he;have hjx:j<xs.length:=by omega
  rw[List.getElem?_eq_getElem hjx]at he;obtain⟨k,e1,e2,_⟩:=DataW.trod_int Tryz.underlying5 he;have e3:(xs.map (·.1))[j]? = some (.lit (.int .u8 k)):=by rw[List.getElem?_map,List.getElem?_eq_getElem hjx,e2];rfl
  have e5:=(aLm _ hx2 j hj).symm.trans e3;simp only[Option.some.injEq,DataW.lit.injEq,Lit.int.injEq,true_and]at e5
  have e6:cs0.toList[j]? = some (.int .u8 k):=by
   have:((cs0.toList.drop j).take 1)[0]? = some (.int .u8 k):=by rw[e1];rfl
   rw[List.getElem?_take,if_pos (by decide),List.getElem?_drop]at this
   simpa using this
  rw[←Array.getElem?_toList,e6,e5]
 ·obtain rfl:=Option.some.inj (aFn.symm.trans hg2)
  obtain rfl:=Option.some.inj (aDb.symm.trans ht2);rw[aDd]at hd2;unfold Lib.TabIs;rw[hv2,←Lib.cells_of_tab Tryz.underlying325 Tryz.underlying38 (by kernel_rfl) (by kernel_rfl) hd2]
 ·obtain rfl:=Option.some.inj ((show Tryz.prog.globalNamed "strings.asciiSpace" = some 0 by kernel_rfl).symm.trans hg7)
  obtain rfl:=Option.some.inj ((show(Tryz.prog.globals[0]?).map (·.type)=some 146 by kernel_rfl).symm.trans ht7);rw[show(Rows.laid_strings_asciiSpace:DataW Unit)=Lib.tabData .u8 Lib.asciiSpaceTab by kernel_rfl]at hd7;unfold Lib.TabIs;rw[hv7,←Lib.cells_of_tab Tryz.underlying146 Tryz.underlying5 (by kernel_rfl) (by kernel_rfl) hd7]
 ·obtain rfl:=Option.some.inj ((show Tryz.prog.globalNamed "strconv.ErrRange" = some 6 by kernel_rfl).symm.trans hg4)
  obtain rfl:=Option.some.inj ((show(Tryz.prog.globals[6]?).map (·.type)=some 208 by kernel_rfl).symm.trans ht4);obtain⟨f',u,v,e, -, -⟩:=iface_of_trod Tryz.underlying208 hd4;have hc:=World.var?_cell hg4 hv4 0;have e0:cs4[0]? = some (.iface u v):=by rw[←Array.getElem?_toList,e];rfl
  exact⟨_,hc.trans e0,.inr ⟨u,v,rfl⟩⟩
theorem aKl {W:World}(h:laidMetH Tryz.prog gO W)(hs:W.ShapedOpen Tryz.prog):Env9 W:=
 ⟨⟨(iM h).1.1,(iM h).1.2,cell_of_shapedOpen_int (zero:=#[.int .i64 0]) (t:=3) hs (of_decide_eq_true (by kernel_rfl)) (by kernel_rfl) rfl (by kernel_rfl) (by kernel_rfl) Tryz.underlying3⟩,(iM h).2.1,(iM h).2.2⟩
theorem aFw (os:Os)(args:Array Value):laidMetH Tryz.prog gO ((World.laidAll Tryz.prog os gO).forCall (fun _ _=>0) ⟨#[],args,[]⟩).memory:=by
 rw[MakeChecks.laidMetH_plain _ _ _ (by kernel_rfl)];exact laidMet_laidAll _ (by kernel_rfl) (by kernel_rfl)
theorem aMT {H:Type}{enc:TypeId×Value→H}{os:Os}{f:FuncId}{fn:Func}{s:ChangeSpec}(started:os.Started)(noInit:Tryz.checked.prog.inits.idxOf? f=none)(hfn:Tryz.checked.prog.funcs[f]? = some fn)
  (witness:∃(w:World) (tape:Tape) (i:Input),w.os=os∧(w.forCall tape i).Shaped Tryz.checked.prog∧i.vars=[]∧Input.okWide Tryz.checked.prog (w.forCall tape i) .any w.heap.size f i ∧
   ((s.pre enc Tryz.checked.prog fn [] false (w.forCall tape i).memory i.args∧laidMetH Tryz.prog gO (w.forCall tape i).memory)∧sizedMet enc Tryz.checked.prog fn (OpenSpec.ofChange s) false (w.forCall tape i).memory i.args)∧({}:Assume).holds Tryz.checked.prog (lone (Frame.enter Tryz.checked.prog f i.args .normal) [] (w.forCall tape i)))
  (walk:∀(W:World) (base:Nat) (args:Array Value) (ds gs:List (DataW H)) (before:List MemPlace),
   (∀(j:Nat) t v,fn.params[j]? = some t→args[j]? = some v→Value.okWide Tryz.checked.prog W .any base t v)→DataW.Whole enc Tryz.checked.prog fn.params.toList s.vars false W args.toList ds gs before→Env9 W →
   Calls Tryz.checked.prog f args W fun e W'=>∃v,e=.returned v∧s.post enc Tryz.checked.prog fn false true false false W args v W') :
  ReturnsInHanded {} Tryz.checked os f .any (fun w args=>(s.pre enc Tryz.checked.prog fn [] false w args∧laidMetH Tryz.prog gO w)∧sizedMet enc Tryz.checked.prog fn (OpenSpec.ofChange s) false w args) (s.post enc Tryz.checked.prog fn false true false false):=by
 refine returnsInHanded_of_calls own started noInit witness ?_;intro w tape i _ hsh _ hok hpre _;obtain⟨_,_,_,fn',hfn',_,_,_,_,hval⟩:=hok;obtain rfl:fn'=fn:=Option.some.inj (hfn'.symm.trans hfn);obtain⟨⟨⟨ds,gs,before,hw, -⟩,hx⟩, -⟩:=hpre;refine(walk (w.forCall tape i) w.heap.size i.args ds gs before hval (DataW.Whole.of_heap (w':=w.forCall tape i) (by rfl) hw) (aKl (hx.of_heap (by rfl)) hsh)).mono fun e W' ⟨v,he,hp⟩=>?_;subst he;exact ChangeSpec.post_blind hp
end Go.Proofs.YtkbicfffokegeaaGreatDoor
