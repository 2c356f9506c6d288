/-
  Whatever program is handed in, CheckChecks answers true. (part 14 of 38) Conditions: none beside what the card ties.
-/
import Derived.Test.YtkbicfffokegeaaGreatDoorCam
namespace Go.Proofs.YtkbicfffokegeaaGreatDoor
set_option maxHeartbeats 16000000
open Go.RowKit
set_option maxRecDepth 100000
def wR (c:UInt8):Bool:=[9,10,13,32].contains c
def kC (c:UInt8):Bool:=(decide (97≤c.toNat) && decide (c.toNat≤122)) || (decide (65≤c.toNat) && decide (c.toNat≤90)) || decide (c.toNat=95)
def iK (c:UInt8):Bool:=kC c || bT c
def gpB:Bool→List UInt8→List UInt8
 | _,[]=>[]
 | true,b::r=>if b=10 then gpB false r else gpB true r
 | false,b::r=>if wR b then gpB false r else if b=47∧r.head? = some 47 then gpB true r else b::r
def gp (l:List UInt8):List UInt8:=gpB false l
def gpL (m:Bool)(l:List UInt8):Nat:=l.length-(gpB m l).length
def gpN (l:List UInt8):Nat:=gpL false l
theorem oB:∀(m:Bool) (l:List UInt8),(gpB m l).length≤l.length
 | true,[]=>by simp[gpB]
 | false,[]=>by simp[gpB]
 | true,b::r=>by
  unfold gpB;split
  ·have:=oB false r;simp only[List.length_cons];omega
  ·have:=oB true r;simp only[List.length_cons];omega
 | false,b::r=>by
  unfold gpB;split
  ·have:=oB false r;simp only[List.length_cons];omega
  ·split
   ·have:=oB true r;simp only[List.length_cons];omega
   ·exact aD _
theorem aMi (m:Bool)(l:List UInt8):gpL m l≤l.length:=Nat.sub_le _ _
theorem fI (m:Bool)(l:List UInt8):gpL m l+(gpB m l).length=l.length:=by have:=oB m l;unfold gpL;omega
theorem nK:∀(m:Bool) (l:List UInt8),l.drop (gpL m l)=gpB m l
 | true,[]=>by simp[gpB]
 | false,[]=>by simp[gpB]
 | true,b::r=>by
  have h1:=fI true (b::r);unfold gpB at h1 ⊢;split
  ·rename_i h
   rw[if_pos h]at h1;have:=fI false r;simp only[List.length_cons]at h1;rw[show gpL true (b::r)=gpL false r+1 by omega,List.drop_succ_cons,nK]
  ·rename_i h
   rw[if_neg h]at h1;have:=fI true r;simp only[List.length_cons]at h1;rw[show gpL true (b::r)=gpL true r+1 by omega,List.drop_succ_cons,nK]
 | false,b::r=>by
  have h1:=fI false (b::r);unfold gpB at h1 ⊢;split
  ·rename_i h
   rw[if_pos h]at h1;have:=fI false r;simp only[List.length_cons]at h1;rw[show gpL false (b::r)=gpL false r+1 by omega,List.drop_succ_cons,nK]
  ·rename_i h
   rw[if_neg h]at h1;split
   ·rename_i h'
    rw[if_pos h']at h1;have:=fI true r;simp only[List.length_cons]at h1;rw[show gpL false (b::r)=gpL true r+1 by omega,List.drop_succ_cons,nK]
   ·rename_i h'
    rw[if_neg h']at h1;simp only[List.length_cons]at h1;rw[show gpL false (b::r)=0 by omega,List.drop_zero]
theorem nJ:∀(m:Bool) (l:List UInt8) (j:Nat),gpB m (l.take (gpL m l+j))=(gpB m l).take j
 | true,[],j=>by simp[gpB]
 | false,[],j=>by simp[gpB]
 | true,b::r,j=>by
  have h1:=fI true (b::r)
  by_cases h:b=10
  ·have e:gpB true (b::r)=gpB false r:=by rw[gpB,if_pos h]
   rw[e]at h1 ⊢;have:=fI false r;simp only[List.length_cons]at h1;rw[show gpL true (b::r)+j=(gpL false r+j)+1 by omega,List.take_succ_cons,gpB,if_pos h,nJ]
  ·have e:gpB true (b::r)=gpB true r:=by rw[gpB,if_neg h]
   rw[e]at h1 ⊢;have:=fI true r;simp only[List.length_cons]at h1;rw[show gpL true (b::r)+j=(gpL true r+j)+1 by omega,List.take_succ_cons,gpB,if_neg h,nJ]
 | false,b::r,j=>by
  have h1:=fI false (b::r)
  by_cases h:wR b=true
  ·have e:gpB false (b::r)=gpB false r:=by rw[gpB,if_pos h]
   rw[e]at h1 ⊢;have:=fI false r;simp only[List.length_cons]at h1;rw[show gpL false (b::r)+j=(gpL false r+j)+1 by omega,List.take_succ_cons,gpB,if_pos h,nJ]
  ·by_cases h':b=47∧r.head? = some 47
   ·have e:gpB false (b::r)=gpB true r:=by rw[gpB,if_neg h,if_pos h']
    rw[e]at h1 ⊢;have h2:=fI true r;simp only[List.length_cons]at h1
    have h3:1≤gpL true r:=by
     obtain⟨-,hr⟩:=h'
     cases r with
     | nil=>cases hr
     | cons c r=>
      obtain rfl:c=47:=by simpa using hr
      have h4:gpB true (47::r)=gpB true r:=by rw[gpB,if_neg (by decide)]
      have h5:=oB true r;rw[h4]at h2;simp only[List.length_cons]at h2;omega
    have h6:(r.take (gpL true r+j)).head? = some 47:=by
     obtain⟨-,hr⟩:=h'
     cases r with
     | nil=>cases hr
     | cons c r=>obtain⟨i,hi⟩:∃i,gpL true (c::r)+j=i+1:=⟨gpL true (c::r)+j - 1,by omega⟩;rw[hi,List.take_succ_cons];exact hr
    rw[show gpL false (b::r)+j=(gpL true r+j)+1 by omega,List.take_succ_cons,gpB,if_neg h,if_pos ⟨h'.1,h6⟩,nJ]
   ·have e:gpB false (b::r)=b::r:=by rw[gpB,if_neg h,if_neg h']
    rw[e]at h1 ⊢;rw[show gpL false (b::r)+j=j by omega]
    cases j with
    | zero=>simp[gpB]
    | succ j=>
     rw[List.take_succ_cons,gpB,if_neg h,if_neg];rintro⟨h2,h3⟩;refine h' ⟨h2,?_⟩
     cases r with
     | nil=>simp at h3
     | cons c r=>
      cases j with
      | zero=>simp at h3
      | succ j=>simpa using h3
theorem aAz (l:List UInt8)(j:Nat):gp (l.take (gpN l+j))=(gp l).take j:=nJ false l j
theorem aEv (l:List UInt8):l.drop (gpN l)=gp l:=nK false l
theorem aIc (l:List UInt8):gpN l≤l.length:=aMi false l
theorem jF (l:List UInt8):gpN l+(gp l).length=l.length:=fI false l
def nmL:List UInt8→Nat
 | []=>0
 | b::r=>if kC b then 1+(r.takeWhile iK).length else 0
def dgL (l:List UInt8):Nat:=(l.takeWhile bT).length
def frL:List UInt8→Nat
 | []=>0
 | b::r=>if b=46∧dgL r≠0 then 1+dgL r else 0
def sgL:List UInt8→Nat
 | []=>0
 | b::_=>if b=43∨b=45 then 1 else 0
def exL:List UInt8→Nat
 | []=>0
 | b::r=>if(b=101∨b=69)∧dgL (r.drop (sgL r))≠0 then 1+sgL r+dgL (r.drop (sgL r))else 0
theorem iT (b:UInt8)(r:List UInt8):nmL (b::r)=if kC b then 1+(r.takeWhile iK).length else 0:=rfl
theorem jW (b:UInt8)(r:List UInt8):frL (b::r)=if b=46∧dgL r≠0 then 1+dgL r else 0:=rfl
theorem mX (b:UInt8)(r:List UInt8):sgL (b::r)=if b=43∨b=45 then 1 else 0:=rfl
theorem iV (b:UInt8)(r:List UInt8):exL (b::r)=if(b=101∨b=69)∧dgL (r.drop (sgL r))≠0 then 1+sgL r+dgL (r.drop (sgL r))else 0:=rfl
def nuA (l:List UInt8):Nat:=dgL l+frL (l.drop (dgL l))
def nuL (l:List UInt8):Nat:=if dgL l=0 then 0 else nuA l+exL (l.drop (nuA l))
def nuF (l:List UInt8):Bool:=decide (dgL l<nuL l)
def rL:List (List UInt8):=[[61,61],[33,61],[60,61],[62,61],[38,38],[124,124],[46,46]]
def aAo:List UInt8:=[40,41,91,93,123,125,44,59,58,61,60,62,43,45,42,47,33]
def si1:List UInt8→Nat
 | []=>0
 | b::_=>if aAo.contains b then 1 else 0
theorem jR (b:UInt8)(r:List UInt8):si1 (b::r)=if aAo.contains b then 1 else 0:=rfl
def siL (l:List UInt8):Nat:=if rL.contains (l.take 2)then 2 else si1 l
theorem aGl (p:UInt8→Bool):∀l:List UInt8,(l.takeWhile p).length≤l.length
 | []=>by simp
 | b::r=>by
  have:=aGl p r;rw[List.takeWhile_cons];split
  ·simp only[List.length_cons];omega
  ·simp
theorem aAb (p:UInt8→Bool):∀(l:List UInt8) (j:Nat),((l.take j).takeWhile p).length=min j (l.takeWhile p).length
 | [],j=>by simp
 | b::r,0=>by simp
 | b::r,j+1=>by
  rw[List.take_succ_cons,List.takeWhile_cons,List.takeWhile_cons];split
  ·rw[List.length_cons,List.length_cons,aAb p r j];omega
  ·simp
theorem pH (l:List UInt8):dgL l≤l.length:=aGl _ _
theorem qW (l:List UInt8)(j:Nat):dgL (l.take j)=min j (dgL l):=aAb _ _ _
theorem aIk:∀l:List UInt8,frL l≤l.length
 | []=>by simp[frL]
 | b::r=>by
  have:=pH r;rw[jW];split
  ·simp only[List.length_cons];omega
  ·omega
theorem aAg (l:List UInt8):sgL l≤1∧sgL l≤l.length:=by
 cases l with
 | nil=>simp[sgL]
 | cons b r=>rw[mX,List.length_cons];split<;>omega
theorem aIt:∀l:List UInt8,exL l≤l.length
 | []=>by simp[exL]
 | b::r=>by
  have h1:=pH (r.drop (sgL r));have h2:=aAg r;rw[List.length_drop]at h1;rw[iV];split
  ·simp only[List.length_cons];omega
  ·omega
theorem aHv (l:List UInt8):nuA l≤l.length:=by
 have h1:=pH l;have h2:=aIk (l.drop (dgL l));rw[List.length_drop]at h2;unfold nuA;omega
theorem aDi (l:List UInt8):nuL l≤l.length:=by
 have h1:=aHv l;have h2:=aIt (l.drop (nuA l));rw[List.length_drop]at h2;unfold nuL
 split<;>omega
theorem aHC:∀l:List UInt8,nmL l≤l.length
 | []=>by simp[nmL]
 | b::r=>by
  have:=aGl iK r;rw[iT];split
  ·simp only[List.length_cons];omega
  ·omega
theorem aGv (l:List UInt8):siL l≤l.length∧siL l≤2:=by
 unfold siL;split
 ·rename_i h
  have:(l.take 2).length=2:=by
   have h':l.take 2∈rL:=List.contains_iff_mem.1 h;revert h';generalize l.take 2=x;unfold rL;simp only[List.mem_cons,List.not_mem_nil,or_false];rintro(rfl|rfl|rfl|rfl|rfl|rfl|rfl)<;>rfl
  rw[List.length_take]at this;omega
 ·cases l with
  | nil=>simp[si1]
  | cons b r=>rw[jR,List.length_cons];split<;>omega
theorem aIj (l:List UInt8)(j:Nat)(h:frL l≤j):frL (l.take j)=frL l:=by
 cases l with
 | nil=>simp
 | cons b r=>
  cases j with
  | zero=>rw[List.take_zero];exact(Nat.le_zero.1 h).symm
  | succ j=>
   rw[List.take_succ_cons];rw[jW]at h;rw[jW,jW];rw[qW]
   by_cases hb:b=46
   ·by_cases hd:dgL r=0
    ·rw[if_neg (by simp[hd]),if_neg (by simp[hd])]
    ·rw[if_pos ⟨hb,hd⟩]at h
     rw[if_pos (c:=b=46∧dgL r≠0) ⟨hb,hd⟩,if_pos ⟨hb,by omega⟩];omega
   ·rw[if_neg (by simp[hb]),if_neg (by simp[hb])]
theorem aGA (l:List UInt8)(j:Nat):sgL (l.take j)=min j (sgL l):=by
 cases l with
 | nil=>simp[sgL]
 | cons b r=>
  cases j with
  | zero=>simp[sgL]
  | succ j=>rw[List.take_succ_cons,mX,mX];split<;>omega
theorem aIs (l:List UInt8)(j:Nat)(h:exL l≤j):exL (l.take j)=exL l:=by
 cases l with
 | nil=>simp
 | cons b r=>
  cases j with
  | zero=>rw[List.take_zero];exact(Nat.le_zero.1 h).symm
  | succ j=>
   have h2:=(aAg r).1;rw[List.take_succ_cons];rw[iV]at h;rw[iV,iV];rw[aGA,List.drop_take,qW]
   by_cases hb:b=101∨b=69
   ·by_cases hd:dgL (r.drop (sgL r))=0
    ·rw[if_neg (c:=(b=101∨b=69)∧dgL (r.drop (sgL r))≠0) (by simp[hd])]
     by_cases hj:j=0
     ·subst hj
      rw[if_neg (by simp)]
     ·rw[if_neg]
      rintro⟨-,h3⟩;rw[show min j (sgL r)=sgL r by omega,hd]at h3;omega
    ·rw[if_pos ⟨hb,hd⟩]at h
     rw[if_pos (c:=(b=101∨b=69)∧dgL (r.drop (sgL r))≠0) ⟨hb,hd⟩,show min j (sgL r)=sgL r by omega,if_pos ⟨hb,by omega⟩];omega
   ·rw[if_neg (by simp[hb]),if_neg (by simp[hb])]
theorem aBH (l:List UInt8)(j:Nat)(h:nuL l≤j):nuL (l.take j)=nuL l∧(nuL l≠0→nuF (l.take j)=nuF l):=by
 have H:nuL (l.take j)=nuL l∧(nuL l≠0→dgL (l.take j)=dgL l):=by
  by_cases hd:dgL l=0
  ·have e1:nuL l=0:=by unfold nuL;rw[if_pos hd]
   refine⟨?_,fun h=>absurd e1 h⟩;rw[e1];unfold nuL;rw[if_pos (by rw[qW];omega)]
  ·have e1:nuL l=nuA l+exL (l.drop (nuA l)):=by unfold nuL;rw[if_neg hd]
   have e2:dgL (l.take j)=dgL l:=by
    rw[qW];unfold nuA at e1;omega
   have e3:nuA (l.take j)=nuA l:=by
    unfold nuA;rw[e2,List.drop_take,aIj];unfold nuA at e1;omega
   refine⟨?_,fun _=>e2⟩;rw[e1];unfold nuL;rw[if_neg (by omega),e3,List.drop_take,aIs];omega
 refine⟨H.1,fun h0=>?_⟩;unfold nuF;rw[H.1,H.2 h0]
theorem aBK (l:List UInt8)(j:Nat)(h:nmL l≤j):nmL (l.take j)=nmL l:=by
 cases l with
 | nil=>simp
 | cons b r=>
  cases j with
  | zero=>rw[List.take_zero];exact(Nat.le_zero.1 h).symm
  | succ j=>
   rw[List.take_succ_cons];rw[iT]at h;rw[iT,iT]
   by_cases hb:kC b=true
   ·rw[if_pos hb]at h ⊢
    rw[if_pos hb,aAb];omega
   ·rw[if_neg hb,if_neg hb]
theorem aGu (l:List UInt8)(j:Nat)(h:siL l≤j)(h0:siL l≠0):siL (l.take j)=siL l:=by
 by_cases h2:2≤j
 ·unfold siL
  rw[List.take_take,Nat.min_eq_left h2]
  cases l with
  | nil=>simp
  | cons b r=>obtain⟨i,rfl⟩:∃i,j=i+1:=⟨j - 1,by omega⟩;rw[show(b::r).take (i+1)=b::r.take i from rfl,jR,jR]
 ·obtain rfl:j=1:=by omega
  cases l with
  | nil=>simp
  | cons b r=>
   have e1:siL (b::r)=1:=by omega
   rw[e1];rw[List.take_succ_cons,List.take_zero]
   have hone:aAo.contains b=true:=by
    unfold siL at e1
    split at e1
    ·omega
    ·rw[jR]at e1
     split at e1
     ·assumption
     ·omega
   unfold siL;rw[jR,if_neg,if_pos hone];intro h3;have h3':[b]∈rL:=by simpa using h3
   unfold rL at h3'
   simp at h3'
def kwS:List (List UInt8):=[[116,105,99,107,115],[105,110,112,117,116],[118,97,114],[105,110,105,116],[115,116,101,112],[105,102],[101,108,115,101],[102,111,114],[116,114,117,101],[102,97,108,115,101],[105,110,116],[102,108,111,97,116],[98,111,111,108],[97,98,115],[105,110]]
structure Tk where
 kd:Int
 ps:Int
 tx:List UInt8
 nn:Int
 ff:Int
def noT:Tk:=⟨0,0,[],0,0⟩
def fiE (l:List UInt8):Int:=
 if nmL l≠0 then(if 32<nmL l then 91 else 0)
 else if nuL l≠0 then(if 400<nuL l then 91 else if nuF l then(if psE (l.take (nuL l))=0 then 0 else 93)else if cX (l.take (nuL l))≤2147483647 then 0 else 92)
 else if siL l≠0 then 0 else 90
def fiN (l:List UInt8):Nat:=if nmL l≠0 then nmL l else if nuL l≠0 then nuL l else siL l
def fiT (l:List UInt8)(a:Int):Tk:=
 if nmL l≠0 then⟨if kwS.contains (l.take (nmL l))then 4 else 1,a,l.take (nmL l),0,0⟩
 else if nuL l≠0 then(if nuF l then⟨3,a,[],0,psF (l.take (nuL l))⟩ else⟨2,a,[],cX (l.take (nuL l)),0⟩)
 else⟨5,a,l.take (siL l),0,0⟩
theorem aAF (l:List UInt8):fiN l≤l.length:=by
 have h1:=aHC l;have h2:=aDi l;have h3:=(aGv l).1;unfold fiN;split
 ·omega
 ·split<;>omega
theorem aAE {l:List UInt8}(h:fiE l=0):1≤fiN l:=by
 unfold fiE at h;unfold fiN
 by_cases h1:nmL l=0
 ·rw[if_neg (by omega)]at h ⊢
  by_cases h2:nuL l=0
  ·rw[if_neg (by omega)]at h ⊢
   by_cases h3:siL l=0
   ·rw[if_neg (by omega)]at h;omega
   ·omega
  ·rw[if_pos h2];omega
 ·rw[if_pos h1];omega
theorem aKh {l:List UInt8}{j:Nat}(h:fiE l=0)(hj:fiN l≤j):fiE (l.take j)=0∧fiN (l.take j)=fiN l∧∀a,fiT (l.take j) a=fiT l a:=by
 have tt:∀n,n≤j→(l.take j).take n=l.take n:=fun n hn=>by rw[List.take_take,Nat.min_eq_left hn]
 by_cases h1:nmL l=0
 ·have e1:nmL (l.take j)=0:=by rw[aBK l j (by omega),h1]
  by_cases h2:nuL l=0
  ·have e2:nuL (l.take j)=0:=by rw[(aBH l j (by omega)).1,h2]
   have h3:siL l≠0:=fun h3=>by
    unfold fiE at h;rw[if_neg (by omega),if_neg (by omega),if_neg (by omega)]at h;omega
   have n3:fiN l=siL l:=by unfold fiN;rw[if_neg (by omega),if_neg (by omega)]
   have e3:siL (l.take j)=siL l:=aGu l j (by omega) h3;refine⟨?_,?_,fun a=>?_⟩
   ·unfold fiE
    rw[e1,e2,e3,if_neg (by omega),if_neg (by omega),if_pos h3]
   ·unfold fiN
    rw[e1,e2,e3,h1,h2]
   ·unfold fiT
    simp[e1,e2,e3,h1,h2,tt (siL l) (by omega)]
  ·have n3:fiN l=nuL l:=by unfold fiN;rw[if_neg (by omega),if_pos h2]
   obtain⟨e2,e3⟩:=aBH l j (by omega);have e3:=e3 h2;refine⟨?_,?_,fun a=>?_⟩
   ·unfold fiE at h ⊢
    simpa [h1,h2,e1,e2,e3,tt (nuL l) (by omega)] using h
   ·unfold fiN
    simp[e1,e2,h1,h2]
   ·unfold fiT
    simp[e1,e2,e3,h1,h2,tt (nuL l) (by omega)]
 ·have n3:fiN l=nmL l:=by unfold fiN;rw[if_pos h1]
  have e1:nmL (l.take j)=nmL l:=aBK l j (by omega);refine⟨?_,?_,fun a=>?_⟩
  ·unfold fiE at h ⊢
   rw[if_pos h1]at h;rw[e1,if_pos h1];exact h
  ·unfold fiN
   rw[e1,if_pos h1,if_pos h1]
  ·unfold fiT
   rw[e1,if_pos h1,if_pos h1,tt _ (by omega)]
def enT (a:Nat):Tk:=⟨0,a,[],0,0⟩
def lxF:Nat→List UInt8→Nat→List Tk×Int×Nat
 | 0,_,a=>([],90,a)
 | k+1,l,a=>
  if l=[] then([enT a],0,0)
  else if fiE l≠0 then([],fiE l,a)
  else
   let r:=lxF k (gp (l.drop (fiN l))) (a+fiN l+gpN (l.drop (fiN l)))
   if r.2.1≠0 then([],r.2) else(fiT l a::r.1,r.2)
def gJ (l:List UInt8):List Tk×Int×Nat:=if 16384<l.length then([],91,0)else lxF (l.length+1) (gp l) (gpN l)
theorem qM (k a:Nat){l:List UInt8}(h0:l≠[])(h:fiE l≠0):lxF (k+1) l a=([],fiE l,a):=by rw[lxF,if_neg h0,if_pos h]
theorem nZ (k a:Nat){l:List UInt8}(h0:l≠[])(h:fiE l=0):lxF (k+1) l a=(let r:=lxF k (gp (l.drop (fiN l))) (a+fiN l+gpN (l.drop (fiN l)));if r.2.1≠0 then([],r.2) else(fiT l a::r.1,r.2)):=by rw[lxF,if_neg h0,if_neg (by omega)]
theorem nA {l:List UInt8}(h:fiE l=0):(gp (l.drop (fiN l))).length<l.length:=by
 have h1:=aAE h;have h2:=aAF l;have h3:=jF (l.drop (fiN l));rw[List.length_drop]at h3;omega
theorem wL:∀(k k':Nat) (l:List UInt8) (a:Nat),l.length<k→l.length<k'→lxF k l a=lxF k' l a
 | 0,_,_,_,h,_=>by omega
 | _+1,0,_,_,_,h=>by omega
 | k+1,k'+1,l,a,h,h'=>by
  by_cases h0:l=[]
  ·subst h0;rfl
  ·by_cases h1:fiE l=0
   ·have:=nA h1
    rw[nZ k a h0 h1,nZ k' a h0 h1,wL k k' _ _ (by omega) (by omega)]
   ·rw[qM k a h0 h1,qM k' a h0 h1]
inductive Run:List UInt8→Nat→List Tk→Prop where
 | fin (a:Nat):Run [] a [enT a]
 | tok (l:List UInt8) (a:Nat) (ts:List Tk) (h0:l≠[]) (h:fiE l=0) (r:Run (gp (l.drop (fiN l))) (a+fiN l+gpN (l.drop (fiN l))) ts):Run l a (fiT l a::ts)
theorem aGM:∀(k:Nat) (l:List UInt8) (a:Nat),l.length<k→(lxF k l a).2.1=0→Run l a (lxF k l a).1∧(lxF k l a).2.2=0
 | 0,_,_,h,_=>by omega
 | k+1,l,a,h,e=>by
  by_cases h0:l=[]
  ·subst h0
   exact⟨.fin a,rfl⟩
  ·by_cases h1:fiE l=0
   ·have:=nA h1
    have ih:=aGM k (gp (l.drop (fiN l))) (a+fiN l+gpN (l.drop (fiN l))) (by omega);rw[nZ k a h0 h1]at e ⊢;dsimp only at e ⊢
    by_cases h2:(lxF k (gp (l.drop (fiN l))) (a+fiN l+gpN (l.drop (fiN l)))).2.1=0
    ·rw[if_neg (by omega)]at e ⊢
     exact⟨.tok l a _ h0 h1 (ih h2).1,(ih h2).2⟩
    ·rw[if_pos h2]at e
     exact absurd e h2
   ·rw[qM k a h0 h1]at e
    exact absurd e h1
theorem aLI {l:List UInt8}{a:Nat}{ts:List Tk}(h:Run l a ts):∀k,l.length<k→lxF k l a=(ts,0,0):=by
 induction h with
 | fin a=>
  intro k hk;obtain⟨k,rfl⟩:∃i,k=i+1:=⟨k - 1,by simp at hk;omega⟩;rfl
 | tok l a ts h0 h1 r ih=>
  intro k hk;obtain⟨k,rfl⟩:∃i,k=i+1:=⟨k - 1,by omega⟩;have:=nA h1;rw[nZ k a h0 h1,ih k (by omega)];rfl
theorem aBQ (l:List UInt8)(j:Nat):gpN (l.take (gpN l+j))=gpN l:=by
 have h1:=jF (l.take (gpN l+j));have h2:=jF l;rw[aAz,List.length_take,List.length_take]at h1;omega
theorem aED:∀(k:Nat) (l:List UInt8) (a:Nat),l.length<k→(lxF k l a).2.1≠0→(lxF k l a).1=[]∧∃j,(lxF k l a).2.2=a+j∧j<l.length∧∃ts,Run (l.take j) a ts
 | 0,_,_,h,_=>by omega
 | k+1,l,a,h,e=>by
  by_cases h0:l=[]
  ·subst h0
   exact absurd rfl e
  ·by_cases h1:fiE l=0
   ·have hl:=nA h1
    have hn:=aAF l;have hp:=aAE h1;have hg:=jF (l.drop (fiN l));rw[List.length_drop]at hg;have ih:=aED k (gp (l.drop (fiN l))) (a+fiN l+gpN (l.drop (fiN l))) (by omega);rw[nZ k a h0 h1]at e ⊢;dsimp only at e ⊢
    by_cases h2:(lxF k (gp (l.drop (fiN l))) (a+fiN l+gpN (l.drop (fiN l)))).2.1=0
    ·rw[if_neg (by omega)]at e
     exact absurd h2 e
    ·obtain⟨-,j,e1,e2,ts,r⟩:=ih h2
     rw[if_pos h2];have e3:fiN l+gpN (l.drop (fiN l))+j<l.length:=by clear e e1 h2 ih;omega
     refine⟨rfl,fiN l+gpN (l.drop (fiN l))+j,e1.trans (by clear e e1 h2 ih e3;omega),e3,fiT l a::ts,?_⟩;have hj:fiN l≤fiN l+gpN (l.drop (fiN l))+j:=by omega
     obtain⟨f1,f2,f3⟩:=aKh h1 hj
     have hd:(l.take (fiN l+gpN (l.drop (fiN l))+j)).drop (fiN l)=(l.drop (fiN l)).take (gpN (l.drop (fiN l))+j):=by
      rw[List.drop_take,show fiN l+gpN (l.drop (fiN l))+j-fiN l=gpN (l.drop (fiN l))+j by omega]
     rw[←f3 a];refine .tok _ a ts ?_ f1 ?_
     ·intro h3
      have:=congrArg List.length h3;rw[List.length_take,List.length_nil]at this;omega
     ·rw[f2,hd,aAz,aBQ]
      exact r
   ·rw[qM k a h0 h1]
    refine⟨rfl,0,rfl,?_,[enT a],by rw[List.take_zero];exact .fin a⟩
    cases l with
    | nil=>exact absurd rfl h0
    | cons b r=>simp
theorem aHK {s:List UInt8}(hs:s.length≤16384)(h:(gJ s).2.1≠0):(gJ s).1=[]∧(gJ s).2.2<s.length∧∃ts,gJ (s.take (gJ s).2.2)=(ts,0,0):=by
 have e:gJ s=lxF (s.length+1) (gp s) (gpN s):=by unfold gJ;rw[if_neg (by omega)]
 have hg:=jF s;rw[e]at h ⊢;obtain⟨h1,j,h2,h3,ts,h4⟩:=aED (s.length+1) (gp s) (gpN s) (by omega) h;refine⟨h1,by omega,ts,?_⟩;rw[h2];unfold gJ;rw[if_neg (by rw[List.length_take];omega),aAz,aBQ];exact aLI h4 _ (by rw[List.length_take,List.length_take];omega)
theorem zO:∀(l:List UInt8) (j:Nat),j<dgL l→∃b,l[j]? = some b∧bT b=true
 | [],j,h=>by simp[dgL]at h
 | b::r,j,h=>by
  unfold dgL at h;rw[List.takeWhile_cons]at h
  split at h
  ·rename_i hb
   cases j with
   | zero=>exact⟨b,rfl,hb⟩
   | succ j=>exact zO r j (by rw[List.length_cons]at h;exact Nat.lt_of_succ_lt_succ h)
  ·simp at h
theorem aIy:∀(l:List UInt8) (b:UInt8),l[dgL l]? = some b→bT b=false
 | [],b,h=>by simp[dgL]at h
 | c::r,b,h=>by
  unfold dgL at h;rw[List.takeWhile_cons]at h
  split at h
  ·rw[List.length_cons,List.getElem?_cons_succ]at h
   exact aIy r b h
  ·rename_i hb
   simp only[List.length_nil,List.getElem?_cons_zero,Option.some.injEq]at h;rw[←h]
   simpa using hb
theorem aIi (x:List UInt8):frL x=0∧(∀c,x[0]? = some 46→x[1]? = some c→bT c=false)∨∃r,x=46::r∧dgL r≠0∧frL x=1+dgL r:=by
 cases x with
 | nil=>exact .inl ⟨rfl,fun c h=>by simp at h⟩
 | cons b r=>
  rw[jW]
  by_cases h:b=46∧dgL r≠0
  ·rw[if_pos h]
   exact .inr ⟨r,by rw[h.1],h.2,rfl⟩
  ·rw[if_neg h]
   refine .inl ⟨rfl,fun c h1 h2=>?_⟩;simp only[List.getElem?_cons_zero,Option.some.injEq]at h1
   have h3:dgL r=0:=by
    refine Classical.byContradiction fun h4=>h ⟨h1,h4⟩
   refine aIy r c ?_;rw[h3];exact h2
theorem aIr (x:List UInt8):exL x=0∨∃b r,x=b::r∧(b=101∨b=69)∧(sgL r=0∨sgL r=1∧∃c,r[0]? = some c∧(c=43∨c=45))∧dgL (r.drop (sgL r))≠0∧exL x=1+sgL r+dgL (r.drop (sgL r)):=by
 cases x with
 | nil=>exact .inl rfl
 | cons b r=>
  rw[iV]
  by_cases h:(b=101∨b=69)∧dgL (r.drop (sgL r))≠0
  ·rw[if_pos h]
   refine .inr ⟨b,r,rfl,h.1,?_,h.2,rfl⟩
   cases r with
   | nil=>exact .inl rfl
   | cons c r=>
    rw[mX]
    by_cases hc:c=43∨c=45
    ·rw[if_pos hc]
     exact .inr ⟨rfl,c,rfl,hc⟩
    ·rw[if_neg hc]
     exact .inl rfl
  ·rw[if_neg h]
   exact .inl rfl
def aNg (b:UInt8):Prop:=b=101∨b=69
def aNu (b:UInt8):Prop:=b=43∨b=45
theorem aLP (l:List UInt8)(j:Nat)(hj:j<nuL l):∃b,l[j]? = some b∧(bT b=true∨(b=46∧∃c,l[j+1]? = some c∧bT c=true)∨(nuF l=true∧(aNg b∨(aNu b∧1≤j∧∃c,l[j-1]? = some c∧aNg c)))):=by
 have h0:dgL l≠0:=fun h=>by unfold nuL at hj;rw[if_pos h]at hj;omega
 have eN:nuL l=nuA l+exL (l.drop (nuA l)):=by unfold nuL;rw[if_neg h0]
 by_cases h1:j<dgL l
 ·obtain⟨b,e,d⟩:=zO l j h1
  exact⟨b,e,.inl d⟩
 ·by_cases h2:j<nuA l
  ·unfold nuA at h2
   rcases aIi (l.drop (dgL l)) with⟨e, -⟩|⟨r,ex,hd,e⟩
   ·omega
   ·by_cases h3:j=dgL l
    ·refine⟨46,?_,.inr (.inl ⟨rfl,?_⟩)⟩
     ·have:(l.drop (dgL l))[0]? = some 46:=by rw[ex];rfl
      rw[List.getElem?_drop]at this;rw[h3];exact this
     ·obtain⟨c,e1,e2⟩:=zO r 0 (by omega)
      refine⟨c,?_,e2⟩;have:(l.drop (dgL l))[1]? = some c:=by rw[ex];exact e1
      rw[List.getElem?_drop]at this;rw[h3];exact this
    ·obtain⟨c,e1,e2⟩:=zO r (j - dgL l - 1) (by omega)
     refine⟨c,?_,.inl e2⟩;have:(l.drop (dgL l))[j-dgL l-1+1]? = some c:=by rw[ex,List.getElem?_cons_succ];exact e1
     rw[List.getElem?_drop,show dgL l+(j-dgL l-1+1)=j by omega]at this;exact this
  ·have hF:nuF l=true:=by
    unfold nuF;rw[decide_eq_true_eq];unfold nuA at h2 eN;omega
   rcases aIr (l.drop (nuA l))with e|⟨b,r,ex,hb,hs,hd,e⟩
   ·omega
   ·by_cases h3:j=nuA l
    ·refine⟨b,?_,.inr (.inr ⟨hF,.inl hb⟩)⟩
     have:(l.drop (nuA l))[0]? = some b:=by rw[ex];rfl
     rw[List.getElem?_drop]at this;rw[h3];exact this
    ·by_cases h4:j=nuA l+1∧sgL r=1
     ·rcases hs with hs|⟨-,c,e1,hc⟩
      ·omega
      ·refine⟨c,?_,.inr (.inr ⟨hF,.inr ⟨hc,by omega,b,?_,hb⟩⟩)⟩
       ·have:(l.drop (nuA l))[1]? = some c:=by rw[ex];exact e1
        rw[List.getElem?_drop]at this;rw[h4.1];exact this
       ·have:(l.drop (nuA l))[0]? = some b:=by rw[ex];rfl
        rw[List.getElem?_drop]at this;rw[show j-1=nuA l+0 by omega];exact this
     ·have hs1:sgL r≤1:=(aAg r).1
      obtain⟨c,e1,e2⟩:=zO (r.drop (sgL r)) (j - nuA l - 1 - sgL r) (by omega);refine⟨c,?_,.inl e2⟩;rw[List.getElem?_drop]at e1;have:(l.drop (nuA l))[sgL r+(j-nuA l-1-sgL r)+1]? = some c:=by rw[ex,List.getElem?_cons_succ];exact e1
      rw[List.getElem?_drop,show nuA l+(sgL r+(j-nuA l-1-sgL r)+1)=j by omega]at this;exact this
structure PS where
 ts:List Tk
 ns:Nat
 nx:Nat
inductive Rs (α:Type) where
 | ok (a:α) (s:PS)
 | no (e p:Int)
def Rs.bind {α β:Type}(r:Rs α)(f:α→PS→Rs β):Rs β:=
 match r with
 | .ok a s=>f a s
 | .no e p=>.no e p
theorem bG {α β:Type}(a:α)(s:PS)(f:α→PS→Rs β):(Rs.ok a s).bind f=f a s:=rfl
theorem bL {α β:Type}(e p:Int)(f:α→PS→Rs β):(Rs.no e p:Rs α).bind f=.no e p:=rfl
def PS.hd (s:PS):Tk:=s.ts.headD noT
def PS.tk (s:PS):PS:=⟨s.ts.tail,s.ns,s.nx⟩
def bad {α:Type}(s:PS):Rs α:=.no 110 s.hd.ps
def cF (x:List UInt8)(s:PS):Rs Unit:=if s.hd.tx=x then .ok () s.tk else bad s
def eR (k:Int)(s:PS):Rs Tk:=if s.hd.kd=k then .ok s.hd s.tk else bad s
def aBV {α:Type}(a:α)(s:PS):Rs α:=if s.hd.kd=0 then .ok a s else bad s
def dU (e:Ex)(s:PS):Rs Ex:=if s.nx=2000 then .no 112 e.h.ps else .ok e ⟨s.ts,s.ns,s.nx+1⟩
def opX (op ps:Int)(l:List Ex):Ex:=.mk ⟨op,ps,false,0,0,[],⟨none,l.length,l.length⟩⟩ (fun i=>l.getD i .no)
def nmX (ps:Int)(nm:List UInt8)(l:List Ex):Ex:=.mk ⟨4,ps,false,0,0,nm,⟨none,l.length,l.length⟩⟩ (fun i=>l.getD i .no)
def boX (ps:Int)(b:Bool):Ex:=.mk ⟨1,ps,b,0,0,[],⟨none,0,0⟩⟩ (fun _=>.no)
def inX (ps:Int)(n:Int):Ex:=.mk ⟨2,ps,false,n,0,[],⟨none,0,0⟩⟩ (fun _=>.no)
def flX (ps:Int)(f:Int):Ex:=.mk ⟨3,ps,false,0,f,[],⟨none,0,0⟩⟩ (fun _=>.no)
def sgO (n:Nat)(x:List UInt8):Int:=
 if n=0 then(if x=[124,124]then 16 else 0)
 else if n=1 then(if x=[38,38]then 15 else 0)
 else if n=2 then(if x=[60]then 9 else if x=[60,61]then 10 else if x=[61,61]then 11 else if x=[33,61]then 12 else if x=[62]then 13 else if x=[62,61]then 14 else 0)
 else if n=3 then(if x=[43]then 5 else if x=[45]then 6 else 0)
 else(if x=[42]then 7 else if x=[47]then 8 else 0)
def pM (n:Nat)(p:PS→Rs Ex)(e:Ex)(s:PS):Rs Ex:=(p s.tk).bind fun b s'=>dU (opX (sgO n s.hd.tx) s.hd.ps [e,b]) s'
def lP (n:Nat)(p:PS→Rs Ex):Nat→Ex→PS→Rs Ex
 | 0,_,_=>.no 0 0
 | f+1,e,s=>if sgO n s.hd.tx=0 then .ok e s else(pM n p e s).bind fun e' s'=>lP n p f e' s'
def lvl (u:PS→Rs Ex):Nat→PS→Rs Ex
 | 0=>u
 | m+1=>fun s=>(lvl u m s).bind fun e s'=>if m=2 then(if sgO 2 s'.hd.tx=0 then .ok e s' else pM 2 (lvl u m) e s')else lP (4-m) (lvl u m) (s'.ts.length+1) e s'
def unT (x:List UInt8):Int:=if x=[45]then 17 else if x=[33]then 18 else 0
def atT (t:Tk):Int:=
 if t.kd=2 then 2 else if t.kd=3 then 3 else if t.kd=1 then 4
 else if t.tx=[116,114,117,101]∨t.tx=[102,97,108,115,101]then 1
 else if t.tx=[105,110,116]then 19 else if t.tx=[102,108,111,97,116]then 20 else if t.tx=[97,98,115]then 21 else 0
def jN (d:Option (PS→Rs Ex))(o c:List UInt8)(s:PS):Rs Ex:=
 if s.hd.tx=o then
  (match d with
  | none=>.no 111 s.hd.ps
  | some u=>(lvl u 5 s.tk).bind fun e s'=>(cF c s').bind fun _ s''=>.ok e s'')
 else bad s
def index (d:Option (PS→Rs Ex))(s:PS):Rs (List Ex):=if s.hd.tx=[91] then(jN d [91] [93] s).bind fun e s'=>.ok [e] s' else .ok [] s
def rC (d:Option (PS→Rs Ex))(s:PS):Rs Ex:=
 if s.hd.tx=[40]then jN d [40] [41] s
 else if atT s.hd=0 then bad s
 else if atT s.hd=1 then dU (boX s.hd.ps (s.hd.tx == [116,114,117,101])) s.tk
 else if atT s.hd=2 then dU (inX s.hd.ps s.hd.nn) s.tk
 else if atT s.hd=3 then dU (flX s.hd.ps s.hd.ff) s.tk
 else if atT s.hd=4 then(index d s.tk).bind fun l s'=>dU (nmX s.hd.ps s.hd.tx l) s'
 else(jN d [40] [41] s.tk).bind fun e s'=>dU (opX (atT s.hd) s.hd.ps [e]) s'
def un (d:Option (PS→Rs Ex))(s:PS):Rs Ex:=
 if unT s.hd.tx=0 then rC d s
 else match d with
  | none=>.no 111 s.hd.ps
  | some u=>(u s.tk).bind fun e s'=>dU (opX (unT s.hd.tx) s.hd.ps [e]) s'
def unK:Nat→PS→Rs Ex
 | 0=>un none
 | k+1=>un (some (unK k))
def dK:Nat→Option (PS→Rs Ex)
 | 0=>none
 | k+1=>some (unK k)
theorem aLg (k:Nat):unK k=un (dK k):=by cases k<;>rfl
def exK (k:Nat):PS→Rs Ex:=lvl (unK k) 5
def oP (m:Bool)(s:PS):Rs Int:=(eR 2 s).bind fun t s'=>.ok (if m then -t.nn else t.nn) s'
def jT (s:PS):Bool×PS:=if s.hd.tx=[45] then(true,s.tk) else(false,s)
def whl (s:PS):Rs Int:=oP (jT s).1 (jT s).2
def neF (m:Bool)(f:Int):Int:=if m then(if f<9223372036854775808 then f+9223372036854775808 else f)else f
def nI (s:PS):Rs Ex:=
 if(jT s).2.hd.kd=3 then .ok (flX s.hd.ps (neF (jT s).1 (jT s).2.hd.ff)) (jT s).2.tk
 else(oP (jT s).1 (jT s).2).bind fun n s'=>.ok (inX s.hd.ps n) s'
def tW (s:PS):Rs Int:=
 if s.hd.tx=[98,111,111,108]then .ok 1 s.tk
 else if s.hd.tx=[105,110,116]then .ok 2 s.tk
 else(cF [102,108,111,97,116] s).bind fun _ s'=>.ok 3 s'
def aHW:List UInt8:=[105,110,112,117,116]
def aLe:List UInt8:=[118,97,114]
def deT (ps:Int)(i:Bool)(nm:List UInt8)(ty:Int)(s:PS):Rs De:=
 if i∧s.hd.tx=[105,110] then
  (cF [91] s.tk).bind fun _ s=>(nI s).bind fun a s=>(cF [44] s).bind fun _ s=>(nI s).bind fun b s=>(cF [93] s).bind fun _ s=>(cF [59] s).bind fun _ s=>.ok ⟨ps,i,nm,ty,0,true,a,b⟩ s
 else if i=false∧s.hd.tx=[91] then
  (eR 2 s.tk).bind fun t s=>(cF [93] s).bind fun _ s=>(cF [59] s).bind fun _ s=>.ok ⟨ps,i,nm,ty,t.nn,false,.no,.no⟩ s
 else(cF [59] s).bind fun _ s=>.ok ⟨ps,i,nm,ty,0,false,.no,.no⟩ s
def uF (s:PS):Rs De:=
 (eR 1 s.tk).bind fun t s'=>(cF [58] s').bind fun _ s'=>(tW s').bind fun ty s'=>deT s.hd.ps (s.hd.tx == aHW) t.tx ty s'
def lO:Nat→List De→PS→Rs (List De)
 | 0,_,_=>.no 0 0
 | f+1,l,s=>
  if s.hd.tx=aHW∨s.hd.tx=aLe then
   (if l.length=96 then .no 112 s.hd.ps else(uF s).bind fun d s'=>lO f (l++[d]) s')
  else .ok l s
def aDo (p:PS→Rs St):Nat→List St→PS→Rs (List St)
 | 0,_,_=>.no 0 0
 | f+1,l,s=>if s.hd.tx=[125]then .ok l s.tk else(p s).bind fun x s'=>aDo p f (l++[x]) s'
def blk (d:Option (PS→Rs St))(s:PS):Rs (List St):=
 if s.hd.tx=[123] then
  (match d with
  | none=>.no 111 s.hd.ps
  | some p=>aDo p (s.ts.length+1) [] s.tk)
 else bad s
def sl (n:Nat):Sl:=⟨none,n,n⟩
def asS (ps:Int)(nm:List UInt8)(l:List Ex)(e:Ex):St:=.mk ⟨1,ps,nm,sl l.length,0,0,sl 0,sl 0⟩ (fun i=>l.getD i .no) e (fun _=>.no) (fun _=>.no)
def ifS (ps:Int)(e:Ex)(t l:List St):St:=.mk ⟨2,ps,[],sl 0,0,0,sl t.length,sl l.length⟩ (fun _=>.no) e (fun i=>t.getD i .no) (fun i=>l.getD i .no)
def foS (ps:Int)(nm:List UInt8)(lo hi:Int)(t:List St):St:=.mk ⟨3,ps,nm,sl 0,lo,hi,sl t.length,sl 0⟩ (fun _=>.no) .no (fun i=>t.getD i .no) (fun _=>.no)
def ifW:List UInt8:=[105,102]
def sJ:List UInt8:=[102,111,114]
def zN:List UInt8:=[101,108,115,101]
def wZ (d:Option (PS→Rs St))(s:PS):Rs (List St):=
 if s.hd.tx=ifW then
  (match d with
  | none=>.no 111 s.hd.ps
  | some p=>(p s).bind fun x s'=>.ok [x] s')
 else blk d s
def stm (k:Nat)(d:Option (PS→Rs St))(s:PS):Rs St:=
 if s.hd.kd≠1∧s.hd.tx≠ifW∧s.hd.tx≠sJ then bad s
 else if s.ns=200 then .no 112 s.hd.ps
 else
  let s1:PS:=⟨s.ts.tail,s.ns+1,s.nx⟩
  if s.hd.tx=ifW then
   (exK k s1).bind fun e s2=>(blk d s2).bind fun t s3=>
    if s3.hd.tx=zN then(wZ d s3.tk).bind fun l s4=>.ok (ifS s.hd.ps e t l) s4 else .ok (ifS s.hd.ps e t []) s3
  else if s.hd.tx=sJ then
   (eR 1 s1).bind fun n s2=>(cF [61] s2).bind fun _ s3=>(whl s3).bind fun lo s4=>(cF [46,46] s4).bind fun _ s5=>(whl s5).bind fun hi s6=>(blk d s6).bind fun t s7=>.ok (foS s.hd.ps n.tx lo hi t) s7
  else
   (index (dK k) s1).bind fun l s2=>(cF [61] s2).bind fun _ s3=>(exK k s3).bind fun e s4=>(cF [59] s4).bind fun _ s5=>.ok (asS s.hd.ps s.hd.tx l e) s5
def stK:Nat→PS→Rs St
 | 0=>stm 0 none
 | k+1=>stm (k+1) (some (stK k))
def sK:Nat→Option (PS→Rs St)
 | 0=>none
 | k+1=>some (stK k)
theorem aLt (k:Nat):stK k=stm k (sK k):=by cases k<;>rfl
def prX (ticks:Int)(d:List De)(i s:List St):Pr:=⟨ticks,sl d.length,fun j=>d.getD j ⟨0,false,[],0,0,false,.no,.no⟩,sl i.length,fun j=>i.getD j .no,sl s.length,fun j=>s.getD j .no⟩
def aCD:List UInt8:=[116,105,99,107,115]
def aHX:List UInt8:=[105,110,105,116]
def aGr:List UInt8:=[115,116,101,112]
def prog (s:PS):Rs Pr:=
 (cF aCD s).bind fun _ s=>(eR 2 s).bind fun t s=>(cF [59] s).bind fun _ s=>(lO (s.ts.length+1) [] s).bind fun d s=>(cF aHX s).bind fun _ s=>(blk (sK 24) s).bind fun i s=>(cF aGr s).bind fun _ s=>
  (blk (sK 24) s).bind fun b s=>aBV (prX t.nn d i b) s
def aJu:List (List UInt8):=kwS++rL++aAo.map fun b=>[b]
structure Tg (t:Tk):Prop where
 ps0:0≤t.ps
 ps1:t.ps≤16384
 kd:t.kd=1∨t.kd=2∨t.kd=3∨t.kd=4∨t.kd=5
 tx:t.kd=1∨t.kd=2∨t.kd=3→t.tx ∉ aJu
 nn0:0≤t.nn
 nn1:t.nn≤2147483647
 ff0:0≤t.ff
 ff1:t.ff<9223372036854775808
 len:t.tx.length≤16384
structure Te (t:Tk):Prop where
 ps0:0≤t.ps
 ps1:t.ps≤16384
 kd:t.kd=0
 tx:t.tx=[]
 nn:t.nn=0
 ff:t.ff=0
def cM:List Tk→Prop
 | []=>False
 | t::r=>(r=[]∧Te t)∨(Tg t∧cM r)
theorem cM.ne {l:List Tk}(h:cM l):l≠[]:=by
 cases l with
 | nil=>exact h.elim
 | cons t r=>exact fun e=>by cases e
theorem cM.pos {l:List Tk}(h:cM l):0<l.length:=List.length_pos_iff.2 h.ne
theorem cM.tail {l:List Tk}(h:cM l)(hk:(l.headD noT).kd≠0):cM l.tail:=by
 cases l with
 | nil=>exact h.elim
 | cons t r=>
  rcases h with⟨-,h⟩|⟨-,h⟩
  ·exact absurd h.kd hk
  ·exact h
theorem cM.kd {l:List Tk}(h:cM l)(hx:(l.headD noT).tx≠[]):(l.headD noT).kd≠0:=by
 cases l with
 | nil=>exact h.elim
 | cons t r=>
  rcases h with⟨-,h⟩|⟨h, -⟩
  ·exact absurd h.tx hx
  ·intro e
   have:=h.kd;simp only[List.headD_cons]at e;omega
theorem cM.tail' {l:List Tk}(h:cM l)(hx:(l.headD noT).tx≠[]):cM l.tail:=h.tail (h.kd hx)
structure Hd (t:Tk):Prop where
 ps0:0≤t.ps
 ps1:t.ps≤16384
 kd0:0≤t.kd
 kd1:t.kd≤5
 nn0:0≤t.nn
 nn1:t.nn≤2147483647
 ff0:0≤t.ff
 ff1:t.ff<9223372036854775808
 len:t.tx.length≤16384
theorem cM.hd {l:List Tk}(h:cM l):Hd (l.headD noT):=by
 cases l with
 | nil=>exact h.elim
 | cons t r=>
  rcases h with⟨-,h⟩|⟨h, -⟩
  ·exact⟨h.ps0,h.ps1,by simp[h.kd],by simp[h.kd],by simp[h.nn],by simp[h.nn],by simp[h.ff],by simp[h.ff],by simp[h.tx]⟩
  ·exact⟨h.ps0,h.ps1,by have:=h.kd;simp only[List.headD_cons];omega,by have:=h.kd;simp only[List.headD_cons];omega,h.nn0,h.nn1,h.ff0,h.ff1,h.len⟩
def Lf {α:Type}(n m:Nat)(r:Rs α):Prop:=∀a s,r=.ok a s→cM s.ts∧s.ts.length≤n∧m≤s.ns
theorem qN {α:Type}{n m:Nat}{e p:Int}:Lf n m (.no e p:Rs α):=fun _ _ h=>by cases h
theorem sG {α:Type}{n m:Nat}{s:PS}:Lf n m (bad s:Rs α):=fun _ _ h=>by cases h
theorem fA {α:Type}{n m:Nat}{a:α}{s:PS}(h:cM s.ts)(hn:s.ts.length≤n)(hm:m≤s.ns):Lf n m (.ok a s):=fun _ _ e=>by cases e;exact⟨h,hn,hm⟩
theorem Lf.mono {α:Type}{n m n' m':Nat}{r:Rs α}(h:Lf n m r)(hn:n≤n')(hm:m'≤m):Lf n' m' r:=fun a s e=>⟨(h a s e).1,aF (h a s e).2.1 hn,aF hm (h a s e).2.2⟩
theorem Lf.bind {α β:Type}{n m n' m':Nat}{r:Rs α}{f:α→PS→Rs β}(h:Lf n m r)(hf:∀a s,cM s.ts→s.ts.length≤n→m≤s.ns→Lf n' m' (f a s)):Lf n' m' (r.bind f):=by
 cases r with
 | no e p=>exact qN
 | ok a s=>exact hf a s (h a s rfl).1 (h a s rfl).2.1 (h a s rfl).2.2
theorem dY {s:PS}(h:cM s.ts):s.tk.ts.length+1=s.ts.length:=by
 have:=h.pos;simp only[PS.tk,List.length_tail];omega
theorem gS {x:List UInt8}{s:PS}(h:cM s.ts)(hx:x≠[]):Lf (s.ts.length-1) s.ns (cF x s):=by
 unfold cF;split
 ·rename_i e
  have:=dY h;exact fA (h.tail' (by rw[←PS.hd,e];exact hx)) (by omega) (aD _)
 ·exact sG
theorem uO {k:Int}{s:PS}(h:cM s.ts)(hk:k≠0):Lf (s.ts.length-1) s.ns (eR k s):=by
 unfold eR;split
 ·rename_i e
  have:=dY h;exact fA (h.tail (by rw[←PS.hd,e];exact hk)) (by omega) (aD _)
 ·exact sG
theorem jU {e:Ex}{s:PS}{n m:Nat}(h:cM s.ts)(hn:s.ts.length≤n)(hm:m≤s.ns):Lf n m (dU e s):=by
 unfold dU;split
 ·exact qN
 ·exact fA h hn hm
theorem aCP {n:Nat}{x:List UInt8}(h:sgO n x≠0):x≠[]:=by
 rintro rfl;exact h (by unfold sgO;(repeat' split)<;>first|rfl|(rename_i e;exact nomatch e))
def Rdx (p:PS→Rs Ex):Prop:=∀s:PS,cM s.ts→Lf (s.ts.length-1) s.ns (p s)
theorem aMG (s:PS):s.tk.ns=s.ns:=rfl
theorem aDr {n:Nat}{p:PS→Rs Ex}(hp:Rdx p){e:Ex}{s:PS}(h:cM s.ts)(hs:sgO n s.hd.tx≠0):Lf (s.ts.length-1) s.ns (pM n p e s):=by
 have g:cM s.tk.ts:=h.tail' (aCP hs);have:=dY h;exact(hp _ g).bind fun b s' g' hl hm=>jU g' (by omega) hm
theorem aHI {n:Nat}{p:PS→Rs Ex}(hp:Rdx p):∀(f:Nat) (e:Ex) (s:PS),cM s.ts→Lf s.ts.length s.ns (lP n p f e s):=by
 intro f
 induction f with
 | zero=>exact fun _ _ _=>qN
 | succ f ih=>
  intro e s h;rw[lP];split
  ·exact fA h (aD _) (aD _)
  ·rename_i hs
   exact(aDr hp h hs).bind fun e' s' g' hl hm=>(ih e' s' g').mono (by omega) hm
theorem qA {u:PS→Rs Ex}(hu:Rdx u):∀m,Rdx (lvl u m):=by
 intro m
 induction m with
 | zero=>exact hu
 | succ m ih=>
  intro s h;rw[lvl];refine(ih s h).bind fun e s' g hl hm=>?_;split
  ·split
   ·exact fA g hl hm
   ·rename_i hs
    exact(aDr ih g hs).mono (by omega) hm
  ·exact(aHI ih _ _ _ g).mono hl hm
def RdO (d:Option (PS→Rs Ex)):Prop:=∀u,d=some u→Rdx u
theorem sF {d:Option (PS→Rs Ex)}(hd:RdO d){o c:List UInt8}(ho:o≠[])(hc:c≠[]){s:PS}(h:cM s.ts):Lf (s.ts.length-1) s.ns (jN d o c s):=by
 unfold jN;split
 ·rename_i e
  have g:cM s.tk.ts:=h.tail' (by rw[←PS.hd,e];exact ho);have:=dY h
  cases d with
  | none=>exact qN
  | some u=>exact((qA (hd u rfl) 5) _ g).bind fun e s' g' hl hm=>(gS g' hc).bind fun _ s'' g'' hl' hm'=>fA g'' (by omega) (aF hm hm')
 ·exact sG
theorem aBO {d:Option (PS→Rs Ex)}(hd:RdO d){s:PS}(h:cM s.ts):Lf s.ts.length s.ns (index d s):=by
 unfold index;split
 ·exact(sF hd (by simp) (by simp) h).bind fun e s' g hl hm=>fA g (by omega) hm
 ·exact fA h (aD _) (aD _)
theorem aIP {s:PS}(h:cM s.ts)(ha:atT s.hd≠0):s.hd.kd≠0:=by
 intro e
 have ht:s.hd.tx=[]:=by
  apply Classical.byContradiction;exact fun hx=>h.kd hx e
 exact ha (by simp[atT,e,ht])
theorem aJv {d:Option (PS→Rs Ex)}(hd:RdO d):Rdx (rC d):=by
 intro s h;unfold rC;split
 ·exact sF hd (by simp) (by simp) h
 ·split
  ·exact sG
  ·rename_i h0
   have g:cM s.tk.ts:=h.tail (aIP h h0);have:=dY h;split
   ·exact jU g (by omega) (aD _)
   ·split
    ·exact jU g (by omega) (aD _)
    ·split
     ·exact jU g (by omega) (aD _)
     ·split
      ·exact(aBO hd g).bind fun l s' g' hl hm=>jU g' (by omega) hm
      ·exact(sF hd (by simp) (by simp) g).bind fun e s' g' hl hm=>jU g' (by omega) hm
theorem aGi {x:List UInt8}(h:unT x≠0):x≠[]:=by
 rintro rfl;exact h (by simp[unT])
theorem aKM {d:Option (PS→Rs Ex)}(hd:RdO d):Rdx (un d):=by
 intro s h;unfold un;split
 ·exact aJv hd s h
 ·rename_i h0
  have g:cM s.tk.ts:=h.tail' (aGi h0);have:=dY h
  cases d with
  | none=>exact qN
  | some u=>exact(hd u rfl _ g).bind fun e s' g' hl hm=>jU g' (by omega) hm
theorem aAj (k:Nat):Rdx (unK k):=by
 induction k with
 | zero=>exact aKM fun u h=>by cases h
 | succ k ih=>exact aKM fun u h=>by cases h;exact ih
theorem aML (k:Nat):RdO (dK k):=by
 intro u h
 cases k with
 | zero=>cases h
 | succ k=>cases h;exact aAj k
theorem aGS (k:Nat):Rdx (exK k):=qA (aAj k) 5
theorem aDp {b:Bool}{s:PS}(h:cM s.ts):Lf (s.ts.length-1) s.ns (oP b s):=
 (uO h (by decide)).bind fun _ _ g hl hm=>fA g hl hm
theorem aHH {s:PS}(h:cM s.ts):Lf (s.ts.length-1) s.ns (whl s):=by
 unfold whl jT;split
 ·rename_i e
  have g:cM s.tk.ts:=h.tail' (by rw[←PS.hd,e];simp);have:=dY h;exact(aDp g).mono (by omega) (aD _)
 ·exact aDp h
def Rdy (p:PS→Rs St):Prop:=∀s:PS,cM s.ts→Lf (s.ts.length-1) (s.ns+1) (p s)
def RdS (d:Option (PS→Rs St)):Prop:=∀p,d=some p→Rdy p
theorem aJS {p:PS→Rs St}(hp:Rdy p):∀(f:Nat) (l:List St) (s:PS),cM s.ts→Lf (s.ts.length-1) s.ns (aDo p f l s):=by
 intro f
 induction f with
 | zero=>exact fun _ _ _=>qN
 | succ f ih=>
  intro l s h;rw[aDo];split
  ·rename_i e
   have:=dY h;exact fA (h.tail' (by rw[←PS.hd,e];simp)) (by omega) (aD _)
  ·exact(hp s h).bind fun x s' g hl hm=>(ih (l++[x]) s' g).mono (by omega) (by omega)
theorem aDq {d:Option (PS→Rs St)}(hd:RdS d){s:PS}(h:cM s.ts):Lf (s.ts.length-1) s.ns (blk d s):=by
 unfold blk;split
 ·rename_i e
  have g:cM s.tk.ts:=h.tail' (by rw[←PS.hd,e];simp);have:=dY h
  cases d with
  | none=>exact qN
  | some p=>exact(aJS (hd p rfl) _ [] _ g).mono (by omega) (aD _)
 ·exact sG
theorem aLY {d:Option (PS→Rs St)}(hd:RdS d){s:PS}(h:cM s.ts):Lf (s.ts.length-1) s.ns (wZ d s):=by
 unfold wZ;split
 ·cases d with
  | none=>exact qN
  | some p=>exact(hd p rfl s h).bind fun x s' g hl hm=>fA g hl (by omega)
 ·exact aDq hd h
theorem aGQ (k:Nat){d:Option (PS→Rs St)}(hd:RdS d):Rdy (stm k d):=by
 intro s h;unfold stm;split
 ·exact sG
 ·split
  ·exact qN
  ·rename_i h1 h2
   have hk:s.hd.kd≠0:=by
    by_cases c:s.hd.kd=1
    ·omega
    ·refine h.kd ?_
     intro e;apply h1;have e:s.hd.tx=[]:=e;refine⟨c,?_,?_⟩<;>rw[e]<;>decide
   have g:cM s.tk.ts:=h.tail hk;have hl:=dY h;have g1:cM (⟨s.ts.tail,s.ns+1,s.nx⟩:PS).ts:=g;have l1:(⟨s.ts.tail,s.ns+1,s.nx⟩:PS).ts.length+1=s.ts.length:=hl;dsimp only;generalize hs1:(⟨s.ts.tail,s.ns+1,s.nx⟩:PS)=s1 at *;have n1:s.ns+1≤s1.ns:=by rw[←hs1];exact aD _
   split
   ·refine(aGS k s1 g1).bind fun e s2 g2 l2 m2=>(aDq hd g2).bind fun t s3 g3 l3 m3=>?_
    split
    ·rename_i e4
     have g4:cM s3.tk.ts:=g3.tail' (by rw[←PS.hd,e4];decide);have l4:=dY g3;exact(aLY hd g4).bind fun l s5 g5 l5 m5=>fA g5 (by omega) (by have:=aMG s3;omega)
    ·exact fA g3 (by omega) (by omega)
   ·split
    ·exact(uO g1 (by decide)).bind fun n s2 g2 l2 m2=>(gS g2 (by simp)).bind fun _ s3 g3 l3 m3=>(aHH g3).bind fun lo s4 g4 l4 m4=>(gS g4 (by simp)).bind fun _ s5 g5 l5 m5=>(aHH g5).bind fun hi s6 g6 l6 m6=>(aDq hd g6).bind fun t s7 g7 l7 m7=>fA g7 (by omega) (by omega)
    ·exact(aBO (aML k) g1).bind fun l s2 g2 l2 m2=>(gS g2 (by simp)).bind fun _ s3 g3 l3 m3=>(aGS k s3 g3).bind fun e s4 g4 l4 m4=>(gS g4 (by simp)).bind fun _ s5 g5 l5 m5=>fA g5 (by omega) (by omega)
theorem aGR (k:Nat):Rdy (stK k):=by
 induction k with
 | zero=>exact aGQ 0 fun u h=>by cases h
 | succ k ih=>exact aGQ (k+1) fun u h=>by cases h;exact ih
end Go.Proofs.YtkbicfffokegeaaGreatDoor
