/-
  Whatever program is handed in, CheckChecks answers true. (part 2 of 38) Conditions: none beside what the card ties.
-/
import Derived.Test.YtkbicfffokegeaaGreatDoorA
import Derived.WalkSpells
import Derived.Lib.Hide
import Derived.WalkSmall
import Derived.Deep.AppendLies
import Derived.Deep.OwnRows
import Derived.Deep.CutBlock
import Derived.Deep.DeepCutAuto
import Derived.Deep.RegionHeld3
import Derived.BigQuiet
import Derived.StillTailTactics
import Derived.Lib.Strings
import Derived.Lib.Slices
import Derived.Lib.Small
import Derived.Lib.Walk
import Derived.Shelf.Spec.BitsCarry
import Derived.Shelf.Bits.Mul64
import Derived.Test.YtkbicfffokegeaaGreatDoorRows
import Derived.Lib.ItoaNum
import Derived.Deep.Slices
import Derived.Deep.WholeRow
namespace Go.Proofs.YtkbicfffokegeaaGreatDoor
set_option maxHeartbeats 16000000
open Go.RowKit
def bC (x:Int):Prop:=0≤x∧x<18446744073709551616
def W32 (x:Int):Prop:=0≤x∧x<4294967296
theorem aI {w w':World}(h:Below w.heap.size w w')(o:Obj):Below w.heap.size w (w'.alloc o):=h.alloc h.size o
theorem aH {w w':World}(h:Below w.heap.size w w'):Below w.heap.size w w'.drew:=h.drew
theorem zU {w w':World}(h:Below w.heap.size w w')(n:Nat):Below w.heap.size w (w'.drewN n):=⟨h.os,h.tape,h.output,h.size,h.block⟩
theorem aG {w w1 w2:World}(h:Below w.heap.size w w1)(k:Below w1.heap.size w1 w2):Below w.heap.size w w2:=h.trans (k.mono h.size)
theorem dQ {w w':World}(h:Below w.heap.size w w'){p:Addr}(hp:w.heap.size≤p.block)(u:Value):Below w.heap.size w (w'.setCell p u):=h.setCell hp u
def gD (a b:Int):Int:=if a<b then -1 else if b<a then 1 else 0
theorem uQ {a b:Int}(h:a<b):gD a b = -1:=by simp[gD,h]
theorem qY {a b:Int}(h:b<a):gD a b=1:=by simp[gD,h];omega
theorem uR (a:Int):gD a a=0:=by simp[gD]
theorem aKs (a b:Int):-1≤gD a b∧gD a b≤1:=by unfold gD;split<;>(try split)<;>decide
theorem aW {k:IntKind}{a b:Int}(h:a=b):Ending.returned (.int k a)=.returned (.int k b):=by rw[h]
theorem bD {a b:Bool}(h:a=b):Ending.returned (.bool a)=.returned (.bool b):=by rw[h]
theorem aNh {P:Program}{f:FuncId}{args:Array Value}{w:World}{x:Ending}(h:Calls P f args w fun e w'=>e=x∧w=w'):Calls P f args w fun e w'=>e=x∧w'=w:=h.mono fun _ _ k=>⟨k.1,k.2.symm⟩
theorem aM (j:Nat):(0:Int)<2 ^ j:=Int.pow_pos (by decide)
theorem bZ (a b:Nat)(h:a≤b):(2:Int) ^ a≤2 ^ b:=by
 have h3:2 ^ a≤2 ^ b:=Nat.pow_le_pow_right (by decide) h;have h4:((2 ^ a:Nat):Int)≤((2 ^ b:Nat):Int):=Int.ofNat_le.2 h3
 simpa using h4
theorem pV {x:Int}(h:bC x)(k:Nat):bC (x / 2 ^ k):=by
 refine⟨Int.ediv_nonneg h.1 (Int.le_of_lt (aM _)),?_⟩;have:=Int.ediv_le_self (2 ^ k) h.1;have:=h.2;omega
def bB (n:Int):Int:=(Go.bitLen n.toNat:Nat)
theorem dT {a:Int}(h:0≤a):∃k:Nat,bB a=(k:Int)∧a<2 ^ k∧(0<a→(2:Int) ^ (k-1)≤a∧1≤k)∧(a=0→k=0):=by
 obtain⟨n,rfl⟩:=Int.eq_ofNat_of_zero_le h;have hb:=bitLen_spec n;refine⟨Go.bitLen n,by unfold bB;rw[Int.toNat_natCast],?_,fun h0=>⟨?_,?_⟩,fun h0=>?_⟩
 ·have:((n:Nat):Int)<((2 ^ Go.bitLen n:Nat):Int):=Int.ofNat_lt.2 hb.1
  simpa using this
 ·have:((2 ^ (Go.bitLen n-1):Nat):Int)≤(n:Int):=Int.ofNat_le.2 (hb.2 (by omega))
  simpa using this
 ·rcases Nat.eq_zero_or_pos (Go.bitLen n)with e|e
  ·rw[e]at hb
   simp at hb
   omega
  ·exact e
 ·have:n=0:=by omega
  subst this;rfl
def Blk (w:World)(g:Nat)(t:TypeId)(cs:Array Value):Prop:=w.heap[g]? = some (.cells cs t (0,0))
section
variable {w w':World} {g:Nat} {t:TypeId} {cs:Array Value}
theorem Blk.lt (h:Blk w g t cs):g<w.heap.size:=by
 rcases Nat.lt_or_ge g w.heap.size with hlt|hge
 ·exact hlt
 ·unfold Blk at h;rw[Array.getElem?_eq_none hge]at h;cases h
theorem Blk.cell (h:Blk w g t cs)(i:Nat):w.cell? ⟨g,i,none⟩=cs[i]?:=cell_of_row w g i cs t (0,0) h
theorem Blk.frozen (h:Blk w g t cs)(i:Nat):w.frozen? ⟨g,i,none⟩=false:=by
 unfold Blk at h
 simp[World.frozen?,h]
theorem Blk.new (w:World)(t:TypeId)(cs:Array Value):Blk (w.alloc (.cells cs t)) w.heap.size t cs:=heap_alloc_new w _
theorem Blk.drew (h:Blk w g t cs):Blk w.drew g t cs:=h
theorem Blk.alloc (h:Blk w g t cs)(o:Obj):Blk (w.alloc o) g t cs:=(Below.heap_alloc w o g h.lt).trans h
theorem Blk.set_ (h:Blk w g t cs)(i:Nat)(u:Value):Blk (w.setCell ⟨g,i,none⟩ u) g t (cs.setIfInBounds i u):=by
 unfold Blk at h ⊢
 simp[World.setCell,Array.getElem?_modify,h]
theorem Blk.far (h:Blk w g t cs){p:Addr}(hp:g≠p.block)(u:Value):Blk (w.setCell p u) g t cs:=(Below.heap_setCell w p u g hp).trans h
theorem Blk.below {B:Nat}(h:Blk w g t cs)(hb:Below B w w')(hg:g<B):Blk w' g t cs:=(hb.block g hg).trans h
theorem Blk.made (hb:Below (w.alloc (.cells cs t)).heap.size (w.alloc (.cells cs t)) w'):Blk w' w.heap.size t cs:=(Blk.new w t cs).below hb (Blk.new w t cs).lt
end
theorem Hj {p:Prop}(h:p):Hid p:=Lib.hid h
def nv:List Int→Int
 | []=>0
 | x::r=>x+4294967296*nv r
def bN (ws:List Int):Prop:=∀x∈ws,W32 x
theorem bN.nil:bN []:=fun _ h=>by cases h
theorem bN.head {x:Int}{r:List Int}(h:bN (x::r)):W32 x:=h x (by simp)
theorem bN.tail {x:Int}{r:List Int}(h:bN (x::r)):bN r:=fun y hy=>h y (by simp[hy])
theorem bN.cons {x:Int}{r:List Int}(h:W32 x)(k:bN r):bN (x::r):=fun y hy=>by
 rcases List.mem_cons.1 hy with rfl|hy
 ·exact h
 ·exact k y hy
theorem bN.take {ws:List Int}(h:bN ws)(k:Nat):bN (ws.take k):=fun x hx=>h x (List.mem_of_mem_take hx)
theorem bN.drop {ws:List Int}(h:bN ws)(k:Nat):bN (ws.drop k):=fun x hx=>h x (List.mem_of_mem_drop hx)
theorem bN.append {us vs:List Int}(h:bN us)(k:bN vs):bN (us++vs):=fun x hx=>by
 rcases List.mem_append.1 hx with hx|hx
 ·exact h x hx
 ·exact k x hx
theorem bN.getD {ws:List Int}(h:bN ws)(i:Nat):W32 (ws.getD i 0):=by
 rw[List.getD_eq_getElem?_getD]
 cases e:ws[i]? with
 | none=>exact⟨by decide,by decide⟩
 | some x=>exact h x (List.mem_of_getElem? e)
theorem bN.set {ws:List Int}(h:bN ws)(i:Nat){x:Int}(hx:W32 x):bN (ws.set i x):=fun y hy=>by
 rcases List.mem_or_eq_of_mem_set hy with hy|rfl
 ·exact h y hy
 ·exact hx
theorem bN.zeros (n:Nat):bN (List.replicate n 0):=fun x hx=>by
 rw[List.eq_of_mem_replicate hx];exact⟨by decide,by decide⟩
theorem cN:∀ws:List Int,bN ws→0≤nv ws
 | [],_=>by simp[nv]
 | x::r,h=>by have:=cN r h.tail;have:=h.head.1;simp only[nv];omega
theorem lG (k:Nat):(2:Int) ^ (32*(k+1))=2 ^ (32*k)*4294967296:=by
 rw[show 32*(k+1)=32*k+32 by omega,Int.pow_add];rfl
theorem iZ:∀ws:List Int,bN ws→nv ws<2 ^ (32*ws.length)
 | [],_=>by simp[nv]
 | x::r,h=>by
  have:=iZ r h.tail;have:=h.head.2;simp only[nv,List.length_cons,lG];omega
theorem sC:∀xs ys:List Int,nv (xs++ys)=nv xs+2 ^ (32*xs.length)*nv ys
 | [],ys=>by simp[nv]
 | x::r,ys=>by
  simp only[List.cons_append,nv,sC r ys,List.length_cons,lG];rw[Int.mul_right_comm];omega
theorem qH (n:Nat):nv (List.replicate n 0)=0:=by
 induction n with
 | zero=>rfl
 | succ n ih=>simp[List.replicate_succ,nv,ih]
theorem aEh (xs:List Int)(x:Int):nv (xs++[x])=nv xs+2 ^ (32*xs.length)*x:=by
 rw[sC]
 simp[nv]
theorem mG (ws:List Int)(j:Nat)(h:ws.length≤j):ws.getD j 0=0:=by rw[List.getD_eq_getElem?_getD,List.getElem?_eq_none h];rfl
theorem aDx (ws:List Int)(j:Nat):ws.getD (j+1) 0=ws.tail.getD j 0:=by cases ws<;>rfl
theorem mH (xs:List Int)(k j:Nat):(xs.drop k).getD j 0=xs.getD (k+j) 0:=by
 rw[List.getD_eq_getElem?_getD,List.getD_eq_getElem?_getD,List.getElem?_drop]
theorem wU (xs:List Int)(k j:Nat):(xs.take k).getD j 0=if j<k then xs.getD j 0 else 0:=by
 rw[List.getD_eq_getElem?_getD,List.getD_eq_getElem?_getD,List.getElem?_take]
 split<;>rfl
theorem aAq (ws:List Int):nv ws=ws.getD 0 0+4294967296*nv ws.tail:=by cases ws<;>simp[nv]
theorem bV (ws:List Int)(k:Nat):nv (ws.take (k+1))=nv (ws.take k)+2 ^ (32*k)*ws.getD k 0:=by
 by_cases h:k<ws.length
 ·rw[List.take_succ_eq_append_getElem h,aEh,List.length_take,Nat.min_eq_left (by omega),List.getD_eq_getElem?_getD,List.getElem?_eq_getElem h]
  rfl
 ·rw[List.take_of_length_le (by omega),List.take_of_length_le (by omega),mG ws k (by omega)]
  simp
theorem qJ (xs:List Int)(k:Nat)(hk:k≤xs.length):nv xs=nv (xs.take k)+2 ^ (32*k)*nv (xs.drop k):=by
 have h:=sC (xs.take k) (xs.drop k);rw[List.take_append_drop,List.length_take,Nat.min_eq_left hk]at h;exact h
theorem kV:∀(ws:List Int) (i:Nat) (x:Int),i<ws.length→nv (ws.set i x)=nv ws+2 ^ (32*i)*(x-ws.getD i 0)
 | [],i,_,h=>by simp at h
 | y::r,0,x,_=>by simp[nv];omega
 | y::r,i+1,x,h=>by
  have:=kV r i x (by simpa using h);simp only[aB,nv,this,lG,List.getD_cons_succ];rw[Int.mul_right_comm];omega
theorem nH:∀ws:List Int,(∀j,ws.getD j 0=0)→nv ws=0
 | [],_=>rfl
 | x::r,h=>by
  have h0:=h 0;have h1:=nH r fun j=>h (j+1)
  simp at h0
  simp[nv,h0,h1]
theorem aEj {ws:List Int}{k:Nat}(hk:k≤ws.length)(h:∀j,k≤j→ws.getD j 0=0):nv ws=nv (ws.take k):=by
 rw[qJ ws k hk,nH (ws.drop k) fun j=>by rw[mH];exact h _ (by omega)]
 simp
theorem aEi:∀us vs:List Int,(∀j,us.getD j 0=vs.getD j 0)→nv us=nv vs
 | [],vs,h=>(nH vs fun j=>(h j).symm).symm
 | x::r,vs,h=>by
  have h0:=h 0;have h1:=aEi r vs.tail fun j=>by rw[←aDx];exact h (j+1)
  rw[aAq (x::r),aAq vs,←h0,←h1];rfl
def dE:List Int→Nat
 | []=>0
 | x::r=>if dE r=0∧x=0 then 0 else dE r+1
theorem uJ:∀ws:List Int,dE ws≤ws.length
 | []=>by simp[dE]
 | x::r=>by have:=uJ r;simp only[dE,List.length_cons];split<;>omega
theorem jI:∀(ws:List Int) (j:Nat),dE ws≤j→ws.getD j 0=0
 | [],j,_=>by simp
 | x::r,j,h=>by
  simp only[dE]at h
  split at h
  ·rename_i e
   rcases j with _|j
   ·simpa using e.2
   ·exact jI r j (by omega)
  ·rcases j with _|j
   ·omega
   ·exact jI r j (by omega)
theorem iP:∀(ws:List Int),0<dE ws→ws.getD (dE ws-1) 0≠0
 | [],h=>by simp[dE]at h
 | x::r,h=>by
  have ih:=iP r;simp only[dE]at h ⊢;split
  ·rename_i e
   rw[if_pos e]at h;omega
  ·rename_i e
   rcases Nat.eq_zero_or_pos (dE r)with h0|h0
   ·rw[h0]
    simp
    intro hx;exact e ⟨h0,hx⟩
   ·rw[show dE r+1-1=(dE r-1)+1 by omega,List.getD_cons_succ]
    exact ih h0
theorem aAc {ws:List Int}{k:Nat}(h:∀j,k≤j→ws.getD j 0=0)(h1:0<k→ws.getD (k-1) 0≠0):dE ws=k:=by
 rcases Nat.lt_trichotomy (dE ws) k with h2|h2|h2
 ·exact absurd (jI ws (k-1) (by omega)) (h1 (by omega))
 ·exact h2
 ·exact absurd (h (dE ws-1) (by omega)) (iP ws (by omega))
theorem qI (ws:List Int):nv (ws.take (dE ws))=nv ws:=(aEj (uJ ws) (jI ws)).symm
theorem iU (ws:List Int):(ws.take (dE ws)).length=dE ws:=by rw[List.length_take,Nat.min_eq_left (uJ ws)]
theorem yR (ws:List Int):dE (ws.take (dE ws))=dE ws:=by
 refine aAc (fun j hj=>?_) fun h=>?_
 ·rw[wU,if_neg (by omega)]
 ·rw[wU,if_pos (by omega)]
  exact iP ws h
theorem mS {ws:List Int}(h:bN ws)(hk:0<dE ws):(2:Int) ^ (32*(dE ws-1))≤nv ws:=by
 have h1:=iP ws hk;obtain⟨k,e⟩:∃k,dE ws=k+1:=⟨dE ws - 1,by omega⟩;rw[←qI ws,e,bV];rw[e]at h1;simp only[Nat.add_sub_cancel]at h1 ⊢;have h2:=cN _ (h.take k);have h3:=(h.getD k).1;have h4:(2:Int) ^ (32*k)*1≤2 ^ (32*k)*ws.getD k 0:=Int.mul_le_mul_of_nonneg_left (by omega) (Int.le_of_lt (aM _));omega
theorem aJd (ws:List Int)(h:bN ws):nv ws<2 ^ (32*dE ws):=by
 have:=iZ _ (h.take (dE ws));rw[qI,iU]at this;exact this
theorem nG {ws:List Int}(h:bN ws):nv ws=0↔dE ws=0:=by
 constructor
 ·intro e
  rcases Nat.eq_zero_or_pos (dE ws)with h0|h0
  ·exact h0
  ·have:=mS h h0
   have:=aM (32*(dE ws-1));omega
 ·intro e
  rw[←qI ws,e];rfl
theorem aHn {a b:Nat}(h:(2:Int) ^ (32*a)<2 ^ (32*b)):a<b:=by
 rcases Nat.lt_or_ge a b with h1|h1
 ·exact h1
 ·have:=bZ (32*b) (32*a) (by omega)
  omega
theorem vH {us:List Int}{k:Nat}(hu:bN us)(h:nv us<2 ^ (32*k)):dE us≤k:=by
 rcases Nat.lt_or_ge k (dE us)with h1|h1
 ·have h2:=mS hu (by omega)
  have:=bZ (32*k) (32*(dE us-1)) (by omega);omega
 ·exact h1
structure IsNat (v:Int) (ws:List Int):Prop where
 val:nv ws=v
 all:bN ws
 trim:dE ws=ws.length
theorem IsNat.of_trim {ws:List Int}(h:bN ws):IsNat (nv ws) (ws.take (dE ws)):=⟨qI ws,h.take _,by rw[yR,iU]⟩
theorem IsNat.nonneg {v:Int}{us:List Int}(h:IsNat v us):0≤v:=by rw[←h.val];exact cN _ h.all
theorem IsNat.le {v:Int}{us:List Int}{k:Nat}(h:IsNat v us)(hv:v<2 ^ (32*k)):us.length≤k:=by
 rw[←h.trim];exact vH h.all (by rw[h.val];exact hv)
theorem IsNat.nil:IsNat 0 []:=⟨rfl,bN.nil,rfl⟩
theorem IsNat.pos {v:Int}{us:List Int}(h:IsNat v us)(hl:us.length≠0):0<v:=by
 have:=(nG h.all).2;have h1:=h.trim;have h2:=h.nonneg;have h3:v≠0:=fun e=>hl (by rw[←h1];exact(nG h.all).1 (by rw[h.val,e]));omega
def Rn (w:World)(A:Option Addr)(ws:List Int):Prop:=
 ws=[]∨∃g off,A=some ⟨g,off,none⟩∧g<w.heap.size∧∀i x,ws[i]? = some x→w.cell? ⟨g,off+i,none⟩=some (.int .u32 x)
theorem Rn.below {w w':World}{A:Option Addr}{ws:List Int}{B:Nat}(h:Rn w A ws)(hb:Below B w w')(hB:w.heap.size≤B):Rn w' A ws:=by
 rcases h with h|⟨g,off,e,hg,hc⟩
 ·exact .inl h
 ·exact .inr ⟨g,off,e,aE hg hb.size,fun i b hi=>(hb.cell (p:=⟨g,off+i,none⟩) (by show g<B;omega)).trans (hc i b hi)⟩
theorem Rn.alloc {w:World}{A:Option Addr}{ws:List Int}(h:Rn w A ws)(o:Obj):Rn (w.alloc o) A ws:=h.below (aI (Below.refl _ _) o) (aD _)
theorem Rn.drew {w:World}{A:Option Addr}{ws:List Int}(h:Rn w A ws):Rn w.drew A ws:=h
theorem Rn.at_ {w:World}{A:Option Addr}{ws:List Int}(h:Rn w A ws){i:Nat}(hi:i<ws.length):∃g off,A=some ⟨g,off,none⟩∧g<w.heap.size∧w.cell? ⟨g,off+i,none⟩=some (.int .u32 (ws.getD i 0)):=by
 rcases h with h|⟨g,off,e,hg,hc⟩
 ·subst h;simp at hi
 ·exact⟨g,off,e,hg,hc i _ (by rw[List.getD_eq_getElem?_getD,List.getElem?_eq_getElem hi];rfl)⟩
theorem Rn.cell {w:World}{g off:Nat}{ws:List Int}(h:Rn w (some ⟨g,off,none⟩) ws){i:Nat}(hi:i<ws.length):w.cell? ⟨g,off+i,none⟩=some (.int .u32 (ws.getD i 0)):=by
 obtain⟨g',off',e,_,hc⟩:=h.at_ hi;injection e with e;injection e with e1 e2;subst e1 e2;exact hc
theorem Rn.take {w:World}{A:Option Addr}{ws:List Int}(h:Rn w A ws)(k:Nat):Rn w A (ws.take k):=by
 rcases h with h|⟨g,off,e,hg,hc⟩
 ·subst h;exact .inl (by simp)
 ·refine .inr ⟨g,off,e,hg,fun i b hi=>hc i b ?_⟩
  rw[List.getElem?_take]at hi
  split at hi
  ·exact hi
  ·cases hi
theorem Rn.dropAt {w:World}{g off:Nat}{ws:List Int}(h:Rn w (some ⟨g,off,none⟩) ws)(k:Nat):Rn w (some ⟨g,off+k,none⟩) (ws.drop k):=by
 rcases h with h|⟨g',off',e,hg,hc⟩
 ·subst h;exact .inl (by simp)
 ·injection e with e
  injection e with e1 e2;subst e1 e2;refine .inr ⟨_,_,rfl,hg,fun i b hi=>?_⟩;rw[List.getElem?_drop]at hi;rw[Nat.add_assoc];exact hc _ b hi
theorem Rn.far {w:World}{A:Option Addr}{ws:List Int}(h:Rn w A ws){p:Addr}(hp:∀a,A=some a→p.block≠a.block)(u:Value):Rn (w.setCell p u) A ws:=by
 rcases h with h|⟨g,off,e,hg,hc⟩
 ·exact .inl h
 ·refine .inr ⟨g,off,e,by simpa [World.setCell] using hg,fun i b hi=>?_⟩
  rw[World.cell?_setCell_other w p ⟨g,off+i,none⟩ u (fun e2=>hp _ e (by rw[e2]))];exact hc i b hi
def aDQ (v:Int)(w:World)(e:Ending)(w':World):Prop:=
 ∃(ws:List Int) (A:Option Addr) (n c:Nat),IsNat v ws∧ws.length=n∧e=.returned (.slice A n c)∧n≤c∧Rn w' A ws∧(∀a,A=some a→w.heap.size≤a.block)∧Below w.heap.size w w'
def cE (ws:List Int):Array Value:=(ws.map (Value.int .u32)).toArray
theorem dA (ws:List Int)(i:Nat)(x:Int):(cE ws).setIfInBounds i (.int .u32 x)=cE (ws.set i x):=by
 simp[cE,List.map_set]
theorem tE (ws:List Int)(i:Nat)(h:i<ws.length):(cE ws)[i]? = some (.int .u32 (ws.getD i 0)):=by
 unfold cE;rw[List.getElem?_toArray,List.getElem?_map,List.getD_eq_getElem?_getD,List.getElem?_eq_getElem h];rfl
theorem zZ (n:Nat):madeCells #[Value.int .u32 0] n=cE (List.replicate n 0):=by
 apply Array.ext';rw[toList_madeCells_one]
 simp[cE]
theorem Blk.words {w:World}{g:Nat}{ws:List Int}(h:Blk w g 166 (cE ws)):Rn w (some ⟨g,0,none⟩) ws:=by
 refine .inr ⟨g,0,rfl,h.lt,fun i b hi=>?_⟩
 have hl:i<ws.length:=by
  rcases Nat.lt_or_ge i ws.length with h|h
  ·exact h
  ·rw[List.getElem?_eq_none h]at hi;cases hi
 rw[h.cell (0+i),Nat.zero_add,tE ws i hl,List.getD_eq_getElem?_getD,hi];rfl
theorem Blk.word {w:World}{g:Nat}{ws:List Int}(h:Blk w g 166 (cE ws)){i:Nat}(hi:i<ws.length):w.cell? ⟨g,i,none⟩=some (.int .u32 (ws.getD i 0)):=(h.cell i).trans (tE ws i hi)
theorem vG:(Tryz.prog.info? 166).map (fun i=>(i.zero,i.size,i.bytes))=some (some (.int .u32 0),1,4):=by kernel_rfl
theorem gQ (N:Int)(n:Nat)(hN:N=(n:Int))(hn:n≤1099511627776)(rs:List Int)(hr:rs=List.replicate n 0)(w:World) :
  (Instr.makeSlice 278 (.int .i64 N) (.int .i64 N)).run Tryz.prog w=.ok (.slice (some ⟨w.heap.size,0,none⟩) n n) (w.alloc (.cells (cE rs) 166)):=by
 obtain⟨i0,hi,hz0,hz1,hz2⟩:=info_parts vG;subst hN hr;have h:=run_make (P:=Tryz.prog) w 278 166 i0 (.int .u32 0) Tryz.underlying278 hi hz0 .i64 .i64 (n:Int) (n:Int) (by omega) (by omega) (by rw[hz2];omega) (by omega);rw[Int.toNat_natCast,hz1,Nat.mul_one]at h;rw[←zZ];exact h
end Go.Proofs.YtkbicfffokegeaaGreatDoor
namespace Go.Proofs.YtkbicfffokegeaaGreatDoor
set_option maxHeartbeats 16000000
open Go.RowKit
set_option maxRecDepth 100000
structure Sl where
 ao:Option Addr
 n:Nat
 c:Nat
def Sl.val (s:Sl):Value:=.slice s.ao s.n s.c
structure EH where
 op:Int
 ps:Int
 bo:Bool
 it:Int
 fl:Int
 nm:List UInt8
 s:Sl
def aP:EH:=⟨0,0,false,0,0,[],⟨none,0,0⟩⟩
inductive Ex where
 | no
 | mk (h:EH) (k:Nat→Ex)
def Ex.h:Ex→EH
 | .no=>aP
 | .mk h _=>h
def Ex.k:Ex→Nat→Ex
 | .no=>fun _=>.no
 | .mk _ k=>k
theorem Ex.ind {P:Ex→Prop}(H:∀e:Ex,(∀i,i<e.h.s.n→P (e.k i))→P e)(e:Ex):P e:=by
 induction e with
 | no=>exact H .no fun i hi=>absurd hi (Nat.not_lt_zero i)
 | mk h k ih=>exact H (.mk h k) fun i _=>ih i
structure SH where
 kd:Int
 ps:Int
 nm:List UInt8
 xs:Sl
 lo:Int
 hi:Int
 ts:Sl
 es:Sl
def cG:SH:=⟨0,0,[],⟨none,0,0⟩,0,0,⟨none,0,0⟩,⟨none,0,0⟩⟩
inductive St where
 | no
 | mk (h:SH) (x:Nat→Ex) (e:Ex) (t:Nat→St) (l:Nat→St)
def St.h:St→SH
 | .no=>cG
 | .mk h _ _ _ _=>h
def St.x:St→Nat→Ex
 | .no=>fun _=>.no
 | .mk _ x _ _ _=>x
def St.e:St→Ex
 | .no=>.no
 | .mk _ _ e _ _=>e
def St.t:St→Nat→St
 | .no=>fun _=>.no
 | .mk _ _ _ t _=>t
def St.l:St→Nat→St
 | .no=>fun _=>.no
 | .mk _ _ _ _ l=>l
theorem St.ind {P:St→Prop}(H:∀s:St,(∀i,i<s.h.ts.n→P (s.t i))→(∀i,i<s.h.es.n→P (s.l i))→P s)(s:St):P s:=by
 induction s with
 | no=>exact H .no (fun i hi=>absurd hi (Nat.not_lt_zero i)) (fun i hi=>absurd hi (Nat.not_lt_zero i))
 | mk h x e t l it il=>exact H (.mk h x e t l) (fun i _=>it i) (fun i _=>il i)
structure De where
 ps:Int
 inp:Bool
 nm:List UInt8
 ty:Int
 len:Int
 rg:Bool
 lo:Ex
 hi:Ex
structure Pr where
 ticks:Int
 ds:Sl
 d:Nat→De
 is:Sl
 i:Nat→St
 ss:Sl
 s:Nat→St
def sm (f:Nat→Nat):Nat→Nat
 | 0=>0
 | n+1=>sm f n+f n
def al (f:Nat→Bool):Nat→Bool
 | 0=>true
 | n+1=>al f n && f n
theorem sZ {f:Nat→Bool}{n:Nat}:al f n=true↔∀i,i<n→f i=true:=by
 induction n with
 | zero=>simp[al]
 | succ n ih=>
  simp only[al,Bool.and_eq_true,ih];constructor
  ·rintro⟨a,b⟩ i hi
   rcases Nat.lt_succ_iff_lt_or_eq.1 hi with h|rfl
   ·exact a i h
   ·exact b
  ·exact fun h=>⟨fun i hi=>h i (by omega),h n (by omega)⟩
theorem aDX {f:Nat→Nat}{m n:Nat}(h:m≤n):sm f m≤sm f n:=by
 induction n with
 | zero=>simp_all [sm]
 | succ n ih=>
  rcases Nat.lt_succ_iff_lt_or_eq.1 (Nat.lt_succ_of_le h)with h'|rfl
  ·have:=ih (by omega);simp only[sm];omega
  ·exact aD _
theorem iD {f:Nat→Nat}{i n:Nat}(h:i<n):sm f i+f i≤sm f n:=by
 have:=aDX (f:=f) (show i+1≤n by omega)
 simpa [sm] using this
def Ex.wt:Ex→Nat
 | .no=>1
 | .mk h k=>1+h.nm.length+sm (fun i=>(k i).wt) h.s.n
theorem Ex.wt_eq (e:Ex):e.wt=1+e.h.nm.length+sm (fun i=>(e.k i).wt) e.h.s.n:=by
 cases e<;>rfl
def St.wt:St→Nat
 | .no=>2
 | .mk h x e t l=>1+h.nm.length+sm (fun i=>(x i).wt) h.xs.n+e.wt+sm (fun i=>(t i).wt) h.ts.n+sm (fun i=>(l i).wt) h.es.n
theorem St.wt_eq (s:St):s.wt=1+s.h.nm.length+sm (fun i=>(s.x i).wt) s.h.xs.n+s.e.wt+sm (fun i=>(s.t i).wt) s.h.ts.n+sm (fun i=>(s.l i).wt) s.h.es.n:=by
 cases s<;>rfl
def De.wt (d:De):Nat:=1+d.nm.length+d.lo.wt+d.hi.wt
def Pr.wt (p:Pr):Nat:=sm (fun i=>(p.d i).wt) p.ds.n+sm (fun i=>(p.i i).wt) p.is.n+sm (fun i=>(p.s i).wt) p.ss.n
def hdS (h g:EH):Bool:=decide (h.op=g.op) && (h.bo == g.bo) && decide (h.it=g.it) && decide (h.fl=g.fl) && (h.nm == g.nm) && decide (h.s.n=g.s.n)
def Ex.same:Ex→Ex→Bool
 | .no,f=>hdS aP f.h
 | .mk h k,f=>hdS h f.h && al (fun i=>(k i).same (f.k i)) h.s.n
def aBr (n:Nat)(k:Nat→Ex)(m:Nat)(l:Nat→Ex):Bool:=decide (n=m) && al (fun i=>(k i).same (l i)) n
theorem Ex.same_hd (e f:Ex):e.same f=(hdS e.h f.h && al (fun i=>(e.k i).same (f.k i)) e.h.s.n):=by
 cases e with
 | no=>simp[Ex.same,Ex.h,aP,al]
 | mk h k=>rfl
def hsS (h g:SH):Bool:=decide (h.kd=g.kd) && (h.nm == g.nm) && decide (h.lo=g.lo) && decide (h.hi=g.hi) && decide (h.ts.n=g.ts.n) && decide (h.es.n=g.es.n)
def St.same:St→St→Bool
 | .no,r=>hsS cG r.h && Ex.no.same r.e && aBr 0 (fun _=>.no) r.h.xs.n r.x
 | .mk h x e t l,r=>hsS h r.h && e.same r.e && aBr h.xs.n x r.h.xs.n r.x && al (fun i=>(t i).same (r.t i)) h.ts.n && al (fun i=>(l i).same (r.l i)) h.es.n
theorem St.same_hd (s r:St):s.same r=(hsS s.h r.h && s.e.same r.e && aBr s.h.xs.n s.x r.h.xs.n r.x && al (fun i=>(s.t i).same (r.t i)) s.h.ts.n && al (fun i=>(s.l i).same (r.l i)) s.h.es.n):=by
 cases s with
 | no=>simp[St.same,St.h,St.e,St.x,cG,al]
 | mk=>rfl
def yW (n:Nat)(k:Nat→St)(m:Nat)(l:Nat→St):Bool:=decide (n=m) && al (fun i=>(k i).same (l i)) n
def De.same (a b:De):Bool:=(a.inp == b.inp) && (a.nm == b.nm) && decide (a.ty=b.ty) && decide (a.len=b.len) && (a.rg == b.rg) && a.lo.same b.lo && a.hi.same b.hi
def aDZ (n:Nat)(k:Nat→De)(m:Nat)(l:Nat→De):Bool:=decide (n=m) && al (fun i=>(k i).same (l i)) n
def Pr.same (p q:Pr):Bool:=decide (p.ticks=q.ticks) && aDZ p.ds.n p.d q.ds.n q.d && yW p.is.n p.i q.is.n q.i && yW p.ss.n p.s q.ss.n q.s
theorem Ex.same_iff {e f:Ex}:e.same f=true↔e.h.op=f.h.op∧e.h.bo=f.h.bo∧e.h.it=f.h.it∧e.h.fl=f.h.fl∧e.h.nm=f.h.nm∧e.h.s.n=f.h.s.n∧∀i,i<e.h.s.n→(e.k i).same (f.k i)=true:=by
 rw[Ex.same_hd];simp only[hdS,Bool.and_eq_true,decide_eq_true_eq,beq_iff_eq,sZ,and_assoc]
theorem aFf {n m:Nat}{k l:Nat→Ex}:aBr n k m l=true↔n=m∧∀i,i<n→(k i).same (l i)=true:=by
 simp only[aBr,Bool.and_eq_true,decide_eq_true_eq,sZ]
theorem St.same_iff {s r:St}:s.same r=true ↔
  (s.h.kd=r.h.kd∧s.h.nm=r.h.nm∧s.h.lo=r.h.lo∧s.h.hi=r.h.hi∧s.h.ts.n=r.h.ts.n∧s.h.es.n=r.h.es.n)∧s.e.same r.e=true∧(s.h.xs.n=r.h.xs.n∧∀i,i<s.h.xs.n→(s.x i).same (r.x i)=true)∧(∀i,i<s.h.ts.n→(s.t i).same (r.t i)=true)∧∀i,i<s.h.es.n→(s.l i).same (r.l i)=true:=by
 rw[St.same_hd];simp only[hsS,Bool.and_eq_true,decide_eq_true_eq,beq_iff_eq,sZ,aFf,and_assoc]
theorem rQ {n m:Nat}{k l:Nat→St}:yW n k m l=true↔n=m∧∀i,i<n→(k i).same (l i)=true:=by
 simp only[yW,Bool.and_eq_true,decide_eq_true_eq,sZ]
theorem De.same_iff {a b:De}:a.same b=true↔a.inp=b.inp∧a.nm=b.nm∧a.ty=b.ty∧a.len=b.len∧a.rg=b.rg∧a.lo.same b.lo=true∧a.hi.same b.hi=true:=by
 simp only[De.same,Bool.and_eq_true,decide_eq_true_eq,beq_iff_eq,and_assoc]
theorem yX {n m:Nat}{k l:Nat→De}:aDZ n k m l=true↔n=m∧∀i,i<n→(k i).same (l i)=true:=by
 simp only[aDZ,Bool.and_eq_true,decide_eq_true_eq,sZ]
theorem Pr.same_iff {p q:Pr}:p.same q=true↔p.ticks=q.ticks∧aDZ p.ds.n p.d q.ds.n q.d=true∧yW p.is.n p.i q.is.n q.i=true∧yW p.ss.n p.s q.ss.n q.s=true:=by
 simp only[Pr.same,Bool.and_eq_true,decide_eq_true_eq,and_assoc]
def Sl.ok (s:Sl):Prop:=s.n≤s.c∧s.c≤maxLen∧(s.ao=none→s.n=0)
structure EH.ok (h:EH):Prop where
 op0:0≤h.op
 op1:h.op≤255
 ps0:-9223372036854775808≤h.ps
 ps1:h.ps≤9223372036854775807
 it0:-2147483648≤h.it
 it1:h.it≤2147483647
 fl:bC h.fl
 nm:h.nm.length≤maxLen
 s:h.s.ok
def EH.vs (h:EH):List Value:=[.int .u8 h.op,.int .i64 h.ps,.bool h.bo,.int .i32 h.it,.int .u64 h.fl,.string ⟨h.nm.toArray⟩,.slice h.s.ao h.s.n h.s.c]
def EH.v (h:EH):Value:=.agg #[.int .u8 h.op,.int .i64 h.ps,.bool h.bo,.int .i32 h.it,.int .u64 h.fl,.string ⟨h.nm.toArray⟩,.slice h.s.ao h.s.n h.s.c]
def Rw (w:World)(B:Nat)(s:Sl)(sz:Nat)(cs:Nat→List Value):Prop:=∀a,s.ao=some a→∀i,i<s.n→a.block<B∧∀j v,(cs i)[j]? = some v→w.cell? (a.add (i*sz+j))=some v
theorem Rw.mono {w w':World}{B B':Nat}{s:Sl}{sz:Nat}{cs:Nat→List Value}(h:Rw w B s sz cs)(hb:∀p:Addr,p.block<B→w'.cell? p=w.cell? p)(hB:B≤B'):Rw w' B' s sz cs:=by
 intro a ha i hi;obtain⟨h1,h2⟩:=h a ha i hi;refine⟨by omega,fun j v hv=>?_⟩;rw[hb _ (by unfold Addr.add;split<;>exact h1)];exact h2 j v hv
def Ex.In (B:Nat)(w:World):Ex→Prop
 | .no=>True
 | .mk h k=>h.ok∧Rw w B h.s 7 (fun i=>(k i).h.vs)∧∀i,i<h.s.n→(k i).In B w
theorem aDS:aP.ok:=⟨by decide,by decide,by decide,by decide,by decide,by decide,by unfold bC aP;decide,Nat.zero_le _,⟨aD _,Nat.zero_le _,fun _=>rfl⟩⟩
theorem Ex.In.ok {B:Nat}{w:World}{e:Ex}(h:e.In B w):e.h.ok:=by
 cases e with
 | no=>exact aDS
 | mk h' k=>exact h.1
theorem Ex.In.mono {B B':Nat}{w w':World}(hb:∀p:Addr,p.block<B→w'.cell? p=w.cell? p)(hB:B≤B'){e:Ex}:e.In B w→e.In B' w':=by
 induction e with
 | no=>exact fun _=>trivial
 | mk h k ih=>exact fun⟨h1,h2,h3⟩=>⟨h1,h2.mono hb hB,fun i hi=>ih i (h3 i hi)⟩
def gE (B:Nat)(w:World)(s:Sl)(k:Nat→Ex):Prop:=s.ok∧Rw w B s 7 (fun i=>(k i).h.vs)∧∀i,i<s.n→(k i).In B w
theorem Ex.In.xs {B:Nat}{w:World}{e:Ex}(h:e.In B w):gE B w e.h.s e.k:=by
 cases e with
 | no=>exact⟨aDS.s,fun a ha=>(by simp[aP,Ex.h]at ha),fun i hi=>absurd hi (Nat.not_lt_zero i)⟩
 | mk h' k=>exact⟨h.1.s,h.2.1,h.2.2⟩
theorem gE.mono {B B':Nat}{w w':World}{s:Sl}{k:Nat→Ex}(h:gE B w s k)(hb:∀p:Addr,p.block<B→w'.cell? p=w.cell? p)(hB:B≤B'):gE B' w' s k:=
 ⟨h.1,h.2.1.mono hb hB,fun i hi=>(h.2.2 i hi).mono hb hB⟩
theorem bA {B B':Nat}{w w':World}(hb:Below B' w w')(h:B≤B'):∀p:Addr,p.block<B→w'.cell? p=w.cell? p:=fun _ hp=>hb.cell (by omega)
theorem Ex.In.below {B B':Nat}{w w':World}{e:Ex}(h:e.In B w)(hb:Below B' w w')(hB:B≤B'):e.In B w':=h.mono (bA hb hB) (aD _)
theorem gE.below {B B':Nat}{w w':World}{s:Sl}{k:Nat→Ex}(h:gE B w s k)(hb:Below B' w w')(hB:B≤B'):gE B w' s k:=h.mono (bA hb hB) (aD _)
structure X7 (w:World) (b o:Nat) (h:EH):Prop where
 c0:w.cell? ⟨b,o,none⟩=some (.int .u8 h.op)
 c1:w.cell? ⟨b,o+1,none⟩=some (.int .i64 h.ps)
 c2:w.cell? ⟨b,o+2,none⟩=some (.bool h.bo)
 c3:w.cell? ⟨b,o+3,none⟩=some (.int .i32 h.it)
 c4:w.cell? ⟨b,o+4,none⟩=some (.int .u64 h.fl)
 c5:w.cell? ⟨b,o+5,none⟩=some (.string ⟨h.nm.toArray⟩)
 c6:w.cell? ⟨b,o+6,none⟩=some (.slice h.s.ao h.s.n h.s.c)
theorem aMF {w:World}{b o:Nat}{h:EH}(g:∀j v,h.vs[j]? = some v→w.cell? ⟨b,o+j,none⟩=some v):X7 w b o h:=⟨g 0 _ rfl,g 1 _ rfl,g 2 _ rfl,g 3 _ rfl,g 4 _ rfl,g 5 _ rfl,g 6 _ rfl⟩
theorem aEV {w:World}{a:Addr}{v:Value}(h:w.cell? a=some v):a=⟨a.block,a.off,none⟩:=by
 obtain⟨b,o,s⟩:=a
 cases s with
 | none=>rfl
 | some s=>
  unfold World.cell? at h
  split at h<;>simp at h
theorem aMx {a:Addr}{i b o:Nat}(h:a.add i=⟨b,o,none⟩)(j:Nat):a.add (i+j)=⟨b,o+j,none⟩:=by
 rw[←Go.Deep.add_add,h];unfold Addr.add;split
 ·rename_i h0;subst h0;rfl
 ·rfl
theorem oJ (a:Addr)(i:Nat):(a.add i).block=a.block:=by unfold Addr.add;split<;>rfl
theorem Rw.at {w:World}{B:Nat}{s:Sl}{sz:Nat}{cs:Nat→List Value}(h:Rw w B s sz cs)(ho:s.ok){i:Nat}(hi:i<s.n){v0:Value}{r:List Value}(hc:cs i=v0::r) :
  ∃a b o,s.ao=some a∧a.add (i*sz)=⟨b,o,none⟩∧b<B∧∀j v,(cs i)[j]? = some v→w.cell? ⟨b,o+j,none⟩=some v:=by
 cases ha:s.ao with
 | none=>have:=ho.2.2 ha;omega
 | some a=>
  obtain⟨g1,g2⟩:=h a ha i hi;have e:a.add (i*sz)=⟨(a.add (i*sz)).block,(a.add (i*sz)).off,none⟩:=aEV (v:=v0) (by have:=g2 0 v0 (by rw[hc];rfl);exact this);exact⟨a,_,_,rfl,e,by rw[oJ];exact g1,fun j v hv=>by rw[←aMx e j];exact g2 j v hv⟩
theorem gE.at {B:Nat}{w:World}{s:Sl}{k:Nat→Ex}(h:gE B w s k){i:Nat}(hi:i<s.n):∃a b o,s.ao=some a∧a.add (i*7)=⟨b,o,none⟩∧b<B∧X7 w b o (k i).h∧(k i).In B w:=by
 obtain⟨a,b,o,h1,h2,h3,h4⟩:=h.2.1.at h.1 hi rfl;exact⟨a,b,o,h1,h2,h3,aMF h4,h.2.2 i hi⟩
structure SH.ok (h:SH):Prop where
 kd0:0≤h.kd
 kd1:h.kd≤255
 ps0:-9223372036854775808≤h.ps
 ps1:h.ps≤9223372036854775807
 lo0:-2147483648≤h.lo
 lo1:h.lo≤2147483647
 hi0:-2147483648≤h.hi
 hi1:h.hi≤2147483647
 nm:h.nm.length≤maxLen
 xs:h.xs.ok
 ts:h.ts.ok
 es:h.es.ok
def aS (h:SH)(e:EH):List Value:=[.int .u8 h.kd,.int .i64 h.ps,.string ⟨h.nm.toArray⟩,.slice h.xs.ao h.xs.n h.xs.c,.int .u8 e.op,.int .i64 e.ps,.bool e.bo,.int .i32 e.it,.int .u64 e.fl,.string ⟨e.nm.toArray⟩,.slice e.s.ao e.s.n e.s.c,
 .int .i32 h.lo,.int .i32 h.hi,.slice h.ts.ao h.ts.n h.ts.c,.slice h.es.ao h.es.n h.es.c]
def stv (h:SH)(e:EH):Value:=.agg #[.int .u8 h.kd,.int .i64 h.ps,.string ⟨h.nm.toArray⟩,.slice h.xs.ao h.xs.n h.xs.c,.int .u8 e.op,.int .i64 e.ps,.bool e.bo,.int .i32 e.it,.int .u64 e.fl,.string ⟨e.nm.toArray⟩,.slice e.s.ao e.s.n e.s.c,
 .int .i32 h.lo,.int .i32 h.hi,.slice h.ts.ao h.ts.n h.ts.c,.slice h.es.ao h.es.n h.es.c]
def St.In (B:Nat)(w:World):St→Prop
 | .no=>True
 | .mk h x e t l=>h.ok∧gE B w h.xs x∧e.In B w∧Rw w B h.ts 15 (fun i=>aS (t i).h (t i).e.h)∧(∀i,i<h.ts.n→(t i).In B w)∧Rw w B h.es 15 (fun i=>aS (l i).h (l i).e.h)∧∀i,i<h.es.n→(l i).In B w
def gL (B:Nat)(w:World)(s:Sl)(k:Nat→St):Prop:=s.ok∧Rw w B s 15 (fun i=>aS (k i).h (k i).e.h)∧∀i,i<s.n→(k i).In B w
theorem pR:cG.ok:=⟨by decide,by decide,by decide,by decide,by decide,by decide,by decide,by decide,Nat.zero_le _,⟨aD _,Nat.zero_le _,fun _=>rfl⟩,⟨aD _,Nat.zero_le _,fun _=>rfl⟩,⟨aD _,Nat.zero_le _,fun _=>rfl⟩⟩
theorem St.In.ok {B:Nat}{w:World}{s:St}(h:s.In B w):s.h.ok:=by
 cases s with
 | no=>exact pR
 | mk=>exact h.1
theorem St.In.xs {B:Nat}{w:World}{s:St}(h:s.In B w):gE B w s.h.xs s.x:=by
 cases s with
 | no=>exact⟨pR.xs,fun a ha=>(by simp[cG,St.h]at ha),fun i hi=>absurd hi (Nat.not_lt_zero i)⟩
 | mk=>exact h.2.1
theorem St.In.ex {B:Nat}{w:World}{s:St}(h:s.In B w):s.e.In B w:=by
 cases s with
 | no=>trivial
 | mk=>exact h.2.2.1
theorem St.In.ts {B:Nat}{w:World}{s:St}(h:s.In B w):gL B w s.h.ts s.t:=by
 cases s with
 | no=>exact⟨pR.ts,fun a ha=>(by simp[cG,St.h]at ha),fun i hi=>absurd hi (Nat.not_lt_zero i)⟩
 | mk=>exact⟨h.1.ts,h.2.2.2.1,h.2.2.2.2.1⟩
theorem St.In.es {B:Nat}{w:World}{s:St}(h:s.In B w):gL B w s.h.es s.l:=by
 cases s with
 | no=>exact⟨pR.es,fun a ha=>(by simp[cG,St.h]at ha),fun i hi=>absurd hi (Nat.not_lt_zero i)⟩
 | mk=>exact⟨h.1.es,h.2.2.2.2.2.1,h.2.2.2.2.2.2⟩
theorem St.In.mono {B B':Nat}{w w':World}(hb:∀p:Addr,p.block<B→w'.cell? p=w.cell? p)(hB:B≤B'){s:St}:s.In B w→s.In B' w':=by
 induction s with
 | no=>exact fun _=>trivial
 | mk h x e t l it il=>exact fun⟨h1,h2,h3,h4,h5,h6,h7⟩=>⟨h1,h2.mono hb hB,h3.mono hb hB,h4.mono hb hB,fun i hi=>it i (h5 i hi),h6.mono hb hB,fun i hi=>il i (h7 i hi)⟩
theorem gL.mono {B B':Nat}{w w':World}{s:Sl}{k:Nat→St}(h:gL B w s k)(hb:∀p:Addr,p.block<B→w'.cell? p=w.cell? p)(hB:B≤B'):gL B' w' s k:=
 ⟨h.1,h.2.1.mono hb hB,fun i hi=>(h.2.2 i hi).mono hb hB⟩
theorem St.In.below {B B':Nat}{w w':World}{s:St}(h:s.In B w)(hb:Below B' w w')(hB:B≤B'):s.In B w':=h.mono (bA hb hB) (aD _)
theorem gL.below {B B':Nat}{w w':World}{s:Sl}{k:Nat→St}(h:gL B w s k)(hb:Below B' w w')(hB:B≤B'):gL B w' s k:=h.mono (bA hb hB) (aD _)
structure S15 (w:World) (b o:Nat) (h:SH) (e:EH):Prop where
 c0:w.cell? ⟨b,o,none⟩=some (.int .u8 h.kd)
 c1:w.cell? ⟨b,o+1,none⟩=some (.int .i64 h.ps)
 c2:w.cell? ⟨b,o+2,none⟩=some (.string ⟨h.nm.toArray⟩)
 c3:w.cell? ⟨b,o+3,none⟩=some (.slice h.xs.ao h.xs.n h.xs.c)
 c4:w.cell? ⟨b,o+4,none⟩=some (.int .u8 e.op)
 c5:w.cell? ⟨b,o+5,none⟩=some (.int .i64 e.ps)
 c6:w.cell? ⟨b,o+6,none⟩=some (.bool e.bo)
 c7:w.cell? ⟨b,o+7,none⟩=some (.int .i32 e.it)
 c8:w.cell? ⟨b,o+8,none⟩=some (.int .u64 e.fl)
 c9:w.cell? ⟨b,o+9,none⟩=some (.string ⟨e.nm.toArray⟩)
 c10:w.cell? ⟨b,o+10,none⟩=some (.slice e.s.ao e.s.n e.s.c)
 c11:w.cell? ⟨b,o+11,none⟩=some (.int .i32 h.lo)
 c12:w.cell? ⟨b,o+12,none⟩=some (.int .i32 h.hi)
 c13:w.cell? ⟨b,o+13,none⟩=some (.slice h.ts.ao h.ts.n h.ts.c)
 c14:w.cell? ⟨b,o+14,none⟩=some (.slice h.es.ao h.es.n h.es.c)
theorem aLu {w:World}{b o:Nat}{h:SH}{e:EH}(g:∀j v,(aS h e)[j]? = some v→w.cell? ⟨b,o+j,none⟩=some v):S15 w b o h e:=
 ⟨g 0 _ rfl,g 1 _ rfl,g 2 _ rfl,g 3 _ rfl,g 4 _ rfl,g 5 _ rfl,g 6 _ rfl,g 7 _ rfl,g 8 _ rfl,g 9 _ rfl,g 10 _ rfl,g 11 _ rfl,g 12 _ rfl,g 13 _ rfl,g 14 _ rfl⟩
theorem gL.at {B:Nat}{w:World}{s:Sl}{k:Nat→St}(h:gL B w s k){i:Nat}(hi:i<s.n):∃a b o,s.ao=some a∧a.add (i*15)=⟨b,o,none⟩∧b<B∧S15 w b o (k i).h (k i).e.h∧(k i).In B w:=by
 obtain⟨a,b,o,h1,h2,h3,h4⟩:=h.2.1.at h.1 hi rfl;exact⟨a,b,o,h1,h2,h3,aLu h4,h.2.2 i hi⟩
structure De.ok (d:De):Prop where
 ps0:-9223372036854775808≤d.ps
 ps1:d.ps≤9223372036854775807
 ty0:0≤d.ty
 ty1:d.ty≤255
 len0:-9223372036854775808≤d.len
 len1:d.len≤9223372036854775807
 nm:d.nm.length≤maxLen
def dM (d:De)(a b:EH):List Value:=[.int .i64 d.ps,.bool d.inp,.string ⟨d.nm.toArray⟩,.int .u8 d.ty,.int .i64 d.len,.bool d.rg,.int .u8 a.op,.int .i64 a.ps,.bool a.bo,.int .i32 a.it,.int .u64 a.fl,.string ⟨a.nm.toArray⟩,.slice a.s.ao a.s.n a.s.c,
 .int .u8 b.op,.int .i64 b.ps,.bool b.bo,.int .i32 b.it,.int .u64 b.fl,.string ⟨b.nm.toArray⟩,.slice b.s.ao b.s.n b.s.c]
def dcv (d:De)(a b:EH):Value:=.agg #[.int .i64 d.ps,.bool d.inp,.string ⟨d.nm.toArray⟩,.int .u8 d.ty,.int .i64 d.len,.bool d.rg,.int .u8 a.op,.int .i64 a.ps,.bool a.bo,.int .i32 a.it,.int .u64 a.fl,.string ⟨a.nm.toArray⟩,.slice a.s.ao a.s.n a.s.c,
 .int .u8 b.op,.int .i64 b.ps,.bool b.bo,.int .i32 b.it,.int .u64 b.fl,.string ⟨b.nm.toArray⟩,.slice b.s.ao b.s.n b.s.c]
def De.In (B:Nat)(w:World)(d:De):Prop:=d.ok∧d.lo.In B w∧d.hi.In B w
theorem De.In.mono {B B':Nat}{w w':World}{d:De}(h:d.In B w)(hb:∀p:Addr,p.block<B→w'.cell? p=w.cell? p)(hB:B≤B'):d.In B' w':=⟨h.1,h.2.1.mono hb hB,h.2.2.mono hb hB⟩
def gF (B:Nat)(w:World)(s:Sl)(k:Nat→De):Prop:=s.ok∧Rw w B s 20 (fun i=>dM (k i) (k i).lo.h (k i).hi.h)∧∀i,i<s.n→(k i).In B w
theorem gF.mono {B B':Nat}{w w':World}{s:Sl}{k:Nat→De}(h:gF B w s k)(hb:∀p:Addr,p.block<B→w'.cell? p=w.cell? p)(hB:B≤B'):gF B' w' s k:=
 ⟨h.1,h.2.1.mono hb hB,fun i hi=>(h.2.2 i hi).mono hb hB⟩
theorem gF.below {B B':Nat}{w w':World}{s:Sl}{k:Nat→De}(h:gF B w s k)(hb:Below B' w w')(hB:B≤B'):gF B w' s k:=h.mono (bA hb hB) (aD _)
structure D20 (w:World) (b o:Nat) (d:De) (x y:EH):Prop where
 c0:w.cell? ⟨b,o,none⟩=some (.int .i64 d.ps)
 c1:w.cell? ⟨b,o+1,none⟩=some (.bool d.inp)
 c2:w.cell? ⟨b,o+2,none⟩=some (.string ⟨d.nm.toArray⟩)
 c3:w.cell? ⟨b,o+3,none⟩=some (.int .u8 d.ty)
 c4:w.cell? ⟨b,o+4,none⟩=some (.int .i64 d.len)
 c5:w.cell? ⟨b,o+5,none⟩=some (.bool d.rg)
 c6:w.cell? ⟨b,o+6,none⟩=some (.int .u8 x.op)
 c7:w.cell? ⟨b,o+7,none⟩=some (.int .i64 x.ps)
 c8:w.cell? ⟨b,o+8,none⟩=some (.bool x.bo)
 c9:w.cell? ⟨b,o+9,none⟩=some (.int .i32 x.it)
 c10:w.cell? ⟨b,o+10,none⟩=some (.int .u64 x.fl)
 c11:w.cell? ⟨b,o+11,none⟩=some (.string ⟨x.nm.toArray⟩)
 c12:w.cell? ⟨b,o+12,none⟩=some (.slice x.s.ao x.s.n x.s.c)
 c13:w.cell? ⟨b,o+13,none⟩=some (.int .u8 y.op)
 c14:w.cell? ⟨b,o+14,none⟩=some (.int .i64 y.ps)
 c15:w.cell? ⟨b,o+15,none⟩=some (.bool y.bo)
 c16:w.cell? ⟨b,o+16,none⟩=some (.int .i32 y.it)
 c17:w.cell? ⟨b,o+17,none⟩=some (.int .u64 y.fl)
 c18:w.cell? ⟨b,o+18,none⟩=some (.string ⟨y.nm.toArray⟩)
 c19:w.cell? ⟨b,o+19,none⟩=some (.slice y.s.ao y.s.n y.s.c)
theorem aMs {w:World}{b o:Nat}{d:De}{x y:EH}(g:∀j v,(dM d x y)[j]? = some v→w.cell? ⟨b,o+j,none⟩=some v):D20 w b o d x y:=
 ⟨g 0 _ rfl,g 1 _ rfl,g 2 _ rfl,g 3 _ rfl,g 4 _ rfl,g 5 _ rfl,g 6 _ rfl,g 7 _ rfl,g 8 _ rfl,g 9 _ rfl,g 10 _ rfl,g 11 _ rfl,g 12 _ rfl,g 13 _ rfl,g 14 _ rfl,g 15 _ rfl,g 16 _ rfl,g 17 _ rfl,g 18 _ rfl,g 19 _ rfl⟩
theorem gF.at {B:Nat}{w:World}{s:Sl}{k:Nat→De}(h:gF B w s k){i:Nat}(hi:i<s.n):∃a b o,s.ao=some a∧a.add (i*20)=⟨b,o,none⟩∧b<B∧D20 w b o (k i) (k i).lo.h (k i).hi.h∧(k i).In B w:=by
 obtain⟨a,b,o,h1,h2,h3,h4⟩:=h.2.1.at h.1 hi rfl;exact⟨a,b,o,h1,h2,h3,aMs h4,h.2.2 i hi⟩
theorem X7.below {w w':World}{B B' b o:Nat}{h:EH}(X:X7 w b o h)(g:b<B)(hb:Below B' w w')(hB:B≤B'):X7 w' b o h:=⟨(bA hb hB _ g).trans X.c0,(bA hb hB _ g).trans X.c1,(bA hb hB _ g).trans X.c2,(bA hb hB _ g).trans X.c3,(bA hb hB _ g).trans X.c4,(bA hb hB _ g).trans X.c5,(bA hb hB _ g).trans X.c6⟩
theorem S15.below {w w':World}{B B' b o:Nat}{h:SH}{e:EH}(X:S15 w b o h e)(g:b<B)(hb:Below B' w w')(hB:B≤B'):S15 w' b o h e:=⟨(bA hb hB _ g).trans X.c0,(bA hb hB _ g).trans X.c1,(bA hb hB _ g).trans X.c2,(bA hb hB _ g).trans X.c3,(bA hb hB _ g).trans X.c4,(bA hb hB _ g).trans X.c5,(bA hb hB _ g).trans X.c6,(bA hb hB _ g).trans X.c7,(bA hb hB _ g).trans X.c8,(bA hb hB _ g).trans X.c9,(bA hb hB _ g).trans X.c10,(bA hb hB _ g).trans X.c11,(bA hb hB _ g).trans X.c12,(bA hb hB _ g).trans X.c13,(bA hb hB _ g).trans X.c14⟩
theorem D20.below {w w':World}{B B' b o:Nat}{d:De}{x y:EH}(X:D20 w b o d x y)(g:b<B)(hb:Below B' w w')(hB:B≤B'):D20 w' b o d x y:=⟨(bA hb hB _ g).trans X.c0,(bA hb hB _ g).trans X.c1,(bA hb hB _ g).trans X.c2,(bA hb hB _ g).trans X.c3,(bA hb hB _ g).trans X.c4,(bA hb hB _ g).trans X.c5,(bA hb hB _ g).trans X.c6,(bA hb hB _ g).trans X.c7,(bA hb hB _ g).trans X.c8,(bA hb hB _ g).trans X.c9,(bA hb hB _ g).trans X.c10,(bA hb hB _ g).trans X.c11,(bA hb hB _ g).trans X.c12,(bA hb hB _ g).trans X.c13,(bA hb hB _ g).trans X.c14,(bA hb hB _ g).trans X.c15,(bA hb hB _ g).trans X.c16,(bA hb hB _ g).trans X.c17,(bA hb hB _ g).trans X.c18,(bA hb hB _ g).trans X.c19⟩
theorem gE.drew {B:Nat}{w:World}{s:Sl}{k:Nat→Ex}(h:gE B w s k):gE B w.drew s k:=h.mono (w:=w) (w':=w.drew) (fun _ _=>rfl) (aD _)
def Pr.In (B:Nat)(w:World)(p:Pr):Prop:=(-9223372036854775808≤p.ticks∧p.ticks≤9223372036854775807)∧gF B w p.ds p.d∧gL B w p.is p.i∧gL B w p.ss p.s
def Pr.v (p:Pr):Value:=.agg #[.int .i64 p.ticks,.slice p.ds.ao p.ds.n p.ds.c,.slice p.is.ao p.is.n p.is.c,.slice p.ss.ao p.ss.n p.ss.c]
theorem Pr.In.below {B B':Nat}{w w':World}{p:Pr}(h:p.In B w)(hb:Below B' w w')(hB:B≤B'):p.In B w':=⟨h.1,h.2.1.below hb hB,h.2.2.1.below hb hB,h.2.2.2.below hb hB⟩
def xO (h:EH):Obj:=.cells #[.int .u8 h.op,.int .i64 h.ps,.bool h.bo,.int .i32 h.it,.int .u64 h.fl,.string ⟨h.nm.toArray⟩,.slice h.s.ao h.s.n h.s.c] 42 (0,0)
def sO (h:SH)(e:EH):Obj:=.cells #[.int .u8 h.kd,.int .i64 h.ps,.string ⟨h.nm.toArray⟩,.slice h.xs.ao h.xs.n h.xs.c,.int .u8 e.op,.int .i64 e.ps,.bool e.bo,.int .i32 e.it,.int .u64 e.fl,.string ⟨e.nm.toArray⟩,.slice e.s.ao e.s.n e.s.c,
 .int .i32 h.lo,.int .i32 h.hi,.slice h.ts.ao h.ts.n h.ts.c,.slice h.es.ao h.es.n h.es.c] 48 (0,0)
def dO (d:De)(a b:EH):Obj:=.cells #[.int .i64 d.ps,.bool d.inp,.string ⟨d.nm.toArray⟩,.int .u8 d.ty,.int .i64 d.len,.bool d.rg,.int .u8 a.op,.int .i64 a.ps,.bool a.bo,.int .i32 a.it,.int .u64 a.fl,.string ⟨a.nm.toArray⟩,.slice a.s.ao a.s.n a.s.c,
 .int .u8 b.op,.int .i64 b.ps,.bool b.bo,.int .i32 b.it,.int .u64 b.fl,.string ⟨b.nm.toArray⟩,.slice b.s.ao b.s.n b.s.c] 44 (0,0)
def pO (p:Pr):Obj:=.cells #[.int .i64 p.ticks,.slice p.ds.ao p.ds.n p.ds.c,.slice p.is.ao p.is.n p.is.c,.slice p.ss.ao p.ss.n p.ss.c] 25 (0,0)
def bx (w:World)(o:Obj):World:=w.alloc o
theorem kY (w:World)(h:EH):w.alloc (.cells #[.int .u8 h.op,.int .i64 h.ps,.bool h.bo,.int .i32 h.it,.int .u64 h.fl,.string ⟨h.nm.toArray⟩,.slice h.s.ao h.s.n h.s.c] 42 (0,0))=bx w (xO h):=rfl
theorem aCj (w:World)(h:SH)(e:EH):w.alloc (.cells #[.int .u8 h.kd,.int .i64 h.ps,.string ⟨h.nm.toArray⟩,.slice h.xs.ao h.xs.n h.xs.c,.int .u8 e.op,.int .i64 e.ps,.bool e.bo,.int .i32 e.it,.int .u64 e.fl,.string ⟨e.nm.toArray⟩,.slice e.s.ao e.s.n e.s.c,
 .int .i32 h.lo,.int .i32 h.hi,.slice h.ts.ao h.ts.n h.ts.c,.slice h.es.ao h.es.n h.es.c] 48 (0,0))=bx w (sO h e):=rfl
theorem uG (w:World)(d:De)(a b:EH):w.alloc (.cells #[.int .i64 d.ps,.bool d.inp,.string ⟨d.nm.toArray⟩,.int .u8 d.ty,.int .i64 d.len,.bool d.rg,.int .u8 a.op,.int .i64 a.ps,.bool a.bo,.int .i32 a.it,.int .u64 a.fl,.string ⟨a.nm.toArray⟩,.slice a.s.ao a.s.n a.s.c,
 .int .u8 b.op,.int .i64 b.ps,.bool b.bo,.int .i32 b.it,.int .u64 b.fl,.string ⟨b.nm.toArray⟩,.slice b.s.ao b.s.n b.s.c] 44 (0,0))=bx w (dO d a b):=rfl
theorem aIJ (w:World)(p:Pr):w.alloc (.cells #[.int .i64 p.ticks,.slice p.ds.ao p.ds.n p.ds.c,.slice p.is.ao p.is.n p.is.c,.slice p.ss.ao p.ss.n p.ss.c] 25 (0,0))=bx w (pO p):=rfl
theorem cJ (w:World)(o:Obj):(bx w o).heap.size=w.heap.size+1:=World.size_alloc ..
theorem cD (w:World)(o:Obj):(bx w o).heap[w.heap.size]? = some o:=heap_alloc_new w o
theorem bS {B:Nat}{a w:World}(h:Below B a w)(hB:B≤a.heap.size)(o:Obj):Below B a (bx w o):=h.alloc (aF hB h.size) o
theorem aK {w:World}{k:Nat}{cs:Array Value}{t:TypeId}(h:w.heap[k]? = some (.cells cs t (0,0)))(j:Nat):w.cell? ⟨k,j,none⟩=cs[j]?:=by simp[World.cell?,h]
theorem bK {w:World}{k:Nat}{h:EH}(g:w.heap[k]? = some (xO h)):w.cell? ⟨k,0,none⟩=some (.int .u8 h.op)∧w.cell? ⟨k,1,none⟩=some (.int .i64 h.ps)∧w.cell? ⟨k,2,none⟩=some (.bool h.bo)∧w.cell? ⟨k,3,none⟩=some (.int .i32 h.it) ∧
  w.cell? ⟨k,4,none⟩=some (.int .u64 h.fl)∧w.cell? ⟨k,5,none⟩=some (.string ⟨h.nm.toArray⟩)∧w.cell? ⟨k,6,none⟩=some (.slice h.s.ao h.s.n h.s.c):=
 ⟨aK g 0,aK g 1,aK g 2,aK g 3,aK g 4,aK g 5,aK g 6⟩
structure SC (w:World) (k:Nat) (h:SH) (e:EH):Prop where
 c0:w.cell? ⟨k,0,none⟩=some (.int .u8 h.kd)
 c1:w.cell? ⟨k,1,none⟩=some (.int .i64 h.ps)
 c2:w.cell? ⟨k,2,none⟩=some (.string ⟨h.nm.toArray⟩)
 c3:w.cell? ⟨k,3,none⟩=some (.slice h.xs.ao h.xs.n h.xs.c)
 c4:w.cell? ⟨k,4,none⟩=some (.int .u8 e.op)
 c5:w.cell? ⟨k,5,none⟩=some (.int .i64 e.ps)
 c6:w.cell? ⟨k,6,none⟩=some (.bool e.bo)
 c7:w.cell? ⟨k,7,none⟩=some (.int .i32 e.it)
 c8:w.cell? ⟨k,8,none⟩=some (.int .u64 e.fl)
 c9:w.cell? ⟨k,9,none⟩=some (.string ⟨e.nm.toArray⟩)
 c10:w.cell? ⟨k,10,none⟩=some (.slice e.s.ao e.s.n e.s.c)
 c11:w.cell? ⟨k,11,none⟩=some (.int .i32 h.lo)
 c12:w.cell? ⟨k,12,none⟩=some (.int .i32 h.hi)
 c13:w.cell? ⟨k,13,none⟩=some (.slice h.ts.ao h.ts.n h.ts.c)
 c14:w.cell? ⟨k,14,none⟩=some (.slice h.es.ao h.es.n h.es.c)
theorem bX {w:World}{k:Nat}{h:SH}{e:EH}(g:w.heap[k]? = some (sO h e)):SC w k h e:=
 ⟨aK g 0,aK g 1,aK g 2,aK g 3,aK g 4,aK g 5,aK g 6,aK g 7,aK g 8,aK g 9,aK g 10,aK g 11,aK g 12,aK g 13,aK g 14⟩
structure DC (w:World) (k:Nat) (d:De) (x y:EH):Prop where
 c0:w.cell? ⟨k,0,none⟩=some (.int .i64 d.ps)
 c1:w.cell? ⟨k,1,none⟩=some (.bool d.inp)
 c2:w.cell? ⟨k,2,none⟩=some (.string ⟨d.nm.toArray⟩)
 c3:w.cell? ⟨k,3,none⟩=some (.int .u8 d.ty)
 c4:w.cell? ⟨k,4,none⟩=some (.int .i64 d.len)
 c5:w.cell? ⟨k,5,none⟩=some (.bool d.rg)
 c6:w.cell? ⟨k,6,none⟩=some (.int .u8 x.op)
 c7:w.cell? ⟨k,7,none⟩=some (.int .i64 x.ps)
 c8:w.cell? ⟨k,8,none⟩=some (.bool x.bo)
 c9:w.cell? ⟨k,9,none⟩=some (.int .i32 x.it)
 c10:w.cell? ⟨k,10,none⟩=some (.int .u64 x.fl)
 c11:w.cell? ⟨k,11,none⟩=some (.string ⟨x.nm.toArray⟩)
 c12:w.cell? ⟨k,12,none⟩=some (.slice x.s.ao x.s.n x.s.c)
 c13:w.cell? ⟨k,13,none⟩=some (.int .u8 y.op)
 c14:w.cell? ⟨k,14,none⟩=some (.int .i64 y.ps)
 c15:w.cell? ⟨k,15,none⟩=some (.bool y.bo)
 c16:w.cell? ⟨k,16,none⟩=some (.int .i32 y.it)
 c17:w.cell? ⟨k,17,none⟩=some (.int .u64 y.fl)
 c18:w.cell? ⟨k,18,none⟩=some (.string ⟨y.nm.toArray⟩)
 c19:w.cell? ⟨k,19,none⟩=some (.slice y.s.ao y.s.n y.s.c)
theorem cA {w:World}{k:Nat}{d:De}{x y:EH}(g:w.heap[k]? = some (dO d x y)):DC w k d x y:=
 ⟨aK g 0,aK g 1,aK g 2,aK g 3,aK g 4,aK g 5,aK g 6,aK g 7,aK g 8,aK g 9,aK g 10,aK g 11,aK g 12,aK g 13,aK g 14,aK g 15,aK g 16,aK g 17,aK g 18,aK g 19⟩
theorem eF {w:World}{k:Nat}{p:Pr}(g:w.heap[k]? = some (pO p)):w.cell? ⟨k,0,none⟩=some (.int .i64 p.ticks)∧w.cell? ⟨k,1,none⟩=some (.slice p.ds.ao p.ds.n p.ds.c)∧w.cell? ⟨k,2,none⟩=some (.slice p.is.ao p.is.n p.is.c)∧w.cell? ⟨k,3,none⟩=some (.slice p.ss.ao p.ss.n p.ss.c):=
 ⟨aK g 0,aK g 1,aK g 2,aK g 3⟩
theorem aFM {w:World}{b o:Nat}{d:De}{x y:EH}(X:D20 w b o d x y):w.rangeAt b o (dM d x y):=by
 intro j v hv
 have hj:j<20:=by
  rcases Nat.lt_or_ge j 20 with h|h
  ·exact h
  ·rw[List.getElem?_eq_none (by exact h)]at hv;cases hv
 match j,hj with
 | 0,_=>exact(Option.some.inj hv) ▸ X.c0
 | 1,_=>exact(Option.some.inj hv) ▸ X.c1
 | 2,_=>exact(Option.some.inj hv) ▸ X.c2
 | 3,_=>exact(Option.some.inj hv) ▸ X.c3
 | 4,_=>exact(Option.some.inj hv) ▸ X.c4
 | 5,_=>exact(Option.some.inj hv) ▸ X.c5
 | 6,_=>exact(Option.some.inj hv) ▸ X.c6
 | 7,_=>exact(Option.some.inj hv) ▸ X.c7
 | 8,_=>exact(Option.some.inj hv) ▸ X.c8
 | 9,_=>exact(Option.some.inj hv) ▸ X.c9
 | 10,_=>exact(Option.some.inj hv) ▸ X.c10
 | 11,_=>exact(Option.some.inj hv) ▸ X.c11
 | 12,_=>exact(Option.some.inj hv) ▸ X.c12
 | 13,_=>exact(Option.some.inj hv) ▸ X.c13
 | 14,_=>exact(Option.some.inj hv) ▸ X.c14
 | 15,_=>exact(Option.some.inj hv) ▸ X.c15
 | 16,_=>exact(Option.some.inj hv) ▸ X.c16
 | 17,_=>exact(Option.some.inj hv) ▸ X.c17
 | 18,_=>exact(Option.some.inj hv) ▸ X.c18
 | 19,_=>exact(Option.some.inj hv) ▸ X.c19
theorem xC {w:World}{k:Nat}{d:De}{x y:EH}(g:w.heap[k]? = some (dO d x y)):w.rangeAt k 0 (dM d x y):=by
 intro j v hv;rw[Nat.zero_add,aK g j,←Array.getElem?_toList];exact hv
theorem aEH (d:De)(x y:EH):dO d x y=.cells (dM d x y).toArray 44 (0,0):=rfl
theorem aDE (d:De)(x y:EH):dcv d x y=.agg (dM d x y).toArray:=rfl
theorem aCc (d:De)(x y:EH):((dM d x y).toArray.all (·.oneCell'))=true:=by simp[dM,Value.oneCell']
theorem vL {ops:Array Oper}{rest:List Oper}{op:Oper}{a:Act}{Q:Exit→Act→World→Prop}(hgd:op.guard=none)(ty:TypeId)(x y:Operand)(ho:op.op=.store ty x y)(w:World)(c c':Array Value)
  (hx:a.eval x=.pointer (some ⟨w.heap.size,0,none⟩)) (hy:a.eval y=.agg c') (hi:(Tryz.prog.info? ty).map (·.size)=some c'.size) (hs:c.size=c'.size) (h1:c'.all (·.oneCell')=true)
  (h:wpList Tryz.prog ops Q rest (a.put op.dst undef) (bx w (.cells c' ty (0,0)))):wpList Tryz.prog ops Q (op::rest) a (w.alloc (.cells c ty (0,0))):=
 wpList_plain hgd fun K hK=>by
  unfold Oper.wp execOp;simp only[ho,hx,hy,Instr.storeAt,Instr.sureAddr,Sem.run_bind,Sem.run_pure,Result.andThen_ok,run_storeVar_new w ty c c' hi hs h1];exact hK _ _ h
end Go.Proofs.YtkbicfffokegeaaGreatDoor
