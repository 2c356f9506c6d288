/-
  ParseParses: a source's tree, or what is wrong with it, is the reference's. (part 2 of 38) Conditions: none beside what the card ties.
-/
import Derived.WalkKit
import Derived.WalkSpells
import Derived.Laws.Pointers
import Derived.Laws.Rows
import Derived.Lib.Mul64
import Derived.Lib.Hide
import Derived.Deep.Draws
import Derived.Deep.LoopGhost
import Derived.WalkSmall
import Derived.Maps.AppendAt
import Derived.Deep.AppendLies
import Derived.Deep.OwnRows
import Derived.Deep.CutBlock
import Derived.Deep.DeepCutAuto
import Derived.Deep.RegionHeld3
import Derived.Deep.QuietTactic
import Derived.BigQuiet
import Derived.BigRegion
import Derived.StillTailTactics
import Derived.Lib.Strings
import Derived.Lib.Slices
import Derived.Lib.Small
import Derived.Lib.Walk
import Derived.Lib.BitFns
import Derived.Shelf.Spec.BitsCarry
import Derived.Shelf.Bits.Mul64
import Derived.Laws.Bits64b
import Derived.Below
import Derived.Test.YthmlhkllbichgaaGreatDoorRows
namespace Go.Proofs.YthmlhkllbichgaaGreatDoor
set_option maxHeartbeats 16000000
open Go.RowKit
def Word (x:Int):Prop:=0≤x∧x<18446744073709551616
def W32 (x:Int):Prop:=0≤x∧x<4294967296
theorem bel_alloc {w w':World}(h:Below w.heap.size w w')(o:Obj):Below w.heap.size w (w'.alloc o):=h.alloc h.size o
theorem bel_drew {w w':World}(h:Below w.heap.size w w'):Below w.heap.size w w'.drew:=h.drew
theorem bel_drewN {w w':World}(h:Below w.heap.size w w')(n:Nat):Below w.heap.size w (w'.drewN n):=⟨h.os,h.tape,h.output,h.size,h.block⟩
theorem bel_trans {w w1 w2:World}(h:Below w.heap.size w w1)(k:Below w1.heap.size w1 w2):Below w.heap.size w w2:=h.trans (k.mono h.size)
theorem bel_set {w w':World}(h:Below w.heap.size w w'){p:Addr}(hp:w.heap.size≤p.block)(u:Value):Below w.heap.size w (w'.setCell p u):=h.setCell hp u
theorem ret_int {k:IntKind}{a b:Int}(h:a=b):Ending.returned (.int k a)=.returned (.int k b):=by rw[h]
theorem ret_bool {a b:Bool}(h:a=b):Ending.returned (.bool a)=.returned (.bool b):=by rw[h]
theorem back {P:Program}{f:FuncId}{args:Array Value}{w:World}{x:Ending}(h:Calls P f args w fun e w'=>e=x∧w=w'):Calls P f args w fun e w'=>e=x∧w'=w:=h.mono fun _ _ k=>⟨k.1,k.2.symm⟩
theorem pow_pos' (j:Nat):(0:Int)<2 ^ j:=Int.pow_pos (by decide)
theorem pow_mono (a b:Nat)(h:a≤b):(2:Int) ^ a≤2 ^ b:=by
 have h3:2 ^ a≤2 ^ b:=Nat.pow_le_pow_right (by decide) h;have h4:((2 ^ a:Nat):Int)≤((2 ^ b:Nat):Int):=Int.ofNat_le.2 h3
 simpa using h4
theorem word_div {x:Int}(h:Word x)(k:Nat):Word (x / 2 ^ k):=by
 refine⟨Int.ediv_nonneg h.1 (Int.le_of_lt (pow_pos' _)),?_⟩;have:=Int.ediv_le_self (2 ^ k) h.1;have:=h.2;omega
def blen (n:Int):Int:=(Go.bitLen n.toNat:Nat)
theorem blen_spec {a:Int}(h:0≤a):∃k:Nat,blen a=(k:Int)∧a<2 ^ k∧(0<a→(2:Int) ^ (k-1)≤a∧1≤k)∧(a=0→k=0):=by
 obtain⟨n,rfl⟩:=Int.eq_ofNat_of_zero_le h;have hb:=bitLen_spec n;refine⟨Go.bitLen n,by unfold blen;rw[Int.toNat_natCast],?_,fun h0=>⟨?_,?_⟩,fun h0=>?_⟩
 ·have:((n:Nat):Int)<((2 ^ Go.bitLen n:Nat):Int):=Int.ofNat_lt.2 hb.1
  simpa using this
 ·have:((2 ^ (Go.bitLen n-1):Nat):Int)≤(n:Int):=Int.ofNat_le.2 (hb.2 (by omega))
  simpa using this
 ·rcases Nat.eq_zero_or_pos (Go.bitLen n)with e|e
  ·rw[e]at hb
   simp at hb
   omega
  ·exact e
 ·have:n=0:=by omega
  subst this;rfl
def Blk (w:World)(g:Nat)(t:TypeId)(cs:Array Value):Prop:=w.heap[g]? = some (.cells cs t (0,0))
section
variable {w w':World} {g:Nat} {t:TypeId} {cs:Array Value}
theorem Blk.lt (h:Blk w g t cs):g<w.heap.size:=by
 rcases Nat.lt_or_ge g w.heap.size with hlt|hge
 ·exact hlt
 ·unfold Blk at h;rw[Array.getElem?_eq_none hge]at h;cases h
theorem Blk.cell (h:Blk w g t cs)(i:Nat):w.cell? ⟨g,i,none⟩=cs[i]?:=cell_of_row w g i cs t (0,0) h
theorem Blk.frozen (h:Blk w g t cs)(i:Nat):w.frozen? ⟨g,i,none⟩=false:=by
 unfold Blk at h
 simp[World.frozen?,h]
theorem Blk.new (w:World)(t:TypeId)(cs:Array Value):Blk (w.alloc (.cells cs t)) w.heap.size t cs:=heap_alloc_new w _
theorem Blk.drew (h:Blk w g t cs):Blk w.drew g t cs:=h
theorem Blk.alloc (h:Blk w g t cs)(o:Obj):Blk (w.alloc o) g t cs:=(Below.heap_alloc w o g h.lt).trans h
theorem Blk.set_ (h:Blk w g t cs)(i:Nat)(u:Value):Blk (w.setCell ⟨g,i,none⟩ u) g t (cs.setIfInBounds i u):=by
 unfold Blk at h ⊢
 simp[World.setCell,Array.getElem?_modify,h]
theorem Blk.far (h:Blk w g t cs){p:Addr}(hp:g≠p.block)(u:Value):Blk (w.setCell p u) g t cs:=(Below.heap_setCell w p u g hp).trans h
theorem Blk.below {B:Nat}(h:Blk w g t cs)(hb:Below B w w')(hg:g<B):Blk w' g t cs:=(hb.block g hg).trans h
theorem Blk.made (hb:Below (w.alloc (.cells cs t)).heap.size (w.alloc (.cells cs t)) w'):Blk w' w.heap.size t cs:=(Blk.new w t cs).below hb (Blk.new w t cs).lt
end
theorem Hj {p:Prop}(h:p):Hid p:=Lib.hid h
def nv:List Int→Int
 | []=>0
 | x::r=>x+4294967296*nv r
def AllW (ws:List Int):Prop:=∀x∈ws,W32 x
theorem AllW.nil:AllW []:=fun _ h=>by cases h
theorem AllW.head {x:Int}{r:List Int}(h:AllW (x::r)):W32 x:=h x (by simp)
theorem AllW.tail {x:Int}{r:List Int}(h:AllW (x::r)):AllW r:=fun y hy=>h y (by simp[hy])
theorem AllW.cons {x:Int}{r:List Int}(h:W32 x)(k:AllW r):AllW (x::r):=fun y hy=>by
 rcases List.mem_cons.1 hy with rfl|hy
 ·exact h
 ·exact k y hy
theorem AllW.take {ws:List Int}(h:AllW ws)(k:Nat):AllW (ws.take k):=fun x hx=>h x (List.mem_of_mem_take hx)
theorem AllW.drop {ws:List Int}(h:AllW ws)(k:Nat):AllW (ws.drop k):=fun x hx=>h x (List.mem_of_mem_drop hx)
theorem AllW.append {us vs:List Int}(h:AllW us)(k:AllW vs):AllW (us++vs):=fun x hx=>by
 rcases List.mem_append.1 hx with hx|hx
 ·exact h x hx
 ·exact k x hx
theorem AllW.getD {ws:List Int}(h:AllW ws)(i:Nat):W32 (ws.getD i 0):=by
 rw[List.getD_eq_getElem?_getD]
 cases e:ws[i]? with
 | none=>exact⟨by decide,by decide⟩
 | some x=>exact h x (List.mem_of_getElem? e)
theorem AllW.set {ws:List Int}(h:AllW ws)(i:Nat){x:Int}(hx:W32 x):AllW (ws.set i x):=fun y hy=>by
 rcases List.mem_or_eq_of_mem_set hy with hy|rfl
 ·exact h y hy
 ·exact hx
theorem AllW.zeros (n:Nat):AllW (List.replicate n 0):=fun x hx=>by
 rw[List.eq_of_mem_replicate hx];exact⟨by decide,by decide⟩
theorem nv_nonneg:∀ws:List Int,AllW ws→0≤nv ws
 | [],_=>by simp[nv]
 | x::r,h=>by have:=nv_nonneg r h.tail;have:=h.head.1;simp only[nv];omega
theorem pow32 (k:Nat):(2:Int) ^ (32*(k+1))=2 ^ (32*k)*4294967296:=by
 rw[show 32*(k+1)=32*k+32 by omega,Int.pow_add];rfl
theorem nv_lt:∀ws:List Int,AllW ws→nv ws<2 ^ (32*ws.length)
 | [],_=>by simp[nv]
 | x::r,h=>by
  have:=nv_lt r h.tail;have:=h.head.2;simp only[nv,List.length_cons,pow32];omega
theorem nv_append:∀xs ys:List Int,nv (xs++ys)=nv xs+2 ^ (32*xs.length)*nv ys
 | [],ys=>by simp[nv]
 | x::r,ys=>by
  simp only[List.cons_append,nv,nv_append r ys,List.length_cons,pow32];rw[Int.mul_right_comm];omega
theorem nv_zeros (n:Nat):nv (List.replicate n 0)=0:=by
 induction n with
 | zero=>rfl
 | succ n ih=>simp[List.replicate_succ,nv,ih]
theorem nv_snoc (xs:List Int)(x:Int):nv (xs++[x])=nv xs+2 ^ (32*xs.length)*x:=by
 rw[nv_append]
 simp[nv]
theorem getD0_past (ws:List Int)(j:Nat)(h:ws.length≤j):ws.getD j 0=0:=by rw[List.getD_eq_getElem?_getD,List.getElem?_eq_none h];rfl
theorem getD0_tail (ws:List Int)(j:Nat):ws.getD (j+1) 0=ws.tail.getD j 0:=by cases ws<;>rfl
theorem getD0_drop (xs:List Int)(k j:Nat):(xs.drop k).getD j 0=xs.getD (k+j) 0:=by
 rw[List.getD_eq_getElem?_getD,List.getD_eq_getElem?_getD,List.getElem?_drop]
theorem getD0_take (xs:List Int)(k j:Nat):(xs.take k).getD j 0=if j<k then xs.getD j 0 else 0:=by
 rw[List.getD_eq_getElem?_getD,List.getD_eq_getElem?_getD,List.getElem?_take]
 split<;>rfl
theorem nv_tail (ws:List Int):nv ws=ws.getD 0 0+4294967296*nv ws.tail:=by cases ws<;>simp[nv]
theorem nv_take_succ (ws:List Int)(k:Nat):nv (ws.take (k+1))=nv (ws.take k)+2 ^ (32*k)*ws.getD k 0:=by
 by_cases h:k<ws.length
 ·rw[List.take_succ_eq_append_getElem h,nv_snoc,List.length_take,Nat.min_eq_left (by omega),List.getD_eq_getElem?_getD,List.getElem?_eq_getElem h]
  rfl
 ·rw[List.take_of_length_le (by omega),List.take_of_length_le (by omega),getD0_past ws k (by omega)]
  simp
theorem nv_take_drop (xs:List Int)(k:Nat)(hk:k≤xs.length):nv xs=nv (xs.take k)+2 ^ (32*k)*nv (xs.drop k):=by
 have h:=nv_append (xs.take k) (xs.drop k);rw[List.take_append_drop,List.length_take,Nat.min_eq_left hk]at h;exact h
theorem nv_set:∀(ws:List Int) (i:Nat) (x:Int),i<ws.length→nv (ws.set i x)=nv ws+2 ^ (32*i)*(x-ws.getD i 0)
 | [],i,_,h=>by simp at h
 | y::r,0,x,_=>by simp[nv];omega
 | y::r,i+1,x,h=>by
  have:=nv_set r i x (by simpa using h);simp only[List.set_cons_succ,nv,this,pow32,List.getD_cons_succ];rw[Int.mul_right_comm];omega
theorem nv_all_zero:∀ws:List Int,(∀j,ws.getD j 0=0)→nv ws=0
 | [],_=>rfl
 | x::r,h=>by
  have h0:=h 0;have h1:=nv_all_zero r fun j=>h (j+1)
  simp at h0
  simp[nv,h0,h1]
theorem nv_high {ws:List Int}{k:Nat}(hk:k≤ws.length)(h:∀j,k≤j→ws.getD j 0=0):nv ws=nv (ws.take k):=by
 rw[nv_take_drop ws k hk,nv_all_zero (ws.drop k) fun j=>by rw[getD0_drop];exact h _ (by omega)]
 simp
theorem nv_same:∀us vs:List Int,(∀j,us.getD j 0=vs.getD j 0)→nv us=nv vs
 | [],vs,h=>(nv_all_zero vs fun j=>(h j).symm).symm
 | x::r,vs,h=>by
  have h0:=h 0;have h1:=nv_same r vs.tail fun j=>by rw[←getD0_tail];exact h (j+1)
  rw[nv_tail (x::r),nv_tail vs,←h0,←h1];rfl
def tlen:List Int→Nat
 | []=>0
 | x::r=>if tlen r=0∧x=0 then 0 else tlen r+1
theorem tlen_le:∀ws:List Int,tlen ws≤ws.length
 | []=>by simp[tlen]
 | x::r=>by have:=tlen_le r;simp only[tlen,List.length_cons];split<;>omega
theorem tlen_high:∀(ws:List Int) (j:Nat),tlen ws≤j→ws.getD j 0=0
 | [],j,_=>by simp
 | x::r,j,h=>by
  simp only[tlen]at h
  split at h
  ·rename_i e
   rcases j with _|j
   ·simpa using e.2
   ·exact tlen_high r j (by omega)
  ·rcases j with _|j
   ·omega
   ·exact tlen_high r j (by omega)
theorem tlen_top:∀(ws:List Int),0<tlen ws→ws.getD (tlen ws-1) 0≠0
 | [],h=>by simp[tlen]at h
 | x::r,h=>by
  have ih:=tlen_top r;simp only[tlen]at h ⊢;split
  ·rename_i e
   rw[if_pos e]at h;omega
  ·rename_i e
   rcases Nat.eq_zero_or_pos (tlen r)with h0|h0
   ·rw[h0]
    simp
    intro hx;exact e ⟨h0,hx⟩
   ·rw[show tlen r+1-1=(tlen r-1)+1 by omega,List.getD_cons_succ]
    exact ih h0
theorem tlen_eq {ws:List Int}{k:Nat}(h:∀j,k≤j→ws.getD j 0=0)(h1:0<k→ws.getD (k-1) 0≠0):tlen ws=k:=by
 rcases Nat.lt_trichotomy (tlen ws) k with h2|h2|h2
 ·exact absurd (tlen_high ws (k-1) (by omega)) (h1 (by omega))
 ·exact h2
 ·exact absurd (h (tlen ws-1) (by omega)) (tlen_top ws (by omega))
theorem nv_trim (ws:List Int):nv (ws.take (tlen ws))=nv ws:=(nv_high (tlen_le ws) (tlen_high ws)).symm
theorem length_trim (ws:List Int):(ws.take (tlen ws)).length=tlen ws:=by rw[List.length_take,Nat.min_eq_left (tlen_le ws)]
theorem tlen_trim (ws:List Int):tlen (ws.take (tlen ws))=tlen ws:=by
 refine tlen_eq (fun j hj=>?_) fun h=>?_
 ·rw[getD0_take,if_neg (by omega)]
 ·rw[getD0_take,if_pos (by omega)]
  exact tlen_top ws h
theorem tlen_pos {ws:List Int}(h:AllW ws)(hk:0<tlen ws):(2:Int) ^ (32*(tlen ws-1))≤nv ws:=by
 have h1:=tlen_top ws hk;obtain⟨k,e⟩:∃k,tlen ws=k+1:=⟨tlen ws - 1,by omega⟩;rw[←nv_trim ws,e,nv_take_succ];rw[e]at h1;simp only[Nat.add_sub_cancel]at h1 ⊢;have h2:=nv_nonneg _ (h.take k);have h3:=(h.getD k).1;have h4:(2:Int) ^ (32*k)*1≤2 ^ (32*k)*ws.getD k 0:=Int.mul_le_mul_of_nonneg_left (by omega) (Int.le_of_lt (pow_pos' _));omega
theorem tlen_lt (ws:List Int)(h:AllW ws):nv ws<2 ^ (32*tlen ws):=by
 have:=nv_lt _ (h.take (tlen ws));rw[nv_trim,length_trim]at this;exact this
theorem nv_zero_iff {ws:List Int}(h:AllW ws):nv ws=0↔tlen ws=0:=by
 constructor
 ·intro e
  rcases Nat.eq_zero_or_pos (tlen ws)with h0|h0
  ·exact h0
  ·have:=tlen_pos h h0
   have:=pow_pos' (32*(tlen ws-1));omega
 ·intro e
  rw[←nv_trim ws,e];rfl
theorem pow32_lt {a b:Nat}(h:(2:Int) ^ (32*a)<2 ^ (32*b)):a<b:=by
 rcases Nat.lt_or_ge a b with h1|h1
 ·exact h1
 ·have:=pow_mono (32*b) (32*a) (by omega)
  omega
theorem tlen_bound {us:List Int}{k:Nat}(hu:AllW us)(h:nv us<2 ^ (32*k)):tlen us≤k:=by
 rcases Nat.lt_or_ge k (tlen us)with h1|h1
 ·have h2:=tlen_pos hu (by omega)
  have:=pow_mono (32*k) (32*(tlen us-1)) (by omega);omega
 ·exact h1
structure IsNat (v:Int) (ws:List Int):Prop where
 val:nv ws=v
 all:AllW ws
 trim:tlen ws=ws.length
theorem IsNat.of_trim {ws:List Int}(h:AllW ws):IsNat (nv ws) (ws.take (tlen ws)):=⟨nv_trim ws,h.take _,by rw[tlen_trim,length_trim]⟩
theorem IsNat.nonneg {v:Int}{us:List Int}(h:IsNat v us):0≤v:=by rw[←h.val];exact nv_nonneg _ h.all
theorem IsNat.le {v:Int}{us:List Int}{k:Nat}(h:IsNat v us)(hv:v<2 ^ (32*k)):us.length≤k:=by
 rw[←h.trim];exact tlen_bound h.all (by rw[h.val];exact hv)
theorem IsNat.nil:IsNat 0 []:=⟨rfl,AllW.nil,rfl⟩
theorem IsNat.pos {v:Int}{us:List Int}(h:IsNat v us)(hl:us.length≠0):0<v:=by
 have:=(nv_zero_iff h.all).2;have h1:=h.trim;have h2:=h.nonneg;have h3:v≠0:=fun e=>hl (by rw[←h1];exact(nv_zero_iff h.all).1 (by rw[h.val,e]));omega
def Rn (w:World)(A:Option Addr)(ws:List Int):Prop:=
 ws=[]∨∃g off,A=some ⟨g,off,none⟩∧g<w.heap.size∧∀i x,ws[i]? = some x→w.cell? ⟨g,off+i,none⟩=some (.int .u32 x)
theorem Rn.below {w w':World}{A:Option Addr}{ws:List Int}{B:Nat}(h:Rn w A ws)(hb:Below B w w')(hB:w.heap.size≤B):Rn w' A ws:=by
 rcases h with h|⟨g,off,e,hg,hc⟩
 ·exact .inl h
 ·exact .inr ⟨g,off,e,Nat.lt_of_lt_of_le hg hb.size,fun i b hi=>(hb.cell (p:=⟨g,off+i,none⟩) (by show g<B;omega)).trans (hc i b hi)⟩
theorem Rn.alloc {w:World}{A:Option Addr}{ws:List Int}(h:Rn w A ws)(o:Obj):Rn (w.alloc o) A ws:=h.below (bel_alloc (Below.refl _ _) o) (Nat.le_refl _)
theorem Rn.drew {w:World}{A:Option Addr}{ws:List Int}(h:Rn w A ws):Rn w.drew A ws:=h
theorem Rn.at_ {w:World}{A:Option Addr}{ws:List Int}(h:Rn w A ws){i:Nat}(hi:i<ws.length):∃g off,A=some ⟨g,off,none⟩∧g<w.heap.size∧w.cell? ⟨g,off+i,none⟩=some (.int .u32 (ws.getD i 0)):=by
 rcases h with h|⟨g,off,e,hg,hc⟩
 ·subst h;simp at hi
 ·exact⟨g,off,e,hg,hc i _ (by rw[List.getD_eq_getElem?_getD,List.getElem?_eq_getElem hi];rfl)⟩
theorem Rn.cell {w:World}{g off:Nat}{ws:List Int}(h:Rn w (some ⟨g,off,none⟩) ws){i:Nat}(hi:i<ws.length):w.cell? ⟨g,off+i,none⟩=some (.int .u32 (ws.getD i 0)):=by
 obtain⟨g',off',e,_,hc⟩:=h.at_ hi;injection e with e;injection e with e1 e2;subst e1 e2;exact hc
theorem Rn.take {w:World}{A:Option Addr}{ws:List Int}(h:Rn w A ws)(k:Nat):Rn w A (ws.take k):=by
 rcases h with h|⟨g,off,e,hg,hc⟩
 ·subst h;exact .inl (by simp)
 ·refine .inr ⟨g,off,e,hg,fun i b hi=>hc i b ?_⟩
  rw[List.getElem?_take]at hi
  split at hi
  ·exact hi
  ·cases hi
theorem Rn.dropAt {w:World}{g off:Nat}{ws:List Int}(h:Rn w (some ⟨g,off,none⟩) ws)(k:Nat):Rn w (some ⟨g,off+k,none⟩) (ws.drop k):=by
 rcases h with h|⟨g',off',e,hg,hc⟩
 ·subst h;exact .inl (by simp)
 ·injection e with e
  injection e with e1 e2;subst e1 e2;refine .inr ⟨_,_,rfl,hg,fun i b hi=>?_⟩;rw[List.getElem?_drop]at hi;rw[Nat.add_assoc];exact hc _ b hi
theorem Rn.far {w:World}{A:Option Addr}{ws:List Int}(h:Rn w A ws){p:Addr}(hp:∀a,A=some a→p.block≠a.block)(u:Value):Rn (w.setCell p u) A ws:=by
 rcases h with h|⟨g,off,e,hg,hc⟩
 ·exact .inl h
 ·refine .inr ⟨g,off,e,by simpa [World.setCell] using hg,fun i b hi=>?_⟩
  rw[World.cell?_setCell_other w p ⟨g,off+i,none⟩ u (fun e2=>hp _ e (by rw[e2]))];exact hc i b hi
def RetN (v:Int)(w:World)(e:Ending)(w':World):Prop:=
 ∃(ws:List Int) (A:Option Addr) (n c:Nat),IsNat v ws∧ws.length=n∧e=.returned (.slice A n c)∧n≤c∧Rn w' A ws∧(∀a,A=some a→w.heap.size≤a.block)∧Below w.heap.size w w'
def wordArr (ws:List Int):Array Value:=(ws.map (Value.int .u32)).toArray
theorem wordArr_set (ws:List Int)(i:Nat)(x:Int):(wordArr ws).setIfInBounds i (.int .u32 x)=wordArr (ws.set i x):=by
 simp[wordArr,List.map_set]
theorem wordArr_get (ws:List Int)(i:Nat)(h:i<ws.length):(wordArr ws)[i]? = some (.int .u32 (ws.getD i 0)):=by
 unfold wordArr;rw[List.getElem?_toArray,List.getElem?_map,List.getD_eq_getElem?_getD,List.getElem?_eq_getElem h];rfl
theorem wordArr_made (n:Nat):madeCells #[Value.int .u32 0] n=wordArr (List.replicate n 0):=by
 apply Array.ext';rw[toList_madeCells_one]
 simp[wordArr]
theorem Blk.words {w:World}{g:Nat}{ws:List Int}(h:Blk w g 170 (wordArr ws)):Rn w (some ⟨g,0,none⟩) ws:=by
 refine .inr ⟨g,0,rfl,h.lt,fun i b hi=>?_⟩
 have hl:i<ws.length:=by
  rcases Nat.lt_or_ge i ws.length with h|h
  ·exact h
  ·rw[List.getElem?_eq_none h]at hi;cases hi
 rw[h.cell (0+i),Nat.zero_add,wordArr_get ws i hl,List.getD_eq_getElem?_getD,hi];rfl
theorem Blk.word {w:World}{g:Nat}{ws:List Int}(h:Blk w g 170 (wordArr ws)){i:Nat}(hi:i<ws.length):w.cell? ⟨g,i,none⟩=some (.int .u32 (ws.getD i 0)):=(h.cell i).trans (wordArr_get ws i hi)
theorem u32_info:(Tryz.prog.info? 170).map (fun i=>(i.zero,i.size,i.bytes))=some (some (.int .u32 0),1,4):=by kernel_rfl
theorem run_make_nat (N:Int)(n:Nat)(hN:N=(n:Int))(hn:n≤1099511627776)(rs:List Int)(hr:rs=List.replicate n 0)(w:World) :
  (Instr.makeSlice 229 (.int .i64 N) (.int .i64 N)).run Tryz.prog w=.ok (.slice (some ⟨w.heap.size,0,none⟩) n n) (w.alloc (.cells (wordArr rs) 170)):=by
 obtain⟨i0,hi,hz0,hz1,hz2⟩:=info_parts u32_info;subst hN hr;have h:=run_make (P:=Tryz.prog) w 229 170 i0 (.int .u32 0) Tryz.underlying229 hi hz0 .i64 .i64 (n:Int) (n:Int) (by omega) (by omega) (by rw[hz2];omega) (by omega);rw[Int.toNat_natCast,hz1,Nat.mul_one]at h;rw[←wordArr_made];exact h
end Go.Proofs.YthmlhkllbichgaaGreatDoor
