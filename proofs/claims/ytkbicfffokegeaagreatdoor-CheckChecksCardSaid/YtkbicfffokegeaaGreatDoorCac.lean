/-
  Whatever program is handed in, CheckChecks answers true. (part 3 of 38) Conditions: none beside what the card ties.
-/
import Derived.Test.YtkbicfffokegeaaGreatDoorCab
import Derived.Laws.CopyOwn
namespace Go.Proofs.YtkbicfffokegeaaGreatDoor
set_option maxHeartbeats 16000000
open Go.RowKit
set_option maxRecDepth 100000
inductive Ck (α:Type) where
 | ok (a:α)
 | no (e p:Int)
def Ck.bind {α β:Type}(r:Ck α)(f:α→Ck β):Ck β:=
 match r with
 | .ok a=>f a
 | .no e p=>.no e p
def Ck.er {α:Type}:Ck α→Int
 | .ok _=>0
 | .no e _=>e
def Ck.pl {α:Type}:Ck α→Int
 | .ok _=>0
 | .no _ p=>p
def Ck.va {α:Type}(d:α):Ck α→α
 | .ok a=>a
 | .no _ _=>d
structure Sc where
 n:Nat
 d:Nat→De
 loops:List (List UInt8)
 init:Bool
def fd (d:Nat→De)(x:List UInt8):Nat→Option Nat
 | 0=>none
 | n+1=>match fd d x n with
  | some i=>some i
  | none=>if(d n).nm=x then some n else none
theorem zM {d:Nat→De}{x:List UInt8}{n i:Nat}(h:fd d x n=some i):i<n∧(d i).nm=x∧∀j,j<i→(d j).nm≠x:=by
 induction n with
 | zero=>cases h
 | succ n ih=>
  simp only[fd]at h
  cases hn:fd d x n with
  | some k=>
   rw[hn]at h;cases h;obtain⟨h1,h2,h3⟩:=ih hn;exact⟨by omega,h2,h3⟩
  | none=>
   rw[hn]at h
   by_cases c:(d n).nm=x
   ·simp only[c,if_true]at h
    cases h;refine⟨by omega,c,fun j hj e=>?_⟩;clear ih c
    have:∀m,j<m→fd d x m≠none:=by
     intro m
     induction m with
     | zero=>intro hm;omega
     | succ m im=>
      intro hm;simp only[fd]
      cases hm':fd d x m with
      | some k=>simp
      | none=>
       rcases Nat.lt_succ_iff_lt_or_eq.1 hm with h4|rfl
       ·exact absurd hm' (im h4)
       ·simp[e]
    exact this _ hj hn
   ·simp[c]at h
def Sc.find (S:Sc)(x:List UInt8):Option Nat:=fd S.d x S.n
def gB (t:Int):Bool:=t == 2 || t == 3
def bM (op:Int):List Int→Int
 | []=>if op=1 then 1 else if op=2 then 2 else if op=3 then 3 else 0
 | [a]=>if(op=17∨op=21)∧gB a=true then a else if op=18∧a=1 then 1 else if op=19∧a=3 then 2 else if op=20∧a=2 then 3 else 0
 | [a,b]=>if b≠a then 0 else if(5≤op∧op≤8)∧gB a=true then a else if(op=9∨op=10∨op=13∨op=14)∧gB a=true then 1 else if op=11∨op=12 then 1 else if(op=15∨op=16)∧a=1 then 1 else 0
 | _=>0
def cks (f:Nat→Ck Int):Nat→Ck (List Int)
 | 0=>.ok []
 | n+1=>(cks f n).bind fun l=>(f n).bind fun t=>.ok (l++[t])
def aBT (f:Int):Bool:=decide (f % 9223372036854775808<9218868437227405312)
def Sc.look (S:Sc)(x:List UInt8)(p:Int):Ck (Int×Int):=
 if x∈S.loops then .ok (2,0) else
 match S.find x with
 | none=>.no 120 p
 | some i=>if S.init=true∧(S.d i).inp=true then .no 124 p else .ok ((S.d i).ty,(S.d i).len)
def mP (t long:Int)(n:Nat)(p:Int)(a:Ck Int):Ck Int:=
 if 0<long then(if n=1 then a.bind fun u=>if u=2 then .ok t else .no 122 p else .no 125 p)
 else if n=0 then .ok t else .no 125 p
def Ex.ck (S:Sc):Ex→Ck Int
 | .no=>.no 122 0
 | .mk h k=>
  if h.op=4 then(S.look h.nm h.ps).bind fun tl=>mP tl.1 tl.2 h.s.n h.ps ((k 0).ck S)
  else(cks (fun i=>(k i).ck S) h.s.n).bind fun l=>if bM h.op l=0 then .no 122 h.ps else if h.op=3∧aBT h.fl=false then .no 123 h.ps else .ok (bM h.op l)
theorem Ex.ck_eq (S:Sc)(e:Ex):e.ck S=if e.h.op=4 then(S.look e.h.nm e.h.ps).bind fun tl=>mP tl.1 tl.2 e.h.s.n e.h.ps ((e.k 0).ck S)
  else(cks (fun i=>(e.k i).ck S) e.h.s.n).bind fun l=>if bM e.h.op l=0 then .no 122 e.h.ps else if e.h.op=3∧aBT e.h.fl=false then .no 123 e.h.ps else .ok (bM e.h.op l):=by
 cases e with
 | no=>simp[Ex.ck,Ex.h,aP,cks,Ck.bind,bM]
 | mk h k=>rfl
def cP (f:Nat→Ck Unit):Nat→Ck Unit
 | 0=>.ok ()
 | n+1=>(cP f n).bind fun _=>f n
def Sc.inner (S:Sc)(x:List UInt8):Sc:=⟨S.n,S.d,S.loops++[x],S.init⟩
def dC (c:Bool)(e p:Int):Ck Unit:=if c then .ok ()else .no e p
def lQ (S:Sc)(h:SH)(x:Nat→Ex)(e:Ex):Ck Unit:=
 if h.nm∈S.loops then .no 124 h.ps else
 match S.find h.nm with
 | none=>.no 120 h.ps
 | some i=>
  if(S.d i).inp=true then .no 124 h.ps
  else if(0<(S.d i).len∧h.xs.n≠1)∨(¬0<(S.d i).len∧h.xs.n≠0)then .no 125 h.ps
  else(if 0<(S.d i).len then((x 0).ck S).bind fun t=>dC (t == 2) 122 (x 0).h.ps else .ok ()).bind fun _=>
   (e.ck S).bind fun t=>dC (t == (S.d i).ty) 122 e.h.ps
def St.ck (nam:List UInt8→Bool):St→Sc→Ck Unit
 | .no,_=>.no 122 0
 | .mk h x e t l,S=>
  if h.kd=1 then lQ S h x e
  else if h.kd=2 then(e.ck S).bind fun ty=>(dC (ty == 1) 122 e.h.ps).bind fun _=>(cP (fun i=>(t i).ck nam S) h.ts.n).bind fun _=>cP (fun i=>(l i).ck nam S) h.es.n
  else if h.kd=3 then
   (if nam h.nm=false then .no 120 h.ps
   else if(S.find h.nm).isSome=true∨h.nm∈S.loops then .no 121 h.ps
   else if 16≤h.hi-h.lo∨2≤S.loops.length then .no 123 h.ps
   else cP (fun i=>(t i).ck nam (S.inner h.nm)) h.ts.n)
  else .no 122 h.ps
theorem St.ck_eq (nam:List UInt8→Bool)(s:St)(S:Sc):s.ck nam S =
  if s.h.kd=1 then lQ S s.h s.x s.e
  else if s.h.kd=2 then(s.e.ck S).bind fun ty=>(dC (ty == 1) 122 s.e.h.ps).bind fun _=>(cP (fun i=>(s.t i).ck nam S) s.h.ts.n).bind fun _=>cP (fun i=>(s.l i).ck nam S) s.h.es.n
  else if s.h.kd=3 then
   (if nam s.h.nm=false then .no 120 s.h.ps
   else if(S.find s.h.nm).isSome=true∨s.h.nm∈S.loops then .no 121 s.h.ps
   else if 16≤s.h.hi-s.h.lo∨2≤S.loops.length then .no 123 s.h.ps
   else cP (fun i=>(s.t i).ck nam (S.inner s.h.nm)) s.h.ts.n)
  else .no 122 s.h.ps:=by
 cases s with
 | no=>simp[St.ck,St.h,cG]
 | mk=>rfl
def De.cells (d:De):Int:=if d.inp=false∧0<d.len then d.len else 1
def deC (nam:List UInt8→Bool)(ran:De→Bool)(d:Nat→De)(i:Nat)(c:Int):Ck Int:=
 if nam (d i).nm=false then .no 120 (d i).ps
 else if(fd d (d i).nm i).isSome=true then .no 121 (d i).ps
 else if ¬(1≤(d i).ty∧(d i).ty≤3)then .no 122 (d i).ps
 else if ran (d i)=false then .no 123 (d i).ps
 else if 96<c+(d i).cells then .no 123 (d i).ps
 else .ok (c+(d i).cells)
def gV (nam:List UInt8→Bool)(ran:De→Bool)(d:Nat→De):Nat→Ck Int
 | 0=>.ok 0
 | n+1=>(gV nam ran d n).bind fun c=>deC nam ran d n c
def Pr.ck (nam:List UInt8→Bool)(ran:De→Bool)(p:Pr):Ck Unit:=
 if ¬(1≤p.ticks∧p.ticks≤2147483647)then .no 123 0
 else(gV nam ran p.d p.ds.n).bind fun _=>(cP (fun i=>(p.i i).ck nam ⟨p.ds.n,p.d,[],true⟩) p.is.n).bind fun _=>cP (fun i=>(p.s i).ck nam ⟨p.ds.n,p.d,[],false⟩) p.ss.n
theorem aIG {f:Nat→Ck Int}{n:Nat}{l:List Int}(h:cks f n=.ok l):l.length=n∧∀i,i<n→f i=.ok (l.getD i 0):=by
 induction n generalizing l with
 | zero=>cases h;exact⟨rfl,fun i hi=>absurd hi (Nat.not_lt_zero i)⟩
 | succ n ih=>
  simp only[cks]at h
  cases h1:cks f n with
  | no e p=>rw[h1]at h;cases h
  | ok m=>
   rw[h1]at h
   cases h2:f n with
   | no e p=>simp only[Ck.bind,h2]at h;cases h
   | ok t=>
    simp only[Ck.bind,h2]at h;cases h;obtain⟨g1,g2⟩:=ih h1;refine⟨by simp[g1],fun i hi=>?_⟩;rcases Nat.lt_succ_iff_lt_or_eq.1 hi with h4|rfl
    ·rw[g2 i h4,List.getD_eq_getElem?_getD,List.getD_eq_getElem?_getD,List.getElem?_append_left (by omega)]
    ·rw[h2,List.getD_eq_getElem?_getD,List.getElem?_append_right (by omega)]
     simp[g1]
theorem aCf {f:Nat→Ck Int}{j:Nat}{e p:Int}(h1:f j=.no e p){l:List Int}(h2:cks f j=.ok l):∀n,j<n→cks f n=.no e p:=by
 intro n
 induction n with
 | zero=>intro h;omega
 | succ n ih=>
  intro h;rcases Nat.lt_succ_iff_lt_or_eq.1 h with h4|rfl
  ·simp only[cks,ih h4,Ck.bind]
  ·simp only[cks,h2,Ck.bind,h1]
theorem yT {f:Nat→Ck Unit}{j:Nat}{e p:Int}(h1:f j=.no e p)(h2:cP f j=.ok ()):∀n,j<n→cP f n=.no e p:=by
 intro n
 induction n with
 | zero=>intro h;omega
 | succ n ih=>
  intro h;rcases Nat.lt_succ_iff_lt_or_eq.1 h with h4|rfl
  ·simp only[cP,ih h4,Ck.bind]
  ·simp only[cP,h2,Ck.bind,h1]
theorem zP {nam:List UInt8→Bool}{ran:De→Bool}{d:Nat→De}{j:Nat}{c e p:Int}(h1:deC nam ran d j c=.no e p)(h2:gV nam ran d j=.ok c):∀n,j<n→gV nam ran d n=.no e p:=by
 intro n
 induction n with
 | zero=>intro h;omega
 | succ n ih=>
  intro h;rcases Nat.lt_succ_iff_lt_or_eq.1 h with h4|rfl
  ·simp only[gV,ih h4,Ck.bind]
  ·simp only[gV,h2,Ck.bind,h1]
def fS (f:Int):Bool:=decide (9223372036854775808≤f)
def fE (f:Int):Int:=f / 4503599627370496 % 2048
def fM (f:Int):Int:=f % 4503599627370496
def fC (f:Int):Int:=if fE f=2047 then(if fM f=0 then 3 else 4)else if fE f=0 then(if fM f=0 then 0 else 1)else 2
theorem aNi {f:Int}(h:bC f):bits BinOp.and IntKind.u64 f 9223372036854775808=if 9223372036854775808≤f then 9223372036854775808 else 0:=by
 obtain⟨h0,h1⟩:=h;obtain⟨k,rfl⟩:=Int.eq_ofNat_of_zero_le h0;have:=bits_and_u64_nat k 9223372036854775808 (by omega) (by omega);refine this.trans ?_
 have e:k &&& 2 ^ 63=2 ^ 63*(k / 2 ^ 63 % 2):=by
  apply Nat.eq_of_testBit_eq;intro i;rw[Nat.testBit_and,Nat.testBit_two_pow,Nat.testBit_two_pow_mul]
  by_cases hi:i=63
  ·subst hi;simp[Nat.testBit_eq_decide_div_mod_eq]
  ·by_cases h2:63≤i
   ·have:k / 2 ^ 63 % 2<2 ^ (i-63):=aE (Nat.mod_lt _ (by decide)) (by
     have:=Nat.pow_le_pow_right (n:=2) (by decide) (show 1≤i-63 by omega)
     omega)
    rw[Nat.testBit_lt_two_pow this,decide_eq_false (show ¬63=i by omega),Bool.and_false,Bool.and_false]
   ·rw[decide_eq_false (show ¬63=i by omega),decide_eq_false (show ¬i≥63 by omega),Bool.and_false,Bool.false_and]
 rw[show(9223372036854775808:Nat)=2 ^ 63 by decide,e]
 split<;>omega
theorem aIT {f:Int}(h:bC f):bits BinOp.and IntKind.u64 f 4503599627370495=f % 4503599627370496:=by
 obtain⟨h0,h1⟩:=h;obtain⟨k,rfl⟩:=Int.eq_ofNat_of_zero_le h0;refine(bits_and_u64_nat k 4503599627370495 (by omega) (by omega)).trans ?_;rw[show(4503599627370495:Nat)=2 ^ 52-1 by decide,Nat.and_two_pow_sub_one_eq_mod];omega
theorem aKA {f:Int}(h:bC f):bits BinOp.and IntKind.u64 f 2047=f % 2048:=by
 obtain⟨h0,h1⟩:=h;obtain⟨k,rfl⟩:=Int.eq_ofNat_of_zero_le h0;refine(bits_and_u64_nat k 2047 (by omega) (by omega)).trans ?_;rw[show(2047:Nat)=2 ^ 11-1 by decide,Nat.and_two_pow_sub_one_eq_mod];omega
theorem aMP {f:Int}(h0:0≤f)(h1:f<9223372036854775808):bits BinOp.or IntKind.u64 f 9223372036854775808=f+9223372036854775808:=by
 obtain⟨k,rfl⟩:=Int.eq_ofNat_of_zero_le h0;refine(bits_or_u64_nat k 9223372036854775808 (by omega) (by omega)).trans ?_;have:=Nat.two_pow_add_eq_or_of_lt (i:=63) (b:=k) (by omega) 1;rw[Nat.or_comm,show(9223372036854775808:Nat)=2 ^ 63*1 by decide,←this];omega
theorem aNA {e m:Int}(h0:0≤e)(h1:e<4096)(h2:0≤m)(h3:m<4503599627370496):bits BinOp.or IntKind.u64 (e*4503599627370496) m=e*4503599627370496+m:=by
 obtain⟨k,rfl⟩:=Int.eq_ofNat_of_zero_le h0;obtain⟨j,rfl⟩:=Int.eq_ofNat_of_zero_le h2;have:=bits_or_u64_nat (k*4503599627370496) j (by omega) (by omega);rw[Int.natCast_mul]at this;refine this.trans ?_;have e2:=Nat.two_pow_add_eq_or_of_lt (i:=52) (b:=j) (by omega) k;rw[show k*4503599627370496=2 ^ 52*k by omega,←e2];omega
theorem aLU {f:Int}(h:bC f):bits BinOp.andNot IntKind.u64 f 9223372036854775808=f % 9223372036854775808:=by
 obtain⟨h0,h1⟩:=h;obtain⟨k,rfl⟩:=Int.eq_ofNat_of_zero_le h0
 have hk:(BitVec.ofInt 64 (k:Int)).toNat=k:=by
  rw[BitVec.ofInt_natCast,BitVec.toNat_ofNat];exact Nat.mod_eq_of_lt (by omega)
 show IntKind.u64.wrap ((BitVec.ofInt 64 (k:Int) &&& ~~~ BitVec.ofInt 64 (9223372036854775808:Int)).toNat:Int)=_;rw[BitVec.toNat_and,hk,show(~~~ BitVec.ofInt 64 (9223372036854775808:Int)).toNat=2 ^ 63-1 by decide,Nat.and_two_pow_sub_one_eq_mod,IntKind.wrap_u64];omega
theorem aBn {f:Int}(h:bC f):(bits BinOp.and IntKind.u64 f 9223372036854775808 != 0)=fS f:=by
 rw[aNi h];unfold fS
 split<;>rename_i h1
 ·rw[decide_eq_true h1];rfl
 ·rw[decide_eq_false h1];rfl
theorem wX {f:Int}:0≤fE f∧fE f<2048:=by unfold fE;omega
theorem aAC {f:Int}:0≤fM f∧fM f<4503599627370496:=by unfold fM;omega
theorem aBf {f:Int}(h:bC f):bC (f / 4503599627370496):=by obtain⟨h0,h1⟩:=h;constructor<;>omega
theorem wrap64_in {a:Int}(h0:-9223372036854775808≤a)(h1:a≤9223372036854775807):wrap64 a=a:=IntWalk.wrap64_in a ⟨h0,h1⟩
theorem aIq {f:Int}(h:bC f):wrap64 (bits BinOp.and IntKind.u64 (f / 4503599627370496) 2047)=fE f:=by
 have:=wX (f:=f);rw[aKA (aBf h)];exact wrap64_in (a:=fE f) (by omega) (by omega)
theorem lH (f:Int)(hf:bC f)(w:World):Calls Tryz.prog 92 #[.int .u64 f] w fun e w'=>e=.returned (.tuple #[.bool (fS f),.int .i64 (fE f),.int .u64 (fM f)])∧w=w':=by
 go_enter Tryz.func92,Tryz.ntmps92;go_wp2_with fail;rw[aBn hf,aIq hf,aIT hf]
 go_ret3
 exact⟨rfl,rfl⟩
theorem aIE (f:Int):0≤fC f∧fC f≤4:=by unfold fC;split<;>split<;>omega
theorem aIp {f:Int}(h1:fE f=2047)(h2:fM f=0):fC f=3:=by simp[fC,h1,h2]
theorem aIo {f:Int}(h1:fE f=2047)(h2:fM f≠0):fC f=4:=by simp[fC,h1,h2]
theorem aEB {f:Int}(h1:fE f=0)(h2:fM f=0):fC f=0:=by simp[fC,h1,h2]
theorem aIn {f:Int}(h1:fE f=0)(h2:fM f≠0):fC f=1:=by simp[fC,h1,h2]
theorem aEC {f:Int}(h1:fE f≠2047)(h2:fE f≠0):fC f=2:=by simp[fC,h1,h2]
theorem sQ (f:Int)(hf:bC f)(w:World):Calls Tryz.prog 77 #[.int .u64 f] w fun e w'=>e=.returned (.int .u8 (fC f))∧w=w':=by
 by_cases h1:fE f=2047
 ·by_cases h2:fM f=0
  ·skip
   have HC:=Hj (aIp h1 h2);go_enter Tryz.func77,Tryz.ntmps77;go_wp2_with fail;refine(lH f hf _).mono ?_;rintro e w1 ⟨rfl,rfl⟩;rw[h1,h2];go_wp2_with fail;go_ret;exact⟨aW HC.out.symm,rfl⟩
  ·skip
   have HC:=Hj (aIo h1 h2);go_enter Tryz.func77,Tryz.ntmps77;go_wp2_with fail;refine(lH f hf _).mono ?_;rintro e w1 ⟨rfl,rfl⟩;rw[h1];go_wp2_with fail;go_ret;exact⟨aW HC.out.symm,rfl⟩
 ·by_cases h3:fE f=0
  ·by_cases h2:fM f=0
   ·skip
    have HC:=Hj (aEB h3 h2);go_enter Tryz.func77,Tryz.ntmps77;go_wp2_with fail;refine(lH f hf _).mono ?_;rintro e w1 ⟨rfl,rfl⟩;rw[h3,h2];go_wp2_with fail;go_ret;exact⟨aW HC.out.symm,rfl⟩
   ·skip
    have HC:=Hj (aIn h3 h2);go_enter Tryz.func77,Tryz.ntmps77;go_wp2_with fail;refine(lH f hf _).mono ?_;rintro e w1 ⟨rfl,rfl⟩;rw[h3];go_wp2_with fail;go_ret;exact⟨aW HC.out.symm,rfl⟩
  ·skip
   have HC:=Hj (aEC h1 h3);go_enter Tryz.func77,Tryz.ntmps77;go_wp2_with fail;refine(lH f hf _).mono ?_;rintro e w1 ⟨rfl,rfl⟩;go_wp2_with fail;go_ret;exact⟨aW HC.out.symm,rfl⟩
theorem aBh {f c:Int}(h:bC f)(hc:0<c):IntKind.u64.wrap (f.tdiv c)=f / c:=by
 obtain⟨h0,h1⟩:=h;rw[Int.tdiv_eq_ediv_of_nonneg h0];have h2:0≤f / c:=Int.ediv_nonneg h0 (by omega);have h3:f / c≤f:=Int.ediv_le_self c h0;exact IntWalk.u64_in _ ⟨h2,by omega⟩
theorem aIb {f:Int}(h:bC f):(IntKind.u64.wrap (f.tdiv 9223372036854775808) == 1)=fS f:=by
 rw[aBh h (by decide)];obtain⟨h0,h1⟩:=h;unfold fS
 by_cases h2:9223372036854775808≤f
 ·rw[decide_eq_true h2,show f / 9223372036854775808=1 by omega];rfl
 ·rw[decide_eq_false h2,show f / 9223372036854775808=0 by omega];rfl
theorem aKe {f:Int}(h:bC f):wrap64 ((IntKind.u64.wrap (f.tdiv 4503599627370496)).tmod 2048)=fE f:=by
 have:=wX (f:=f);rw[aBh h (by decide),Int.tmod_eq_emod_of_nonneg (aBf h).1];exact wrap64_in (a:=fE f) (by omega) (by omega)
theorem gC (f:Int)(hf:bC f)(w:World):Calls Tryz.prog 91 #[.int .u64 f] w fun e w'=>e=.returned (.tuple #[.bool (fS f),.int .i64 (fE f),.int .u64 (fM f)])∧w=w':=by
 go_enter Tryz.func91,Tryz.ntmps91;go_wp2_with fail;rw[aIb hf,aKe hf,Int.tmod_eq_emod_of_nonneg hf.1]
 go_ret3
 exact⟨rfl,rfl⟩
theorem dN (f:Int)(hf:bC f)(w:World):Calls Tryz.prog 67 #[.int .u64 f] w fun e w'=>e=.returned (.int .u8 (fC f))∧w=w':=by
 by_cases h1:fE f=2047
 ·by_cases h2:fM f=0
  ·skip
   have HC:=Hj (aIp h1 h2);go_enter Tryz.func67,Tryz.ntmps67;go_wp2_with fail;refine(gC f hf _).mono ?_;rintro e w1 ⟨rfl,rfl⟩;rw[h1,h2];go_wp2_with fail;go_ret;exact⟨aW HC.out.symm,rfl⟩
  ·skip
   have HC:=Hj (aIo h1 h2);go_enter Tryz.func67,Tryz.ntmps67;go_wp2_with fail;refine(gC f hf _).mono ?_;rintro e w1 ⟨rfl,rfl⟩;rw[h1];go_wp2_with fail;go_ret;exact⟨aW HC.out.symm,rfl⟩
 ·by_cases h3:fE f=0
  ·by_cases h2:fM f=0
   ·skip
    have HC:=Hj (aEB h3 h2);go_enter Tryz.func67,Tryz.ntmps67;go_wp2_with fail;refine(gC f hf _).mono ?_;rintro e w1 ⟨rfl,rfl⟩;rw[h3,h2];go_wp2_with fail;go_ret;exact⟨aW HC.out.symm,rfl⟩
   ·skip
    have HC:=Hj (aIn h3 h2);go_enter Tryz.func67,Tryz.ntmps67;go_wp2_with fail;refine(gC f hf _).mono ?_;rintro e w1 ⟨rfl,rfl⟩;rw[h3];go_wp2_with fail;go_ret;exact⟨aW HC.out.symm,rfl⟩
  ·skip
   have HC:=Hj (aEC h1 h3);go_enter Tryz.func67,Tryz.ntmps67;go_wp2_with fail;refine(gC f hf _).mono ?_;rintro e w1 ⟨rfl,rfl⟩;go_wp2_with fail;go_ret;exact⟨aW HC.out.symm,rfl⟩
def sg (s:Bool):Int:=if s then 9223372036854775808 else 0
theorem aKL (s:Bool):0≤sg s∧sg s≤9223372036854775808:=by cases s<;>decide
theorem pX (s:Bool)(f:Int)(h0:0≤f)(h1:f<9223372036854775808)(w:World):Calls Tryz.prog 208 #[.bool s,.int .u64 f] w fun e w'=>e=.returned (.int .u64 (f+sg s))∧w=w':=by
 cases s
 ·go_enter Tryz.func208,Tryz.ntmps208
  go_wp2_with fail;go_ret;exact⟨aW (by simp[sg]),rfl⟩
 ·go_enter Tryz.func208,Tryz.ntmps208
  go_wp2_with fail;rw[aMP h0 h1];go_ret;exact⟨aW (by simp[sg]),rfl⟩
def mkF (s:Bool)(e m:Int):Int:=e*4503599627370496+m+sg s
def aDn (e m:Int):Prop:=0≤e∧e<2048∧m<4503599627370496
instance (e m:Int):Decidable (aDn e m):=by unfold aDn;infer_instance
theorem aFv (s:Bool)(e m:Int)(hm:bC m)(h:aDn e m)(w:World):Calls Tryz.prog 183 #[.bool s,.int .i64 e,.int .u64 m] w fun x w'=>x=.returned (.tuple #[.int .u64 (mkF s e m),.int .i64 0])∧w=w':=by
 obtain⟨h1,h2,h3⟩:=h;obtain⟨m0,m1⟩:=hm;have o:=aNA (e:=e) (m:=m) h1 (by omega) m0 h3;have HO:=Hj o;clear o;go_enter Tryz.func183,Tryz.ntmps183;go_wp2_with fail;rw[HO.out];refine(pX s _ (by omega) (by omega) _).mono ?_;rintro x w1 ⟨rfl,rfl⟩;go_wp2_with fail
 go_ret2
 exact⟨rfl,rfl⟩
theorem oC (s:Bool)(e m:Int)(hm:bC m)(h:aDn e m)(w:World):Calls Tryz.prog 134 #[.bool s,.int .i64 e,.int .u64 m] w fun x w'=>x=.returned (.int .u64 (mkF s e m))∧w=w':=by
 obtain⟨h1,h2,h3⟩:=h;obtain⟨m0,m1⟩:=hm;cases s
 iterate 2
  ·go_enter Tryz.func134,Tryz.ntmps134
   go_wp2_with fail;go_ret;exact⟨aW (by simp[mkF,sg]),rfl⟩
theorem lJ (f:Int)(hf:bC f)(w:World):Calls Tryz.prog 131 #[.int .u64 f] w fun x w'=>x=.returned (.bool (decide (fC f=4)))∧w=w':=by
 go_enter Tryz.func131,Tryz.ntmps131;go_wp2_with fail;refine(sQ f hf _).mono ?_;rintro e w1 ⟨rfl,rfl⟩;go_wp2_with fail;go_ret;exact⟨bD (by by_cases h:fC f=4<;>simp[h]),rfl⟩
theorem tR (f:Int)(hf:bC f)(w:World):Calls Tryz.prog 66 #[.int .u64 f] w fun x w'=>x=.returned (.bool (decide (fC f<3)))∧w=w':=by
 have cb:=aIE f;go_enter Tryz.func66,Tryz.ntmps66;go_wp2_with fail;refine(dN f hf _).mono ?_;rintro e w1 ⟨rfl,rfl⟩
 by_cases h3:fC f=3
 ·have HD:Hid (false=decide (fC f<3)):=by show _=_;rw[decide_eq_false (by omega)]
  rw[h3];go_wp2_with fail;go_ret;exact⟨bD HD.out,rfl⟩
 ·by_cases h4:fC f=4
  ·have HD:Hid (false=decide (fC f<3)):=by show _=_;rw[decide_eq_false (by omega)]
   rw[h4];go_wp2_with fail;go_ret;exact⟨bD HD.out,rfl⟩
  ·have HD:Hid (true=decide (fC f<3)):=by show _=_;rw[decide_eq_true (by omega)]
   go_wp2_with fail;go_ret;exact⟨bD (by rw[←HD.out];simp[h3,h4]),rfl⟩
def fK (f:Int):Int:=if fS f then -(f % 9223372036854775808)else f % 9223372036854775808
theorem aKS {f:Int}(hf:bC f):fE f*4503599627370496+fM f=f % 9223372036854775808:=by
 obtain⟨h0,h1⟩:=hf;unfold fE fM;omega
theorem aBy (f:Int)(hf:bC f)(w:World):Calls Tryz.prog 133 #[.int .u64 f] w fun x w'=>x=.returned (.int .i64 (fK f))∧w=w':=by
 have HS:=aBn hf;have HN:=aLU hf;have b0:0≤f % 9223372036854775808:=by omega
 have b1:f % 9223372036854775808<9223372036854775808:=by omega
 by_cases h:fS f=true
 ·have HK:Hid (-(f % 9223372036854775808)=fK f):=by show _=_;simp[fK,h]
  rw[h]at HS;generalize f % 9223372036854775808=z at *;clear h;go_enter Tryz.func133,Tryz.ntmps133;go_wp2_with fail;go_ret;exact⟨aW HK.out,rfl⟩
 ·have HK:Hid (f % 9223372036854775808=fK f):=by show _=_;simp[fK,h]
  rw[Bool.not_eq_true]at h;rw[h]at HS;generalize f % 9223372036854775808=z at *;clear h;go_enter Tryz.func133,Tryz.ntmps133;go_wp2_with fail;go_ret;exact⟨aW HK.out,rfl⟩
theorem lK (f:Int)(hf:bC f)(w:World):Calls Tryz.prog 68 #[.int .u64 f] w fun x w'=>x=.returned (.int .i64 (fK f))∧w=w':=by
 have HL:=Hj (aKS hf);have b0:0≤f % 9223372036854775808:=by omega
 have b1:f % 9223372036854775808<9223372036854775808:=by omega
 obtain⟨e0,e1⟩:=wX (f:=f);obtain⟨m0,m1⟩:=aAC (f:=f)
 by_cases h:fS f=true
 ·have HK:Hid (-(f % 9223372036854775808)=fK f):=by show _=_;simp[fK,h]
  go_enter Tryz.func68,Tryz.ntmps68;go_wp2_with fail;refine(gC f hf _).mono ?_;rintro e w1 ⟨rfl,rfl⟩;rw[h];go_wp2_with fail;go_ret;exact⟨aW (by rw[HL.out];exact HK.out),rfl⟩
 ·have HK:Hid (f % 9223372036854775808=fK f):=by show _=_;simp[fK,h]
  rw[Bool.not_eq_true]at h;go_enter Tryz.func68,Tryz.ntmps68;go_wp2_with fail;refine(gC f hf _).mono ?_;rintro e w1 ⟨rfl,rfl⟩;rw[h];go_wp2_with fail;go_ret;exact⟨aW (by rw[HL.out];exact HK.out),rfl⟩
theorem mF (a:Int)(w:World):Calls Tryz.prog 162 #[.int .i64 a] w fun e w'=>e=.returned (.bool false)∧w=w':=by
 go_enter Tryz.func162,Tryz.ntmps162
 go_wp2
 go_ret;exact⟨by simp,rfl⟩
theorem aDF (a b:Int)(w:World):Calls Tryz.prog 132 #[.int .i64 a,.int .i64 b] w fun e w'=>e=.returned (.int .i64 (gD a b))∧w=w':=by
 rcases Int.lt_trichotomy a b with h|h|h
 ·go_enter Tryz.func132,Tryz.ntmps132
  go_wp2_with (go_at_call 162;refine(mF _ _).mono ?_;rintro e w1 ⟨rfl,rfl⟩)
  go_ret;exact⟨aW (uQ h).symm,rfl⟩
 ·subst h
  go_enter Tryz.func132,Tryz.ntmps132
  go_wp2_with (go_at_call 162;refine(mF _ _).mono ?_;rintro e w1 ⟨rfl,rfl⟩)
  go_ret;exact⟨aW (uR a).symm,rfl⟩
 ·have h':¬a<b:=by omega
  go_enter Tryz.func132,Tryz.ntmps132
  go_wp2_with (go_at_call 162;refine(mF _ _).mono ?_;rintro e w1 ⟨rfl,rfl⟩)
  go_ret;exact⟨aW (qY h).symm,rfl⟩
def fOk (a b:Int):Bool:=decide (fC a≠4) && decide (fC b≠4)
def qT (a b:Int):Int:=if fOk a b then gD (fK a) (fK b)else 0
theorem aEA {a b:Int}(h:fC a=4):fOk a b=false∧qT a b=0:=by simp[qT,fOk,h]
theorem aEz {a b:Int}(h:fC b=4):fOk a b=false∧qT a b=0:=by simp[qT,fOk,h]
theorem qS {a b:Int}(h1:fC a≠4)(h2:fC b≠4):fOk a b=true∧qT a b=gD (fK a) (fK b):=by simp[qT,fOk,h1,h2]
theorem mZ {k:IntKind}{a c:Int}{b d:Bool}(h1:b=d)(h2:a=c):Ending.returned (.tuple #[.int k a,.bool b])=.returned (.tuple #[.int k c,.bool d]):=by rw[h1,h2]
theorem aEJ (a b:Int)(ha:bC a)(hb:bC b)(w:World):Calls Tryz.prog 109 #[.int .u64 a,.int .u64 b] w fun e w'=>e=.returned (.tuple #[.int .i64 (qT a b),.bool (fOk a b)])∧w=w':=by
 by_cases h1:fC a=4
 ·have HC:=Hj (aEA (b:=b) h1)
  have HD:=decide_eq_true h1;go_enter Tryz.func109,Tryz.ntmps109
  go_wp2_with (go_at_call 131;refine(lJ a ha _).mono ?_;rw[HD];rintro e w1 ⟨rfl,rfl⟩)
  go_ret2
  exact⟨mZ HC.out.1.symm HC.out.2.symm,rfl⟩
 ·have HD:=decide_eq_false h1
  by_cases h2:fC b=4
  ·have HC:=Hj (aEz (a:=a) h2)
   have HE:=decide_eq_true h2;go_enter Tryz.func109,Tryz.ntmps109;go_wp2_with fail;refine(lJ a ha _).mono ?_;rw[HD];rintro e w1 ⟨rfl,rfl⟩;go_wp2_with fail;refine(lJ b hb _).mono ?_;rw[HE];rintro e w1 ⟨rfl,rfl⟩;go_wp2_with fail
   go_ret2
   exact⟨mZ HC.out.1.symm HC.out.2.symm,rfl⟩
  ·have HC:=Hj (qS h1 h2)
   have HE:=decide_eq_false h2;go_enter Tryz.func109,Tryz.ntmps109;go_wp2_with fail;refine(lJ a ha _).mono ?_;rw[HD];rintro e w1 ⟨rfl,rfl⟩;go_wp2_with fail;refine(lJ b hb _).mono ?_;rw[HE];rintro e w1 ⟨rfl,rfl⟩;go_wp2_with fail;refine(aBy a ha _).mono ?_;rintro e w1 ⟨rfl,rfl⟩;go_wp2_with fail;refine(aBy b hb _).mono ?_;rintro e w1 ⟨rfl,rfl⟩;go_wp2_with fail;refine(aDF _ _ _).mono ?_;rintro e w1 ⟨rfl,rfl⟩;go_wp2_with fail
   go_ret2
   exact⟨mZ HC.out.1.symm HC.out.2.symm,rfl⟩
def fLt (a b:Int):Bool:=fOk a b && decide (qT a b<0)
theorem aHM (a b:Int)(ha:bC a)(hb:bC b)(w:World):Calls Tryz.prog 87 #[.int .u64 a,.int .u64 b] w fun e w'=>e=.returned (.bool (fLt a b))∧w=w':=by
 have HL:Hid (fLt a b=(fOk a b && decide (qT a b<0))):=rfl
 cases h:fOk a b
 ·go_enter Tryz.func87,Tryz.ntmps87
  go_wp2_with fail;refine(aEJ a b ha hb _).mono ?_;rw[h];rintro e w1 ⟨rfl,rfl⟩;go_wp2_with fail;go_ret;exact⟨bD (by rw[HL.out,h];rfl),rfl⟩
 ·go_enter Tryz.func87,Tryz.ntmps87
  go_wp2_with fail;refine(aEJ a b ha hb _).mono ?_;rw[h];rintro e w1 ⟨rfl,rfl⟩;go_wp2_with fail;go_ret;exact⟨bD (by rw[HL.out,h];rfl),rfl⟩
theorem aIf (a b:Int)(ha:bC a)(hb:bC b)(w:World):Calls Tryz.prog 43 #[.int .u64 a,.int .u64 b] w fun e w'=>e=.returned (.tuple #[.int .i64 (qT a b),.bool (fOk a b)])∧w=w':=by
 by_cases h1:fC a=4
 ·have HC:=Hj (aEA (b:=b) h1)
  go_enter Tryz.func43,Tryz.ntmps43
  go_wp2_with (go_at_call 67;refine(dN a ha _).mono ?_;rw[h1];rintro e w1 ⟨rfl,rfl⟩)
  go_ret2
  exact⟨mZ HC.out.1.symm HC.out.2.symm,rfl⟩
 ·by_cases h2:fC b=4
  ·have HC:=Hj (aEz (a:=a) h2)
   go_enter Tryz.func43,Tryz.ntmps43;go_wp2_with fail;refine(dN a ha _).mono ?_;rintro e w1 ⟨rfl,rfl⟩;go_wp2_with fail;refine(dN b hb _).mono ?_;rw[h2];rintro e w1 ⟨rfl,rfl⟩;go_wp2_with fail
   go_ret2
   exact⟨mZ HC.out.1.symm HC.out.2.symm,rfl⟩
  ·have HC:=Hj (qS h1 h2)
   have hd1:(fC a == 4)=false:=by simp[h1]
   have hd2:(fC b == 4)=false:=by simp[h2]
   rcases Int.lt_trichotomy (fK a) (fK b)with h|h|h
   ·have HK:=Hj (uQ h)
    go_enter Tryz.func43,Tryz.ntmps43;go_wp2_with fail;refine(dN a ha _).mono ?_;rintro e w1 ⟨rfl,rfl⟩;go_wp2_with fail;refine(dN b hb _).mono ?_;rintro e w1 ⟨rfl,rfl⟩;go_wp2_with fail;refine(lK a ha _).mono ?_;rintro e w1 ⟨rfl,rfl⟩;go_wp2_with fail;refine(lK b hb _).mono ?_;rintro e w1 ⟨rfl,rfl⟩;go_wp2_with fail
    go_ret2
    exact⟨mZ HC.out.1.symm (by rw[HC.out.2,HK.out]),rfl⟩
   ·have HK:=Hj (uR (fK a))
    have HH:=Hj h;clear h;go_enter Tryz.func43,Tryz.ntmps43;go_wp2_with fail;refine(dN a ha _).mono ?_;rintro e w1 ⟨rfl,rfl⟩;go_wp2_with fail;refine(dN b hb _).mono ?_;rintro e w1 ⟨rfl,rfl⟩;go_wp2_with fail;refine(lK a ha _).mono ?_;rintro e w1 ⟨rfl,rfl⟩;go_wp2_with fail;refine(lK b hb _).mono ?_;rw[←HH.out];rintro e w1 ⟨rfl,rfl⟩;go_wp2_with fail
    go_ret2
    exact⟨mZ HC.out.1.symm (by rw[HC.out.2,←HH.out,HK.out]),rfl⟩
   ·have HK:=Hj (qY h)
    have h':¬fK a<fK b:=by omega
    go_enter Tryz.func43,Tryz.ntmps43;go_wp2_with fail;refine(dN a ha _).mono ?_;rintro e w1 ⟨rfl,rfl⟩;go_wp2_with fail;refine(dN b hb _).mono ?_;rintro e w1 ⟨rfl,rfl⟩;go_wp2_with fail;refine(lK a ha _).mono ?_;rintro e w1 ⟨rfl,rfl⟩;go_wp2_with fail;refine(lK b hb _).mono ?_;rintro e w1 ⟨rfl,rfl⟩;go_wp2_with fail
    go_ret2
    exact⟨mZ HC.out.1.symm (by rw[HC.out.2,HK.out]),rfl⟩
def fAb (f:Int):Int:=if fC f=4 then f else f % 9223372036854775808
theorem aJO {f:Int}(hf:bC f):fC f=4↔9218868437227405312<f % 9223372036854775808:=by
 obtain⟨h0,h1⟩:=hf;unfold fC fE fM;split
 ·split<;>omega
 ·split
  ·split<;>omega
  ·omega
theorem aKU (s:Bool)(w:World):Calls Tryz.prog 187 #[.bool s] w fun x w'=>x=.returned (.int .u64 (9218868437227405312+sg s))∧w=w':=by
 go_enter Tryz.func187,Tryz.ntmps187;go_wp2_with fail;refine(pX s _ (by decide) (by decide) _).mono ?_;rintro e w1 ⟨rfl,rfl⟩;go_wp2_with fail;go_ret;exact⟨rfl,rfl⟩
theorem aJA (w:World):Calls Tryz.prog 108 #[] w fun x w'=>x=.returned (.int .u64 9221120237041090560)∧w=w':=by
 go_enter Tryz.func108,Tryz.ntmps108;go_wp2_with fail;go_ret;exact⟨rfl,rfl⟩
def fOf (k:Int)(neg:Bool):Int:=if k<0∨(k=0∧neg=true)then -k+9223372036854775808 else k
theorem ofs {k:Int}(h0:0≤k)(h1:k<9223372036854775808):aDn (k / 4503599627370496) (k % 4503599627370496)∧bC (k % 4503599627370496)∧mkF true (k / 4503599627370496) (k % 4503599627370496)=k+9223372036854775808∧mkF false (k / 4503599627370496) (k % 4503599627370496)=k:=by
 unfold aDn bC mkF sg;simp only[if_true,Bool.false_eq_true,if_false];omega
theorem aLK {k:Int}(h:k≤0)(h0:-9223372036854775808<k):wrap64 (-k.tdiv 4503599627370496) = -k / 4503599627370496∧IntKind.u64.wrap (-k.tmod 4503599627370496) = -k % 4503599627370496:=by
 have e1:-k.tdiv 4503599627370496 = -k / 4503599627370496:=by
  rw[←Int.neg_tdiv,Int.tdiv_eq_ediv_of_nonneg (by omega)]
 have e2:-k.tmod 4503599627370496 = -k % 4503599627370496:=by
  rw[←Int.neg_tmod,Int.tmod_eq_emod_of_nonneg (by omega)]
 rw[e1,e2];exact⟨wrap64_in (by omega) (by omega),IntWalk.u64_in _ ⟨by omega,by omega⟩⟩
theorem qQ (k:Int)(neg:Bool)(h0:-9223372036854775808<k)(h1:k<9223372036854775808)(w:World):Calls Tryz.prog 111 #[.int .i64 k,.bool neg] w fun x w'=>x=.returned (.int .u64 (fOf k neg))∧w=w':=by
 by_cases h:k<0
 ·have HN:Hid (-k+9223372036854775808=fOf k neg):=by show _=_;simp[fOf,h]
  obtain⟨o1,o2,o3, -⟩:=ofs (k:=-k) (by omega) (by omega);have O3:=Hj o3;have Q:=Hj (aLK (k:=k) (by omega) h0);clear o3;go_enter Tryz.func111,Tryz.ntmps111;go_wp2_with fail;rw[Q.out.1,Q.out.2];refine(oC true _ _ o2 o1 _).mono ?_;rw[O3.out];rintro e w1 ⟨rfl,rfl⟩;go_wp2_with fail;go_ret;exact⟨aW HN.out,rfl⟩
 ·obtain⟨o1,o2,o3,o4⟩:=ofs (k:=k) (by omega) (by omega)
  have O4:=Hj o4;clear o3 o4
  by_cases h2:k=0
  ·subst h2
   cases neg
   ·go_enter Tryz.func111,Tryz.ntmps111
    go_wp2_with fail;refine(oC false 0 0 ⟨by decide,by decide⟩ (by decide) _).mono ?_;rintro e w1 ⟨rfl,rfl⟩;go_wp2_with fail;go_ret;exact⟨aW (by decide),rfl⟩
   ·go_enter Tryz.func111,Tryz.ntmps111
    go_wp2_with fail;refine(oC true 0 0 ⟨by decide,by decide⟩ (by decide) _).mono ?_;rintro e w1 ⟨rfl,rfl⟩;go_wp2_with fail;go_ret;exact⟨aW (by decide),rfl⟩
  ·have HN:Hid (k=fOf k neg):=by show _=_;simp[fOf,h,h2]
   go_enter Tryz.func111,Tryz.ntmps111;go_wp2_with fail;refine(oC false _ _ o2 o1 _).mono ?_;rw[O4.out];rintro e w1 ⟨rfl,rfl⟩;go_wp2_with fail;go_ret;exact⟨aW HN.out,rfl⟩
def wV (c p:Int):List PanicEntry:=[{ v:=.iface 59 (.agg #[.int .i64 c,.int .i64 p]),recovered:=false }]
theorem xL (c p:Int)(w:World):Calls Tryz.prog 36 #[.int .i64 c,.int .i64 p] w fun e w'=>e=.panicked (wV c p)∧w'=w:=by
 go_enter Tryz.func36,Tryz.ntmps36;go_wp2_with fail;exact⟨rfl,rfl,rfl⟩
def muE:Bool→Int→Int→Ending
 | true,_,_=>.returned (.tuple #[])
 | false,c,p=>.panicked (wV c p)
theorem aT (b:Bool)(c p:Int)(w:World):Calls Tryz.prog 20 #[.bool b,.int .i64 c,.int .i64 p] w fun e w'=>e=muE b c p∧w'=w:=by
 go_enter Tryz.func20,Tryz.ntmps20
 cases b with
 | true=>
  go_wp2_with fail;exact bodyPost_end (results_none rfl _ _ _) rfl ⟨rfl,rfl⟩
 | false=>
  go_wp2_with fail;refine(xL _ _ _).mono ?_;rintro r w1 ⟨rfl,rfl⟩;go_wp2_with fail;exact⟨rfl,rfl,rfl⟩
theorem fW (t:Int)(w:World):Calls Tryz.prog 57 #[.int .u8 t] w fun e w'=>e=.returned (.bool (gB t))∧w'=w:=by
 by_cases c:t=2
 ·subst c
  go_enter Tryz.func57,Tryz.ntmps57;go_wp2_with fail;go_ret;exact⟨rfl,rfl⟩
 ·go_enter Tryz.func57,Tryz.ntmps57
  go_wp2_with fail;go_ret;exact⟨rfl,rfl⟩
theorem aMd (t:Int):(t == 1 || gB t)=decide (1≤t∧t≤3):=by
 unfold gB
 by_cases c:t=1
 ·subst c;rfl
 ·by_cases c2:t=2
  ·subst c2;rfl
  ·by_cases c3:t=3
   ·subst c3;rfl
   ·rw[decide_eq_false (by omega)]
    simp[c,c2,c3]
theorem aAK (t:Int)(w:World):Calls Tryz.prog 37 #[.int .u8 t] w fun e w'=>e=.returned (.bool (decide (1≤t∧t≤3)))∧w'=w:=by
 rw[←aMd];have N:=Hj (fW t w)
 by_cases c:t=1
 ·subst c
  clear N;go_enter Tryz.func37,Tryz.ntmps37;go_wp2_with fail;go_ret;exact⟨rfl,rfl⟩
 ·generalize gB t=n at *
  go_enter Tryz.func37,Tryz.ntmps37;go_wp2_with fail;refine N.out.mono ?_;rintro r w1 ⟨rfl,rfl⟩;clear N;go_wp2_with fail;go_ret;exact⟨rfl,rfl⟩
theorem yF (op:Int)(w:World):Calls Tryz.prog 74 #[.int .u8 op] w fun e w'=>e=.returned (.int .u8 (bM op []))∧w'=w:=by
 by_cases c1:op=1
 ·subst c1
  go_enter Tryz.func74,Tryz.ntmps74;go_wp2_with fail;go_ret;exact⟨rfl,rfl⟩
 ·by_cases c2:op=2
  ·subst c2
   go_enter Tryz.func74,Tryz.ntmps74;go_wp2_with fail;go_ret;exact⟨rfl,rfl⟩
  ·by_cases c3:op=3
   ·subst c3
    go_enter Tryz.func74,Tryz.ntmps74;go_wp2_with fail;go_ret;exact⟨rfl,rfl⟩
   ·have e:bM op []=0:=by simp[bM,c1,c2,c3]
    rw[e];clear e;go_enter Tryz.func74,Tryz.ntmps74;go_wp2_with fail;go_ret;exact⟨rfl,rfl⟩
theorem aCg (op t:Int)(w:World):Calls Tryz.prog 75 #[.int .u8 op,.int .u8 t] w fun e w'=>e=.returned (.int .u8 (bM op [t]))∧w'=w:=by
 by_cases k:op=17∨op=21
 ·have e:bM op [t]=if gB t=true then t else 0:=by
   rcases k with rfl|rfl<;>simp[bM]
  rw[e];clear e;have N:=Hj (fW t w);generalize gB t=n at *;rcases k with rfl|rfl
  all_goals
   go_enter Tryz.func75,Tryz.ntmps75;go_wp2_with fail;refine N.out.mono ?_;rintro r w1 ⟨rfl,rfl⟩;clear N;cases n
   all_goals
    go_wp2_with fail;go_ret;exact⟨rfl,rfl⟩
 ·have k1:¬op=17:=fun h=>k (.inl h)
  have k2:¬op=21:=fun h=>k (.inr h);clear k
  by_cases c:op=18
  ·subst c
   by_cases d:t=1
   ·subst d
    go_enter Tryz.func75,Tryz.ntmps75;go_wp2_with fail;go_ret;exact⟨rfl,rfl⟩
   ·have e:bM 18 [t]=0:=by simp[bM,d]
    rw[e];clear e k1 k2;go_enter Tryz.func75,Tryz.ntmps75;go_wp2_with fail;go_ret;exact⟨rfl,rfl⟩
  ·by_cases c2:op=19
   ·subst c2
    by_cases d:t=3
    ·subst d
     go_enter Tryz.func75,Tryz.ntmps75;go_wp2_with fail;go_ret;exact⟨rfl,rfl⟩
    ·have e:bM 19 [t]=0:=by simp[bM,d]
     rw[e];clear e k1 k2 c;go_enter Tryz.func75,Tryz.ntmps75;go_wp2_with fail;go_ret;exact⟨rfl,rfl⟩
   ·by_cases c3:op=20
    ·subst c3
     by_cases d:t=2
     ·subst d
      go_enter Tryz.func75,Tryz.ntmps75;go_wp2_with fail;go_ret;exact⟨rfl,rfl⟩
     ·have e:bM 20 [t]=0:=by simp[bM,d]
      rw[e];clear e k1 k2 c c2;go_enter Tryz.func75,Tryz.ntmps75;go_wp2_with fail;go_ret;exact⟨rfl,rfl⟩
    ·have e:bM op [t]=0:=by simp[bM,k1,k2,c,c2,c3]
     rw[e];clear e;go_enter Tryz.func75,Tryz.ntmps75;go_wp2_with fail;go_ret;exact⟨rfl,rfl⟩
theorem aAL (op t:Int)(w:World):Calls Tryz.prog 76 #[.int .u8 op,.int .u8 t] w fun e w'=>e=.returned (.int .u8 (bM op [t,t]))∧w'=w:=by
 have N:=Hj (fW t w)
 by_cases k:op=5∨op=6∨op=7∨op=8
 ·have e:bM op [t,t]=if gB t=true then t else 0:=by
   rcases k with rfl|rfl|rfl|rfl<;>simp[bM]
  rw[e];clear e;generalize gB t=n at *;rcases k with rfl|rfl|rfl|rfl
  all_goals
   go_enter Tryz.func76,Tryz.ntmps76;go_wp2_with fail;refine N.out.mono ?_;rintro r w1 ⟨rfl,rfl⟩;clear N;cases n
   all_goals
    go_wp2_with fail;go_ret;exact⟨rfl,rfl⟩
 ·by_cases k2:op=9∨op=10∨op=13∨op=14
  ·have e:bM op [t,t]=if gB t=true then 1 else 0:=by
    rcases k2 with rfl|rfl|rfl|rfl<;>simp[bM]
   rw[e];clear e k;generalize gB t=n at *;rcases k2 with rfl|rfl|rfl|rfl
   all_goals
    go_enter Tryz.func76,Tryz.ntmps76;go_wp2_with fail;refine N.out.mono ?_;rintro r w1 ⟨rfl,rfl⟩;clear N;cases n
    all_goals
     go_wp2_with fail;go_ret;exact⟨rfl,rfl⟩
  ·clear N
   by_cases k3:op=11∨op=12
   ·have e:bM op [t,t]=1:=by
     rcases k3 with rfl|rfl<;>simp[bM]
    rw[e];clear e k k2;rcases k3 with rfl|rfl
    all_goals
     go_enter Tryz.func76,Tryz.ntmps76;go_wp2_with fail;go_ret;exact⟨rfl,rfl⟩
   ·by_cases k4:op=15∨op=16
    ·by_cases d:t=1
     ·subst d
      clear k k2 k3;rcases k4 with rfl|rfl
      all_goals
       go_enter Tryz.func76,Tryz.ntmps76;go_wp2_with fail;go_ret;exact⟨rfl,rfl⟩
     ·have e:bM op [t,t]=0:=by
       rcases k4 with rfl|rfl<;>simp[bM,d]
      rw[e];clear e k k2 k3;rcases k4 with rfl|rfl
      all_goals
       go_enter Tryz.func76,Tryz.ntmps76;go_wp2_with fail;go_ret;exact⟨rfl,rfl⟩
    ·have e:bM op [t,t]=0:=by
      have h1:¬(5≤op∧op≤8):=by omega
      simp[bM,h1,k2,k3,k4]
     rw[e];obtain⟨a1,a2,a3,a4⟩:¬op=5∧¬op=6∧¬op=7∧¬op=8:=by omega
     obtain⟨b1,b2,b3,b4⟩:¬op=9∧¬op=10∧¬op=13∧¬op=14:=by omega
     obtain⟨d1,d2,d3,d4⟩:¬op=11∧¬op=12∧¬op=15∧¬op=16:=by omega
     clear e k k2 k3 k4;go_enter Tryz.func76,Tryz.ntmps76;go_wp2_with fail;go_ret;exact⟨rfl,rfl⟩
theorem gW (f:Int)(hf:bC f)(w:World):Calls Tryz.prog 50 #[.int .u64 f] w fun e w'=>e=.returned (.bool (decide (fC f<3)))∧w'=w:=by
 go_enter Tryz.func50,Tryz.ntmps50;go_wp2_with fail;refine(sQ f hf w).mono ?_;rintro r w1 ⟨rfl,rfl⟩;go_wp2_with fail;go_ret;exact⟨rfl,rfl⟩
theorem kH {w:World}{B g c n:Nat}{l:List Int}(h:w.ownsRow B 36 1 (.slice (some ⟨g,0,none⟩) n c) n (l.map (Value.int .u8))){j:Nat}{t:Int}(hj:l[j]? = some t):w.cell? ⟨g,j,none⟩=some (.int .u8 t):=by
 have:=h.cells (g:=g) rfl j (.int .u8 t) (by rw[List.getElem?_map,hj];rfl);unfold Addr.add at this
 split at this
 ·rename_i h0;subst h0;exact this
 ·simpa using this
theorem aV {w w':World}{k:Nat}{o:Obj}(hb:Below w.heap.size w w')(h:w.heap[k]? = some o):w'.heap[k]? = some o:=(hb.block k (Array.getElem?_eq_some_iff.1 h).1).trans h
theorem nW {w:World}{B n z:Nat}{t:TypeId}{v:Value}{xs:List Value}(h:w.ownsRow B t z v n xs):∃A cp,v=.slice A n cp:=by
 rcases h.2 with⟨e,e2⟩|⟨g,cap,cur,e,hb,_⟩
 ·subst e2;exact⟨none,0,e⟩
 ·exact⟨some ⟨g,0,none⟩,cap,e⟩
theorem nU {w:World}{B n z:Nat}{t:TypeId}{v:Value}{xs:List Value}(h:w.ownsRow B t z v n xs)(hn:0<n):∃g cap,v=.slice (some ⟨g,0,none⟩) n cap∧B≤g:=by
 rcases h.2 with⟨_,e⟩|⟨g,cap,cur,e,hb,_⟩
 ·omega
 ·exact⟨g,cap,e,hb⟩
structure Dh (a b:De):Prop where
 inp:a.inp=b.inp
 nm:a.nm=b.nm
 ty:a.ty=b.ty
 len:a.len=b.len
structure Sh (S S':Sc):Prop where
 n:S.n=S'.n
 d:∀i,i<S.n→Dh (S.d i) (S'.d i)
 loops:S.loops=S'.loops
 init:S.init=S'.init
theorem aBU {d d':Nat→De}{x:List UInt8}{n:Nat}(h:∀i,i<n→(d i).nm=(d' i).nm):fd d x n=fd d' x n:=by
 induction n with
 | zero=>rfl
 | succ n ih=>simp only[fd];rw[ih fun i hi=>h i (by omega),h n (by omega)]
theorem Sh.find {S S':Sc}(h:Sh S S')(x:List UInt8):S'.find x=S.find x:=by
 unfold Sc.find;rw[←h.n];exact(aBU fun i hi=>(h.d i hi).nm).symm
theorem Sh.inner {S S':Sc}(h:Sh S S')(x:List UInt8):Sh (S.inner x) (S'.inner x):=⟨h.n,h.d,by show S.loops++[x]=S'.loops++[x];rw[h.loops],h.init⟩
def Ck.nz {α:Type}(r:Ck α):Prop:=∀e p,r=.no e p→120≤e∧e≤125
theorem nF {α:Type}(a:α):(Ck.ok a).nz:=fun _ _ h=>by cases h
theorem iA {α:Type}{e p:Int}(h:120≤e∧e≤125):(Ck.no e p:Ck α).nz:=fun _ _ g=>by cases g;exact h
theorem eO {α β:Type}{r:Ck α}{f:α→Ck β}(h:r.nz)(g:∀a,(f a).nz):(r.bind f).nz:=by
 cases r with
 | ok a=>exact g a
 | no e p=>exact iA (h e p rfl)
theorem aLM {f:Nat→Ck Int}{n:Nat}(h:∀i,i<n→(f i).nz):(cks f n).nz:=by
 induction n with
 | zero=>exact nF _
 | succ n ih=>exact eO (ih fun i hi=>h i (by omega)) fun l=>eO (h n (by omega)) fun t=>nF _
theorem qG {f:Nat→Ck Unit}{n:Nat}(h:∀i,i<n→(f i).nz):(cP f n).nz:=by
 induction n with
 | zero=>exact nF _
 | succ n ih=>exact eO (ih fun i hi=>h i (by omega)) fun _=>h n (by omega)
theorem uM {c:Bool}{e p:Int}(h:120≤e∧e≤125):(dC c e p).nz:=by
 unfold dC;split
 ·exact nF _
 ·exact iA h
theorem aJH {S:Sc}{x:List UInt8}{p:Int}:(S.look x p).nz:=by
 unfold Sc.look;split
 ·exact nF _
 ·split
  ·exact iA (by decide)
  ·split
   ·exact iA (by decide)
   ·exact nF _
theorem aLL {t long:Int}{n:Nat}{p:Int}{a:Ck Int}(h:0<n→a.nz):(mP t long n p a).nz:=by
 unfold mP;split
 ·split
  ·rename_i c
   refine eO (h (by omega)) fun u=>?_;split
   ·exact nF _
   ·exact iA (by decide)
  ·exact iA (by decide)
 ·split
  ·exact nF _
  ·exact iA (by decide)
theorem Ex.ck_nz (S:Sc)(e:Ex):(e.ck S).nz:=by
 induction e using Ex.ind with
 | H e ih=>
  rw[Ex.ck_eq S e];split
  ·exact eO aJH fun tl=>aLL fun h=>ih 0 h
  ·refine eO (aLM fun i hi=>ih i hi) fun l=>?_
   split
   ·exact iA (by decide)
   ·split
    ·exact iA (by decide)
    ·exact nF _
theorem aLN {S:Sc}{h:SH}{x:Nat→Ex}{e:Ex}:(lQ S h x e).nz:=by
 unfold lQ;split
 ·exact iA (by decide)
 ·split
  ·exact iA (by decide)
  ·split
   ·exact iA (by decide)
   ·split
    ·exact iA (by decide)
    ·refine eO ?_ fun _=>eO (Ex.ck_nz _ _) fun t=>uM (by decide)
     split
     ·exact eO (Ex.ck_nz _ _) fun t=>uM (by decide)
     ·exact nF _
theorem St.ck_nz {nam:List UInt8→Bool}(s:St):∀S:Sc,(s.ck nam S).nz:=by
 induction s using St.ind with
 | H s it il=>
  intro S;rw[St.ck_eq nam s S];split
  ·exact aLN
  ·split
   ·exact eO (Ex.ck_nz _ _) fun ty=>eO (uM (by decide)) fun _=>eO (qG fun i hi=>it i hi S) fun _=>qG fun i hi=>il i hi S
   ·split
    ·split
     ·exact iA (by decide)
     ·split
      ·exact iA (by decide)
      ·split
       ·exact iA (by decide)
       ·exact qG fun i hi=>it i hi _
    ·exact iA (by decide)
theorem aMQ {nam:List UInt8→Bool}{ran:De→Bool}{d:Nat→De}{i:Nat}{c:Int}:(deC nam ran d i c).nz:=by
 unfold deC
 repeat (split;exact iA (by decide))
 exact nF _
theorem aKn {nam:List UInt8→Bool}{ran:De→Bool}{d:Nat→De}{n:Nat}{c:Int}(h:gV nam ran d n=.ok c):∀i,i<n→nam (d i).nm=true∧fd d (d i).nm i=none∧(1≤(d i).ty∧(d i).ty≤3)∧ran (d i)=true:=by
 induction n generalizing c with
 | zero=>intro i hi;omega
 | succ n ih=>
  simp only[gV]at h
  cases h1:gV nam ran d n with
  | no e p=>rw[h1]at h;cases h
  | ok c1=>
   rw[h1]at h;replace h:deC nam ran d n c1=.ok c:=h;intro i hi;rcases Nat.lt_succ_iff_lt_or_eq.1 hi with h4|rfl
   ·exact ih h1 i h4
   ·unfold deC at h
    split at h
    ·cases h
    ·split at h
     ·cases h
     ·split at h
      ·cases h
      ·split at h
       ·cases h
       ·rename_i g1 g2 g3 g4
        refine⟨by simpa using g1,?_,Decidable.not_not.1 g3,by simpa using g4⟩
        cases hf:fd d (d i).nm i with
        | none=>rfl
        | some k=>rw[hf]at g2;exact absurd rfl g2
end Go.Proofs.YtkbicfffokegeaaGreatDoor
