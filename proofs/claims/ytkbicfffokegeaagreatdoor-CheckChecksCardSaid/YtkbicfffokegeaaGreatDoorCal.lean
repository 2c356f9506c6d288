/-
  Whatever program is handed in, CheckChecks answers true. (part 12 of 38) Conditions: none beside what the card ties.
-/
import Derived.Test.YtkbicfffokegeaaGreatDoorCak
import Derived.Shelf.Small.Wraps
import Derived.Shelf.Strconv.Itoa3
import Derived.Shelf.Strconv.ParseIntPublic10
import Derived.Shelf.Strings.Cut
import Derived.Shelf.Strings.IndexAnyAll
import Derived.Shelf.Strings.SplitShaped
import Derived.Shelf.Strings.Trim
namespace Go.Proofs.YtkbicfffokegeaaGreatDoor
set_option maxHeartbeats 16000000
open Go.RowKit
set_option maxRecDepth 100000
theorem aLb:dD=2 ^ 1074:=by unfold dD;exact aIB _
def IsI (W:Int):Prop:=∃k,0≤k∧k≤9218868437227405311∧gK k=W*dD
def iF (s:Bool)(W:Int):Int:=rF 0 s (2*(W*dD)) false
theorem aMe {X:Int}{i:Nat}(h0:0≤X)(h1:X<9007199254740992)(hi:i≤900):IsI (X*2 ^ i):=by
 rcases Int.lt_or_eq_of_le h0 with h|h
 ·obtain⟨j, -,j1,j2⟩:=cZ h
  have j3:j<53:=jJ (Int.lt_of_le_of_lt j1 (show X<2 ^ 53 from h1));have p1:=aM (52-j)
  have a1:(4503599627370496:Int)≤X*2 ^ (52-j):=by
   have:=Int.mul_le_mul_of_nonneg_right j1 (Int.le_of_lt p1);rw[←Int.pow_add,show j+(52-j)=52 by omega]at this;exact this
  have a2:X*2 ^ (52-j)<9007199254740992:=by
   have:=Int.mul_lt_mul_of_pos_right j2 p1;rw[←Int.pow_add,show j+1+(52-j)=53 by omega]at this;exact this
  have e:=aEx (u:=1022+j+i) (W:=X*2 ^ (52-j)) (by omega) (by omega) (fun _=>a1);refine⟨_,?_,?_,e.trans ?_⟩
  iterate 2
   ·generalize X*2 ^ (52-j)=Y at *
    omega
  ·rw[Int.mul_assoc,←Int.pow_add,aLb,Int.mul_assoc,←Int.pow_add,show 52-j+(1022+j+i)=i+1074 by omega]
 ·subst h
  exact⟨0,by decide,by decide,by rw[Int.zero_mul,Int.zero_mul];decide⟩
theorem sH {W:Int}(h0:0≤W)(h1:W<9007199254740992):IsI W:=by
 have:=aMe (i:=0) h0 h1 (by decide);rw[Int.pow_zero,Int.mul_one]at this;exact this
theorem aMg {W k:Int}(h0:0≤k)(h1:k≤9218868437227405311)(h:gK k=W*dD)(md:Int)(s:Bool):rF md s (2*(W*dD)) false=k+sg s∧rG md s (2*(W*dD)) false=0:=by
 rw[←h];exact zA h0 h1 md s
theorem aMh {W k:Int}(h0:0≤k)(h1:k≤9218868437227405311)(h:gK k=W*dD)(s:Bool):iF s W=k+sg s:=(aMg h0 h1 h 0 s).1
theorem wS {W:Int}(h:IsI W)(s:Bool):bC (iF s W)∧fC (iF s W)<3∧fS (iF s W)=s∧fMg (iF s W)=W*dD∧fZ (iF s W)=sv s W*dD:=by
 obtain⟨k,h0,h1,h2⟩:=h;rw[aMh h0 h1 h2];obtain⟨a,b, -, -,c⟩:=wQ (s:=s) h0 (by omega);refine⟨c,(aHT (s:=s) h0 (by omega)).2.2 h1,a,?_,?_⟩
 ·unfold fMg
  rw[b,h2]
 ·rw[aNG h0 (by omega),h2,aLp]
theorem aAk (md:Int)(s:Bool):rF md s 0 false=sg s∧rG md s 0 false=0:=by
 have:=zA (k:=0) (by decide) (by decide) md s;rw[show gK 0=0 by decide,Int.mul_zero,Int.zero_add]at this;exact this
theorem aKo (a b:Int):decide (gD a b<0)=decide (a<b):=by
 unfold gD
 by_cases h:a<b
 ·rw[if_pos h,decide_eq_true h];rfl
 ·rw[if_neg h,decide_eq_false h]
  split<;>rfl
theorem aHL {W V:Int}(h:IsI W)(k:IsI V)(s t:Bool):fLt (iF s W) (iF t V)=decide (sv s W<sv t V):=by
 obtain⟨a1,a2, -, -,a5⟩:=wS h s;obtain⟨b1,b2, -, -,b5⟩:=wS k t;obtain⟨o1,o2⟩:=qS (a:=iF s W) (b:=iF t V) (by omega) (by omega);unfold fLt;rw[o1,o2,←aMn a1 b1,a5,b5,pI aMr,aKo,Bool.true_and]
theorem zI (c:Int):rN c (eP (eC 0)) (eQ (eC 0))=2*(c*dD)∧rS c (eP (eC 0)) (eQ (eC 0)) false=false:=by
 rw[show eP (eC 0)=1075 by decide,show eQ (eC 0)=0 by decide]
 have e:c*2 ^ 1075=2*(c*dD):=by
  rw[aLb,show(1075:Nat)=1+1074 by decide,Int.pow_add,←Int.mul_assoc,Int.mul_comm c,Int.mul_assoc];rfl
 unfold rN rS;rw[e,Int.pow_zero,Int.ediv_one,Int.emod_one];exact⟨rfl,rfl⟩
def fiF (md x:Int):Int:=rF md (decide (x<0)) (2*((x.natAbs:Int)*dD)) false
def fiG (md x:Int):Int:=rG md (decide (x<0)) (2*((x.natAbs:Int)*dD)) false
theorem nL {x:Int}(h0:-2147483648≤x)(h1:x≤2147483647):bC (fiF 0 x)∧fC (fiF 0 x)<3:=by
 have hI:IsI (x.natAbs:Int):=sH (by omega) (by omega);obtain⟨w,c, -, -, -⟩:=wS hI (decide (x<0));exact⟨w,c⟩
theorem aKi {x y:Int}(h0:-2147483648≤x)(h1:x≤2147483647)(k0:-2147483648≤y)(k1:y≤2147483647):fLt (fiF 0 x) (fiF 0 y)=decide (x<y):=by
 have hx:IsI (x.natAbs:Int):=sH (by omega) (by omega);have hy:IsI (y.natAbs:Int):=sH (by omega) (by omega);have e:=aHL hx hy (decide (x<0)) (decide (y<0))
 have s:∀z:Int,sv (decide (z<0)) (z.natAbs:Int)=z:=fun z=>by
  unfold sv
  by_cases h:z<0
  ·rw[decide_eq_true h,if_pos rfl];omega
  ·rw[decide_eq_false h,if_neg (by decide)];omega
 rw[s,s]at e;exact e
def enV (e:EH):Int:=if e.op=2 then fiF 0 e.it else if e.op=3 then e.fl else 9221120237041090560
theorem aBX {e:EH}(h:e.ok):bC (enV e):=by
 unfold enV;split
 ·exact(nL h.it0 h.it1).1
 ·split
  ·exact h.fl
  ·unfold bC;omega
def raP (t:Int)(a b:EH):Bool:=
 if t=2 then decide (a.op=2) && decide (b.op=2) && decide (a.it≤b.it)
 else decide (fC (enV a)<3) && decide (fC (enV b)<3) && !fLt (enV b) (enV a)
def raN (d:De):Bool:=
 if d.inp then decide (d.len=0) && (d.rg == gB d.ty) && (!d.rg || raP d.ty d.lo.h d.hi.h)
 else !d.rg && decide (0≤d.len) && decide (d.len≤16)
def enW (e:EH)(t:Int):Int:=if e.op=2∧(t=2∨t=3)then fiF 0 e.it else e.fl
def enB (e:EH)(t:Int):Bool:=decide (e.op=2∧(t=2∨t=3)) || (decide (e.op=3) && decide (t=3) && decide (fC e.fl<3))
theorem aBW {e:EH}(h:e.ok)(t:Int):bC (enW e t):=by
 unfold enW;split
 ·exact(nL h.it0 h.it1).1
 ·exact h.fl
theorem aCd {a b:Int}(h:fC a<3)(k:fC b<3):decide (0<qT a b)=fLt b a:=by
 obtain⟨o1,o2⟩:=qS (a:=a) (b:=b) (by omega) (by omega);obtain⟨p1,p2⟩:=qS (a:=b) (b:=a) (by omega) (by omega);unfold fLt;rw[o2,p1,p2,Bool.true_and];unfold gD
 by_cases c:fK a<fK b
 ·have c':¬fK b<fK a:=by omega
  simp[c,c']
 ·by_cases d:fK b<fK a
  ·simp[c,d]
  ·have e:fK a=fK b:=by omega
   simp[e]
theorem aJw {a b:EH}(ha:a.ok)(hb:b.ok){t:Int}(ht:t=2∨t=3):raP t a b=(enB a t && enB b t && !decide (0<qT (enW a t) (enW b t))):=by
 have A:=nL ha.it0 ha.it1;have B:=nL hb.it0 hb.it1;rcases ht with rfl|rfl
 ·by_cases c:a.op=2
  ·by_cases d:b.op=2
   ·have e:=aKi hb.it0 hb.it1 ha.it0 ha.it1
    have e2:=aCd A.2 B.2;simp only[raP,enB,enW,c,d,if_true,true_or,decide_true,Bool.true_and,Bool.true_or,and_self];rw[e2,e]
    by_cases g:a.it≤b.it
    ·have:¬b.it<a.it:=by omega
     simp[g,this]
    ·have:b.it<a.it:=by omega
     simp[g,this]
   ·simp[raP,enB,c,d]
  ·simp[raP,enB,c]
 ·have key:∀e:EH,e.ok→(enB e 3=true∧fC (enW e 3)<3∧enV e=enW e 3)∨(enB e 3=false∧¬fC (enV e)<3):=by
   intro e he;have E:=nL he.it0 he.it1
   by_cases c:e.op=2
   ·exact .inl ⟨by simp[enB,c],by simp[enW,c,E.2],by simp[enV,enW,c]⟩
   ·by_cases d:e.op=3
    ·by_cases f:fC e.fl<3
     ·exact .inl ⟨by simp[enB,d,f],by simp[enW,d,f],by simp[enV,enW,d]⟩
     ·exact .inr ⟨by simp[enB,d,f],by simp[enV,d,f]⟩
    ·refine .inr ⟨by simp[enB,c,d],?_⟩
     have:enV e=9221120237041090560:=by simp[enV,c,d]
     rw[this]
     decide
  have h3:¬(3:Int)=2:=by decide
  simp only[raP,h3,if_false];rcases key a ha with⟨a1,a2,a3⟩|⟨a1,a2⟩
  ·rcases key b hb with⟨b1,b2,b3⟩|⟨b1,b2⟩
   ·rw[a1,b1,a3,b3,aCd a2 b2]
    simp[a2,b2]
   ·simp[a1,b1,b2]
  ·simp[a1,a2]
theorem uL {d:De}(h:raN d=true):0≤d.len∧d.len≤16:=by
 unfold raN at h
 cases g:d.inp with
 | true=>
  rw[g]at h;simp only[if_true,Bool.and_eq_true,decide_eq_true_eq]at h;have:=h.1.1;omega
 | false=>
  rw[g]at h;simp only[Bool.false_eq_true,if_false,Bool.and_eq_true,decide_eq_true_eq]at h;exact⟨h.1.2,h.2⟩
theorem aGV {d d':De}(h:d.same d'=true):raN d=raN d':=by
 obtain⟨h1, -,h3,h4,h5,h6,h7⟩:=De.same_iff.1 h;obtain⟨a1, -,a3,a4, -⟩:=Ex.same_iff.1 h6;obtain⟨b1, -,b3,b4, -⟩:=Ex.same_iff.1 h7;have e1:enV d.lo.h=enV d'.lo.h:=by unfold enV;rw[a1,a3,a4]
 have e2:enV d.hi.h=enV d'.hi.h:=by unfold enV;rw[b1,b3,b4]
 unfold raN raP;rw[h1,h3,h4,h5,e1,e2,a1,a3,b1,b3]
theorem aAD {f:Int}:aBT f=decide (fC f<3):=by
 unfold aBT fC fE fM
 by_cases c:f / 4503599627370496 % 2048=2047
 ·rw[if_pos c,decide_eq_false (by omega:¬f % 9223372036854775808<9218868437227405312)]
  split<;>rfl
 ·rw[if_neg c,decide_eq_true (by omega:f % 9223372036854775808<9218868437227405312)]
  split
  ·split<;>rfl
  ·rfl
structure Sk where
 dst:Option Nat
 looks:List Nat
 after:List Nat
def oM (md:Region.Mode)(ops:Array Oper):List Sk:=ops.toList.map fun o=>⟨o.dst,o.looksAt ops,(o.after.toList.filter (Region.binds md)).map (·.on)⟩
def rY (s:Sk)(m i:Nat):Bool:=!m.testBit i && s.after.all fun j=>m.testBit j
def aIR (x y:Sk):Bool:=
  (match x.dst with
   | some d=>!y.looks.contains d && y.dst != some d
   | none=>true) &&
  (match y.dst with
   | some d=>!x.looks.contains d
   | none=>true)
def xS (f:Nat→Sk→Bool):Nat→List Sk→Bool
 | _,[]=>true
 | k,s::r=>f k s && xS f (k+1) r
theorem fL {f:Nat→Sk→Bool}:∀(l:List Sk) (k:Nat),xS f k l=true→∀i s,l[i]? = some s→f (k+i) s=true
 | [],_,_,i,s,h=>by simp at h
 | t::r,k,h,i,s,hi=>by
  simp only[xS,Bool.and_eq_true]at h;rcases i with _|i
  ·simp at hi
   subst hi;exact h.1
  ·have:=fL r (k+1) h.2 i s (by simpa using hi)
   rw[show k+(i+1)=k+1+i by omega];exact this
def chk (sk:List Sk):List (Nat×Bool)→Nat→Bool
 | [],m=>xS (fun j s=>!rY s m j) 0 sk
 | (i,b)::r,m=>(match sk[i]? with
   | none=>false
   | some s=>rY s m i && (if b then xS (fun j t=>j == i || m.testBit j || t.after.contains i || aIR s t) 0 sk else xS (fun j t=>j == i || !rY t m j) 0 sk)) && chk sk r (m ||| 1 <<< i)
structure Agree (listed:Array Bool) (m n:Nat):Prop where
 size:listed.size=n
 bit:∀j,listed.getD j false=m.testBit j
theorem Agree.start (n:Nat):Agree (Array.replicate n false) 0 n:=by
 refine⟨by simp,fun j=>?_⟩;rw[Nat.zero_testBit,Array.getD_eq_getD_getElem?]
 by_cases h:j<n
 ·rw[Array.getElem?_replicate,if_pos h];rfl
 ·rw[Array.getElem?_replicate,if_neg h];rfl
theorem Agree.set {listed:Array Bool}{m n i:Nat}(h:Agree listed m n)(hi:i<n):Agree (listed.setIfInBounds i true) (m ||| 1 <<< i) n:=by
 refine⟨by rw[Array.size_setIfInBounds,h.size],fun j=>?_⟩;rw[Nat.testBit_or,Nat.one_shiftLeft,Nat.testBit_two_pow,←h.bit j,Array.getD_eq_getD_getElem?,Array.getD_eq_getD_getElem?,Array.getElem?_setIfInBounds]
 by_cases e:i=j
 ·subst e
  rw[if_pos rfl,if_pos (by rw[h.size];exact hi)]
  simp
 ·rw[if_neg e]
  simp[e]
theorem Agree.open_ {listed:Array Bool}{m n j:Nat}(h:Agree listed m n)(hj:j<n):listed.getD j true=m.testBit j:=by
 rw[←h.bit j,Array.getD_eq_getD_getElem?,Array.getD_eq_getD_getElem?,Array.getElem?_eq_getElem (by rw[h.size];exact hj)];rfl
section
variable {P:Program} {ops:Array Oper} {Q:Exit→Act→World→Prop} {S:World→Prop}
theorem kK {md:Region.Mode}{i:Nat}{s:Sk}(h:(oM md ops)[i]? = some s):∃o,ops[i]? = some o∧s=⟨o.dst,o.looksAt ops,(o.after.toList.filter (Region.binds md)).map (·.on)⟩:=by
 unfold oM at h;rw[List.getElem?_map]at h;rw[←Array.getElem?_toList]
 cases ho:ops.toList[i]? with
 | none=>rw[ho]at h;cases h
 | some o=>
  rw[ho]at h;exact⟨o,rfl,(Option.some.inj h).symm⟩
theorem kJ {md:Region.Mode}{i:Nat}{o:Oper}(h:ops[i]? = some o):(oM md ops)[i]? = some ⟨o.dst,o.looksAt ops,(o.after.toList.filter (Region.binds md)).map (·.on)⟩:=by
 unfold oM;rw[List.getElem?_map,Array.getElem?_toList,h];rfl
theorem gR {md:Region.Mode}{listed:Array Bool}{m i:Nat}{o:Oper}(ha:Agree listed m ops.size)(hi:ops[i]? = some o):i∈Region.ready md ops listed↔rY ⟨o.dst,o.looksAt ops,(o.after.toList.filter (Region.binds md)).map (·.on)⟩ m i=true:=by
 have hlt:i<ops.size:=(Array.getElem?_eq_some_iff.1 hi).1;rw[mem_ready,ha.open_ hlt];unfold rY;simp only[Bool.and_eq_true,Bool.not_eq_true',List.all_eq_true,List.mem_map,List.mem_filter,forall_exists_index,and_imp];constructor
 ·rintro⟨h1,o',ho',h2⟩
  rw[hi]at ho';obtain rfl:=Option.some.inj ho';exact⟨h1,fun j e he hb hj=>by rw[←hj,←ha.bit];exact h2 e (by simpa using he) hb⟩
 ·rintro⟨h1,h2⟩
  exact⟨h1,o,hi,fun e he hb=>by rw[ha.bit];exact h2 _ e (by simpa using he) hb rfl⟩
def Walk (P:Program)(ops:Array Oper)(Q:Exit→Act→World→Prop)(S:World→Prop):List (Nat×Bool)→Act→World→Prop
 | [],a,w=>Q .normal a w
 | (i,true)::r,a,w=>∃oi v,ops[i]? = some oi∧YieldsIf P ops S oi v a∧Walk P ops Q S r (a.put oi.dst v) w
 | (i,false)::r,a,w=>wpOp P ops Q i (fun a' w'=>S w'∧Walk P ops Q S r a' w') a w
theorem rK (hsel:Region.noSelect ops=true)(hQ:∀c a d v w,Q (.panic c) (Act.put a d v) w→Q (.panic c) a w){md:Region.Mode} :
  ∀(ord:List (Nat×Bool)) (fuel:Nat) (listed:Array Bool) (m:Nat) (a:Act) (w:World),chk (oM md ops) ord m=true→Agree listed m ops.size→ord.length≤fuel→S w→Walk P ops Q S ord a w→wpAnyH P md ops Q S fuel listed a w
 | [],fuel,listed,m,a,w,hc,ha,_,_,h=>by
  refine wpAnyH_done ?_ h fuel;rw[List.eq_nil_iff_forall_not_mem];intro i hi;obtain⟨_,o,ho,_⟩:=mem_ready.1 hi;have h1:=(gR ha ho).1 hi;have h2:=fL _ 0 hc i _ (kJ ho);rw[Nat.zero_add,h1]at h2;cases h2
 | (i,b)::r,0,listed,m,a,w,hc,ha,hl,hS,h=>by simp at hl
 | (i,b)::r,fuel+1,listed,m,a,w,hc,ha,hl,hS,h=>by
  simp only[chk,Bool.and_eq_true]at hc;obtain⟨h1,h2⟩:=hc
  cases hs:(oM md ops)[i]? with
  | none=>rw[hs]at h1;cases h1
  | some s=>
   rw[hs]at h1;obtain⟨o,ho,rfl⟩:=kK hs;simp only[Bool.and_eq_true]at h1;obtain⟨h1,h3⟩:=h1;have hlt:i<ops.size:=(Array.getElem?_eq_some_iff.1 ho).1;have hr:=(gR ha ho).2 h1;have ha2:=ha.set hlt;have hl2:r.length≤fuel:=by simpa using hl
   cases b with
   | true=>
    obtain⟨o',v,ho',hy,hw⟩:=h;rw[ho]at ho';obtain rfl:=Option.some.inj ho';simp only[if_true]at h3;refine wpAnyH_first ho (Region.noSelect_spec hsel) (fun c a w h=>hQ c a _ _ w h) fuel listed a w (fun j oj hj hne hun hno=>?_) hr hy hS (rK hsel hQ r fuel _ _ _ _ h2 ha2 hl2 hS hw);have h4:=fL _ 0 h3 j _ (kJ hj);rw[Nat.zero_add]at h4;have hjl:j<ops.size:=(Array.getElem?_eq_some_iff.1 hj).1;rw[ha.open_ hjl]at hun;simp only[Bool.or_eq_true,beq_iff_eq,hne,hun,Bool.false_eq_true,false_or,List.contains_eq_mem,decide_eq_true_eq,List.mem_map,List.mem_filter]at h4;rcases h4 with⟨e,⟨he,hb⟩,hei⟩|h4
    ·exact absurd hei (hno e (by simpa using he) hb)
    ·exact h4
   | false=>
    simp only[Bool.false_eq_true,if_false]at h3;refine wpAnyH_all rfl (fun e=>by rw[e]at hr;cases hr) fun j hj=>?_;obtain⟨_,oj,hoj,_⟩:=mem_ready.1 hj;have h4:=fL _ 0 h3 j _ (kJ hoj);rw[Nat.zero_add,(gR ha hoj).1 hj]at h4;have hji:j=i:=by simpa using h4
    subst hji;exact wpOp_mono (fun a' w' h'=>⟨h'.1,rK hsel hQ r fuel _ _ _ _ h2 ha2 hl2 h'.1 h'.2⟩) h
theorem aL {id:Nat}{a:Act}{w:World}(sk:List Sk)(ord:List (Nat×Bool))(hm:P.follows .mixedOrders=true)(hsel:Region.noSelect ops=true)(hsk:oM .any ops=sk)(hc:chk sk ord 0=true)(hl:decide (ord.length≤ops.size)=true)
  (hQ:∀c a d v w,Q (.panic c) (Act.put a d v) w→Q (.panic c) a w) (hS:S w.drew) (h:Walk P ops Q S ord a w.drew):(Code.region id ops true).wp P Q a w:=
 wp_region_held (S:=S) hm (rK hsel hQ ord ops.size _ 0 a _ (by rw[hsk];exact hc) (Agree.start _) (of_decide_eq_true hl) hS h)
theorem Walk.take {i:Nat}{oi:Oper}{v:Value}{r:List (Nat×Bool)}{a:Act}{w:World}(hi:ops.toList[i]? = some oi)(hw:Region.wanted oi (yielded ops a.tmps)=true)(hy:∀w,S w→(execOp a.eval oi).run P w=.ok (.value v) w)
  (h:Walk P ops Q S r (a.put oi.dst v) w):Walk P ops Q S ((i,true)::r) a w:=⟨oi,v,by rw[←Array.getElem?_toList];exact hi,.inl ⟨hw,hy⟩,h⟩
theorem Walk.skip {i:Nat}{oi:Oper}{r:List (Nat×Bool)}{a:Act}{w:World}(hi:ops.toList[i]? = some oi)(hw:Region.wanted oi (yielded ops a.tmps)=false)
  (h:Walk P ops Q S r (a.put oi.dst undef) w):Walk P ops Q S ((i,true)::r) a w:=⟨oi,undef,by rw[←Array.getElem?_toList];exact hi,.inr ⟨hw,rfl⟩,h⟩
theorem Walk.act {i:Nat}{oi:Oper}{r:List (Nat×Bool)}{a:Act}{w:World}(hi:ops.toList[i]? = some oi)(hw:Region.wanted oi (yielded ops a.tmps)=true)
  (h:∀K:Act→World→Prop,Hid (∀a' w',S w'→Walk P ops Q S r a' w'→K a' w')→oi.wp P a w K Q):Walk P ops Q S ((i,false)::r) a w:=by
 rw[Array.getElem?_toList]at hi;show wpOp P ops Q i _ a w;unfold wpOp;simp only[hi,hw,if_true];exact .inl (h _ fun a' w' h1 h2=>⟨h1,h2⟩)
theorem Walk.pass {i:Nat}{oi:Oper}{r:List (Nat×Bool)}{a:Act}{w:World}(hi:ops.toList[i]? = some oi)(hw:Region.wanted oi (yielded ops a.tmps)=false)(hS:S w)
  (h:Walk P ops Q S r (a.put oi.dst undef) w):Walk P ops Q S ((i,false)::r) a w:=by
 rw[Array.getElem?_toList]at hi;show wpOp P ops Q i _ a w;unfold wpOp;simp only[hi,hw,Bool.false_eq_true,if_false];exact⟨hS,h⟩
theorem Walk.done {a:Act}{w:World}(h:Q .normal a w):Walk P ops Q S [] a w:=h
end
def mM (w:World)(g:Nat)(a b:Value):World:=(w.setCell ⟨g,0,none⟩ a).setCell ⟨g,1,none⟩ b
section
variable {w w':World} {g:Nat} {t:TypeId}
theorem Blk.put2 {x y:Value}(k:Blk w g t #[x,y])(a b:Value):Blk (mM w g a b) g t #[a,b]:=by
 have h1:=(k.set_ 0 a).set_ 1 b;unfold mM
 simpa using h1
theorem gY {B:Nat}(h:Below B w w')(hg:B≤g)(a b:Value):Below B w (mM w' g a b):=
 (h.setCell (p:=⟨g,0,none⟩) hg a).setCell (p:=⟨g,1,none⟩) hg b
theorem Blk.two {a b:Value}(h:Blk w g t #[a,b]):w.cell? ⟨g,0,none⟩=some a∧w.cell? ⟨g,1,none⟩=some b∧w.frozen? ⟨g,0,none⟩=false∧w.frozen? ⟨g,1,none⟩=false:=
 ⟨h.cell 0,h.cell 1,h.frozen 0,h.frozen 1⟩
end
theorem aFh (neg:Bool)(c md:Int)(h:bC c)(w:World):Calls Tryz.prog 130 #[.bool neg,.agg #[.int .u64 0,.int .u64 c],.int .i64 0,.bool false,.int .u8 md] w (aAU (rF md neg (2*(c*dD)) false) (rG md neg (2*(c*dD)) false) w):=by
 by_cases hz:c=0
 ·subst hz
  rw[Int.zero_mul,Int.mul_zero,(aAk md neg).1,(aAk md neg).2];exact aCX neg 0 false md w
 ·obtain⟨i1,i2⟩:=zI c
  have hc:0<c:=by have:=h.1;omega
  have RP:=rV neg 0 c 0 false md ⟨by decide,by decide⟩ h (by rw[xU];exact hc) w _ _ rfl rfl;rw[xU,Bool.false_and,i1,i2]at RP;exact RP
theorem aES (x md:Int)(h0:-9223372036854775808≤x)(h1:x≤9223372036854775807)(w:World):Calls Tryz.prog 107 #[.int .i64 x,.int .u8 md] w (aAU (fiF md x) (fiG md x) w):=by
 have R:=Hj (aFh (decide (x<0)) (x.natAbs:Int) md ⟨by omega,by omega⟩)
 by_cases h:x<0
 ·have e1:IntKind.u64.wrap (-IntKind.u64.wrap x)=(x.natAbs:Int):=by simp only[IntKind.wrap_u64];omega
  have e2:decide (x<0)=true:=decide_eq_true h;unfold fiF fiG;rw[e2]at R ⊢;go_enter Tryz.func107,Tryz.ntmps107;go_wp2_with fail;refine(R.out _).mono ?_;rintro e w1 ⟨rfl,hb⟩;go_wp2_with fail
  go_ret2
  exact⟨rfl,hb⟩
 ·have e1:IntKind.u64.wrap x=(x.natAbs:Int):=by simp only[IntKind.wrap_u64];omega
  have e2:decide (x<0)=false:=decide_eq_false h;unfold fiF fiG;rw[e2]at R ⊢;go_enter Tryz.func107,Tryz.ntmps107;go_wp2_with fail;refine(R.out _).mono ?_;rintro e w1 ⟨rfl,hb⟩;go_wp2_with fail
  go_ret2
  exact⟨rfl,hb⟩
theorem aDv {w:World}{x:Value}{p:Int}{L:Nat}(h:fN w x p L)(hL:L≤65536)(hp:0≤p)(neg:Bool)(md:Int):Calls Tryz.prog 89 #[.bool neg,x,.int .i64 0,.bool false,.int .u8 md] w (aAU (rF md neg (2*(p*dD)) false) (rG md neg (2*(p*dD)) false) w):=by
 rcases Int.lt_or_eq_of_le hp with k|k
 ·obtain⟨i1,i2⟩:=zI p
  have HR:=aDu h hL k neg 0 false md;rw[Bool.false_and,i1,i2]at HR;exact HR
 ·subst k
  rw[Int.zero_mul,Int.mul_zero,(aAk md neg).1,(aAk md neg).2];exact aBP h hL neg 0 false md
theorem aFy (x md:Int)(h0:-9223372036854775808≤x)(h1:x≤9223372036854775807)(w:World):Calls Tryz.prog 65 #[.int .i64 x,.int .u8 md] w (aAU (fiF md x) (fiG md x) w):=by
 have wn:bC (x.natAbs:Int):=⟨by omega,by omega⟩;have R:=Hj (fun(w:World) (v:Value) (h:fN w v (x.natAbs:Int) 64)=>aDv h (by decide) (by omega) (decide (x<0)) md);have O:=Hj (fun(w:World)=>ofV (uK w 38 (x.natAbs:Int)) wn)
 by_cases h:x<0
 ·have e1:IntKind.u64.wrap (0-IntKind.u64.wrap x)=(x.natAbs:Int):=by simp only[IntKind.wrap_u64];omega
  have e3:IntKind.u64.wrap (-IntKind.u64.wrap x)=(x.natAbs:Int):=by simp only[IntKind.wrap_u64];omega
  have e2:decide (x<0)=true:=decide_eq_true h;unfold fiF fiG;rw[e2]at R ⊢;go_enter Tryz.func65,Tryz.ntmps65;go_wp2_with fail;refine(O.out _).mono ?_;rintro e w1 ⟨v,rv,rfl,hb1⟩;have HB1:=Hj (aG (aI (Below.refl _ _) _) hb1);clear hb1;obtain⟨A,n,c,rfl⟩:=rv.form;go_wp2_with fail;refine(R.out _ _ rv).mono ?_;rintro e w2 ⟨rfl,hb⟩;go_wp2_with fail
  go_ret2
  exact⟨rfl,aG HB1.out hb⟩
 ·have e1:IntKind.u64.wrap x=(x.natAbs:Int):=by simp only[IntKind.wrap_u64];omega
  have e2:decide (x<0)=false:=decide_eq_false h;unfold fiF fiG;rw[e2]at R ⊢;go_enter Tryz.func65,Tryz.ntmps65;go_wp2_with fail;refine(O.out _).mono ?_;rintro e w1 ⟨v,rv,rfl,hb1⟩;have HB1:=Hj (aG (aI (Below.refl _ _) _) hb1);clear hb1;obtain⟨A,n,c,rfl⟩:=rv.form;go_wp2_with fail;refine(R.out _ _ rv).mono ?_;rintro e w2 ⟨rfl,hb⟩;go_wp2_with fail
  go_ret2
  exact⟨rfl,aG HB1.out hb⟩
inductive PT where
 | done
 | take (i:Nat) (r:PT)
 | act (i:Nat) (r:PT)
 | two (i:Nat) (r:PT) (j:Nat) (q:PT)
 | three (i:Nat) (r:PT) (j:Nat) (q:PT) (k:Nat) (u:PT)
def PT.len:PT→Nat
 | .done=>0
 | .take _ r=>r.len+1
 | .act _ r=>r.len+1
 | .two _ r _ q=>(if r.len≤q.len then q.len else r.len)+1
 | .three _ r _ q _ u=>max r.len (max q.len u.len)+1
def sR (sk:List Sk):PT→Nat→Bool
 | .done,m=>xS (fun j s=>!rY s m j) 0 sk
 | .take i r,m=>(match sk[i]? with
   | none=>false
   | some s=>rY s m i && xS (fun j t=>j == i || m.testBit j || t.after.contains i || aIR s t) 0 sk) && sR sk r (m ||| 1 <<< i)
 | .act i r,m=>(match sk[i]? with
   | none=>false
   | some s=>rY s m i && xS (fun j t=>j == i || !rY t m j) 0 sk) && sR sk r (m ||| 1 <<< i)
 | .two i r j q,m=>(match sk[i]? with
   | none=>false
   | some s=>rY s m i && xS (fun l t=>l == i || l == j || !rY t m l) 0 sk) && (match sk[j]? with
   | none=>false
   | some _=>true) && sR sk r (m ||| 1 <<< i) && sR sk q (m ||| 1 <<< j)
 | .three i r j q k u,m=>(match sk[i]? with
   | none=>false
   | some s=>rY s m i && xS (fun l t=>l == i || l == j || l == k || !rY t m l) 0 sk) && (match sk[j]? with
   | none=>false
   | some _=>true) && (match sk[k]? with
   | none=>false
   | some _=>true) && sR sk r (m ||| 1 <<< i) && sR sk q (m ||| 1 <<< j) && sR sk u (m ||| 1 <<< k)
section
variable {P:Program} {ops:Array Oper} {Q:Exit→Act→World→Prop} {S:World→Prop}
def aN (P:Program)(ops:Array Oper)(Q:Exit→Act→World→Prop)(S:World→Prop):PT→Act→World→Prop
 | .done,a,w=>Q .normal a w
 | .take i r,a,w=>∃oi v,ops[i]? = some oi∧YieldsIf P ops S oi v a∧aN P ops Q S r (a.put oi.dst v) w
 | .act i r,a,w=>wpOp P ops Q i (fun a' w'=>S w'∧aN P ops Q S r a' w') a w
 | .two i r j q,a,w=>wpOp P ops Q i (fun a' w'=>S w'∧aN P ops Q S r a' w') a w∧wpOp P ops Q j (fun a' w'=>S w'∧aN P ops Q S q a' w') a w
 | .three i r j q k u,a,w=>wpOp P ops Q i (fun a' w'=>S w'∧aN P ops Q S r a' w') a w∧wpOp P ops Q j (fun a' w'=>S w'∧aN P ops Q S q a' w') a w∧wpOp P ops Q k (fun a' w'=>S w'∧aN P ops Q S u a' w') a w
theorem eY (hsel:Region.noSelect ops=true)(hQ:∀c a d v w,Q (.panic c) (Act.put a d v) w→Q (.panic c) a w){md:Region.Mode} :
  ∀(ord:PT) (fuel:Nat) (listed:Array Bool) (m:Nat) (a:Act) (w:World),sR (oM md ops) ord m=true→Agree listed m ops.size→ord.len≤fuel→S w→aN P ops Q S ord a w→wpAnyH P md ops Q S fuel listed a w
 | .done,fuel,listed,m,a,w,hc,ha,_,_,h=>by
  refine wpAnyH_done ?_ h fuel;rw[List.eq_nil_iff_forall_not_mem];intro i hi;obtain⟨_,o,ho,_⟩:=mem_ready.1 hi;have h1:=(gR ha ho).1 hi;have h2:=fL _ 0 hc i _ (kJ ho);rw[Nat.zero_add,h1]at h2;cases h2
 | .take i r,0,listed,m,a,w,hc,ha,hl,hS,h=>by simp[PT.len]at hl
 | .act i r,0,listed,m,a,w,hc,ha,hl,hS,h=>by simp[PT.len]at hl
 | .two i r j q,0,listed,m,a,w,hc,ha,hl,hS,h=>by simp[PT.len]at hl
 | .three i r j q k u,0,listed,m,a,w,hc,ha,hl,hS,h=>by simp[PT.len]at hl
 | .take i r,fuel+1,listed,m,a,w,hc,ha,hl,hS,h=>by
  simp only[sR,Bool.and_eq_true]at hc;obtain⟨h1,h2⟩:=hc
  cases hs:(oM md ops)[i]? with
  | none=>rw[hs]at h1;cases h1
  | some s=>
   rw[hs]at h1;obtain⟨o,ho,rfl⟩:=kK hs;simp only[Bool.and_eq_true]at h1;obtain⟨h1,h3⟩:=h1;have hlt:i<ops.size:=(Array.getElem?_eq_some_iff.1 ho).1;have hr:=(gR ha ho).2 h1;have ha2:=ha.set hlt;have hl2:r.len≤fuel:=by simp only[PT.len]at hl;omega
   obtain⟨o',v,ho',hy,hw⟩:=h;rw[ho]at ho';obtain rfl:=Option.some.inj ho';refine wpAnyH_first ho (Region.noSelect_spec hsel) (fun c a w h=>hQ c a _ _ w h) fuel listed a w (fun j oj hj hne hun hno=>?_) hr hy hS (eY hsel hQ r fuel _ _ _ _ h2 ha2 hl2 hS hw);have h4:=fL _ 0 h3 j _ (kJ hj);rw[Nat.zero_add]at h4;have hjl:j<ops.size:=(Array.getElem?_eq_some_iff.1 hj).1;rw[ha.open_ hjl]at hun;simp only[Bool.or_eq_true,beq_iff_eq,hne,hun,Bool.false_eq_true,false_or,List.contains_eq_mem,decide_eq_true_eq,List.mem_map,List.mem_filter]at h4;rcases h4 with⟨e,⟨he,hb⟩,hei⟩|h4
   ·exact absurd hei (hno e (by simpa using he) hb)
   ·exact h4
 | .act i r,fuel+1,listed,m,a,w,hc,ha,hl,hS,h=>by
  simp only[sR,Bool.and_eq_true]at hc;obtain⟨h1,h2⟩:=hc
  cases hs:(oM md ops)[i]? with
  | none=>rw[hs]at h1;cases h1
  | some s=>
   rw[hs]at h1;obtain⟨o,ho,rfl⟩:=kK hs;simp only[Bool.and_eq_true]at h1;obtain⟨h1,h3⟩:=h1;have hlt:i<ops.size:=(Array.getElem?_eq_some_iff.1 ho).1;have hr:=(gR ha ho).2 h1;have ha2:=ha.set hlt;have hl2:r.len≤fuel:=by simp only[PT.len]at hl;omega
   refine wpAnyH_all rfl (fun e=>by rw[e]at hr;cases hr) fun j hj=>?_;obtain⟨_,oj,hoj,_⟩:=mem_ready.1 hj;have h4:=fL _ 0 h3 j _ (kJ hoj);rw[Nat.zero_add,(gR ha hoj).1 hj]at h4;have hji:j=i:=by simpa using h4
   subst hji;exact wpOp_mono (fun a' w' h'=>⟨h'.1,eY hsel hQ r fuel _ _ _ _ h2 ha2 hl2 h'.1 h'.2⟩) h
 | .two i r k q,fuel+1,listed,m,a,w,hc,ha,hl,hS,h=>by
  simp only[sR,Bool.and_eq_true]at hc;obtain⟨⟨⟨h1,hk⟩,h2⟩,h5⟩:=hc
  cases hs:(oM md ops)[i]? with
  | none=>rw[hs]at h1;cases h1
  | some s=>
   rw[hs]at h1;obtain⟨o,ho,rfl⟩:=kK hs;simp only[Bool.and_eq_true]at h1;obtain⟨h1,h3⟩:=h1
   cases hs':(oM md ops)[k]? with
   | none=>rw[hs']at hk;cases hk
   | some s'=>
    obtain⟨o',ho',rfl⟩:=kK hs';have hlt:i<ops.size:=(Array.getElem?_eq_some_iff.1 ho).1;have hlt':k<ops.size:=(Array.getElem?_eq_some_iff.1 ho').1;have hr:=(gR ha ho).2 h1;have ha2:=ha.set hlt;have ha3:=ha.set hlt';have hl2:r.len≤fuel∧q.len≤fuel:=by simp only[PT.len]at hl;split at hl<;>omega
    refine wpAnyH_all rfl (fun e=>by rw[e]at hr;cases hr) fun j hj=>?_;obtain⟨_,oj,hoj,_⟩:=mem_ready.1 hj;have h4:=fL _ 0 h3 j _ (kJ hoj);rw[Nat.zero_add,(gR ha hoj).1 hj]at h4;have hji:j=i∨j=k:=by simpa using h4
    rcases hji with rfl|rfl
    ·exact wpOp_mono (fun a' w' h'=>⟨h'.1,eY hsel hQ r fuel _ _ _ _ h2 ha2 hl2.1 h'.1 h'.2⟩) h.1
    ·exact wpOp_mono (fun a' w' h'=>⟨h'.1,eY hsel hQ q fuel _ _ _ _ h5 ha3 hl2.2 h'.1 h'.2⟩) h.2
 | .three i r k q l u,fuel+1,listed,m,a,w,hc,ha,hl,hS,h=>by
  simp only[sR,Bool.and_eq_true]at hc;obtain⟨⟨⟨⟨⟨h1,hk⟩,hk2⟩,h2⟩,h5⟩,h6⟩:=hc
  cases hs:(oM md ops)[i]? with
  | none=>rw[hs]at h1;cases h1
  | some s=>
   rw[hs]at h1;obtain⟨o,ho,rfl⟩:=kK hs;simp only[Bool.and_eq_true]at h1;obtain⟨h1,h3⟩:=h1
   cases hs':(oM md ops)[k]? with
   | none=>rw[hs']at hk;cases hk
   | some s'=>
    cases hs'':(oM md ops)[l]? with
    | none=>rw[hs'']at hk2;cases hk2
    | some s''=>
     obtain⟨o',ho',rfl⟩:=kK hs';obtain⟨o'',ho'',rfl⟩:=kK hs'';have hlt:i<ops.size:=(Array.getElem?_eq_some_iff.1 ho).1;have hlt':k<ops.size:=(Array.getElem?_eq_some_iff.1 ho').1;have hlt'':l<ops.size:=(Array.getElem?_eq_some_iff.1 ho'').1;have hr:=(gR ha ho).2 h1;have ha2:=ha.set hlt;have ha3:=ha.set hlt';have ha4:=ha.set hlt'';have hl2:r.len≤fuel∧q.len≤fuel∧u.len≤fuel:=by simp only[PT.len]at hl;omega
     refine wpAnyH_all rfl (fun e=>by rw[e]at hr;cases hr) fun j hj=>?_;obtain⟨_,oj,hoj,_⟩:=mem_ready.1 hj;have h4:=fL _ 0 h3 j _ (kJ hoj);rw[Nat.zero_add,(gR ha hoj).1 hj]at h4;have hji:(j=i∨j=k)∨j=l:=by simpa using h4
     rcases hji with(rfl|rfl)|rfl
     ·exact wpOp_mono (fun a' w' h'=>⟨h'.1,eY hsel hQ r fuel _ _ _ _ h2 ha2 hl2.1 h'.1 h'.2⟩) h.1
     ·exact wpOp_mono (fun a' w' h'=>⟨h'.1,eY hsel hQ q fuel _ _ _ _ h5 ha3 hl2.2.1 h'.1 h'.2⟩) h.2.1
     ·exact wpOp_mono (fun a' w' h'=>⟨h'.1,eY hsel hQ u fuel _ _ _ _ h6 ha4 hl2.2.2 h'.1 h'.2⟩) h.2.2
theorem bY {id:Nat}{a:Act}{w:World}(sk:List Sk)(ord:PT)(hm:P.follows .mixedOrders=true)(hsel:Region.noSelect ops=true)(hsk:oM .any ops=sk)(hc:sR sk ord 0=true)(hl:decide (ord.len≤ops.size)=true)
  (hQ:∀c a d v w,Q (.panic c) (Act.put a d v) w→Q (.panic c) a w) (hS:S w.drew) (h:aN P ops Q S ord a w.drew):(Code.region id ops true).wp P Q a w:=
 wp_region_held (S:=S) hm (eY hsel hQ ord ops.size _ 0 a _ (by rw[hsk];exact hc) (Agree.start _) (of_decide_eq_true hl) hS h)
theorem aN.take {i:Nat}{oi:Oper}{v:Value}{r:PT}{a:Act}{w:World}(hi:ops.toList[i]? = some oi)(hw:Region.wanted oi (yielded ops a.tmps)=true)(hy:∀w,S w→(execOp a.eval oi).run P w=.ok (.value v) w)
  (h:aN P ops Q S r (a.put oi.dst v) w):aN P ops Q S (.take i r) a w:=⟨oi,v,by rw[←Array.getElem?_toList];exact hi,.inl ⟨hw,hy⟩,h⟩
theorem bF {i:Nat}{oi:Oper}{r:PT}{a:Act}{w:World}(hi:ops.toList[i]? = some oi)(hw:Region.wanted oi (yielded ops a.tmps)=true)
  (h:∀K:Act→World→Prop,Hid (∀a' w',S w'→aN P ops Q S r a' w'→K a' w')→oi.wp P a w K Q):wpOp P ops Q i (fun a' w'=>S w'∧aN P ops Q S r a' w') a w:=by
 rw[Array.getElem?_toList]at hi;unfold wpOp;simp only[hi,hw,if_true];exact .inl (h _ fun a' w' h1 h2=>⟨h1,h2⟩)
theorem aN.act {i:Nat}{oi:Oper}{r:PT}{a:Act}{w:World}(hi:ops.toList[i]? = some oi)(hw:Region.wanted oi (yielded ops a.tmps)=true)
  (h:∀K:Act→World→Prop,Hid (∀a' w',S w'→aN P ops Q S r a' w'→K a' w')→oi.wp P a w K Q):aN P ops Q S (.act i r) a w:=bF hi hw h
theorem aN.done {a:Act}{w:World}(h:Q .normal a w):aN P ops Q S .done a w:=h
end
end Go.Proofs.YtkbicfffokegeaaGreatDoor
namespace Go.Proofs.YtkbicfffokegeaaGreatDoor
set_option maxHeartbeats 16000000
open Go.Shelf Go.Proofs
def vM:Go.Shelf.Ren:=⟨fun|161=>114|231=>138|227=>139|233=>140|235=>141|228=>168|197=>169|151=>170|260=>191|152=>192|137=>176|119=>213|224=>195|225=>194|217=>193|266=>214|n=>n,fun|9=>9|4=>4|3=>3|5=>5|117=>202|116=>201|0=>0|124=>205|105=>231|21=>21|119=>146|46=>162|139=>274|138=>273|n=>n,fun|3=>3|4=>4|n=>n⟩
theorem aCJ:Go.Proofs.Lays.n161 Tryz.prog vM:={
 mixed:=by kernel_rfl
 f119:=Tryz.func213.trans (congrArg some (by kernel_rfl))
 f137:=Tryz.func176.trans (congrArg some (by kernel_rfl))
 f151:=Tryz.func170.trans (congrArg some (by kernel_rfl))
 f152:=Tryz.func192.trans (congrArg some (by kernel_rfl))
 f161:=Tryz.func114.trans (congrArg some (by kernel_rfl))
 f197:=Tryz.func169.trans (congrArg some (by kernel_rfl))
 f217:=Tryz.func193.trans (congrArg some (by kernel_rfl))
 f224:=Tryz.func195.trans (congrArg some (by kernel_rfl))
 f225:=Tryz.func194.trans (congrArg some (by kernel_rfl))
 f227:=Tryz.func139.trans (congrArg some (by kernel_rfl))
 f228:=Tryz.func168.trans (congrArg some (by kernel_rfl))
 f231:=Tryz.func138.trans (congrArg some (by kernel_rfl))
 f233:=Tryz.func140.trans (congrArg some (by kernel_rfl))
 f235:=Tryz.func141.trans (congrArg some (by kernel_rfl))
 f260:=Tryz.func191.trans (congrArg some (by kernel_rfl))
 f266:=Tryz.func214.trans (congrArg some (by kernel_rfl))
 t0:=Tryz.underlying0
 a0:=Tryz.isAgg0
 z0:=Tryz.sizeOf0
 v0:=Tryz.zeroValue0
 t3:=Tryz.underlying3
 a3:=Tryz.isAgg3
 z3:=Tryz.sizeOf3
 v3:=Tryz.zeroValue3
 t4:=Tryz.underlying4
 a4:=Tryz.isAgg4
 z4:=Tryz.sizeOf4
 v4:=Tryz.zeroValue4
 t5:=Tryz.underlying5
 a5:=Tryz.isAgg5
 z5:=Tryz.sizeOf5
 v5:=Tryz.zeroValue5
 t9:=Tryz.underlying9
 a9:=Tryz.isAgg9
 z9:=Tryz.sizeOf9
 v9:=Tryz.zeroValue9
 t21:=Tryz.underlying21
 a21:=Tryz.isAgg21
 z21:=Tryz.sizeOf21
 v21:=Tryz.zeroValue21
 t46:=Tryz.underlying162
 a46:=Tryz.isAgg162
 z46:=Tryz.sizeOf162
 v46:=Tryz.zeroValue162
 t105:=Tryz.underlying231
 a105:=Tryz.isAgg231
 z105:=Tryz.sizeOf231
 v105:=Tryz.zeroValue231
 t116:=Tryz.underlying201
 a116:=Tryz.isAgg201
 z116:=Tryz.sizeOf201
 t117:=Tryz.underlying202
 a117:=Tryz.isAgg202
 z117:=Tryz.sizeOf202
 v117:=Tryz.zeroValue202
 t119:=Tryz.underlying146
 a119:=Tryz.isAgg146
 z119:=Tryz.sizeOf146
 t124:=Tryz.underlying205
 a124:=Tryz.isAgg205
 z124:=Tryz.sizeOf205
 v124:=Tryz.zeroValue205
 t138:=Tryz.underlying273
 a138:=Tryz.isAgg273
 z138:=Tryz.sizeOf273
 v138:=Tryz.zeroValue273
 t139:=Tryz.underlying274
 a139:=Tryz.isAgg274
 z139:=Tryz.sizeOf274
 v139:=Tryz.zeroValue274
 g3:=by kernel_rfl
 g4:=by kernel_rfl }
def vP:Go.Shelf.Ren:=⟨fun|137=>176|217=>193|266=>214|n=>n,fun|9=>9|5=>5|3=>3|n=>n,fun|n=>n⟩
theorem aCM:Go.Proofs.Lays.n137 Tryz.prog vP:={
 mixed:=by kernel_rfl
 f137:=Tryz.func176.trans (congrArg some (by kernel_rfl))
 f217:=Tryz.func193.trans (congrArg some (by kernel_rfl))
 f266:=Tryz.func214.trans (congrArg some (by kernel_rfl))
 t3:=Tryz.underlying3
 a3:=Tryz.isAgg3
 z3:=Tryz.sizeOf3
 v3:=Tryz.zeroValue3
 t5:=Tryz.underlying5
 a5:=Tryz.isAgg5
 z5:=Tryz.sizeOf5
 v5:=Tryz.zeroValue5
 t9:=Tryz.underlying9
 a9:=Tryz.isAgg9
 z9:=Tryz.sizeOf9
 v9:=Tryz.zeroValue9 }
open Go.RowKit in
theorem mU (s:ByteArray)(c:Int)(w:World) :
  Calls Tryz.prog 176 #[.string s,.int .u8 c] w fun e w'=>e=.returned (.int .i64 (Lib.indexByte s.data.toList c.toNat.toUInt8))∧w'=w:=Any.strings_IndexByte aCM s c w
def vQ:Go.Shelf.Ren:=⟨fun|103=>172|210=>197|206=>142|n=>n,fun|9=>9|4=>4|24=>235|3=>3|n=>n,fun|n=>n⟩
theorem aCN:Go.Proofs.Lays.n103 Tryz.prog vQ:={
 mixed:=by kernel_rfl
 f103:=Tryz.func172.trans (congrArg some (by kernel_rfl))
 f206:=Tryz.func142.trans (congrArg some (by kernel_rfl))
 f210:=Tryz.func197.trans (congrArg some (by kernel_rfl))
 t3:=Tryz.underlying3
 a3:=Tryz.isAgg3
 z3:=Tryz.sizeOf3
 v3:=Tryz.zeroValue3
 t4:=Tryz.underlying4
 a4:=Tryz.isAgg4
 z4:=Tryz.sizeOf4
 v4:=Tryz.zeroValue4
 t9:=Tryz.underlying9
 a9:=Tryz.isAgg9
 z9:=Tryz.sizeOf9
 v9:=Tryz.zeroValue9
 t24:=Tryz.underlying235
 a24:=Tryz.isAgg235
 z24:=Tryz.sizeOf235
 v24:=Tryz.zeroValue235 }
open Go.RowKit in
theorem iR (s p:ByteArray)(w:World) :
  Calls Tryz.prog 172 #[.string s,.string p] w fun e w'=>e=.returned (.tuple #[.string ⟨(Lib.trimPrefix s.data.toList p.data.toList).toArray⟩,.bool (Lib.hasPrefix s.data.toList p.data.toList)])∧w'=w:=Any.strings_CutPrefix aCN s p w
def tY:Go.Shelf.Ren:=⟨fun|174=>148|247=>174|245=>175|287=>200|279=>201|280=>202|281=>203|282=>204|321=>223|322=>224|316=>225|171=>227|205=>226|243=>243|246=>255|283=>263|284=>264|285=>265|286=>266|129=>182|317=>272|318=>273|319=>274|320=>275|337=>280|338=>281|n=>n,fun|9=>9|3=>3|2=>2|75=>208|85=>209|4=>4|167=>257|5=>5|53=>38|175=>258|46=>162|168=>260|37=>285|0=>0|210=>288|21=>21|127=>302|145=>305|143=>303|171=>319|173=>321|212=>325|51=>166|20=>20|213=>326|232=>328|233=>329|80=>330|n=>n,fun|15=>5|16=>6|17=>8|18=>9|19=>10|n=>n⟩
theorem tJ:Go.Proofs.LaysC.n174 Tryz.prog tY:={
 mixed:=by kernel_rfl
 f129:=Tryz.func182.trans (congrArg some (by kernel_rfl))
 f171:=Tryz.func227.trans (congrArg some (by kernel_rfl))
 f174:=Tryz.func148.trans (congrArg some (by kernel_rfl))
 f205:=Tryz.func226.trans (congrArg some (by kernel_rfl))
 f243:=Tryz.func243.trans (congrArg some (by kernel_rfl))
 f245:=Tryz.func175.trans (congrArg some (by kernel_rfl))
 f246:=Tryz.func255.trans (congrArg some (by kernel_rfl))
 f247:=Tryz.func174.trans (congrArg some (by kernel_rfl))
 f279:=Tryz.func201.trans (congrArg some (by kernel_rfl))
 f280:=Tryz.func202.trans (congrArg some (by kernel_rfl))
 f281:=Tryz.func203.trans (congrArg some (by kernel_rfl))
 f282:=Tryz.func204.trans (congrArg some (by kernel_rfl))
 f283:=Tryz.func263.trans (congrArg some (by kernel_rfl))
 f284:=Tryz.func264.trans (congrArg some (by kernel_rfl))
 f285:=Tryz.func265.trans (congrArg some (by kernel_rfl))
 f286:=Tryz.func266.trans (congrArg some (by kernel_rfl))
 f287:=Tryz.func200.trans (congrArg some (by kernel_rfl))
 f316:=Tryz.func225.trans (congrArg some (by kernel_rfl))
 f317:=Tryz.func272.trans (congrArg some (by kernel_rfl))
 f318:=Tryz.func273.trans (congrArg some (by kernel_rfl))
 f319:=Tryz.func274.trans (congrArg some (by kernel_rfl))
 f320:=Tryz.func275.trans (congrArg some (by kernel_rfl))
 f321:=Tryz.func223.trans (congrArg some (by kernel_rfl))
 f322:=Tryz.func224.trans (congrArg some (by kernel_rfl))
 f337:=Tryz.func280.trans (congrArg some (by kernel_rfl))
 f338:=Tryz.func281.trans (congrArg some (by kernel_rfl))
 t0:=Tryz.underlying0
 a0:=Tryz.isAgg0
 z0:=Tryz.sizeOf0
 v0:=Tryz.zeroValue0
 t2:=Tryz.underlying2
 a2:=Tryz.isAgg2
 z2:=Tryz.sizeOf2
 v2:=Tryz.zeroValue2
 t3:=Tryz.underlying3
 a3:=Tryz.isAgg3
 z3:=Tryz.sizeOf3
 v3:=Tryz.zeroValue3
 t4:=Tryz.underlying4
 a4:=Tryz.isAgg4
 z4:=Tryz.sizeOf4
 v4:=Tryz.zeroValue4
 t5:=Tryz.underlying5
 a5:=Tryz.isAgg5
 z5:=Tryz.sizeOf5
 v5:=Tryz.zeroValue5
 t9:=Tryz.underlying9
 a9:=Tryz.isAgg9
 z9:=Tryz.sizeOf9
 v9:=Tryz.zeroValue9
 t20:=Tryz.underlying20
 a20:=Tryz.isAgg20
 z20:=Tryz.sizeOf20
 v20:=Tryz.zeroValue20
 t21:=Tryz.underlying21
 a21:=Tryz.isAgg21
 z21:=Tryz.sizeOf21
 v21:=Tryz.zeroValue21
 t37:=Tryz.underlying285
 a37:=Tryz.isAgg285
 z37:=Tryz.sizeOf285
 v37:=Tryz.zeroValue285
 t46:=Tryz.underlying162
 a46:=Tryz.isAgg162
 z46:=Tryz.sizeOf162
 v46:=Tryz.zeroValue162
 t51:=Tryz.underlying166
 a51:=Tryz.isAgg166
 z51:=Tryz.sizeOf166
 v51:=Tryz.zeroValue166
 t53:=Tryz.underlying38
 a53:=Tryz.isAgg38
 z53:=Tryz.sizeOf38
 v53:=Tryz.zeroValue38
 t75:=Tryz.underlying208
 a75:=Tryz.isAgg208
 z75:=Tryz.sizeOf208
 v75:=Tryz.zeroValue208
 t85:=Tryz.underlying209
 a85:=Tryz.isAgg209
 z85:=Tryz.sizeOf209
 v85:=Tryz.zeroValue209
 t127:=Tryz.underlying302
 a127:=Tryz.isAgg302
 z127:=Tryz.sizeOf302
 v127:=Tryz.zeroValue302
 t143:=Tryz.underlying303
 a143:=Tryz.isAgg303
 z143:=Tryz.sizeOf303
 v143:=Tryz.zeroValue303
 t145:=Tryz.underlying305
 a145:=Tryz.isAgg305
 z145:=Tryz.sizeOf305
 v145:=Tryz.zeroValue305
 t167:=Tryz.underlying257
 a167:=Tryz.isAgg257
 z167:=Tryz.sizeOf257
 v167:=Tryz.zeroValue257
 t168:=Tryz.underlying260
 a168:=Tryz.isAgg260
 z168:=Tryz.sizeOf260
 v168:=Tryz.zeroValue260
 t171:=Tryz.underlying319
 a171:=Tryz.isAgg319
 z171:=Tryz.sizeOf319
 v171:=Tryz.zeroValue319
 t173:=Tryz.underlying321
 a173:=Tryz.isAgg321
 z173:=Tryz.sizeOf321
 v173:=Tryz.zeroValue321
 t175:=Tryz.underlying258
 a175:=Tryz.isAgg258
 z175:=Tryz.sizeOf258
 v175:=Tryz.zeroValue258
 t210:=Tryz.underlying288
 a210:=Tryz.isAgg288
 z210:=Tryz.sizeOf288
 v210:=Tryz.zeroValue288
 t212:=Tryz.underlying325
 a212:=Tryz.isAgg325
 z212:=Tryz.sizeOf325
 v212:=Tryz.zeroValue325
 t213:=Tryz.underlying326
 a213:=Tryz.isAgg326
 z213:=Tryz.sizeOf326
 t232:=Tryz.underlying328
 a232:=Tryz.isAgg328
 z232:=Tryz.sizeOf328
 v232:=Tryz.zeroValue328
 t233:=Tryz.underlying329
 a233:=Tryz.isAgg329
 z233:=Tryz.sizeOf329
 v233:=Tryz.zeroValue329
 g15:=by kernel_rfl
 g16:=by kernel_rfl
 g17:=by kernel_rfl
 g18:=by kernel_rfl
 g19:=by kernel_rfl
 t80:=Tryz.underlying330
 a80:=Tryz.isAgg330
 z80:=Tryz.sizeOf330
 v80:=Tryz.zeroValue330
 i0:=by kernel_rfl
 i2:=by kernel_rfl
 i3:=by kernel_rfl
 i4:=by kernel_rfl
 i5:=by kernel_rfl
 i9:=by kernel_rfl
 i20:=by kernel_rfl
 i21:=by kernel_rfl
 i37:=by kernel_rfl
 i46:=by kernel_rfl
 i51:=by kernel_rfl
 i53:=by kernel_rfl
 i75:=by kernel_rfl
 i80:=by kernel_rfl
 i85:=by kernel_rfl
 i127:=by kernel_rfl
 i143:=by kernel_rfl
 i145:=by kernel_rfl
 i167:=by kernel_rfl
 i168:=by kernel_rfl
 i171:=by kernel_rfl
 i173:=by kernel_rfl
 i175:=by kernel_rfl
 i210:=by kernel_rfl
 i212:=by kernel_rfl
 i232:=by kernel_rfl
 i233:=by kernel_rfl
 m15:=by kernel_rfl
 m16:=by kernel_rfl
 m17:=by kernel_rfl
 m18:=by kernel_rfl
 m19:=by kernel_rfl
 c0:=by kernel_rfl
 c2:=by kernel_rfl
 c3:=by kernel_rfl
 c4:=by kernel_rfl
 c5:=by kernel_rfl
 c9:=by kernel_rfl
 c20:=by kernel_rfl
 c21:=by kernel_rfl
 c37:=by kernel_rfl
 c46:=by kernel_rfl
 c51:=by kernel_rfl
 c53:=by kernel_rfl
 c75:=by kernel_rfl
 c80:=by kernel_rfl
 c85:=by kernel_rfl
 c127:=by kernel_rfl
 c143:=by kernel_rfl
 c145:=by kernel_rfl
 c167:=by kernel_rfl
 c168:=by kernel_rfl
 c171:=by kernel_rfl
 c173:=by kernel_rfl
 c175:=by kernel_rfl
 c210:=by kernel_rfl
 c212:=by kernel_rfl
 c213:=by kernel_rfl
 c232:=by kernel_rfl
 c233:=by kernel_rfl }
open Go.RowKit in
theorem iE (s:ByteArray)(hmax:s.size≤9223372036854775806)(v:Int)(h:Lib.parseIntB 32 s.data.toList=.ok v)(w:World) :
  Calls Tryz.prog 148 #[.string s,.int .i64 10,.int .i64 32] w fun e w'=>e=.returned (.tuple #[.int .i64 v,.nilIface])∧(w'=w∨∃t,w'=Lib.bytesWorld w 5 t):=Any.strconv_ParseInt_10_at32_ok tJ s hmax v h w
open Go.RowKit in
theorem gI (s:ByteArray)(hlim:s.size≤281474976710656)(h:Lib.parseIntB 32 s.data.toList=.range)(ev:Value)(w:World)(hv:w.cell? ⟨6,0,none⟩=some ev)(hev:ev=.nilIface∨∃te pe,ev=.iface te pe) :
  Calls Tryz.prog 148 #[.string s,.int .i64 10,.int .i64 32] w fun e w'=>∃N,e=.returned (.tuple #[.int .i64 (Lib.intSat 32 s.data.toList),.iface 260 (.pointer (some ⟨N,0,none⟩))])∧w.heap.size≤N∧w'.heap[N]? = some (.cells #[.string ⟨#[80,97,114,115,101,73,110,116]⟩,.string s,ev] 288 (0,0))∧Below w.heap.size w w':=Any.strconv_ParseInt_10_at32_range tJ s hlim h ev w hv hev
def vO:Go.Shelf.Ren:=⟨fun|145=>116|220=>143|219=>171|217=>193|225=>194|224=>195|267=>196|266=>214|314=>215|n=>n,fun|9=>9|4=>4|59=>170|3=>3|5=>5|46=>162|146=>275|51=>166|n=>n,fun|1=>2|n=>n⟩
theorem aCL:Go.Proofs.Lays.n145 Tryz.prog vO:={
 mixed:=by kernel_rfl
 f145:=Tryz.func116.trans (congrArg some (by kernel_rfl))
 f217:=Tryz.func193.trans (congrArg some (by kernel_rfl))
 f219:=Tryz.func171.trans (congrArg some (by kernel_rfl))
 f220:=Tryz.func143.trans (congrArg some (by kernel_rfl))
 f224:=Tryz.func195.trans (congrArg some (by kernel_rfl))
 f225:=Tryz.func194.trans (congrArg some (by kernel_rfl))
 f266:=Tryz.func214.trans (congrArg some (by kernel_rfl))
 f267:=Tryz.func196.trans (congrArg some (by kernel_rfl))
 f314:=Tryz.func215.trans (congrArg some (by kernel_rfl))
 t3:=Tryz.underlying3
 a3:=Tryz.isAgg3
 z3:=Tryz.sizeOf3
 v3:=Tryz.zeroValue3
 t4:=Tryz.underlying4
 a4:=Tryz.isAgg4
 z4:=Tryz.sizeOf4
 v4:=Tryz.zeroValue4
 t5:=Tryz.underlying5
 a5:=Tryz.isAgg5
 z5:=Tryz.sizeOf5
 v5:=Tryz.zeroValue5
 t9:=Tryz.underlying9
 a9:=Tryz.isAgg9
 z9:=Tryz.sizeOf9
 v9:=Tryz.zeroValue9
 t46:=Tryz.underlying162
 a46:=Tryz.isAgg162
 z46:=Tryz.sizeOf162
 v46:=Tryz.zeroValue162
 t51:=Tryz.underlying166
 a51:=Tryz.isAgg166
 z51:=Tryz.sizeOf166
 v51:=Tryz.zeroValue166
 t59:=Tryz.underlying170
 a59:=Tryz.isAgg170
 z59:=Tryz.sizeOf170
 v59:=Tryz.zeroValue170
 t146:=Tryz.underlying275
 a146:=Tryz.isAgg275
 z146:=Tryz.sizeOf275
 v146:=Tryz.zeroValue275
 g1:=by kernel_rfl }
open Go.RowKit Go.Lib in
theorem mW (s sep:ByteArray)(m:Int)(w:World)(hs:s.size<4294967281)(hm:w.cell? ⟨2,0,none⟩=some (.int .i64 m)) :
  Calls Tryz.prog 116 #[.string s,.string sep] w fun e w'=>e=.returned (.tuple #[.string ⟨(Lib.cut s.data.toList sep.data.toList).1.toArray⟩,.string ⟨(Lib.cut s.data.toList sep.data.toList).2.1.toArray⟩,.bool (Lib.cut s.data.toList sep.data.toList).2.2])∧∃n,w'=w.drewN n:=Any.strings_Cut aCL s sep m w hs hm
def yA:Go.Shelf.Ren:=⟨fun|99=>115|206=>142|n=>n,fun|9=>9|4=>4|3=>3|n=>n,fun|n=>n⟩
theorem aEY:Go.Proofs.Lays.n99 Tryz.prog yA:={
 mixed:=by kernel_rfl
 f99:=Tryz.func115.trans (congrArg some (by kernel_rfl))
 f206:=Tryz.func142.trans (congrArg some (by kernel_rfl))
 t3:=Tryz.underlying3
 a3:=Tryz.isAgg3
 z3:=Tryz.sizeOf3
 v3:=Tryz.zeroValue3
 t4:=Tryz.underlying4
 a4:=Tryz.isAgg4
 z4:=Tryz.sizeOf4
 v4:=Tryz.zeroValue4
 t9:=Tryz.underlying9
 a9:=Tryz.isAgg9
 z9:=Tryz.sizeOf9
 v9:=Tryz.zeroValue9 }
open Go.RowKit Go.Lib in
theorem mV (s p:ByteArray)(w:World) :
  Calls Tryz.prog 115 #[.string s,.string p] w fun e w'=>e=.returned (.bool (Lib.hasPrefix s.data.toList p.data.toList))∧w'=w:=Any.strings_HasPrefix aEY s p w
def vR:Go.Shelf.Ren:=⟨fun|101=>232|208=>246|206=>142|n=>n,fun|9=>9|4=>4|3=>3|n=>n,fun|n=>n⟩
theorem aCO:Go.Proofs.Lays.n101 Tryz.prog vR:={
 mixed:=by kernel_rfl
 f101:=Tryz.func232.trans (congrArg some (by kernel_rfl))
 f206:=Tryz.func142.trans (congrArg some (by kernel_rfl))
 f208:=Tryz.func246.trans (congrArg some (by kernel_rfl))
 t3:=Tryz.underlying3
 a3:=Tryz.isAgg3
 z3:=Tryz.sizeOf3
 v3:=Tryz.zeroValue3
 t4:=Tryz.underlying4
 a4:=Tryz.isAgg4
 z4:=Tryz.sizeOf4
 v4:=Tryz.zeroValue4
 t9:=Tryz.underlying9
 a9:=Tryz.isAgg9
 z9:=Tryz.sizeOf9
 v9:=Tryz.zeroValue9 }
open Go.RowKit Go.Lib in
theorem mO (s p:ByteArray)(w:World) :
  Calls Tryz.prog 232 #[.string s,.string p] w fun e w'=>e=.returned (.string ⟨(Lib.trimPrefix s.data.toList p.data.toList).toArray⟩)∧w'=w:=Any.strings_TrimPrefix aCO s p w
def tX:Go.Shelf.Ren:=⟨fun|157=>78|229=>93|199=>94|261=>113|311=>136|312=>137|n=>n,fun|9=>9|31=>71|3=>3|5=>5|4=>4|119=>146|0=>0|40=>102|152=>163|21=>21|154=>165|51=>166|141=>168|196=>191|193=>188|198=>194|49=>192|194=>189|201=>197|226=>229|46=>162|227=>230|n=>n,fun|0=>0|6=>1|n=>n⟩
theorem aBp:Go.Proofs.LaysM.n157 Tryz.prog tX:={
 mixed:=by kernel_rfl
 f157:=Tryz.func78.trans (congrArg some (by kernel_rfl))
 f199:=Tryz.func94.trans (congrArg some (by kernel_rfl))
 f229:=Tryz.func93.trans (congrArg some (by kernel_rfl))
 f261:=Tryz.func113.trans (congrArg some (by kernel_rfl))
 f311:=Tryz.func136.trans (congrArg some (by kernel_rfl))
 f312:=Tryz.func137.trans (congrArg some (by kernel_rfl))
 t0:=Tryz.underlying0
 a0:=Tryz.isAgg0
 z0:=Tryz.sizeOf0
 v0:=Tryz.zeroValue0
 t3:=Tryz.underlying3
 a3:=Tryz.isAgg3
 z3:=Tryz.sizeOf3
 v3:=Tryz.zeroValue3
 t4:=Tryz.underlying4
 a4:=Tryz.isAgg4
 z4:=Tryz.sizeOf4
 v4:=Tryz.zeroValue4
 t5:=Tryz.underlying5
 a5:=Tryz.isAgg5
 z5:=Tryz.sizeOf5
 v5:=Tryz.zeroValue5
 t9:=Tryz.underlying9
 a9:=Tryz.isAgg9
 z9:=Tryz.sizeOf9
 v9:=Tryz.zeroValue9
 t21:=Tryz.underlying21
 a21:=Tryz.isAgg21
 z21:=Tryz.sizeOf21
 v21:=Tryz.zeroValue21
 t31:=Tryz.underlying71
 a31:=Tryz.isAgg71
 z31:=Tryz.sizeOf71
 v31:=Tryz.zeroValue71
 t40:=Tryz.underlying102
 a40:=Tryz.isAgg102
 z40:=Tryz.sizeOf102
 v40:=Tryz.zeroValue102
 t46:=Tryz.underlying162
 a46:=Tryz.isAgg162
 z46:=Tryz.sizeOf162
 v46:=Tryz.zeroValue162
 t49:=Tryz.underlying192
 a49:=Tryz.isAgg192
 z49:=Tryz.sizeOf192
 v49:=Tryz.zeroValue192
 t51:=Tryz.underlying166
 a51:=Tryz.isAgg166
 z51:=Tryz.sizeOf166
 v51:=Tryz.zeroValue166
 t119:=Tryz.underlying146
 a119:=Tryz.isAgg146
 z119:=Tryz.sizeOf146
 t141:=Tryz.underlying168
 a141:=Tryz.isAgg168
 z141:=Tryz.sizeOf168
 v141:=Tryz.zeroValue168
 t152:=Tryz.underlying163
 a152:=Tryz.isAgg163
 z152:=Tryz.sizeOf163
 v152:=Tryz.zeroValue163
 t154:=Tryz.underlying165
 a154:=Tryz.isAgg165
 z154:=Tryz.sizeOf165
 v154:=Tryz.zeroValue165
 t193:=Tryz.underlying188
 a193:=Tryz.isAgg188
 z193:=Tryz.sizeOf188
 v193:=Tryz.zeroValue188
 t194:=Tryz.underlying189
 a194:=Tryz.isAgg189
 z194:=Tryz.sizeOf189
 v194:=Tryz.zeroValue189
 t196:=Tryz.underlying191
 a196:=Tryz.isAgg191
 z196:=Tryz.sizeOf191
 v196:=Tryz.zeroValue191
 t198:=Tryz.underlying194
 a198:=Tryz.isAgg194
 z198:=Tryz.sizeOf194
 v198:=Tryz.zeroValue194
 t201:=Tryz.underlying197
 a201:=Tryz.isAgg197
 z201:=Tryz.sizeOf197
 v201:=Tryz.zeroValue197
 t226:=Tryz.underlying229
 a226:=Tryz.isAgg229
 z226:=Tryz.sizeOf229
 v226:=Tryz.zeroValue229
 t227:=Tryz.underlying230
 a227:=Tryz.isAgg230
 z227:=Tryz.sizeOf230
 v227:=Tryz.zeroValue230
 g0:=by kernel_rfl
 g6:=by kernel_rfl
 i0:=by kernel_rfl
 i3:=by kernel_rfl
 i4:=by kernel_rfl
 i5:=by kernel_rfl
 i9:=by kernel_rfl
 i21:=by kernel_rfl
 i31:=by kernel_rfl
 i40:=by kernel_rfl
 i46:=by kernel_rfl
 i49:=by kernel_rfl
 i51:=by kernel_rfl
 i141:=by kernel_rfl
 i152:=by kernel_rfl
 i154:=by kernel_rfl
 i193:=by kernel_rfl
 i194:=by kernel_rfl
 i196:=by kernel_rfl
 i198:=by kernel_rfl
 i201:=by kernel_rfl
 i226:=by kernel_rfl
 i227:=by kernel_rfl
 m0:=by kernel_rfl
 m6:=by kernel_rfl }
open Go.RowKit Go.Lib in
theorem lX (s:ByteArray)(w:World)(hs:s.size<4294967281)(hascii:∀(j:Nat) b,s.data.toList[j]? = some b→b.toNat<128)(htab:Lib.TabIs Tryz.prog w "strings.asciiSpace" .u8 Lib.asciiSpaceTab) :
  Calls Tryz.prog 78 #[.string s] w fun e w'=>
   e=.returned (.slice (some ⟨w.heap.size,0,none⟩) (Lib.fields s.data.toList).length (Lib.fields s.data.toList).length)∧w'=w.alloc (.cells ((Lib.fields s.data.toList).map fun l=>Value.string ⟨l.toArray⟩).toArray 9):=Any.strings_Fields_laid aBp s w hs hascii htab
def vN:Go.Shelf.Ren:=⟨fun|153=>216|152=>192|226=>231|227=>139|228=>168|137=>176|119=>213|224=>195|225=>194|217=>193|266=>214|n=>n,fun|9=>9|3=>3|4=>4|5=>5|21=>21|117=>202|116=>201|0=>0|46=>162|124=>205|n=>n,fun|n=>n⟩
theorem aCK:Go.Proofs.Lays.n153 Tryz.prog vN:={
 mixed:=by kernel_rfl
 f119:=Tryz.func213.trans (congrArg some (by kernel_rfl))
 f137:=Tryz.func176.trans (congrArg some (by kernel_rfl))
 f152:=Tryz.func192.trans (congrArg some (by kernel_rfl))
 f153:=Tryz.func216.trans (congrArg some (by kernel_rfl))
 f217:=Tryz.func193.trans (congrArg some (by kernel_rfl))
 f224:=Tryz.func195.trans (congrArg some (by kernel_rfl))
 f225:=Tryz.func194.trans (congrArg some (by kernel_rfl))
 f226:=Tryz.func231.trans (congrArg some (by kernel_rfl))
 f227:=Tryz.func139.trans (congrArg some (by kernel_rfl))
 f228:=Tryz.func168.trans (congrArg some (by kernel_rfl))
 f266:=Tryz.func214.trans (congrArg some (by kernel_rfl))
 t0:=Tryz.underlying0
 a0:=Tryz.isAgg0
 z0:=Tryz.sizeOf0
 v0:=Tryz.zeroValue0
 t3:=Tryz.underlying3
 a3:=Tryz.isAgg3
 z3:=Tryz.sizeOf3
 v3:=Tryz.zeroValue3
 t4:=Tryz.underlying4
 a4:=Tryz.isAgg4
 z4:=Tryz.sizeOf4
 v4:=Tryz.zeroValue4
 t5:=Tryz.underlying5
 a5:=Tryz.isAgg5
 z5:=Tryz.sizeOf5
 v5:=Tryz.zeroValue5
 t9:=Tryz.underlying9
 a9:=Tryz.isAgg9
 z9:=Tryz.sizeOf9
 v9:=Tryz.zeroValue9
 t21:=Tryz.underlying21
 a21:=Tryz.isAgg21
 z21:=Tryz.sizeOf21
 v21:=Tryz.zeroValue21
 t46:=Tryz.underlying162
 a46:=Tryz.isAgg162
 z46:=Tryz.sizeOf162
 v46:=Tryz.zeroValue162
 t116:=Tryz.underlying201
 a116:=Tryz.isAgg201
 z116:=Tryz.sizeOf201
 t117:=Tryz.underlying202
 a117:=Tryz.isAgg202
 z117:=Tryz.sizeOf202
 v117:=Tryz.zeroValue202
 t124:=Tryz.underlying205
 a124:=Tryz.isAgg205
 z124:=Tryz.sizeOf205
 v124:=Tryz.zeroValue205 }
open Go.RowKit Go.Lib in
theorem kQ (s chars:ByteArray)(w:World)(hs:s.size<4294967281)(hcs:chars.size<4294967281)(has:∀(j:Nat) b,s.data.toList[j]? = some b→b.toNat<128)(hac:∀(j:Nat) b,chars.data.toList[j]? = some b→b.toNat<128) :
  Calls Tryz.prog 216 #[.string s,.string chars] w fun e w'=>e=.returned (.int .i64 (Lib.indexAny s.data.toList chars.data.toList))∧Below w.heap.size w w':=Any.strings_IndexAny_laid aCK (by kernel_rfl) s chars w hs hcs has hac
end Go.Proofs.YtkbicfffokegeaaGreatDoor
