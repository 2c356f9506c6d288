/-
  Layer 12's checks answer true, whatever program is handed in. (part 11 of 35) Conditions: none beside what the card ties.
-/
import Derived.Test.YtkbicfffokegeaaGreatDoorUad
import Derived.Test.YtkbicfffokegeaaGreatDoorUai
import Derived.Test.YtkbicfffokegeaaGreatDoorUae
import Derived.Test.YtkbicfffokegeaaGreatDoorUaj
import Derived.Deep.CutBlock
import Derived.Deep.DeepCutAuto
import Derived.Deep.LoopGhost
namespace Go.Proofs.YtkbicfffokegeaaGreatDoor
set_option maxHeartbeats 16000000
open Go.RowKit
set_option maxRecDepth 100000
structure Sk where
 dst:Option Nat
 looks:List Nat
 after:List Nat
def skel (md:Region.Mode)(ops:Array Oper):List Sk:=ops.toList.map fun o=>⟨o.dst,o.looksAt ops,(o.after.toList.filter (Region.binds md)).map (·.on)⟩
def rdyS (s:Sk)(m i:Nat):Bool:=!m.testBit i && s.after.all fun j=>m.testBit j
def apartS (x y:Sk):Bool:=
  (match x.dst with
   | some d=>!y.looks.contains d && y.dst != some d
   | none=>true) &&
  (match y.dst with
   | some d=>!x.looks.contains d
   | none=>true)
def allI (f:Nat→Sk→Bool):Nat→List Sk→Bool
 | _,[]=>true
 | k,s::r=>f k s && allI f (k+1) r
theorem allI_spec {f:Nat→Sk→Bool}:∀(l:List Sk) (k:Nat),allI f k l=true→∀i s,l[i]? = some s→f (k+i) s=true
 | [],_,_,i,s,h=>by simp at h
 | t::r,k,h,i,s,hi=>by
  simp only[allI,Bool.and_eq_true]at h;rcases i with _|i
  ·simp at hi
   subst hi;exact h.1
  ·have:=allI_spec r (k+1) h.2 i s (by simpa using hi)
   rw[show k+(i+1)=k+1+i by omega];exact this
def chk (sk:List Sk):List (Nat×Bool)→Nat→Bool
 | [],m=>allI (fun j s=>!rdyS s m j) 0 sk
 | (i,b)::r,m=>(match sk[i]? with
   | none=>false
   | some s=>rdyS s m i && (if b then allI (fun j t=>j == i || m.testBit j || t.after.contains i || apartS s t) 0 sk else allI (fun j t=>j == i || !rdyS t m j) 0 sk)) && chk sk r (m ||| 1 <<< i)
structure Agree (listed:Array Bool) (m n:Nat):Prop where
 size:listed.size=n
 bit:∀j,listed.getD j false=m.testBit j
theorem Agree.start (n:Nat):Agree (Array.replicate n false) 0 n:=by
 refine⟨by simp,fun j=>?_⟩;rw[Nat.zero_testBit,Array.getD_eq_getD_getElem?]
 by_cases h:j<n
 ·rw[Array.getElem?_replicate,if_pos h];rfl
 ·rw[Array.getElem?_replicate,if_neg h];rfl
theorem Agree.set {listed:Array Bool}{m n i:Nat}(h:Agree listed m n)(hi:i<n):Agree (listed.setIfInBounds i true) (m ||| 1 <<< i) n:=by
 refine⟨by rw[Array.size_setIfInBounds,h.size],fun j=>?_⟩;rw[Nat.testBit_or,Nat.one_shiftLeft,Nat.testBit_two_pow,←h.bit j,Array.getD_eq_getD_getElem?,Array.getD_eq_getD_getElem?,Array.getElem?_setIfInBounds]
 by_cases e:i=j
 ·subst e
  rw[if_pos rfl,if_pos (by rw[h.size];exact hi)]
  simp
 ·rw[if_neg e]
  simp[e]
theorem Agree.open_ {listed:Array Bool}{m n j:Nat}(h:Agree listed m n)(hj:j<n):listed.getD j true=m.testBit j:=by
 rw[←h.bit j,Array.getD_eq_getD_getElem?,Array.getD_eq_getD_getElem?,Array.getElem?_eq_getElem (by rw[h.size];exact hj)];rfl
section
variable {P:Program} {ops:Array Oper} {Q:Exit→Act→World→Prop} {S:World→Prop}
theorem skel_at {md:Region.Mode}{i:Nat}{s:Sk}(h:(skel md ops)[i]? = some s):∃o,ops[i]? = some o∧s=⟨o.dst,o.looksAt ops,(o.after.toList.filter (Region.binds md)).map (·.on)⟩:=by
 unfold skel at h;rw[List.getElem?_map]at h;rw[←Array.getElem?_toList]
 cases ho:ops.toList[i]? with
 | none=>rw[ho]at h;cases h
 | some o=>
  rw[ho]at h;exact⟨o,rfl,(Option.some.inj h).symm⟩
theorem skel_of {md:Region.Mode}{i:Nat}{o:Oper}(h:ops[i]? = some o):(skel md ops)[i]? = some ⟨o.dst,o.looksAt ops,(o.after.toList.filter (Region.binds md)).map (·.on)⟩:=by
 unfold skel;rw[List.getElem?_map,Array.getElem?_toList,h];rfl
theorem rdy_iff {md:Region.Mode}{listed:Array Bool}{m i:Nat}{o:Oper}(ha:Agree listed m ops.size)(hi:ops[i]? = some o):i∈Region.ready md ops listed↔rdyS ⟨o.dst,o.looksAt ops,(o.after.toList.filter (Region.binds md)).map (·.on)⟩ m i=true:=by
 have hlt:i<ops.size:=(Array.getElem?_eq_some_iff.1 hi).1;rw[mem_ready,ha.open_ hlt];unfold rdyS;simp only[Bool.and_eq_true,Bool.not_eq_true',List.all_eq_true,List.mem_map,List.mem_filter,forall_exists_index,and_imp];constructor
 ·rintro⟨h1,o',ho',h2⟩
  rw[hi]at ho';obtain rfl:=Option.some.inj ho';exact⟨h1,fun j e he hb hj=>by rw[←hj,←ha.bit];exact h2 e (by simpa using he) hb⟩
 ·rintro⟨h1,h2⟩
  exact⟨h1,o,hi,fun e he hb=>by rw[ha.bit];exact h2 _ e (by simpa using he) hb rfl⟩
def Walk (P:Program)(ops:Array Oper)(Q:Exit→Act→World→Prop)(S:World→Prop):List (Nat×Bool)→Act→World→Prop
 | [],a,w=>Q .normal a w
 | (i,true)::r,a,w=>∃oi v,ops[i]? = some oi∧YieldsIf P ops S oi v a∧Walk P ops Q S r (a.put oi.dst v) w
 | (i,false)::r,a,w=>wpOp P ops Q i (fun a' w'=>S w'∧Walk P ops Q S r a' w') a w
theorem walk_spec (hsel:Region.noSelect ops=true)(hQ:∀c a d v w,Q (.panic c) (Act.put a d v) w→Q (.panic c) a w){md:Region.Mode} :
  ∀(ord:List (Nat×Bool)) (fuel:Nat) (listed:Array Bool) (m:Nat) (a:Act) (w:World),chk (skel md ops) ord m=true→Agree listed m ops.size→ord.length≤fuel→S w→Walk P ops Q S ord a w→wpAnyH P md ops Q S fuel listed a w
 | [],fuel,listed,m,a,w,hc,ha,_,_,h=>by
  refine wpAnyH_done ?_ h fuel;rw[List.eq_nil_iff_forall_not_mem];intro i hi;obtain⟨_,o,ho,_⟩:=mem_ready.1 hi;have h1:=(rdy_iff ha ho).1 hi;have h2:=allI_spec _ 0 hc i _ (skel_of ho);rw[Nat.zero_add,h1]at h2;cases h2
 | (i,b)::r,0,listed,m,a,w,hc,ha,hl,hS,h=>by simp at hl
 | (i,b)::r,fuel+1,listed,m,a,w,hc,ha,hl,hS,h=>by
  simp only[chk,Bool.and_eq_true]at hc;obtain⟨h1,h2⟩:=hc
  cases hs:(skel md ops)[i]? with
  | none=>rw[hs]at h1;cases h1
  | some s=>
   rw[hs]at h1;obtain⟨o,ho,rfl⟩:=skel_at hs;simp only[Bool.and_eq_true]at h1;obtain⟨h1,h3⟩:=h1;have hlt:i<ops.size:=(Array.getElem?_eq_some_iff.1 ho).1;have hr:=(rdy_iff ha ho).2 h1;have ha2:=ha.set hlt;have hl2:r.length≤fuel:=by simpa using hl
   cases b with
   | true=>
    obtain⟨o',v,ho',hy,hw⟩:=h;rw[ho]at ho';obtain rfl:=Option.some.inj ho';simp only[if_true]at h3;refine wpAnyH_first ho (Region.noSelect_spec hsel) (fun c a w h=>hQ c a _ _ w h) fuel listed a w (fun j oj hj hne hun hno=>?_) hr hy hS (walk_spec hsel hQ r fuel _ _ _ _ h2 ha2 hl2 hS hw);have h4:=allI_spec _ 0 h3 j _ (skel_of hj);rw[Nat.zero_add]at h4;have hjl:j<ops.size:=(Array.getElem?_eq_some_iff.1 hj).1;rw[ha.open_ hjl]at hun;simp only[Bool.or_eq_true,beq_iff_eq,hne,hun,Bool.false_eq_true,false_or,List.contains_eq_mem,decide_eq_true_eq,List.mem_map,List.mem_filter]at h4;rcases h4 with⟨e,⟨he,hb⟩,hei⟩|h4
    ·exact absurd hei (hno e (by simpa using he) hb)
    ·exact h4
   | false=>
    simp only[Bool.false_eq_true,if_false]at h3;refine wpAnyH_all rfl (fun e=>by rw[e]at hr;cases hr) fun j hj=>?_;obtain⟨_,oj,hoj,_⟩:=mem_ready.1 hj;have h4:=allI_spec _ 0 h3 j _ (skel_of hoj);rw[Nat.zero_add,(rdy_iff ha hoj).1 hj]at h4;have hji:j=i:=by simpa using h4
    subst hji;exact wpOp_mono (fun a' w' h'=>⟨h'.1,walk_spec hsel hQ r fuel _ _ _ _ h2 ha2 hl2 h'.1 h'.2⟩) h
theorem region_plan {id:Nat}{a:Act}{w:World}(sk:List Sk)(ord:List (Nat×Bool))(hm:P.follows .mixedOrders=true)(hsel:Region.noSelect ops=true)(hsk:skel .any ops=sk)(hc:chk sk ord 0=true)(hl:decide (ord.length≤ops.size)=true)
  (hQ:∀c a d v w,Q (.panic c) (Act.put a d v) w→Q (.panic c) a w) (hS:S w.drew) (h:Walk P ops Q S ord a w.drew):(Code.region id ops true).wp P Q a w:=
 wp_region_held (S:=S) hm (walk_spec hsel hQ ord ops.size _ 0 a _ (by rw[hsk];exact hc) (Agree.start _) (of_decide_eq_true hl) hS h)
theorem Walk.take {i:Nat}{oi:Oper}{v:Value}{r:List (Nat×Bool)}{a:Act}{w:World}(hi:ops.toList[i]? = some oi)(hw:Region.wanted oi (yielded ops a.tmps)=true)(hy:∀w,S w→(execOp a.eval oi).run P w=.ok (.value v) w)
  (h:Walk P ops Q S r (a.put oi.dst v) w):Walk P ops Q S ((i,true)::r) a w:=⟨oi,v,by rw[←Array.getElem?_toList];exact hi,.inl ⟨hw,hy⟩,h⟩
theorem Walk.skip {i:Nat}{oi:Oper}{r:List (Nat×Bool)}{a:Act}{w:World}(hi:ops.toList[i]? = some oi)(hw:Region.wanted oi (yielded ops a.tmps)=false)
  (h:Walk P ops Q S r (a.put oi.dst undef) w):Walk P ops Q S ((i,true)::r) a w:=⟨oi,undef,by rw[←Array.getElem?_toList];exact hi,.inr ⟨hw,rfl⟩,h⟩
theorem Walk.act {i:Nat}{oi:Oper}{r:List (Nat×Bool)}{a:Act}{w:World}(hi:ops.toList[i]? = some oi)(hw:Region.wanted oi (yielded ops a.tmps)=true)
  (h:∀K:Act→World→Prop,Hid (∀a' w',S w'→Walk P ops Q S r a' w'→K a' w')→oi.wp P a w K Q):Walk P ops Q S ((i,false)::r) a w:=by
 rw[Array.getElem?_toList]at hi;show wpOp P ops Q i _ a w;unfold wpOp;simp only[hi,hw,if_true];exact .inl (h _ fun a' w' h1 h2=>⟨h1,h2⟩)
theorem Walk.pass {i:Nat}{oi:Oper}{r:List (Nat×Bool)}{a:Act}{w:World}(hi:ops.toList[i]? = some oi)(hw:Region.wanted oi (yielded ops a.tmps)=false)(hS:S w)
  (h:Walk P ops Q S r (a.put oi.dst undef) w):Walk P ops Q S ((i,false)::r) a w:=by
 rw[Array.getElem?_toList]at hi;show wpOp P ops Q i _ a w;unfold wpOp;simp only[hi,hw,Bool.false_eq_true,if_false];exact⟨hS,h⟩
theorem Walk.done {a:Act}{w:World}(h:Q .normal a w):Walk P ops Q S [] a w:=h
end
def cmpS (n:Int)(s:Bool)(t:Int):Int:=if n<t then -1 else if n=t∧s=false then 0 else 1
def gK (k:Int):Int:=gZ (k / 4503599627370496) (k % 4503599627370496)
theorem gK_lt {k k':Int}(h0:0≤k)(h:k<k'):gK k<gK k':=by
 refine gZ_mono ?_ ?_ ?_ ?_ ?_ ?_ ?_<;>omega
theorem gK_of {u:Nat}{W:Int}(h0:0≤W)(h1:W≤9007199254740992)(hu:0<u→4503599627370496≤W):gK ((u:Int)*4503599627370496+W)=W*2 ^ u:=by
 unfold gK gZ
 by_cases a:W<4503599627370496
 ·have:u=0:=by omega
  subst this;rw[if_pos (by omega)]
  simp
  omega
 ·rw[if_neg (by omega)]
  by_cases b:W<9007199254740992
  ·rw[show(((u:Int)*4503599627370496+W) / 4503599627370496-1).toNat=u by omega,show 4503599627370496+((u:Int)*4503599627370496+W) % 4503599627370496=W by omega]
  ·have:W=9007199254740992:=by omega
   subst this;rw[show(((u:Int)*4503599627370496+9007199254740992) / 4503599627370496-1).toNat=u+1 by omega,show 4503599627370496+((u:Int)*4503599627370496+9007199254740992) % 4503599627370496=4503599627370496 by omega,Int.pow_succ,Int.mul_comm (2 ^ u) 2,←Int.mul_assoc];rfl
def K0 (n:Int):Int:=(rU n:Int)*4503599627370496+rW n
theorem K0_nn {n:Int}(h:0≤n):0≤K0 n:=by have:=(rW_bd h).1;unfold K0;omega
theorem n_parts {n:Int}:n=(2*rW n+b2i (rH n))*2 ^ rU n+n % 2 ^ rU n:=by
 have d:=Int.ediv_mul_add_emod n (2 ^ rU n)
 have e:n / 2 ^ rU n=2*rW n+b2i (rH n):=by
  unfold rW rH b2i;rw[(left_two (rU n) 1).1];simp only[Int.pow_one,decide_eq_true_eq]
  split<;>omega
 rw[e]at d;omega
theorem K0_floor {n:Int}(h:0≤n):2*gK (K0 n)≤n∧n<2*gK (K0 n+1):=by
 obtain⟨h0,h1,h2⟩:=rW_bd h;have e1:=gK_of (u:=rU n) h0 (by omega) h2;have e2:=gK_of (u:=rU n) (W:=rW n+1) (by omega) (by omega) (by intro h;have:=h2 h;omega);unfold K0;rw[Int.add_assoc,e1,e2];have p:=n_parts (n:=n);have hp:=pow_pos' (rU n);have r0:=Int.emod_nonneg n (Int.ne_of_gt hp);have r1:=Int.emod_lt_of_pos n hp;have b:=b2i_bd (rH n);generalize (2:Int) ^ rU n=z at *;generalize n % z=r at *;generalize b2i (rH n)=c at *;generalize rW n=W at *;rw[p];have k1:0≤c*z:=Int.mul_nonneg b.1 (Int.le_of_lt hp);have k2:c*z≤1*z:=Int.mul_le_mul_of_nonneg_right b.2 (Int.le_of_lt hp);rw[Int.add_mul,Int.add_mul,Int.mul_assoc];omega
theorem key_of (md:Int)(neg:Bool)(n:Int)(s:Bool):rKey md neg n s=K0 n+b2i (rAway md neg n s):=rfl
theorem ask_exact {n:Int}{s:Bool}(h:0≤n):(cmpS n s (2*gK (K0 n)) == 0)=rX n s:=by
 obtain⟨h0,h1,h2⟩:=rW_bd h;have e1:=gK_of (u:=rU n) h0 (by omega) h2;have p:=n_parts (n:=n);have hp:=pow_pos' (rU n);have r0:=Int.emod_nonneg n (Int.ne_of_gt hp);unfold K0;rw[e1];unfold rX rB cmpS;generalize (2:Int) ^ rU n=z at *;generalize n % z=r at *;generalize rW n=W at *;have e3:2*(W*z)=2*W*z:=by rw[Int.mul_assoc]
 rw[e3]
 cases hH:rH n
 ·rw[hH,show b2i false=0 by rfl,Int.add_zero]at p
  by_cases hr:r=0
  ·subst hr
   rw[show n=2*W*z by omega];cases s<;>simp
  ·rw[if_neg (by omega),if_neg (by omega)]
   simp[hr]
 ·rw[hH,show b2i true=1 by rfl,Int.add_mul]at p
  rw[if_neg (by omega),if_neg (by omega)]
  simp
theorem kS_parts {k:Int}{s:Bool}(h0:0≤k)(h1:k≤9218868437227405312):fS (k+sg s)=s∧(k+sg s) % 9223372036854775808=k∧fE (k+sg s)=k / 4503599627370496∧fM (k+sg s)=k % 4503599627370496∧Word (k+sg s):=by
 have hw:Word (k+sg s):=by
  have:=sg_bd s
  constructor<;>omega
 unfold fS fE fM;cases s
 ·rw[show sg false=0 by rfl]
  refine⟨by simp;omega,by omega,by omega,by omega,hw⟩
 ·rw[show sg true=9223372036854775808 by rfl]
  refine⟨by simp;omega,by omega,by omega,by omega,hw⟩
theorem kS_class {k:Int}{s:Bool}(h0:0≤k)(h1:k≤9218868437227405312):fC (k+sg s)≠4∧(fC (k+sg s)<3↔k≤9218868437227405311):=by
 obtain⟨-, -,c,d, -⟩:=kS_parts (s:=s) h0 h1;unfold fC;rw[c,d];constructor
 iterate 2
  ·(repeat' split)<;>omega
theorem kS_Z {k:Int}{s:Bool}(h0:0≤k)(h1:k≤9218868437227405312):fZ (k+sg s)=sv s (gK k):=by
 obtain⟨a, -,c,d, -⟩:=kS_parts (s:=s) h0 h1;unfold fZ gK;rw[a,c,d]
theorem rX_far {n:Int}{s:Bool}(h:rX n s=true)(md:Int)(neg:Bool):rAway md neg n s=false:=by
 unfold rX at h;unfold rAway rX;generalize rH n=a at *;generalize rB n s=b at *;generalize decide (rW n % 2=1)=o at *
 (repeat' split)<;>revert h<;>cases neg<;>cases a<;>cases b<;>cases o<;>decide
theorem K0_own {k:Int}(h0:0≤k):K0 (2*gK k)=k:=by
 have hz:0≤gK k:=(gZ_lt (by omega) (by omega) (by omega)).1;obtain⟨f1,f2⟩:=K0_floor (n:=2 * gK k) (by omega);have hn:=K0_nn (n:=2*gK k) (by omega);rcases Int.lt_trichotomy (K0 (2 * gK k)) k with h|h|h
 ·rcases Int.lt_or_eq_of_le (show K0 (2 * gK k)+1≤k by omega)with c|c
  ·have:=gK_lt (by omega) c
   omega
  ·rw[c]at f2
   omega
 ·exact h
 ·have:=gK_lt h0 h
  omega
theorem own_exact {k:Int}(h0:0≤k):rX (2*gK k) false=true:=by
 have hz:0≤gK k:=(gZ_lt (by omega) (by omega) (by omega)).1;rw[←ask_exact (by omega),K0_own h0];unfold cmpS;rw[if_neg (by omega),if_pos ⟨rfl,rfl⟩];rfl
theorem own_stays {k:Int}(h0:0≤k)(h1:k≤9218868437227405311)(md:Int)(neg:Bool):rF md neg (2*gK k) false=k+sg neg∧rG md neg (2*gK k) false=0:=by
 have hk:rKey md neg (2*gK k) false=k:=by
  rw[key_of,K0_own h0,rX_far (own_exact h0)];show k+0=k;omega
 unfold rF rMag rG;rw[hk,if_pos h1,if_pos h1,own_exact h0];exact⟨rfl,rfl⟩
def dD:Int:=((dB 1074:Nat):Int)
section
variable {p q:Int}
end
def fMg (f:Int):Int:=gK (f % 9223372036854775808)
def wput2 (w:World)(g:Nat)(a b:Value):World:=(w.setCell ⟨g,0,none⟩ a).setCell ⟨g,1,none⟩ b
section
variable {w w':World} {g:Nat} {t:TypeId}
theorem Blk.put2 {x y:Value}(k:Blk w g t #[x,y])(a b:Value):Blk (wput2 w g a b) g t #[a,b]:=by
 have h1:=(k.set_ 0 a).set_ 1 b;unfold wput2
 simpa using h1
theorem bel_put2 {B:Nat}(h:Below B w w')(hg:B≤g)(a b:Value):Below B w (wput2 w' g a b):=
 (h.setCell (p:=⟨g,0,none⟩) hg a).setCell (p:=⟨g,1,none⟩) hg b
theorem Blk.two {a b:Value}(h:Blk w g t #[a,b]):w.cell? ⟨g,0,none⟩=some a∧w.cell? ⟨g,1,none⟩=some b∧w.frozen? ⟨g,0,none⟩=false∧w.frozen? ⟨g,1,none⟩=false:=
 ⟨h.cell 0,h.cell 1,h.frozen 0,h.frozen 1⟩
end
end Go.Proofs.YtkbicfffokegeaaGreatDoor
