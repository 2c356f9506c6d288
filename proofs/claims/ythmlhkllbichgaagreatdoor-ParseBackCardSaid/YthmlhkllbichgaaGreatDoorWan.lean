/-
  ParseBack holds, tied to the program's text. (part 14 of 41) Conditions: none beside what the card ties.
-/
import Derived.BigQuiet
import Derived.Test.YthmlhkllbichgaaGreatDoorWam
import Derived.Test.YthmlhkllbichgaaGreatDoorWaj
import Derived.Test.YthmlhkllbichgaaGreatDoorWah
import Derived.Test.YthmlhkllbichgaaGreatDoorWal
namespace Go.Proofs.YthmlhkllbichgaaGreatDoor
set_option maxHeartbeats 16000000
open Go.RowKit
set_option maxRecDepth 100000
theorem nts_str (n:Nat)(w:World)(hn:n≤5000):Calls Tryz.prog 166 #[.string ⟨#[48]⟩,.int .i64 (n:Int)] w fun e w'=>e=.returned (.string ⟨(nts n).toArray⟩)∧Below w.heap.size w w':=by
 have h:(⟨#[48]⟩:ByteArray).size=1:=rfl
 exact sh_strings_Repeat ⟨#[48]⟩ n w (by omega) (by rw[h];omega)
theorem layOut1 (d r:ByteArray)(q P:Int)(w:World)(hP:(d.size:Int)+q=P)(hd:1≤d.size)(hd':d.size≤20)(hq:-2000≤q)(hq':q≤2000)(k:Nat)(hk:q=(k:Int))(h1:P≤21)(F:d++⟨(nts k).toArray⟩++⟨#[46,48]⟩=r) :
  Calls Tryz.prog 131 #[.string d,.int .i64 q] w fun x w'=>x=.returned (.string r)∧Below w.heap.size w w':=by
 subst hk
 have RP:=Hj fun w=>nts_str k w (by omega)
 have FF:=Hj F
 clear F
 have hz:(⟨(nts k).toArray⟩:ByteArray).size≤3000:=by rw[str_size,(nts_dig k).2];omega
 generalize (⟨(nts k).toArray⟩:ByteArray)=z at *
 have hz2:(d++z).size≤4000:=by rw[ByteArray.size_append];omega
 have h2:(0:Int)≤(k:Int):=by omega
 have o1:IntKind.i64.wrap ((d.size:Int)+(k:Int))=P:=by rw[IntKind.wrap_i64];omega
 go_enter Tryz.func131,Tryz.ntmps131
 go_wp2_with fail
 refine(RP.out _).mono ?_
 rintro x w1 ⟨rfl,hb1⟩
 go_wp2_with fail
 go_ret
 exact⟨by rw[←FF.out];rfl,hb1⟩
theorem layOut2 (d r:ByteArray)(q P:Int)(w:World)(hP:(d.size:Int)+q=P)(hd:1≤d.size)(hd':d.size≤20)(hq:-2000≤q)(hq':q≤2000)(k:Nat)(hk:P=(k:Int))(h1:q<0)(h2:0<P)(F:d.extract 0 k++⟨#[46]⟩++d.extract k d.size=r) :
  Calls Tryz.prog 131 #[.string d,.int .i64 q] w fun x w'=>x=.returned (.string r)∧Below w.heap.size w w':=by
 subst hk
 have FF:=Hj F
 clear F
 have h3:k≤d.size:=by omega
 have h4:¬(0≤q):=by omega
 have h5:(0:Int)≤(k:Int):=by omega
 have h6:(k:Int)≤(d.size:Int):=by omega
 have o1:IntKind.i64.wrap ((d.size:Int)+q)=(k:Int):=by rw[IntKind.wrap_i64];omega
 go_enter Tryz.func131,Tryz.ntmps131
 go_upto_region 5 with fail
 have h7:0<k:=by omega
 go_quiet (fail)
 go_wp2_with fail
 go_ret
 exact⟨by rw[←FF.out];rfl,below_drewN _ _⟩
theorem layOut3 (d r:ByteArray)(q P:Int)(w:World)(hP:(d.size:Int)+q=P)(hd:1≤d.size)(hd':d.size≤20)(hq:-2000≤q)(hq':q≤2000)(k:Nat)(hk:P = -(k:Int))(h2:k≤5)(F:(⟨#[48,46]⟩:ByteArray)++⟨(nts k).toArray⟩++d=r) :
  Calls Tryz.prog 131 #[.string d,.int .i64 q] w fun x w'=>x=.returned (.string r)∧Below w.heap.size w w':=by
 subst hk
 have RP:=Hj fun w=>nts_str k w (by omega)
 have FF:=Hj F
 clear F
 have hz:(⟨(nts k).toArray⟩:ByteArray).size≤3000:=by rw[str_size,(nts_dig k).2];omega
 generalize (⟨(nts k).toArray⟩:ByteArray)=z at *
 have hz2:((⟨#[48,46]⟩:ByteArray)++z).size≤4000:=by rw[ByteArray.size_append,show(⟨#[48,46]⟩:ByteArray).size=2 from rfl];omega
 have h4:¬(0≤q):=by omega
 have h5:q<0:=by omega
 have h6:¬(0 < -(k:Int)):=by omega
 have h7:-(k:Int)≤0:=by omega
 have h8:-5 ≤ -(k:Int):=by omega
 have o1:IntKind.i64.wrap ((d.size:Int)+q) = -(k:Int):=by rw[IntKind.wrap_i64];omega
 have o2:IntKind.i64.wrap (k:Int)=(k:Int):=by rw[IntKind.wrap_i64];omega
 go_enter Tryz.func131,Tryz.ntmps131
 go_wp2_with fail
 refine(RP.out _).mono ?_
 rintro x w1 ⟨rfl,hb1⟩
 go_wp2_with fail
 go_ret
 exact⟨by rw[←FF.out];rfl,hb1⟩
theorem ext_all (d:ByteArray):d.extract 0 1++⟨#[]⟩++d.extract 1 d.size=d:=by
 have h:=str_of (s:=d.extract 0 1++⟨#[]⟩++d.extract 1 d.size) (l:=d.data.toList) (by
  simp only[ByteArray.data_append,Array.toList_append,ext_front,ext_back]
  show d.data.toList.take 1++[]++d.data.toList.drop 1=_
  rw[List.append_nil]
  exact List.take_append_drop 1 _)
 rw[h]
theorem layOut4 (d r:ByteArray)(q P:Int)(w:World)(hP:(d.size:Int)+q=P)(hd:1≤d.size)(hd':d.size≤20)(hq:-2000≤q)(hq':q≤2000)(hE:EnvOk w)(hh:0≤q∧21<P∨q<0∧P < -5)(F:d.extract 0 1++(if d.size=1 then⟨#[]⟩ else⟨#[46]⟩)++d.extract 1 d.size++⟨#[101]⟩++⟨(Lib.itoa (P-1)).toArray⟩=r) :
  Calls Tryz.prog 131 #[.string d,.int .i64 q] w fun x w'=>x=.returned (.string r)∧Below w.heap.size w w':=by
 have FF:=Hj F
 have RP:=Hj fun w hE=>itoa8 (P-1) (by omega) (by omega) w hE
 have o1:IntKind.i64.wrap ((d.size:Int)+q)=P:=by rw[IntKind.wrap_i64];omega
 have o2:IntKind.i64.wrap (P-1)=P-1:=by rw[IntKind.wrap_i64];omega
 have hd1:(1:Int)≤(d.size:Int):=by omega
 have hi:(⟨(Lib.itoa (P-1)).toArray⟩:ByteArray).size≤6:=by
  have nd:∀n:Nat,n<10000→(Lib.decDigits n).length≤4:=fun n hn=>by
   rw[Lib.decDigits_length]
   by_cases h:n<10
   ·rw[Lib.nDigits_small h];omega
   ·rw[Lib.nDigits_big h]
    by_cases h':n / 10<10
    ·rw[Lib.nDigits_small h'];omega
    ·rw[Lib.nDigits_big h']
     by_cases h'':n / 10 / 10<10
     ·rw[Lib.nDigits_small h''];omega
     ·rw[Lib.nDigits_big h'',Lib.nDigits_small (by omega)];omega
  rw[str_size]
  unfold Lib.itoa
  split
  ·have:=nd (P-1).natAbs (by omega)
   simp only[List.length_cons]
   omega
  ·have:=nd (P-1).toNat (by omega)
   omega
 clear F
 generalize (⟨(Lib.itoa (P-1)).toArray⟩:ByteArray)=z at *
 obtain⟨h,h1,h2,h3⟩|⟨h,h1,h2,h3,h4⟩:(0≤q∧¬P≤21∧¬q<0∧¬P≤0)∨(¬0≤q∧q<0∧¬0<P∧P≤0∧¬ -5≤P):=by omega
 all_goals
  have e2:=ext_back d 1
  by_cases h1s:d.size=1
  ·have hemp:(d.extract 1 d.size).toList.isEmpty=true:=by
    rw[Lib.toList_data,e2,List.isEmpty_iff,List.drop_eq_nil_iff,←Lib.size_eq]
    omega
   rw[if_pos h1s,ext_all]at FF
   clear e2 h1s
   go_enter Tryz.func131,Tryz.ntmps131
   go_upto_region 8 with fail
   go_quiet (fail)
   go_wp2_with fail
   refine(RP.out _ (hE.below (below_drewN _ _))).mono ?_
   rintro x w1 ⟨rfl,hb1⟩
   have HB:=Hj (bel_trans (below_drewN w _) hb1)
   clear hb1
   go_wp2_with fail
   go_ret
   exact⟨by rw[←FF.out];rfl,HB.out⟩
  ·have hemp:(d.extract 1 d.size).toList.isEmpty=false:=by
    rw[Lib.toList_data,e2]
    cases hl:d.data.toList.drop 1 with
    | nil=>
     rw[List.drop_eq_nil_iff,←Lib.size_eq]at hl
     omega
    | cons a l=>rfl
   rw[if_neg h1s]at FF
   clear e2 h1s
   go_enter Tryz.func131,Tryz.ntmps131
   go_upto_region 8 with fail
   go_quiet (fail)
   go_wp2_with fail
   refine(RP.out _ (hE.below (below_drewN _ _))).mono ?_
   rintro x w1 ⟨rfl,hb1⟩
   have HB:=Hj (bel_trans (below_drewN w _) hb1)
   clear hb1
   go_wp2_with fail
   go_ret
   exact⟨by rw[←FF.out];rfl,HB.out⟩
theorem layOut_any (d:List UInt8)(q:Int)(w:World)(hd:1≤d.length)(hd':d.length≤20)(hq:-2000≤q)(hq':q≤2000)(hE:EnvOk w) :
  Calls Tryz.prog 131 #[.string ⟨d.toArray⟩,.int .i64 q] w fun x w'=>x=.returned (.string ⟨(loT d q).toArray⟩)∧Below w.heap.size w w':=by
 have sz:=str_size d
 have sd:=str_data d
 obtain⟨D,hD⟩:∃D:ByteArray,D=⟨d.toArray⟩:=⟨_,rfl⟩
 rw[←hD]at sz sd ⊢
 clear hD
 obtain⟨P,hP⟩:∃P:Int,(D.size:Int)+q=P:=⟨_,rfl⟩
 have hP':(d.length:Int)+q=P:=by rw[←sz];exact hP
 unfold loT
 rw[hP']
 by_cases c1:0≤q∧P≤21
 ·rw[if_pos c1]
  exact layOut1 D _ q P w hP (by omega) (by omega) hq hq' q.toNat (by omega) c1.2 (str_of (by simp[sd]))
 rw[if_neg c1]
 by_cases c2:q<0∧0<P
 ·rw[if_pos c2]
  exact layOut2 D _ q P w hP (by omega) (by omega) hq hq' P.toNat (by omega) c2.1 c2.2 (str_of (by
   simp only[ByteArray.data_append,Array.toList_append,ext_front,ext_back,sd]
   simp))
 rw[if_neg c2]
 by_cases c3:P≤0 ∧ -5≤P
 ·rw[if_pos c3]
  exact layOut3 D _ q P w hP (by omega) (by omega) hq hq' (-P).toNat (by omega) (by omega) (str_of (by simp[sd]))
 rw[if_neg c3]
 refine layOut4 D _ q P w hP (by omega) (by omega) hq hq' hE (by omega) (str_of ?_)
 simp only[ByteArray.data_append,Array.toList_append,ext_front,ext_back,sd]
 by_cases h1:D.size=1
 ·have e:d.drop 1=[]:=by rw[List.drop_eq_nil_iff];omega
  rw[if_pos h1,if_pos e]
  simp
 ·have e:¬d.drop 1=[]:=by rw[List.drop_eq_nil_iff];omega
  rw[if_neg h1,if_neg e]
  simp
def prT (f:Int):List UInt8:=
 if fC f=4 then[110,97,110] else(if fS f then[45] else[])++(if fC f=3 then[105,110,102]else if fC f=0 then[48,46,48]else loT (dgD f) (dgQ f))
theorem print_any (f:Int)(hf:Word f)(w:World)(hE:EnvOk w) :
  Calls Tryz.prog 83 #[.int .u64 f] w fun x w'=>x=.returned (.string ⟨(prT f).toArray⟩)∧Below w.heap.size w w':=by
 have PT:=Hj fun w=>parts_any f hf w
 have CL:=Hj fun w=>class_any f hf w
 have cb:=cls_bd f
 obtain⟨r,hr⟩:∃r:ByteArray,r=⟨(prT f).toArray⟩:=⟨_,rfl⟩
 have R:Hid (∀s:ByteArray,s.data.toList=(if fC f=4 then[110,97,110] else(if fS f then[45] else[])++(if fC f=3 then[105,110,102]else if fC f=0 then[48,46,48]else loT (dgD f) (dgQ f)))→s=r):=fun s h=>by rw[hr];exact str_of h
 rw[←hr]
 clear hr
 by_cases hc:fC f=1∨fC f=2
 ·have DG:=Hj fun w hE=>digits_any f hf w hE
  obtain⟨k1,k2,k3,k4, -⟩:=dg_known hf hc
  have l1:1≤(dgD f).length:=by
   have:=(digB_all k1).2
   cases h:dgD f with
   | nil=>exact absurd h this
   | cons a l=>simp
  have LO:=Hj fun w hE=>layOut_any (dgD f) (dgQ f) w l1 (by omega) (by omega) (by omega) hE
  have R':Hid (∀s:ByteArray,s.data.toList=(if fS f then[45] else[])++loT (dgD f) (dgQ f)→s=r):=fun s h=>R.out s (by rw[h,if_neg (show ¬fC f=4 by omega),if_neg (show ¬fC f=3 by omega),if_neg (show ¬fC f=0 by omega)])
  have sz:(⟨(loT (dgD f) (dgQ f)).toArray⟩:ByteArray).size≤26:=by rw[str_size];exact(rd_lo k1 ⟨k3,k4⟩ k2).2.2.1
  have sd:=str_data (loT (dgD f) (dgQ f))
  generalize loT (dgD f) (dgQ f)=lo at *
  generalize (⟨(dgD f).toArray⟩:ByteArray)=d at *
  generalize (⟨lo.toArray⟩:ByteArray)=t at *
  generalize dgQ f=q at *
  have h1:(fC f == 4)=false:=by simp;omega
  have h2:(fC f == 3)=false:=by simp;omega
  have h3:(fC f == 0)=false:=by simp;omega
  clear R hc k1 k2 k3 k4 l1 cb
  generalize fC f=c at *
  cases hs:fS f
  all_goals
   rw[hs]at PT R'
   have SD:=Hj sd
   clear sd
   go_enter Tryz.func83,Tryz.ntmps83
   go_wp2_with fail
   refine(PT.out _).mono ?_
   rintro x w1 ⟨rfl,rfl⟩
   go_wp2_with fail
   refine(CL.out _).mono ?_
   rintro x w1 ⟨rfl,rfl⟩
   go_wp2_with fail
   refine(DG.out _ hE).mono ?_
   rintro x w2 ⟨rfl,hb2⟩
   have HB2:=Hj hb2
   clear hb2
   go_wp2_with fail
   refine(LO.out _ (hE.below HB2.out)).mono ?_
   rintro x w3 ⟨rfl,hb3⟩
   have HB3:=Hj (bel_trans HB2.out hb3)
   clear hb3
   go_wp2_with fail
   go_ret
   refine⟨?_,HB3.out⟩
   first
    | (rw[←R'.out t (by rw[SD.out];rfl)];rfl)
    | (rw[←R'.out (⟨#[45]⟩++t) (by simp[SD.out])];rfl)
 ·have c3:fC f=0∨fC f=3∨fC f=4:=by omega
  clear hE cb hc
  generalize fC f=c at *
  generalize loT (dgD f) (dgQ f)=lo at *
  cases hs:fS f
  all_goals
   rw[hs]at PT R
   rcases c3 with rfl|rfl|rfl
   all_goals
    go_enter Tryz.func83,Tryz.ntmps83
    go_wp2_with fail
    refine(PT.out _).mono ?_
    rintro x w1 ⟨rfl,rfl⟩
    go_wp2_with fail
    refine(CL.out _).mono ?_
    rintro x w1 ⟨rfl,rfl⟩
    go_wp2_with fail
    go_ret
    refine⟨?_,Below.refl _ _⟩
    first
     | (rw[←R.out ⟨#[110,97,110]⟩ (by simp)];rfl)
     | (rw[←R.out ⟨#[105,110,102]⟩ (by simp)];rfl)
     | (rw[←R.out ⟨#[48,46,48]⟩ (by simp)];rfl)
     | (rw[←R.out (⟨#[45]⟩++⟨#[105,110,102]⟩) (by simp)];rfl)
     | (rw[←R.out (⟨#[45]⟩++⟨#[48,46,48]⟩) (by simp)];rfl)
theorem nrF_eq {p q p' q':Int}(hp:0<p)(hq:0<q)(hp':0<p')(hq':0<q')(h:p*q'=p'*q):nrF p q=nrF p' q':=by
 unfold nrF
 rw[if_neg (by omega),if_neg (by omega)]
 obtain⟨a1,a2⟩:=nX_scale (p:=p) (q:=q) hq'
 obtain⟨b1,b2⟩:=nX_scale (p:=p') (q:=q') hq
 rw[←a1,←a2,←b1,←b2,h,Int.mul_comm q q']
theorem near_shift {x d:List UInt8}{e q:Int}(j:Nat)(hx:dval x=dval d*10 ^ j)(he:e=q-j)(h0:0<dval d):nearV x e=nearV d q:=by
 have T:=p10_tri e (j:Int)
 rw[show e+(j:Int)=q by omega,p10_one (show -(j:Int)≤0 by omega),Int.mul_one,p10_nat]at T
 have hj:(0:Int)<10 ^ j:=Int.pow_pos (by decide)
 show nrF (dval x*p10 e) (p10 (-e))=nrF (dval d*p10 q) (p10 (-q))
 refine nrF_eq (Int.mul_pos (by rw[hx];exact Int.mul_pos h0 hj) (p10_pos _)) (p10_pos _) (Int.mul_pos h0 (p10_pos _)) (p10_pos _) ?_
 rw[hx]
 calc dval d*10 ^ j*p10 e*p10 (-q)=dval d*(p10 e*10 ^ j*p10 (-q)):=by ac_rfl
  _=dval d*(p10 q*p10 (-e)):=by rw[T]
  _=dval d*p10 q*p10 (-e):=by ac_rfl
def asc (l:List UInt8):Bool:=l.all fun b=>decide (b.toNat<128)
theorem asc_dig {l:List UInt8}(h:l.all isDig=true):asc l=true:=List.all_eq_true.2 fun b hb=>by
 have:=List.all_eq_true.1 h b hb
 unfold isDig at this
 simp only[Bool.and_eq_true,decide_eq_true_eq]at this
 rw[decide_eq_true_eq]
 omega
theorem asc_app {l m:List UInt8}(h:asc l=true)(k:asc m=true):asc (l++m)=true:=by
 unfold asc at *
 rw[List.all_append,h,k]
 rfl
theorem asc_cons {b:UInt8}{m:List UInt8}(h:b.toNat<128)(k:asc m=true):asc (b::m)=true:=by
 unfold asc at *
 rw[List.all_cons,k,decide_eq_true h]
 rfl
theorem asc_itoa (z:Int):asc (Lib.itoa z)=true:=by
 unfold Lib.itoa
 split
 ·exact asc_cons (by decide) (asc_dig (dec_dig _).1)
 ·exact asc_dig (dec_dig _).1
theorem asc_lo {d:List UInt8}(q:Int)(h:d.all isDig=true):asc (loT d q)=true:=by
 unfold loT
 split
 ·exact asc_app (asc_app (asc_dig h) (asc_dig (nts_dig _).1)) (by decide)
 ·split
  ·exact asc_app (asc_dig (all_take h _)) (asc_cons (by decide) (asc_dig (all_drop h _)))
  ·split
   ·exact asc_cons (by decide) (asc_cons (by decide) (asc_app (asc_dig (nts_dig _).1) (asc_dig h)))
   ·refine asc_app (asc_app (asc_app (asc_dig (all_take h _)) ?_) (asc_dig (all_drop h _))) (asc_cons (by decide) (asc_itoa _))
    split<;>decide
def prB (f:Int):List UInt8:=if fC f=0 then[48,46,48]else loT (dgD f) (dgQ f)
theorem prB_is {f:Int}(hf:Word f)(hc:fC f<3):prT f=(if fS f then[45] else[])++prB f∧asc (prB f)=true∧(prB f).length≤26∧psF (prB f)=fAb f∧psE (prB f)=0:=by
 have cb:=cls_bd f
 have e1:prT f=(if fS f then[45] else[])++prB f:=by
  unfold prT prB
  rw[if_neg (show ¬fC f=4 by omega),if_neg (show ¬fC f=3 by omega)]
 by_cases h0:fC f=0
 ·have e2:prB f=[48,46,48]:=by unfold prB;rw[if_pos h0]
  rw[e1,e2]
  refine⟨rfl,by decide,by decide,?_,by decide +kernel⟩
  rw[show psF [48,46,48]=0 by decide +kernel]
  unfold fAb
  rw[if_neg (by omega)]
  have hf0:=hf.1
  have hf1:=hf.2
  have:fE f=0∧fM f=0:=by
   unfold fC at h0
   split at h0
   ·split at h0<;>omega
   ·split at h0
    ·split at h0
     ·constructor<;>assumption
     ·omega
    ·omega
  unfold fE fM at this
  omega
 ·have hc':fC f=1∨fC f=2:=by omega
  obtain⟨k1,k2,k3,k4,k5⟩:=dg_known hf hc'
  obtain⟨-,a0,a1,ac, -, -⟩:=ab_fin hf hc'
  have e2:prB f=loT (dgD f) (dgQ f):=by unfold prB;rw[if_neg h0]
  rw[e1,e2]
  obtain⟨r1,r2,r3,r4,r5,j,r6,r7⟩:=rd_lo k1 ⟨k3,k4⟩ k2
  have vd:0<dval (dgD f):=by
   have v0:=(dval_bd (digB_all k1).1).1
   rcases Int.lt_or_eq_of_le v0 with c|c
   ·exact c
   ·exfalso
    unfold nearV nrF at k5
    rw[←c,Int.zero_mul,if_pos (.inl rfl)]at k5
    omega
  have NV:nearV (rdD (loT (dgD f) (dgQ f))) (rdE (loT (dgD f) (dgQ f)))=fAb f:=by
   rw[near_shift j r6 r7 vd,k5]
  have PE:psE (loT (dgD f) (dgQ f))=0:=by
   unfold psE
   rw[if_neg (by omega),if_pos r1,NV,if_neg (by omega)]
  refine⟨rfl,asc_lo _ (digB_all k1).1,r3,?_,PE⟩
  unfold psF
  rw[PE,if_pos rfl,NV]
theorem near_le (l:List UInt8)(e:Int)(h:l.all isDig=true):0≤nearV l e∧nearV l e≤9218868437227405312:=by
 unfold nearV nrF
 split
 ·decide
 ·have:=rMag_bd (md:=0) (neg:=false) (s:=sX (dval l*10 ^ (max e 0).toNat) (10 ^ (max (-e) 0).toNat)) (nX_nn (p:=dval l*10 ^ (max e 0).toNat) (q:=10 ^ (max (-e) 0).toNat) (Int.mul_nonneg (dval_bd h).1 (Int.pow_nonneg (by decide))) (Int.pow_pos (by decide)))
  unfold rF
  show 0≤rMag _ _ _ _+0∧rMag _ _ _ _+0≤_
  omega
theorem cls_inf {f:Int}(h0:0≤f)(h1:f≤9218868437227405312):fC f=3↔f=9218868437227405312:=by
 constructor
 ·intro h
  unfold fC at h
  split at h
  ·rename_i he
   unfold fE at he
   omega
  ·split at h
   ·split at h<;>omega
   ·omega
 ·rintro rfl
  decide +kernel
theorem dig_not {c:UInt8}(h:isDig c=true):isAl c=false∧isWs c=false∧c≠47∧c≠46∧c≠43∧c≠45:=by
 refine⟨?_,?_,?_,?_,?_,?_⟩
 ·unfold isDig at h
  unfold isAl
  simp only[Bool.and_eq_true,decide_eq_true_eq]at h
  simp only[Bool.or_eq_false_iff,Bool.and_eq_false_iff,decide_eq_false_iff_not]
  omega
 ·cases hw:isWs c
  ·rfl
  ·rw[(ws_not hw).2.1]at h
   cases h
 all_goals
  intro e
  rw[e]at h
  exact absurd h (by decide)
theorem dgL_app {d r:List UInt8}(hd:d.all isDig=true)(hr:∀c,r.head? = some c→isDig c=false):dgL (d++r)=d.length:=by
 unfold dgL
 rw[List.takeWhile_append_of_pos (fun a ha=>List.all_eq_true.1 hd a ha),List.length_append]
 cases r with
 | nil=>simp
 | cons c r=>rw[List.takeWhile_cons,if_neg (by simp[hr c rfl])];simp
theorem dgL_all {d:List UInt8}(hd:d.all isDig=true):dgL d=d.length:=by
 have:=dgL_app (r:=[]) hd (fun c h=>by simp at h)
 rw[List.append_nil]at this
 exact this
theorem digB_pos {d:List UInt8}(hd:digB d=true):1≤d.length:=by
 have:=(digB_all hd).2
 cases d with
 | nil=>exact absurd rfl this
 | cons c d=>simp
theorem digB_head {d:List UInt8}(hd:digB d=true):∃c r,d=c::r∧isDig c=true:=by
 obtain⟨h1,h2⟩:=digB_all hd
 cases d with
 | nil=>exact absurd rfl h2
 | cons c r=>
  rw[List.all_cons,Bool.and_eq_true]at h1
  exact⟨c,r,rfl,h1.1⟩
def ShF (f:List UInt8):Prop:=f=[]∨∃g,f=46::g∧digB g=true
def ShX (x:List UInt8):Prop:=x=[]∨∃s e,x=101::(s++e)∧(s=[]∨s=[45])∧digB e=true
theorem exL_sh {x:List UInt8}(hx:ShX x):exL x=x.length:=by
 rcases hx with rfl|⟨s,e,rfl,hs,he⟩
 ·rfl
 ·have h1:=(digB_all he).1
  have h2:=digB_pos he
  obtain⟨c,r,e0,hc⟩:=digB_head he
  obtain⟨-, -, -, -,n1,n2⟩:=dig_not hc
  have hs':sgL (s++e)=s.length:=by
   rcases hs with rfl|rfl
   ·rw[List.nil_append,e0,sgL_cons,if_neg (by simp[n1,n2])]
    rfl
   ·rw[List.cons_append,sgL_cons,if_pos (.inr rfl)]
    rfl
  rw[exL_cons,hs',List.drop_left,dgL_all h1,if_pos ⟨.inl rfl,by omega⟩]
  simp only[List.length_cons,List.length_append]
  omega
theorem frL_sh {f x:List UInt8}(hf:ShF f)(hx:ShX x):frL (f++x)=f.length:=by
 rcases hf with rfl|⟨g,rfl,hg⟩
 ·rw[List.nil_append]
  rcases hx with rfl|⟨s,e,rfl,hs,he⟩
  ·rfl
  ·rw[frL_cons,if_neg (by rintro⟨h, -⟩;exact absurd h (by decide))]
   rfl
 ·have h2:=digB_pos hg
  have e1:dgL (g++x)=g.length:=dgL_app (digB_all hg).1 fun c hc=>by
   rcases hx with rfl|⟨s,e,rfl,hs,he⟩
   ·simp at hc
   ·simp only[List.head?_cons,Option.some.injEq]at hc
    rw[←hc]
    decide
  rw[List.cons_append,frL_cons,e1,if_pos ⟨rfl,by omega⟩,List.length_cons]
  omega
theorem nu_shape {d f x:List UInt8}(hd:digB d=true)(hf:ShF f)(hx:ShX x):nuL (d++(f++x))=(d++(f++x)).length∧nuF (d++(f++x))=decide (f++x≠[]):=by
 have h1:=digB_pos hd
 have e1:dgL (d++(f++x))=d.length:=dgL_app (digB_all hd).1 fun c hc=>by
  rcases hf with rfl|⟨g,rfl,hg⟩
  ·rcases hx with rfl|⟨s,e,rfl,hs,he⟩
   ·simp at hc
   ·simp only[List.nil_append,List.head?_cons,Option.some.injEq]at hc
    rw[←hc]
    decide
  ·simp only[List.cons_append,List.head?_cons,Option.some.injEq]at hc
   rw[←hc]
   decide
 have e2:nuA (d++(f++x))=d.length+f.length:=by
  unfold nuA
  rw[e1,List.drop_left,frL_sh hf hx]
 have e3:nuL (d++(f++x))=(d++(f++x)).length:=by
  unfold nuL
  rw[if_neg (by omega),e2,show(d++(f++x)).drop (d.length+f.length)=x by rw[←List.drop_drop,List.drop_left,List.drop_left],exL_sh hx]
  simp only[List.length_append]
  omega
 refine⟨e3,?_⟩
 unfold nuF
 rw[e3,e1]
 congr 1
 apply propext
 simp only[List.length_append]
 constructor
 ·intro h e
  have:=congrArg List.length e
  simp only[List.length_append,List.length_nil]at this
  omega
 ·intro h
  have:(f++x).length≠0:=fun e=>h (List.eq_nil_of_length_eq_zero e)
  rw[List.length_append]at this
  omega
theorem nu_digits {d:List UInt8}(hd:digB d=true):nuL d=d.length∧nuF d=false:=by
 have:=nu_shape (f:=[]) (x:=[]) hd (.inl rfl) (.inl rfl)
 simpa using this
theorem shx_itoa (z:Int):ShX (101::Lib.itoa z):=by
 unfold Lib.itoa
 split
 ·exact .inr ⟨[45],_,rfl,.inr rfl,dec_digB _⟩
 ·exact .inr ⟨[],_,rfl,.inl rfl,dec_digB _⟩
theorem nu_lo {d:List UInt8}{q:Int}(hd:digB d=true):nuL (loT d q)=(loT d q).length∧nuF (loT d q)=true∧∃c r,loT d q=c::r∧isDig c=true:=by
 obtain⟨a,b⟩:=digB_all hd
 have l1:=digB_pos hd
 have K:∀ {d f x:List UInt8},digB d=true→ShF f→ShX x→f++x≠[]→nuL (d++(f++x))=(d++(f++x)).length∧nuF (d++(f++x))=true∧∃c r,d++(f++x)=c::r∧isDig c=true:=fun {d f x} hd hf hx hn=>by
  obtain⟨h1,h2⟩:=nu_shape hd hf hx
  obtain⟨c,r,e,hc⟩:=digB_head hd
  exact⟨h1,by rw[h2,decide_eq_true hn],c,r++(f++x),by rw[e];rfl,hc⟩
 unfold loT
 by_cases c1:0≤q∧d.length+q≤21
 ·rw[if_pos c1]
  obtain⟨z1,z2⟩:=nts_dig q.toNat
  exact K (d:=d++nts q.toNat) (f:=[46,48]) (x:=[]) (digB_of (by rw[List.all_append,a,z1];rfl) (by simp[b])) (.inr ⟨[48],rfl,by decide⟩) (.inl rfl) (by simp)
 rw[if_neg c1]
 by_cases c2:q<0∧0<d.length+q
 ·rw[if_pos c2]
  have h1:(d.take (d.length+q).toNat)≠[]:=by
   intro e
   have:=congrArg List.length e
   rw[List.length_take,List.length_nil]at this
   omega
  have h2:(d.drop (d.length+q).toNat)≠[]:=by
   intro e
   have:=congrArg List.length e
   rw[List.length_drop,List.length_nil]at this
   omega
  have:=K (f:=46::d.drop (d.length+q).toNat) (x:=[]) (digB_of (all_take a _) h1) (.inr ⟨_,rfl,digB_of (all_drop a _) h2⟩) (.inl rfl) (by simp)
  rw[List.append_nil]at this
  exact this
 rw[if_neg c2]
 by_cases c3:d.length+q≤0 ∧ -5≤d.length+q
 ·rw[if_pos c3]
  obtain⟨z1,z2⟩:=nts_dig (-(d.length+q)).toNat
  have:=K (d:=[48]) (f:=46::(nts (-(d.length+q)).toNat++d)) (x:=[]) (by decide) (.inr ⟨_,rfl,digB_of (by rw[List.all_append,a,z1];rfl) (by simp[b])⟩) (.inl rfl) (by simp)
  rw[List.append_nil]at this
  exact this
 rw[if_neg c3]
 have h1:d.take 1≠[]:=by
  intro e
  have:=congrArg List.length e
  rw[List.length_take,List.length_nil]at this
  omega
 by_cases c4:d.drop 1=[]
 ·rw[if_pos c4,c4,List.append_nil,List.append_nil]
  exact K (f:=[]) (digB_of (all_take a _) h1) (.inl rfl) (shx_itoa _) (by simp)
 ·rw[if_neg c4,List.append_assoc,List.append_assoc]
  have:=K (f:=46::d.drop 1) (digB_of (all_take a _) h1) (.inr ⟨_,rfl,digB_of (all_drop a _) c4⟩) (shx_itoa (d.length+q-1)) (by simp)
  simpa using this
theorem psF_fin {l:List UInt8}(h:psE l=0):Word (psF l)∧fC (psF l)<3∧fS (psF l)=false∧fAb (psF l)=psF l:=by
 have hok:rdOk l=true∧¬fC (nearV (rdD l) (rdE l))=3:=by
  unfold psE at h
  split at h
  ·omega
  ·split at h
   ·split at h
    ·omega
    ·refine⟨by assumption,by assumption⟩
   ·omega
 have e:psF l=nearV (rdD l) (rdE l):=by unfold psF;rw[if_pos h]
 obtain⟨b0,b1⟩:=near_le (rdD l) (rdE l) (digB_all (rdD_dig hok.1)).1
 rw[e]
 have hinf:=(not_congr (cls_inf b0 b1)).1 hok.2
 generalize nearV (rdD l) (rdE l)=f at *
 have hw:Word f:=⟨b0,by omega⟩
 have cb:=cls_bd f
 have hn:¬fC f=4:=by rw[nan_iff hw];omega
 refine⟨hw,by omega,?_,?_⟩
 ·unfold fS
  rw[decide_eq_false]
  omega
 ·unfold fAb
  rw[if_neg hn]
  omega
theorem nm_dig {c:UInt8}{r:List UInt8}(hc:isDig c=true):nmL (c::r)=0:=by
 rw[nmL_cons,if_neg (by simp[(dig_not hc).1])]
theorem take_tw (p:UInt8→Bool):∀l:List UInt8,l.take (l.takeWhile p).length=l.takeWhile p
 | []=>by simp
 | b::r=>by
  rw[List.takeWhile_cons]
  split
  ·rw[List.length_cons,List.take_succ_cons,take_tw p r]
  ·simp
theorem tw_all (p:UInt8→Bool):∀l:List UInt8,(l.takeWhile p).all p=true
 | []=>by simp
 | b::r=>by
  rw[List.takeWhile_cons]
  split
  ·rename_i h
   rw[List.all_cons,h,tw_all p r]
   rfl
  ·simp
end Go.Proofs.YthmlhkllbichgaaGreatDoor
