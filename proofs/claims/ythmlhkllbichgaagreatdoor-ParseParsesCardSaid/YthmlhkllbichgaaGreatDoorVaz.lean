/-
  ParseParses: a source's tree, or what is wrong with it, is the reference's. (part 26 of 38) Conditions: none beside what the card ties.
-/
import Derived.BigQuiet
import Derived.Test.YthmlhkllbichgaaGreatDoorVay
import Derived.Test.YthmlhkllbichgaaGreatDoorVak
import Derived.Test.YthmlhkllbichgaaGreatDoorVai
import Derived.Test.YthmlhkllbichgaaGreatDoorVam
import Derived.Test.YthmlhkllbichgaaGreatDoorVax
import Derived.Recover
namespace Go.Proofs.YthmlhkllbichgaaGreatDoor
set_option maxHeartbeats 16000000
open Go.RowKit
set_option maxRecDepth 100000
theorem nts_str (n:Nat)(w:World)(hn:n≤5000):Calls Tryz.prog 166 #[.string ⟨#[48]⟩,.int .i64 (n:Int)] w fun e w'=>e=.returned (.string ⟨(nts n).toArray⟩)∧Below w.heap.size w w':=by
 have h:(⟨#[48]⟩:ByteArray).size=1:=rfl;exact sh_strings_Repeat ⟨#[48]⟩ n w (by omega) (by rw[h];omega)
theorem layOut1 (d r:ByteArray)(q P:Int)(w:World)(hP:(d.size:Int)+q=P)(hd:1≤d.size)(hd':d.size≤20)(hq:-2000≤q)(hq':q≤2000)(k:Nat)(hk:q=(k:Int))(h1:P≤21)(F:d++⟨(nts k).toArray⟩++⟨#[46,48]⟩=r) :
  Calls Tryz.prog 131 #[.string d,.int .i64 q] w fun x w'=>x=.returned (.string r)∧Below w.heap.size w w':=by
 subst hk;have RP:=Hj fun w=>nts_str k w (by omega);have FF:=Hj F;clear F;have hz:(⟨(nts k).toArray⟩:ByteArray).size≤3000:=by rw[str_size,(nts_dig k).2];omega
 generalize (⟨(nts k).toArray⟩:ByteArray)=z at *;have hz2:(d++z).size≤4000:=by rw[ByteArray.size_append];omega
 have h2:(0:Int)≤(k:Int):=by omega
 have o1:IntKind.i64.wrap ((d.size:Int)+(k:Int))=P:=by rw[IntKind.wrap_i64];omega
 go_enter Tryz.func131,Tryz.ntmps131;go_wp2_with fail;refine(RP.out _).mono ?_;rintro x w1 ⟨rfl,hb1⟩;go_wp2_with fail;go_ret;exact⟨by rw[←FF.out];rfl,hb1⟩
theorem layOut2 (d r:ByteArray)(q P:Int)(w:World)(hP:(d.size:Int)+q=P)(hd:1≤d.size)(hd':d.size≤20)(hq:-2000≤q)(hq':q≤2000)(k:Nat)(hk:P=(k:Int))(h1:q<0)(h2:0<P)(F:d.extract 0 k++⟨#[46]⟩++d.extract k d.size=r) :
  Calls Tryz.prog 131 #[.string d,.int .i64 q] w fun x w'=>x=.returned (.string r)∧Below w.heap.size w w':=by
 subst hk;have FF:=Hj F;clear F;have h3:k≤d.size:=by omega
 have h4:¬(0≤q):=by omega
 have h5:(0:Int)≤(k:Int):=by omega
 have h6:(k:Int)≤(d.size:Int):=by omega
 have o1:IntKind.i64.wrap ((d.size:Int)+q)=(k:Int):=by rw[IntKind.wrap_i64];omega
 go_enter Tryz.func131,Tryz.ntmps131;go_upto_region 5 with fail;have h7:0<k:=by omega
 go_quiet (fail)
 go_wp2_with fail;go_ret;exact⟨by rw[←FF.out];rfl,below_drewN _ _⟩
theorem layOut3 (d r:ByteArray)(q P:Int)(w:World)(hP:(d.size:Int)+q=P)(hd:1≤d.size)(hd':d.size≤20)(hq:-2000≤q)(hq':q≤2000)(k:Nat)(hk:P = -(k:Int))(h2:k≤5)(F:(⟨#[48,46]⟩:ByteArray)++⟨(nts k).toArray⟩++d=r) :
  Calls Tryz.prog 131 #[.string d,.int .i64 q] w fun x w'=>x=.returned (.string r)∧Below w.heap.size w w':=by
 subst hk;have RP:=Hj fun w=>nts_str k w (by omega);have FF:=Hj F;clear F;have hz:(⟨(nts k).toArray⟩:ByteArray).size≤3000:=by rw[str_size,(nts_dig k).2];omega
 generalize (⟨(nts k).toArray⟩:ByteArray)=z at *;have hz2:((⟨#[48,46]⟩:ByteArray)++z).size≤4000:=by rw[ByteArray.size_append,show(⟨#[48,46]⟩:ByteArray).size=2 from rfl];omega
 have h4:¬(0≤q):=by omega
 have h5:q<0:=by omega
 have h6:¬(0 < -(k:Int)):=by omega
 have h7:-(k:Int)≤0:=by omega
 have h8:-5 ≤ -(k:Int):=by omega
 have o1:IntKind.i64.wrap ((d.size:Int)+q) = -(k:Int):=by rw[IntKind.wrap_i64];omega
 have o2:IntKind.i64.wrap (k:Int)=(k:Int):=by rw[IntKind.wrap_i64];omega
 go_enter Tryz.func131,Tryz.ntmps131;go_wp2_with fail;refine(RP.out _).mono ?_;rintro x w1 ⟨rfl,hb1⟩;go_wp2_with fail;go_ret;exact⟨by rw[←FF.out];rfl,hb1⟩
theorem ext_all (d:ByteArray):d.extract 0 1++⟨#[]⟩++d.extract 1 d.size=d:=by
 have h:=str_of (s:=d.extract 0 1++⟨#[]⟩++d.extract 1 d.size) (l:=d.data.toList) (by
  simp only[ByteArray.data_append,Array.toList_append,ext_front,ext_back];show d.data.toList.take 1++[]++d.data.toList.drop 1=_;rw[List.append_nil];exact List.take_append_drop 1 _)
 rw[h]
theorem layOut4 (d r:ByteArray)(q P:Int)(w:World)(hP:(d.size:Int)+q=P)(hd:1≤d.size)(hd':d.size≤20)(hq:-2000≤q)(hq':q≤2000)(hE:EnvOk w)(hh:0≤q∧21<P∨q<0∧P < -5)(F:d.extract 0 1++(if d.size=1 then⟨#[]⟩ else⟨#[46]⟩)++d.extract 1 d.size++⟨#[101]⟩++⟨(Lib.itoa (P-1)).toArray⟩=r) :
  Calls Tryz.prog 131 #[.string d,.int .i64 q] w fun x w'=>x=.returned (.string r)∧Below w.heap.size w w':=by
 have FF:=Hj F;have RP:=Hj fun w hE=>itoa8 (P-1) (by omega) (by omega) w hE;have o1:IntKind.i64.wrap ((d.size:Int)+q)=P:=by rw[IntKind.wrap_i64];omega
 have o2:IntKind.i64.wrap (P-1)=P-1:=by rw[IntKind.wrap_i64];omega
 have hd1:(1:Int)≤(d.size:Int):=by omega
 have hi:(⟨(Lib.itoa (P-1)).toArray⟩:ByteArray).size≤6:=by
  have nd:∀n:Nat,n<10000→(Lib.decDigits n).length≤4:=fun n hn=>by
   rw[Lib.decDigits_length]
   by_cases h:n<10
   ·rw[Lib.nDigits_small h];omega
   ·rw[Lib.nDigits_big h]
    by_cases h':n / 10<10
    ·rw[Lib.nDigits_small h'];omega
    ·rw[Lib.nDigits_big h']
     by_cases h'':n / 10 / 10<10
     ·rw[Lib.nDigits_small h''];omega
     ·rw[Lib.nDigits_big h'',Lib.nDigits_small (by omega)];omega
  rw[str_size];unfold Lib.itoa;split
  ·have:=nd (P-1).natAbs (by omega)
   simp only[List.length_cons];omega
  ·have:=nd (P-1).toNat (by omega)
   omega
 clear F;generalize (⟨(Lib.itoa (P-1)).toArray⟩:ByteArray)=z at *;obtain⟨h,h1,h2,h3⟩|⟨h,h1,h2,h3,h4⟩:(0≤q∧¬P≤21∧¬q<0∧¬P≤0)∨(¬0≤q∧q<0∧¬0<P∧P≤0∧¬ -5≤P):=by omega
 all_goals
  have e2:=ext_back d 1
  by_cases h1s:d.size=1
  ·have hemp:(d.extract 1 d.size).toList.isEmpty=true:=by
    rw[Lib.toList_data,e2,List.isEmpty_iff,List.drop_eq_nil_iff,←Lib.size_eq];omega
   rw[if_pos h1s,ext_all]at FF;clear e2 h1s;go_enter Tryz.func131,Tryz.ntmps131;go_upto_region 8 with fail
   go_quiet (fail)
   go_wp2_with fail;refine(RP.out _ (hE.below (below_drewN _ _))).mono ?_;rintro x w1 ⟨rfl,hb1⟩;have HB:=Hj (bel_trans (below_drewN w _) hb1);clear hb1;go_wp2_with fail;go_ret;exact⟨by rw[←FF.out];rfl,HB.out⟩
  ·have hemp:(d.extract 1 d.size).toList.isEmpty=false:=by
    rw[Lib.toList_data,e2]
    cases hl:d.data.toList.drop 1 with
    | nil=>
     rw[List.drop_eq_nil_iff,←Lib.size_eq]at hl;omega
    | cons a l=>rfl
   rw[if_neg h1s]at FF;clear e2 h1s;go_enter Tryz.func131,Tryz.ntmps131;go_upto_region 8 with fail
   go_quiet (fail)
   go_wp2_with fail;refine(RP.out _ (hE.below (below_drewN _ _))).mono ?_;rintro x w1 ⟨rfl,hb1⟩;have HB:=Hj (bel_trans (below_drewN w _) hb1);clear hb1;go_wp2_with fail;go_ret;exact⟨by rw[←FF.out];rfl,HB.out⟩
theorem layOut_any (d:List UInt8)(q:Int)(w:World)(hd:1≤d.length)(hd':d.length≤20)(hq:-2000≤q)(hq':q≤2000)(hE:EnvOk w) :
  Calls Tryz.prog 131 #[.string ⟨d.toArray⟩,.int .i64 q] w fun x w'=>x=.returned (.string ⟨(loT d q).toArray⟩)∧Below w.heap.size w w':=by
 have sz:=str_size d;have sd:=str_data d;obtain⟨D,hD⟩:∃D:ByteArray,D=⟨d.toArray⟩:=⟨_,rfl⟩;rw[←hD]at sz sd ⊢;clear hD;obtain⟨P,hP⟩:∃P:Int,(D.size:Int)+q=P:=⟨_,rfl⟩;have hP':(d.length:Int)+q=P:=by rw[←sz];exact hP
 unfold loT;rw[hP']
 by_cases c1:0≤q∧P≤21
 ·rw[if_pos c1]
  exact layOut1 D _ q P w hP (by omega) (by omega) hq hq' q.toNat (by omega) c1.2 (str_of (by simp[sd]))
 rw[if_neg c1]
 by_cases c2:q<0∧0<P
 ·rw[if_pos c2]
  exact layOut2 D _ q P w hP (by omega) (by omega) hq hq' P.toNat (by omega) c2.1 c2.2 (str_of (by
   simp only[ByteArray.data_append,Array.toList_append,ext_front,ext_back,sd]
   simp))
 rw[if_neg c2]
 by_cases c3:P≤0 ∧ -5≤P
 ·rw[if_pos c3]
  exact layOut3 D _ q P w hP (by omega) (by omega) hq hq' (-P).toNat (by omega) (by omega) (str_of (by simp[sd]))
 rw[if_neg c3];refine layOut4 D _ q P w hP (by omega) (by omega) hq hq' hE (by omega) (str_of ?_);simp only[ByteArray.data_append,Array.toList_append,ext_front,ext_back,sd]
 by_cases h1:D.size=1
 ·have e:d.drop 1=[]:=by rw[List.drop_eq_nil_iff];omega
  rw[if_pos h1,if_pos e]
  simp
 ·have e:¬d.drop 1=[]:=by rw[List.drop_eq_nil_iff];omega
  rw[if_neg h1,if_neg e]
  simp
def prT (f:Int):List UInt8:=
 if fC f=4 then[110,97,110] else(if fS f then[45] else[])++(if fC f=3 then[105,110,102]else if fC f=0 then[48,46,48]else loT (dgD f) (dgQ f))
theorem print_any (f:Int)(hf:Word f)(w:World)(hE:EnvOk w) :
  Calls Tryz.prog 83 #[.int .u64 f] w fun x w'=>x=.returned (.string ⟨(prT f).toArray⟩)∧Below w.heap.size w w':=by
 have PT:=Hj fun w=>parts_any f hf w;have CL:=Hj fun w=>class_any f hf w;have cb:=cls_bd f;obtain⟨r,hr⟩:∃r:ByteArray,r=⟨(prT f).toArray⟩:=⟨_,rfl⟩;have R:Hid (∀s:ByteArray,s.data.toList=(if fC f=4 then[110,97,110] else(if fS f then[45] else[])++(if fC f=3 then[105,110,102]else if fC f=0 then[48,46,48]else loT (dgD f) (dgQ f)))→s=r):=fun s h=>by rw[hr];exact str_of h
 rw[←hr];clear hr
 by_cases hc:fC f=1∨fC f=2
 ·have DG:=Hj fun w hE=>digits_any f hf w hE
  obtain⟨k1,k2,k3,k4, -⟩:=dg_known hf hc
  have l1:1≤(dgD f).length:=by
   have:=(digB_all k1).2
   cases h:dgD f with
   | nil=>exact absurd h this
   | cons a l=>simp
  have LO:=Hj fun w hE=>layOut_any (dgD f) (dgQ f) w l1 (by omega) (by omega) (by omega) hE;have R':Hid (∀s:ByteArray,s.data.toList=(if fS f then[45] else[])++loT (dgD f) (dgQ f)→s=r):=fun s h=>R.out s (by rw[h,if_neg (show ¬fC f=4 by omega),if_neg (show ¬fC f=3 by omega),if_neg (show ¬fC f=0 by omega)]);have sz:(⟨(loT (dgD f) (dgQ f)).toArray⟩:ByteArray).size≤26:=by rw[str_size];exact(rd_lo k1 ⟨k3,k4⟩ k2).2.2.1
  have sd:=str_data (loT (dgD f) (dgQ f));generalize loT (dgD f) (dgQ f)=lo at *;generalize (⟨(dgD f).toArray⟩:ByteArray)=d at *;generalize (⟨lo.toArray⟩:ByteArray)=t at *;generalize dgQ f=q at *;have h1:(fC f == 4)=false:=by simp;omega
  have h2:(fC f == 3)=false:=by simp;omega
  have h3:(fC f == 0)=false:=by simp;omega
  clear R hc k1 k2 k3 k4 l1 cb;generalize fC f=c at *
  cases hs:fS f
  all_goals
   rw[hs]at PT R';have SD:=Hj sd;clear sd;go_enter Tryz.func83,Tryz.ntmps83;go_wp2_with fail;refine(PT.out _).mono ?_;rintro x w1 ⟨rfl,rfl⟩;go_wp2_with fail;refine(CL.out _).mono ?_;rintro x w1 ⟨rfl,rfl⟩;go_wp2_with fail;refine(DG.out _ hE).mono ?_;rintro x w2 ⟨rfl,hb2⟩;have HB2:=Hj hb2;clear hb2;go_wp2_with fail;refine(LO.out _ (hE.below HB2.out)).mono ?_;rintro x w3 ⟨rfl,hb3⟩;have HB3:=Hj (bel_trans HB2.out hb3);clear hb3;go_wp2_with fail;go_ret;refine⟨?_,HB3.out⟩
   first
    | (rw[←R'.out t (by rw[SD.out];rfl)];rfl)
    | (rw[←R'.out (⟨#[45]⟩++t) (by simp[SD.out])];rfl)
 ·have c3:fC f=0∨fC f=3∨fC f=4:=by omega
  clear hE cb hc;generalize fC f=c at *;generalize loT (dgD f) (dgQ f)=lo at *
  cases hs:fS f
  all_goals
   rw[hs]at PT R;rcases c3 with rfl|rfl|rfl
   all_goals
    go_enter Tryz.func83,Tryz.ntmps83;go_wp2_with fail;refine(PT.out _).mono ?_;rintro x w1 ⟨rfl,rfl⟩;go_wp2_with fail;refine(CL.out _).mono ?_;rintro x w1 ⟨rfl,rfl⟩;go_wp2_with fail;go_ret;refine⟨?_,Below.refl _ _⟩
    first
     | (rw[←R.out ⟨#[110,97,110]⟩ (by simp)];rfl)
     | (rw[←R.out ⟨#[105,110,102]⟩ (by simp)];rfl)
     | (rw[←R.out ⟨#[48,46,48]⟩ (by simp)];rfl)
     | (rw[←R.out (⟨#[45]⟩++⟨#[105,110,102]⟩) (by simp)];rfl)
     | (rw[←R.out (⟨#[45]⟩++⟨#[48,46,48]⟩) (by simp)];rfl)
theorem near_le (l:List UInt8)(e:Int)(h:l.all isDig=true):0≤nearV l e∧nearV l e≤9218868437227405312:=by
 unfold nearV nrF;split
 ·decide
 ·have:=rMag_bd (md:=0) (neg:=false) (s:=sX (dval l*10 ^ (max e 0).toNat) (10 ^ (max (-e) 0).toNat)) (nX_nn (p:=dval l*10 ^ (max e 0).toNat) (q:=10 ^ (max (-e) 0).toNat) (Int.mul_nonneg (dval_bd h).1 (Int.pow_nonneg (by decide))) (Int.pow_pos (by decide)))
  unfold rF;show 0≤rMag _ _ _ _+0∧rMag _ _ _ _+0≤_;omega
theorem cls_inf {f:Int}(h0:0≤f)(h1:f≤9218868437227405312):fC f=3↔f=9218868437227405312:=by
 constructor
 ·intro h
  unfold fC at h
  split at h
  ·rename_i he
   unfold fE at he;omega
  ·split at h
   ·split at h<;>omega
   ·omega
 ·rintro rfl
  decide +kernel
theorem psF_fin {l:List UInt8}(h:psE l=0):Word (psF l)∧fC (psF l)<3∧fS (psF l)=false∧fAb (psF l)=psF l:=by
 have hok:rdOk l=true∧¬fC (nearV (rdD l) (rdE l))=3:=by
  unfold psE at h
  split at h
  ·omega
  ·split at h
   ·split at h
    ·omega
    ·refine⟨by assumption,by assumption⟩
   ·omega
 have e:psF l=nearV (rdD l) (rdE l):=by unfold psF;rw[if_pos h]
 obtain⟨b0,b1⟩:=near_le (rdD l) (rdE l) (digB_all (rdD_dig hok.1)).1;rw[e];have hinf:=(not_congr (cls_inf b0 b1)).1 hok.2;generalize nearV (rdD l) (rdE l)=f at *;have hw:Word f:=⟨b0,by omega⟩;have cb:=cls_bd f;have hn:¬fC f=4:=by rw[nan_iff hw];omega
 refine⟨hw,by omega,?_,?_⟩
 ·unfold fS
  rw[decide_eq_false];omega
 ·unfold fAb
  rw[if_neg hn];omega
theorem take_tw (p:UInt8→Bool):∀l:List UInt8,l.take (l.takeWhile p).length=l.takeWhile p
 | []=>by simp
 | b::r=>by
  rw[List.takeWhile_cons];split
  ·rw[List.length_cons,List.take_succ_cons,take_tw p r]
  ·simp
theorem tw_all (p:UInt8→Bool):∀l:List UInt8,(l.takeWhile p).all p=true
 | []=>by simp
 | b::r=>by
  rw[List.takeWhile_cons];split
  ·rename_i h
   rw[List.all_cons,h,tw_all p r];rfl
  ·simp
theorem int_dig11 {l:List UInt8}(h:nuF l=false)(h2:nuL l≠0):(l.take (nuL l)).all isDig=true:=by
 have hdg:nuL l=dgL l:=by
  have h4:nuL l=nuA l+exL (l.drop (nuA l)):=by
   unfold nuL at h2 ⊢
   split at h2
   ·omega
   ·rename_i h3
    rw[if_neg h3]
  unfold nuF at h;rw[decide_eq_false_iff_not]at h;unfold nuA at h4;omega
 rw[hdg];unfold dgL;rw[take_tw];exact tw_all _ _
theorem nm_res {l:List UInt8}(h:nmL l≠0)(hk:kwS.contains (l.take (nmL l))=false):l.take (nmL l) ∉ resW:=by
 cases l with
 | nil=>exact absurd rfl h
 | cons b r=>
  have hb:isAl b=true:=by
   rw[nmL_cons]at h
   by_cases c:isAl b=true
   ·exact c
   ·rw[if_neg c]at h;exact absurd rfl h
  obtain⟨k,hk2⟩:∃k,nmL (b::r)=k+1:=⟨nmL (b::r) - 1,by omega⟩;rw[hk2,List.take_succ_cons]at hk ⊢;intro hm;unfold resW at hm;rw[List.mem_append,List.mem_append]at hm;rcases hm with(hm|hm)|hm
  ·rw[List.contains_iff_mem.2 hm]at hk;cases hk
  ·simp only[twoS,List.mem_cons,List.cons.injEq,List.not_mem_nil,or_false]at hm
   rcases hm with⟨rfl,_⟩|⟨rfl,_⟩|⟨rfl,_⟩|⟨rfl,_⟩|⟨rfl,_⟩|⟨rfl,_⟩|⟨rfl,_⟩<;>exact absurd hb (by decide)
  ·rw[List.mem_map]at hm
   obtain⟨c,hc,e⟩:=hm;have e:c=b:=by injection e
   subst e;revert hb;simp only[oneS,List.mem_cons,List.not_mem_nil,or_false]at hc;rcases hc with rfl|rfl|rfl|rfl|rfl|rfl|rfl|rfl|rfl|rfl|rfl|rfl|rfl|rfl|rfl|rfl|rfl<;>decide
theorem nn_top:(0:Int)≤2147483647:=by decide
theorem ff_top:(0:Int)<9223372036854775808:=by decide
theorem nil_res:([]:List UInt8) ∉ resW:=by decide
theorem nil_len:([]:List UInt8).length≤16384:=by decide
theorem fi_tg {l:List UInt8}{a:Nat}(h:fiE l=0)(ha:a+l.length≤16384):Tg (fiT l a):=by
 have ha2:(a:Int)≤16384:=by omega
 unfold fiE at h;unfold fiT
 by_cases c1:nmL l≠0
 ·rw[if_pos c1]
  have hl:(l.take (nmL l)).length≤16384:=by rw[List.length_take];omega
  refine⟨Int.natCast_nonneg _,ha2,?_,?_,Int.le_refl 0,nn_top,Int.le_refl 0,ff_top,hl⟩
  ·dsimp only;split<;>simp
  ·dsimp only
   intro hk;refine nm_res c1 ?_
   cases e:kwS.contains (l.take (nmL l)) with
   | false=>rfl
   | true=>rw[e]at hk;simp at hk
 ·rw[if_neg c1]at h ⊢
  by_cases c2:nuL l≠0
  ·rw[if_pos c2]at h ⊢
   split at h
   ·cases h
   ·cases c3:nuF l with
    | true=>
     rw[c3]at h;rw[if_pos rfl]
     have hps:psE (l.take (nuL l))=0:=by
      rw[if_pos rfl]at h
      by_cases c:psE (l.take (nuL l))=0
      ·exact c
      ·rw[if_neg c]at h;cases h
     obtain⟨⟨w0,w1⟩, -,hs, -⟩:=psF_fin hps;refine⟨Int.natCast_nonneg _,ha2,.inr (.inr (.inl rfl)),fun _=>nil_res,Int.le_refl 0,nn_top,w0,?_,nil_len⟩;unfold fS at hs;have:=of_decide_eq_false hs;dsimp only;omega
    | false=>
     rw[c3]at h;rw[if_neg (by decide)];have hd:=dval_bd (int_dig11 c3 c2)
     have hle:dval (l.take (nuL l))≤2147483647:=by
      rw[if_neg (by decide)]at h
      by_cases c:dval (l.take (nuL l))≤2147483647
      ·exact c
      ·rw[if_neg c]at h;cases h
     exact⟨Int.natCast_nonneg _,ha2,.inr (.inl rfl),fun _=>nil_res,hd.1,hle,Int.le_refl 0,ff_top,nil_len⟩
  ·rw[if_neg c2]
   have hl:(l.take (siL l)).length≤16384:=by rw[List.length_take];omega
   exact⟨Int.natCast_nonneg _,ha2,.inr (.inr (.inr (.inr rfl))),fun hk=>by simp at hk,Int.le_refl 0,nn_top,Int.le_refl 0,ff_top,hl⟩
theorem good_run {l:List UInt8}{a:Nat}{ts:List Tk}(h:Run l a ts):a+l.length≤16384→Good ts:=by
 induction h with
 | fin a=>exact fun ha=>.inl ⟨rfl,⟨Int.natCast_nonneg _,by show(a:Int)≤16384;simp at ha;omega,rfl,rfl,rfl,rfl⟩⟩
 | tok l a ts _ h r ih=>
  intro ha;refine .inr ⟨fi_tg h ha,ih ?_⟩;have h1:=fiN_le l;have h2:=gpN_add (l.drop (fiN l));rw[List.length_drop]at h2;omega
theorem good_lex {l:List UInt8}(h:(lexV l).2.1=0):Good (lexV l).1:=by
 unfold lexV at h ⊢
 by_cases c:16384<l.length
 ·rw[if_pos c]at h;cases h
 ·rw[if_neg c]at h ⊢
  have hg:=gpN_add l;exact good_run (run_of _ _ _ (by omega) h).1 (by omega)
def PN (w:World)(r:List Tk×Int×Nat)(e:Ending)(w':World):Prop:=
 if r.2.1=0 then ∃R,e=.returned (.pointer (some ⟨R,0,none⟩))∧w.heap.size≤R∧Rdr R 0 ⟨r.1,0,0⟩ w'∧Below w.heap.size w w'
 else e=.panicked (flP r.2.1 (r.2.2:Nat))∧Below w.heap.size w w'
theorem own_tok {w:World}{B:Nat}{v:Value}{ts:List Tk}(h:w.ownsRow B 62 5 v ts.length (tksC ts))(hn:0<ts.length):∃T c,v=.slice (some ⟨T,0,none⟩) ts.length c∧B≤T∧T<w.heap.size∧w.rangeAt T 0 (tksC ts)∧ts.length≤c∧c≤maxLen:=by
 rcases h.2 with⟨_,e⟩|⟨T,c,cur,rfl,hb,hg,hn2,hc,hcs,ht⟩
 ·rw[e]at hn;cases hn
 ·refine⟨T,c,rfl,hb,(Array.getElem?_eq_some_iff.1 hg).1,fun j u hu=>?_,hn2,hc⟩
  have:=h.cells (g:=T) rfl j u hu;rw[Addr.add_mid]at this;exact this
theorem ppnewReader_any (s:ByteArray)(w:World)(hE:Env9 w):Calls Tryz.prog 28 #[.string s] w (PN w (lexV s.data.toList)):=by
 have LX:=Hj (xLex_any s w hE);have GL:=Hj (good_lex (l:=s.data.toList));clear hE;generalize lexV s.data.toList=L at *;obtain⟨ts,er,at_⟩:=L;unfold PN
 by_cases c:er=0
 ·subst c
  simp only[if_true];go_enter Tryz.func28,Tryz.ntmps28;go_wp2_with fail;refine LX.out.mono ?_;rintro e w1 ⟨v,rfl,own,hb⟩;have hg:Good ts:=GL.out trivial;obtain⟨T,cp,rfl,hT,hT2,hr,hc1,hc2⟩:=own_tok (ts:=ts) own hg.pos;have F:=Hj (And.intro hb (And.intro hT (And.intro hT2 (And.intro hr (And.intro hc1 (And.intro hc2 hg))))));clear hb hT hT2 hr hc1 hc2 hg own LX GL;go_wp2_with fail;obtain⟨hb,hT,hT2,hr,hc1,hc2,hg⟩:=F.out;refine bodyPost_ret (results_tmp rfl _ _ _) rfl ⟨_,rfl,hb.size,⟨T,0,cp,hT2,Blk.new _ _ _,rangeAt_blk hr ((bel_one w1 _).block T hT2),hc1,hc2,hg,Nat.zero_le _,Nat.zero_le _,Nat.zero_le _⟩,bel_trans hb (bel_one _ _)⟩
 ·simp only[if_neg c]
  have c2:(er == 0)=false:=by simp[c]
  go_enter Tryz.func28,Tryz.ntmps28;go_wp2_with fail;refine LX.out.mono ?_;rintro e w1 ⟨v,rfl,own,hb⟩;have HB:=Hj hb;clear own hb LX GL;go_wp2_with fail;refine(ppfail_any _ _ _).mono ?_;rintro e w2 ⟨rfl,rfl⟩;go_wp2_with fail;exact⟨rfl,rfl,HB.out⟩
def recV (cs:List Frame):Value×List Frame:=match recoverD cs with|some p=>p|none=>(.nilIface,cs)
theorem wpS_seq_rec {P:Program}{Q:Exit→Act→List Frame→World→Prop}{a:Act}{cs cs':List Frame}{w:World}{id:Nat}{o:Oper}{l:List Oper}{y:Code}{v:Value}(hgd:o.guard=none)
  (ho:o.op=.call { callee:=.builtin .recover,args:=#[],argTypes:=#[] }) (hrec:recV cs=(v,cs'))
  (h:wpList P (o::l).toArray (Exit.then (y.wp P fun e a' w'=>Q e a' cs' w') fun e a' w'=>Q e a' cs' w') l (a.put o.dst v) w):(Code.seq (Code.region id (o::l).toArray false) y).wpS P Q a cs w:=by
 apply wpS_seq;intro b k hb hro;have hrun:(execOp a.eval o).run P w=.ok .recover w:=by unfold execOp;rw[ho];rfl
 have hr:List.range (o::l).toArray.size=0::List.range' 1 l.length:=by
  rw[List.size_toArray,List.length_cons,List.range_eq_range',List.range'_succ]
 have h2:wpOps P (o::l).toArray (Exit.then (y.wp P fun e a' w'=>Q e a' cs' w') fun e a' w'=>Q e a' cs' w') (List.range' 1 l.length) (a.put o.dst v) w:=by
  rw[wpOps_eq_wpList l 1 (fun j=>by rw[List.getElem?_toArray,Nat.add_comm,List.getElem?_cons_succ])];exact h
 obtain⟨e,a',w',hq,harr⟩:=wp_ops _ _ _ h2 b k cs';refine⟨e,a',cs',w',?_,.of_steps (.one step_region) ?_⟩
 ·cases e<;>first|exact wpS_of_wp hq|exact hq
 ·rw[hr]
  have ho0:(o::l).toArray[0]? = some o:=rfl;have hw:Region.wanted o (yielded (o::l).toArray a.tmps)=true:=by simp[Region.wanted,hgd]
  have hg:=stepG_op (P:=P) (b:=b) (k:=k) (cs:=cs) (w:=w) (rest:=List.range' 1 l.length) ho0 hw
  have hfin:∀v,(b.at a (.inRegion (o::l).toArray (0::List.range' 1 l.length)::k)).finish v=b.at (a.put o.dst v) (.inRegion (o::l).toArray (List.range' 1 l.length)::k):=by
   intro v;rw[Frame.finish_at,ho0];rfl
  have hk:(b.at a (.inRegion (o::l).toArray (0::List.range' 1 l.length)::k)).kind=.deferred:=hb;have htr:=tryRecover_deferred hk cs;refine .of_steps (.one (step_lone_go ?_)) harr;rw[hg,←hfin];unfold recV at hrec;simp only[Frame.at]at htr ⊢
  cases e2:recoverD cs with
  | none=>rw[e2]at hrec;cases hrec;simp[stepG.apply,hrun,htr,e2]
  | some p=>rw[e2]at hrec;cases hrec;simp[stepG.apply,hrun,htr,e2]
theorem ta_hit (v:Value)(w:World):(Instr.typeAssert (.iface 66 v) 20 66 true).run Tryz.prog w=.ok (.tuple #[v,.bool true]) w:=by kernel_rfl
theorem ta_nil (w:World):(Instr.typeAssert .nilIface 20 66 true).run Tryz.prog w=.ok (.tuple #[.agg #[.int .i64 0,.int .i64 0],.bool false]) w:=by kernel_rfl
theorem pc_panicking (b1 b2:Nat)(x y c p:Int)(older:List PanicEntry)(w:World)(h1:Blk w b1 24 #[.int .i64 x])(h2:Blk w b2 3 #[.int .i64 y])(hb:b1≠b2) :
  CallsD Tryz.prog 27 #[.pointer (some ⟨b1,0,none⟩),.pointer (some ⟨b2,0,none⟩)] (.panicking ({ v:=.iface 66 (.agg #[.int .i64 c,.int .i64 p]),recovered:=false }::older)) w fun e u' w'=>
   e=.returned (.tuple #[])∧u'=.panicking ({ v:=.iface 66 (.agg #[.int .i64 c,.int .i64 p]),recovered:=true }::older)∧Blk w' b1 24 #[.int .i64 c]∧Blk w' b2 3 #[.int .i64 p]∧Fx (Two b1 b2) w.heap.size w w':=by
 refine callsD_of_wpS Tryz.func27 rfl fun c₀ cs hu=>?_
 have hrec:recV (c₀::cs)=(.iface 66 (.agg #[.int .i64 c,.int .i64 p]),{ c₀ with mode:=.panicking ({ v:=.iface 66 (.agg #[.int .i64 c,.int .i64 p]),recovered:=true }::older) }::cs):=by
  simp[recV,recoverD,hu]
 refine wpS_seq_rec rfl rfl hrec ?_;clear hrec;have ta:=ta_hit;simp only[Tryz.ntmps27,List.size_toArray,List.length_cons,List.length_nil,Nat.reduceAdd,Nat.reduceSub,Array.replicate_succ,Array.replicate_zero,List.push_toArray,List.append_toArray,List.nil_append,List.cons_append];go_wp2_with fail;have l1:=h1.lt;have l2:=h2.lt;have n1:=Hj (h1.alloc (.cells #[.int .i64 c,.int .i64 p] 66));have n2:=Hj (h2.alloc (.cells #[.int .i64 c,.int .i64 p] 66));have nf:Blk (w.alloc (.cells #[.int .i64 c,.int .i64 p] 66)) w.heap.size 66 #[.int .i64 c,.int .i64 p]:=Blk.new _ _ _;have HF:=Hj (fx_alloc (Fx.refl (Two b1 b2) _ w) (.cells #[.int .i64 c,.int .i64 p] 66));have HB:Hid (b1≠b2∧b1≠w.heap.size∧b2≠w.heap.size):=⟨hb,by omega,by omega⟩;have HS0:((w.alloc (.cells #[.int .i64 c,.int .i64 p] 66)).drew).cell? ⟨w.heap.size,0,none⟩=some (.int .i64 c)∧((w.alloc (.cells #[.int .i64 c,.int .i64 p] 66)).drew).cell? ⟨w.heap.size,1,none⟩=some (.int .i64 p):=⟨nf.cell 0,nf.cell 1⟩;have FN:=Hj nf;clear h1 h2 l1 l2 nf ta hb hu;generalize w.alloc (.cells #[.int .i64 c,.int .i64 p] 66)=w1 at *
 refine region_tree (S:=fun w'=>w'.cell? ⟨w.heap.size,0,none⟩=some (.int .i64 c)∧w'.cell? ⟨w.heap.size,1,none⟩=some (.int .i64 p)) _ (.take 0 (.take 1 (.take 2 (.take 3 (.two 4 (.act 5 .done) 5 (.act 4 .done)))))) (by kernel_rfl) (by kernel_rfl) rfl (by kernel_rfl) (by kernel_rfl) (fun _ _ d _ _ h=>by cases d<;>exact h) HS0 ?_;clear HS0
 iterate 4
  refine WalkT.take (v:=?_) rfl (by rfl) ?_ ?_;rotate_left
  ·(intro w' hSw;have s1:=hSw.1;have s2:=hSw.2;clear hSw;go_simp<;>with_reducible rfl)
  try simp only[Act.put,List.setIfInBounds_toArray,List.set_cons_zero,List.set_cons_succ]
 refine⟨wpOp_of rfl (by rfl) (fun K' hK=>?_),wpOp_of rfl (by rfl) (fun K' hK=>?_)⟩
 ·have ma:=n1.out.cell 0
  have za:=n1.out.frozen 0;go_simp;have fa:Blk (w1.drew.setCell ⟨b1,0,none⟩ (.int .i64 c)) w.heap.size 66 #[.int .i64 c,.int .i64 p]:=(Blk.drew FN.out).far (p:=⟨b1,0,none⟩) (Ne.symm HB.out.2.1) _;have aa:=Hj ((Blk.drew n1.out).set_ 0 (.int .i64 c));have ab:Blk (w1.drew.setCell ⟨b1,0,none⟩ (.int .i64 c)) _ _ _:=(Blk.drew n2.out).far (p:=⟨b1,0,none⟩) (Ne.symm HB.out.1) (.int .i64 c);have ff:=Hj (fx_set (fx_bel HF.out (bel_drew (Below.refl _ w1))) (p:=⟨b1,0,none⟩) (.inl (.inl rfl)) (.int .i64 c));refine hK.out _ _ ⟨fa.cell 0,fa.cell 1⟩ ?_;clear hK K' ma za;try simp only[Act.put]
  change WalkT _ _ _ _ _ _ (w1.drew.setCell ⟨b1,0,none⟩ (.int .i64 c));generalize (w1.drew.setCell ⟨b1,0,none⟩ (.int .i64 c))=w5 at *;refine WalkT.act rfl (by rfl) (fun K' hK=>?_);have mb:=ab.cell 0;have zb:=ab.frozen 0;go_simp;have fb:Blk (w5.setCell ⟨b2,0,none⟩ (.int .i64 p)) w.heap.size 66 #[.int .i64 c,.int .i64 p]:=fa.far (p:=⟨b2,0,none⟩) (Ne.symm HB.out.2.2) _;refine hK.out _ _ ⟨fb.cell 0,fb.cell 1⟩ ?_;clear hK K' mb zb;try simp only[Act.put]
  refine WalkT.done ?_;exact⟨rfl,_,rfl,_,results_none rfl _ _ _,rfl,rfl,(aa.out.far (p:=⟨b2,0,none⟩) HB.out.1 _),(ab.set_ 0 (.int .i64 p)),fx_set ff.out (p:=⟨b2,0,none⟩) (.inl (.inr rfl)) _⟩
 ·have ma:=n2.out.cell 0
  have za:=n2.out.frozen 0;go_simp;have fa:Blk (w1.drew.setCell ⟨b2,0,none⟩ (.int .i64 p)) w.heap.size 66 #[.int .i64 c,.int .i64 p]:=(Blk.drew FN.out).far (p:=⟨b2,0,none⟩) (Ne.symm HB.out.2.2) _;have aa:=Hj ((Blk.drew n2.out).set_ 0 (.int .i64 p));have ab:Blk (w1.drew.setCell ⟨b2,0,none⟩ (.int .i64 p)) _ _ _:=(Blk.drew n1.out).far (p:=⟨b2,0,none⟩) HB.out.1 (.int .i64 p);have ff:=Hj (fx_set (fx_bel HF.out (bel_drew (Below.refl _ w1))) (p:=⟨b2,0,none⟩) (.inl (.inr rfl)) (.int .i64 p));refine hK.out _ _ ⟨fa.cell 0,fa.cell 1⟩ ?_;clear hK K' ma za;try simp only[Act.put]
  change WalkT _ _ _ _ _ _ (w1.drew.setCell ⟨b2,0,none⟩ (.int .i64 p));generalize (w1.drew.setCell ⟨b2,0,none⟩ (.int .i64 p))=w5 at *;refine WalkT.act rfl (by rfl) (fun K' hK=>?_);have mb:=ab.cell 0;have zb:=ab.frozen 0;go_simp;have fb:Blk (w5.setCell ⟨b1,0,none⟩ (.int .i64 c)) w.heap.size 66 #[.int .i64 c,.int .i64 p]:=fa.far (p:=⟨b1,0,none⟩) (Ne.symm HB.out.2.1) _;refine hK.out _ _ ⟨fb.cell 0,fb.cell 1⟩ ?_;clear hK K' mb zb;try simp only[Act.put]
  refine WalkT.done ?_;exact⟨rfl,_,rfl,_,results_none rfl _ _ _,rfl,rfl,(ab.set_ 0 (.int .i64 c)),(aa.out.far (p:=⟨b1,0,none⟩) (Ne.symm HB.out.1) _),fx_set ff.out (p:=⟨b1,0,none⟩) (.inl (.inl rfl)) _⟩
theorem pc_idle (b1 b2:Nat)(w:World) :
  CallsD Tryz.prog 27 #[.pointer (some ⟨b1,0,none⟩),.pointer (some ⟨b2,0,none⟩)] .returning w fun e u' w'=>e=.returned (.tuple #[])∧u'=.returning∧Below w.heap.size w w':=by
 refine callsD_of_wpS Tryz.func27 rfl fun c₀ cs hu=>?_
 have hrec:recV (c₀::cs)=(.nilIface,{ c₀ with mode:=.returning }::cs):=by
  cases c₀;cases hu;rfl
 refine wpS_seq_rec rfl rfl hrec ?_;clear hrec;have ta:=ta_nil;simp only[Tryz.ntmps27,List.size_toArray,List.length_cons,List.length_nil,Nat.reduceAdd,Nat.reduceSub,Array.replicate_succ,Array.replicate_zero,List.push_toArray,List.append_toArray,List.nil_append,List.cons_append];go_wp2_with fail;exact⟨rfl,_,rfl,_,results_none rfl _ _ _,rfl,rfl,bel_one w _⟩
theorem px_panicking (b1 b2:Nat)(x y c p:Int)(older:List PanicEntry)(w:World)(h1:Blk w b1 24 #[.int .i64 x])(h2:Blk w b2 3 #[.int .i64 y])(hb:b1≠b2) :
  CallsD Tryz.prog 39 #[.pointer (some ⟨b1,0,none⟩),.pointer (some ⟨b2,0,none⟩)] (.panicking ({ v:=.iface 66 (.agg #[.int .i64 c,.int .i64 p]),recovered:=false }::older)) w fun e u' w'=>
   e=.returned (.tuple #[])∧u'=.panicking ({ v:=.iface 66 (.agg #[.int .i64 c,.int .i64 p]),recovered:=true }::older)∧Blk w' b1 24 #[.int .i64 c]∧Blk w' b2 3 #[.int .i64 p]∧Fx (Two b1 b2) w.heap.size w w':=by
 refine callsD_of_wpS Tryz.func39 rfl fun c₀ cs hu=>?_
 have hrec:recV (c₀::cs)=(.iface 66 (.agg #[.int .i64 c,.int .i64 p]),{ c₀ with mode:=.panicking ({ v:=.iface 66 (.agg #[.int .i64 c,.int .i64 p]),recovered:=true }::older) }::cs):=by
  simp[recV,recoverD,hu]
 refine wpS_seq_rec rfl rfl hrec ?_;clear hrec;have ta:=ta_hit;simp only[Tryz.ntmps39,List.size_toArray,List.length_cons,List.length_nil,Nat.reduceAdd,Nat.reduceSub,Array.replicate_succ,Array.replicate_zero,List.push_toArray,List.append_toArray,List.nil_append,List.cons_append];go_wp2_with fail;have l1:=h1.lt;have l2:=h2.lt;have n1:=Hj (h1.alloc (.cells #[.int .i64 c,.int .i64 p] 66));have n2:=Hj (h2.alloc (.cells #[.int .i64 c,.int .i64 p] 66));have nf:Blk (w.alloc (.cells #[.int .i64 c,.int .i64 p] 66)) w.heap.size 66 #[.int .i64 c,.int .i64 p]:=Blk.new _ _ _;have HF:=Hj (fx_alloc (Fx.refl (Two b1 b2) _ w) (.cells #[.int .i64 c,.int .i64 p] 66));have HB:Hid (b1≠b2∧b1≠w.heap.size∧b2≠w.heap.size):=⟨hb,by omega,by omega⟩;have HS0:((w.alloc (.cells #[.int .i64 c,.int .i64 p] 66)).drew).cell? ⟨w.heap.size,0,none⟩=some (.int .i64 c)∧((w.alloc (.cells #[.int .i64 c,.int .i64 p] 66)).drew).cell? ⟨w.heap.size,1,none⟩=some (.int .i64 p):=⟨nf.cell 0,nf.cell 1⟩;have FN:=Hj nf;clear h1 h2 l1 l2 nf ta hb hu;generalize w.alloc (.cells #[.int .i64 c,.int .i64 p] 66)=w1 at *
 refine region_tree (S:=fun w'=>w'.cell? ⟨w.heap.size,0,none⟩=some (.int .i64 c)∧w'.cell? ⟨w.heap.size,1,none⟩=some (.int .i64 p)) _ (.take 0 (.take 1 (.take 2 (.take 3 (.two 4 (.act 5 .done) 5 (.act 4 .done)))))) (by kernel_rfl) (by kernel_rfl) rfl (by kernel_rfl) (by kernel_rfl) (fun _ _ d _ _ h=>by cases d<;>exact h) HS0 ?_;clear HS0
 iterate 4
  refine WalkT.take (v:=?_) rfl (by rfl) ?_ ?_;rotate_left
  ·(intro w' hSw;have s1:=hSw.1;have s2:=hSw.2;clear hSw;go_simp<;>with_reducible rfl)
  try simp only[Act.put,List.setIfInBounds_toArray,List.set_cons_zero,List.set_cons_succ]
 refine⟨wpOp_of rfl (by rfl) (fun K' hK=>?_),wpOp_of rfl (by rfl) (fun K' hK=>?_)⟩
 ·have ma:=n1.out.cell 0
  have za:=n1.out.frozen 0;go_simp;have fa:Blk (w1.drew.setCell ⟨b1,0,none⟩ (.int .i64 c)) w.heap.size 66 #[.int .i64 c,.int .i64 p]:=(Blk.drew FN.out).far (p:=⟨b1,0,none⟩) (Ne.symm HB.out.2.1) _;have aa:=Hj ((Blk.drew n1.out).set_ 0 (.int .i64 c));have ab:Blk (w1.drew.setCell ⟨b1,0,none⟩ (.int .i64 c)) _ _ _:=(Blk.drew n2.out).far (p:=⟨b1,0,none⟩) (Ne.symm HB.out.1) (.int .i64 c);have ff:=Hj (fx_set (fx_bel HF.out (bel_drew (Below.refl _ w1))) (p:=⟨b1,0,none⟩) (.inl (.inl rfl)) (.int .i64 c));refine hK.out _ _ ⟨fa.cell 0,fa.cell 1⟩ ?_;clear hK K' ma za;try simp only[Act.put]
  change WalkT _ _ _ _ _ _ (w1.drew.setCell ⟨b1,0,none⟩ (.int .i64 c));generalize (w1.drew.setCell ⟨b1,0,none⟩ (.int .i64 c))=w5 at *;refine WalkT.act rfl (by rfl) (fun K' hK=>?_);have mb:=ab.cell 0;have zb:=ab.frozen 0;go_simp;have fb:Blk (w5.setCell ⟨b2,0,none⟩ (.int .i64 p)) w.heap.size 66 #[.int .i64 c,.int .i64 p]:=fa.far (p:=⟨b2,0,none⟩) (Ne.symm HB.out.2.2) _;refine hK.out _ _ ⟨fb.cell 0,fb.cell 1⟩ ?_;clear hK K' mb zb;try simp only[Act.put]
  refine WalkT.done ?_;exact⟨rfl,_,rfl,_,results_none rfl _ _ _,rfl,rfl,(aa.out.far (p:=⟨b2,0,none⟩) HB.out.1 _),(ab.set_ 0 (.int .i64 p)),fx_set ff.out (p:=⟨b2,0,none⟩) (.inl (.inr rfl)) _⟩
 ·have ma:=n2.out.cell 0
  have za:=n2.out.frozen 0;go_simp;have fa:Blk (w1.drew.setCell ⟨b2,0,none⟩ (.int .i64 p)) w.heap.size 66 #[.int .i64 c,.int .i64 p]:=(Blk.drew FN.out).far (p:=⟨b2,0,none⟩) (Ne.symm HB.out.2.2) _;have aa:=Hj ((Blk.drew n2.out).set_ 0 (.int .i64 p));have ab:Blk (w1.drew.setCell ⟨b2,0,none⟩ (.int .i64 p)) _ _ _:=(Blk.drew n1.out).far (p:=⟨b2,0,none⟩) HB.out.1 (.int .i64 p);have ff:=Hj (fx_set (fx_bel HF.out (bel_drew (Below.refl _ w1))) (p:=⟨b2,0,none⟩) (.inl (.inr rfl)) (.int .i64 p));refine hK.out _ _ ⟨fa.cell 0,fa.cell 1⟩ ?_;clear hK K' ma za;try simp only[Act.put]
  change WalkT _ _ _ _ _ _ (w1.drew.setCell ⟨b2,0,none⟩ (.int .i64 p));generalize (w1.drew.setCell ⟨b2,0,none⟩ (.int .i64 p))=w5 at *;refine WalkT.act rfl (by rfl) (fun K' hK=>?_);have mb:=ab.cell 0;have zb:=ab.frozen 0;go_simp;have fb:Blk (w5.setCell ⟨b1,0,none⟩ (.int .i64 c)) w.heap.size 66 #[.int .i64 c,.int .i64 p]:=fa.far (p:=⟨b1,0,none⟩) (Ne.symm HB.out.2.1) _;refine hK.out _ _ ⟨fb.cell 0,fb.cell 1⟩ ?_;clear hK K' mb zb;try simp only[Act.put]
  refine WalkT.done ?_;exact⟨rfl,_,rfl,_,results_none rfl _ _ _,rfl,rfl,(ab.set_ 0 (.int .i64 c)),(aa.out.far (p:=⟨b1,0,none⟩) (Ne.symm HB.out.1) _),fx_set ff.out (p:=⟨b1,0,none⟩) (.inl (.inl rfl)) _⟩
theorem px_idle (b1 b2:Nat)(w:World) :
  CallsD Tryz.prog 39 #[.pointer (some ⟨b1,0,none⟩),.pointer (some ⟨b2,0,none⟩)] .returning w fun e u' w'=>e=.returned (.tuple #[])∧u'=.returning∧Below w.heap.size w w':=by
 refine callsD_of_wpS Tryz.func39 rfl fun c₀ cs hu=>?_
 have hrec:recV (c₀::cs)=(.nilIface,{ c₀ with mode:=.returning }::cs):=by
  cases c₀;cases hu;rfl
 refine wpS_seq_rec rfl rfl hrec ?_;clear hrec;have ta:=ta_nil;simp only[Tryz.ntmps39,List.size_toArray,List.length_cons,List.length_nil,Nat.reduceAdd,Nat.reduceSub,Array.replicate_succ,Array.replicate_zero,List.push_toArray,List.append_toArray,List.nil_append,List.cons_append];go_wp2_with fail;exact⟨rfl,_,rfl,_,results_none rfl _ _ _,rfl,rfl,bel_one w _⟩
theorem results_row3 {P:Program}{fn:Func}{p q r:Tmp}{ty tq tr:TypeId}(h:fn.results=#[.cell p ty,.cell q tq,.cell r tr])(tmps:Array Value)(w:World)(g:Nat)(t:TypeId)(cs:Array Value)(d:TypeDesc)(b c:Nat)(x y:Value)
  (hp:tmps.getD p undef=.pointer (some ⟨g,0,none⟩)) (hq:tmps.getD q undef=.pointer (some ⟨b,0,none⟩)) (hr:tmps.getD r undef=.pointer (some ⟨c,0,none⟩)) (hg:Blk w g t cs)
  (hu:P.underlying ty=some d) (hd:(match d with|.struct _|.array _ _=>true|_=>false)=true) (hi:(P.info? ty).map (·.size)=some cs.size)
  (hx:(loadVar tq ⟨b,0,none⟩).run P w=.ok x w) (hy:(loadVar tr ⟨c,0,none⟩).run P w=.ok y w) :
  (results fn tmps).run P w=.ok (.tuple #[.agg cs,x,y]) w:=by
 have hp':tmps[p]?.getD undef=.pointer (some ⟨g,0,none⟩):=by simpa using hp
 have hq':tmps[q]?.getD undef=.pointer (some ⟨b,0,none⟩):=by simpa using hq
 have hr':tmps[r]?.getD undef=.pointer (some ⟨c,0,none⟩):=by simpa using hr
 simp[results,h,hp',hq',hr',asAddr,run_loadVar_row w g t ty cs (0,0) d hg hu hd hi,hx,hy]
theorem ld_err {w:World}{b:Nat}{x:Value}(h:Blk w b 24 #[x]):(loadVar 24 ⟨b,0,none⟩).run Tryz.prog w=.ok x w:=by
 have hc:w.cell? ⟨b,0,none⟩=some x:=h.cell 0;clear h;go_simp
theorem ld_int {w:World}{b:Nat}{x:Value}(h:Blk w b 3 #[x]):(loadVar 3 ⟨b,0,none⟩).run Tryz.prog w=.ok x w:=by
 have hc:w.cell? ⟨b,0,none⟩=some x:=h.cell 0;clear h;go_simp
def Rs.er {α:Type}:Rs α→Int
 | .ok _ _=>0
 | .no c _=>c
def Rs.pl {α:Type}:Rs α→Int
 | .ok _ _=>0
 | .no _ p=>p
def Rs.va {α:Type}(z:α):Rs α→α
 | .ok a _=>a
 | .no _ _=>z
def rsP (l:List UInt8):Rs Pr:=if(lexV l).2.1=0 then prog ⟨(lexV l).1,0,0⟩else .no (lexV l).2.1 ((lexV l).2.2:Nat)
def rsX (l:List UInt8):Rs Ex:=if(lexV l).2.1=0 then oneX 24 ⟨(lexV l).1,0,0⟩else .no (lexV l).2.1 ((lexV l).2.2:Nat)
def noPr:Pr:=⟨0,⟨none,0,0⟩,fun _=>zeroD,⟨none,0,0⟩,fun _=>.no,⟨none,0,0⟩,fun _=>.no⟩
theorem noPr_v (L:Nat)(w:World):VP L noPr (prv 0 ⟨none,0,0⟩ ⟨none,0,0⟩ ⟨none,0,0⟩) w:=
 ⟨noPr,rfl,⟨⟨by decide,by decide⟩,⟨sl_no,(fun a ha=>by cases ha),fun i hi=>absurd hi (Nat.not_lt_zero i)⟩,xb_no,xb_no⟩,
  rfl,⟨rfl,fun i hi=>absurd hi (Nat.not_lt_zero i)⟩,⟨rfl,fun i hi=>absurd hi (Nat.not_lt_zero i)⟩,⟨rfl,fun i hi=>absurd hi (Nat.not_lt_zero i)⟩⟩
theorem XPr.fx {X D:Nat→Prop}{p:Pr}{w w':World}(h:XPr D p w)(hf:Fx X w.heap.size w w')(hX:∀k,X k→¬D k):XPr D p w':=
 ⟨h.1,DsIn.stay h.2.1 (stay_fx hf hX) hf.size,SsIn.stay h.2.2.1 (stay_fx hf hX) hf.size,SsIn.stay h.2.2.2 (stay_fx hf hX) hf.size⟩
theorem XPr.imp {D D':Nat→Prop}{p:Pr}{w:World}(h:XPr D p w)(hD:∀k,k<w.heap.size→D k→D' k):XPr D' p w:=
 ⟨h.1,DsIn.stay h.2.1 (stay_imp hD w) (Nat.le_refl _),SsIn.stay h.2.2.1 (stay_imp hD w) (Nat.le_refl _),SsIn.stay h.2.2.2 (stay_imp hD w) (Nat.le_refl _)⟩
theorem XPr.bel {D:Nat→Prop}{p:Pr}{w w':World}(h:XPr D p w)(hb:Below w.heap.size w w'):XPr D p w':=h.fx (X:=fun _=>False) (Fx.of hb) (fun _ x=>x.elim)
def Th3 (a b c:Nat):Nat→Prop:=fun k=>k=a∨k=b∨k=c
theorem fx_bel_of {X:Nat→Prop}{a b c:World}(h:Below a.heap.size a b)(f:Fx X b.heap.size b c)(hX:∀k,k<a.heap.size→¬X k):Below a.heap.size a c:=
 h.trans ((f.mono (Y:=X) h.size (fun _ _ x=>x)).bel hX)
theorem st_prW {ops:Array Oper}{rest:List Oper}{o:Oper}{a:Act}{w:World}{Q:Exit→Act→World→Prop}(t:Int)(d i s:Sl)(g:Nat){old:Array Value}(hg:Blk w g 30 old)(hgd:o.guard=none)(x y:Operand)(ho:o.op=.store 30 x y)(hx:a.eval x=.pointer (some ⟨g,0,none⟩))(hy:a.eval y=prv t d i s)(hold:old.size=4)
  (hw:∀w',Hid (Blk w' g 30 (prvs t d i s).toArray)→Hid (Wr1 g w w')→wpList Tryz.prog ops Q rest (a.put o.dst undef) w'):wpList Tryz.prog ops Q (o::rest) a w:=
 st_pr t d i s g old hg hold hgd x y ho hx hy (hw _ (hg.rowS _) (wr1_row w g _))
def PTop {α:Type}(w:World)(r:Rs α)(z:α)(V:α→Value→World→Prop)(e:Ending)(w':World):Prop:=
 ∃v,e=.returned (.tuple #[v,.int .i64 r.er,.int .i64 r.pl])∧V (r.va z) v w'∧Below w.heap.size w w'
theorem ppParse_any (s:ByteArray)(w:World)(hE:Env9 w):Calls Tryz.prog 9 #[.string s] w (PTop w (rsP s.data.toList) noPr (VP w.heap.size)):=by
 have hmf:∀(fn:Fn) (first cap:Array Value) (w:World),(Instr.makeFunc fn first cap).run Tryz.prog w=.ok (.func fn first cap) w:=fun _ _ _ _=>rfl;have BL:Below w.heap.size w (((w.alloc zPr).alloc (.cells #[.int .i64 0] 24)).alloc (.cells #[.int .i64 0] 3)):=bel_alloc (bel_alloc (bel_one w _) _) _;have k0:Blk (((w.alloc zPr).alloc (.cells #[.int .i64 0] 24)).alloc (.cells #[.int .i64 0] 3)) w.heap.size 30 (prvs 0 ⟨none,0,0⟩ ⟨none,0,0⟩ ⟨none,0,0⟩).toArray:=((Blk.new w _ _).alloc _).alloc _
 have k1:Blk (((w.alloc zPr).alloc (.cells #[.int .i64 0] 24)).alloc (.cells #[.int .i64 0] 3)) (w.heap.size+1) 24 #[.int .i64 0]:=by
  have:=(Blk.new (w.alloc zPr) 24 #[.int .i64 0]).alloc (.cells #[.int .i64 0] 3);rw[World.size_alloc]at this;exact this
 have k2:Blk (((w.alloc zPr).alloc (.cells #[.int .i64 0] 24)).alloc (.cells #[.int .i64 0] 3)) (w.heap.size+1+1) 3 #[.int .i64 0]:=by
  have:=Blk.new ((w.alloc zPr).alloc (.cells #[.int .i64 0] 24)) 3 #[.int .i64 0];rw[World.size_alloc,World.size_alloc]at this;exact this
 have HBL:=Hj BL;have HN:=Hj (ppnewReader_any s _ (hE.below BL));have B0:=Hj k0;have B1:=Hj k1;have B2:=Hj k2;have HNE:Hid (w.heap.size≠w.heap.size+1∧w.heap.size≠w.heap.size+1+1∧w.heap.size+1≠w.heap.size+1+1):=(by show _∧_∧_;omega);have HLE:Hid (w.heap.size≤w.heap.size+1∧w.heap.size≤w.heap.size+1+1):=(by show _∧_;omega);have HRS:Hid (rsP s.data.toList=if(lexV s.data.toList).2.1=0 then prog ⟨(lexV s.data.toList).1,0,0⟩else .no (lexV s.data.toList).2.1 ((lexV s.data.toList).2.2:Nat)):=rfl;clear BL k0 k1 k2 hE;generalize rsP s.data.toList=Z at *;generalize lexV s.data.toList=L at *
 go_enter_defers Tryz.func9,Tryz.ntmps9
 go_upto_region 2 with fail;change (Code.region 2 _ _).wp _ _ _ (((w.alloc zPr).alloc (.cells #[.int .i64 0] 24)).alloc (.cells #[.int .i64 0] 3));generalize ((w.alloc zPr).alloc (.cells #[.int .i64 0] 24)).alloc (.cells #[.int .i64 0] 3)=w0 at *;generalize w.heap.size+1+1=b2 at *;generalize w.heap.size+1=b1 at *;go_wp2_with fail;refine HN.out.mono ?_;intro e w1 hpn;unfold PN at hpn;clear HN
 by_cases c:L.2.1=0
 ·rw[if_pos c]at hpn
  obtain⟨R,rfl,hR,rd,hb⟩:=hpn;have B0_1:=Hj (B0.out.below hb B0.out.lt);have B1_1:=Hj (B1.out.below hb B1.out.lt);have B2_1:=Hj (B2.out.below hb B2.out.lt);have HB1:=Hj (bel_trans HBL.out hb);have HR0:Hid (w.heap.size≠R∧b1≠R∧b2≠R∧w.heap.size≤R):=(by show _∧_∧_∧_;have:=B0.out.lt;have:=B1.out.lt;have:=B2.out.lt;omega);have HZ:Hid (Z=prog ⟨L.1,0,0⟩):=by show Z=_;rw[HRS.out,if_pos c]
  have HRD:=Hj rd;clear hb c HRS HBL B0 B1 B2 rd hR;go_wp2_with fail;refine(ppprogram_any R _ w1 HRD.out).mono ?_;intro e w2 hpo
  cases hres:prog ⟨L.1,0,0⟩ with
  | no c q=>
   rw[hres]at hpo;obtain⟨rfl,f⟩:=hpo;have E:Hid (Z=.no c q):=by show Z=_;rw[HZ.out,hres]
   have B0_2:=Hj (f.blk B0_1.out B0_1.out.lt HR0.out.1);have B1_2:=Hj (f.blk B1_1.out B1_1.out.lt HR0.out.2.1);have B2_2:=Hj (f.blk B2_1.out B2_1.out.lt HR0.out.2.2.1);have HB2:=Hj (fx_bel_of HB1.out f (fun k hk (x:k=R)=>by have:=HR0.out.2.2.2;omega));clear f hres HZ HRD B0_1 B1_1 B2_1 HB1;go_wp2_with fail;refine leaves_cons (f:=27) (args:=#[.pointer (some ⟨b1,0,none⟩),.pointer (some ⟨b2,0,none⟩)]) (by simp) (by simp[go_sem]) ?_;refine(pc_panicking b1 b2 0 0 c q [] w2 B1_2.out B2_2.out HNE.out.2.2).mono ?_;rintro e u' w3 ⟨rfl,rfl,k1,k2,f3⟩;refine⟨_,results_row3 rfl _ w3 w.heap.size 30 (prvs 0 ⟨none,0,0⟩ ⟨none,0,0⟩ ⟨none,0,0⟩).toArray _ b1 b2 _ _ rfl rfl rfl (f3.blk B0_2.out B0_2.out.lt (fun x=>x.elim HNE.out.1 HNE.out.2.1)) Tryz.underlying30 rfl (by kernel_rfl) (ld_err k1) (ld_int k2),?_⟩;rw[E.out];exact⟨_,rfl,noPr_v _ _,fx_bel_of HB2.out f3 (fun k hk x=>by have:=HLE.out;rcases x with x|x<;>omega)⟩
  | ok p s2=>
   rw[hres]at hpo;obtain⟨v,rfl,⟨p',rfl,xp,ep⟩,h2,f⟩:=hpo;have E:Hid (Z=.ok p s2):=by show Z=_;rw[HZ.out,hres]
   have B0_2:=Hj (f.blk B0_1.out B0_1.out.lt HR0.out.1);have B1_2:=Hj (f.blk B1_1.out B1_1.out.lt HR0.out.2.1);have B2_2:=Hj (f.blk B2_1.out B2_1.out.lt HR0.out.2.2.1);have HB2:=Hj (fx_bel_of HB1.out f (fun k hk (x:k=R)=>by have:=HR0.out.2.2.2;omega));have XP:=Hj xp;have EP:=Hj ep;have L1:Hid (b1<w1.heap.size∧b2<w1.heap.size∧w.heap.size<w1.heap.size):=⟨B1_1.out.lt,B2_1.out.lt,B0_1.out.lt⟩;clear f h2 xp ep hres HZ HRD B0_1 B1_1 B2_1 HB1;have ne12:=HNE.out.2.2;have ne21:=Ne.symm HNE.out.2.2;unfold Pr.v
   go_wp2_with (refine st_prW p'.ticks p'.ds p'.is p'.ss w.heap.size B0_2.out rfl _ _ rfl rfl rfl rfl ?_;intro w3 B0_3 WR;have B1_3:=Hj (WR.out.blk B1_2.out (Ne.symm HNE.out.1));have B2_3:=Hj (WR.out.blk B2_2.out (Ne.symm HNE.out.2.1));have m1:=B1_3.out.cell 0;have m2:=B2_3.out.cell 0;have z1:=B1_3.out.frozen 0;have z2:=B2_3.out.frozen 0)
   have F4:=fx_set (fx_set (WR.out.1.mono (Y:=Th3 w.heap.size b1 b2) (Nat.le_refl _) (fun k _ x=>.inl x)) (p:=⟨b1,0,none⟩) (.inl (.inr (.inl rfl))) (.int .i64 0)) (p:=⟨b2,0,none⟩) (.inl (.inr (.inr rfl))) (.int .i64 0);have e1:Blk ((w3.setCell ⟨b1,0,none⟩ (.int .i64 0)).setCell ⟨b2,0,none⟩ (.int .i64 0)) b1 24 #[.int .i64 0]:=(B1_3.out.set_ 0 (.int .i64 0)).far (p:=⟨b2,0,none⟩) ne12 _;have e2:Blk ((w3.setCell ⟨b1,0,none⟩ (.int .i64 0)).setCell ⟨b2,0,none⟩ (.int .i64 0)) b2 3 #[.int .i64 0]:=(B2_3.out.far (p:=⟨b1,0,none⟩) ne21 (.int .i64 0)).set_ 0 (.int .i64 0);have e0:Blk ((w3.setCell ⟨b1,0,none⟩ (.int .i64 0)).setCell ⟨b2,0,none⟩ (.int .i64 0)) w.heap.size 30 _:=(B0_3.out.far (p:=⟨b1,0,none⟩) HNE.out.1 (.int .i64 0)).far (p:=⟨b2,0,none⟩) HNE.out.2.1 (.int .i64 0);clear m1 m2 z1 z2 WR B0_2 B1_2 B2_2 B0_3 B1_3 B2_3;generalize (w3.setCell ⟨b1,0,none⟩ (.int .i64 0)).setCell ⟨b2,0,none⟩ (.int .i64 0)=w4 at *;refine leaves_cons (f:=27) (args:=#[.pointer (some ⟨b1,0,none⟩),.pointer (some ⟨b2,0,none⟩)]) (by simp) (by simp[go_sem]) ?_;refine(pc_idle b1 b2 w4).mono ?_;rintro e u' w5 ⟨rfl,rfl,h5⟩
   refine⟨_,results_row3 rfl _ w5 w.heap.size 30 (prvs p'.ticks p'.ds p'.is p'.ss).toArray _ b1 b2 _ _ rfl rfl rfl (e0.below h5 e0.lt) Tryz.underlying30 rfl (by kernel_rfl) (ld_err (e1.below h5 e1.lt)) (ld_int (e2.below h5 e2.lt)),?_⟩;rw[E.out];have hX:∀k,Th3 w.heap.size b1 b2 k→¬Fro w1.heap.size k:=fun k x (y:w1.heap.size≤k)=>by have:=L1.out;rcases x with x|x|x<;>omega
   exact⟨_,rfl,⟨p',rfl,((XP.out.fx F4 hX).bel h5).imp (fun k _ (x:w1.heap.size≤k)=>Nat.le_trans (Nat.le_of_lt L1.out.2.2) x),EP.out⟩,bel_trans (fx_bel_of HB2.out F4 (fun k hk x=>by have:=HLE.out;rcases x with x|x|x<;>omega)) h5⟩
 ·rw[if_neg c]at hpn
  obtain⟨rfl,hb⟩:=hpn;have B0_2:=Hj (B0.out.below hb B0.out.lt);have B1_2:=Hj (B1.out.below hb B1.out.lt);have B2_2:=Hj (B2.out.below hb B2.out.lt);have HB2:=Hj (bel_trans HBL.out hb);have E:Hid (Z=.no L.2.1 (L.2.2:Nat)):=by show Z=_;rw[HRS.out,if_neg c]
  clear hb c HRS HBL B0 B1 B2;go_wp2_with fail;refine leaves_cons (f:=27) (args:=#[.pointer (some ⟨b1,0,none⟩),.pointer (some ⟨b2,0,none⟩)]) (by simp) (by simp[go_sem]) ?_;refine(pc_panicking b1 b2 0 0 _ _ [] w1 B1_2.out B2_2.out HNE.out.2.2).mono ?_;rintro e u' w3 ⟨rfl,rfl,k1,k2,f3⟩;refine⟨_,results_row3 rfl _ w3 w.heap.size 30 (prvs 0 ⟨none,0,0⟩ ⟨none,0,0⟩ ⟨none,0,0⟩).toArray _ b1 b2 _ _ rfl rfl rfl (f3.blk B0_2.out B0_2.out.lt (fun x=>x.elim HNE.out.1 HNE.out.2.1)) Tryz.underlying30 rfl (by kernel_rfl) (ld_err k1) (ld_int k2),?_⟩;rw[E.out];exact⟨_,rfl,noPr_v _ _,fx_bel_of HB2.out f3 (fun k hk x=>by have:=HLE.out;rcases x with x|x<;>omega)⟩
end Go.Proofs.YthmlhkllbichgaaGreatDoor
