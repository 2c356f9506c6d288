/-
  Whatever program is handed in, CheckChecks answers true. (part 11 of 38) Conditions: none beside what the card ties.
-/
import Derived.Test.YtkbicfffokegeaaGreatDoorCaj
namespace Go.Proofs.YtkbicfffokegeaaGreatDoor
set_option maxHeartbeats 16000000
open Go.RowKit
set_option maxRecDepth 100000
def fP (n:Int)(s:Bool)(t:Int):Int:=if n<t then -1 else if n=t∧s=false then 0 else 1
theorem oD (n:Int)(s:Bool)(t:Int):-1≤fP n s t∧fP n s t≤1:=by unfold fP;split<;>(try split)<;>omega
theorem aKr {n t:Int}{s:Bool}:0≤fP n s t↔t≤n:=by unfold fP;split<;>(try split)<;>omega
theorem pI {a b c:Int}(hc:0<c):gD (a*c) (b*c)=gD a b:=by
 have h1:a*c<b*c↔a<b:=⟨fun h=>Int.lt_of_mul_lt_mul_right h (Int.le_of_lt hc),fun h=>Int.mul_lt_mul_of_pos_right h hc⟩;have h2:b*c<a*c↔b<a:=⟨fun h=>Int.lt_of_mul_lt_mul_right h (Int.le_of_lt hc),fun h=>Int.mul_lt_mul_of_pos_right h hc⟩;unfold gD;simp only[h1,h2]
theorem aFO {P Q t:Int}(hQ:0<Q):gD P (t*Q)=fP (P / Q) (decide (P % Q≠0)) t:=by
 have d:=Int.ediv_mul_add_emod P Q;have r0:=Int.emod_nonneg P (Int.ne_of_gt hQ);have r1:=Int.emod_lt_of_pos P hQ;generalize P / Q=n at *;generalize P % Q=r at *;rcases Int.lt_trichotomy n t with h|h|h
 ·have:(n+1)*Q≤t*Q:=Int.mul_le_mul_of_nonneg_right (by omega) (Int.le_of_lt hQ)
  rw[Int.add_mul]at this;rw[uQ (by omega)];unfold fP;rw[if_pos h]
 ·subst h
  unfold fP;rw[if_neg (by omega)]
  by_cases hr:r=0
  ·subst hr
   rw[show P=n*Q by omega,uR]
   simp
  ·rw[qY (by omega)]
   simp[hr]
 ·have:(t+1)*Q≤n*Q:=Int.mul_le_mul_of_nonneg_right (by omega) (Int.le_of_lt hQ)
  rw[Int.add_mul]at this;rw[qY (by omega)];unfold fP;rw[if_neg (by omega),if_neg (by omega)]
theorem aFP (n t:Int)(s r:Bool):(if fP n s t=0∧r=true then 1 else fP n s t)=fP n (s || r) t:=by
 unfold fP
 cases s<;>cases r<;>(repeat' split)<;>simp_all
def hN (a b E:Int):Int:=a*2 ^ eP E / (b*2 ^ eQ E)
def hS (a b E:Int)(r:Bool):Bool:=decide (a*2 ^ eP E % (b*2 ^ eQ E)≠0) || r
theorem aKb {a b E m e:Int}(hb:0<b)(he:-1075≤e) :
  gD (2 ^ (E-min E e).toNat*a) (2 ^ (e-min E e).toNat*(m*b))=fP (hN a b E) (decide (a*2 ^ eP E % (b*2 ^ eQ E)≠0)) (m*2 ^ (e+1075).toNat):=by
 have hq:0<b*2 ^ eQ E:=Int.mul_pos hb (aM _);unfold hN;rw[←aFO hq,←pI (aM (eP E)),←pI (a:=a*2 ^ eP E) (aM (E-min E e).toNat)]
 congr 1
 ·rw[Int.mul_comm (2 ^ (E-min E e).toNat) a,Int.mul_right_comm]
 ·have h1:(2:Int) ^ (e-min E e).toNat*2 ^ eP E=2 ^ (e+1075).toNat*2 ^ eQ E*2 ^ (E-min E e).toNat:=by
   rw[←Int.pow_add,←Int.pow_add,←Int.pow_add]
   congr 1
   unfold eP eQ;omega
  rw[Int.mul_comm (2 ^ (e-min E e).toNat),Int.mul_assoc,h1];simp only[Int.mul_assoc,Int.mul_left_comm b]
def XV (w:World)(v:Value)(n:Int)(s:Bool)(L:Nat):Prop:=∃ya yb a b E r,v=.agg #[ya,yb,.int .i64 E,.bool r]∧fN w ya a L∧fN w yb b L∧0<b ∧ -5000≤E∧E≤5000∧hN a b E=n∧hS a b E r=s
theorem XV.below {w w':World}{v:Value}{n:Int}{s:Bool}{L:Nat}(h:XV w v n s L)(hb:Below w.heap.size w w'):XV w' v n s L:=by
 obtain⟨ya,yb,a,b,E,r,h1,h2,h3,h4⟩:=h;exact⟨ya,yb,a,b,E,r,h1,h2.below hb,h3.below hb,h4⟩
theorem XV.nonneg {w:World}{v:Value}{n:Int}{s:Bool}{L:Nat}(h:XV w v n s L):0≤n:=by
 obtain⟨ya,yb,a,b,E,r,h1,h2,h3,h4,_,_,h5,_⟩:=h;rw[←h5];exact Int.ediv_nonneg (Int.mul_nonneg h2.nonneg (Int.le_of_lt (aM _))) (Int.le_of_lt (Int.mul_pos h4 (aM _)))
theorem gT {w:World}{v y:Value}{n m e:Int}{s:Bool}{L K:Nat}(hx:XV w v n s L)(hy:fN w y m K)(hL:L≤65536)(hK:K≤65536)(he:-1075≤e∧e≤5000) :
  Calls Tryz.prog 165 #[v,y,.int .i64 e] w fun x w'=>x=.returned (.int .i64 (fP n s (m*2 ^ (e+1075).toNat)))∧Below w.heap.size w w':=by
 obtain⟨ya,yb,a,b,E,r,rfl,h2,h3,h4,h5,h6,rfl,rfl⟩:=hx;have EQ:=aKb (a:=a) (E:=E) (m:=m) (e:=e) h4 he.1;have FIN:=aFP (hN a b E) (m*2 ^ (e+1075).toNat) (decide (a*2 ^ eP E % (b*2 ^ eQ E)≠0)) r;rw[←EQ]at FIN;have FIN':Hid ((if gD (2 ^ (E-min E e).toNat*a) (2 ^ (e-min E e).toNat*(m*b))=0∧r=true then 1 else gD (2 ^ (E-min E e).toNat*a) (2 ^ (e-min E e).toNat*(m*b)))=fP (hN a b E) (hS a b E r) (m*2 ^ (e+1075).toNat)):=FIN;clear EQ FIN;obtain⟨A,na,ca,rfl⟩:=h2.form;obtain⟨B,nb,cb,rfl⟩:=h3.form;obtain⟨C,nc,cc,rfl⟩:=hy.form;have h4':=Hj h4;generalize hlow:min E e=low at *;have hl1:0≤E-low∧E-low≤20000:=by omega
 have hl2:0≤e-low∧e-low≤20000:=by omega
 go_enter Tryz.func165,Tryz.ntmps165;go_wp2_with fail;refine(aCH (h2.alloc _) (by omega) hl1.1 (by omega) (L+(E-low).toNat) (by omega)).mono ?_;rintro x w1 ⟨v1,n1,rfl,hb1⟩;obtain⟨A1,m1,c1,rfl⟩:=n1.form;have c0:=hb1.cell (p:=⟨w.heap.size,0,none⟩) (by simp);have c1:=hb1.cell (p:=⟨w.heap.size,1,none⟩) (by simp);have c2:=hb1.cell (p:=⟨w.heap.size,2,none⟩) (by simp);have c3:=hb1.cell (p:=⟨w.heap.size,3,none⟩) (by simp)
 simp[go_sem]at c0 c1 c2 c3
 have hb1':Below w.heap.size w w1:=aG (aI (Below.refl _ _) _) hb1;go_wp2_with fail;refine(aMJ (hy.below hb1') (h3.below hb1') (by omega) (by omega)).mono ?_;rintro x w2 ⟨v2,n2,rfl,hb2⟩;obtain⟨A2,m2,c2',rfl⟩:=n2.form;go_wp2_with fail;refine(aCH n2 (by omega) hl2.1 (by omega) (K+L+1+(e-low).toNat) (by omega)).mono ?_;rintro x w3 ⟨v3,n3,rfl,hb3⟩;obtain⟨A3,m3,c3',rfl⟩:=n3.form;go_wp2_with fail;refine(aMM (n1.below (aG hb2 hb3)) n3 (by omega) (by omega)).mono ?_;rintro x w4 ⟨rfl,rfl⟩;have k3:=uE (aG hb2 hb3) c3;have HB:=Hj (aG hb1' (aG hb2 hb3));have hbd:=aKs (2 ^ (E-low).toNat*a) (2 ^ (e-low).toNat*(m*b));generalize gD (2 ^ (E-low).toNat*a) (2 ^ (e-low).toNat*(m*b))=c at *
 by_cases h0:c=0
 ·subst h0
  cases r
  iterate 2
   ·go_wp2_with fail
    go_ret;exact⟨aW FIN'.out,HB.out⟩
 ·have z:(c == 0)=false:=by simp[h0]
  have F:=FIN'.out;rw[if_neg (by intro h;exact h0 h.1)]at F;have F':=Hj F;clear F FIN';go_wp2_with fail;go_ret;exact⟨aW F'.out,HB.out⟩
def gm (k:Int):Int:=if k / 4503599627370496=0 then k % 4503599627370496 else k % 4503599627370496+4503599627370496
def gy (k:Int):Int:=if k / 4503599627370496=0 then -1074 else k / 4503599627370496-1075
def gK (k:Int):Int:=gZ (k / 4503599627370496) (k % 4503599627370496)
theorem aKV {k:Int}(h0:0≤k)(h1:k≤9218868437227405312):-1074≤gy k∧gy k≤972:=by unfold gy;split<;>omega
theorem aKY {k:Int}(h0:0≤k):gm k*2 ^ (gy k+1075).toNat=2*gK k:=by
 unfold gm gy gK gZ
 by_cases h:k / 4503599627370496=0
 ·rw[if_pos h,if_pos h,if_pos h]
  rw[show(-1074+1075:Int).toNat=1 by decide];omega
 ·rw[if_neg h,if_neg h,if_neg h]
  rw[show(k / 4503599627370496-1075+1075).toNat=(k / 4503599627370496-1).toNat+1 by omega,Int.pow_succ,Int.add_comm 4503599627370496,←Int.mul_assoc,Int.mul_comm 2]
theorem aEy {k k':Int}(h0:0≤k)(h:k<k'):gK k<gK k':=by
 refine aAA ?_ ?_ ?_ ?_ ?_ ?_ ?_<;>omega
theorem aIS {k:Int}(h0:0≤k)(h1:k<9223372036854775808):bits BinOp.and IntKind.i64 k 4503599627370495=k % 4503599627370496:=by
 obtain⟨j,rfl⟩:=Int.eq_ofNat_of_zero_le h0
 have hj:(BitVec.ofInt 64 (j:Int)).toNat=j:=by
  rw[BitVec.ofInt_natCast,BitVec.toNat_ofNat];exact Nat.mod_eq_of_lt (by omega)
 show IntKind.i64.wrap ((BitVec.ofInt 64 (j:Int) &&& BitVec.ofInt 64 (4503599627370495:Int)).toNat:Int)=_;rw[BitVec.toNat_and,hj,show(BitVec.ofInt 64 (4503599627370495:Int)).toNat=2 ^ 52-1 by decide,Nat.and_two_pow_sub_one_eq_mod,IntKind.wrap_i64];omega
theorem eG (k:Int)(h0:0≤k)(h1:k≤9218868437227405312)(w:World):Calls Tryz.prog 164 #[.int .i64 k] w fun x w'=>∃v,fN w' v (gm k) 64∧x=.returned (.tuple #[v,.int .i64 (gy k)])∧Below w.heap.size w w':=by
 have A:=aIS h0 (by omega);have hr:0≤k % 4503599627370496∧k % 4503599627370496<4503599627370496:=by omega
 by_cases h:k / 4503599627370496=0
 ·have e1:gm k=k % 4503599627370496:=by unfold gm;rw[if_pos h]
  have e2:gy k = -1074:=by unfold gy;rw[if_pos h]
  rw[e1,e2];go_enter Tryz.func164,Tryz.ntmps164;go_wp2_with fail;refine(ofV (uK w _ _) ⟨hr.1,by omega⟩).mono ?_;rintro x w1 ⟨v1,n1,rfl,hb1⟩;obtain⟨A1,m1,c1,rfl⟩:=n1.form;go_wp2_with fail
  go_ret2
  exact⟨_,n1,rfl,aG (aI (Below.refl _ _) _) hb1⟩
 ·have e1:gm k=k % 4503599627370496+4503599627370496:=by unfold gm;rw[if_neg h]
  have e2:gy k=k / 4503599627370496-1075:=by unfold gy;rw[if_neg h]
  rw[e1,e2];have z:(k / 4503599627370496 == 0)=false:=by simp[h]
  have hq:0≤k / 4503599627370496∧k / 4503599627370496≤2047:=by omega
  go_enter Tryz.func164,Tryz.ntmps164;go_wp2_with fail;refine(ofV (uK w _ _) (m:=k % 4503599627370496+4503599627370496) ⟨by omega,by omega⟩).mono ?_;rintro x w1 ⟨v1,n1,rfl,hb1⟩;obtain⟨A1,m1,c1,rfl⟩:=n1.form;go_wp2_with fail
  go_ret2
  exact⟨_,n1,rfl,aG (aI (Below.refl _ _) _) hb1⟩
def aAW (n k:Int):Prop:=0≤k∧k≤9218868437227405312∧2*gK k≤n∧(k≤9218868437227405311→n<2*gK (k+1))
theorem aDw {w:World}{v:Value}{n:Int}{s:Bool}{L:Nat}(hx:XV w v n s L)(hL:L≤65536):Calls Tryz.prog 163 #[v] w fun x w'=>∃k,aAW n k∧x=.returned (.int .i64 k)∧Below w.heap.size w w':=by
 have hn:=hx.nonneg;have hx':=hx;obtain⟨ya,yb,a,b,E,r,rfl,h2,h3,h4⟩:=hx';obtain⟨A,na,ca,rfl⟩:=h2.form;obtain⟨B,nb,cb,rfl⟩:=h3.form;clear h2 h3 h4;go_enter Tryz.func163,Tryz.ntmps163;go_wp2_with fail
 go_loopw [3,4] (fun s3 s4 wr=>∃lo hi:Int,s3=.int .i64 lo∧s4=.int .i64 hi∧0≤lo∧lo≤hi∧hi≤9218868437227405312∧Hid (2*gK lo≤n)∧Hid (hi≤9218868437227405311→n<2*gK (hi+1))∧Hid (Below (w.alloc (.cells #[.slice A na ca,.slice B nb cb,.int .i64 E,.bool r] 161)).heap.size (w.alloc (.cells #[.slice A na ca,.slice B nb cb,.int .i64 E,.bool r] 161)) wr)) (fun s3 s4 _=>(intOf s4-intOf s3).toNat)
 case atStart=>
  refine⟨0,9218868437227405312,rfl,rfl,Int.le_refl _,by decide,Int.le_refl _,?_,fun h=>absurd h (by decide),Below.refl _ _⟩;show 2*gK 0≤n;rw[show gK 0=0 by decide];omega
 case round=>
  obtain⟨lo,hi,rfl,rfl,h0,h1,h2,HL,HH,HB⟩:=hrel
  by_cases hlt:lo<hi
  ·have c0:=HB.out.cell (p:=⟨w.heap.size,0,none⟩) (by simp)
   have c1:=HB.out.cell (p:=⟨w.heap.size,1,none⟩) (by simp);have c2:=HB.out.cell (p:=⟨w.heap.size,2,none⟩) (by simp);have c3:=HB.out.cell (p:=⟨w.heap.size,3,none⟩) (by simp)
   simp[go_sem]at c0 c1 c2 c3
   obtain⟨K,hK⟩:∃K,K=hi - (hi - lo) / 2:=⟨_,rfl⟩;have hK':hi-(hi-lo) / 2=K:=hK.symm;have k1:lo<K∧K≤hi:=by omega
   clear hK;have HBw:Below w.heap.size w wr:=aG (aI (Below.refl _ _) _) HB.out;have ey:=aKV (k:=K) (by omega) (by omega);go_wp2_with fail;refine(eG K (by omega) (by omega) _).mono ?_;rintro x w1 ⟨v1,n1,rfl,hb1⟩;obtain⟨A1,m1,l1,rfl⟩:=n1.form;have d0:=uE hb1 c0;have d1:=uE hb1 c1;have d2:=uE hb1 c2;have d3:=uE hb1 c3;go_wp2_with fail;refine(gT (hx.below (aG HBw hb1)) n1 hL (by decide) ⟨by omega,by omega⟩).mono ?_;rintro x w2 ⟨rfl,hb2⟩;rw[aKY (k:=K) (by omega)];have hbd:=oD n s (2*gK K);have hge:=aKr (n:=n) (s:=s) (t:=2*gK K);have HB2:Hid (Below (w.alloc (.cells #[.slice A na ca,.slice B nb cb,.int .i64 E,.bool r] 161)).heap.size (w.alloc (.cells #[.slice A na ca,.slice B nb cb,.int .i64 E,.bool r] 161)) w2):=aG HB.out (aG hb1 hb2);have HG:=Hj hge;clear hge hb1 hb2;generalize fP n s (2*gK K)=c at *
   by_cases hc:0≤c
   ·go_wp2_with fail
    go_roundw
    case rel=>exact⟨K,hi,rfl,rfl,by omega,k1.2,h2,HG.out.1 hc,HH,HB2⟩
    case measure=>simp[intOf];omega
   ·go_wp2_with fail
    go_roundw
    case rel=>exact⟨lo,K - 1,rfl,rfl,h0,by omega,by omega,HL,(by intro _;rw[show K - 1+1=K by omega];have:=HG.out;omega),HB2⟩
    case measure=>simp[intOf];omega
  ·have:hi=lo:=by omega
   subst this;have fin:aAW n hi:=⟨h0,h2,HL.out,HH.out⟩;go_wp2_with fail;go_ret;exact⟨hi,fin,rfl,aG (aI (Below.refl _ _) _) HB.out⟩
theorem aEx {u:Nat}{W:Int}(h0:0≤W)(h1:W≤9007199254740992)(hu:0<u→4503599627370496≤W):gK ((u:Int)*4503599627370496+W)=W*2 ^ u:=by
 unfold gK gZ
 by_cases a:W<4503599627370496
 ·have:u=0:=by omega
  subst this;rw[if_pos (by omega)]
  simp
  omega
 ·rw[if_neg (by omega)]
  by_cases b:W<9007199254740992
  ·rw[show(((u:Int)*4503599627370496+W) / 4503599627370496-1).toNat=u by omega,show 4503599627370496+((u:Int)*4503599627370496+W) % 4503599627370496=W by omega]
  ·have:W=9007199254740992:=by omega
   subst this;rw[show(((u:Int)*4503599627370496+9007199254740992) / 4503599627370496-1).toNat=u+1 by omega,show 4503599627370496+((u:Int)*4503599627370496+9007199254740992) % 4503599627370496=4503599627370496 by omega,Int.pow_succ,Int.mul_comm (2 ^ u) 2,←Int.mul_assoc];rfl
def K0 (n:Int):Int:=(rU n:Int)*4503599627370496+rW n
theorem aIX {n:Int}(h:0≤n):0≤K0 n:=by have:=(lB h).1;unfold K0;omega
theorem aAs {n:Int}:n=(2*rW n+b2i (rH n))*2 ^ rU n+n % 2 ^ rU n:=by
 have d:=Int.ediv_mul_add_emod n (2 ^ rU n)
 have e:n / 2 ^ rU n=2*rW n+b2i (rH n):=by
  unfold rW rH b2i;rw[(fT (rU n) 1).1];simp only[Int.pow_one,decide_eq_true_eq]
  split<;>omega
 rw[e]at d;omega
theorem aCt {n:Int}(h:0≤n):2*gK (K0 n)≤n∧n<2*gK (K0 n+1):=by
 obtain⟨h0,h1,h2⟩:=lB h;have e1:=aEx (u:=rU n) h0 (by omega) h2;have e2:=aEx (u:=rU n) (W:=rW n+1) (by omega) (by omega) (by intro h;have:=h2 h;omega);unfold K0;rw[Int.add_assoc,e1,e2];have p:=aAs (n:=n);have hp:=aM (rU n);have r0:=Int.emod_nonneg n (Int.ne_of_gt hp);have r1:=Int.emod_lt_of_pos n hp;have b:=xP (rH n);generalize (2:Int) ^ rU n=z at *;generalize n % z=r at *;generalize b2i (rH n)=c at *;generalize rW n=W at *;rw[p];have k1:0≤c*z:=Int.mul_nonneg b.1 (Int.le_of_lt hp);have k2:c*z≤1*z:=Int.mul_le_mul_of_nonneg_right b.2 (Int.le_of_lt hp);rw[Int.add_mul,Int.add_mul,Int.mul_assoc];omega
theorem aFE {n k:Int}(h:0≤n)(hk:aAW n k):k=min (K0 n) 9218868437227405312:=by
 obtain⟨k0,k1,k2,k3⟩:=hk;obtain⟨f1,f2⟩:=aCt h;have hz:=aIX h;rcases Int.lt_trichotomy k (K0 n)with a|a|a
 ·by_cases b:k≤9218868437227405311
  ·have:=k3 b
   rcases Int.lt_or_eq_of_le (show k+1≤K0 n by omega)with c|c
   ·have:=aEy (by omega) c
    omega
   ·rw[c]at this
    omega
  ·omega
 ·omega
 ·rcases Int.lt_or_eq_of_le (show K0 n+1≤k by omega)with c|c
  ·have:=aEy (by omega) c
   omega
  ·rw[c]at f2
   omega
theorem wP (md:Int)(neg:Bool)(n:Int)(s:Bool):kU md neg n s=K0 n+b2i (cL md neg n s):=rfl
theorem zW {n:Int}{s:Bool}(h:0≤n):(fP n s (2*gK (K0 n)) == 0)=rX n s:=by
 obtain⟨h0,h1,h2⟩:=lB h;have e1:=aEx (u:=rU n) h0 (by omega) h2;have p:=aAs (n:=n);have hp:=aM (rU n);have r0:=Int.emod_nonneg n (Int.ne_of_gt hp);unfold K0;rw[e1];unfold rX rB fP;generalize (2:Int) ^ rU n=z at *;generalize n % z=r at *;generalize rW n=W at *;have e3:2*(W*z)=2*W*z:=by rw[Int.mul_assoc]
 rw[e3]
 cases hH:rH n
 ·rw[hH,show b2i false=0 by rfl,Int.add_zero]at p
  by_cases hr:r=0
  ·subst hr
   rw[show n=2*W*z by omega];cases s<;>simp
  ·rw[if_neg (by omega),if_neg (by omega)]
   simp[hr]
 ·rw[hH,show b2i true=1 by rfl,Int.add_mul]at p
  rw[if_neg (by omega),if_neg (by omega)]
  simp
theorem zV {n : Int} {s : Bool} (h : 0 ≤ n) : decide (fP n s 9007199254740992 < 0) = decide (rW n < 4503599627370496) := by
  have e : n < 9007199254740992 ↔ rW n < 4503599627370496 := by
    rw [aBA h];constructor
    · intro h1
      exact jZ (k := 52) (by omega) (by       have : (2 : Int) ^ 52 = 4503599627370496 := by decide
                                              omega)
    · intro h1
      have := uT (a := n / 2) (k := 52) (by omega) h1;have e2 : (2 : Int) ^ 52 = 4503599627370496 := by decide
      omega
  unfold fP
  by_cases hn : n < 9007199254740992
  · rw [if_pos hn, decide_eq_true (e.1 hn)]
    rfl
  · rw [if_neg hn, decide_eq_false (fun h => hn (e.2 h))]
    split <;> rfl
theorem aLW {n:Int}(h:0≤n):(2*gm (K0 n)+1)*2 ^ (gy (K0 n)-1+1075).toNat=(2*rW n+1)*2 ^ rU n:=by
 obtain⟨h0,h1,h2⟩:=lB h
 have e1:gm (K0 n)=rW n:=by
  unfold gm K0
  split<;>omega
 have e2:(gy (K0 n)-1+1075).toNat=rU n:=by
  unfold gy K0
  split<;>omega
 rw[e1,e2]
theorem aAP {n:Int}{s:Bool}:decide (0<fP n s ((2*rW n+1)*2 ^ rU n))=(rH n && rB n s)∧(fP n s ((2*rW n+1)*2 ^ rU n) == 0)=(rH n && !rB n s):=by
 have p:=aAs (n:=n);have hp:=aM (rU n);have r0:=Int.emod_nonneg n (Int.ne_of_gt hp);have r1:=Int.emod_lt_of_pos n hp;unfold rB fP;generalize (2:Int) ^ rU n=z at *;generalize n % z=r at *;generalize rW n=W at *
 cases hH:rH n
 ·rw[hH,show b2i false=0 by rfl,Int.add_zero]at p
  rw[Int.add_mul,if_pos (by omega)];exact⟨rfl,rfl⟩
 ·rw[hH,show b2i true=1 by rfl]at p
  by_cases hr:r=0
  ·subst hr
   rw[show n=(2*W+1)*z by omega];cases s<;>simp
  ·rw[if_neg (by omega),if_neg (by omega)]
   simp[hr]
theorem aMB {n:Int}(h:0≤n):(K0 n).tmod 2=rW n % 2:=by
 rw[Int.tmod_eq_emod_of_nonneg (aIX h)];unfold K0;omega
structure At4 (w:World) (g:Nat) (A B:Option Addr) (na ca nb cb:Nat) (E:Int) (r:Bool):Prop where
 c0:w.cell? ⟨g,0,none⟩=some (.slice A na ca)
 c1:w.cell? ⟨g,1,none⟩=some (.slice B nb cb)
 c2:w.cell? ⟨g,2,none⟩=some (.int .i64 E)
 c3:w.cell? ⟨g,3,none⟩=some (.bool r)
theorem At4.below {w w':World}{g:Nat}{A B:Option Addr}{na ca nb cb:Nat}{E:Int}{r:Bool}(h:At4 w g A B na ca nb cb E r)(hb:Below w.heap.size w w'):At4 w' g A B na ca nb cb E r:=
 ⟨uE hb h.c0,uE hb h.c1,uE hb h.c2,uE hb h.c3⟩
theorem At4.new (w:World)(t:TypeId)(A B:Option Addr)(na ca nb cb:Nat)(E:Int)(r:Bool):At4 (w.alloc (.cells #[.slice A na ca,.slice B nb cb,.int .i64 E,.bool r] t)) w.heap.size A B na ca nb cb E r:=by
 constructor<;>simp[go_sem]
theorem aAO {n:Int}{s:Bool}:cL 1 false n s = !rX n s:=by simp[cL]
theorem sY {n:Int}{s:Bool}:cL 2 false n s=false:=by simp[cL]
theorem fJ {md n:Int}{s:Bool}{neg:Bool}(h1:¬md=1)(h2:¬md=2):cL md neg n s=(rH n && (rB n s || decide (rW n % 2=1))):=by simp[cL,h1,h2]
theorem mI {md n:Int}{s:Bool}(_hn:0≤n)(ht:K0 n≤9218868437227405311)(hA:cL md false n s=false):iH md false n s=K0 n∧rG md false n s=if rX n s=true then 0 else if rW n<4503599627370496 then 3 else 1:=by
 have e:=wP md false n s;rw[hA,show b2i false=0 by rfl,Int.add_zero]at e;unfold iH rG;rw[if_pos (by omega),if_pos (by omega)];exact⟨e,rfl⟩
theorem sM {md n:Int}{s:Bool}(_hn:0≤n)(hA:cL md false n s=true)(ht:K0 n<9218868437227405311):iH md false n s=K0 n+1∧rG md false n s=if rX n s=true then 0 else if rW n<4503599627370496 then 3 else 1:=by
 have e:=wP md false n s;rw[hA,show b2i true=1 by rfl]at e;unfold iH rG;rw[if_pos (by omega),if_pos (by omega)];exact⟨e,rfl⟩
theorem lM {md n:Int}{s:Bool}(hA:cL md false n s=true)(ht:9218868437227405311≤K0 n):iH md false n s=gA md false∧rG md false n s=5:=by
 have e:=wP md false n s;rw[hA,show b2i true=1 by rfl]at e;unfold iH rG;rw[if_neg (by omega),if_neg (by omega)];exact⟨rfl,rfl⟩
theorem aDz {md n:Int}{s:Bool}(ht:9218868437227405311<K0 n):iH md false n s=gA md false∧rG md false n s=5:=by
 have e:=wP md false n s;have:=xP (cL md false n s);unfold iH rG;rw[if_neg (by omega),if_neg (by omega)];exact⟨rfl,rfl⟩
def aNK (k f:Int)(w:World)(e:Ending)(w':World):Prop:=e=.returned (.tuple #[.int .i64 k,.int .u8 f])∧Below w.heap.size w w'
theorem qP {w:World}{v:Value}{n:Int}{s:Bool}{L:Nat}(hx:XV w v n s L)(hL:L≤65536)(md:Int):Calls Tryz.prog 135 #[v,.int .u8 md] w (aNK (iH md false n s) (rG md false n s) w):=by
 have hn:=hx.nonneg;have hx':=hx;obtain⟨ya,yb,a,b,E,r,rfl,h2,h3,h4⟩:=hx';obtain⟨A,na,ca,rfl⟩:=h2.form;obtain⟨B,nb,cb,rfl⟩:=h3.form;clear h2 h3 h4;go_enter Tryz.func135,Tryz.ntmps135;go_wp2_with fail;refine(aDw (hx.below (aI (Below.refl _ _) _)) hL).mono ?_;rintro x w1 ⟨k,hk,rfl,hb1⟩;have HKEY:=Hj (aFE hn hk);have hk0:0≤k∧k≤9218868437227405312:=⟨hk.1,hk.2.1⟩;clear hk;have a1:=(At4.new w 161 A B na ca nb cb E r).below hb1;have B1:Below w.heap.size w w1:=aG (aI (Below.refl _ _) _) hb1;clear hb1;have ey:=aKV hk0.1 hk0.2;obtain⟨d0,d1,d2,d3⟩:=a1;go_wp2_with fail;refine(eG k hk0.1 hk0.2 _).mono ?_;rintro x w2 ⟨v1,n1,rfl,hb2⟩;obtain⟨A1,m1,l1,rfl⟩:=n1.form;have a2:=At4.below ⟨d0,d1,d2,d3⟩ hb2;have B2:=aG B1 hb2;clear d0 d1 d2 d3 B1 hb2;obtain⟨d0,d1,d2,d3⟩:=a2;go_wp2_with fail;refine(gT (hx.below B2) n1 hL (by decide) ⟨by omega,by omega⟩).mono ?_;rintro x w3 ⟨rfl,hb3⟩;rw[aKY hk0.1];have a3:=At4.below ⟨d0,d1,d2,d3⟩ hb3;have B3:=aG B2 hb3;have n3:=n1.below hb3;clear d0 d1 d2 d3 B2 hb3 n1;go_wp2_with fail;refine(ofV (uK w3 _ _) (m:=1) ⟨by decide,by decide⟩).mono ?_;rintro x w4 ⟨v4,n4,rfl,hb4⟩;obtain⟨A4,m4,l4,rfl⟩:=n4.form
 have hb4':=aG (aI (Below.refl w3.heap.size w3) _) hb4;have a4:=a3.below hb4';have B4:=aG B3 hb4';clear a3 B3 hb4 hb4' n3;obtain⟨d0,d1,d2,d3⟩:=a4;generalize hc1:fP n s (2*gK k)=c1
 by_cases htop:K0 n≤9218868437227405311
 ·have hkK:k=K0 n:=by have:=HKEY.out;omega
  have htop':k≤9218868437227405311:=by omega
  clear HKEY;have HKEY:=Hj hkK;have HODD:Hid (k.tmod 2=rW n % 2):=by show _=_;rw[hkK];exact aMB hn
  have HMID:Hid ((2*gm k+1)*2 ^ (gy k-1+1075).toNat=(2*rW n+1)*2 ^ rU n):=by show _=_;rw[hkK];exact aLW hn
  have hX:=zW (s:=s) hn;rw[←hkK,hc1]at hX;have htopH:=Hj htop;clear hkK hc1
  cases hXX:rX n s
  ·rw[hXX]at hX
   have HX:=Hj hXX;clear hXX;go_wp2_with fail;refine(gT (hx.below B4) n4 hL (by decide) ⟨by decide,by decide⟩).mono ?_;rintro x w5 ⟨rfl,hb5⟩;rw[show(1:Int)*2 ^ ((-1022:Int)+1075).toNat=9007199254740992 by decide];have a5:=At4.below ⟨d0,d1,d2,d3⟩ hb5;have B5:=aG B4 hb5;have n4:=n4.below hb5;clear d0 d1 d2 d3 hb5;obtain⟨d0,d1,d2,d3⟩:=a5;have hU:=zV (s:=s) hn;have hbd2:=oD n s 9007199254740992;generalize fP n s 9007199254740992=c2 at *
   by_cases hUN:rW n<4503599627370496
   ·rw[decide_eq_true hUN]at hU
    have HUN:=Hj hUN;clear hUN
    by_cases hm1:md=1
    ·subst hm1
     have HA:cL 1 false n s=true:=by rw[aAO,HX.out];rfl
     by_cases hlast:k=9218868437227405311
     ·have G:=Hj (lM (md:=1) (n:=n) HA (by rw[←HKEY.out,hlast];decide))
      exfalso
      have:=HUN.out;have h9:=HKEY.out;have h8:=(lB hn).2.2;unfold K0 at h9;omega
     ·have G:=Hj (sM (md:=1) hn HA (by have:=HKEY.out;omega))
      rw[HX.out,if_neg (by decide),if_pos HUN.out,←HKEY.out]at G;have hlast':k<9218868437227405311:=by omega
      go_wp2_with fail
      go_ret2
      exact⟨bO G.out.1.symm G.out.2.symm,B5⟩
    ·by_cases hm2:md=2
     ·subst hm2
      have HA:cL 2 false n s=false:=sY;have G:=Hj (mI (md:=2) hn htop HA);rw[HX.out,if_neg (by decide),if_pos HUN.out,←HKEY.out]at G;go_wp2_with fail
      go_ret2
      exact⟨bO G.out.1.symm G.out.2.symm,B5⟩
     ·have z1:(md == 1)=false:=by simp[hm1]
      have z2:(md == 2)=false:=by simp[hm2]
      have ey':=ey;go_wp2_with fail;refine(eG k hk0.1 hk0.2 _).mono ?_;rintro x w6 ⟨v6,n6,rfl,hb6⟩;obtain⟨A6,m6,l6,rfl⟩:=n6.form;have a6:=At4.below ⟨d0,d1,d2,d3⟩ hb6;have B6:=aG B5 hb6;have n4:=n4.below hb6;clear d0 d1 d2 d3 hb6;obtain⟨d0,d1,d2,d3⟩:=a6;go_wp2_with fail;refine(aCH n6 (N:=1) (by decide) (by decide) (by decide) 65 (by decide)).mono ?_;rintro x w7 ⟨v7,n7,rfl,hb7⟩;obtain⟨A7,m7,l7,rfl⟩:=n7.form;have a7:=At4.below ⟨d0,d1,d2,d3⟩ hb7;have B7:=aG B6 hb7;have n4:=n4.below hb7;clear d0 d1 d2 d3 hb7;obtain⟨d0,d1,d2,d3⟩:=a7;go_wp2_with fail;refine(vW n7 n4 (by decide) (by decide)).mono ?_;rintro x w8 ⟨v8,n8,rfl,hb8⟩;obtain⟨A8,m8,l8,rfl⟩:=n8.form;have a8:=At4.below ⟨d0,d1,d2,d3⟩ hb8;have B8:=aG B7 hb8;clear d0 d1 d2 d3 hb8;obtain⟨d0,d1,d2,d3⟩:=a8;rw[show(2:Int) ^ (1:Int).toNat*gm k+1=2*gm k+1 by rw[show(1:Int).toNat=1 by decide,Int.pow_one]]at n8;go_wp2_with fail;refine(gT (hx.below B8) n8 hL (by decide) ⟨by omega,by omega⟩).mono ?_;rintro x w9 ⟨rfl,hb9⟩;rw[HMID.out];have B9:=aG B8 hb9;have hM:=aAP (n:=n) (s:=s);have hbd3:=oD n s ((2*rW n+1)*2 ^ rU n);generalize fP n s ((2*rW n+1)*2 ^ rU n)=c3 at *;clear hb9 HMID
      cases hH:rH n
      ·rw[hH]at hM
       have hM1:decide (0<c3)=false:=hM.1;have hM2:(c3 == 0)=false:=hM.2;have HA:cL md false n s=false:=by rw[fJ hm1 hm2,hH];rfl
       clear hM;have G:=Hj (mI (md:=md) hn htop HA);rw[HX.out,if_neg (by decide),if_pos HUN.out,←HKEY.out]at G;go_wp2_with fail
       go_ret2
       exact⟨bO G.out.1.symm G.out.2.symm,B9⟩
      ·rw[hH]at hM
       cases hB:rB n s
       ·rw[hB]at hM
        have hM1:decide (0<c3)=false:=hM.1;have hM2:(c3 == 0)=true:=hM.2;clear hM
        by_cases hO:rW n % 2=1
        ·have HA:cL md false n s=true:=by rw[fJ hm1 hm2,hH,hB,decide_eq_true hO];rfl
         have hodd:(k.tmod 2 == 1)=true:=by rw[HODD.out,hO];rfl
         have hodd2:(k % 2 == 1)=true:=by rw[←Int.tmod_eq_emod_of_nonneg hk0.1];exact hodd
         clear hO HODD
         by_cases hlast:k=9218868437227405311
         ·have G:=Hj (lM (md:=md) (n:=n) HA (by rw[←HKEY.out,hlast];decide))
          exfalso
          have:=HUN.out;have h9:=HKEY.out;have h8:=(lB hn).2.2;unfold K0 at h9;omega
         ·have G:=Hj (sM (md:=md) hn HA (by have:=HKEY.out;omega))
          rw[HX.out,if_neg (by decide),if_pos HUN.out,←HKEY.out]at G;have hlast':k<9218868437227405311:=by omega
          go_wp2_with fail
          go_ret2
          exact⟨bO G.out.1.symm G.out.2.symm,B9⟩
        ·have HA:cL md false n s=false:=by rw[fJ hm1 hm2,hH,hB,decide_eq_false hO];rfl
         have hodd:(k.tmod 2 == 1)=false:=by rw[HODD.out];simp;omega
         have hodd2:(k % 2 == 1)=false:=by rw[←Int.tmod_eq_emod_of_nonneg hk0.1];exact hodd
         clear hO HODD;have G:=Hj (mI (md:=md) hn htop HA);rw[HX.out,if_neg (by decide),if_pos HUN.out,←HKEY.out]at G;go_wp2_with fail
         go_ret2
         exact⟨bO G.out.1.symm G.out.2.symm,B9⟩
       ·rw[hB]at hM
        have hM1:decide (0<c3)=true:=hM.1;have hM2:(c3 == 0)=false:=hM.2;have HA:cL md false n s=true:=by rw[fJ hm1 hm2,hH,hB];rfl
        clear hM
        by_cases hlast:k=9218868437227405311
        ·have G:=Hj (lM (md:=md) (n:=n) HA (by rw[←HKEY.out,hlast];decide))
         exfalso
         have:=HUN.out;have h9:=HKEY.out;have h8:=(lB hn).2.2;unfold K0 at h9;omega
        ·have G:=Hj (sM (md:=md) hn HA (by have:=HKEY.out;omega))
         rw[HX.out,if_neg (by decide),if_pos HUN.out,←HKEY.out]at G;have hlast':k<9218868437227405311:=by omega
         go_wp2_with fail
         go_ret2
         exact⟨bO G.out.1.symm G.out.2.symm,B9⟩
   ·rw[decide_eq_false hUN]at hU
    have HUN:=Hj hUN;clear hUN
    by_cases hm1:md=1
    ·subst hm1
     have HA:cL 1 false n s=true:=by rw[aAO,HX.out];rfl
     by_cases hlast:k=9218868437227405311
     ·have G:=Hj (lM (md:=1) (n:=n) HA (by rw[←HKEY.out,hlast];decide))
      subst hlast;rw[show gA 1 false=9218868437227405312 by decide]at G;go_wp2_with fail
      go_ret2
      exact⟨bO G.out.1.symm G.out.2.symm,B5⟩
     ·have G:=Hj (sM (md:=1) hn HA (by have:=HKEY.out;omega))
      rw[HX.out,if_neg (by decide),if_neg (show ¬rW n<4503599627370496 by have:=HUN.out;omega),←HKEY.out]at G;have hlast':k<9218868437227405311:=by omega
      go_wp2_with fail
      go_ret2
      exact⟨bO G.out.1.symm G.out.2.symm,B5⟩
    ·by_cases hm2:md=2
     ·subst hm2
      have HA:cL 2 false n s=false:=sY;have G:=Hj (mI (md:=2) hn htop HA);rw[HX.out,if_neg (by decide),if_neg (show ¬rW n<4503599627370496 by have:=HUN.out;omega),←HKEY.out]at G;go_wp2_with fail
      go_ret2
      exact⟨bO G.out.1.symm G.out.2.symm,B5⟩
     ·have z1:(md == 1)=false:=by simp[hm1]
      have z2:(md == 2)=false:=by simp[hm2]
      have ey':=ey;go_wp2_with fail;refine(eG k hk0.1 hk0.2 _).mono ?_;rintro x w6 ⟨v6,n6,rfl,hb6⟩;obtain⟨A6,m6,l6,rfl⟩:=n6.form;have a6:=At4.below ⟨d0,d1,d2,d3⟩ hb6;have B6:=aG B5 hb6;have n4:=n4.below hb6;clear d0 d1 d2 d3 hb6;obtain⟨d0,d1,d2,d3⟩:=a6;go_wp2_with fail;refine(aCH n6 (N:=1) (by decide) (by decide) (by decide) 65 (by decide)).mono ?_;rintro x w7 ⟨v7,n7,rfl,hb7⟩;obtain⟨A7,m7,l7,rfl⟩:=n7.form;have a7:=At4.below ⟨d0,d1,d2,d3⟩ hb7;have B7:=aG B6 hb7;have n4:=n4.below hb7;clear d0 d1 d2 d3 hb7;obtain⟨d0,d1,d2,d3⟩:=a7;go_wp2_with fail;refine(vW n7 n4 (by decide) (by decide)).mono ?_;rintro x w8 ⟨v8,n8,rfl,hb8⟩;obtain⟨A8,m8,l8,rfl⟩:=n8.form;have a8:=At4.below ⟨d0,d1,d2,d3⟩ hb8;have B8:=aG B7 hb8;clear d0 d1 d2 d3 hb8;obtain⟨d0,d1,d2,d3⟩:=a8;rw[show(2:Int) ^ (1:Int).toNat*gm k+1=2*gm k+1 by rw[show(1:Int).toNat=1 by decide,Int.pow_one]]at n8;go_wp2_with fail;refine(gT (hx.below B8) n8 hL (by decide) ⟨by omega,by omega⟩).mono ?_;rintro x w9 ⟨rfl,hb9⟩;rw[HMID.out];have B9:=aG B8 hb9;have hM:=aAP (n:=n) (s:=s);have hbd3:=oD n s ((2*rW n+1)*2 ^ rU n);generalize fP n s ((2*rW n+1)*2 ^ rU n)=c3 at *;clear hb9 HMID
      cases hH:rH n
      ·rw[hH]at hM
       have hM1:decide (0<c3)=false:=hM.1;have hM2:(c3 == 0)=false:=hM.2;have HA:cL md false n s=false:=by rw[fJ hm1 hm2,hH];rfl
       clear hM;have G:=Hj (mI (md:=md) hn htop HA);rw[HX.out,if_neg (by decide),if_neg (show ¬rW n<4503599627370496 by have:=HUN.out;omega),←HKEY.out]at G;go_wp2_with fail
       go_ret2
       exact⟨bO G.out.1.symm G.out.2.symm,B9⟩
      ·rw[hH]at hM
       cases hB:rB n s
       ·rw[hB]at hM
        have hM1:decide (0<c3)=false:=hM.1;have hM2:(c3 == 0)=true:=hM.2;clear hM
        by_cases hO:rW n % 2=1
        ·have HA:cL md false n s=true:=by rw[fJ hm1 hm2,hH,hB,decide_eq_true hO];rfl
         have hodd:(k.tmod 2 == 1)=true:=by rw[HODD.out,hO];rfl
         have hodd2:(k % 2 == 1)=true:=by rw[←Int.tmod_eq_emod_of_nonneg hk0.1];exact hodd
         clear hO HODD
         by_cases hlast:k=9218868437227405311
         ·have G:=Hj (lM (md:=md) (n:=n) HA (by rw[←HKEY.out,hlast];decide))
          subst hlast;rw[show gA md false=9218868437227405312 by unfold gA;rw[if_neg (by intro h;rcases h with h|h;exact absurd h.1 (by decide);exact hm2 h.2)]]at G;go_wp2_with fail
          go_ret2
          exact⟨bO G.out.1.symm G.out.2.symm,B9⟩
         ·have G:=Hj (sM (md:=md) hn HA (by have:=HKEY.out;omega))
          rw[HX.out,if_neg (by decide),if_neg (show ¬rW n<4503599627370496 by have:=HUN.out;omega),←HKEY.out]at G;have hlast':k<9218868437227405311:=by omega
          go_wp2_with fail
          go_ret2
          exact⟨bO G.out.1.symm G.out.2.symm,B9⟩
        ·have HA:cL md false n s=false:=by rw[fJ hm1 hm2,hH,hB,decide_eq_false hO];rfl
         have hodd:(k.tmod 2 == 1)=false:=by rw[HODD.out];simp;omega
         have hodd2:(k % 2 == 1)=false:=by rw[←Int.tmod_eq_emod_of_nonneg hk0.1];exact hodd
         clear hO HODD;have G:=Hj (mI (md:=md) hn htop HA);rw[HX.out,if_neg (by decide),if_neg (show ¬rW n<4503599627370496 by have:=HUN.out;omega),←HKEY.out]at G;go_wp2_with fail
         go_ret2
         exact⟨bO G.out.1.symm G.out.2.symm,B9⟩
       ·rw[hB]at hM
        have hM1:decide (0<c3)=true:=hM.1;have hM2:(c3 == 0)=false:=hM.2;have HA:cL md false n s=true:=by rw[fJ hm1 hm2,hH,hB];rfl
        clear hM
        by_cases hlast:k=9218868437227405311
        ·have G:=Hj (lM (md:=md) (n:=n) HA (by rw[←HKEY.out,hlast];decide))
         subst hlast;rw[show gA md false=9218868437227405312 by unfold gA;rw[if_neg (by intro h;rcases h with h|h;exact absurd h.1 (by decide);exact hm2 h.2)]]at G;go_wp2_with fail
         go_ret2
         exact⟨bO G.out.1.symm G.out.2.symm,B9⟩
        ·have G:=Hj (sM (md:=md) hn HA (by have:=HKEY.out;omega))
         rw[HX.out,if_neg (by decide),if_neg (show ¬rW n<4503599627370496 by have:=HUN.out;omega),←HKEY.out]at G;have hlast':k<9218868437227405311:=by omega
         go_wp2_with fail
         go_ret2
         exact⟨bO G.out.1.symm G.out.2.symm,B9⟩
  ·rw[hXX]at hX
   have HX:=Hj hXX;clear hXX
   by_cases hm1:md=1
   ·subst hm1
    have HA:cL 1 false n s=false:=by rw[aAO,HX.out];rfl
    have G:=Hj (mI (md:=1) hn htop HA);rw[HX.out,if_pos rfl,←HKEY.out]at G;go_wp2_with fail
    go_ret2
    exact⟨bO G.out.1.symm G.out.2.symm,B4⟩
   ·by_cases hm2:md=2
    ·subst hm2
     have HA:cL 2 false n s=false:=sY;have G:=Hj (mI (md:=2) hn htop HA);rw[HX.out,if_pos rfl,←HKEY.out]at G;go_wp2_with fail
     go_ret2
     exact⟨bO G.out.1.symm G.out.2.symm,B4⟩
    ·have z1:(md == 1)=false:=by simp[hm1]
     have z2:(md == 2)=false:=by simp[hm2]
     have ey':=ey;go_wp2_with fail;refine(eG k hk0.1 hk0.2 _).mono ?_;rintro x w6 ⟨v6,n6,rfl,hb6⟩;obtain⟨A6,m6,l6,rfl⟩:=n6.form;have a6:=At4.below ⟨d0,d1,d2,d3⟩ hb6;have B6:=aG B4 hb6;have n4:=n4.below hb6;clear d0 d1 d2 d3 hb6;obtain⟨d0,d1,d2,d3⟩:=a6;go_wp2_with fail;refine(aCH n6 (N:=1) (by decide) (by decide) (by decide) 65 (by decide)).mono ?_;rintro x w7 ⟨v7,n7,rfl,hb7⟩;obtain⟨A7,m7,l7,rfl⟩:=n7.form;have a7:=At4.below ⟨d0,d1,d2,d3⟩ hb7;have B7:=aG B6 hb7;have n4:=n4.below hb7;clear d0 d1 d2 d3 hb7;obtain⟨d0,d1,d2,d3⟩:=a7;go_wp2_with fail;refine(vW n7 n4 (by decide) (by decide)).mono ?_;rintro x w8 ⟨v8,n8,rfl,hb8⟩;obtain⟨A8,m8,l8,rfl⟩:=n8.form;have a8:=At4.below ⟨d0,d1,d2,d3⟩ hb8;have B8:=aG B7 hb8;clear d0 d1 d2 d3 hb8;obtain⟨d0,d1,d2,d3⟩:=a8;rw[show(2:Int) ^ (1:Int).toNat*gm k+1=2*gm k+1 by rw[show(1:Int).toNat=1 by decide,Int.pow_one]]at n8;go_wp2_with fail;refine(gT (hx.below B8) n8 hL (by decide) ⟨by omega,by omega⟩).mono ?_;rintro x w9 ⟨rfl,hb9⟩;rw[HMID.out];have B9:=aG B8 hb9;have hM:=aAP (n:=n) (s:=s);have hbd3:=oD n s ((2*rW n+1)*2 ^ rU n);generalize fP n s ((2*rW n+1)*2 ^ rU n)=c3 at *;clear hb9 HMID
     cases hH:rH n
     ·rw[hH]at hM
      have hM1:decide (0<c3)=false:=hM.1;have hM2:(c3 == 0)=false:=hM.2;have HA:cL md false n s=false:=by rw[fJ hm1 hm2,hH];rfl
      clear hM;have G:=Hj (mI (md:=md) hn htop HA);rw[HX.out,if_pos rfl,←HKEY.out]at G;go_wp2_with fail
      go_ret2
      exact⟨bO G.out.1.symm G.out.2.symm,B9⟩
     ·rw[hH]at hM
      exfalso
      have h9:=HX.out;unfold rX at h9;rw[hH]at h9
      simp at h9
 ·have hkK:k=9218868437227405312:=by have:=HKEY.out;omega
  have G:=Hj (aDz (md:=md) (s:=s) (n:=n) (by omega));have hbig:¬rW n<4503599627370496:=by have h8:=(lB hn).2.2;have h7:=(lB hn).2.1;unfold K0 at htop;omega
  have hU:=zV (s:=s) hn;rw[decide_eq_false hbig]at hU;clear HKEY htop hbig hc1;subst hkK
  by_cases hX:c1=0
  ·subst hX
   by_cases hm1:md=1
   ·subst hm1
    rw[show gA 1 false=9218868437227405312 by decide]at G;go_wp2_with fail
    go_ret2
    exact⟨bO G.out.1.symm G.out.2.symm,B4⟩
   ·by_cases hm2:md=2
    ·subst hm2
     rw[show gA 2 false=9218868437227405311 by decide]at G;go_wp2_with fail
     go_ret2
     exact⟨bO G.out.1.symm G.out.2.symm,B4⟩
    ·have z1:(md == 1)=false:=by simp[hm1]
     have z2:(md == 2)=false:=by simp[hm2]
     rw[show gA md false=9218868437227405312 by unfold gA;rw[if_neg (by intro h;rcases h with h|h;exact absurd h.1 (by decide);exact hm2 h.2)]]at G;go_wp2_with fail;refine(eG 9218868437227405312 (by decide) (by decide) _).mono ?_;rintro x w6 ⟨v6,n6,rfl,hb6⟩;obtain⟨A6,m6,l6,rfl⟩:=n6.form;have a6:=At4.below ⟨d0,d1,d2,d3⟩ hb6;have B6:=aG B4 hb6;have n4:=n4.below hb6;clear d0 d1 d2 d3 hb6;obtain⟨d0,d1,d2,d3⟩:=a6;go_wp2_with fail;refine(eG 9218868437227405311 (by decide) (by decide) _).mono ?_;rintro x w7 ⟨v7,n7,rfl,hb7⟩;obtain⟨A7,m7,l7,rfl⟩:=n7.form;have a7:=At4.below ⟨d0,d1,d2,d3⟩ hb7;have B7:=aG B6 hb7;have n4:=n4.below hb7;clear d0 d1 d2 d3 hb7;obtain⟨d0,d1,d2,d3⟩:=a7;rw[show gy 9218868437227405311=971 by decide];go_wp2_with fail;refine(vW n7 n4 (by decide) (by decide)).mono ?_;rintro x w8 ⟨v8,n8,rfl,hb8⟩;obtain⟨A8,m8,l8,rfl⟩:=n8.form;have a8:=At4.below ⟨d0,d1,d2,d3⟩ hb8;have B8:=aG B7 hb8;have n4:=n4.below hb8;clear d0 d1 d2 d3 hb8;obtain⟨d0,d1,d2,d3⟩:=a8;go_wp2_with fail;refine(aCH n8 (N:=1) (by decide) (by decide) (by decide) 200 (by decide)).mono ?_;rintro x w9 ⟨v9,n9,rfl,hb9⟩;obtain⟨A9,m9,l9,rfl⟩:=n9.form;have a9:=At4.below ⟨d0,d1,d2,d3⟩ hb9;have B9:=aG B8 hb9
     have n4:=n4.below hb9;clear d0 d1 d2 d3 hb9;obtain⟨d0,d1,d2,d3⟩:=a9;go_wp2_with fail;refine(vW n9 n4 (by decide) (by decide)).mono ?_;rintro x w10 ⟨v10,n10,rfl,hb10⟩;obtain⟨A10,m10,l10,rfl⟩:=n10.form;have a10:=At4.below ⟨d0,d1,d2,d3⟩ hb10;have B10:=aG B9 hb10;clear d0 d1 d2 d3 hb10;obtain⟨d0,d1,d2,d3⟩:=a10;go_wp2_with fail;refine(gT (hx.below B10) n10 hL (by decide) ⟨by decide,by decide⟩).mono ?_;rintro x w11 ⟨rfl,hb11⟩;have B11:=aG B10 hb11;generalize hc3:fP n s _=c3;clear hc3 hb11
     by_cases hM1:0<c3
     ·have hM2:decide (0<c3)=true:=decide_eq_true hM1
      go_wp2_with fail
      go_ret2
      exact⟨bO G.out.1.symm G.out.2.symm,B11⟩
     ·have hM2:decide (0<c3)=false:=decide_eq_false hM1
      by_cases hM3:c3=0
      ·subst hM3
       go_wp2_with fail
       go_ret2
       exact⟨bO G.out.1.symm G.out.2.symm,B11⟩
      ·have hM4:(c3 == 0)=false:=by simp[hM3]
       go_wp2_with fail
       go_ret2
       exact⟨bO G.out.1.symm G.out.2.symm,B11⟩
  ·have hX':(c1 == 0)=false:=by simp[hX]
   go_wp2_with fail;refine(gT (hx.below B4) n4 hL (by decide) ⟨by decide,by decide⟩).mono ?_;rintro x w5 ⟨rfl,hb5⟩;rw[show(1:Int)*2 ^ ((-1022:Int)+1075).toNat=9007199254740992 by decide];have a5:=At4.below ⟨d0,d1,d2,d3⟩ hb5;have B5:=aG B4 hb5;have n4:=n4.below hb5;clear d0 d1 d2 d3 hb5;obtain⟨d0,d1,d2,d3⟩:=a5;have hbd2:=oD n s 9007199254740992;generalize fP n s 9007199254740992=c2 at *
   by_cases hm1:md=1
   ·subst hm1
    rw[show gA 1 false=9218868437227405312 by decide]at G;go_wp2_with fail
    go_ret2
    exact⟨bO G.out.1.symm G.out.2.symm,B5⟩
   ·by_cases hm2:md=2
    ·subst hm2
     rw[show gA 2 false=9218868437227405311 by decide]at G;go_wp2_with fail
     go_ret2
     exact⟨bO G.out.1.symm G.out.2.symm,B5⟩
    ·have z1:(md == 1)=false:=by simp[hm1]
     have z2:(md == 2)=false:=by simp[hm2]
     rw[show gA md false=9218868437227405312 by unfold gA;rw[if_neg (by intro h;rcases h with h|h;exact absurd h.1 (by decide);exact hm2 h.2)]]at G;go_wp2_with fail;refine(eG 9218868437227405312 (by decide) (by decide) _).mono ?_;rintro x w6 ⟨v6,n6,rfl,hb6⟩;obtain⟨A6,m6,l6,rfl⟩:=n6.form;have a6:=At4.below ⟨d0,d1,d2,d3⟩ hb6;have B6:=aG B5 hb6;have n4:=n4.below hb6;clear d0 d1 d2 d3 hb6;obtain⟨d0,d1,d2,d3⟩:=a6;go_wp2_with fail;refine(eG 9218868437227405311 (by decide) (by decide) _).mono ?_;rintro x w7 ⟨v7,n7,rfl,hb7⟩;obtain⟨A7,m7,l7,rfl⟩:=n7.form;have a7:=At4.below ⟨d0,d1,d2,d3⟩ hb7;have B7:=aG B6 hb7;have n4:=n4.below hb7;clear d0 d1 d2 d3 hb7;obtain⟨d0,d1,d2,d3⟩:=a7;rw[show gy 9218868437227405311=971 by decide];go_wp2_with fail;refine(vW n7 n4 (by decide) (by decide)).mono ?_;rintro x w8 ⟨v8,n8,rfl,hb8⟩;obtain⟨A8,m8,l8,rfl⟩:=n8.form;have a8:=At4.below ⟨d0,d1,d2,d3⟩ hb8;have B8:=aG B7 hb8;have n4:=n4.below hb8;clear d0 d1 d2 d3 hb8;obtain⟨d0,d1,d2,d3⟩:=a8;go_wp2_with fail;refine(aCH n8 (N:=1) (by decide) (by decide) (by decide) 200 (by decide)).mono ?_;rintro x w9 ⟨v9,n9,rfl,hb9⟩;obtain⟨A9,m9,l9,rfl⟩:=n9.form;have a9:=At4.below ⟨d0,d1,d2,d3⟩ hb9;have B9:=aG B8 hb9
     have n4:=n4.below hb9;clear d0 d1 d2 d3 hb9;obtain⟨d0,d1,d2,d3⟩:=a9;go_wp2_with fail;refine(vW n9 n4 (by decide) (by decide)).mono ?_;rintro x w10 ⟨v10,n10,rfl,hb10⟩;obtain⟨A10,m10,l10,rfl⟩:=n10.form;have a10:=At4.below ⟨d0,d1,d2,d3⟩ hb10;have B10:=aG B9 hb10;clear d0 d1 d2 d3 hb10;obtain⟨d0,d1,d2,d3⟩:=a10;go_wp2_with fail;refine(gT (hx.below B10) n10 hL (by decide) ⟨by decide,by decide⟩).mono ?_;rintro x w11 ⟨rfl,hb11⟩;have B11:=aG B10 hb11;generalize hc3:fP n s _=c3;clear hc3 hb11
     by_cases hM1:0<c3
     ·have hM2:decide (0<c3)=true:=decide_eq_true hM1
      go_wp2_with fail
      go_ret2
      exact⟨bO G.out.1.symm G.out.2.symm,B11⟩
     ·have hM2:decide (0<c3)=false:=decide_eq_false hM1
      by_cases hM3:c3=0
      ·subst hM3
       go_wp2_with fail
       go_ret2
       exact⟨bO G.out.1.symm G.out.2.symm,B11⟩
      ·have hM4:(c3 == 0)=false:=by simp[hM3]
       go_wp2_with fail
       go_ret2
       exact⟨bO G.out.1.symm G.out.2.symm,B11⟩
theorem aDM (n:Int)(s:Bool):cL 2 false n s=cL 1 true n s:=by simp[cL]
theorem aDL (n:Int)(s:Bool):cL 1 false n s=cL 2 true n s:=by simp[cL]
theorem aIN {md n:Int}{s:Bool}(h1:¬md=1)(h2:¬md=2):cL md false n s=cL md true n s:=by simp[cL,h1,h2]
theorem aFY:gA 2 false=gA 1 true:=by decide
theorem aFX:gA 1 false=gA 2 true:=by decide
theorem aKy {md:Int}(h1:¬md=1)(h2:¬md=2):gA md false=gA md true:=by simp[gA,h1,h2]
theorem aLk {md md' n:Int}{s:Bool}(h1:cL md' false n s=cL md true n s)(h2:gA md' false=gA md true):iH md' false n s=iH md true n s∧rG md' false n s=rG md true n s:=by
 have hk:kU md' false n s=kU md true n s:=by unfold kU;rw[h1]
 unfold iH rG;rw[hk,h2];exact⟨rfl,rfl⟩
theorem aLJ {k:Int}(h:0≤k):fOf k false=k+sg false:=by
 unfold fOf sg;rw[if_neg (by intro h2;rcases h2 with h2|h2;omega;exact absurd h2.2 (by decide))]
 simp
theorem aDh {k:Int}(h:0≤k):fOf (-k) true=k+sg true:=by
 unfold fOf sg;rw[if_pos (by rcases Int.lt_or_eq_of_le h with h2|h2;exact .inl (by omega);exact .inr ⟨by omega,rfl⟩)]
 simp
theorem tQ {w:World}{v:Value}{n:Int}{s:Bool}{L:Nat}(hx:XV w v n s L)(hL:L≤65536)(neg:Bool)(md:Int):Calls Tryz.prog 112 #[.bool neg,v,.int .u8 md] w (aAU (rF md neg n s) (rG md neg n s) w):=by
 have hn:=hx.nonneg;have hx':=hx;obtain⟨ya,yb,a,b,E,r,rfl,h2,h3,h4⟩:=hx';obtain⟨A,na,ca,rfl⟩:=h2.form;obtain⟨B,nb,cb,rfl⟩:=h3.form;clear h2 h3 h4;cases neg
 ·have bd:=nR (md:=md) (neg:=false) (s:=s) hn
  have e1:=Hj (aLJ bd.1);have MC:=Hj (fun W (h:XV W (.agg #[.slice A na ca,.slice B nb cb,.int .i64 E,.bool r]) n s L)=>qP h hL md);go_enter Tryz.func112,Tryz.ntmps112;go_wp2_with fail;refine(MC.out _ (hx.below (aI (Below.refl _ _) _))).mono ?_;rintro x w1 ⟨rfl,hb1⟩;go_wp2_with fail;refine(qQ (iH md false n s) false (by omega) (by omega) _).mono ?_;rintro x w2 ⟨rfl,rfl⟩;go_wp2_with fail
  go_ret2
  exact⟨bO e1.out rfl,aG (aI (Below.refl _ _) _) hb1⟩
 ·by_cases hm1:md=1
  ·subst hm1
   obtain⟨t1,t2⟩:=aLk (aDM n s) aFY;have MC:=fun W (h:XV W (.agg #[.slice A na ca,.slice B nb cb,.int .i64 E,.bool r]) n s L)=>qP h hL 2;rw[t1,t2]at MC;have MC':=Hj MC;clear MC t1 t2;have bd:=nR (md:=1) (neg:=true) (s:=s) hn;have e1:=Hj (aDh bd.1);go_enter Tryz.func112,Tryz.ntmps112;go_wp2_with fail;refine(MC'.out _ (hx.below (aI (Below.refl _ _) _))).mono ?_;rintro x w1 ⟨rfl,hb1⟩;go_wp2_with fail;refine(qQ (-iH 1 true n s) true (by omega) (by omega) _).mono ?_;rintro x w2 ⟨rfl,rfl⟩;go_wp2_with fail
   go_ret2
   exact⟨bO e1.out rfl,aG (aI (Below.refl _ _) _) hb1⟩
  ·by_cases hm2:md=2
   ·subst hm2
    obtain⟨t1,t2⟩:=aLk (aDL n s) aFX;have MC:=fun W (h:XV W (.agg #[.slice A na ca,.slice B nb cb,.int .i64 E,.bool r]) n s L)=>qP h hL 1;rw[t1,t2]at MC;have MC':=Hj MC;clear MC t1 t2;have bd:=nR (md:=2) (neg:=true) (s:=s) hn;have e1:=Hj (aDh bd.1);go_enter Tryz.func112,Tryz.ntmps112;go_wp2_with fail;refine(MC'.out _ (hx.below (aI (Below.refl _ _) _))).mono ?_;rintro x w1 ⟨rfl,hb1⟩;go_wp2_with fail;refine(qQ (-iH 2 true n s) true (by omega) (by omega) _).mono ?_;rintro x w2 ⟨rfl,rfl⟩;go_wp2_with fail
    go_ret2
    exact⟨bO e1.out rfl,aG (aI (Below.refl _ _) _) hb1⟩
   ·obtain⟨t1,t2⟩:=aLk (aIN (n:=n) (s:=s) hm1 hm2) (aKy hm1 hm2)
    have MC:=fun W (h:XV W (.agg #[.slice A na ca,.slice B nb cb,.int .i64 E,.bool r]) n s L)=>qP h hL md;rw[t1,t2]at MC;have MC':=Hj MC;clear MC t1 t2;have bd:=nR (md:=md) (neg:=true) (s:=s) hn;have e1:=Hj (aDh bd.1);have z1:(md == 1)=false:=by simp[hm1]
    have z2:(md == 2)=false:=by simp[hm2]
    go_enter Tryz.func112,Tryz.ntmps112;go_wp2_with fail;refine(MC'.out _ (hx.below (aI (Below.refl _ _) _))).mono ?_;rintro x w1 ⟨rfl,hb1⟩;go_wp2_with fail;refine(qQ (-iH md true n s) true (by omega) (by omega) _).mono ?_;rintro x w2 ⟨rfl,rfl⟩;go_wp2_with fail
    go_ret2
    exact⟨bO e1.out rfl,aG (aI (Below.refl _ _) _) hb1⟩
theorem aIa {m E:Int}{r:Bool}:hN m 1 E=rN m (eP E) (eQ E)∧hS m 1 E r=rS m (eP E) (eQ E) r:=by
 unfold hN hS rN rS;rw[Int.one_mul];exact⟨rfl,rfl⟩
theorem aBP {w:World}{x:Value}{L:Nat}(h:fN w x 0 L)(hL:L≤65536)(neg:Bool)(e:Int)(r:Bool)(md:Int):Calls Tryz.prog 89 #[.bool neg,x,.int .i64 e,.bool r,.int .u8 md] w (aAU (sg neg) 0 w):=by
 have RL:=aMK h (by omega);rw[dV]at RL;obtain⟨A,m,c,rfl⟩:=h.form;go_enter Tryz.func89,Tryz.ntmps89;go_wp2_with fail;refine RL.mono ?_;rintro x w1 ⟨rfl,rfl⟩;go_wp2_with fail;refine(qQ 0 neg (by decide) (by decide) _).mono ?_;rintro x w2 ⟨rfl,rfl⟩;go_wp2_with fail
 go_ret2
 exact⟨bO (by cases neg<;>decide) rfl,Below.refl _ _⟩
theorem aDu {w:World}{x:Value}{p:Int}{L:Nat}(h:fN w x p L)(hL:L≤65536)(hp:0<p)(neg:Bool)(e:Int)(r:Bool)(md:Int):Calls Tryz.prog 89 #[.bool neg,x,.int .i64 e,.bool r,.int .u8 md] w (aAU (rF md neg (rN p (eP (eC e)) (eQ (eC e))) (rS p (eP (eC e)) (eQ (eC e)) (r && decide (54≤bB p)))) (rG md neg (rN p (eP (eC e)) (eQ (eC e))) (rS p (eP (eC e)) (eQ (eC e)) (r && decide (54≤bB p)))) w):=by
 obtain⟨A,n,c,xs,rfl,hn,hc,hr,hv,hl⟩:=h;have vl:=aAa xs;rw[hn]at vl;obtain⟨K,hK,hKm,hKv⟩:=aDJ (fY xs) vl;have CL:=Hj (aBu A n c xs w hn hr (by omega));rw[hK]at CL;have HL:Hid ((xs.take K).length=K):=by show _=_;rw[List.length_take,hn,Nat.min_eq_left hKm]
 have HV:Hid (val (xs.take K)=p):=by show _=_;rw[vA hKv,hv]
 have hKp:bB p=(K:Int):=by rw[←hv,hK]
 have hK1:1≤K:=by obtain⟨j,e1,_,_⟩:=cZ hp;omega
 have z0:((K:Int) == 0)=false:=by simp;omega
 rw[hKp];have hrt:=hr.take K;have hKc:(K:Int)≤(c:Int):=by omega
 clear hK hKv vl hr hv hn hKp;generalize xs.take K=ys at *;have hC:=aIv e;have e0:min (max e (-5000)) 5000=eC e:=rfl;generalize eC e=E at *;have ROW:fN w (.slice A K c) p L:=⟨A,K,c,ys,rfl,HL.out,by omega,hrt,HV.out,by omega⟩
 have XC:Hid (∀rr:Bool,XV (w.alloc (.cells #[.bool true] 4)) (.agg #[.slice A K c,.slice (some ⟨w.heap.size,0,none⟩) 1 1,.int .i64 E,.bool rr]) (rN p (eP E) (eQ E)) (rS p (eP E) (eQ E) rr) (max L 1)):=
  fun rr=>⟨_,_,p,1,E,rr,rfl,(ROW.alloc _).mono (by omega),⟨_,1,1,[true],rfl,rfl,aD _,aJq w,by decide,by omega⟩,by decide,hC.1,hC.2,(aIa (r:=rr)).1,aIa.2⟩
 cases r
 ·go_enter Tryz.func89,Tryz.ntmps89
  go_wp2_with fail;refine CL.out.mono ?_;rintro x w1 ⟨rfl,rfl⟩;clear CL;go_wp2_with fail;refine(tQ (XC.out false) (by omega) neg md).mono ?_;rintro x w2 ⟨rfl,hb2⟩;go_wp2_with fail
  go_ret2
  exact⟨rfl,aG (aI (Below.refl _ _) _) hb2⟩
 ·go_enter Tryz.func89,Tryz.ntmps89
  go_wp2_with fail;refine CL.out.mono ?_;rintro x w1 ⟨rfl,rfl⟩;clear CL;go_wp2_with fail;refine(tQ (XC.out _) (by omega) neg md).mono ?_;rintro x w2 ⟨rfl,hb2⟩;go_wp2_with fail
  go_ret2
  exact⟨rfl,aG (aI (Below.refl _ _) _) hb2⟩
theorem wQ {k:Int}{s:Bool}(h0:0≤k)(h1:k≤9218868437227405312):fS (k+sg s)=s∧(k+sg s) % 9223372036854775808=k∧fE (k+sg s)=k / 4503599627370496∧fM (k+sg s)=k % 4503599627370496∧bC (k+sg s):=by
 have hw:bC (k+sg s):=by
  have:=aKL s
  constructor<;>omega
 unfold fS fE fM;cases s
 ·rw[show sg false=0 by rfl]
  refine⟨by simp;omega,by omega,by omega,by omega,hw⟩
 ·rw[show sg true=9223372036854775808 by rfl]
  refine⟨by simp;omega,by omega,by omega,by omega,hw⟩
theorem aHT {k:Int}{s:Bool}(h0:0≤k)(h1:k≤9218868437227405312):fC (k+sg s)≠4∧(fC (k+sg s)<3↔k≤9218868437227405311):=by
 obtain⟨-, -,c,d, -⟩:=wQ (s:=s) h0 h1;unfold fC;rw[c,d];constructor
 iterate 2
  ·(repeat' split)<;>omega
theorem aNG {k:Int}{s:Bool}(h0:0≤k)(h1:k≤9218868437227405312):fZ (k+sg s)=sv s (gK k):=by
 obtain⟨a, -,c,d, -⟩:=wQ (s:=s) h0 h1;unfold fZ gK;rw[a,c,d]
theorem aLA {n:Int}{s:Bool}(h:rX n s=true)(md:Int)(neg:Bool):cL md neg n s=false:=by
 unfold rX at h;unfold cL rX;generalize rH n=a at *;generalize rB n s=b at *;generalize decide (rW n % 2=1)=o at *
 (repeat' split)<;>revert h<;>cases neg<;>cases a<;>cases b<;>cases o<;>decide
theorem aIW {k:Int}(h0:0≤k):K0 (2*gK k)=k:=by
 have hz:0≤gK k:=(aBR (by omega) (by omega) (by omega)).1;obtain⟨f1,f2⟩:=aCt (n:=2 * gK k) (by omega);have hn:=aIX (n:=2*gK k) (by omega);rcases Int.lt_trichotomy (K0 (2 * gK k)) k with h|h|h
 ·rcases Int.lt_or_eq_of_le (show K0 (2 * gK k)+1≤k by omega)with c|c
  ·have:=aEy (by omega) c
   omega
  ·rw[c]at f2
   omega
 ·exact h
 ·have:=aEy h0 h
  omega
theorem zB {k:Int}(h0:0≤k):rX (2*gK k) false=true:=by
 have hz:0≤gK k:=(aBR (by omega) (by omega) (by omega)).1;rw[←zW (by omega),aIW h0];unfold fP;rw[if_neg (by omega),if_pos ⟨rfl,rfl⟩];rfl
theorem zA {k:Int}(h0:0≤k)(h1:k≤9218868437227405311)(md:Int)(neg:Bool):rF md neg (2*gK k) false=k+sg neg∧rG md neg (2*gK k) false=0:=by
 have hk:kU md neg (2*gK k) false=k:=by
  rw[wP,aIW h0,aLA (zB h0)];show k+0=k;omega
 unfold rF iH rG;rw[hk,if_pos h1,if_pos h1,zB h0];exact⟨rfl,rfl⟩
def dD:Int:=((dB 1074:Nat):Int)
theorem aMr:0<dD:=by unfold dD;rw[aIB];exact aM _
section
variable {p q:Int}
end
def fMg (f:Int):Int:=gK (f % 9223372036854775808)
end Go.Proofs.YtkbicfffokegeaaGreatDoor
