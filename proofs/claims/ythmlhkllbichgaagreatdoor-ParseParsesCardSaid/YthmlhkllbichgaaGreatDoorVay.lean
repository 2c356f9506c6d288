/-
  ParseParses: a source's tree, or what is wrong with it, is the reference's. (part 25 of 38) Conditions: none beside what the card ties.
-/
import Derived.Deep.RegionHeld3
import Derived.Test.YthmlhkllbichgaaGreatDoorVak
import Derived.Test.YthmlhkllbichgaaGreatDoorVal
namespace Go.Proofs.YthmlhkllbichgaaGreatDoor
set_option maxHeartbeats 16000000
open Go.RowKit
set_option maxRecDepth 100000
section
variable {p q:Int}
theorem mid_side (hp:0<p)(hq:0<q):(rAway 0 false (nX p q) (sX p q)=false→2*(p*dD)≤(gK (K0 (nX p q))+gK (K0 (nX p q)+1))*q)∧(rAway 0 false (nX p q) (sX p q)=true→(gK (K0 (nX p q))+gK (K0 (nX p q)+1))*q≤2*(p*dD)):=by
 have hn:=nX_nn (Int.le_of_lt hp) hq;obtain⟨w0,w1,w2⟩:=rW_bd hn;have g1:=gK_of (u:=rU (nX p q)) w0 (by omega) w2;have g2:=gK_of (u:=rU (nX p q)) (W:=rW (nX p q)+1) (by omega) (by omega) (by intro h;have:=w2 h;omega);rw[←Int.add_assoc]at g2;have hK:K0 (nX p q)=(rU (nX p q):Int)*4503599627370496+rW (nX p q):=rfl;rw[←hK]at g1 g2
 have hM:(2*rW (nX p q)+1)*2 ^ rU (nX p q)=gK (K0 (nX p q))+gK (K0 (nX p q)+1):=by
  rw[g1,g2,←Int.add_mul]
  congr 1
  omega
 obtain⟨m1,m2⟩:=ask_mid (n:=nX p q) (s:=sX p q);rw[hM]at m1 m2;have mL:=fun h=>mid_le (p:=p) hq (t:=gK (K0 (nX p q))+gK (K0 (nX p q)+1)) h;have mG:=fun h=>mid_ge (p:=p) hq (t:=gK (K0 (nX p q))+gK (K0 (nX p q)+1)) h;have aN:rAway 0 false (nX p q) (sX p q)=(rH (nX p q) && (rB (nX p q) (sX p q) || decide (rW (nX p q) % 2=1))):=by simp[rAway]
 rw[aN];generalize decide (rW (nX p q) % 2=1)=o;generalize cmpS (nX p q) (sX p q) (gK (K0 (nX p q))+gK (K0 (nX p q)+1))=c at *;generalize rH (nX p q)=a at *;generalize rB (nX p q) (sX p q)=b at *;constructor
 ·intro h
  refine mL ?_;rcases Int.lt_or_le 0 c with h1|h1
  ·rw[decide_eq_true h1]at m1
   revert h m1
   cases a<;>cases b<;>cases o<;>simp
  ·exact h1
 ·intro h
  refine mG ?_;rcases Int.lt_or_le 0 c with h1|h1
  ·omega
  ·rw[decide_eq_false (by omega)]at m1
   rcases Int.lt_or_eq_of_le h1 with h3|h3
   ·have:(c == 0)=false:=by simp;omega
    rw[this]at m2;revert h m1 m2
    cases a<;>cases b<;>cases o<;>simp
   ·omega
theorem gK_step {k:Int}(h:0≤k):gK k<gK (k+1):=gK_lt h (by omega)
theorem near_is {k:Int}(hp:0<p)(hq:0<q)(h0:0<k)(h1:k≤9218868437227405311)(lo:(gK (k-1)+gK k)*q<2*(p*dD))(hi:2*(p*dD)<(gK k+gK (k+1))*q) :
  rKey 0 false (nX p q) (sX p q)=k∧rMag 0 false (nX p q) (sX p q)=k:=by
 have hn:=nX_nn (Int.le_of_lt hp) hq;obtain⟨f1,f2⟩:=K0_floor hn;have k0:=K0_nn hn;have l1:=gk_below hq f1;have l2:=gk_above hq f2;obtain⟨n1,n2⟩:=mid_side hp hq;have s0:=gK_step (k:=k-1) (by omega);rw[show k-1+1=k by omega]at s0;have s1:=gK_step (k:=k) (by omega);rw[key_of]
 have key:K0 (nX p q)+b2i (rAway 0 false (nX p q) (sX p q))=k:=by
  rw[Int.add_mul]at lo hi;have t1:=Int.mul_lt_mul_of_pos_right s0 hq;have t2:=Int.mul_lt_mul_of_pos_right s1 hq
  have hT1:k-1≤K0 (nX p q):=by
   rcases Int.lt_or_le (K0 (nX p q)) (k - 1)with c|c
   ·exfalso
    have:=Int.mul_le_mul_of_nonneg_right (gK_le (show 0≤K0 (nX p q)+1 by omega) (show K0 (nX p q)+1≤k-1 by omega)) (Int.le_of_lt hq);omega
   ·exact c
  have hT2:K0 (nX p q)≤k:=by
   rcases Int.lt_or_le k (K0 (nX p q))with c|c
   ·exfalso
    have:=Int.mul_le_mul_of_nonneg_right (gK_le (show 0≤k+1 by omega) (show k+1≤K0 (nX p q) by omega)) (Int.le_of_lt hq);omega
   ·exact c
  rcases(show K0 (nX p q)=k - 1∨K0 (nX p q)=k by omega)with e|e
  ·rw[e,show k-1+1=k by omega,Int.add_mul]at n1
   rw[e]
   cases ha:rAway 0 false (nX p q) (sX p q)
   ·have:=n1 ha
    omega
   ·show k-1+1=k
    omega
  ·rw[e,Int.add_mul]at n2
   rw[e]
   cases ha:rAway 0 false (nX p q) (sX p q)
   ·show k+0=k
    omega
   ·have:=n2 ha
    omega
 refine⟨key,?_⟩;unfold rMag;rw[key_of,key,if_pos h1]
theorem gK_gap {k:Int}(h:0<k):gK k≤9007199254740992*(gK k-gK (k-1)):=by
 have e1:gK k=gZ (k / 4503599627370496) (k % 4503599627370496):=rfl;have e2:gK (k-1)=gZ ((k-1) / 4503599627370496) ((k-1) % 4503599627370496):=rfl;have m0:0≤k % 4503599627370496∧k % 4503599627370496<4503599627370496:=by omega
 by_cases hm:k % 4503599627370496=0
 ·-- the least one of its exponent
  have d1:(k-1) / 4503599627370496=k / 4503599627370496-1:=by omega
  have d2:(k-1) % 4503599627370496=4503599627370495:=by omega
  have d3:0<k / 4503599627370496:=by omega
  rw[e1,e2,d1,d2,hm];generalize k / 4503599627370496=E at *;unfold gZ;rw[if_neg (by omega)]
  by_cases hE:E-1=0
  ·rw[if_pos hE,show(E-1).toNat=0 by omega,Int.pow_zero]
   omega
  ·rw[if_neg hE,show(E-1).toNat=(E-1-1).toNat+1 by omega,Int.pow_succ]
   have:=pow_pos' (E-1-1).toNat;generalize (2:Int) ^ (E-1-1).toNat=z at *;omega
 ·have d1:(k-1) / 4503599627370496=k / 4503599627370496:=by omega
  have d2:(k-1) % 4503599627370496=k % 4503599627370496-1:=by omega
  rw[e1,e2,d1,d2];generalize k / 4503599627370496=E at *;generalize k % 4503599627370496=M at *;unfold gZ
  by_cases hE:E=0
  ·rw[if_pos hE,if_pos hE]
   omega
  ·rw[if_neg hE,if_neg hE,←Int.sub_mul,←Int.mul_assoc]
   exact Int.mul_le_mul_of_nonneg_right (by omega) (Int.le_of_lt (pow_pos' _))
theorem gK_grows {k:Int}(h:0<k):gK k-gK (k-1)≤gK (k+1)-gK k:=by
 have e0:gK (k+1)=gZ ((k+1) / 4503599627370496) ((k+1) % 4503599627370496):=rfl;have e1:gK k=gZ (k / 4503599627370496) (k % 4503599627370496):=rfl;have e2:gK (k-1)=gZ ((k-1) / 4503599627370496) ((k-1) % 4503599627370496):=rfl;have m0:0≤k % 4503599627370496∧k % 4503599627370496<4503599627370496:=by omega
 have q0:0≤k / 4503599627370496:=by omega
 have up:gZ (k / 4503599627370496) (k % 4503599627370496)+(if k / 4503599627370496=0 then 1 else 2 ^ (k / 4503599627370496-1).toNat)=gZ ((k+1) / 4503599627370496) ((k+1) % 4503599627370496):=by
  by_cases hm:k % 4503599627370496=4503599627370495
  ·have d1:(k+1) / 4503599627370496=k / 4503599627370496+1:=by omega
   have d2:(k+1) % 4503599627370496=0:=by omega
   rw[d1,d2,hm];generalize k / 4503599627370496=E at *;unfold gZ;rw[if_neg (by omega:¬E+1=0)]
   by_cases hE:E=0
   ·rw[if_pos hE,if_pos hE,hE];decide
   ·rw[if_neg hE,if_neg hE,show(E+1-1).toNat=(E-1).toNat+1 by omega,Int.pow_succ]
    generalize (2:Int) ^ (E-1).toNat=z;omega
  ·have d1:(k+1) / 4503599627370496=k / 4503599627370496:=by omega
   have d2:(k+1) % 4503599627370496=k % 4503599627370496+1:=by omega
   rw[d1,d2];generalize k / 4503599627370496=E at *;generalize k % 4503599627370496=M at *;unfold gZ
   by_cases hE:E=0
   ·rw[if_pos hE,if_pos hE,if_pos hE]
   ·rw[if_neg hE,if_neg hE,if_neg hE]
    generalize (2:Int) ^ (E-1).toNat=z;rw[show 4503599627370496+(M+1)=4503599627370496+M+1 by omega,Int.add_mul (4503599627370496+M) 1];omega
 have dn:gZ (k / 4503599627370496) (k % 4503599627370496)-(if k / 4503599627370496=0 then 1 else 2 ^ (k / 4503599627370496-1).toNat)≤gZ ((k-1) / 4503599627370496) ((k-1) % 4503599627370496):=by
  by_cases hm:k % 4503599627370496=0
  ·have d1:(k-1) / 4503599627370496=k / 4503599627370496-1:=by omega
   have d2:(k-1) % 4503599627370496=4503599627370495:=by omega
   have d3:0<k / 4503599627370496:=by omega
   rw[d1,d2,hm];generalize k / 4503599627370496=E at *;unfold gZ;rw[if_neg (by omega),if_neg (by omega)]
   by_cases hE:E-1=0
   ·rw[if_pos hE,show(E-1).toNat=0 by omega,Int.pow_zero]
    omega
   ·rw[if_neg hE,show(E-1).toNat=(E-1-1).toNat+1 by omega,Int.pow_succ]
    have:=pow_pos' (E-1-1).toNat;generalize (2:Int) ^ (E-1-1).toNat=z at *;omega
  ·have d1:(k-1) / 4503599627370496=k / 4503599627370496:=by omega
   have d2:(k-1) % 4503599627370496=k % 4503599627370496-1:=by omega
   rw[d1,d2];generalize k / 4503599627370496=E at *;generalize k % 4503599627370496=M at *;unfold gZ
   by_cases hE:E=0
   ·rw[if_pos hE,if_pos hE,if_pos hE]
    omega
   ·rw[if_neg hE,if_neg hE,if_neg hE]
    generalize (2:Int) ^ (E-1).toNat=z;rw[show 4503599627370496+(M-1)=4503599627370496+M-1 by omega,Int.sub_mul (4503599627370496+M) 1];omega
 rw[e0,e1,e2,←up];omega
theorem near_rel {k:Int}(hp:0<p)(hq:0<q)(h0:0<k)(h1:k≤9218868437227405311)(lo:18014398509481984*(gK k*q-p*dD)<gK k*q)(hi:18014398509481984*(p*dD-gK k*q)<gK k*q) :
  rKey 0 false (nX p q) (sX p q)=k∧rMag 0 false (nX p q) (sX p q)=k:=by
 have g1:=Int.mul_le_mul_of_nonneg_right (gK_gap h0) (Int.le_of_lt hq);have g2:=Int.mul_le_mul_of_nonneg_right (gK_grows h0) (Int.le_of_lt hq);rw[Int.mul_assoc,Int.sub_mul]at g1;rw[Int.sub_mul,Int.sub_mul]at g2;refine near_is hp hq h0 h1 ?_ ?_
 iterate 2
  ·rw[Int.add_mul]
   generalize gK k*q=a at *;generalize gK (k-1)*q=b at *;generalize gK (k+1)*q=c at *;generalize p*dD=x at *;omega
end
theorem near_digits {d N D:Int}(hD:0<D)(hx:10000000000000000*D≤N)(l1:2*(d*D-N)≤D)(l2:2*(N-d*D)≤D):18014398509481984*(N-d*D)<N∧18014398509481984*(d*D-N)<N:=by
 generalize d*D=x at *;omega
def dcD (x:Nat):List UInt8:=Lib.trimRightB (decF 20 x) 48
def dcE (x:Nat)(e:Int):Int:=e+(decF 20 x).length-(dcD x).length
theorem dec20 {x:Nat}(h:x<18446744073709551616):Lib.decDigits x=decF 20 x:=decF_is 20 x (by omega)
theorem dec20_len {x:Nat}(h:x<18446744073709551616):1≤(decF 20 x).length∧(decF 20 x).length≤20:=by
 rw[←dec20 h];refine⟨dec_len x,?_⟩;rw[Lib.decDigits_length]
 by_cases h1:1≤x
 ·have:=Lib.numDigits_eq x h1 h;split at this<;>omega
 ·obtain rfl:x=0:=by omega
  rw[Lib.nDigits_small (by decide)]
  decide
theorem trim_len (l:List UInt8)(c:UInt8):(Lib.trimRightB l c).length≤l.length:=by
 unfold Lib.trimRightB;rw[List.length_reverse];exact Nat.le_trans (List.Sublist.length_le (List.dropWhile_sublist _)) (by rw[List.length_reverse];exact Nat.le_refl _)
theorem dcE_bd {x:Nat}(h:x<18446744073709551616)(e:Int):e≤dcE x e∧dcE x e≤e+20:=by
 have h1:=trim_len (decF 20 x) 48;have h2:=dec20_len h;unfold dcE dcD;omega
theorem decimalOf_any (x:Nat)(e:Int)(hx:x<18446744073709551616)(he:-5000≤e)(he':e≤5000)(w:World)(hE:EnvOk w) :
  Calls Tryz.prog 233 #[.int .u64 (x:Int),.int .i64 e] w (RetV (fun _ v=>v=.agg #[.string ⟨(dcD x).toArray⟩,.int .i64 (dcE x e)]) w):=by
 have FM:=Hj fun w hE=>format_any x hx w hE;obtain⟨t,ht⟩:∃t:ByteArray,t=⟨(Lib.decDigits x).toArray⟩:=⟨_,rfl⟩;obtain⟨d,hd⟩:∃t:ByteArray,t=⟨(dcD x).toArray⟩:=⟨_,rfl⟩;have st:t.size=(decF 20 x).length:=by rw[ht,str_size,dec20 hx]
 have sd:d.size=(dcD x).length:=by rw[hd,str_size]
 have b1:=dec20_len hx;have b2:=trim_len (decF 20 x) 48;have FM':Hid (∀w,EnvOk w→Calls Tryz.prog 199 #[.int .u64 (x:Int),.int .i64 10] w fun e w'=>e=.returned (.string t)∧Below w.heap.size w w'):=by rw[ht];exact FM.out
 have TR:Hid (∀w,Calls Tryz.prog 256 #[.string t,.string ⟨#[48]⟩] w fun e w'=>e=.returned (.string d)∧w'=w):=by
  intro w;have:=sh_strings_TrimRight_one t 48 (by decide) w (by omega);rw[ht,str_data,dec20 hx]at this;rw[ht,dec20 hx,hd];exact this
 have EE:Hid (dcE x e=e+t.size-d.size):=by show _=_;rw[st,sd];rfl
 have o1:IntKind.i64.wrap (e+(t.size:Int))=e+t.size:=by rw[IntKind.wrap_i64];omega
 have bt:t.size≤20:=by omega
 have bd:d.size≤20:=by rw[sd];unfold dcD;omega
 have o2:IntKind.i64.wrap (e+(t.size:Int)-(d.size:Int))=e+t.size-d.size:=by rw[IntKind.wrap_i64];omega
 rw[←hd];clear FM ht hd st sd b1 b2;generalize dcE x e=r at *;go_enter Tryz.func233,Tryz.ntmps233;go_wp2_with fail;refine(FM'.out _ (hE.alloc _)).mono ?_;rintro y w1 ⟨rfl,hb1⟩;have K1:=Blk.made hb1;have HB1:=Hj (bel_trans (bel_alloc (Below.refl _ _) _) hb1);clear hb1;go_wp2_with fail;refine(TR.out _).mono ?_;rintro y w2 ⟨rfl,rfl⟩;obtain⟨c0,c1,f0,f1⟩:=K1.two;go_wp2_with fail;have K2:=K1.put2 (.string d) (.int .i64 (e+t.size-d.size));have HB2:=Hj (bel_put2 HB1.out (Nat.le_refl _) (.string d) (.int .i64 (e+t.size-d.size)));unfold wput2 at K2 HB2;obtain⟨q0,q1, -, -⟩:=K2.two;refine bodyPost_ret (by simp[results,Tryz.results233,go_sem,q0,q1];(try rfl)) rfl ⟨_,?_,rfl,HB2.out⟩;rw[EE.out]
def wput4 (w:World)(g:Nat)(a b c d:Value):World:=(((w.setCell ⟨g,0,none⟩ a).setCell ⟨g,1,none⟩ b).setCell ⟨g,2,none⟩ c).setCell ⟨g,3,none⟩ d
section
variable {w w':World} {g:Nat} {t:TypeId}
theorem Blk.put4 {x y z u:Value}(k:Blk w g t #[x,y,z,u])(a b c d:Value):Blk (wput4 w g a b c d) g t #[a,b,c,d]:=by
 have h1:=(((k.set_ 0 a).set_ 1 b).set_ 2 c).set_ 3 d;unfold wput4
 simpa using h1
theorem Blk.put4_far {cs:Array Value}{g':Nat}{t':TypeId}(k:Blk w g' t' cs)(hg:g'≠g)(a b c d:Value):Blk (wput4 w g a b c d) g' t' cs:=
 (((k.far (p:=⟨g,0,none⟩) hg a).far (p:=⟨g,1,none⟩) hg b).far (p:=⟨g,2,none⟩) hg c).far (p:=⟨g,3,none⟩) hg d
theorem bel_put4 {B:Nat}(h:Below B w w')(hg:B≤g)(a b c d:Value):Below B w (wput4 w' g a b c d):=
 (((h.setCell (p:=⟨g,0,none⟩) hg a).setCell (p:=⟨g,1,none⟩) hg b).setCell (p:=⟨g,2,none⟩) hg c).setCell (p:=⟨g,3,none⟩) hg d
theorem Blk.four {a b c d:Value}(h:Blk w g t #[a,b,c,d]):w.cell? ⟨g,0,none⟩=some a∧w.cell? ⟨g,1,none⟩=some b∧w.cell? ⟨g,2,none⟩=some c∧w.cell? ⟨g,3,none⟩=some d∧w.frozen? ⟨g,0,none⟩=false∧w.frozen? ⟨g,1,none⟩=false∧w.frozen? ⟨g,2,none⟩=false∧w.frozen? ⟨g,3,none⟩=false:=
 ⟨h.cell 0,h.cell 1,h.cell 2,h.cell 3,h.frozen 0,h.frozen 1,h.frozen 2,h.frozen 3⟩
end
def arS (w:Nat)(r:Bool)(n:Nat):Bool:=decide (10 ^ n<w % 10 ^ n*2) || (decide (w % 10 ^ n*2=10 ^ n) && (r || decide (w / 10 ^ n % 2=1)))
def arA (w:Nat)(r:Bool)(n:Nat):Nat:=if arS w r n then w / 10 ^ n+1 else w / 10 ^ n
def arB (w:Nat)(r:Bool)(n:Nat):Nat:=if arS w r n then w / 10 ^ n else w / 10 ^ n+1
theorem around_any (W:Nat)(x:Int)(r:Bool)(n:Nat)(hW:W<18446744073709551615)(hx:-4000≤x)(hx':x≤4000)(hn:n≤18)(w:World)(hE:EnvOk w) :
  Calls Tryz.prog 200 #[.agg #[.int .u64 (W:Int),.int .i64 x,.bool r],.int .i64 (n:Int)] w (RetV (fun _ v=>v=.agg #[.string ⟨(dcD (arA W r n)).toArray⟩,.int .i64 (dcE (arA W r n) (x+n)),.string ⟨(dcD (arB W r n)).toArray⟩,.int .i64 (dcE (arB W r n) (x+n))]) w):=by
 have U:Hid (∀k,k≤n→1≤10 ^ k∧10 ^ k≤1000000000000000000):=fun k hk=>by
  have h1:10 ^ 0≤10 ^ k:=Nat.pow_le_pow_right (by decide) (by omega);have h2:10 ^ k≤10 ^ 18:=Nat.pow_le_pow_right (by decide) (by omega);omega
 have DF:Hid (arS W r n=(decide (10 ^ n<W % 10 ^ n*2) || (decide (W % 10 ^ n*2=10 ^ n) && (r || decide (W / 10 ^ n % 2=1))))):=rfl;have DA:Hid (arA W r n=if arS W r n then W / 10 ^ n+1 else W / 10 ^ n):=rfl;have DB:Hid (arB W r n=if arS W r n then W / 10 ^ n else W / 10 ^ n+1):=rfl;generalize arA W r n=aA at *;generalize arB W r n=aB at *;generalize arS W r n=aS at *;obtain⟨rs,hrs⟩:∃v:Array Value,v=#[.string ⟨(dcD aA).toArray⟩,.int .i64 (dcE aA (x+n)),.string ⟨(dcD aB).toArray⟩,.int .i64 (dcE aB (x+n))]:=⟨_,rfl⟩;have GG:Hid (∀y:Nat,∀z:Nat,aA=y→aB=z→rs=#[.string ⟨(dcD y).toArray⟩,.int .i64 (dcE y (x+n)),.string ⟨(dcD z).toArray⟩,.int .i64 (dcE z (x+n))]):=fun y z h1 h2=>by rw[hrs,h1,h2]
 rw[←hrs];clear hrs;go_enter Tryz.func200,Tryz.ntmps200;go_wp2_with fail
 go_loop [5,10] (fun s5 s10=>∃k:Nat,s10=.int .i64 (k:Int)∧k≤n∧s5=.int .u64 ((10 ^ k:Nat):Int)) (fun _ s10=>n-(intOf s10).toNat)
 case atStart=>exact⟨0,rfl,Nat.zero_le _,rfl⟩
 obtain⟨k,rfl,hk,rfl⟩:=hrel
 by_cases hlt:k<n
 ·obtain⟨u1,u2⟩:=U.out (k+1) hlt
  have P:=Hj (Nat.pow_succ (n:=10) (m:=k));rw[Nat.pow_succ]at u1 u2;have hl1:(k:Int)<(n:Int):=by omega
  clear U;generalize 10 ^ k=u at *;go_wp2_with fail
  go_round
  case rel=>exact⟨k+1,by go_num,by omega,by rw[P.out];simp⟩
  case measure=>simp[intOf];omega
 ·obtain rfl:k=n:=by omega
  obtain⟨u1,u2⟩:=U.out k (Nat.le_refl _);clear U hlt hk;have DS:=DF.out;generalize 10 ^ k=u at *;have u0:¬u=0:=by omega
  have WR:IntKind.u64.wrap ((W:Int) / (u:Int))=(W:Int) / (u:Int):=by
   have e1:=Int.ediv_le_self (u:Int) (show(0:Int)≤W by omega);have e2:(0:Int)≤(W:Int) / u:=Int.ediv_nonneg (by omega) (by omega);rw[IntKind.wrap_u64];omega
  have K1:=(Blk.new w 195 #[.int .u64 (W:Int),.int .i64 x,.bool r]).alloc (.cells #[.string ⟨#[]⟩,.int .i64 0,.string ⟨#[]⟩,.int .i64 0] 239)
  have KR:Blk ((w.alloc (.cells #[.int .u64 (W:Int),.int .i64 x,.bool r] 195)).alloc (.cells #[.string ⟨#[]⟩,.int .i64 0,.string ⟨#[]⟩,.int .i64 0] 239)) (w.heap.size+1) 239 #[.string ⟨#[]⟩,.int .i64 0,.string ⟨#[]⟩,.int .i64 0]:=by
   have:=Blk.new (w.alloc (.cells #[.int .u64 (W:Int),.int .i64 x,.bool r] 195)) 239 #[.string ⟨#[]⟩,.int .i64 0,.string ⟨#[]⟩,.int .i64 0]
   simpa using this
  have HB1:=Hj (bel_alloc (bel_alloc (Below.refl w.heap.size w) (.cells #[.int .u64 (W:Int),.int .i64 x,.bool r] 195)) (.cells #[.string ⟨#[]⟩,.int .i64 0,.string ⟨#[]⟩,.int .i64 0] 239));go_upto_region 6 with fail;obtain⟨w1,hw1⟩:∃v,v=(w.alloc (.cells #[.int .u64 (W:Int),.int .i64 x,.bool r] 195)).alloc (.cells #[.string ⟨#[]⟩,.int .i64 0,.string ⟨#[]⟩,.int .i64 0] 239):=⟨_,rfl⟩;rw[←hw1]at K1 KR HB1 ⊢;clear hw1;obtain⟨g,hg⟩:∃g,w.heap.size=g:=⟨_,rfl⟩;rw[hg]at K1 KR ⊢;have HGQ:=Hj hg;clear hg;obtain⟨c0,c1,c2, -, -, -⟩:=K1.three;have HK:Hid (∀w',Below w1.heap.size w1 w'→(w'.cell? ⟨g,0,none⟩=some (.int .u64 (W:Int))∧w'.cell? ⟨g,1,none⟩=some (.int .i64 x))):=fun w' hb=>kpd2 hb c0 c1;clear c0 c1 c2;refine region_plan (S:=fun w'=>w'.cell? ⟨g,0,none⟩=some (.int .u64 (W:Int))∧w'.cell? ⟨g,1,none⟩=some (.int .i64 x)) _ [(0,true),(1,true),(2,true),(3,true),(4,true),(5,true),(6,true),(7,true),(8,true),(9,true)] (by kernel_rfl) (by kernel_rfl) rfl (by kernel_rfl) (by kernel_rfl) (fun _ _ d _ _ h=>by cases d<;>exact h) (HK.out _ (bel_drew (Below.refl _ _))) ?_
  iterate 10
   refine Walk.take (v:=?_) rfl (by rfl) ?_ ?_;rotate_left
   ·(intro w' hSw;(try dsimp only at hSw);go_simp<;>with_reducible rfl)
   try simp only[Act.put,List.setIfInBounds_toArray,List.set_cons_zero,List.set_cons_succ]
  refine Walk.done ?_;clear HK;have QU:(W:Int) / (u:Int)=((W / u:Nat):Int):=rfl;have RU:Int.tmod (W:Int) (u:Int)=((W % u:Nat):Int):=by rw[Int.tmod_eq_emod_of_nonneg (by omega)];rfl
  rw[QU,RU];have CB:W % u<u:=Nat.mod_lt _ (by omega);have DB1:W / u≤W:=Nat.div_le_self _ _;clear QU RU WR u0;generalize W / u=D at *;generalize W % u=C at *;have E1:=Hj fun w' (hb:Below w1.heap.size w1 w')=>decimalOf_any D (x+k) (by omega) (by omega) (by omega) w' (hE.below (bel_trans HB1.out hb));have E2:=Hj fun w' (hb:Below w1.heap.size w1 w')=>decimalOf_any (D+1) (x+k) (by omega) (by omega) (by omega) w' (hE.below (bel_trans HB1.out hb));have FA:Hid (aA=if aS then D+1 else D):=DA;have FB:Hid (aB=if aS then D else D+1):=DB;have G0:Hid (aS=false→rs=#[.string ⟨(dcD D).toArray⟩,.int .i64 (dcE D (x+k)),.string ⟨(dcD (D+1)).toArray⟩,.int .i64 (dcE (D+1) (x+k))]):=fun h=>GG.out _ _ (by rw[FA.out,h];rfl) (by rw[FB.out,h];rfl);have G1:Hid (aS=true→rs=#[.string ⟨(dcD (D+1)).toArray⟩,.int .i64 (dcE (D+1) (x+k)),.string ⟨(dcD D).toArray⟩,.int .i64 (dcE D (x+k))]):=fun h=>GG.out _ _ (by rw[FA.out,h];rfl) (by rw[FB.out,h];rfl);have KD:=Hj KR;have HDS:=Hj DS;have GLT:=K1.lt;have GLT2:=KR.lt;clear DA DB DF hE GG FA FB DS;generalize (⟨(dcD D).toArray⟩:ByteArray)=s1 at *;generalize dcE D (x+k)=e1 at *;generalize (⟨(dcD (D+1)).toArray⟩:ByteArray)=s2 at *;generalize dcE (D+1) (x+k)=e2 at *
  have xk:IntKind.i64.wrap (x+(k:Int))=x+k:=by rw[IntKind.wrap_i64];omega
  have dk:IntKind.u64.wrap ((D:Int)+1)=((D+1:Nat):Int):=by rw[IntKind.wrap_u64];omega
  obtain⟨c0,c1,c2, -, -, -⟩:=K1.three;go_upto_region 7 with fail;have KG:Hid (∀w',Below w1.heap.size w1 w'→w'.cell? ⟨g,1,none⟩=some (.int .i64 x)):=fun w' hb=>(hb.cell (World.block_lt_of_cell? _ _ c1)).trans c1;clear c0 c1 c2
  go_cut [8] (fun s8 wx=>∃G:Nat,s8=.pointer (some ⟨G,0,none⟩)∧Blk wx G 239 #[.string s1,.int .i64 e1,.string s2,.int .i64 e2]∧Hid (Below w1.heap.size w1 wx)∧Hid (w1.heap.size≤G))
  case first=>
   go_region_held3 (fun w'=>w'.cell? ⟨g,1,none⟩=some (.int .i64 x))
    (first|(refine KG.out _ ?_;(repeat (first|exact Below.refl _ _|exact X2|exact X1|refine bel_drew ?_|refine bel_alloc ?_ _|refine Below.setCell ?_ ?_ _|exact Nat.le_refl _|exact X1.size|exact X2.size));done))
    (first
     | (go_at_call 233;first
       | (have _:=X1;refine(E2.out _ ?_).mono ?_;(· repeat (first|exact Below.refl _ _|exact X1|refine bel_drew ?_|refine bel_alloc ?_ _));rintro y w3 ⟨v3,rfl,rfl,hb3⟩;have X2:Below w1.heap.size w1 w3:=(by refine bel_trans ?_ hb3;repeat (first|exact Below.refl _ _|exact X1|refine bel_drew ?_|refine bel_alloc ?_ _));first
         | (have Kq2:=Kq.below hb3 Kq.lt;obtain⟨z0,z1,z2,z3,f0,f1,f2,f3⟩:=Kq2.four)
         | (have Kq2:Blk w3 w2.heap.size 239 #[.string ⟨#[]⟩,.int .i64 0,.string ⟨#[]⟩,.int .i64 0]:=(by exact Blk.made (w:=w2) hb3);obtain⟨z0,z1,z2,z3,f0,f1,f2,f3⟩:=Kq2.four)
         | skip)
       | (refine(E1.out _ ?_).mono ?_;(· repeat (first|exact Below.refl _ _|refine bel_drew ?_|refine bel_alloc ?_ _));rintro y w2 ⟨v2,rfl,rfl,hb2⟩;have X1:Below w1.heap.size w1 w2:=(by refine bel_trans ?_ hb2;repeat (first|exact Below.refl _ _|refine bel_drew ?_|refine bel_alloc ?_ _));first
         | (have Kq:Blk w2 w1.heap.size 239 #[.string ⟨#[]⟩,.int .i64 0,.string ⟨#[]⟩,.int .i64 0]:=(by first|exact Blk.made (w:=w1) hb2|exact Blk.made (w:=w1.drew) hb2|exact Blk.made (w:=w1.drew.drew) hb2))
         | skip)))
   all_goals go_wp2_with fail
   all_goals go_meet
   all_goals first
    | (have K5:=Kq2.put4 (.string s1) (.int .i64 e1) (.string s2) (.int .i64 e2);have B5:=bel_put4 (g:=w1.heap.size) X2 (Nat.le_refl _) (.string s1) (.int .i64 e1) (.string s2) (.int .i64 e2);unfold wput4 at K5 B5;exact⟨_,rfl,K5,B5,Nat.le_refl _⟩)
    | (have K5:=Kq2.put4 (.string s1) (.int .i64 e1) (.string s2) (.int .i64 e2);have B5:=bel_put4 (g:=w2.heap.size) X2 X1.size (.string s1) (.int .i64 e1) (.string s2) (.int .i64 e2);unfold wput4 at K5 B5;exact⟨_,rfl,K5,B5,X1.size⟩)
    | exact⟨_,rfl,Blk.new _ _ _,bel_alloc X2 _,X2.size⟩
  case rest=>
   obtain⟨G,rfl,KQ,HBc,HG⟩:=hcut;have K1c:=K1.below HBc.out K1.lt;have KRc:=KD.out.below HBc.out GLT2;have HBB:=Hj (bel_trans HB1.out HBc.out);have GLE:Hid (w.heap.size≤g+1):=by show _≤_;rw[HGQ.out];omega
   have GLQ:Hid (w.heap.size≤G):=Nat.le_trans HB1.out.size HG.out;have NE:g+1≠G:=by have:=HG.out;omega
   have hgG:¬g=G:=by have:=HG.out;omega
   clear K1 KR KD HBc HB1 KG E1 E2 GLT GLT2 HGQ dk xk;obtain⟨k0,k1,k2, -, -, -⟩:=K1c.three;obtain⟨c0,c1,c2,c3,f0,f1,f2,f3⟩:=KQ.four;obtain⟨d0,d1,d2,d3,g0,g1,g2,g3⟩:=KRc.four;have hc2:IntKind.u64.wrap ((C:Int)*2)=(C:Int)*2:=by rw[IntKind.wrap_u64];omega
   by_cases b1:u<C*2
   ·have HS:aS=true:=by rw[HDS.out,decide_eq_true b1];rfl
    have b1':(u:Int)<(C:Int)*2:=by omega
    clear K1c HG hgG b1;have hS:aS=true:=HS;have K4:=KRc.put4_far NE (.string s2) (.int .i64 e2) (.string s1) (.int .i64 e1);have B4:=bel_put4 HBB.out GLQ.out (.string s2) (.int .i64 e2) (.string s1) (.int .i64 e1);have K5:=K4.put4 (.string s2) (.int .i64 e2) (.string s1) (.int .i64 e1);have B5:=Hj (bel_put4 B4 GLE.out (.string s2) (.int .i64 e2) (.string s1) (.int .i64 e1));have KQ5:=KQ.put4 (.string s2) (.int .i64 e2) (.string s1) (.int .i64 e1);unfold wput4 at K4 K5 B5 KQ5;obtain⟨y0,y1,y2,y3,h0,h1,h2,h3⟩:=K4.four;obtain⟨x0,x1,x2,x3, -, -, -, -⟩:=KQ5.four;clear HDS B4;go_wp2_with fail;obtain⟨q0,q1,q2,q3, -, -, -, -⟩:=K5.four;refine bodyPost_ret (by simp[results,Tryz.results200,go_sem,q0,q1,q2,q3];(try rfl)) rfl ⟨_,?_,rfl,B5.out⟩;rw[G1.out hS]
   ·by_cases b2:C*2=u
    ·have b1':¬(u:Int)<(C:Int)*2:=by omega
     have b2':(((C:Int)*2) == (u:Int))=true:=by simp;omega
     cases r
     ·by_cases b3:D % 2=1
      ·have HS:aS=true:=by rw[HDS.out,decide_eq_true b2,decide_eq_true b3];simp
       have b3':(((D:Int) % 2) == 1)=true:=by simp;omega
       clear K1c HG hgG b1 b2 b3;have hS:aS=true:=HS;have K4:=KRc.put4_far NE (.string s2) (.int .i64 e2) (.string s1) (.int .i64 e1);have B4:=bel_put4 HBB.out GLQ.out (.string s2) (.int .i64 e2) (.string s1) (.int .i64 e1);have K5:=K4.put4 (.string s2) (.int .i64 e2) (.string s1) (.int .i64 e1);have B5:=Hj (bel_put4 B4 GLE.out (.string s2) (.int .i64 e2) (.string s1) (.int .i64 e1));have KQ5:=KQ.put4 (.string s2) (.int .i64 e2) (.string s1) (.int .i64 e1);unfold wput4 at K4 K5 B5 KQ5;obtain⟨y0,y1,y2,y3,h0,h1,h2,h3⟩:=K4.four;obtain⟨x0,x1,x2,x3, -, -, -, -⟩:=KQ5.four;clear HDS B4;go_wp2_with fail;obtain⟨q0,q1,q2,q3, -, -, -, -⟩:=K5.four;refine bodyPost_ret (by simp[results,Tryz.results200,go_sem,q0,q1,q2,q3];(try rfl)) rfl ⟨_,?_,rfl,B5.out⟩;rw[G1.out hS]
      ·have HS:aS=false:=by rw[HDS.out,decide_eq_false b1,decide_eq_false b3];simp
       have b3':(((D:Int) % 2) == 1)=false:=by simp;omega
       clear K1c HG hgG b1 b2 b3;have hS:aS=false:=HS;have K5:=KRc.put4 (.string s1) (.int .i64 e1) (.string s2) (.int .i64 e2);have B5:=Hj (bel_put4 HBB.out GLE.out (.string s1) (.int .i64 e1) (.string s2) (.int .i64 e2));unfold wput4 at K5 B5;clear HDS;go_wp2_with fail;obtain⟨q0,q1,q2,q3, -, -, -, -⟩:=K5.four;refine bodyPost_ret (by simp[results,Tryz.results200,go_sem,q0,q1,q2,q3];(try rfl)) rfl ⟨_,?_,rfl,B5.out⟩;rw[G0.out hS]
     ·have HS:aS=true:=by rw[HDS.out,decide_eq_true b2];simp
      clear K1c HG hgG b1 b2;have hS:aS=true:=HS;have K4:=KRc.put4_far NE (.string s2) (.int .i64 e2) (.string s1) (.int .i64 e1);have B4:=bel_put4 HBB.out GLQ.out (.string s2) (.int .i64 e2) (.string s1) (.int .i64 e1);have K5:=K4.put4 (.string s2) (.int .i64 e2) (.string s1) (.int .i64 e1);have B5:=Hj (bel_put4 B4 GLE.out (.string s2) (.int .i64 e2) (.string s1) (.int .i64 e1));have KQ5:=KQ.put4 (.string s2) (.int .i64 e2) (.string s1) (.int .i64 e1);unfold wput4 at K4 K5 B5 KQ5;obtain⟨y0,y1,y2,y3,h0,h1,h2,h3⟩:=K4.four;obtain⟨x0,x1,x2,x3, -, -, -, -⟩:=KQ5.four;clear HDS B4;go_wp2_with fail;obtain⟨q0,q1,q2,q3, -, -, -, -⟩:=K5.four;refine bodyPost_ret (by simp[results,Tryz.results200,go_sem,q0,q1,q2,q3];(try rfl)) rfl ⟨_,?_,rfl,B5.out⟩;rw[G1.out hS]
    ·have b1':¬(u:Int)<(C:Int)*2:=by omega
     have b2':(((C:Int)*2) == (u:Int))=false:=by simp;omega
     have HS:aS=false:=by rw[HDS.out,decide_eq_false b1,decide_eq_false b2];rfl
     clear K1c HG hgG b1 b2;have hS:aS=false:=HS;have K5:=KRc.put4 (.string s1) (.int .i64 e1) (.string s2) (.int .i64 e2);have B5:=Hj (bel_put4 HBB.out GLE.out (.string s1) (.int .i64 e1) (.string s2) (.int .i64 e2));unfold wput4 at K5 B5;clear HDS;go_wp2_with fail;obtain⟨q0,q1,q2,q3, -, -, -, -⟩:=K5.four;refine bodyPost_ret (by simp[results,Tryz.results200,go_sem,q0,q1,q2,q3];(try rfl)) rfl ⟨_,?_,rfl,B5.out⟩;rw[G0.out hS]
def p2 (z:Int):Int:=2 ^ (max z 0).toNat
def p10 (z:Int):Int:=10 ^ (max z 0).toNat
theorem p2_pos (z:Int):0<p2 z:=Int.pow_pos (by decide)
theorem p10_pos (z:Int):0<p10 z:=Int.pow_pos (by decide)
theorem p2_tri (u v:Int):p2 u*p2 v*p2 (-(u+v))=p2 (u+v)*p2 (-u)*p2 (-v):=by
 unfold p2;rw[←Int.pow_add,←Int.pow_add,←Int.pow_add,←Int.pow_add]
 congr 1
 omega
theorem p10_tri (u v:Int):p10 u*p10 v*p10 (-(u+v))=p10 (u+v)*p10 (-u)*p10 (-v):=by
 unfold p10;rw[←Int.pow_add,←Int.pow_add,←Int.pow_add,←Int.pow_add]
 congr 1
 omega
theorem p2_one {z:Int}(h:z≤0):p2 z=1:=by unfold p2;rw[show(max z 0).toNat=0 by omega];rfl
theorem p10_one {z:Int}(h:z≤0):p10 z=1:=by unfold p10;rw[show(max z 0).toNat=0 by omega];rfl
theorem p10_nat (n:Nat):p10 (n:Int)=10 ^ n:=by unfold p10;rw[show(max (n:Int) 0).toNat=n by omega]
def lg (t:Int):Int:=t*78913 / 262144
def lgC (i:Nat):Bool:=
 Nat.ble (10 ^ (max (lg ((i:Int)-1074)) 0).toNat*2 ^ (max (-((i:Int)-1074)) 0).toNat) (2 ^ (max ((i:Int)-1074) 0).toNat*10 ^ (max (-lg ((i:Int)-1074)) 0).toNat) &&
 Nat.blt (2 ^ (max ((i:Int)-1074) 0).toNat*10 ^ (max (-(lg ((i:Int)-1074)+1)) 0).toNat) (10 ^ (max (lg ((i:Int)-1074)+1) 0).toNat*2 ^ (max (-((i:Int)-1074)) 0).toNat)
def allB (f:Nat→Bool):Nat→Bool
 | 0=>true
 | n+1=>f n && allB f n
theorem allB_at {f:Nat→Bool}:∀ {n:Nat},allB f n=true→∀i,i<n→f i=true
 | 0,_,i,h=>by omega
 | n+1,h,i,hi=>by
  simp only[allB,Bool.and_eq_true]at h
  by_cases e:i=n
  ·rw[e];exact h.1
  ·exact allB_at h.2 i (by omega)
theorem lg_all:allB lgC 2099=true:=by decide +kernel
theorem lg_tab {t:Int}(h0:-1074≤t)(h1:t≤1024):p10 (lg t)*p2 (-t)≤p2 t*p10 (-lg t)∧p2 t*p10 (-(lg t+1))<p10 (lg t+1)*p2 (-t):=by
 have h:=allB_at lg_all (t+1074).toNat (by omega);unfold lgC at h;rw[show(((t+1074).toNat:Nat):Int)-1074=t by omega]at h;simp only[Bool.and_eq_true]at h;obtain⟨a,b⟩:=h;have a':=Int.ofNat_le.2 (Nat.le_of_ble_eq_true a);have b':_<_:=Int.ofNat_lt.2 (Nat.le_of_ble_eq_true b);unfold p10 p2;constructor
 ·simpa using a'
 ·simpa using b'
theorem lg_bd {t:Int}(h0:-1074≤t)(h1:t≤1024):-324≤lg t∧lg t≤309:=by unfold lg;omega
def exT (m e:Int):Int:=blen m-1+e
def exE (m e:Int):Int:=lg (exT m e)-17
def exN (m e:Int):Int:=m*p2 e*p10 (-exE m e)
def exD (m e:Int):Int:=p2 (-e)*p10 (exE m e)
section
variable {m e:Int}
theorem ex_t (hm:0<m)(hm':m<9007199254740992)(he:-1074≤e)(he':e≤971):-1074≤exT m e∧exT m e≤1024:=by
 have h1:=blen_le2 (k:=53) (Int.le_of_lt hm) (by rw[show(2:Int) ^ 53=9007199254740992 by decide];exact hm');obtain⟨j,h2, -, -⟩:=blen_at hm;unfold exT;omega
theorem exD_pos:0<exD m e:=Int.mul_pos (p2_pos _) (p10_pos _)
theorem exN_nn (hm:0<m):0≤exN m e:=Int.mul_nonneg (Int.mul_nonneg (Int.le_of_lt hm) (Int.le_of_lt (p2_pos _))) (Int.le_of_lt (p10_pos _))
theorem ex_lo (hm:0<m)(hm':m<9007199254740992)(he:-1074≤e)(he':e≤971):100000000000000000*exD m e≤exN m e:=by
 obtain⟨t0,t1⟩:=ex_t hm hm' he he';obtain⟨L, -⟩:=lg_tab t0 t1;obtain⟨j,hj,b0,b1⟩:=blen_at hm;have et:(j:Int)+e=exT m e:=by unfold exT;omega
 have T2:=p2_tri (j:Int) e;have T10:=p10_tri 17 (exE m e);rw[et,p2_one (show -(j:Int)≤0 by omega),Int.mul_one]at T2;rw[show 17+exE m e=lg (exT m e) by unfold exE;omega,p10_one (show -(17:Int)≤0 by omega),Int.mul_one,show p10 17=100000000000000000 by decide]at T10
 have e2:p2 (j:Int)≤m:=by
  unfold p2;rw[show(max (j:Int) 0).toNat=j by omega];exact b0
 unfold exN exD;have q1:=p2_pos (-exT m e);have q2:=p10_pos (-lg (exT m e));have q3:=p2_pos e;have q4:=p2_pos (-e);have q5:=p10_pos (-exE m e);generalize p2 (j:Int)=aB at *;generalize p2 e=ae at *;generalize p2 (-e)=be at *;generalize p2 (exT m e)=at' at *;generalize p2 (-exT m e)=bt at *;generalize p10 (lg (exT m e))=Ak at *;generalize p10 (-lg (exT m e))=Bk at *;generalize p10 (exE m e)=AE at *;generalize p10 (-exE m e)=BE at *;refine Int.le_of_mul_le_mul_right (a:=bt*Bk) ?_ (Int.mul_pos q1 q2)
 calc 100000000000000000*(be*AE)*(bt*Bk)=(100000000000000000*AE*Bk)*(be*bt):=by ac_rfl
  _=(Ak*BE)*(be*bt):=by rw[T10]
  _=(be*BE)*(Ak*bt):=by ac_rfl
  _≤(be*BE)*(at'*Bk):=Int.mul_le_mul_of_nonneg_left L (Int.le_of_lt (Int.mul_pos q4 q5))
  _=(at'*be)*(BE*Bk):=by ac_rfl
  _=(aB*ae*bt)*(BE*Bk):=by rw[T2]
  _=aB*(ae*bt*BE*Bk):=by ac_rfl
  _≤m*(ae*bt*BE*Bk):=Int.mul_le_mul_of_nonneg_right e2 (Int.le_of_lt (Int.mul_pos (Int.mul_pos (Int.mul_pos q3 q1) q5) q2))
  _=m*ae*BE*(bt*Bk):=by ac_rfl
theorem ex_hi (hm:0<m)(hm':m<9007199254740992)(he:-1074≤e)(he':e≤971):exN m e<2000000000000000000*exD m e:=by
 obtain⟨t0,t1⟩:=ex_t hm hm' he he';obtain⟨-,L⟩:=lg_tab t0 t1;obtain⟨j,hj,b0,b1⟩:=blen_at hm;have et:(j:Int)+e=exT m e:=by unfold exT;omega
 have T2:=p2_tri (j:Int) e;have T10:=p10_tri 18 (exE m e);rw[et,p2_one (show -(j:Int)≤0 by omega),Int.mul_one]at T2;rw[show 18+exE m e=lg (exT m e)+1 by unfold exE;omega,p10_one (show -(18:Int)≤0 by omega),Int.mul_one,show p10 18=1000000000000000000 by decide]at T10
 have e2:m<2*p2 (j:Int):=by
  unfold p2;rw[show(max (j:Int) 0).toNat=j by omega];rw[Int.pow_succ]at b1;omega
 unfold exN exD;have q1:=p2_pos (-exT m e);have q2:=p10_pos (-(lg (exT m e)+1));have q3:=p2_pos e;have q4:=p2_pos (-e);have q5:=p10_pos (-exE m e);generalize p2 (j:Int)=aB at *;generalize p2 e=ae at *;generalize p2 (-e)=be at *;generalize p2 (exT m e)=at' at *;generalize p2 (-exT m e)=bt at *;generalize p10 (lg (exT m e)+1)=Ak at *;generalize p10 (-(lg (exT m e)+1))=Bk at *;generalize p10 (exE m e)=AE at *;generalize p10 (-exE m e)=BE at *;refine Int.lt_of_mul_lt_mul_right (a:=bt*Bk) ?_ (Int.le_of_lt (Int.mul_pos q1 q2))
 calc m*ae*BE*(bt*Bk)=m*(ae*bt*BE*Bk):=by ac_rfl
  _<2*aB*(ae*bt*BE*Bk):=Int.mul_lt_mul_of_pos_right e2 (Int.mul_pos (Int.mul_pos (Int.mul_pos q3 q1) q5) q2)
  _=2*((aB*ae*bt)*(BE*Bk)):=by ac_rfl
  _=2*((at'*be)*(BE*Bk)):=by rw[T2]
  _=2*(be*BE)*(at'*Bk):=by ac_rfl
  _<2*(be*BE)*(Ak*bt):=Int.mul_lt_mul_of_pos_left L (Int.mul_pos (by decide) (Int.mul_pos q4 q5))
  _=2*((Ak*BE)*(be*bt)):=by ac_rfl
  _=2*((1000000000000000000*AE*Bk)*(be*bt)):=by rw[T10]
  _=(2*1000000000000000000)*(be*AE)*(bt*Bk):=by ac_rfl
  _=2000000000000000000*(be*AE)*(bt*Bk):=by rfl
def exW (m e:Int):Nat:=(exN m e / exD m e).toNat
def exR (m e:Int):Bool:=decide (exN m e % exD m e≠0)
theorem exW_int (hm:0<m):((exW m e:Nat):Int)=exN m e / exD m e:=by
 unfold exW;rw[Int.toNat_of_nonneg (Int.ediv_nonneg (exN_nn hm) (Int.le_of_lt exD_pos))]
theorem exW_bd (hm:0<m)(hm':m<9007199254740992)(he:-1074≤e)(he':e≤971):100000000000000000≤exW m e∧exW m e<2000000000000000000:=by
 have h1:=ex_lo hm hm' he he';have h2:=ex_hi hm hm' he he';have h3:=exW_int (e:=e) hm;have d:=exD_pos (m:=m) (e:=e);have h4:=(Int.le_ediv_iff_mul_le d).2 h1;have h5:=(Int.ediv_lt_iff_lt_mul d).2 h2;omega
end
theorem trim_is (l:List UInt8):l=Lib.trimRightB l 48++List.replicate (l.length-(Lib.trimRightB l 48).length) 48:=by
 unfold Lib.trimRightB;have h1:l.reverse=l.reverse.takeWhile (· == 48)++l.reverse.dropWhile (· == 48):=List.takeWhile_append_dropWhile.symm
 have h2:l.reverse.takeWhile (· == 48)=List.replicate (l.reverse.takeWhile (· == 48)).length 48:=by
  refine List.eq_replicate_iff.2 ⟨rfl,fun b hb=>?_⟩
  have:∀(l:List UInt8) b,b∈l.takeWhile (· == 48)→(b == 48)=true:=by
   intro l
   induction l with
   | nil=>intro b h;simp at h
   | cons c l ih=>
    intro b h;rw[List.takeWhile_cons]at h
    split at h
    ·rename_i hc
     rcases List.mem_cons.1 h with rfl|h'
     ·exact hc
     ·exact ih b h'
    ·simp at h
  simpa using this _ b hb
 have h3:l=(l.reverse.dropWhile (· == 48)).reverse++(l.reverse.takeWhile (· == 48)).reverse:=by
  have:=congrArg List.reverse h1;rw[List.reverse_reverse,List.reverse_append]at this;exact this
 have h4:(l.reverse.takeWhile (· == 48)).length=l.length-((l.reverse.dropWhile (· == 48)).reverse).length:=by
  have:=congrArg List.length h3;rw[List.length_append,List.length_reverse,List.length_reverse]at this;rw[List.length_reverse];omega
 rw[←h4]
 conv=>lhs;rw[h3]
 congr 1
 conv=>lhs;rw[h2]
 rw[List.reverse_replicate]
theorem nts_rep:∀n,List.replicate n (48:UInt8)=nts n
 | 0=>rfl
 | n+1=>by
  show 48::List.replicate n 48=48::nts n;rw[nts_rep n]
theorem dc_val {x:Nat}(h:x<18446744073709551616):∃j:Nat,dval (dcD x)*10 ^ j=(x:Int)∧(∀e,dcE x e=e+j)∧(dcD x).all isDig=true:=by
 have e1:=trim_is (decF 20 x);have d:=dec_dig x;rw[dec20 h]at d;refine⟨(decF 20 x).length-(dcD x).length,?_,?_,?_⟩
 ·rw[←d.2]
  conv=>rhs;rw[e1]
  rw[dval_append,nts_rep,nts_val,(nts_dig _).2];unfold dcD;omega
 ·intro e
  have:=trim_len (decF 20 x) 48;unfold dcE dcD;omega
 ·have:=d.1
  rw[e1,List.all_append,Bool.and_eq_true]at this;exact this.1
theorem dc_dig {x:Nat}(h:x<18446744073709551616)(h0:0<x):digB (dcD x)=true∧0<dval (dcD x):=by
 obtain⟨j,h1, -,h2⟩:=dc_val h;have hp:(0:Int)<10 ^ j:=Int.pow_pos (by decide)
 have hd:0<dval (dcD x):=by
  rcases Int.lt_or_le 0 (dval (dcD x))with c|c
  ·exact c
  ·have:=Int.mul_le_mul_of_nonneg_right c (Int.le_of_lt hp)
   omega
 refine⟨digB_of h2 fun e=>?_,hd⟩;rw[e,dval_nil]at hd;omega
theorem nd_low {x:Nat}(h:0<x):10 ^ (Lib.nDigits x-1)≤x:=by
 induction x using Nat.strongRecOn with
 | _ x ih=>
  by_cases c:x<10
  ·rw[Lib.nDigits_small c]
   exact h
  ·rw[Lib.nDigits_big c]
   have h1:=ih (x / 10) (by omega) (by omega);have h2:=Lib.nDigits_pos (x / 10);rw[show Lib.nDigits (x / 10)+1-1=Lib.nDigits (x / 10)-1+1 by omega,Nat.pow_succ];omega
theorem dc_len {x:Nat}(h:x≤100000000000000000):(dcD x).length≤17:=by
 rcases Nat.lt_or_ge x 100000000000000000 with c|c
 ·have h1:=trim_len (decF 20 x) 48
  have h2:(decF 20 x).length≤17:=by
   rw[←dec20 (by omega),Lib.decDigits_length];rcases Nat.lt_or_ge (Lib.nDigits x) 18 with c1|c1
   ·omega
   ·exfalso
    have h0:0<x:=by
     rcases Nat.eq_zero_or_pos x with e|e
     ·rw[e,Lib.nDigits_small (by decide)]at c1;omega
     ·exact e
    have:=nd_low h0;have h3:10 ^ 17≤10 ^ (Lib.nDigits x-1):=Nat.pow_le_pow_right (by decide) (by omega);omega
  unfold dcD;omega
 ·obtain rfl:x=100000000000000000:=by omega
  decide +kernel
theorem ar_near {N D:Int}{n:Nat}(hD:0<D)(hn:n=1∨n=2)(W:Nat)(hW:(W:Int)=N / D)(r:Bool)(hr:r=decide (N % D≠0)) :
  2*((arA W r n:Int)*(D*10 ^ n)-N)≤D*10 ^ n∧2*(N-(arA W r n:Int)*(D*10 ^ n))≤D*10 ^ n:=by
 have e1:=Int.emod_add_mul_ediv N D;have e2:=Int.emod_nonneg N (Int.ne_of_gt hD);have e3:=Int.emod_lt_of_pos N hD;rw[←hW]at e1;have w1:=Nat.mod_add_div W (10 ^ n);have w2:W % 10 ^ n<10 ^ n:=Nat.mod_lt _ (Nat.pow_pos (by decide))
 have u1:∃u:Nat,10 ^ n=2*u∧((10:Int) ^ n)=2*(u:Int):=by
  rcases hn with rfl|rfl
  ·exact⟨5,by decide,by decide⟩
  ·exact⟨50,by decide,by decide⟩
 obtain⟨u,hu,hu'⟩:=u1;have hS:arS W r n=(decide (10 ^ n<W % 10 ^ n*2) || (decide (W % 10 ^ n*2=10 ^ n) && (r || decide (W / 10 ^ n % 2=1)))):=rfl;have hA:arA W r n=if arS W r n then W / 10 ^ n+1 else W / 10 ^ n:=rfl
 rw[hu]at w1 w2 hS hA;rw[hu'];generalize W % (2*u)=c at *;generalize W / (2*u)=d at *;generalize N % D=ρ at *;generalize arA W r n=a at *;generalize arS W r n=s at *
 -- N=d*(2u)*D+c*D+ρ
 have w3:(W:Int)=(c:Int)+2*(u:Int)*(d:Int):=by rw[←w1];simp
 have NN:N=(d:Int)*(D*(2*(u:Int)))+(c:Int)*D+ρ:=by
  rw[←e1,w3,Int.mul_add,Int.mul_comm D (c:Int),show D*(2*(u:Int)*(d:Int))=(d:Int)*(D*(2*(u:Int))) by ac_rfl];omega
 have f1:∀x y:Int,x≤y→x*D≤y*D:=fun x y h=>Int.mul_le_mul_of_nonneg_right h (Int.le_of_lt hD);have f2:D*(2*(u:Int))=2*((u:Int)*D):=by ac_rfl
 rw[f2]at NN ⊢;have f6:=f1 0 (c:Int) (by omega);rw[Int.zero_mul]at f6;have f3:=f1 (c:Int) (2*u-1) (by omega);rw[Int.sub_mul,Int.mul_assoc,Int.one_mul]at f3;cases hs:s
 ·rw[hs]at hA hS
  have hA':a=d:=hA;subst hA';have k1:¬2*u<c*2:=fun h=>by rw[decide_eq_true h]at hS;simp at hS
  rcases Nat.lt_or_ge (c * 2) (2 * u)with k2|k2
  ·have f4:=f1 ((c:Int)+1) u (by omega)
   rw[Int.add_mul,Int.one_mul]at f4;generalize (a:Int)*(2*((u:Int)*D))=X at *;generalize (c:Int)*D=Y at *;generalize (u:Int)*D=Z at *;omega
  ·have k3:c*2=2*u:=by omega
   have k4:r=false:=by
    cases r
    ·rfl
    ·rw[decide_eq_true k3]at hS;simp at hS
   rw[k4]at hr
   have k5:ρ=0:=by
    have:=of_decide_eq_false hr.symm;omega
   have k6:c=u:=by omega
   subst k6;generalize (a:Int)*(2*((c:Int)*D))=X at *;generalize (c:Int)*D=Y at *;omega
 ·rw[hs]at hA hS
  have hA':a=d+1:=hA;subst hA'
  have k1:2*u≤c*2:=by
   rcases Nat.lt_or_ge (c * 2) (2 * u)with k|k
   ·rw[decide_eq_false (by omega),decide_eq_false (by omega)]at hS
    simp at hS
   ·exact k
  have f4:=f1 (u:Int) c (by omega)
  have f5:(((d+1:Nat):Int))*(2*((u:Int)*D))=(d:Int)*(2*((u:Int)*D))+2*((u:Int)*D):=by
   rw[Int.natCast_add,Int.add_mul]
   simp
  rw[f5];generalize (d:Int)*(2*((u:Int)*D))=X at *;generalize (c:Int)*D=Y at *;generalize (u:Int)*D=Z at *;omega
theorem fl_parts {f:Int}(hf:0≤f)(hf':f<9223372036854775808)(hc:fC f<3):gK f*p2 (-fY f)=fX f*p2 (fY f)*dD:=by
 have h:=fMg_is (f:=f) ⟨hf,by omega⟩ hc;unfold fMg at h;rw[show f % 9223372036854775808=f by omega]at h;have b:=fY_bd f;have d:dD=2 ^ 1074:=by unfold dD;rw[dB_int]
 rw[←h,d];unfold p2;rw[Int.mul_assoc,Int.mul_assoc,←Int.pow_add,←Int.pow_add]
 congr 2
 omega
theorem last_reads {f:Int}(h0:0<f)(h1:f≤9218868437227405311)(hc:fC f<3)(hx:0<fX f) :
  18≤Lib.nDigits (exW (fX f) (fY f))∧Lib.nDigits (exW (fX f) (fY f))≤19 ∧
  nearV (dcD (arA (exW (fX f) (fY f)) (exR (fX f) (fY f)) (Lib.nDigits (exW (fX f) (fY f))-17))) (dcE (arA (exW (fX f) (fY f)) (exR (fX f) (fY f)) (Lib.nDigits (exW (fX f) (fY f))-17)) (exE (fX f) (fY f)+((Lib.nDigits (exW (fX f) (fY f))-17:Nat):Int)))=f:=by
 have FP:=fl_parts (f:=f) (by omega) (by omega) hc;have yb:=fY_bd f;have xb:=fX_bd (f:=f)
 have yb2:fY f≤971:=by
  have:fE f≤2046:=by
   unfold fC at hc;have e0:0≤fE f∧fE f<2048:=by unfold fE;omega
   by_cases h:fE f=2047
   ·rw[if_pos h]at hc
    split at hc<;>omega
   ·omega
  unfold fY;split
  ·omega
  ·split<;>omega
 have hm:=xb.2;generalize hM:fX f=m at *;generalize fY f=e at *;obtain⟨w0,w1⟩:=exW_bd hx hm yb.1 yb2;have wi:=exW_int (e:=e) hx;have dp:=exD_pos (m:=m) (e:=e);have nn:=exN_nn (e:=e) hx;have t:=ex_t hx hm yb.1 yb2;have lb:=lg_bd t.1 t.2;have EE:exE m e=lg (exT m e)-17:=rfl;have RR:exR m e=decide (exN m e % exD m e≠0):=rfl;have ND:exN m e=m*p2 e*p10 (-exE m e):=rfl;have DD:exD m e=p2 (-e)*p10 (exE m e):=rfl
 -- how many digits
 have s1:18≤Lib.nDigits (exW m e):=by
  rcases Nat.lt_or_ge (Lib.nDigits (exW m e)) 18 with c|c
  ·exfalso
   have a1:=Lib.lt_pow_nDigits (exW m e);have a2:10 ^ Lib.nDigits (exW m e)≤10 ^ 17:=Nat.pow_le_pow_right (by decide) (by omega);omega
  ·exact c
 have s2:Lib.nDigits (exW m e)≤19:=by
  rcases Nat.lt_or_ge 19 (Lib.nDigits (exW m e))with c|c
  ·exfalso
   have a1:=nd_low (x:=exW m e) (by omega);have a2:10 ^ 19≤10 ^ (Lib.nDigits (exW m e)-1):=Nat.pow_le_pow_right (by decide) (by omega);omega
  ·exact c
 refine⟨s1,s2,?_⟩
 have lo16:10000000000000000*10 ^ (Lib.nDigits (exW m e)-17)≤exW m e:=by
  have a1:=nd_low (x:=exW m e) (by omega)
  have a2:10 ^ (Lib.nDigits (exW m e)-1)=10000000000000000*10 ^ (Lib.nDigits (exW m e)-17):=by
   rw[show Lib.nDigits (exW m e)-1=16+(Lib.nDigits (exW m e)-17) by omega,Nat.pow_add]
  omega
 have hn:Lib.nDigits (exW m e)-17=1∨Lib.nDigits (exW m e)-17=2:=by omega
 generalize Lib.nDigits (exW m e)-17=n at *;have AN:=ar_near dp hn (exW m e) wi (exR m e) RR
 -- the candidate
 have ab:0<arA (exW m e) (exR m e) n∧arA (exW m e) (exR m e) n<18446744073709551616:=by
  have a1:10000000000000000≤exW m e / 10 ^ n:=(Nat.le_div_iff_mul_le (Nat.pow_pos (by decide))).2 lo16;have a2:exW m e / 10 ^ n≤exW m e:=Nat.div_le_self _ _;unfold arA
  split<;>omega
 generalize arA (exW m e) (exR m e) n=a at *;obtain⟨j,v1,v2, -⟩:=dc_val ab.2;have vd:=(dc_dig ab.2 ab.1).2;rw[v2];have ez:exE m e+(n:Int)+(j:Int)=exE m e+((n+j:Nat):Int):=by rw[Int.natCast_add];omega
 rw[ez];show nrF (dval (dcD a)*p10 (exE m e+((n+j:Nat):Int))) (p10 (-(exE m e+((n+j:Nat):Int))))=f;generalize dval (dcD a)=v at *
 -- N is at least 10^16 of the unit
 have big:10000000000000000*(exD m e*10 ^ n)≤exN m e:=by
  have a1:exD m e*(exN m e / exD m e)≤exN m e:=Int.mul_ediv_self_le (Int.ne_of_gt dp);rw[←wi]at a1;have a2:((10000000000000000*10 ^ n:Nat):Int)≤(exW m e:Int):=Int.ofNat_le.2 lo16;have a3:=Int.mul_le_mul_of_nonneg_left a2 (Int.le_of_lt dp)
  have a4:exD m e*((10000000000000000*10 ^ n:Nat):Int)=10000000000000000*(exD m e*10 ^ n):=by
   rw[Int.natCast_mul,Int.natCast_pow];show exD m e*(10000000000000000*(10:Int) ^ n)=_
   ac_rfl
  omega
 have up:0<exD m e*10 ^ n:=Int.mul_pos dp (Int.pow_pos (by decide));obtain⟨c1,c2⟩:=near_digits (d:=a) up big AN.1 AN.2
 -- the same proportion
 have TZ:=p10_tri (exE m e) ((n+j:Nat):Int);rw[p10_one (show -((n+j:Nat):Int)≤0 by omega),Int.mul_one,p10_nat,Int.pow_add]at TZ;have q0:=p10_pos (-(exE m e+((n+j:Nat):Int)));have p0:0<v*p10 (exE m e+((n+j:Nat):Int)):=Int.mul_pos vd (p10_pos _);have b1:=p2_pos (-e);have b2:=p10_pos (-exE m e);have cc:0<p2 (-e)*p10 (-exE m e):=Int.mul_pos b1 b2;have c2p:0<dD*p10 (-(exE m e+((n+j:Nat):Int))):=Int.mul_pos dD_pos q0
 have r1:gK f*p10 (-(exE m e+((n+j:Nat):Int)))*(p2 (-e)*p10 (-exE m e))=exN m e*(dD*p10 (-(exE m e+((n+j:Nat):Int)))):=by
  rw[ND];generalize p10 (-(exE m e+((n+j:Nat):Int)))=q at *
  calc gK f*q*(p2 (-e)*p10 (-exE m e))=(gK f*p2 (-e))*(q*p10 (-exE m e)):=by ac_rfl
   _=(m*p2 e*dD)*(q*p10 (-exE m e)):=by rw[FP]
   _=m*p2 e*p10 (-exE m e)*(dD*q):=by ac_rfl
 have r2:v*p10 (exE m e+((n+j:Nat):Int))*dD*(p2 (-e)*p10 (-exE m e))=(a:Int)*(exD m e*10 ^ n)*(dD*p10 (-(exE m e+((n+j:Nat):Int)))):=by
  rw[DD,←v1];generalize p10 (-(exE m e+((n+j:Nat):Int)))=q at *;generalize p10 (exE m e+((n+j:Nat):Int))=z at *
  calc v*z*dD*(p2 (-e)*p10 (-exE m e))=(z*p10 (-exE m e))*(v*dD*p2 (-e)):=by ac_rfl
   _=(p10 (exE m e)*(10 ^ n*10 ^ j)*q)*(v*dD*p2 (-e)):=by rw[TZ]
   _=v*10 ^ j*(p2 (-e)*p10 (exE m e)*10 ^ n)*(dD*q):=by ac_rfl
 have lo:18014398509481984*(gK f*p10 (-(exE m e+((n+j:Nat):Int)))-v*p10 (exE m e+((n+j:Nat):Int))*dD)<gK f*p10 (-(exE m e+((n+j:Nat):Int))):=by
  refine Int.lt_of_mul_lt_mul_right (a:=p2 (-e)*p10 (-exE m e)) ?_ (Int.le_of_lt cc);rw[Int.mul_assoc,Int.sub_mul,r1,r2,←Int.sub_mul,←Int.mul_assoc];exact Int.mul_lt_mul_of_pos_right c1 c2p
 have hi:18014398509481984*(v*p10 (exE m e+((n+j:Nat):Int))*dD-gK f*p10 (-(exE m e+((n+j:Nat):Int))))<gK f*p10 (-(exE m e+((n+j:Nat):Int))):=by
  refine Int.lt_of_mul_lt_mul_right (a:=p2 (-e)*p10 (-exE m e)) ?_ (Int.le_of_lt cc);rw[Int.mul_assoc,Int.sub_mul,r1,r2,←Int.sub_mul,←Int.mul_assoc];exact Int.mul_lt_mul_of_pos_right c2 c2p
 have R:=near_rel p0 q0 h0 h1 lo hi;unfold nrF;rw[if_neg (by omega)];unfold rF;rw[R.2];show f+0=f;omega
theorem blen_zero_iff {x:Int}(h:0≤x):decide (0<blen x)=decide (x≠0):=by
 rcases Int.lt_or_eq_of_le h with c|c
 ·obtain⟨j,hj, -, -⟩:=blen_at c
  rw[hj,decide_eq_true (by omega),decide_eq_true (by omega)]
 ·subst c
  rfl
theorem expand_any (f:Int)(hf:Word f)(hx:0<fX f)(hy:fY f≤971)(w:World) :
  Calls Tryz.prog 162 #[.int .u64 f] w (RetV (fun _ v=>v=.agg #[.int .u64 (exW (fX f) (fY f)),.int .i64 (exE (fX f) (fY f)),.bool (exR (fX f) (fY f))]) w):=by
 have SP:=Hj fun w=>split_any f hf w;have yb:=fY_bd f;have xb:=fX_bd (f:=f);obtain⟨w0,w1⟩:=exW_bd hx xb.2 yb.1 hy;have wi:=exW_int (e:=fY f) hx;have t:=ex_t hx xb.2 yb.1 hy;have lb:=lg_bd t.1 t.2;have dp:=exD_pos (m:=fX f) (e:=fY f);have ET:blen (fX f)-1+fY f=exT (fX f) (fY f):=rfl;have EE:exT (fX f) (fY f)*78913 / 262144-17=exE (fX f) (fY f):=rfl;have EL:exE (fX f) (fY f)=lg (exT (fX f) (fY f))-17:=rfl;have eb:-341≤exE (fX f) (fY f)∧exE (fX f) (fY f)≤292:=by rw[EL];omega
 have RR:Hid (exR (fX f) (fY f)=decide (exN (fX f) (fY f) % exD (fX f) (fY f)≠0)):=rfl;have ND:Hid (exN (fX f) (fY f)=fX f*((2:Nat):Int) ^ (max (fY f) 0).toNat*((10:Nat):Int) ^ (max (-exE (fX f) (fY f)) 0).toNat):=rfl;have DD:Hid (exD (fX f) (fY f)=((2:Nat):Int) ^ (max (-fY f) 0).toNat*((10:Nat):Int) ^ (max (exE (fX f) (fY f)) 0).toNat):=rfl;have L64:=Hj fun w=>len64w (fX f) ⟨by omega,by omega⟩ w;have NW:=Hj fun w=>newV (fX f) ⟨by omega,by omega⟩ w;have P2:=Hj fun w=>epower_any 2 (fY f) (by decide) (by decide) (by omega) w;have P10:=Hj fun w=>epower_any 10 (-exE (fX f) (fY f)) (by decide) (by decide) (by omega) w;have Q2:=Hj fun w=>epower_any 2 (-fY f) (by decide) (by decide) (by omega) w;have Q10:=Hj fun w=>epower_any 10 (exE (fX f) (fY f)) (by decide) (by decide) (by omega) w
 have b0:1≤blen (fX f):=by
  obtain⟨jb,hjb, -, -⟩:=blen_at hx;omega
 have bb:=blen_le2 (k:=53) xb.1 (by rw[show(2:Int) ^ 53=9007199254740992 by decide];exact xb.2);have MR:=Hj (Int.emod_nonneg (exN (fX f) (fY f)) (Int.ne_of_gt dp))
 have UV:uintV (exN (fX f) (fY f) / exD (fX f) (fY f))=exW (fX f) (fY f)∧decide (exN (fX f) (fY f) / exD (fX f) (fY f)<18446744073709551616)=true:=by
  rw[←wi];have h:((exW (fX f) (fY f):Nat):Int)<18446744073709551616:=by omega
  exact⟨if_pos h,decide_eq_true h⟩
 have HUV:=Hj UV;have DP:=Hj dp;clear UV dp EL lb w0 w1 wi;generalize exW (fX f) (fY f)=W at *;generalize exR (fX f) (fY f)=R at *;generalize exN (fX f) (fY f)=NN at *;generalize exD (fX f) (fY f)=D at *;generalize exE (fX f) (fY f)=E at *;generalize exT (fX f) (fY f)=T at *;generalize fX f=m at *;generalize fY f=e at *;generalize blen m=B at *;have o1:IntKind.i64.wrap (B-1)=B-1:=by rw[IntKind.wrap_i64];omega
 have o2:IntKind.i64.wrap (B-1+e)=B-1+e:=by rw[IntKind.wrap_i64];omega
 rw[ET]at o2;have o3:IntKind.i64.wrap (T*78913)=T*78913:=by rw[IntKind.wrap_i64];omega
 have o4:IntKind.i64.wrap (-E) = -E:=by rw[IntKind.wrap_i64];omega
 have o5:IntKind.i64.wrap (-e) = -e:=by rw[IntKind.wrap_i64];omega
 obtain⟨eb0,eb1⟩:=eb;obtain⟨yb0,yb1⟩:=yb;go_enter Tryz.func162,Tryz.ntmps162;go_wp2_with fail;refine(SP.out _).mono ?_;rintro x w1 ⟨rfl,rfl⟩;go_wp2_with fail;refine(L64.out _).mono ?_;rintro x w2 ⟨rfl,rfl⟩;go_wp2_with fail;refine(NW.out _).mono ?_;clear L64 SP o1 o2 o3 ET EE t b0 bb;rintro x w3 ⟨v1,n1,rfl,hb3⟩;have K3:=Blk.made hb3;have HB3:=Hj (bel_trans (bel_alloc (Below.refl w.heap.size w) _) hb3);obtain⟨A1,l1,c1,rfl⟩:=n1.v.form;clear hb3 NW;go_wp2_with fail;refine(P2.out _).mono ?_;rintro x w4 ⟨v2,n2,rfl,hb4⟩;have n1':=n1.v.below hb4;have K4:=K3.below hb4 K3.lt;have HB4:=Hj (bel_trans HB3.out hb4);obtain⟨A2,l2,c2,rfl⟩:=n2.v.form;clear hb4 P2 n1 K3 HB3;go_wp2_with fail;refine(nmulV n1' n2.v (by decide) (by decide)).mono ?_;rintro x w5 ⟨v3,n3,rfl,hb5⟩;have K5:=K4.below hb5 K4.lt;have HB5:=Hj (bel_trans HB4.out hb5);obtain⟨A3,l3,c3,rfl⟩:=n3.v.form;clear hb5 n1' n2 K4 HB4;go_wp2_with fail;refine(P10.out _).mono ?_;rintro x w6 ⟨v4,n4,rfl,hb6⟩;have n3':=n3.v.below hb6;have K6:=K5.below hb6 K5.lt;have HB6:=Hj (bel_trans HB5.out hb6);obtain⟨A4,l4,c4,rfl⟩:=n4.v.form;clear hb6 P10 n3 K5 HB5;go_wp2_with fail;refine(nmulV n3' n4.v (by decide) (by decide)).mono ?_;rintro x w7 ⟨v5,n5,rfl,hb7⟩;have K7:=K6.below hb7 K6.lt
 have HB7:=Hj (bel_trans HB6.out hb7);rw[←ND.out]at n5;obtain⟨A5,l5,c5,rfl⟩:=n5.v.form;clear hb7 n3' n4 K6 HB6 ND;go_wp2_with fail;refine(Q2.out _).mono ?_;rintro x w8 ⟨v6,n6,rfl,hb8⟩;have n5':=n5.v.below hb8;have K8:=K7.below hb8 K7.lt;have HB8:=Hj (bel_trans HB7.out hb8);obtain⟨A6,l6,c6,rfl⟩:=n6.v.form;clear hb8 Q2 n5 K7 HB7;go_wp2_with fail;refine(Q10.out _).mono ?_;rintro x w9 ⟨v7,n7,rfl,hb9⟩;have n5'':=n5'.below hb9;have n6':=n6.v.below hb9;have K9:=K8.below hb9 K8.lt;have HB9:=Hj (bel_trans HB8.out hb9);obtain⟨A7,l7,c7,rfl⟩:=n7.v.form;clear hb9 Q10 n6 n5' K8 HB8;go_wp2_with fail;refine(nmulV n6' n7.v (by decide) (by decide)).mono ?_;rintro x w10 ⟨v8,n8,rfl,hb10⟩;have n5:=n5''.below hb10;have K10:=K9.below hb10 K9.lt;have HB10:=Hj (bel_trans HB9.out hb10);rw[←DD.out]at n8;obtain⟨A8,l8,c8,rfl⟩:=n8.v.form;clear hb10 n6' n7 n5'' K9 HB9 DD;go_wp2_with fail;refine(ndivV n5 n8.v (by decide) (by decide) (by have:=DP.out;omega)).mono ?_;rintro x w11 ⟨v9,u9,n9,m9,rfl,hb11⟩;have K11:=K10.below hb11 K10.lt;have HB11:=Hj (bel_trans HB10.out hb11);obtain⟨A9,l9,c9,rfl⟩:=n9.v.form;obtain⟨A10,l10,c10,rfl⟩:=m9.v.form;clear hb11 n5 n8 K10 HB10;have UI:=nuintV n9.v (by decide);rw[HUV.out.1,HUV.out.2]at UI
 have LI:=nlenV m9.v (by decide);have BZ:=blen_zero_iff MR.out;rw[←RR.out]at BZ;have UI':=Hj UI;have LI':=Hj LI;clear UI LI HUV MR DP RR n9 m9;generalize blen (NN % D)=BL at *;go_wp2_with fail;refine UI'.out.mono ?_;rintro x w12 ⟨rfl,rfl⟩;go_wp2_with fail;refine LI'.out.mono ?_;rintro x w12 ⟨rfl,rfl⟩;clear UI' LI';obtain⟨c0,c1,c2,f0,f1,f2⟩:=K11.three;go_wp2_with fail;have K12:=K11.put3 (.int .u64 (W:Int)) (.int .i64 E) (.bool R);have HB12:=Hj (bel_put3 HB11.out (Nat.le_refl _) (.int .u64 (W:Int)) (.int .i64 E) (.bool R));unfold wput at K12 HB12;obtain⟨q0,q1,q2, -, -, -⟩:=K12.three;refine bodyPost_ret (by simp[results,Tryz.results162,go_sem,q0,q1,q2];(try rfl)) rfl ⟨_,rfl,rfl,HB12.out⟩
theorem kpd3 {W w1:World}{p0 p1 p2:Addr}{a0 a1 a2:Value}(hb:Below W.heap.size W w1)(h0:W.cell? p0=some a0)(h1:W.cell? p1=some a1)(h2:W.cell? p2=some a2) :
  w1.cell? p0=some a0∧w1.cell? p1=some a1∧w1.cell? p2=some a2:=
 ⟨(hb.cell (World.block_lt_of_cell? _ _ h0)).trans h0,(hb.cell (World.block_lt_of_cell? _ _ h1)).trans h1,(hb.cell (World.block_lt_of_cell? _ _ h2)).trans h2⟩
theorem pass_any (s:ByteArray)(e f:Int)(g:Nat)(w:World)(hs:s.size≤2000)(hd:digB s.data.toList=true)(he:-3000≤e)(he':e≤3000)(hc:w.cell? ⟨g,0,none⟩=some (.int .u64 f)) :
  Calls Tryz.prog 164 #[.agg #[.string s,.int .i64 e],.pointer (some ⟨g,0,none⟩)] w fun x w'=>x=.returned (.bool (nearV s.data.toList e == f))∧Below w.heap.size w w':=by
 have NR:=Hj fun w=>nearest_any s e w hs hd he he';generalize nearV s.data.toList e=r at *;have K0:=Blk.new w 193 #[.string s,.int .i64 e];have lt:=World.block_lt_of_cell? _ _ hc
 have c2:(w.alloc (.cells #[.string s,.int .i64 e] 193)).cell? ⟨g,0,none⟩=some (.int .u64 f):=by
  rw[World.cell?_alloc_past _ _ _ lt];exact hc
 obtain⟨c0,c1, -, -⟩:=K0.two;have HB1:=Hj (bel_alloc (Below.refl w.heap.size w) (.cells #[.string s,.int .i64 e] 193));clear hc lt K0;go_enter Tryz.func164,Tryz.ntmps164;go_upto_region 1 with fail;obtain⟨w1,hw1⟩:∃v,v=w.alloc (.cells #[.string s,.int .i64 e] 193):=⟨_,rfl⟩;rw[←hw1]at c0 c1 c2 HB1 ⊢;clear hw1;obtain⟨b,hb⟩:∃b,w.heap.size=b:=⟨_,rfl⟩;rw[hb]at c0 c1 ⊢;clear hb;have HK:Hid (∀w',Below w1.heap.size w1 w'→(w'.cell? ⟨b,0,none⟩=some (.string s)∧w'.cell? ⟨b,1,none⟩=some (.int .i64 e)∧w'.cell? ⟨g,0,none⟩=some (.int .u64 f))):=fun w' hb=>kpd3 hb c0 c1 c2;clear c0 c1 c2;refine region_plan (S:=fun w'=>w'.cell? ⟨b,0,none⟩=some (.string s)∧w'.cell? ⟨b,1,none⟩=some (.int .i64 e)∧w'.cell? ⟨g,0,none⟩=some (.int .u64 f)) _ [(0,true),(2,true),(1,false),(3,true),(4,true)] (by kernel_rfl) (by kernel_rfl) rfl (by kernel_rfl) (by kernel_rfl) (fun _ _ d _ _ h=>by cases d<;>exact h) (HK.out _ (bel_drew (Below.refl _ _))) ?_
 iterate 2
  refine Walk.take (v:=?_) rfl (by rfl) ?_ ?_;rotate_left
  ·(intro w' hSw;(try dsimp only at hSw);go_simp<;>with_reducible rfl)
  try simp only[Act.put,List.setIfInBounds_toArray,List.set_cons_zero,List.set_cons_succ]
 refine Walk.act rfl (by rfl) (fun K hK=>?_);go_simp;go_at_call 165;refine(NR.out w1.drew).mono ?_;rintro x t1 ⟨rfl,hh1⟩;have X1:Below w1.heap.size w1 t1:=bel_trans (bel_drew (Below.refl w1.heap.size w1)) hh1;refine hK.out _ _ (HK.out _ X1) ?_;clear hK K
 iterate 2
  try simp only[Act.put,List.setIfInBounds_toArray,List.set_cons_zero,List.set_cons_succ]
  refine Walk.take (v:=?_) rfl (by rfl) ?_ ?_;rotate_left
  ·(intro w' hSw;(try dsimp only at hSw);go_simp<;>with_reducible rfl)
 try simp only[Act.put,List.setIfInBounds_toArray,List.set_cons_zero,List.set_cons_succ]
 refine Walk.done ?_;clear HK;have HB9:=Hj (bel_trans HB1.out X1);clear X1 HB1;go_wp2_with fail;go_ret;exact⟨rfl,HB9.out⟩
def shR (f:Int)(W:Nat)(x:Int)(r:Bool)(s:Nat):Nat→Nat×Int
 | 0=>(0,0)
 | m+1=>if nearV (dcD (arA W r (s-17+m))) (dcE (arA W r (s-17+m)) (x+((s-17+m:Nat):Int))) == f then(arA W r (s-17+m),x+((s-17+m:Nat):Int))
  else if nearV (dcD (arB W r (s-17+m))) (dcE (arB W r (s-17+m)) (x+((s-17+m:Nat):Int))) == f then(arB W r (s-17+m),x+((s-17+m:Nat):Int))
  else shR f W x r s m
theorem ar_bd {W n:Nat}(r:Bool)(h0:10 ^ n≤W)(h1:W<10 ^ (n+17)):(0<arA W r n∧arA W r n≤100000000000000000)∧(0<arB W r n∧arB W r n≤100000000000000000):=by
 have p:0<10 ^ n:=Nat.pow_pos (by decide);have a1:1≤W / 10 ^ n:=(Nat.le_div_iff_mul_le p).2 (by omega);have a2:W / 10 ^ n<100000000000000000:=(Nat.div_lt_iff_lt_mul p).2 (by rw[Nat.pow_add]at h1;omega);unfold arA arB
 constructor<;>split<;>omega
theorem ixd0 (a b c d:Value)(w:World):(Instr.index 239 (.agg #[a,b,c,d]) (.int .i64 0)).run Tryz.prog w=.ok (.agg #[a,b]) w:=by
 simp[Instr.index,run_underlying Tryz.underlying239,asIntOf,go_sem,Tryz.sizeOf193,Tryz.isAgg193]
theorem ixd1 (a b c d:Value)(w:World):(Instr.index 239 (.agg #[a,b,c,d]) (.int .i64 1)).run Tryz.prog w=.ok (.agg #[c,d]) w:=by
 simp[Instr.index,run_underlying Tryz.underlying239,asIntOf,go_sem,Tryz.sizeOf193,Tryz.isAgg193]
theorem kpo {W w1:World}{p0:Addr}{a0:Value}(hb:Below W.heap.size W w1)(h0:W.cell? p0=some a0):w1.cell? p0=some a0:=(hb.cell (World.block_lt_of_cell? _ _ h0)).trans h0
theorem shortest_any (f:Int)(W:Nat)(x:Int)(r:Bool)(g:Nat)(w:World)(hW:100000000000000000≤W)(hW':W<2000000000000000000)(hx:-400≤x)(hx':x≤400)
  (hs:18≤Lib.nDigits W) (hs':Lib.nDigits W≤19)
  (hl:nearV (dcD (arA W r (Lib.nDigits W-17))) (dcE (arA W r (Lib.nDigits W-17)) (x+((Lib.nDigits W-17:Nat):Int)))=f)
  (hc:w.cell? ⟨g,0,none⟩=some (.int .u64 f)) (hE:EnvOk w) :
  Calls Tryz.prog 163 #[.agg #[.int .u64 (W:Int),.int .i64 x,.bool r],.func (.func 164) #[] #[.pointer (some ⟨g,0,none⟩)]] w (RetV (fun _ v=>v=.agg #[.string ⟨(dcD (shR f W x r (Lib.nDigits W) 17).1).toArray⟩,.int .i64 (dcE (shR f W x r (Lib.nDigits W) 17).1 (shR f W x r (Lib.nDigits W) 17).2)]) w):=by
 have FU:=Hj fun w hE=>format_any W (by omega) w hE;have sz:(⟨(Lib.decDigits W).toArray⟩:ByteArray).size=Lib.nDigits W:=by rw[str_size,Lib.decDigits_length]
 have lows:=nd_low (x:=W) (by omega);have highs:=Lib.lt_pow_nDigits W;obtain⟨t,ht⟩:∃t:ByteArray,t=⟨(Lib.decDigits W).toArray⟩:=⟨_,rfl⟩;rw[←ht]at sz FU;clear ht;obtain⟨s,hss⟩:∃s,Lib.nDigits W=s:=⟨_,rfl⟩;rw[hss]at sz lows highs hs hs' hl ⊢;clear hss
 -- one round
 have ST:Hid (∀k,k≤16→∃a b:Nat,∃z:Int, -1000≤z∧z≤1000∧0<a∧a≤100000000000000000∧0<b∧b≤100000000000000000 ∧
   (∀w,EnvOk w→Calls Tryz.prog 200 #[.agg #[.int .u64 (W:Int),.int .i64 x,.bool r],.int .i64 ((s-1-k:Nat):Int)] w (RetV (fun _ v=>v=.agg #[.string ⟨(dcD a).toArray⟩,.int .i64 (dcE a z),.string ⟨(dcD b).toArray⟩,.int .i64 (dcE b z)]) w)) ∧
   shR f W x r s (17-k)=(if nearV (dcD a) (dcE a z) == f then(a,z)else if nearV (dcD b) (dcE b z) == f then(b,z)else shR f W x r s (17-(k+1))) ∧
   (k=16→(nearV (dcD a) (dcE a z) == f)=true)):=by
  intro k hk;have en:s-17+(16-k)=s-1-k:=by omega
  have p1:10 ^ (s-1-k)≤10 ^ (s-1):=Nat.pow_le_pow_right (by decide) (by omega);have p2:10 ^ s≤10 ^ (s-1-k+17):=Nat.pow_le_pow_right (by decide) (by omega);obtain⟨⟨a0,a1⟩,b0,b1⟩:=ar_bd (W:=W) (n:=s - 1 - k) r (by omega) (by omega);refine⟨arA W r (s-1-k),arB W r (s-1-k),x+((s-1-k:Nat):Int),by omega,by omega,a0,a1,b0,b1,?_,?_,?_⟩
  ·intro w hE
   exact around_any W x r (s-1-k) (by omega) (by omega) (by omega) (by omega) w hE
  ·rw[show 17-k=16-k+1 by omega,show 17-(k+1)=16-k by omega]
   conv=>lhs;unfold shR
   rw[en]
  ·rintro rfl
   rw[show s-1-16=s-17 by omega,hl]
   simp
 obtain⟨RS,hRS⟩:∃v:Array Value,v=#[.string ⟨(dcD (shR f W x r s 17).1).toArray⟩,.int .i64 (dcE (shR f W x r s 17).1 (shR f W x r s 17).2)]:=⟨_,rfl⟩;have RR:Hid (∀a z,shR f W x r s 17=(a,z)→RS=#[.string ⟨(dcD a).toArray⟩,.int .i64 (dcE a z)]):=fun a z h=>by rw[hRS,h]
 rw[←hRS];clear hRS hl lows highs
 have PS:Hid (∀(a:Nat) (z:Int) (w':World),0<a→a≤100000000000000000 → -1000≤z→z≤1000→Below w.heap.size w w'→Calls Tryz.prog 164 #[.agg #[.string ⟨(dcD a).toArray⟩,.int .i64 (dcE a z)],.pointer (some ⟨g,0,none⟩)] w' fun x w''=>x=.returned (.bool (nearV (dcD a) (dcE a z) == f))∧Below w'.heap.size w' w''):=by
  intro a z w' a0 a1 z0 z1 hb;have l:=dc_len a1;have e:=dcE_bd (x:=a) (by omega) z;have:=pass_any ⟨(dcD a).toArray⟩ (dcE a z) f g w' (by rw[str_size];omega) (by rw[str_data];exact(dc_dig (by omega) a0).1) (by omega) (by omega) (kpo hb hc);rw[str_data]at this;exact this
 have EV:Hid (∀w':World,Below w.heap.size w w'→EnvOk w'):=fun w' hb=>hE.below hb;clear hc hE;have K0:=(Blk.new w 195 #[.int .u64 (W:Int),.int .i64 x,.bool r]).alloc (.cells #[.string ⟨#[]⟩,.int .i64 0] 193)
 have KR0:Blk ((w.alloc (.cells #[.int .u64 (W:Int),.int .i64 x,.bool r] 195)).alloc (.cells #[.string ⟨#[]⟩,.int .i64 0] 193)) (w.heap.size+1) 193 #[.string ⟨#[]⟩,.int .i64 0]:=by
  have:=Blk.new (w.alloc (.cells #[.int .u64 (W:Int),.int .i64 x,.bool r] 195)) 193 #[.string ⟨#[]⟩,.int .i64 0]
  simpa using this
 have HB0:=Hj (bel_alloc (bel_alloc (Below.refl w.heap.size w) (.cells #[.int .u64 (W:Int),.int .i64 x,.bool r] 195)) (.cells #[.string ⟨#[]⟩,.int .i64 0] 193));go_enter Tryz.func163,Tryz.ntmps163;go_wp2_with fail;refine(FU.out _ (EV.out _ HB0.out)).mono ?_;rintro y w1 ⟨rfl,hb1⟩;have K1:=K0.below hb1 K0.lt;have KR1:=KR0.below hb1 KR0.lt;have HB1:=Hj (bel_trans HB0.out hb1);clear hb1 K0 KR0 HB0 FU;go_wp2_with fail;clear sz
 go_loopw [13] (fun s13 wr=>∃k:Nat,s13=.int .i64 (k:Int)∧k≤16∧Hid (shR f W x r s 17=shR f W x r s (17-k))∧Blk wr w.heap.size 195 #[.int .u64 (W:Int),.int .i64 x,.bool r]∧Blk wr (w.heap.size+1) 193 #[.string ⟨#[]⟩,.int .i64 0]∧Hid (Below w.heap.size w wr)) (fun s13 _=>17-(intOf s13).toNat)
 case atStart=>exact⟨0,rfl,by decide,rfl,K1,KR1,HB1⟩
 case round=>
  clear K1 KR1 HB1;obtain⟨k,rfl,hk,SH,K2,KR2,HB2⟩:=hrel;obtain⟨a,b,z,z0,z1,a0,a1,b0,b1,AR,SS,LL⟩:=ST.out k hk;have PA:=Hj fun w' hb=>PS.out a z w' a0 a1 z0 z1 hb;have PB:=Hj fun w' hb=>PS.out b z w' b0 b1 z0 z1 hb;rw[SS]at SH;have hLL:=Hj LL;have hAR:=Hj AR;clear ST PS SS LL AR a0 a1 b0 b1 z0 z1;have hl1:(k:Int)<17:=by omega
  have esh:(s:Int)-1-(k:Int)=((s-1-k:Nat):Int):=by omega
  obtain⟨c0,c1,c2, -, -, -⟩:=K2.three;go_wp2_with fail;refine(hAR.out _ (EV.out _ HB2.out)).mono ?_;rintro y w3 ⟨v3,rfl,rfl,hb3⟩;have K3:=K2.below hb3 K2.lt;have KR3:=KR2.below hb3 KR2.lt;have HB3:=Hj (bel_trans HB2.out hb3);clear hb3 K2 KR2 HB2 hAR c0 c1 c2;have QA:Hid (shR f W x r s 17=(a,z)→RS=#[.string ⟨(dcD a).toArray⟩,.int .i64 (dcE a z)]):=RR.out a z;have QB:Hid (shR f W x r s 17=(b,z)→RS=#[.string ⟨(dcD b).toArray⟩,.int .i64 (dcE b z)]):=RR.out b z;clear RR;generalize (⟨(dcD a).toArray⟩:ByteArray)=sa at *;generalize (⟨(dcD b).toArray⟩:ByteArray)=sb at *;go_wp2_with fail;have I0:=fun w=>ixd0 (.string sa) (.int .i64 (dcE a z)) (.string sb) (.int .i64 (dcE b z)) w;have I1:=fun w=>ixd1 (.string sa) (.int .i64 (dcE a z)) (.string sb) (.int .i64 (dcE b z)) w;refine wp_loop_rounds 3 ?_;rw[rounds_succ];go_wp2_with fail;have HBa:=bel_alloc HB3.out (.cells #[.string sa,.int .i64 (dcE a z)] 193);refine(PA.out _ HBa).mono ?_;rintro y w4 ⟨rfl,hb4⟩;have hb4':=bel_trans (bel_alloc (Below.refl w3.heap.size w3) (.cells #[.string sa,.int .i64 (dcE a z)] 193)) hb4;have K4:=K3.below hb4' K3.lt;have KR4:=KR3.below hb4' KR3.lt;have KL4:=Blk.made hb4;have HB4:=Hj (bel_trans HB3.out hb4');clear hb4 hb4' K3 KR3 HB3 HBa PA
  obtain⟨l0,l1, -, -⟩:=KL4.two
  cases hA:(nearV (dcD a) (dcE a z) == f)
  ·rw[hA]at SH hLL
   have SHX:Hid (shR f W x r s 17=if(nearV (dcD b) (dcE b z) == f)=true then(b,z)else shR f W x r s (17-(k+1))):=SH;clear SH hA
   have kn:k≤15:=by
    rcases Nat.lt_or_ge k 16 with h|h
    ·omega
    ·have:=hLL.out (by omega)
     cases this
   clear hLL;go_wp2_with fail;rw[rounds_succ];go_wp2_with fail;have HBa:=bel_alloc HB4.out (.cells #[.string sb,.int .i64 (dcE b z)] 193);refine(PB.out _ HBa).mono ?_;rintro y w5 ⟨rfl,hb5⟩;have hb5':=bel_trans (bel_alloc (Below.refl w4.heap.size w4) (.cells #[.string sb,.int .i64 (dcE b z)] 193)) hb5;have K5:=K4.below hb5' K4.lt;have KR5:=KR4.below hb5' KR4.lt;have KL5:=Blk.made hb5;have HB5:=Hj (bel_trans HB4.out hb5');clear hb5 hb5' K4 KR4 HB4 HBa PB l0 l1 KL4;obtain⟨l0,l1, -, -⟩:=KL5.two
   cases hB:(nearV (dcD b) (dcE b z) == f)
   ·have SHY:Hid (shR f W x r s 17=shR f W x r s (17-(k+1))):=by
     have:=SHX.out;rw[hB]at this;exact this
    clear SHX hB;go_wp2_with fail;rw[rounds_succ];go_wp2_with fail
    go_roundw
    case rel=>exact⟨k+1,by go_num,by omega,SHY,K5,KR5,HB5⟩
    case measure=>simp[intOf];omega
   ·have SHY:Hid (shR f W x r s 17=(b,z)):=by
     have:=SHX.out;rw[hB]at this;exact this
    clear SHX hB;obtain⟨d0,d1,f0,f1⟩:=KR5.two;go_wp2_with fail;have K9:=KR5.put2 (.string sb) (.int .i64 (dcE b z));have HB9:=Hj (bel_put2 HB5.out (Nat.le_succ _) (.string sb) (.int .i64 (dcE b z)));unfold wput2 at K9 HB9;obtain⟨q0,q1, -, -⟩:=K9.two;refine bodyPost_ret (by simp[results,Tryz.results163,go_sem,q0,q1];(try rfl)) rfl ⟨_,?_,rfl,HB9.out⟩;show _=_;rw[QB.out SHY.out]
  ·rw[hA]at SH
   have SHX:Hid (shR f W x r s 17=(a,z)):=SH.out;clear SH hA hLL;obtain⟨d0,d1,f0,f1⟩:=KR4.two;go_wp2_with fail;have K9:=KR4.put2 (.string sa) (.int .i64 (dcE a z));have HB9:=Hj (bel_put2 HB4.out (Nat.le_succ _) (.string sa) (.int .i64 (dcE a z)));unfold wput2 at K9 HB9;obtain⟨q0,q1, -, -⟩:=K9.two;refine bodyPost_ret (by simp[results,Tryz.results163,go_sem,q0,q1];(try rfl)) rfl ⟨_,?_,rfl,HB9.out⟩;show _=_;rw[QA.out SHX.out]
def dgA (f:Int):Nat×Int:=shR (fAb f) (exW (fX (fAb f)) (fY (fAb f))) (exE (fX (fAb f)) (fY (fAb f))) (exR (fX (fAb f)) (fY (fAb f))) (decF 20 (exW (fX (fAb f)) (fY (fAb f)))).length 17
def dgD (f:Int):List UInt8:=if fC f=1∨fC f=2 then dcD (dgA f).1 else[]
def dgQ (f:Int):Int:=if fC f=1∨fC f=2 then dcE (dgA f).1 (dgA f).2 else 0
theorem nd_F {x:Nat}(h:x<18446744073709551616):(decF 20 x).length=Lib.nDigits x:=by rw[←dec20 h,Lib.decDigits_length]
theorem sh_good {f:Int}{W:Nat}{x:Int}{r:Bool}{s:Nat}(hs:18≤s)(hs':s≤19)(lo:10 ^ (s-1)≤W)(hi:W<10 ^ s)(hx:-400≤x)(hx':x≤400)
  (hl:nearV (dcD (arA W r (s-17))) (dcE (arA W r (s-17)) (x+((s-17:Nat):Int)))=f):∀m:Nat,m≤16 →
  0<(shR f W x r s (m+1)).1∧(shR f W x r s (m+1)).1≤100000000000000000 ∧ -400≤(shR f W x r s (m+1)).2∧(shR f W x r s (m+1)).2≤420 ∧
   nearV (dcD (shR f W x r s (m+1)).1) (dcE (shR f W x r s (m+1)).1 (shR f W x r s (m+1)).2)=f:=by
 have bd:∀m:Nat,m≤16→(0<arA W r (s-17+m)∧arA W r (s-17+m)≤100000000000000000)∧(0<arB W r (s-17+m)∧arB W r (s-17+m)≤100000000000000000):=by
  intro m hm;have p1:10 ^ (s-17+m)≤10 ^ (s-1):=Nat.pow_le_pow_right (by decide) (by omega);have p2:10 ^ s≤10 ^ (s-17+m+17):=Nat.pow_le_pow_right (by decide) (by omega);exact ar_bd r (by omega) (by omega)
 intro m
 induction m with
 | zero=>
  intro _;have b:=(bd 0 (by omega)).1;rw[Nat.add_zero]at b
  have e:shR f W x r s (0+1)=(arA W r (s-17),x+((s-17:Nat):Int)):=by
   show(if nearV (dcD (arA W r (s-17+0))) (dcE (arA W r (s-17+0)) (x+((s-17+0:Nat):Int))) == f then(arA W r (s-17+0),x+((s-17+0:Nat):Int))else _)=_;rw[Nat.add_zero,hl,if_pos (by simp)]
  rw[e];exact⟨b.1,b.2,by show -400≤x+((s-17:Nat):Int);omega,by show x+((s-17:Nat):Int)≤420;omega,hl⟩
 | succ m ih=>
  intro hm;have b:=bd (m+1) (by omega)
  have e:shR f W x r s (m+1+1)=(if nearV (dcD (arA W r (s-17+(m+1)))) (dcE (arA W r (s-17+(m+1))) (x+((s-17+(m+1):Nat):Int))) == f then(arA W r (s-17+(m+1)),x+((s-17+(m+1):Nat):Int))
    else if nearV (dcD (arB W r (s-17+(m+1)))) (dcE (arB W r (s-17+(m+1))) (x+((s-17+(m+1):Nat):Int))) == f then(arB W r (s-17+(m+1)),x+((s-17+(m+1):Nat):Int))
    else shR f W x r s (m+1)):=rfl
  rw[e];split
  ·rename_i h
   exact⟨b.1.1,b.1.2,by show -400≤x+((s-17+(m+1):Nat):Int);omega,by show x+((s-17+(m+1):Nat):Int)≤420;omega,by simpa using h⟩
  ·split
   ·rename_i h
    exact⟨b.2.1,b.2.2,by show -400≤x+((s-17+(m+1):Nat):Int);omega,by show x+((s-17+(m+1):Nat):Int)≤420;omega,by simpa using h⟩
   ·exact ih (by omega)
theorem ab_fin {f:Int}(hf:Word f)(hc:fC f=1∨fC f=2):fAb f=f % 9223372036854775808∧0<fAb f∧fAb f≤9218868437227405311∧fC (fAb f)=fC f∧0<fX (fAb f)∧fY (fAb f)≤971:=by
 have e:fAb f=f % 9223372036854775808:=by unfold fAb;rw[if_neg (by omega)]
 rw[e];have hf0:=hf.1;have hf1:=hf.2;have eE:fE (f % 9223372036854775808)=fE f:=by unfold fE;omega
 have eM:fM (f % 9223372036854775808)=fM f:=by unfold fM;omega
 have eC:fC (f % 9223372036854775808)=fC f:=by unfold fC;rw[eE,eM]
 have dE:fE f=f % 9223372036854775808 / 4503599627370496:=by unfold fE;omega
 have dM:fM f=f % 9223372036854775808 % 4503599627370496:=by unfold fM;omega
 have bE:fE f≤2046∧(fC f=1→fM f≠0∧fE f=0)∧(fC f=2→fE f≠0):=by
  have b0:0≤fE f∧fE f<2048:=by unfold fE;omega
  unfold fC at hc ⊢
  by_cases h:fE f=2047
  ·rw[if_pos h]at hc
   split at hc<;>omega
  ·rw[if_neg h]at hc ⊢
   by_cases h0:fE f=0
   ·rw[if_pos h0]at hc ⊢
    by_cases h1:fM f=0
    ·rw[if_pos h1]at hc
     omega
    ·rw[if_neg h1]
     exact⟨by omega,fun _=>⟨h1,h0⟩,fun h=>by omega⟩
   ·rw[if_neg h0]
    exact⟨by omega,fun h=>by omega,fun _=>h0⟩
 have bM:0≤fM f∧fM f<4503599627370496:=by unfold fM;omega
 refine⟨rfl,?_,?_,eC,?_,?_⟩
 ·rcases hc with h|h
  ·have:=bE.2.1 h;omega
  ·have:=bE.2.2 h;omega
 ·omega
 ·unfold fX
  rw[eC,eM];rcases hc with h|h
  ·rw[if_neg (by omega),if_pos h]
   have:=(bE.2.1 h).1;omega
  ·rw[if_pos h]
   omega
 ·unfold fY
  rw[eC,eE];rcases hc with h|h
  ·rw[if_neg (by omega),if_pos h]
   decide
  ·rw[if_pos h]
   omega
theorem dg_known {f:Int}(hf:Word f)(hc:fC f=1∨fC f=2):digB (dgD f)=true∧(dgD f).length≤17 ∧ -900≤dgQ f∧dgQ f≤900∧nearV (dgD f) (dgQ f)=fAb f:=by
 obtain⟨-,a0,a1,ac,ax,ay⟩:=ab_fin hf hc;obtain⟨s1,s2,lr⟩:=last_reads a0 a1 (by omega) ax;have yb:=fY_bd (fAb f);obtain⟨w0,w1⟩:=exW_bd ax (fX_bd (f:=fAb f)).2 yb.1 ay;have t:=ex_t ax (fX_bd (f:=fAb f)).2 yb.1 ay;have lb:=lg_bd t.1 t.2;have eb:-400≤exE (fX (fAb f)) (fY (fAb f))∧exE (fX (fAb f)) (fY (fAb f))≤400:=by unfold exE;omega
 have lo:=nd_low (x:=exW (fX (fAb f)) (fY (fAb f))) (by omega);have hi:=Lib.lt_pow_nDigits (exW (fX (fAb f)) (fY (fAb f)));have G:=sh_good (f:=fAb f) s1 s2 lo hi eb.1 eb.2 lr 16 (by decide)
 have eA:dgA f=shR (fAb f) (exW (fX (fAb f)) (fY (fAb f))) (exE (fX (fAb f)) (fY (fAb f))) (exR (fX (fAb f)) (fY (fAb f))) (Lib.nDigits (exW (fX (fAb f)) (fY (fAb f)))) (16+1):=by
  unfold dgA;rw[nd_F (by omega)]
 rw[←eA]at G;obtain⟨g0,g1,g2,g3,g4⟩:=G;unfold dgD dgQ;rw[if_pos hc,if_pos hc];have de:=dcE_bd (x:=(dgA f).1) (by omega) (dgA f).2;exact⟨(dc_dig (by omega) g0).1,dc_len g1,by omega,by omega,g4⟩
theorem digits_any (f:Int)(hf:Word f)(w:World)(hE:EnvOk w) :
  Calls Tryz.prog 130 #[.int .u64 f] w fun x w'=>x=.returned (.tuple #[.string ⟨(dgD f).toArray⟩,.int .i64 (dgQ f)])∧Below w.heap.size w w':=by
 have CL:=Hj fun w=>class_any f hf w;have hmf:∀(fn:Fn) (first cap:Array Value) (w:World),(Instr.makeFunc fn first cap).run Tryz.prog w=.ok (.func fn first cap) w:=fun _ _ _ _=>rfl
 by_cases hc:fC f=1∨fC f=2
 ·obtain⟨-,a0,a1,ac,ax,ay⟩:=ab_fin hf hc
  obtain⟨s1,s2,lr⟩:=last_reads a0 a1 (by omega) ax;have yb:=fY_bd (fAb f);obtain⟨w0,w1⟩:=exW_bd ax (fX_bd (f:=fAb f)).2 yb.1 ay;have t:=ex_t ax (fX_bd (f:=fAb f)).2 yb.1 ay;have lb:=lg_bd t.1 t.2;have eb:-400≤exE (fX (fAb f)) (fY (fAb f))∧exE (fX (fAb f)) (fY (fAb f))≤400:=by unfold exE;omega
  have AB:=Hj fun w=>abs_f f hf w;have EX:=Hj fun w=>expand_any (fAb f) ⟨by omega,by omega⟩ ax ay w;have SH:=Hj fun g w hc hE=>shortest_any (fAb f) (exW (fX (fAb f)) (fY (fAb f))) (exE (fX (fAb f)) (fY (fAb f))) (exR (fX (fAb f)) (fY (fAb f))) g w w0 w1 eb.1 eb.2 s1 s2 lr hc hE
  have eA:dgA f=shR (fAb f) (exW (fX (fAb f)) (fY (fAb f))) (exE (fX (fAb f)) (fY (fAb f))) (exR (fX (fAb f)) (fY (fAb f))) (Lib.nDigits (exW (fX (fAb f)) (fY (fAb f)))) 17:=by
   unfold dgA;rw[nd_F (by omega)]
  rw[←eA]at SH;have eD:dcD (dgA f).1=dgD f:=by unfold dgD;rw[if_pos hc]
  have eQ:dcE (dgA f).1 (dgA f).2=dgQ f:=by unfold dgQ;rw[if_pos hc]
  rw[eD,eQ]at SH;clear a0 a1 ac ax ay s1 s2 lr yb w0 w1 t lb eb eA eD eQ;generalize (⟨(dgD f).toArray⟩:ByteArray)=d at *;generalize dgQ f=q at *;generalize exW (fX (fAb f)) (fY (fAb f))=W at *;generalize exE (fX (fAb f)) (fY (fAb f))=E at *;generalize exR (fX (fAb f)) (fY (fAb f))=R at *;generalize fAb f=a at *
  have hb:(fC f == 1)=true∨(fC f == 1)=false∧(fC f == 2)=true:=by
   rcases hc with h|h
   ·left;rw[h];rfl
   ·right;rw[h];exact⟨rfl,rfl⟩
  clear hc;generalize fC f=c at *;go_enter Tryz.func130,Tryz.ntmps130;go_wp2_with fail;refine(CL.out _).mono ?_;rintro x w1 ⟨rfl,rfl⟩;rcases hb with h|⟨h,k⟩
  all_goals
   clear CL;go_wp2_with fail;refine(AB.out _).mono ?_;rintro x w2 ⟨rfl,rfl⟩;go_wp2_with fail;refine(EX.out _).mono ?_;rintro x w3 ⟨v3,rfl,rfl,hb3⟩;have cg:w3.cell? ⟨w.heap.size,0,none⟩=some (.int .u64 a):=(Blk.made hb3).cell 0;have HB3:=Hj (bel_trans (bel_alloc (Below.refl w.heap.size w) (.cells #[.int .u64 a] 38)) hb3);clear hb3 EX AB;go_wp2_with fail;refine(SH.out _ _ cg (hE.below HB3.out)).mono ?_;rintro x w4 ⟨v4,rfl,rfl,hb4⟩;have K4:=Blk.new w4 193 #[.string d,.int .i64 q];have HB4:=Hj (bel_alloc (bel_trans HB3.out hb4) (.cells #[.string d,.int .i64 q] 193));clear hb4 HB3 cg SH hE;go_upto_region 6 with fail;obtain⟨w5,hw5⟩:∃v,v=w4.alloc (.cells #[.string d,.int .i64 q] 193):=⟨_,rfl⟩;rw[←hw5]at K4 HB4 ⊢;clear hw5;generalize w4.heap.size=b at *;obtain⟨c0,c1, -, -⟩:=K4.two;have HK:Hid (∀w',Below w5.heap.size w5 w'→(w'.cell? ⟨b,0,none⟩=some (.string d)∧w'.cell? ⟨b,1,none⟩=some (.int .i64 q))):=fun w' hb=>kpd2 hb c0 c1;clear c0 c1
   refine region_plan (S:=fun w'=>w'.cell? ⟨b,0,none⟩=some (.string d)∧w'.cell? ⟨b,1,none⟩=some (.int .i64 q)) _ [(0,true),(1,true),(2,true),(3,true),(4,true),(5,true)] (by kernel_rfl) (by kernel_rfl) rfl (by kernel_rfl) (by kernel_rfl) (fun _ _ d _ _ h=>by cases d<;>exact h) (HK.out _ (bel_drew (Below.refl _ _))) ?_
   iterate 6
    refine Walk.take (v:=?_) rfl (by rfl) ?_ ?_;rotate_left
    ·(intro w' hSw;(try dsimp only at hSw);go_simp<;>with_reducible rfl)
    try simp only[Act.put,List.setIfInBounds_toArray,List.set_cons_zero,List.set_cons_succ]
   refine Walk.done ?_;clear HK;have HB9:=Hj (bel_drew HB4.out);go_wp2_with fail
   go_ret2
   exact⟨rfl,HB9.out⟩
 ·have h1:(fC f == 1)=false:=by simp;omega
  have h2:(fC f == 2)=false:=by simp;omega
  have eD:dgD f=[]:=by unfold dgD;rw[if_neg hc]
  have eQ:dgQ f=0:=by unfold dgQ;rw[if_neg hc]
  rw[eD,eQ];clear hc eD eQ;generalize fC f=c at *;go_enter Tryz.func130,Tryz.ntmps130;go_wp2_with fail;refine(CL.out _).mono ?_;rintro x w1 ⟨rfl,rfl⟩;go_wp2_with fail
  go_ret2
  exact⟨rfl,Below.refl _ _⟩
end Go.Proofs.YthmlhkllbichgaaGreatDoor
