/-
  Whatever program is handed in, CheckChecks answers true. (part 10 of 38) Conditions: none beside what the card ties.
-/
import Derived.Test.YtkbicfffokegeaaGreatDoorCah
import Derived.Test.YtkbicfffokegeaaGreatDoorCai
namespace Go.Proofs.YtkbicfffokegeaaGreatDoor
set_option maxHeartbeats 16000000
open Go.RowKit
set_option maxRecDepth 100000
theorem jJ {a b:Nat}(h:(2:Int) ^ a<2 ^ b):a<b:=by
 rcases Nat.lt_or_ge a b with h1|h1
 ·exact h1
 ·have:=bZ b a h1;omega
theorem aEK {a:Int}{k:Nat}(h0:(2:Int) ^ k≤a)(h1:a<2 ^ (k+1)):bB a=(k:Int)+1:=by
 have hp:=aM k;obtain⟨j,e,hlt,hge,_⟩:=dT (a:=a) (by omega);obtain⟨h2,h3⟩:=hge (by omega);have a1:k<j:=jJ (Int.lt_of_le_of_lt h0 hlt);have a2:j-1<k+1:=jJ (Int.lt_of_le_of_lt h2 h1);rw[e];omega
theorem dV:bB 0=0:=by decide
theorem cZ {a:Int}(h:0<a):∃j:Nat,bB a=(j:Int)+1∧(2:Int) ^ j≤a∧a<2 ^ (j+1):=by
 obtain⟨j,e,hlt,hge,_⟩:=dT (a:=a) (by omega);obtain⟨h2,h3⟩:=hge h;refine⟨j-1,by omega,h2,?_⟩;rw[show j-1+1=j by omega];exact hlt
theorem qZ (a:Int):0≤bB a:=by unfold bB;omega
theorem aCm {a:Int}(h:0<a)(k:Nat):bB (a*2 ^ k)=bB a+k:=by
 obtain⟨j,e,h1,h2⟩:=cZ h;have hp:=aM k
 have a1:(2:Int) ^ (j+k)≤a*2 ^ k:=by
  rw[Int.pow_add];exact Int.mul_le_mul_of_nonneg_right h1 (Int.le_of_lt hp)
 have a2:a*2 ^ k<2 ^ (j+k+1):=by
  rw[show j+k+1=(j+1)+k by omega,Int.pow_add];exact Int.mul_lt_mul_of_pos_right h2 hp
 rw[aEK a1 a2,e];omega
theorem kA {a:Int}(h:0≤a)(k:Nat):bB (a / 2 ^ k)=max (bB a-k) 0:=by
 have hp:=aM k;rcases Int.lt_or_eq_of_le h with h0|h0
 ·obtain⟨j,e,h1,h2⟩:=cZ h0
  by_cases hj:j<k
  ·have:a / 2 ^ k=0:=Int.ediv_eq_zero_of_lt h (Int.lt_of_lt_of_le h2 (bZ _ _ (by omega)))
   rw[this,dV,e];omega
  ·have a1:(2:Int) ^ (j-k)≤a / 2 ^ k:=by
    rw[Int.le_ediv_iff_mul_le hp,←Int.pow_add,show j-k+k=j by omega];exact h1
   have a2:a / 2 ^ k<2 ^ (j-k+1):=by
    rw[Int.ediv_lt_iff_lt_mul hp,←Int.pow_add,show j-k+1+k=j+1 by omega];exact h2
   rw[aEK a1 a2,e];omega
 ·subst h0
  rw[Int.zero_ediv,dV];omega
theorem jZ {a:Int}{k:Nat}(h0:0≤a)(h:a<2 ^ k):bB a≤k:=by
 rcases Int.lt_or_eq_of_le h0 with h0|h0
 ·obtain⟨j,e,h1,h2⟩:=cZ h0
  have:=jJ (Int.lt_of_le_of_lt h1 h);omega
 ·subst h0
  rw[dV];omega
theorem uT {a:Int}{k:Nat}(h0:0≤a)(h:bB a≤k):a<2 ^ k:=by
 rcases Int.lt_or_eq_of_le h0 with h0|h0
 ·obtain⟨j,e,h1,h2⟩:=cZ h0
  exact Int.lt_of_lt_of_le h2 (bZ _ _ (by omega))
 ·subst h0
  exact aM k
theorem fT {y:Int}(b u:Nat):y / 2 ^ (b+u)=y / 2 ^ b / 2 ^ u∧(y % 2 ^ (b+u)≠0↔y % 2 ^ b≠0∨y / 2 ^ b % 2 ^ u≠0):=by
 have hb:=aM b;have hu:=aM u;have e1:y / 2 ^ (b+u)=y / 2 ^ b / 2 ^ u:=by rw[Int.pow_add,Int.ediv_ediv_of_nonneg (Int.le_of_lt hb)]
 refine⟨e1,?_⟩;have d1:=Int.mul_ediv_add_emod y (2 ^ b);have d2:=Int.mul_ediv_add_emod (y / 2 ^ b) (2 ^ u);have d3:=Int.mul_ediv_add_emod y (2 ^ (b+u));have n1:=Int.emod_nonneg y (Int.ne_of_gt hb);have n2:=Int.emod_nonneg (y / 2 ^ b) (Int.ne_of_gt hu);rw[e1,Int.pow_add,Int.mul_assoc]at d3;rw[Int.pow_add]
 have e:y % (2 ^ b*2 ^ u)=2 ^ b*(y / 2 ^ b % 2 ^ u)+y % 2 ^ b:=by
  rw[←d2,Int.mul_add]at d1;omega
 rw[e];have n3:0≤(2:Int) ^ b*(y / 2 ^ b % 2 ^ u):=Int.mul_nonneg (Int.le_of_lt hb) n2;constructor
 ·intro h
  by_cases h1:y % 2 ^ b=0
  ·right
   intro h2;rw[h1,h2]at h
   simp at h
  ·exact .inl h1
 ·rintro(h|h) h2
  ·omega
  ·have:(2:Int) ^ b*(y / 2 ^ b % 2 ^ u)=0:=by omega
   rcases Int.mul_eq_zero.1 this with h3|h3
   ·omega
   ·exact h h3
def rU (n:Int):Nat:=(bB (n / 2)-53).toNat
def rW (n:Int):Int:=n / 2 ^ (rU n+1)
def rH (n:Int):Bool:=decide (n / 2 ^ rU n % 2=1)
def rB (n:Int)(s:Bool):Bool:=decide (n % 2 ^ rU n≠0) || s
def rX (n:Int)(s:Bool):Bool:=!rH n && !rB n s
def cL (md:Int)(neg:Bool)(n:Int)(s:Bool):Bool:=
 if md=1 then !neg && !rX n s else if md=2 then neg && !rX n s else rH n && (rB n s || decide (rW n % 2=1))
def b2i (b:Bool):Int:=if b then 1 else 0
theorem xP (b:Bool):0≤b2i b∧b2i b≤1:=by cases b<;>decide
def kU (md:Int)(neg:Bool)(n:Int)(s:Bool):Int:=(rU n:Int)*4503599627370496+rW n+b2i (cL md neg n s)
def gA (md:Int)(neg:Bool):Int:=if(neg=true∧md=1)∨(neg=false∧md=2)then 9218868437227405311 else 9218868437227405312
def iH (md:Int)(neg:Bool)(n:Int)(s:Bool):Int:=if kU md neg n s≤9218868437227405311 then kU md neg n s else gA md neg
def rF (md:Int)(neg:Bool)(n:Int)(s:Bool):Int:=iH md neg n s+sg neg
def rG (md:Int)(neg:Bool)(n:Int)(s:Bool):Int:=if kU md neg n s≤9218868437227405311 then(if rX n s then 0 else if rW n<4503599627370496 then 3 else 1)else 5
theorem lB {n:Int}(h:0≤n):0≤rW n∧rW n<9007199254740992∧(0<rU n→4503599627370496≤rW n):=by
 have hp:=aM (rU n+1);have h2:0≤n / 2:=by omega
 have e:rW n=n / 2 / 2 ^ rU n:=by
  unfold rW;rw[Nat.add_comm,Int.pow_add,←Int.ediv_ediv_of_nonneg (by decide)];rfl
 have hb:=kA h2 (rU n);have hn:=qZ (n / 2);rw[←e]at hb;have h0:0≤rW n:=Int.ediv_nonneg h (Int.le_of_lt hp);refine⟨h0,?_,fun hu=>?_⟩
 ·have:=uT (k:=53) h0 (by unfold rU at hb;omega)
  exact this
 ·have h3:bB (rW n)=53:=by unfold rU at hb hu;omega
  rcases Int.lt_or_eq_of_le h0 with h4|h4
  ·obtain⟨j,e1,e2,e3⟩:=cZ h4
   have:j=52:=by omega
   subst this;exact e2
  ·rw[←h4,dV]at h3
   omega
theorem aJy {md n:Int}{neg s:Bool}(h:0≤n):0≤kU md neg n s:=by
 have:=(lB h).1;have:=xP (cL md neg n s);unfold kU;omega
theorem nR {md n:Int}{neg s:Bool}(h:0≤n):0≤iH md neg n s∧iH md neg n s≤9218868437227405312:=by
 have:=aJy (md:=md) (neg:=neg) (s:=s) h;unfold iH gA;split
 ·omega
 ·split<;>omega
theorem aJz {md n:Int}{neg s:Bool}(h:0≤n):bC (rF md neg n s):=by
 have:=nR (md:=md) (neg:=neg) (s:=s) h;have:=aKL neg;unfold rF
 constructor<;>omega
theorem aMN {md n n':Int}{neg s s':Bool}(h1:rU n=rU n')(h2:rW n=rW n')(h3:rH n=rH n')(h4:rB n s=rB n' s'):rF md neg n s=rF md neg n' s'∧rG md neg n s=rG md neg n' s':=by
 have hx:rX n s=rX n' s':=by unfold rX;rw[h3,h4]
 have ha:cL md neg n s=cL md neg n' s':=by unfold cL;rw[hx,h2,h3,h4]
 have hk:kU md neg n s=kU md neg n' s':=by unfold kU;rw[h1,h2,ha]
 constructor
 ·unfold rF iH;rw[hk]
 ·unfold rG;rw[hk,hx,h2]
def rN (m:Int)(p q:Nat):Int:=m*2 ^ p / 2 ^ q
def rS (m:Int)(p q:Nat)(r:Bool):Bool:=decide (m*2 ^ p % 2 ^ q≠0) || r
theorem aKN {m:Int}(h:0≤m)(p q:Nat):0≤rN m p q:=Int.ediv_nonneg (Int.mul_nonneg h (Int.le_of_lt (aM _))) (Int.le_of_lt (aM _))
theorem aEd {m:Int}(h:0<m)(p q:Nat):bB (rN m p q / 2)=max (bB m+p-q-1) 0:=by
 have e:rN m p q / 2=m*2 ^ p / 2 ^ (q+1):=by
  rw[(fT q 1).1];rfl
 rw[e,kA (Int.mul_nonneg (Int.le_of_lt h) (Int.le_of_lt (aM _))),aCm h];omega
theorem aMO {m:Int}(h:0<m)(p q:Nat):(rU (rN m p q):Int)=max (bB m+p-q-54) 0:=by
 unfold rU;rw[aEd h];have:=qZ m;omega
theorem aLB {m:Int}(p q d:Nat)(r:Bool)(hd:q+rU (rN m p q)=p+d) :
  rW (rN m p q)=m / 2 ^ d / 2∧rH (rN m p q)=decide (m / 2 ^ d % 2=1)∧rB (rN m p q) (rS m p q r)=(decide (m % 2 ^ d≠0) || r):=by
 have hp:=aM p;obtain⟨l1,l2⟩:=fT (y:=m * 2 ^ p) q (rU (rN m p q))
 have e1:m*2 ^ p / 2 ^ (q+rU (rN m p q))=m / 2 ^ d:=by
  rw[hd,Nat.add_comm,Int.pow_add,Int.mul_ediv_mul_of_pos_left _ _ hp]
 have e2:m*2 ^ p % 2 ^ (q+rU (rN m p q))=2 ^ p*(m % 2 ^ d):=by
  rw[hd,Int.pow_add,Int.mul_comm m,Int.mul_emod_mul_of_pos _ _ hp]
 have e3:rN m p q / 2 ^ rU (rN m p q)=m / 2 ^ d:=by rw[←e1,l1];rfl
 refine⟨?_,?_,?_⟩
 ·unfold rW
  rw[(fT (rU (rN m p q)) 1).1,e3];rfl
 ·unfold rH
  rw[e3]
 ·unfold rB rS
  rw[←Bool.or_assoc]
  congr 1
  rw[Bool.eq_iff_iff];simp only[Bool.or_eq_true,decide_eq_true_eq];rw[e2]at l2;rw[show(m*2 ^ p / 2 ^ q)=rN m p q by rfl]at l2;constructor
  ·intro h h2
   have:=l2.2 (h.symm);rw[h2]at this
   simp at this
  ·intro h
   refine(l2.1 fun h2=>?_).symm;rcases Int.mul_eq_zero.1 h2 with h3|h3
   ·omega
   ·exact h h3
theorem aGW {m:Int}(p q k:Nat)(hd:q+rU (rN m p q)+1+k=p) :
  rW (rN m p q)=m*2 ^ k∧rH (rN m p q)=false∧rB (rN m p q) (rS m p q false)=false:=by
 have hp:=aM (q+rU (rN m p q));have hq:=aM q
 have e0:m*2 ^ p=m*2 ^ k*2*2 ^ (q+rU (rN m p q)):=by
  conv=>lhs;rw[←hd]
  rw[show q+rU (rN m p q)+1+k=k+(1+(q+rU (rN m p q))) by omega,Int.pow_add,Int.pow_add 2 1,Int.mul_assoc,Int.mul_assoc];rfl
 obtain⟨l1,l2⟩:=fT (y:=m * 2 ^ p) q (rU (rN m p q))
 have e1:m*2 ^ p / 2 ^ (q+rU (rN m p q))=m*2 ^ k*2:=by
  rw[e0,Int.mul_ediv_cancel _ (Int.ne_of_gt hp)]
 have e2:m*2 ^ p % 2 ^ (q+rU (rN m p q))=0:=by
  rw[e0];exact Int.mul_emod_left _ _
 have e3:rN m p q / 2 ^ rU (rN m p q)=m*2 ^ k*2:=by rw[←e1,l1];rfl
 rw[e2]at l2;refine⟨?_,?_,?_⟩
 ·unfold rW
  rw[(fT (rU (rN m p q)) 1).1,e3];omega
 ·unfold rH
  rw[e3]
  simp
 ·unfold rB rS
  rw[Bool.or_false];simp only[ne_eq,not_true_eq_false,false_iff,not_or,Decidable.not_not]at l2;rw[show(m*2 ^ p / 2 ^ q)=rN m p q by rfl]at l2
  simp[l2.1,l2.2]
def aX (H B:Bool):Bool:=!H && !B
def aw (md:Int)(neg:Bool)(W:Int)(H B:Bool):Bool:=if md=1 then !neg && !aX H B else if md=2 then neg && !aX H B else H && (B || decide (W % 2=1))
theorem jG (s:Bool)(e m:Int)(hm:bC m)(h:aDn e m)(w:World):Calls Tryz.prog 156 #[.bool s,.int .i64 e,.int .u64 m] w fun x w'=>x=.returned (.int .u64 (mkF s e m))∧w=w':=by
 go_enter Tryz.func156,Tryz.ntmps156;go_wp2_with fail;refine(aFv s e m hm h _).mono ?_;rintro e w1 ⟨rfl,rfl⟩;go_wp2_with fail;go_ret;exact⟨rfl,rfl⟩
theorem lN (W:Int)(H B:Bool)(w:World):Calls Tryz.prog 186 #[.agg #[.int .u64 W,.bool H,.bool B]] w fun x w'=>x=.returned (.bool (aX H B))∧Below w.heap.size w w':=by
 cases H<;>cases B
 all_goals
  go_enter Tryz.func186,Tryz.ntmps186;go_wp2_with fail;go_ret;exact⟨rfl,aI (Below.refl _ _) _⟩
theorem aFF (W:Int)(H B:Bool)(t:Int)(w:World):Calls Tryz.prog 161 #[.agg #[.int .u64 W,.bool H,.bool B],.int .i64 t] w fun x w'=>x=.returned (.int .u8 (if aX H B then 0 else if t ≤ -1022 then 3 else 1))∧Below w.heap.size w w':=by
 cases hx:aX H B
 ·by_cases ht:t ≤ -1022
  ·go_enter Tryz.func161,Tryz.ntmps161
   go_wp2_with fail;refine(lN W H B _).mono ?_;rintro e w1 ⟨rfl,hb⟩;rw[hx];go_wp2_with fail;go_ret;exact⟨aW (by simp),aG (aI (Below.refl _ _) _) hb⟩
  ·go_enter Tryz.func161,Tryz.ntmps161
   go_wp2_with fail;refine(lN W H B _).mono ?_;rintro e w1 ⟨rfl,hb⟩;rw[hx];go_wp2_with fail;go_ret;exact⟨aW (by simp),aG (aI (Below.refl _ _) _) hb⟩
 ·go_enter Tryz.func161,Tryz.ntmps161
  go_wp2_with fail;refine(lN W H B _).mono ?_;rintro e w1 ⟨rfl,hb⟩;rw[hx];go_wp2_with fail;go_ret;exact⟨aW (by simp),aG (aI (Below.refl _ _) _) hb⟩
theorem aNj {f:Int}(h:bC f):bits BinOp.and IntKind.u64 f 1=f % 2:=by
 obtain⟨h0,h1⟩:=h;obtain⟨k,rfl⟩:=Int.eq_ofNat_of_zero_le h0;refine(bits_and_u64_nat k 1 (by omega) (by omega)).trans ?_;rw[show(1:Nat)=2 ^ 1-1 by decide,Nat.and_two_pow_sub_one_eq_mod];omega
theorem aBt (W:Int)(H B:Bool)(neg:Bool)(md:Int)(hW:bC W)(hW':W<9007199254740992)(w:World):Calls Tryz.prog 159 #[.agg #[.int .u64 W,.bool H,.bool B],.bool neg,.int .u8 md] w fun x w'=>x=.returned (.int .u64 (W+b2i (aw md neg W H B)))∧Below w.heap.size w w':=by
 have WR:Hid (IntKind.u64.wrap (W+1)=W+1):=by show _=_;rw[IntKind.wrap_u64];have:=hW.1;omega
 by_cases h1:md=1
 ·subst h1
  have F:Hid (aw 1 neg W H B=(!neg && !aX H B)):=by show _=_;simp[aw]
  cases neg
  ·cases hx:aX H B
   all_goals
    go_enter Tryz.func159,Tryz.ntmps159;go_wp2_with fail;refine(lN W H B _).mono ?_;rintro e w1 ⟨rfl,hb⟩;rw[hx];have c0:=hb.cell (p:=⟨w.heap.size,0,none⟩) (by simp)
    simp[go_sem]at c0
    go_wp2_with fail;go_ret;exact⟨aW (by rw[F.out,hx];first|exact(Int.add_zero W).symm|exact WR.out),aG (aI (Below.refl _ _) _) hb⟩
  ·go_enter Tryz.func159,Tryz.ntmps159
   go_wp2_with fail;go_ret;exact⟨aW (by rw[F.out];exact(Int.add_zero W).symm),aI (Below.refl _ _) _⟩
 ·by_cases h2:md=2
  ·subst h2
   have F:Hid (aw 2 neg W H B=(neg && !aX H B)):=by show _=_;simp[aw]
   cases neg
   ·go_enter Tryz.func159,Tryz.ntmps159
    go_wp2_with fail;go_ret;exact⟨aW (by rw[F.out];exact(Int.add_zero W).symm),aI (Below.refl _ _) _⟩
   ·cases hx:aX H B
    all_goals
     go_enter Tryz.func159,Tryz.ntmps159;go_wp2_with fail;refine(lN W H B _).mono ?_;rintro e w1 ⟨rfl,hb⟩;rw[hx];have c0:=hb.cell (p:=⟨w.heap.size,0,none⟩) (by simp)
     simp[go_sem]at c0
     go_wp2_with fail;go_ret;exact⟨aW (by rw[F.out,hx];first|exact(Int.add_zero W).symm|exact WR.out),aG (aI (Below.refl _ _) _) hb⟩
  ·have F:Hid (aw md neg W H B=(H && (B || decide (W % 2=1)))):=by show _=_;simp[aw,h1,h2]
   have f1:(md == 1)=false:=by simp[h1]
   have f2:(md == 2)=false:=by simp[h2]
   have A:=aNj hW
   by_cases hp:W % 2=1
   ·have A':(bits BinOp.and IntKind.u64 W 1 == 1)=true:=by rw[A,hp];rfl
    cases H<;>cases B
    all_goals
     go_enter Tryz.func159,Tryz.ntmps159;go_wp2_with fail;go_ret;exact⟨aW (by rw[F.out,decide_eq_true hp];first|exact(Int.add_zero W).symm|exact WR.out),aI (Below.refl _ _) _⟩
   ·have A':(bits BinOp.and IntKind.u64 W 1 == 1)=false:=by rw[A];simp[hp]
    cases H<;>cases B
    all_goals
     go_enter Tryz.func159,Tryz.ntmps159;go_wp2_with fail;go_ret;exact⟨aW (by rw[F.out,decide_eq_false hp];first|exact(Int.add_zero W).symm|exact WR.out),aI (Below.refl _ _) _⟩
theorem aDC (W u:Int)(hW:bC W)(hW':W≤9007199254740992)(h0:-1074≤u)(h1:u≤10000)(w:World):Calls Tryz.prog 158 #[.int .u64 W,.int .i64 u] w fun x w'=>x=.returned (.tuple #[.int .i64 (u+1074+W / 4503599627370496),.int .u64 (W % 4503599627370496)])∧w=w':=by
 have h2:0≤W / 4503599627370496∧W / 4503599627370496≤2:=by have:=hW.1;omega
 have A:=aIT hW;have E:wrap64 (W / 4503599627370496)=W / 4503599627370496:=wrap64_in (by omega) (by omega);go_enter Tryz.func158,Tryz.ntmps158;go_wp2_with fail
 go_ret2
 exact⟨rfl,rfl⟩
theorem aDK (neg:Bool)(md:Int)(w:World):Calls Tryz.prog 160 #[.bool neg,.int .u8 md] w fun x w'=>x=.returned (.int .u64 (gA md neg+sg neg))∧w=w':=by
 cases neg
 ·by_cases h:md=2
  ·subst h
   go_enter Tryz.func160,Tryz.ntmps160;go_wp2_with fail;refine(jG false 2046 4503599627370495 ⟨by decide,by decide⟩ ⟨by decide,by decide,by decide⟩ _).mono ?_;rintro e w1 ⟨rfl,rfl⟩;go_wp2_with fail;go_ret;exact⟨aW (by decide),rfl⟩
  ·have f:(md == 2)=false:=by simp[h]
   go_enter Tryz.func160,Tryz.ntmps160;go_wp2_with fail;refine(aKU false _).mono ?_;rintro e w1 ⟨rfl,rfl⟩;go_wp2_with fail;go_ret;exact⟨aW (by simp[gA,h]),rfl⟩
 ·by_cases h:md=1
  ·subst h
   go_enter Tryz.func160,Tryz.ntmps160;go_wp2_with fail;refine(jG true 2046 4503599627370495 ⟨by decide,by decide⟩ ⟨by decide,by decide,by decide⟩ _).mono ?_;rintro e w1 ⟨rfl,rfl⟩;go_wp2_with fail;go_ret;exact⟨aW (by decide),rfl⟩
  ·have f:(md == 1)=false:=by simp[h]
   go_enter Tryz.func160,Tryz.ntmps160;go_wp2_with fail;refine(aKU true _).mono ?_;rintro e w1 ⟨rfl,rfl⟩;go_wp2_with fail;go_ret;exact⟨aW (by simp[gA,h]),rfl⟩
theorem aBM {h l n:Int}(h1:bC h)(h2:bC l)(e:V2 h l=n)(hn:n<18446744073709551616):l=n:=by
 obtain⟨_,_⟩:=h1;obtain⟨_,_⟩:=h2;unfold V2 at e;omega
theorem aDO {h l:Int}(w1:bC h)(w2:bC l):0≤V2 h l∧V2 h l<340282366920938463463374607431768211456:=by
 obtain⟨_,_⟩:=w1;obtain⟨_,_⟩:=w2;unfold V2
 constructor<;>omega
theorem aGy {m:Int}{k:Nat}(h0:0≤m)(h:m*2 ^ k<18446744073709551616):aBo m k=m*2 ^ k:=by
 have:=Int.mul_nonneg h0 (Int.le_of_lt (aM k));unfold aBo;omega
theorem aMt (h l n:Int)(r:Bool)(h1:bC h)(h2:bC l)(hn:n≤0)(hn':-100000≤n)(hf:V2 h l*2 ^ (-n).toNat<18446744073709551616)(w:World) :
  Calls Tryz.prog 157 #[.agg #[.int .u64 h,.int .u64 l],.int .i64 n,.bool r] w fun x w'=>x=.returned (.agg #[.int .u64 (V2 h l*2 ^ (-n).toNat),.bool false,.bool false])∧Below w.heap.size w w':=by
 have HF:Hid (V2 h l*2 ^ (-n).toNat<18446744073709551616):=hf;clear hf;go_enter Tryz.func157,Tryz.ntmps157;go_wp2_with fail;refine(aNy h l (-n) h1 h2 (by omega) _).mono ?_;rintro e w2 ⟨v,⟨h',l',wh,wl,hv,rfl⟩,rfl,hb2⟩;rw[aGy (aDO h1 h2).1 HF.out]at hv;have hl:=aBM wh wl hv HF.out;have HV:=Hj hl;clear hv hl;have hb:=hb2;have r0:=hb.cell (p:=⟨w.heap.size+1,0,none⟩) (by simp);have r1:=hb.cell (p:=⟨w.heap.size+1,1,none⟩) (by simp);have r2:=hb.cell (p:=⟨w.heap.size+1,2,none⟩) (by simp);have f0:=hb.frozen (p:=⟨w.heap.size+1,0,none⟩) (by simp);have f1:=hb.frozen (p:=⟨w.heap.size+1,1,none⟩) (by simp);have f2:=hb.frozen (p:=⟨w.heap.size+1,2,none⟩) (by simp)
 simp[go_sem]at r0 r1 r2 f0 f1 f2
 have HB:=Hj hb;clear hb hb2;have hfd:∀w:World,(Instr.field 183 (.agg #[.int .u64 h',.int .u64 l']) 1).run Tryz.prog w=.ok (.int .u64 l') w:=fun _=>by kernel_rfl
 go_wp2
 refine bodyPost_ret (by simp[results,Tryz.results157,go_sem,r0,r1,r2];rfl) rfl ⟨by rw[←HV.out],?_⟩;exact dQ (dQ (dQ (aG (aI (aI (Below.refl _ _) _) _) HB.out) (by simp) _) (by simp) _) (by simp) _
theorem aFN (h l n X:Int)(r lo:Bool)(h1:bC h)(h2:bC l)(hn:0<n)(hn':n≤100000)(hX:V2 h l / 2 ^ (n-1).toNat=X)(hlo:decide (V2 h l % 2 ^ (n-1).toNat≠0)=lo)(hf:X<18446744073709551616)(w:World) :
  Calls Tryz.prog 157 #[.agg #[.int .u64 h,.int .u64 l],.int .i64 n,.bool r] w fun x w'=>x=.returned (.agg #[.int .u64 (X / 2),.bool (decide (X % 2=1)),.bool (lo || r)])∧Below w.heap.size w w':=by
 have S:=aNw h l (n-1) h1 h2 (by omega);unfold aDR at S;rw[hX,hlo]at S;have S':=Hj S;clear S hX hlo;go_enter Tryz.func157,Tryz.ntmps157;go_wp2_with fail;refine(S'.out _).mono ?_;rintro e w2 ⟨v,⟨h',l',wh,wl,hv,rfl⟩,rfl,hb2⟩;have hl:=aBM wh wl hv hf;subst hl;clear hv;have hb:=aI hb2 (.cells #[.int .u64 h',.int .u64 l'] 183);have r0:=hb.cell (p:=⟨w.heap.size+1,0,none⟩) (by simp);have r1:=hb.cell (p:=⟨w.heap.size+1,1,none⟩) (by simp);have r2:=hb.cell (p:=⟨w.heap.size+1,2,none⟩) (by simp);have f0:=hb.frozen (p:=⟨w.heap.size+1,0,none⟩) (by simp);have f1:=hb.frozen (p:=⟨w.heap.size+1,1,none⟩) (by simp);have f2:=hb.frozen (p:=⟨w.heap.size+1,2,none⟩) (by simp)
 simp[go_sem]at r0 r1 r2 f0 f1 f2
 have HB:=Hj hb
 have A:(bits BinOp.and IntKind.u64 l' 1 == 1)=decide (l' % 2=1):=by
  rw[aNj wl,Bool.eq_iff_iff]
  simp
 clear hb hb2 S';cases lo
 iterate 2
  ·go_wp2
   refine bodyPost_ret (by simp[results,Tryz.results157,go_sem,r0,r1,r2]) rfl ⟨rfl,?_⟩;exact dQ (dQ (dQ (aG (aI (aI (Below.refl _ _) _) _) HB.out) (by simp) _) (by simp) _) (by simp) _
theorem aID (h l:Int)(d:Nat)(r:Bool)(h1:bC h)(h2:bC l)(hn':d<100000)(hf:V2 h l / 2 ^ d<18446744073709551616)(w:World) :
  Calls Tryz.prog 157 #[.agg #[.int .u64 h,.int .u64 l],.int .i64 ((d:Int)+1),.bool r] w fun x w'=>x=.returned (.agg #[.int .u64 (V2 h l / 2 ^ d / 2),.bool (decide (V2 h l / 2 ^ d % 2=1)),.bool (decide (V2 h l % 2 ^ d≠0) || r)])∧Below w.heap.size w w':=by
 have e:((d:Int)+1-1).toNat=d:=by omega
 have:=aFN h l ((d:Int)+1) _ r _ h1 h2 (by omega) (by omega) (by rw[e]) (by rw[e]) hf w;exact this
def eP (e:Int):Nat:=(e+1075).toNat
def eQ (e:Int):Nat:=(-(e+1075)).toNat
theorem eu {m e:Int}(hm:0<m):(rU (rN m (eP e) (eQ e)):Int)=max (bB m+e-53) (-1074)+1074:=by
 rw[aMO hm];unfold eP eQ;omega
theorem aKq (h l e:Int)(r:Bool)(h1:bC h)(h2:bC l)(hm:0<V2 h l)(he:-5000≤e∧e≤5000)(hr:r=true→54≤bB (V2 h l))(w:World) :
  Calls Tryz.prog 157 #[.agg #[.int .u64 h,.int .u64 l],.int .i64 (max (bB (V2 h l)+e-53) (-1074)-e),.bool r] w fun x w'=>x=.returned (.agg #[.int .u64 (rW (rN (V2 h l) (eP e) (eQ e))),.bool (rH (rN (V2 h l) (eP e) (eQ e))),.bool (rB (rN (V2 h l) (eP e) (eQ e)) (rS (V2 h l) (eP e) (eQ e) r))])∧Below w.heap.size w w':=by
 have hu:=eu (e:=e) hm;have hb:=jZ (k:=128) (Int.le_of_lt hm) (by have:=(aDO h1 h2).2;exact this);have hb1:1≤bB (V2 h l):=by obtain⟨j,e1,_,_⟩:=cZ hm;omega
 have hlt:=uT (a:=V2 h l) (k:=(bB (V2 h l)).toNat) (Int.le_of_lt hm) (by omega);have hpq:(eP e:Int)-eQ e=e+1075:=by unfold eP eQ;omega
 by_cases hn:max (bB (V2 h l)+e-53) (-1074)-e≤0
 ·have hr':r=false:=by
   cases r
   ·rfl
   ·have:=hr rfl;omega
  subst hr';obtain⟨k1,k2,k3⟩:=aGW (m:=V2 h l) (eP e) (eQ e) (-(max (bB (V2 h l)+e - 53) (-1074) - e)).toNat (by omega);rw[k1,k2,k3];refine aMt h l _ false h1 h2 hn (by omega) ?_ w;have a1:V2 h l*2 ^ (-(max (bB (V2 h l)+e-53) (-1074)-e)).toNat<2 ^ (bB (V2 h l)).toNat*2 ^ (-(max (bB (V2 h l)+e-53) (-1074)-e)).toNat:=Int.mul_lt_mul_of_pos_right hlt (aM _);rw[←Int.pow_add]at a1;have a2:=bZ ((bB (V2 h l)).toNat+(-(max (bB (V2 h l)+e-53) (-1074)-e)).toNat) 64 (by omega);exact Int.lt_of_lt_of_le a1 a2
 ·obtain⟨d,hd⟩:∃d:Nat,max (bB (V2 h l)+e - 53) (-1074) - e=(d:Int)+1:=⟨(max (bB (V2 h l)+e - 53) (-1074) - e - 1).toNat,by omega⟩
  obtain⟨k1,k2,k3⟩:=aLB (m:=V2 h l) (eP e) (eQ e) d r (by omega);rw[k1,k2,k3,hd];refine aID h l d r h1 h2 (by omega) ?_ w;rw[Int.ediv_lt_iff_lt_mul (aM _),show(18446744073709551616:Int)=2 ^ 64 by decide,←Int.pow_add];exact Int.lt_of_lt_of_le hlt (bZ _ _ (by omega))
theorem aJx {n:Int}(h:0≤n):bB (rW n)=min (bB (n / 2)) 53:=by
 have e:rW n=n / 2 / 2 ^ rU n:=by
  unfold rW;rw[Nat.add_comm,Int.pow_add,←Int.ediv_ediv_of_nonneg (by decide)];rfl
 have hb:=kA (a:=n / 2) (by omega) (rU n);have:=qZ (n / 2);rw[←e]at hb;rw[hb];unfold rU;omega
theorem aBA {n:Int}(h:0≤n):rW n<4503599627370496↔bB (n / 2)≤52:=by
 have hb:=aJx h;have h0:=(lB h).1;constructor
 ·intro h1
  have:=jZ (k:=52) h0 h1;omega
 ·intro h1
  exact uT (k:=52) h0 (by omega)
theorem aEe (md:Int)(neg:Bool)(n:Int)(s:Bool):kU md neg n s=(rU n:Int)*4503599627370496+(rW n+b2i (aw md neg (rW n) (rH n) (rB n s))):=by
 unfold kU;rw[Int.add_assoc];rfl
theorem aIl {md n U R:Int}{neg s:Bool}(hU:(rU n:Int)=U+1074)(hR:R=rW n+b2i (aw md neg (rW n) (rH n) (rB n s)))(hk:U+1074+R / 4503599627370496≤2046) :
  mkF neg (U+1074+R / 4503599627370496) (R % 4503599627370496)=rF md neg n s∧kU md neg n s≤9218868437227405311:=by
 have e:=aEe md neg n s;rw[←hR,hU]at e;have hle:kU md neg n s≤9218868437227405311:=by omega
 refine⟨?_,hle⟩;unfold mkF rF iH;rw[if_pos hle,e];omega
theorem aKg {md n U R:Int}{neg s:Bool}(hU:(rU n:Int)=U+1074)(hR:R=rW n+b2i (aw md neg (rW n) (rH n) (rB n s)))(hk:¬U+1074+R / 4503599627370496≤2046) :
  gA md neg+sg neg=rF md neg n s∧rG md neg n s=5:=by
 have e:=aEe md neg n s;rw[←hR,hU]at e;have hle:¬kU md neg n s≤9218868437227405311:=by omega
 unfold rF iH rG;rw[if_neg hle,if_neg hle];exact⟨rfl,rfl⟩
theorem aIm {md n t:Int}{neg s:Bool}(hw:rW n<4503599627370496↔t ≤ -1022)(hk:kU md neg n s≤9218868437227405311) :
  (if aX (rH n) (rB n s) then(0:Int)else if t ≤ -1022 then 3 else 1)=rG md neg n s:=by
 unfold rG;rw[if_pos hk];simp only[hw];rfl
theorem bO {k1 k2:IntKind}{a b c d:Int}(h1:a=c)(h2:b=d):Ending.returned (.tuple #[.int k1 a,.int k2 b])=.returned (.tuple #[.int k1 c,.int k2 d]):=by rw[h1,h2]
theorem aNE {W w1:World}{p0 p1 p2:Addr}{a0 a1 a2:Value}(hb:Below W.heap.size W w1)(h0:W.cell? p0=some a0)(h1:W.cell? p1=some a1)(h2:W.cell? p2=some a2) :
  w1.cell? p0=some a0∧w1.cell? p1=some a1∧w1.cell? p2=some a2:=
 ⟨uE hb h0,uE hb h1,uE hb h2⟩
def eC (e:Int):Int:=min (max e (-5000)) 5000
theorem aIv (e:Int):-5000≤eC e∧eC e≤5000:=by unfold eC;omega
theorem aCX (neg:Bool)(e:Int)(r:Bool)(md:Int)(w:World) :
  Calls Tryz.prog 130 #[.bool neg,.agg #[.int .u64 0,.int .u64 0],.int .i64 e,.bool r,.int .u8 md] w fun x w'=>x=.returned (.tuple #[.int .u64 (sg neg),.int .u8 0])∧Below w.heap.size w w':=by
 go_enter Tryz.func130,Tryz.ntmps130;go_wp2_with fail;refine(aMV 0 0 ⟨by decide,by decide⟩ ⟨by decide,by decide⟩ _).mono ?_;rintro x w1 ⟨rfl,hb⟩;rw[show bB (V2 0 0)=0 by decide];go_wp2_with fail;refine(jG neg 0 0 ⟨by decide,by decide⟩ ⟨by decide,by decide,by decide⟩ _).mono ?_;rintro x w2 ⟨rfl,rfl⟩;go_wp2_with fail
 go_ret2
 refine⟨?_,aG (aI (Below.refl _ _) _) hb⟩;cases neg<;>rfl
theorem rV (neg:Bool)(h l e:Int)(r:Bool)(md:Int)(h1:bC h)(h2:bC l)(hm:0<V2 h l)(w:World)(n:Int)(s:Bool)(hn:n=rN (V2 h l) (eP (eC e)) (eQ (eC e)))(hs:s=rS (V2 h l) (eP (eC e)) (eQ (eC e)) (r && decide (54≤bB (V2 h l)))) :
  Calls Tryz.prog 130 #[.bool neg,.agg #[.int .u64 h,.int .u64 l],.int .i64 e,.bool r,.int .u8 md] w fun x w'=>x=.returned (.tuple #[.int .u64 (rF md neg n s),.int .u8 (rG md neg n s)])∧Below w.heap.size w w':=by
 have hb1:1≤bB (V2 h l):=by obtain⟨j,e1,_,_⟩:=cZ hm;omega
 have hb2:=jZ (k:=128) (Int.le_of_lt hm) (by have:=(aDO h1 h2).2;exact this);have hu:=eu (e:=eC e) hm;rw[←hn]at hu;have C:=aKq h l (eC e) (r && decide (54≤bB (V2 h l))) h1 h2 hm (aIv e) (by intro h;simp at h;exact h.2);rw[←hn,←hs]at C;have hn0:0≤n:=by rw[hn];exact aKN (Int.le_of_lt hm) _ _
 have LE:=aMV h l h1 h2
 have HW:rW n<4503599627370496↔bB (V2 h l)+eC e ≤ -1022:=by
  rw[aBA hn0,hn,aEd hm];unfold eP eQ;omega
 generalize bB (V2 h l)=b at *;have hC:=aIv e;have e0:min (max e (-5000)) 5000=eC e:=rfl;generalize eC e=E at *;obtain⟨w0,w1',w2⟩:=lB hn0;go_enter Tryz.func130,Tryz.ntmps130;go_wp2_with fail;refine(LE _).mono ?_;rintro x w1 ⟨rfl,hb⟩;have z0:(b == 0)=false:=by simp;omega
 have c0:=hb.cell (p:=⟨w.heap.size,0,none⟩) (by simp);have c1:=hb.cell (p:=⟨w.heap.size,1,none⟩) (by simp)
 simp[go_sem]at c0 c1
 have CC:Hid (∀w:World,
  Calls Tryz.prog 157 #[.agg #[.int .u64 h,.int .u64 l],.int .i64 (max (b+E-53) (-1074)-E),.bool (r && decide (54≤b))] w fun x w'=>x=.returned (.agg #[.int .u64 (rW n),.bool (rH n),.bool (rB n s)])∧Below w.heap.size w w'):=C
 clear C LE hn hs;have tk:decide (53<b)=decide (54≤b):=by rw[Bool.eq_iff_iff];simp;omega
 have hw:Hid (rW n<4503599627370496↔b+E ≤ -1022):=HW;clear HW;have hw0:Hid (0≤rW n∧rW n<9007199254740992):=⟨w0,w1'⟩;clear w0 w1' w2;generalize hU:max (b+E-53) (-1074)=U at *;have hU':-1074≤U∧U≤5080:=by omega
 have HU:=Hj hu;clear hu;cases r
 all_goals
  go_wp2_with fail;refine(CC.out _).mono ?_;rintro x w3 ⟨rfl,hb3⟩;go_wp2_with fail;refine(aBt _ _ _ neg md ⟨hw0.out.1,by have:=hw0.out.2;omega⟩ hw0.out.2 _).mono ?_;rintro x w4 ⟨rfl,hb4⟩;have d0:=hb4.cell (p:=⟨w3.heap.size,0,none⟩) (by simp);have d1:=hb4.cell (p:=⟨w3.heap.size,1,none⟩) (by simp);have d2:=hb4.cell (p:=⟨w3.heap.size,2,none⟩) (by simp)
  simp[go_sem]at d0 d1 d2
  have HB:=Hj (aG (aI (aG (aI (Below.refl w.heap.size w) _) (aG hb hb3)) _) hb4);clear hb hb3 hb4 CC;obtain⟨R,hR⟩:∃R,R=rW n+b2i (aw md neg (rW n) (rH n) (rB n s)):=⟨_,rfl⟩;have hR1:0≤R∧R≤9007199254740992:=by have:=hw0.out;have:=xP (aw md neg (rW n) (rH n) (rB n s));omega
  rw[←hR];have HR:=Hj hR;clear hR;go_wp2_with fail;refine(aDC R U ⟨hR1.1,by omega⟩ hR1.2 hU'.1 (by omega) _).mono ?_;rintro x w5 ⟨rfl,rfl⟩
  by_cases hk:U+1074+R / 4503599627370496≤2046
  ·have G:=Hj (aIl HU.out HR.out hk)
   have t0:decide (2046<U+1074+R / 4503599627370496)=false:=by simp;omega
   have FL:Hid (∀w:World,Calls Tryz.prog 161 #[.agg #[.int .u64 (rW n),.bool (rH n),.bool (rB n s)],.int .i64 (b+E)] w fun x w'=>x=.returned (.int .u8 (rG md neg n s))∧Below w.heap.size w w'):=fun w=>by
    have:=aFF (rW n) (rH n) (rB n s) (b+E) w;rw[aIm hw.out G.out.2]at this;exact this
   go_wp2_with fail
   go_region_held3 (fun w'=>w'.cell? ⟨w3.heap.size,0,none⟩=some (.int .u64 (rW n))∧w'.cell? ⟨w3.heap.size,1,none⟩=some (.bool (rH n))∧w'.cell? ⟨w3.heap.size,2,none⟩=some (.bool (rB n s)))
    ((refine aNE (W:=w4) ?_ d0 d1 d2;repeat (first|exact Below.refl _ _|exact X7|refine aH ?_)))
    (first
     | (go_at_call 156;refine(jG neg (U+1074+R / 4503599627370496) (R % 4503599627370496) ⟨by omega,by omega⟩ ⟨by omega,by omega,by omega⟩ _).mono ?_;rintro x w6 ⟨rfl,rfl⟩)
     | (go_at_call 161;refine(FL.out _).mono ?_;rintro x w7 ⟨rfl,hb7⟩;have X7:Below w4.heap.size w4 w7:=aG (aH (Below.refl _ _)) hb7))
   all_goals
    go_wp2_with fail
    go_ret2
    exact⟨bO G.out.1 rfl,aG HB.out X7⟩
  ·have G:=Hj (aKg HU.out HR.out hk)
   have t0:decide (2046<U+1074+R / 4503599627370496)=true:=by simp;omega
   go_wp2_with fail;refine(aDK neg md _).mono ?_;rintro x w6 ⟨rfl,rfl⟩;go_wp2_with fail
   go_ret2
   exact⟨bO G.out.1 G.out.2.symm,HB.out⟩
def q2 (n:Nat):Int:=2 ^ n
theorem aGY (n:Nat):0<q2 n:=aM n
theorem aHR {y q:Int}(hq:0<q)(u:Nat):y / (q*2 ^ u)=y / q / 2 ^ u∧(y % (q*2 ^ u)≠0↔y % q≠0∨y / q % 2 ^ u≠0):=by
 have hu:=aM u;have e1:y / (q*2 ^ u)=y / q / 2 ^ u:=by rw[Int.ediv_ediv_of_nonneg (Int.le_of_lt hq)]
 refine⟨e1,?_⟩;have d1:=Int.mul_ediv_add_emod y q;have d2:=Int.mul_ediv_add_emod (y / q) (2 ^ u);have d3:=Int.mul_ediv_add_emod y (q*2 ^ u);have n1:=Int.emod_nonneg y (Int.ne_of_gt hq);have n2:=Int.emod_nonneg (y / q) (Int.ne_of_gt hu);rw[e1,Int.mul_assoc]at d3
 have e:y % (q*2 ^ u)=q*(y / q % 2 ^ u)+y % q:=by
  rw[←d2,Int.mul_add]at d1;omega
 rw[e];have n3:0≤q*(y / q % 2 ^ u):=Int.mul_nonneg (Int.le_of_lt hq) n2;constructor
 ·intro h
  by_cases h1:y % q=0
  ·right
   intro h2;rw[h1,h2]at h
   simp at h
  ·exact .inl h1
 ·rintro(h|h) h2
  ·omega
  ·have:q*(y / q % 2 ^ u)=0:=by omega
   rcases Int.mul_eq_zero.1 this with h3|h3
   ·omega
   ·exact h h3
theorem rP {y d c:Int}(hc:0<c):y*c / (d*c)=y / d∧(y*c % (d*c)≠0↔y % d≠0):=by
 refine⟨Int.mul_ediv_mul_of_pos_left _ _ hc,?_⟩;rw[Int.mul_comm y,Int.mul_comm d,Int.mul_emod_mul_of_pos _ _ hc];constructor
 ·intro h h2
  rw[h2]at h
  simp at h
 ·intro h h2
  rcases Int.mul_eq_zero.1 h2 with h3|h3
  ·omega
  ·exact h h3
def nX (p q:Int):Int:=p*q2 1075 / q
def sX (p q:Int):Bool:=decide (p*q2 1075 % q≠0)
theorem aEo {p q:Int}(hp:0≤p)(hq:0<q):0≤nX p q:=Int.ediv_nonneg (Int.mul_nonneg hp (Int.le_of_lt (aGY _))) (Int.le_of_lt hq)
theorem aGB {Q N:Int}{P:Nat}{R S:Bool}(hN:N / 2 ^ P=Q)(hS:(N % 2 ^ P≠0∨S=true)↔R=true)(h0:0≤N)(hQ:54≤bB Q) :
  rU (Q*2 ^ P)=rU N∧rW (Q*2 ^ P)=rW N∧rH (Q*2 ^ P)=rH N∧rB (Q*2 ^ P) R=rB N S:=by
 have hQ0:0<Q:=by
  rcases Int.lt_trichotomy 0 Q with h|h|h
  ·exact h
  ·rw[←h,dV]at hQ;omega
  ·have:=Int.ediv_nonneg h0 (Int.le_of_lt (aM P));omega
 have b1:=aCm hQ0 P;have b2:=kA h0 P;rw[hN]at b2;have hm:0≤Q*2 ^ P:=Int.mul_nonneg (Int.le_of_lt hQ0) (Int.le_of_lt (aM _));have c1:=kA hm 1;have c2:=kA h0 1;rw[show(2:Int) ^ 1=2 by rfl]at c1 c2;have eU:rU (Q*2 ^ P)=rU N:=by unfold rU;rw[c1,c2];omega
 have hU:∃k,rU N=P+k:=⟨rU N-P,by unfold rU;rw[c2];omega⟩;obtain⟨k,hk⟩:=hU;obtain⟨l1,l2⟩:=fT (y:=N) P k;obtain⟨m1,m2⟩:=fT (y:=Q * 2 ^ P) P k;have e1:Q*2 ^ P / 2 ^ P=Q:=Int.mul_ediv_cancel _ (Int.ne_of_gt (aM P));have e2:Q*2 ^ P % 2 ^ P=0:=Int.mul_emod_left _ _;rw[hN]at l1 l2;rw[e1]at m1 m2;rw[e2]at m2;refine⟨eU,?_,?_,?_⟩
 ·unfold rW
  rw[eU,(fT (rU N) 1).1,(fT (rU N) 1).1,hk,l1,m1]
 ·unfold rH
  rw[eU,hk,l1,m1]
 ·unfold rB
  rw[eU,hk,Bool.eq_iff_iff];simp only[Bool.or_eq_true,decide_eq_true_eq];rw[l2,m2,←hS];constructor
  ·rintro((h|h)|(h|h))
   ·exact absurd rfl h
   ·exact .inl (.inr h)
   ·exact .inl (.inl h)
   ·exact .inr h
  ·rintro((h|h)|h)
   ·exact .inr (.inl h)
   ·exact .inl (.inr h)
   ·exact .inr (.inr h)
theorem aEf {p q up:Int}(hp:0<p)(hq:0<q)(hup:up=63-(bB p-bB q)) :
  0<q*2 ^ (max (-up) 0).toNat∧63≤bB (p*2 ^ (max up 0).toNat / (q*2 ^ (max (-up) 0).toNat))∧p*2 ^ (max up 0).toNat / (q*2 ^ (max (-up) 0).toNat)<18446744073709551616:=by
 obtain⟨i,e1,e2,e3⟩:=cZ hp;obtain⟨j,f1,f2,f3⟩:=cZ hq;have ha:=aM (max up 0).toNat;have hb:=aM (max (-up) 0).toNat;have hd:0<q*2 ^ (max (-up) 0).toNat:=Int.mul_pos hq hb;have g1:(2:Int) ^ (i+(max up 0).toNat)≤p*2 ^ (max up 0).toNat:=by rw[Int.pow_add];exact Int.mul_le_mul_of_nonneg_right e2 (Int.le_of_lt ha)
 have g2:p*2 ^ (max up 0).toNat<2 ^ (i+1+(max up 0).toNat):=by rw[Int.pow_add];exact Int.mul_lt_mul_of_pos_right e3 ha
 have g3:(2:Int) ^ (j+(max (-up) 0).toNat)≤q*2 ^ (max (-up) 0).toNat:=by rw[Int.pow_add];exact Int.mul_le_mul_of_nonneg_right f2 (Int.le_of_lt hb)
 have g4:q*2 ^ (max (-up) 0).toNat<2 ^ (j+1+(max (-up) 0).toNat):=by rw[Int.pow_add];exact Int.mul_lt_mul_of_pos_right f3 hb
 have q1:(2:Int) ^ 62≤p*2 ^ (max up 0).toNat / (q*2 ^ (max (-up) 0).toNat):=by
  rw[Int.le_ediv_iff_mul_le hd];have k1:(2:Int) ^ 62*(q*2 ^ (max (-up) 0).toNat)≤2 ^ 62*2 ^ (j+1+(max (-up) 0).toNat):=Int.mul_le_mul_of_nonneg_left (Int.le_of_lt g4) (by decide);rw[←Int.pow_add]at k1;rw[show 62+(j+1+(max (-up) 0).toNat)=i+(max up 0).toNat by omega]at k1;exact Int.le_trans k1 g1
 have q3:p*2 ^ (max up 0).toNat / (q*2 ^ (max (-up) 0).toNat)<2 ^ 64:=by
  rw[Int.ediv_lt_iff_lt_mul hd];have k1:(2:Int) ^ 64*2 ^ (j+(max (-up) 0).toNat)≤2 ^ 64*(q*2 ^ (max (-up) 0).toNat):=Int.mul_le_mul_of_nonneg_left g3 (by decide);rw[←Int.pow_add]at k1;rw[show 64+(j+(max (-up) 0).toNat)=i+1+(max up 0).toNat by omega]at k1;exact Int.lt_of_lt_of_le g2 k1
 refine⟨hd,?_,q3⟩;obtain⟨j,f1,f2,f3⟩:=cZ (a:=p * 2 ^ (max up 0).toNat / (q * 2 ^ (max (-up) 0).toNat)) (by have:=aM 62;omega);have:=jJ (Int.lt_of_le_of_lt q1 f3);omega
theorem aFD {p q up:Int}(hp:0<p)(hq:0<q)(hup:up=63-(bB p-bB q))(md:Int)(neg:Bool)(Q R:Int)(hQ:Q=p*2 ^ (max up 0).toNat / (q*2 ^ (max (-up) 0).toNat))(hR:R=p*2 ^ (max up 0).toNat % (q*2 ^ (max (-up) 0).toNat)) :
  rF md neg (rN Q (eP (-up)) (eQ (-up))) (rS Q (eP (-up)) (eQ (-up)) (decide (R≠0) && decide (54≤bB Q)))=rF md neg (nX p q) (sX p q)∧rG md neg (rN Q (eP (-up)) (eQ (-up))) (rS Q (eP (-up)) (eQ (-up)) (decide (R≠0) && decide (54≤bB Q)))=rG md neg (nX p q) (sX p q):=by
 obtain⟨hd,hb,_⟩:=aEf hp hq hup;rw[←hQ]at hb;rw[decide_eq_true (show 54≤bB Q by omega),Bool.and_true]
 by_cases h:up≤1075
 ·have hq':eQ (-up)=0:=by unfold eQ;omega
  have hs:rS Q (eP (-up)) (eQ (-up)) (decide (R≠0))=decide (R≠0):=by
   unfold rS;rw[hq']
   simp[Int.emod_one]
  have hn:rN Q (eP (-up)) (eQ (-up))=Q*2 ^ eP (-up):=by
   unfold rN;rw[hq']
   simp
  rw[hs,hn]
  have e0:p*q2 1075*2 ^ (max (-up) 0).toNat=p*2 ^ (max up 0).toNat*2 ^ eP (-up):=by
   unfold q2;rw[Int.mul_assoc,Int.mul_assoc,←Int.pow_add,←Int.pow_add]
   congr 2
   unfold eP;omega
  obtain⟨l1,l2⟩:=aHR (y:=p * q2 1075) hq (eP (-up));obtain⟨s1,s2⟩:=rP (y:=p * q2 1075) (d:=q * 2 ^ eP (-up)) (c:=2 ^ (max (-up) 0).toNat) (aM _);obtain⟨t1,t2⟩:=rP (y:=p * 2 ^ (max up 0).toNat) (d:=q * 2 ^ (max (-up) 0).toNat) (c:=2 ^ eP (-up)) (aM _);have e1:q*2 ^ eP (-up)*2 ^ (max (-up) 0).toNat=q*2 ^ (max (-up) 0).toNat*2 ^ eP (-up):=Int.mul_right_comm _ _ _;rw[e0,e1]at s1 s2
  have hN:nX p q / 2 ^ eP (-up)=Q:=by
   unfold nX;rw[←l1,←s1,t1,hQ]
  have hS:(nX p q % 2 ^ eP (-up)≠0∨sX p q=true)↔decide (R≠0)=true:=by
   rw[decide_eq_true_eq,hR,←t2,s2,l2];unfold sX nX;rw[decide_eq_true_eq];exact Or.comm
  obtain⟨a1,a2,a3,a4⟩:=aGB hN hS (aEo (Int.le_of_lt hp) hq) (by omega);exact aMN a1 a2 a3 a4
 ·have hp':eP (-up)=0:=by unfold eP;omega
  have hz:(max (-up) 0).toNat=0:=by omega
  rw[hz]at hQ hR;rw[Int.pow_zero,Int.mul_one]at hQ hR;obtain⟨l1,l2⟩:=aHR (y:=p * 2 ^ (max up 0).toNat) hq (eQ (-up))
  have e0:p*2 ^ (max up 0).toNat=p*q2 1075*2 ^ eQ (-up):=by
   unfold q2;rw[Int.mul_assoc,←Int.pow_add]
   congr 2
   unfold eQ;omega
  obtain⟨s1,s2⟩:=rP (y:=p * q2 1075) (d:=q) (c:=2 ^ eQ (-up)) (aM _);rw[←hQ,←hR]at l2;rw[←hQ]at l1;rw[e0,s1]at l1;rw[e0,s2]at l2
  have hn:rN Q (eP (-up)) (eQ (-up))=nX p q:=by
   unfold rN;rw[hp',Int.pow_zero,Int.mul_one,←l1];rfl
  have hs:rS Q (eP (-up)) (eQ (-up)) (decide (R≠0))=sX p q:=by
   unfold rS sX;rw[hp',Int.pow_zero,Int.mul_one,Bool.eq_iff_iff];simp only[Bool.or_eq_true,decide_eq_true_eq];rw[l2];exact Or.comm
  rw[hn,hs];exact⟨rfl,rfl⟩
theorem aGX {md n:Int}{neg s:Bool}(h0:0≤n)(h:2046≤rU n):rF md neg n s=gA md neg+sg neg∧rG md neg n s=5:=by
 have h1:=(lB h0).2.2 (by omega);have h2:=xP (cL md neg n s);have hle:¬kU md neg n s≤9218868437227405311:=by unfold kU;omega
 unfold rF iH rG;rw[if_neg hle,if_neg hle];exact⟨rfl,rfl⟩
theorem aIh {p q:Int}(hp:0<p)(hq:0<q)(h:bB p-bB q < -1200∨1200<bB p-bB q)(md:Int)(neg:Bool) :
  rF md neg (rN 1 (eP (eC (bB p-bB q))) (eQ (eC (bB p-bB q)))) (rS 1 (eP (eC (bB p-bB q))) (eQ (eC (bB p-bB q))) false)=rF md neg (nX p q) (sX p q)∧rG md neg (rN 1 (eP (eC (bB p-bB q))) (eQ (eC (bB p-bB q)))) (rS 1 (eP (eC (bB p-bB q))) (eQ (eC (bB p-bB q))) false)=rG md neg (nX p q) (sX p q):=by
 obtain⟨i,e1,e2,e3⟩:=cZ hp;obtain⟨j,f1,f2,f3⟩:=cZ hq;have hc:eC (bB p-bB q)=min (max (bB p-bB q) (-5000)) 5000:=rfl;generalize eC (bB p-bB q)=E at *;have h75:(0:Int)<q2 1075:=aGY _;rcases h with h|h
 ·have a1:p*q2 1075<q:=by
   have k1:p*q2 1075<2 ^ (i+1)*q2 1075:=Int.mul_lt_mul_of_pos_right e3 h75;unfold q2 at k1 ⊢;rw[←Int.pow_add]at k1;exact Int.lt_of_lt_of_le k1 (Int.le_trans (bZ _ _ (by omega)) f2)
  have a0:0<p*q2 1075:=Int.mul_pos hp h75;have n0:nX p q=0:=Int.ediv_eq_zero_of_lt (Int.le_of_lt a0) a1
  have s0:sX p q=true:=by
   unfold sX;rw[Int.emod_eq_of_lt (Int.le_of_lt a0) a1];exact decide_eq_true (Int.ne_of_gt a0)
  have hP:eP E=0:=by unfold eP;omega
  have b1:(1:Int)<2 ^ eQ E:=by
   have:=bZ 1 (eQ E) (by unfold eQ;omega);omega
  have n1:rN 1 (eP E) (eQ E)=0:=by
   unfold rN;rw[hP,Int.pow_zero,Int.mul_one];exact Int.ediv_eq_zero_of_lt (by decide) b1
  have s1:rS 1 (eP E) (eQ E) false=true:=by
   unfold rS;rw[hP,Int.pow_zero,Int.mul_one,Int.emod_eq_of_lt (by decide) b1];rfl
  rw[n0,s0,n1,s1];exact⟨rfl,rfl⟩
 ·have hu:=aMO (m:=1) (by decide) (eP E) (eQ E)
  have b1:bB 1=1:=by decide
  rw[b1]at hu;have u1:2046≤rU (rN 1 (eP E) (eQ E)):=by unfold eP eQ at *;omega
  have hb:q*2 ^ (i-j-1+1075)≤p*q2 1075:=by
   have k1:q*2 ^ (i-j-1+1075)≤2 ^ (j+1)*2 ^ (i-j-1+1075):=Int.mul_le_mul_of_nonneg_right (Int.le_of_lt f3) (Int.le_of_lt (aM _));have k2:2 ^ i*q2 1075≤p*q2 1075:=Int.mul_le_mul_of_nonneg_right e2 (Int.le_of_lt h75);unfold q2 at k2 ⊢;rw[←Int.pow_add]at k1 k2;rw[show j+1+(i-j-1+1075)=i+1075 by omega]at k1;exact Int.le_trans k1 k2
  have hN:(2:Int) ^ (i-j-1+1075)≤nX p q:=by
   unfold nX;rw[Int.le_ediv_iff_mul_le hq,Int.mul_comm];exact hb
  have hN0:=aEo (Int.le_of_lt hp) hq;have hN1:0<nX p q:=by have:=aM (i-j-1+1075);omega
  obtain⟨k,g1,g2,g3⟩:=cZ hN1;have:=jJ (Int.lt_of_le_of_lt hN g3);have c2:=kA hN0 1;rw[show(2:Int) ^ 1=2 by rfl]at c2;have u2:2046≤rU (nX p q):=by unfold rU;rw[c2];omega
  have r1:=aGX (md:=md) (neg:=neg) (s:=sX p q) hN0 u2;have r2:=aGX (md:=md) (neg:=neg) (s:=rS 1 (eP E) (eQ E) false) (aKN (by decide) _ _) u1;exact⟨r2.1.trans r1.1.symm,r2.2.trans r1.2.symm⟩
theorem aLQ {w:World}{x:Value}{p:Int}{L:Nat}(h:hJ w x p L)(hL:L≤1048576):Calls Tryz.prog 240 #[x] w fun e w'=>e=.returned (.tuple #[.int .u64 (vF p),.bool (decide (p<18446744073709551616))])∧w=w':=by
 obtain⟨A,n,c,us,rfl,hn,hc,hr,ha,rfl,hl⟩:=h;exact aFr A n c us w hn hc hr ha (by omega)
theorem yU {w:World}{x:Value}{p:Int}{L:Nat}(h:hJ w x p L)(n:Int)(hL:L≤65536)(hn:-10000≤n)(hn':n≤1300):Calls Tryz.prog 238 #[x,.int .i64 n] w (aAR (fun w v=>hJ w v (p*2 ^ (max n 0).toNat) (L+42)) w):=by
 have hk:2 ^ (max n 0).toNat*(1:Int)<2 ^ (32*42):=by
  rw[Int.mul_one];have:=bZ ((max n 0).toNat+1) (32*42) (by omega);have h2:=aM (max n 0).toNat;rw[Int.pow_succ]at this;omega
 have HK:=Hj hk;clear hk;obtain⟨A,m,c,us,hx⟩:=h;obtain⟨rfl,hx2⟩:=hx;have hx:hJ w (.slice A m c) p L:=⟨A,m,c,us,rfl,hx2⟩;clear hx2;go_enter Tryz.func238,Tryz.ntmps238;go_wp2_with fail;refine(aNB 1 ⟨by decide,by decide⟩ _).mono ?_;rintro e w1 ⟨v1,n1,rfl,hb1⟩;obtain⟨A1,m1,c1,us1,rfl,n1'⟩:=n1;have n1:hJ w1 (.slice A1 m1 c1) 1 2:=pQ.v ⟨A1,m1,c1,us1,rfl,n1'⟩;clear n1';go_wp2_with fail;refine(aMR n1 n (by decide) (by intro _;rw[show bB 1=1 by decide];omega) 42 HK.out).mono ?_;rintro e w2 ⟨v2,n2,rfl,hb2⟩;obtain⟨A2,m2,c2,us2,rfl,n2'⟩:=n2;have n2:hJ w2 (.slice A2 m2 c2) (2 ^ (max n 0).toNat*1) 42:=pQ.v ⟨A2,m2,c2,us2,rfl,n2'⟩;clear n2';rw[Int.mul_one]at n2;go_wp2_with fail;refine(aKP (hx.below (aG hb1 hb2)) n2 (by omega) (by decide)).mono ?_;rintro e w3 ⟨v3,n3,rfl,hb3⟩;obtain⟨A3,m3,c3,us3,rfl,n3'⟩:=n3;go_wp2_with fail;go_ret;exact⟨_,pQ.v ⟨A3,m3,c3,us3,rfl,n3'⟩,rfl,aG (aG hb1 hb2) hb3⟩
def aAU (f g:Int)(w:World)(e:Ending)(w':World):Prop:=e=.returned (.tuple #[.int .u64 f,.int .u8 g])∧Below w.heap.size w w'
theorem aFC {w:World}{x y:Value}{p q:Int}{L M:Nat}(h:hJ w x p L)(k:hJ w y q M)(neg:Bool)(md:Int)(hL:L≤65536)(hM:M≤65536)(h0:p=0∨q=0):Calls Tryz.prog 220 #[.bool neg,x,y,.int .u8 md] w (aAU 0 0 w):=by
 obtain⟨A,m,c,rfl⟩:=h.form;obtain⟨B,n,d,rfl⟩:=k.form
 by_cases hp:p=0
 ·have z:bB p=0:=by rw[hp];decide
  go_enter Tryz.func220,Tryz.ntmps220;go_wp2_with fail;refine(tP h (by omega)).mono ?_;rintro e w1 ⟨rfl,rfl⟩;rw[z];go_wp2_with fail
  go_ret2
  exact⟨rfl,Below.refl _ _⟩
 ·have hq:q=0:=by omega
  have z:bB q=0:=by rw[hq];decide
  have z1:(bB p == 0)=false:=by
   have:=h.nonneg;obtain⟨j,e1,_,_⟩:=cZ (a:=p) (by omega);rw[e1]
   simp
   omega
  go_enter Tryz.func220,Tryz.ntmps220;go_wp2_with fail;refine(tP h (by omega)).mono ?_;rintro e w1 ⟨rfl,rfl⟩;go_wp2_with fail;refine(tP k (by omega)).mono ?_;rintro e w1 ⟨rfl,rfl⟩;rw[z];go_wp2_with fail
  go_ret2
  exact⟨rfl,Below.refl _ _⟩
theorem xU (x:Int):V2 0 x=x:=by unfold V2;omega
theorem aIg {w:World}{x y:Value}{p q:Int}{L M:Nat}(h:hJ w x p L)(k:hJ w y q M)(neg:Bool)(md:Int)(hL:L≤65536)(hM:M≤65536)(hp:0<p)(hq:0<q):Calls Tryz.prog 220 #[.bool neg,x,y,.int .u8 md] w (aAU (rF md neg (nX p q) (sX p q)) (rG md neg (nX p q) (sX p q)) w):=by
 obtain⟨A,m,c,rfl⟩:=h.form;obtain⟨B,n,d,rfl⟩:=k.form
 have b1:1≤bB p∧bB p≤32*65536:=by
  obtain⟨j,e1,_,_⟩:=cZ hp;have:=jZ (k:=32*L) (Int.le_of_lt hp) h.lt;omega
 have b2:1≤bB q∧bB q≤32*65536:=by
  obtain⟨j,e1,_,_⟩:=cZ hq;have:=jZ (k:=32*M) (Int.le_of_lt hq) k.lt;omega
 have z1:(bB p == 0)=false:=by simp;omega
 have z2:(bB q == 0)=false:=by simp;omega
 by_cases hfar:bB p-bB q < -1200∨1200<bB p-bB q
 ·have F:=aIh hp hq hfar md neg
  have RP:=fun w=>rV neg 0 1 (bB p-bB q) false md ⟨by decide,by decide⟩ ⟨by decide,by decide⟩ (by decide) w _ _ rfl rfl;rw[xU,Bool.false_and]at RP;rw[F.1,F.2]at RP;have RP':=Hj RP;clear RP F;have HP:=Hj hp;have HQ:=Hj hq;have NP:=tP h (by omega);have NQ:=tP k (by omega);generalize bB p=bp at *;generalize bB q=bq at *
  by_cases hlo:bp-bq < -1200
  ·go_enter Tryz.func220,Tryz.ntmps220
   iterate 2
    go_wp2_with fail;refine NP.mono ?_;rintro e w1 ⟨rfl,rfl⟩;go_wp2_with fail;refine NQ.mono ?_;rintro e w1 ⟨rfl,rfl⟩
   go_wp2_with fail;refine(RP'.out _).mono ?_;rintro e w2 ⟨rfl,hb⟩;go_wp2_with fail
   go_ret2
   exact⟨rfl,hb⟩
  ·have hhi:1200<bp-bq:=by omega
   go_enter Tryz.func220,Tryz.ntmps220
   iterate 2
    go_wp2_with fail;refine NP.mono ?_;rintro e w1 ⟨rfl,rfl⟩;go_wp2_with fail;refine NQ.mono ?_;rintro e w1 ⟨rfl,rfl⟩
   go_wp2_with fail;refine(RP'.out _).mono ?_;rintro e w2 ⟨rfl,hb⟩;go_wp2_with fail
   go_ret2
   exact⟨rfl,hb⟩
 ·obtain⟨up,hup⟩:∃up,up=63 - (bB p - bB q):=⟨_,rfl⟩
  obtain⟨hd,hb63,hlt⟩:=aEf hp hq hup;obtain⟨Q,hQ⟩:∃Q,Q=p * 2 ^ (max up 0).toNat / (q * 2 ^ (max (-up) 0).toNat):=⟨_,rfl⟩;obtain⟨R,hR⟩:∃R,R=p * 2 ^ (max up 0).toNat % (q * 2 ^ (max (-up) 0).toNat):=⟨_,rfl⟩;have F:=aFD hp hq hup md neg Q R hQ hR;rw[←hQ]at hb63 hlt
  have hQ0:0<Q:=by
   rcases Int.lt_trichotomy 0 Q with h|h|h
   ·exact h
   ·rw[←h,dV]at hb63;omega
   ·have:0≤Q:=by rw[hQ];exact Int.ediv_nonneg (Int.mul_nonneg (Int.le_of_lt hp) (Int.le_of_lt (aM _))) (Int.le_of_lt hd)
    omega
  have RP:=fun w=>rV neg 0 Q (-up) (decide (R≠0)) md ⟨by decide,by decide⟩ ⟨Int.le_of_lt hQ0,hlt⟩ (by rw[xU];exact hQ0) w _ _ rfl rfl;have eup:eC (-up) = -up:=by unfold eC;omega
  rw[xU,eup]at RP;rw[F.1,F.2]at RP;have RP':=Hj RP;clear RP F;have hR0:0≤R:=by rw[hR];exact Int.emod_nonneg _ (Int.ne_of_gt hd)
  have z3:decide (0<bB R)=decide (R≠0):=by
   rw[Bool.eq_iff_iff,decide_eq_true_eq,decide_eq_true_eq];constructor
   ·intro h h2
    rw[h2,dV]at h;omega
   ·intro h
    obtain⟨j,e1,_,_⟩:=cZ (a:=R) (by omega);omega
  have bR:=qZ R;have hup1:-1137≤up∧up≤1263:=by omega
  have hup2:63-(bB p-bB q)=up:=hup.symm;have HD:=Hj hd;have HQ:=Hj hQ;have HR:=Hj hR;have HQ0:=Hj hQ0;have HL:=Hj hlt;have HP:=Hj hp;have HPq:=Hj hq;have eU:vF Q=Q:=by unfold vF;rw[if_pos hlt]
  have Eu:=Hj eU;have NP:=tP h (by omega);have NQ:=tP k (by omega);clear hd hb63 hQ hR hQ0 hlt eU eup hp hq hup;generalize bB p=bp at *;generalize bB q=bq at *;have t1:decide (bp-bq < -1200)=false:=by simp;omega
  have t2:decide (1200<bp-bq)=false:=by simp;omega
  go_enter Tryz.func220,Tryz.ntmps220
  iterate 2
   go_wp2_with fail;refine NP.mono ?_;rintro e w1 ⟨rfl,rfl⟩;go_wp2_with fail;refine NQ.mono ?_;rintro e w1 ⟨rfl,rfl⟩
  go_wp2_with fail;refine(yU h up (by omega) (by omega) (by omega)).mono ?_;rintro e w1 ⟨v1,n1,rfl,hb1⟩;obtain⟨A1,m1,c1,rfl⟩:=n1.form;go_wp2_with fail;refine(yU (k.below hb1) (-up) (by omega) (by omega) (by omega)).mono ?_;rintro e w2 ⟨v2,n2,rfl,hb2⟩;obtain⟨A2,m2,c2,rfl⟩:=n2.form;go_wp2_with fail;refine(aMS (n1.below hb2) n2 (by omega) (by omega) (Int.ne_of_gt HD.out)).mono ?_;rintro e w3 ⟨v3,v4,n3,n4,rfl,hb3⟩;rw[←HQ.out]at n3;rw[←HR.out]at n4;obtain⟨A3,m3,c3,rfl⟩:=n3.form;obtain⟨A4,m4,c4,rfl⟩:=n4.form;go_wp2_with fail;refine(aLQ n3.v (by omega)).mono ?_;rintro e w4 ⟨rfl,rfl⟩;rw[Eu.out];have HB:=Hj (aG (aG hb1 hb2) hb3);clear hb1 hb2 hb3;go_wp2_with fail;refine(tP n4.v (by omega)).mono ?_;rintro e w4 ⟨rfl,rfl⟩;generalize decide (R≠0)=rb at *;generalize bB R=bR' at *;go_wp2_with fail;refine(RP'.out _).mono ?_;rintro e w5 ⟨rfl,hb5⟩;go_wp2_with fail
  go_ret2
  exact⟨rfl,aG HB.out hb5⟩
end Go.Proofs.YtkbicfffokegeaaGreatDoor
