/-
  Layer 12's checks answer true, whatever program is handed in. (part 9 of 35) Conditions: none beside what the card ties.
-/
import Derived.Test.YtkbicfffokegeaaGreatDoorUah
import Derived.Test.YtkbicfffokegeaaGreatDoorUad
import Derived.Test.YtkbicfffokegeaaGreatDoorUae
namespace Go.Proofs.YtkbicfffokegeaaGreatDoor
set_option maxHeartbeats 16000000
open Go.RowKit
def sv (s:Bool)(p:Int):Int:=if s then -p else p
end Go.Proofs.YtkbicfffokegeaaGreatDoor
namespace Go.Proofs.YtkbicfffokegeaaGreatDoor
set_option maxHeartbeats 16000000
open Go.RowKit
set_option maxRecDepth 100000
def NatV (w:World)(v:Value)(p:Int)(L:Nat):Prop:=∃(A:Option Addr) (n c:Nat) (us:List Int),v=.slice A n c∧us.length=n∧n≤c∧Rn w A us∧AllW us∧nv us=p∧n≤L
def NatC (w:World)(v:Value)(p:Int)(L:Nat):Prop:=∃(A:Option Addr) (n c:Nat) (us:List Int),v=.slice A n c∧us.length=n∧n≤c∧Rn w A us∧IsNat p us∧n≤L
theorem NatC.v {w:World}{v:Value}{p:Int}{L:Nat}(h:NatC w v p L):NatV w v p L:=by
 obtain⟨A,n,c,us,e,hn,hc,hr,hi,hl⟩:=h;exact⟨A,n,c,us,e,hn,hc,hr,hi.all,hi.val,hl⟩
theorem NatV.below {w w':World}{v:Value}{p:Int}{L:Nat}(h:NatV w v p L)(hb:Below w.heap.size w w'):NatV w' v p L:=by
 obtain⟨A,n,c,us,e,hn,hc,hr,hi⟩:=h;exact⟨A,n,c,us,e,hn,hc,hr.below hb (Nat.le_refl _),hi⟩
theorem NatV.nonneg {w:World}{v:Value}{p:Int}{L:Nat}(h:NatV w v p L):0≤p:=by
 obtain⟨A,n,c,us,e,hn,hc,hr,ha,hv,hl⟩:=h;rw[←hv];exact nv_nonneg _ ha
theorem NatV.lt {w:World}{v:Value}{p:Int}{L:Nat}(h:NatV w v p L):p<2 ^ (32*L):=by
 obtain⟨A,n,c,us,e,hn,hc,hr,ha,hv,hl⟩:=h;rw[←hv];have:=nv_lt us ha;have:=pow_mono (32*us.length) (32*L) (by omega);omega
theorem NatV.form {w:World}{v:Value}{p:Int}{L:Nat}(h:NatV w v p L):∃A n c,v=.slice A n c:=by
 obtain⟨A,n,c,us,e,_⟩:=h;exact⟨A,n,c,e⟩
theorem NatC.form {w:World}{v:Value}{p:Int}{L:Nat}(h:NatC w v p L):∃A n c,v=.slice A n c:=h.v.form
def RetV (P:World→Value→Prop)(w:World)(e:Ending)(w':World):Prop:=∃v,P w' v∧e=.returned v∧Below w.heap.size w w'
theorem RetN.v {p:Int}{L:Nat}{w:World}{e:Ending}{w':World}(hp:p<2 ^ (32*L))(h:RetN p w e w'):RetV (fun w v=>NatC w v p L) w e w':=by
 obtain⟨us,A,n,c,hi,hn,e1,hc,hr, -,hb⟩:=h;exact⟨_,⟨A,n,c,us,rfl,hn,hc,hr,hi,by rw[←hn];exact hi.le hp⟩,e1,hb⟩
section
variable {w:World} {x y:Value} {p q:Int} {L M:Nat}
theorem nmulV (h:NatV w x p L)(k:NatV w y q M)(hL:L≤1048576)(hM:M≤1048576):Calls Tryz.prog 221 #[x,y] w (RetV (fun w v=>NatC w v (p*q) (L+M)) w):=by
 have b:=mul_bd h.nonneg h.lt k.lt rfl;obtain⟨A,n,c,us,rfl,hn,hc,hr,ha,hv,hl⟩:=h;obtain⟨B,m,d,vs,rfl,hm,hd,hs,hb,hw,hk⟩:=k;refine(nmul_any A B n m c d us vs w hn hm hc hd hr hs ha hb (by omega) (by omega)).mono fun e w' r=>?_;rw[hv,hw]at r;exact r.v b
theorem nlenV (h:NatV w x p L)(hL:L≤1048576):Calls Tryz.prog 237 #[x] w fun e w'=>e=.returned (.int .i64 (blen p))∧w=w':=by
 obtain⟨A,n,c,us,rfl,hn,hc,hr,ha,hv,hl⟩:=h;have r:=nlen_any A n c us w hn hc hr ha (by omega);rw[hv]at r;exact r
def RetDivV (p q:Int)(L M:Nat)(w:World)(e:Ending)(w':World):Prop:=∃v u,NatC w' v (p / q) L∧NatC w' u (p % q) M∧e=.returned (.tuple #[v,u,.int .i64 0])∧Below w.heap.size w w'
theorem ndivV (h:NatV w x p L)(k:NatV w y q M)(hL:L≤1048576)(hM:M≤1048576)(h0:q≠0):Calls Tryz.prog 239 #[x,y] w (RetDivV p q L M w):=by
 have b1:=h.lt;have b0:=h.nonneg;have b2:=k.nonneg;have b3:=k.lt;have b4:=Int.ediv_le_self q b0;have b5:=Int.emod_lt_of_pos p (show 0<q by omega);obtain⟨A,n,c,us,rfl,hn,hc,hr,ha,hv,hl⟩:=h;obtain⟨B,m,d,vs,rfl,hm,hd,hs,hb,hw,hk⟩:=k;refine(ndiv_pos A B n m c d us vs w hn hm hc hd hr hs ha hb (by omega) (by omega) (by rw[hw];exact h0)).mono fun e w' r=>?_;rw[hv,hw]at r;obtain⟨us',vs',A',B',n',m',c',d',i1,i2,n1,n2,e1,c1,c2,r1,r2, -, -,hb'⟩:=r;exact⟨_,_,⟨A',n',c',us',rfl,n1,c1,r1,i1,by rw[←n1];exact i1.le (by omega)⟩,⟨B',m',d',vs',rfl,n2,c2,r2,i2,by rw[←n2];exact i2.le (by omega)⟩,e1,hb'⟩
theorem newV (a:Int)(ha:Word a)(w:World):Calls Tryz.prog 248 #[.int .u64 a] w (RetV (fun w v=>NatC w v a 2) w):=
 (new_any a ha w).mono fun _ _ r=>r.v (by rw[show(2:Int) ^ (32*2)=18446744073709551616 by decide];exact ha.2)
end
section
variable {w:World} {x y:Value} {p q:Int} {L M:Nat}
end
section
variable {w w':World} {g:Nat} {t:TypeId} {b0:Bool} {A0 B0:Option Addr} {n0 c0 m0 d0:Nat}
end
theorem size_alloc (w:World)(o:Obj):(w.alloc o).heap.size=w.heap.size+1:=by simp
section
variable {w w':World} {o1 o2 o3:Obj} {t:TypeId} {cs:Array Value}
end
def fS (f:Int):Bool:=decide (9223372036854775808≤f)
def fE (f:Int):Int:=f / 4503599627370496 % 2048
def fM (f:Int):Int:=f % 4503599627370496
def fC (f:Int):Int:=if fE f=2047 then(if fM f=0 then 3 else 4)else if fE f=0 then(if fM f=0 then 0 else 1)else 2
theorem and63 {f:Int}(h:Word f):bits BinOp.and IntKind.u64 f 9223372036854775808=if 9223372036854775808≤f then 9223372036854775808 else 0:=by
 obtain⟨h0,h1⟩:=h;obtain⟨k,rfl⟩:=Int.eq_ofNat_of_zero_le h0;have:=bits_and_u64_nat k 9223372036854775808 (by omega) (by omega);refine this.trans ?_
 have e:k &&& 2 ^ 63=2 ^ 63*(k / 2 ^ 63 % 2):=by
  apply Nat.eq_of_testBit_eq;intro i;rw[Nat.testBit_and,Nat.testBit_two_pow,Nat.testBit_two_pow_mul]
  by_cases hi:i=63
  ·subst hi;simp[Nat.testBit_eq_decide_div_mod_eq]
  ·by_cases h2:63≤i
   ·have:k / 2 ^ 63 % 2<2 ^ (i-63):=Nat.lt_of_lt_of_le (Nat.mod_lt _ (by decide)) (by
     have:=Nat.pow_le_pow_right (n:=2) (by decide) (show 1≤i-63 by omega)
     omega)
    rw[Nat.testBit_lt_two_pow this,decide_eq_false (show ¬63=i by omega),Bool.and_false,Bool.and_false]
   ·rw[decide_eq_false (show ¬63=i by omega),decide_eq_false (show ¬i≥63 by omega),Bool.and_false,Bool.false_and]
 rw[show(9223372036854775808:Nat)=2 ^ 63 by decide,e]
 split<;>omega
theorem andlow {f:Int}(h:Word f):bits BinOp.and IntKind.u64 f 4503599627370495=f % 4503599627370496:=by
 obtain⟨h0,h1⟩:=h;obtain⟨k,rfl⟩:=Int.eq_ofNat_of_zero_le h0;refine(bits_and_u64_nat k 4503599627370495 (by omega) (by omega)).trans ?_;rw[show(4503599627370495:Nat)=2 ^ 52-1 by decide,Nat.and_two_pow_sub_one_eq_mod];omega
theorem and2047 {f:Int}(h:Word f):bits BinOp.and IntKind.u64 f 2047=f % 2048:=by
 obtain⟨h0,h1⟩:=h;obtain⟨k,rfl⟩:=Int.eq_ofNat_of_zero_le h0;refine(bits_and_u64_nat k 2047 (by omega) (by omega)).trans ?_;rw[show(2047:Nat)=2 ^ 11-1 by decide,Nat.and_two_pow_sub_one_eq_mod];omega
theorem or63 {f:Int}(h0:0≤f)(h1:f<9223372036854775808):bits BinOp.or IntKind.u64 f 9223372036854775808=f+9223372036854775808:=by
 obtain⟨k,rfl⟩:=Int.eq_ofNat_of_zero_le h0;refine(bits_or_u64_nat k 9223372036854775808 (by omega) (by omega)).trans ?_;have:=Nat.two_pow_add_eq_or_of_lt (i:=63) (b:=k) (by omega) 1;rw[Nat.or_comm,show(9223372036854775808:Nat)=2 ^ 63*1 by decide,←this];omega
theorem or52 {e m:Int}(h0:0≤e)(h1:e<4096)(h2:0≤m)(h3:m<4503599627370496):bits BinOp.or IntKind.u64 (e*4503599627370496) m=e*4503599627370496+m:=by
 obtain⟨k,rfl⟩:=Int.eq_ofNat_of_zero_le h0;obtain⟨j,rfl⟩:=Int.eq_ofNat_of_zero_le h2;have:=bits_or_u64_nat (k*4503599627370496) j (by omega) (by omega);rw[Int.natCast_mul]at this;refine this.trans ?_;have e2:=Nat.two_pow_add_eq_or_of_lt (i:=52) (b:=j) (by omega) k;rw[show k*4503599627370496=2 ^ 52*k by omega,←e2];omega
theorem nand63 {f:Int}(h:Word f):bits BinOp.andNot IntKind.u64 f 9223372036854775808=f % 9223372036854775808:=by
 obtain⟨h0,h1⟩:=h;obtain⟨k,rfl⟩:=Int.eq_ofNat_of_zero_le h0
 have hk:(BitVec.ofInt 64 (k:Int)).toNat=k:=by
  rw[BitVec.ofInt_natCast,BitVec.toNat_ofNat];exact Nat.mod_eq_of_lt (by omega)
 show IntKind.u64.wrap ((BitVec.ofInt 64 (k:Int) &&& ~~~ BitVec.ofInt 64 (9223372036854775808:Int)).toNat:Int)=_;rw[BitVec.toNat_and,hk,show(~~~ BitVec.ofInt 64 (9223372036854775808:Int)).toNat=2 ^ 63-1 by decide,Nat.and_two_pow_sub_one_eq_mod,IntKind.wrap_u64];omega
theorem sign_bit {f:Int}(h:Word f):(bits BinOp.and IntKind.u64 f 9223372036854775808 != 0)=fS f:=by
 rw[and63 h];unfold fS
 split<;>rename_i h1
 ·rw[decide_eq_true h1];rfl
 ·rw[decide_eq_false h1];rfl
theorem exp_bd {f:Int}:0≤fE f∧fE f<2048:=by unfold fE;omega
theorem word_exp {f:Int}(h:Word f):Word (f / 4503599627370496):=by obtain⟨h0,h1⟩:=h;constructor<;>omega
theorem wrap64_in {a:Int}(h0:-9223372036854775808≤a)(h1:a≤9223372036854775807):wrap64 a=a:=IntWalk.wrap64_in a ⟨h0,h1⟩
theorem exp_bits {f:Int}(h:Word f):wrap64 (bits BinOp.and IntKind.u64 (f / 4503599627370496) 2047)=fE f:=by
 have:=exp_bd (f:=f);rw[and2047 (word_exp h)];exact wrap64_in (a:=fE f) (by omega) (by omega)
theorem parts_any (f:Int)(hf:Word f)(w:World):Calls Tryz.prog 92 #[.int .u64 f] w fun e w'=>e=.returned (.tuple #[.bool (fS f),.int .i64 (fE f),.int .u64 (fM f)])∧w=w':=by
 go_enter Tryz.func92,Tryz.ntmps92;go_wp2_with fail;rw[sign_bit hf,exp_bits hf,andlow hf]
 go_ret3
 exact⟨rfl,rfl⟩
theorem cls_bd (f:Int):0≤fC f∧fC f≤4:=by unfold fC;split<;>split<;>omega
theorem fC_inf {f:Int}(h1:fE f=2047)(h2:fM f=0):fC f=3:=by simp[fC,h1,h2]
theorem fC_nan {f:Int}(h1:fE f=2047)(h2:fM f≠0):fC f=4:=by simp[fC,h1,h2]
theorem fC_zero {f:Int}(h1:fE f=0)(h2:fM f=0):fC f=0:=by simp[fC,h1,h2]
theorem fC_sub {f:Int}(h1:fE f=0)(h2:fM f≠0):fC f=1:=by simp[fC,h1,h2]
theorem fC_norm {f:Int}(h1:fE f≠2047)(h2:fE f≠0):fC f=2:=by simp[fC,h1,h2]
theorem class_any (f:Int)(hf:Word f)(w:World):Calls Tryz.prog 77 #[.int .u64 f] w fun e w'=>e=.returned (.int .u8 (fC f))∧w=w':=by
 by_cases h1:fE f=2047
 ·by_cases h2:fM f=0
  ·skip
   have HC:=Hj (fC_inf h1 h2);go_enter Tryz.func77,Tryz.ntmps77;go_wp2_with fail;refine(parts_any f hf _).mono ?_;rintro e w1 ⟨rfl,rfl⟩;rw[h1,h2];go_wp2_with fail;go_ret;exact⟨ret_int HC.out.symm,rfl⟩
  ·skip
   have HC:=Hj (fC_nan h1 h2);go_enter Tryz.func77,Tryz.ntmps77;go_wp2_with fail;refine(parts_any f hf _).mono ?_;rintro e w1 ⟨rfl,rfl⟩;rw[h1];go_wp2_with fail;go_ret;exact⟨ret_int HC.out.symm,rfl⟩
 ·by_cases h3:fE f=0
  ·by_cases h2:fM f=0
   ·skip
    have HC:=Hj (fC_zero h3 h2);go_enter Tryz.func77,Tryz.ntmps77;go_wp2_with fail;refine(parts_any f hf _).mono ?_;rintro e w1 ⟨rfl,rfl⟩;rw[h3,h2];go_wp2_with fail;go_ret;exact⟨ret_int HC.out.symm,rfl⟩
   ·skip
    have HC:=Hj (fC_sub h3 h2);go_enter Tryz.func77,Tryz.ntmps77;go_wp2_with fail;refine(parts_any f hf _).mono ?_;rintro e w1 ⟨rfl,rfl⟩;rw[h3];go_wp2_with fail;go_ret;exact⟨ret_int HC.out.symm,rfl⟩
  ·skip
   have HC:=Hj (fC_norm h1 h3);go_enter Tryz.func77,Tryz.ntmps77;go_wp2_with fail;refine(parts_any f hf _).mono ?_;rintro e w1 ⟨rfl,rfl⟩;go_wp2_with fail;go_ret;exact⟨ret_int HC.out.symm,rfl⟩
def sg (s:Bool):Int:=if s then 9223372036854775808 else 0
theorem sg_bd (s:Bool):0≤sg s∧sg s≤9223372036854775808:=by cases s<;>decide
theorem withSign_any (s:Bool)(f:Int)(h0:0≤f)(h1:f<9223372036854775808)(w:World):Calls Tryz.prog 208 #[.bool s,.int .u64 f] w fun e w'=>e=.returned (.int .u64 (f+sg s))∧w=w':=by
 cases s
 ·go_enter Tryz.func208,Tryz.ntmps208
  go_wp2_with fail;go_ret;exact⟨ret_int (by simp[sg]),rfl⟩
 ·go_enter Tryz.func208,Tryz.ntmps208
  go_wp2_with fail;rw[or63 h0 h1];go_ret;exact⟨ret_int (by simp[sg]),rfl⟩
def mkF (s:Bool)(e m:Int):Int:=e*4503599627370496+m+sg s
def mkOk (e m:Int):Prop:=0≤e∧e<2048∧m<4503599627370496
instance (e m:Int):Decidable (mkOk e m):=by unfold mkOk;infer_instance
theorem make_good (s:Bool)(e m:Int)(hm:Word m)(h:mkOk e m)(w:World):Calls Tryz.prog 183 #[.bool s,.int .i64 e,.int .u64 m] w fun x w'=>x=.returned (.tuple #[.int .u64 (mkF s e m),.int .i64 0])∧w=w':=by
 obtain⟨h1,h2,h3⟩:=h;obtain⟨m0,m1⟩:=hm;have o:=or52 (e:=e) (m:=m) h1 (by omega) m0 h3;have HO:=Hj o;clear o;go_enter Tryz.func183,Tryz.ntmps183;go_wp2_with fail;rw[HO.out];refine(withSign_any s _ (by omega) (by omega) _).mono ?_;rintro x w1 ⟨rfl,rfl⟩;go_wp2_with fail
 go_ret2
 exact⟨rfl,rfl⟩
theorem isNaN_any (f:Int)(hf:Word f)(w:World):Calls Tryz.prog 131 #[.int .u64 f] w fun x w'=>x=.returned (.bool (decide (fC f=4)))∧w=w':=by
 go_enter Tryz.func131,Tryz.ntmps131;go_wp2_with fail;refine(class_any f hf _).mono ?_;rintro e w1 ⟨rfl,rfl⟩;go_wp2_with fail;go_ret;exact⟨ret_bool (by by_cases h:fC f=4<;>simp[h]),rfl⟩
def fK (f:Int):Int:=if fS f then -(f % 9223372036854775808)else f % 9223372036854775808
theorem rank_any (f:Int)(hf:Word f)(w:World):Calls Tryz.prog 133 #[.int .u64 f] w fun x w'=>x=.returned (.int .i64 (fK f))∧w=w':=by
 have HS:=sign_bit hf;have HN:=nand63 hf;have b0:0≤f % 9223372036854775808:=by omega
 have b1:f % 9223372036854775808<9223372036854775808:=by omega
 by_cases h:fS f=true
 ·have HK:Hid (-(f % 9223372036854775808)=fK f):=by show _=_;simp[fK,h]
  rw[h]at HS;generalize f % 9223372036854775808=z at *;clear h;go_enter Tryz.func133,Tryz.ntmps133;go_wp2_with fail;go_ret;exact⟨ret_int HK.out,rfl⟩
 ·have HK:Hid (f % 9223372036854775808=fK f):=by show _=_;simp[fK,h]
  rw[Bool.not_eq_true]at h;rw[h]at HS;generalize f % 9223372036854775808=z at *;clear h;go_enter Tryz.func133,Tryz.ntmps133;go_wp2_with fail;go_ret;exact⟨ret_int HK.out,rfl⟩
theorem isNaNI64_any (a:Int)(w:World):Calls Tryz.prog 162 #[.int .i64 a] w fun e w'=>e=.returned (.bool false)∧w=w':=by
 go_enter Tryz.func162,Tryz.ntmps162
 go_wp2
 go_ret;exact⟨by simp,rfl⟩
theorem cmpI64_any (a b:Int)(w:World):Calls Tryz.prog 132 #[.int .i64 a,.int .i64 b] w fun e w'=>e=.returned (.int .i64 (cmpI a b))∧w=w':=by
 rcases Int.lt_trichotomy a b with h|h|h
 ·go_enter Tryz.func132,Tryz.ntmps132
  go_wp2_with (go_at_call 162;refine(isNaNI64_any _ _).mono ?_;rintro e w1 ⟨rfl,rfl⟩)
  go_ret;exact⟨ret_int (cmpI_lt h).symm,rfl⟩
 ·subst h
  go_enter Tryz.func132,Tryz.ntmps132
  go_wp2_with (go_at_call 162;refine(isNaNI64_any _ _).mono ?_;rintro e w1 ⟨rfl,rfl⟩)
  go_ret;exact⟨ret_int (cmpI_eq a).symm,rfl⟩
 ·have h':¬a<b:=by omega
  go_enter Tryz.func132,Tryz.ntmps132
  go_wp2_with (go_at_call 162;refine(isNaNI64_any _ _).mono ?_;rintro e w1 ⟨rfl,rfl⟩)
  go_ret;exact⟨ret_int (cmpI_gt h).symm,rfl⟩
def fOk (a b:Int):Bool:=decide (fC a≠4) && decide (fC b≠4)
def fCmp (a b:Int):Int:=if fOk a b then cmpI (fK a) (fK b)else 0
theorem fOk_no1 {a b:Int}(h:fC a=4):fOk a b=false∧fCmp a b=0:=by simp[fCmp,fOk,h]
theorem fOk_no2 {a b:Int}(h:fC b=4):fOk a b=false∧fCmp a b=0:=by simp[fCmp,fOk,h]
theorem fOk_yes {a b:Int}(h1:fC a≠4)(h2:fC b≠4):fOk a b=true∧fCmp a b=cmpI (fK a) (fK b):=by simp[fCmp,fOk,h1,h2]
theorem ret_ib {k:IntKind}{a c:Int}{b d:Bool}(h1:b=d)(h2:a=c):Ending.returned (.tuple #[.int k a,.bool b])=.returned (.tuple #[.int k c,.bool d]):=by rw[h1,h2]
theorem cmp_any (a b:Int)(ha:Word a)(hb:Word b)(w:World):Calls Tryz.prog 109 #[.int .u64 a,.int .u64 b] w fun e w'=>e=.returned (.tuple #[.int .i64 (fCmp a b),.bool (fOk a b)])∧w=w':=by
 by_cases h1:fC a=4
 ·have HC:=Hj (fOk_no1 (b:=b) h1)
  have HD:=decide_eq_true h1;go_enter Tryz.func109,Tryz.ntmps109
  go_wp2_with (go_at_call 131;refine(isNaN_any a ha _).mono ?_;rw[HD];rintro e w1 ⟨rfl,rfl⟩)
  go_ret2
  exact⟨ret_ib HC.out.1.symm HC.out.2.symm,rfl⟩
 ·have HD:=decide_eq_false h1
  by_cases h2:fC b=4
  ·have HC:=Hj (fOk_no2 (a:=a) h2)
   have HE:=decide_eq_true h2;go_enter Tryz.func109,Tryz.ntmps109;go_wp2_with fail;refine(isNaN_any a ha _).mono ?_;rw[HD];rintro e w1 ⟨rfl,rfl⟩;go_wp2_with fail;refine(isNaN_any b hb _).mono ?_;rw[HE];rintro e w1 ⟨rfl,rfl⟩;go_wp2_with fail
   go_ret2
   exact⟨ret_ib HC.out.1.symm HC.out.2.symm,rfl⟩
  ·have HC:=Hj (fOk_yes h1 h2)
   have HE:=decide_eq_false h2;go_enter Tryz.func109,Tryz.ntmps109;go_wp2_with fail;refine(isNaN_any a ha _).mono ?_;rw[HD];rintro e w1 ⟨rfl,rfl⟩;go_wp2_with fail;refine(isNaN_any b hb _).mono ?_;rw[HE];rintro e w1 ⟨rfl,rfl⟩;go_wp2_with fail;refine(rank_any a ha _).mono ?_;rintro e w1 ⟨rfl,rfl⟩;go_wp2_with fail;refine(rank_any b hb _).mono ?_;rintro e w1 ⟨rfl,rfl⟩;go_wp2_with fail;refine(cmpI64_any _ _ _).mono ?_;rintro e w1 ⟨rfl,rfl⟩;go_wp2_with fail
   go_ret2
   exact⟨ret_ib HC.out.1.symm HC.out.2.symm,rfl⟩
def fLt (a b:Int):Bool:=fOk a b && decide (fCmp a b<0)
theorem less_any (a b:Int)(ha:Word a)(hb:Word b)(w:World):Calls Tryz.prog 87 #[.int .u64 a,.int .u64 b] w fun e w'=>e=.returned (.bool (fLt a b))∧w=w':=by
 have HL:Hid (fLt a b=(fOk a b && decide (fCmp a b<0))):=rfl
 cases h:fOk a b
 ·go_enter Tryz.func87,Tryz.ntmps87
  go_wp2_with fail;refine(cmp_any a b ha hb _).mono ?_;rw[h];rintro e w1 ⟨rfl,rfl⟩;go_wp2_with fail;go_ret;exact⟨ret_bool (by rw[HL.out,h];rfl),rfl⟩
 ·go_enter Tryz.func87,Tryz.ntmps87
  go_wp2_with fail;refine(cmp_any a b ha hb _).mono ?_;rw[h];rintro e w1 ⟨rfl,rfl⟩;go_wp2_with fail;go_ret;exact⟨ret_bool (by rw[HL.out,h];rfl),rfl⟩
def fAb (f:Int):Int:=if fC f=4 then f else f % 9223372036854775808
theorem nan_iff {f:Int}(hf:Word f):fC f=4↔9218868437227405312<f % 9223372036854775808:=by
 obtain⟨h0,h1⟩:=hf;unfold fC fE fM;split
 ·split<;>omega
 ·split
  ·split<;>omega
  ·omega
theorem inf_f (s:Bool)(w:World):Calls Tryz.prog 187 #[.bool s] w fun x w'=>x=.returned (.int .u64 (9218868437227405312+sg s))∧w=w':=by
 go_enter Tryz.func187,Tryz.ntmps187;go_wp2_with fail;refine(withSign_any s _ (by decide) (by decide) _).mono ?_;rintro e w1 ⟨rfl,rfl⟩;go_wp2_with fail;go_ret;exact⟨rfl,rfl⟩
theorem quiet_f (w:World):Calls Tryz.prog 108 #[] w fun x w'=>x=.returned (.int .u64 9221120237041090560)∧w=w':=by
 go_enter Tryz.func108,Tryz.ntmps108;go_wp2_with fail;go_ret;exact⟨rfl,rfl⟩
def RetShlV (v:Int)(K:Nat)(w:World)(e:Ending)(w':World):Prop:=∃x,NatC w' x v K∧e=.returned (.tuple #[x,.int .i64 0])∧Below w.heap.size w w'
theorem nshlV {w:World}{x:Value}{p:Int}{L:Nat}(h:NatV w x p L)(N:Int)(hL:L≤1048576)(hN:p≠0→blen p≤65536-max N 0)(K:Nat)(hK:2 ^ (max N 0).toNat*p<2 ^ (32*K)):Calls Tryz.prog 249 #[x,.int .i64 N] w (RetShlV (2 ^ (max N 0).toNat*p) K w):=by
 obtain⟨A,n,c,us,rfl,hn,hc,hr,ha,hv,hl⟩:=h
 by_cases h0:p=0
 ·refine(nshl_zero A n c us N w hn hc hr ha (by omega) (by rw[hv,h0])).mono fun e w' r=>?_
  obtain⟨ws,A',n',c',i,hn',e1,hc',hr',hb⟩:=r;have ez:2 ^ (max N 0).toNat*p=0:=by rw[h0,Int.mul_zero]
  rw[ez]at hK ⊢;exact⟨_,⟨A',n',c',ws,rfl,hn',hc',hr',i,by rw[←hn'];exact i.le hK⟩,e1,hb⟩
 ·refine(nshl_ok A n c us N w hn hc hr ha (by omega) (by rw[hv];exact h0) (by rw[hv];have:=hN h0;omega)).mono fun e w' r=>?_
  rw[hv]at r;obtain⟨ws,A',n',c',i,hn',e1,hc',hr',hb⟩:=r;exact⟨_,⟨A',n',c',ws,rfl,hn',hc',hr',i,by rw[←hn'];exact i.le hK⟩,e1,hb⟩
theorem kp_c {W w1:World}{p:Addr}{a:Value}(hb:Below W.heap.size W w1)(h:W.cell? p=some a):w1.cell? p=some a:=(hb.cell (World.block_lt_of_cell? _ _ h)).trans h
def gZ (e m:Int):Int:=if e=0 then m else(4503599627370496+m)*2 ^ (e-1).toNat
theorem gZ_lt {e m:Int}(h0:0≤e)(m0:0≤m)(m1:m<4503599627370496):0≤gZ e m∧gZ e m<2 ^ (52+e.toNat):=by
 unfold gZ;have e52:(2:Int) ^ 52=4503599627370496:=by decide
 by_cases h:e=0
 ·subst h
  rw[if_pos rfl];refine⟨m0,?_⟩;rw[show 52+(0:Int).toNat=52 from rfl,e52];exact m1
 ·rw[if_neg h]
  have hp:=pow_pos' (e-1).toNat;refine⟨Int.mul_nonneg (by omega) (by omega),?_⟩;rw[show 52+e.toNat=53+(e-1).toNat by omega,Int.pow_add];exact Int.mul_lt_mul_of_pos_right (by rw[show(2:Int) ^ 53=9007199254740992 by decide];omega) hp
theorem gZ_ge {e m:Int}(h0:0<e)(m0:0≤m):2 ^ (52+(e-1).toNat)≤gZ e m:=by
 unfold gZ;rw[if_neg (by omega),Int.pow_add,show(2:Int) ^ 52=4503599627370496 by decide];exact Int.mul_le_mul_of_nonneg_right (by omega) (Int.le_of_lt (pow_pos' _))
theorem gZ_mono {e m e' m':Int}(h0:0≤e)(m0:0≤m)(m1:m<4503599627370496)(h0':0≤e')(m0':0≤m')(m1':m'<4503599627370496)(h:e*4503599627370496+m<e'*4503599627370496+m'):gZ e m<gZ e' m':=by
 by_cases he:e=e'
 ·subst he
  unfold gZ;split
  ·omega
  ·exact Int.mul_lt_mul_of_pos_right (by omega) (pow_pos' _)
 ·have hlt:e<e':=by omega
  have a:=(gZ_lt h0 m0 m1).2;have b:=gZ_ge (e:=e') (m:=m') (by omega) m0';have c:=pow_mono (52+e.toNat) (52+(e'-1).toNat) (by omega);omega
def fZ (f:Int):Int:=sv (fS f) (gZ (fE f) (fM f))
theorem sv_mul (s:Bool)(p c:Int):sv s (p*c)=sv s p*c:=by cases s<;>simp[sv,Int.neg_mul]
def dB (n:Nat):Nat:=2 ^ n
theorem dB_int (n:Nat):((dB n:Nat):Int)=2 ^ n:=by unfold dB;simp
end Go.Proofs.YtkbicfffokegeaaGreatDoor
namespace Go.Proofs.YtkbicfffokegeaaGreatDoor
set_option maxHeartbeats 16000000
open Go.RowKit
theorem word_mod (x:Int):Word (x % 18446744073709551616):=⟨by omega,by omega⟩
theorem word_nat {x:Int}(h:Word x):∃n:Nat,n<18446744073709551616∧x=(n:Int):=
 ⟨x.toNat,by have:=h.1;have:=h.2;omega,by have:=h.1;omega⟩
def V2 (h l:Int):Int:=h*18446744073709551616+l
def V3 (h m l:Int):Int:=h*340282366920938463463374607431768211456+m*18446744073709551616+l
def Ret (P:Value→Prop)(w:World)(e:Ending)(w':World):Prop:=∃v,P v∧e=.returned v∧Below w.heap.size w w'
def Is2 (n:Int)(v:Value):Prop:=∃h l:Int,Word h∧Word l∧V2 h l=n∧v=.agg #[.int .u64 h,.int .u64 l]
def Is3 (n:Int)(v:Value):Prop:=∃h m l:Int,Word h∧Word m∧Word l∧V3 h m l=n∧v=.agg #[.int .u64 h,.int .u64 m,.int .u64 l]
theorem widen_any (h l:Int)(w:World):Calls Tryz.prog 209 #[.agg #[.int .u64 h,.int .u64 l]] w fun e w'=>e=.returned (.agg #[.int .u64 0,.int .u64 h,.int .u64 l])∧Below w.heap.size w w':=by
 go_enter Tryz.func209,Tryz.ntmps209
 go_wp2
 refine bodyPost_ret (by simp[results,Tryz.results209,go_sem]) rfl ⟨rfl,?_⟩;exact bel_alloc (bel_alloc (Below.refl _ _) _) _
theorem wlow_any (h m l:Int)(w:World):Calls Tryz.prog 211 #[.agg #[.int .u64 h,.int .u64 m,.int .u64 l]] w fun e w'=>e=.returned (.agg #[.int .u64 m,.int .u64 l])∧Below w.heap.size w w':=by
 go_enter Tryz.func211,Tryz.ntmps211
 go_wp2
 refine bodyPost_ret (by simp[results,Tryz.results211,go_sem]) rfl ⟨rfl,?_⟩;exact bel_alloc (bel_alloc (Below.refl _ _) _) _
theorem blen_hi {h l b:Int}{k:Nat}(hh:0<h)(hb:(2:Int) ^ k=b)(h0:0≤l)(h1:l<b):blen (h*b+l)=k+blen h:=by
 obtain⟨H,rfl⟩:=Int.eq_ofNat_of_zero_le (Int.le_of_lt hh);obtain⟨L,rfl⟩:=Int.eq_ofNat_of_zero_le h0;have hb':b=((2 ^ k:Nat):Int):=by rw[←hb];simp
 subst hb'
 have e:((H:Int)*((2 ^ k:Nat):Int)+(L:Int)).toNat=H*2 ^ k+L:=by
  rw[←Int.natCast_mul,←Int.natCast_add];exact Int.toNat_natCast _
 have hp:0<2 ^ k:=Nat.two_pow_pos k
 have q:(H*2 ^ k+L) / 2 ^ k=H:=by
  rw[Nat.add_comm,Nat.add_mul_div_right _ _ hp,Nat.div_eq_of_lt (by omega)];omega
 unfold blen;rw[e,bitLen_shift (H*2 ^ k+L) k (by rw[q];omega),q]
 simp
theorem blen_word_le {x:Int}(h:Word x):0≤blen x∧blen x≤64:=by
 refine⟨by unfold blen;omega,?_⟩;obtain⟨h0,h1⟩:=h;unfold blen Go.bitLen;split
 ·omega
 ·rename_i hx
  have:=(Nat.log2_lt hx).2 (show x.toNat<2 ^ 64 by omega);omega
theorem len2 (h l:Int)(h1:Word h)(h2:Word l)(w:World) :
  Calls Tryz.prog 155 #[.agg #[.int .u64 h,.int .u64 l]] w fun e w'=>e=.returned (.int .i64 (blen (V2 h l)))∧Below w.heap.size w w':=by
 by_cases h0:h=0
 ·subst h0
  have F:Hid (((Lib.bitLen l.toNat:Nat):Int)=blen (V2 0 l)):=by
   show _=_;rw[blen_word h2]
   simp[V2]
  go_enter Tryz.func155,Tryz.ntmps155
  go_wp2_with (go_at_call 182;refine(len64 l h2 _).mono ?_;rintro e w1 ⟨rfl,rfl⟩)
  go_ret;exact⟨ret_int F.out,bel_alloc (Below.refl _ _) _⟩
 ·have t0:(h != 0)=true:=by simp[h0]
  have F:Hid (64+((Lib.bitLen h.toNat:Nat):Int)=blen (V2 h l)):=by
   show _=_;rw[blen_word h1];unfold V2;rw[blen_hi (k:=64) (by have:=h1.1;omega) (by decide) h2.1 h2.2];rfl
  have b1:=blen_word_le h1;have b2:((Lib.bitLen h.toNat:Nat):Int)≤64:=by rw[blen_word h1];exact b1.2
  clear h0 b1;go_enter Tryz.func155,Tryz.ntmps155
  go_wp2_with (go_at_call 182;refine(len64 h h1 _).mono ?_;rintro e w1 ⟨rfl,rfl⟩)
  go_ret;exact⟨ret_int F.out,bel_alloc (Below.refl _ _) _⟩
theorem wpow_split (j:Nat)(hj:j≤64):(2:Int) ^ (64-j)*2 ^ j=18446744073709551616:=by
 rw[←Int.pow_add,show 64-j+j=64 by omega]
 decide
theorem wshl_split (x:Int)(j:Nat)(hj:j≤64):x*2 ^ j=x / 2 ^ (64-j)*18446744073709551616+IntKind.u64.wrap (x*2 ^ j):=by
 have e:x*2 ^ j / 18446744073709551616=x / 2 ^ (64-j):=by
  rw[←wpow_split j hj];exact Int.mul_ediv_mul_of_pos_left _ _ (pow_pos' j)
 rw[IntKind.wrap_u64,←e];omega
theorem wshr_lt (y:Int)(hy:Word y)(j:Nat)(hj:j≤64):0≤y / 2 ^ (64-j)∧y / 2 ^ (64-j)<2 ^ j:=by
 refine⟨Int.ediv_nonneg hy.1 (Int.le_of_lt (pow_pos' _)),?_⟩;have:=wpow_split j hj;rw[Int.ediv_lt_iff_lt_mul (pow_pos' _),Int.mul_comm,this];exact hy.2
theorem pow_le64 (j:Nat)(hj:j≤64):(2:Int) ^ j≤18446744073709551616:=by
 have h1:=wpow_split j hj;have h2:=pow_pos' (64-j);have h3:=pow_pos' j;have:1*(2:Int) ^ j≤2 ^ (64-j)*2 ^ j:=Int.mul_le_mul_of_nonneg_right (by omega) (Int.le_of_lt h3);omega
theorem wor_shl (x y:Int)(hx:Word x)(hy:0≤y)(j:Nat)(hj:j≤64)(hy':y<2 ^ j) :
  bits .or .u64 (IntKind.u64.wrap (x*2 ^ j)) y=IntKind.u64.wrap (x*2 ^ j)+y:=by
 obtain⟨x,hx',rfl⟩:=word_nat hx;obtain⟨y,rfl⟩:=Int.eq_ofNat_of_zero_le hy;have hp:=pow_le64 j hj
 have e:IntKind.u64.wrap ((x:Int)*2 ^ j)=((2 ^ j*(x % 2 ^ (64-j)):Nat):Int):=by
  rw[IntKind.wrap_u64,show(18446744073709551616:Int)=((2 ^ (64-j)*2 ^ j:Nat):Int) by simp[wpow_split j hj],show((x:Int)*2 ^ j)=((x*2 ^ j:Nat):Int) by simp,←Int.natCast_emod,Nat.mul_mod_mul_right,Nat.mul_comm]
 have hyn:y<2 ^ j:=by
  have:(y:Int)<((2 ^ j:Nat):Int):=by simpa using hy'
  omega
 have hlt:2 ^ j*(x % 2 ^ (64-j))+y<18446744073709551616:=by
  have h1:x % 2 ^ (64-j)+1≤2 ^ (64-j):=Nat.mod_lt _ (Nat.two_pow_pos _);have h2:2 ^ j*(x % 2 ^ (64-j)+1)≤2 ^ j*2 ^ (64-j):=Nat.mul_le_mul_left _ h1;rw[←Nat.pow_add,show j+(64-j)=64 by omega,Nat.mul_add]at h2;omega
 rw[e,bits_or_u64_nat _ _ (by omega) (by omega),←Nat.two_pow_add_eq_or_of_lt hyn,Int.natCast_add]
theorem or_lt (x:Int)(j:Nat)(hj:j≤64):0≤IntKind.u64.wrap (x*2 ^ j)∧IntKind.u64.wrap (x*2 ^ j)+2 ^ j≤18446744073709551616:=by
 refine⟨by rw[IntKind.wrap_u64];omega,?_⟩
 have e:IntKind.u64.wrap (x*2 ^ j)=x % 2 ^ (64-j)*2 ^ j:=by
  rw[IntKind.wrap_u64,←wpow_split j hj,Int.mul_comm x,Int.mul_comm (2 ^ (64-j)),Int.mul_emod_mul_of_pos _ _ (pow_pos' j),Int.mul_comm]
 have h1:=Int.emod_lt_of_pos x (pow_pos' (64-j));have h2:(x % 2 ^ (64-j)+1)*2 ^ j≤2 ^ (64-j)*2 ^ j:=Int.mul_le_mul_of_nonneg_right (by omega) (Int.le_of_lt (pow_pos' j));rw[wpow_split j hj,Int.add_mul]at h2;rw[e];omega
def wshlV (v:Int)(k:Nat):Int:=v*2 ^ k % 6277101735386680763835789423207666416102355444464034512896
theorem shlV_word (h m l j:Int)(hj:64≤j):wshlV (V3 m l 0) (j-64).toNat=wshlV (V3 h m l) j.toNat:=by
 unfold wshlV
 have e:(2:Int) ^ j.toNat=18446744073709551616*2 ^ (j-64).toNat:=by
  rw[show j.toNat=64+(j-64).toNat by omega,Int.pow_add];rfl
 have e2:V3 h m l*2 ^ j.toNat=V3 m l 0*2 ^ (j-64).toNat+h*2 ^ (j-64).toNat*6277101735386680763835789423207666416102355444464034512896:=by
  rw[e,←Int.mul_assoc,show V3 h m l*18446744073709551616=V3 m l 0+h*6277101735386680763835789423207666416102355444464034512896 by unfold V3;omega,Int.add_mul,Int.mul_right_comm]
 rw[e2,Int.add_mul_emod_self_right]
theorem shlV_big (v:Int)(k:Nat)(hk:192≤k):wshlV v k=0:=by
 unfold wshlV;rw[show k=192+(k-192) by omega,Int.pow_add,show(2:Int) ^ 192=6277101735386680763835789423207666416102355444464034512896 by decide,←Int.mul_assoc,Int.mul_right_comm];exact Int.mul_emod_left _ _
theorem toNat_sub64 {j:Int}(h0:0≤j)(hj:j<64):(64-j).toNat=64-j.toNat:=by omega
theorem shl3_eq {h m l j:Int}(w1:Word h)(w2:Word m)(w3:Word l)(hj0:0≤j)(hj:j<64) :
  Is3 (wshlV (V3 h m l) j.toNat) (.agg #[.int .u64 (bits BinOp.or IntKind.u64 (IntKind.u64.wrap (h*2 ^ j.toNat)) (m / 2 ^ (64-j).toNat)),.int .u64 (bits BinOp.or IntKind.u64 (IntKind.u64.wrap (m*2 ^ j.toNat)) (l / 2 ^ (64-j).toNat)),.int .u64 (IntKind.u64.wrap (l*2 ^ j.toNat))]):=by
 rw[toNat_sub64 hj0 hj];have hk:j.toNat≤64:=by omega
 generalize j.toNat=k at *;have s1:=wshr_lt m w2 k hk;have s2:=wshr_lt l w3 k hk;have e1:=wshl_split h k hk;have e2:=wshl_split m k hk;have e3:=wshl_split l k hk;rw[wor_shl h _ w1 s1.1 k hk s1.2,wor_shl m _ w2 s2.1 k hk s2.2];have b1:=or_lt h k hk;have b2:=or_lt m k hk;have b3:=or_lt l k hk;have hp:=pow_pos' k
 have eV:V3 h m l*2 ^ k=h*2 ^ k*340282366920938463463374607431768211456+m*2 ^ k*18446744073709551616+l*2 ^ k:=by
  unfold V3;rw[Int.add_mul,Int.add_mul,Int.mul_right_comm,Int.mul_right_comm m]
 generalize IntKind.u64.wrap (h*2 ^ k)=H at *;generalize IntKind.u64.wrap (m*2 ^ k)=M at *;generalize IntKind.u64.wrap (l*2 ^ k)=L at *;generalize m / 2 ^ (64-k)=mq at *;generalize l / 2 ^ (64-k)=lq at *;generalize h / 2 ^ (64-k)=hq at *;generalize h*2 ^ k=hp' at *;generalize m*2 ^ k=mp at *;generalize l*2 ^ k=lp at *;refine⟨_,_,_,⟨by omega,by omega⟩,⟨by omega,by omega⟩,⟨by omega,by omega⟩,?_,rfl⟩;unfold wshlV;rw[eV];unfold V3;omega
theorem shl3_small (ah am al n:Int)(h1:Word ah)(h2:Word am)(h3:Word al)(hn:n<192)(hn':-9223372036854775808≤n)(w:World) :
  Calls Tryz.prog 210 #[.agg #[.int .u64 ah,.int .u64 am,.int .u64 al],.int .i64 n] w (Ret (Is3 (wshlV (V3 ah am al) n.toNat)) w):=by
 go_enter Tryz.func210,Tryz.ntmps210
 go_wp2
 go_loopw [1] (fun s1 wr=>∃(j h m l:Int),0≤j∧j<192∧s1=.int .i64 j∧Word h∧Word m∧Word l∧wshlV (V3 h m l) j.toNat=wshlV (V3 ah am al) n.toNat∧wr=(w.alloc (.cells #[.int .u64 h,.int .u64 m,.int .u64 l] 266)).alloc (.cells #[.int .u64 0,.int .u64 0,.int .u64 0] 266)) (fun s1 _=>(intOf s1).toNat)
 case atStart=>exact⟨max n 0,ah,am,al,by omega,by omega,rfl,h1,h2,h3,by rw[show(max n 0).toNat=n.toNat by omega],rfl⟩
 case round=>
  obtain⟨j,h,m,l,hj0,hj,rfl,wh,wm,wl,hv,rfl⟩:=hrel;have HV:=Hj hv;clear hv
  by_cases hc:64≤j
  ·go_wp2
   go_roundw
   case rel=>exact⟨j-64,m,l,0,by omega,by omega,rfl,wm,wl,⟨by decide,by decide⟩,(by rw[←HV.out];exact shlV_word h m l j hc),rfl⟩
   case measure=>simp[intOf];omega
  ·have fin:=shl3_eq wh wm wl hj0 (by omega)
   rw[HV.out]at fin
   go_wp2
   go_region
   go_wp2
   refine bodyPost_ret (by simp[results,Tryz.results210,go_sem]) rfl ⟨_,fin,rfl,?_⟩;exact bel_drew (bel_alloc (bel_alloc (Below.refl _ _) _) _)
theorem shl3 (ah am al n:Int)(h1:Word ah)(h2:Word am)(h3:Word al)(hn':-9223372036854775808≤n)(w:World) :
  Calls Tryz.prog 210 #[.agg #[.int .u64 ah,.int .u64 am,.int .u64 al],.int .i64 n] w (Ret (Is3 (wshlV (V3 ah am al) n.toNat)) w):=by
 by_cases hn:n<192
 ·exact shl3_small ah am al n h1 h2 h3 hn hn' w
 ·have fin:Is3 (wshlV (V3 ah am al) n.toNat) (.agg #[.int .u64 0,.int .u64 0,.int .u64 0]):=by
   rw[shlV_big _ _ (by omega)];exact⟨0,0,0,⟨by decide,by decide⟩,⟨by decide,by decide⟩,⟨by decide,by decide⟩,by decide,rfl⟩
  go_enter Tryz.func210,Tryz.ntmps210
  go_wp2
  refine bodyPost_ret (by simp[results,Tryz.results210,go_sem]) rfl ⟨_,fin,rfl,?_⟩;exact bel_alloc (bel_alloc (Below.refl _ _) _) _
def shlV2 (v:Int)(k:Nat):Int:=v*2 ^ k % 340282366920938463463374607431768211456
theorem shl2_eq {h l h' m' l':Int}{k:Nat}(w2:Word m')(w3:Word l')(hv:V3 h' m' l'=wshlV (V3 0 h l) k):V2 m' l'=shlV2 (V2 h l) k:=by
 have e:V3 0 h l=V2 h l:=by unfold V3 V2;omega
 obtain⟨_,_⟩:=w2;obtain⟨_,_⟩:=w3;rw[e]at hv;unfold wshlV at hv;unfold shlV2;unfold V3 at hv;generalize V2 h l*2 ^ k=x at *;unfold V2;omega
theorem shl2 (h l n:Int)(h1:Word h)(h2:Word l)(hn':-9223372036854775808≤n)(w:World) :
  Calls Tryz.prog 184 #[.agg #[.int .u64 h,.int .u64 l],.int .i64 n] w (Ret (Is2 (shlV2 (V2 h l) n.toNat)) w):=by
 go_enter Tryz.func184,Tryz.ntmps184;go_wp2_with fail;refine(widen_any _ _ _).mono ?_;rintro e w1 ⟨rfl,hb1⟩;go_wp2_with fail;refine(shl3 _ _ _ _ ⟨by decide,by decide⟩ h1 h2 hn' _).mono ?_;rintro e w2 ⟨v,⟨h',m',l',wh,wm,wl,hv,rfl⟩,rfl,hb2⟩;have HV:=Hj hv;clear hv;go_wp2_with fail;refine(wlow_any _ _ _ _).mono ?_;rintro e w3 ⟨rfl,hb3⟩;have hb:=bel_trans (bel_alloc (bel_trans hb1 hb2) _) hb3;have r0:=hb.cell (p:=⟨w.heap.size+1,0,none⟩) (by simp);have r1:=hb.cell (p:=⟨w.heap.size+1,1,none⟩) (by simp);have f0:=hb.frozen (p:=⟨w.heap.size+1,0,none⟩) (by simp);have f1:=hb.frozen (p:=⟨w.heap.size+1,1,none⟩) (by simp)
 simp[go_sem]at r0 r1 f0 f1
 have HB:=Hj hb;clear hb hb1 hb2 hb3
 go_wp2
 refine bodyPost_ret (by simp[results,Tryz.results184,go_sem,r0,r1]) rfl ⟨_,⟨m',l',wm,wl,shl2_eq wm wl HV.out,rfl⟩,rfl,?_⟩;exact bel_set (bel_set (bel_trans (bel_alloc (bel_alloc (Below.refl _ _) _) _) HB.out) (by simp) _) (by simp) _
def IsShr3 (a:Int)(k:Nat)(v:Value):Prop:=∃h m l:Int,Word h∧Word m∧Word l∧V3 h m l=a / 2 ^ k∧v=.tuple #[.agg #[.int .u64 h,.int .u64 m,.int .u64 l],.bool (decide (a % 2 ^ k≠0))]
theorem or_comm_u64 {a b:Int}(ha:Word a)(hb:Word b):bits .or .u64 a b=bits .or .u64 b a:=by
 obtain⟨a,ha',rfl⟩:=word_nat ha;obtain⟨b,hb',rfl⟩:=word_nat hb;rw[bits_or_u64_nat _ _ ha' hb',bits_or_u64_nat _ _ hb' ha',Nat.or_comm]
theorem word_wrap (x:Int):Word (IntKind.u64.wrap x):=by rw[IntKind.wrap_u64];exact word_mod _
theorem V3_pos {h m l:Int}(w1:Word h)(w2:Word m)(w3:Word l):0≤V3 h m l∧V3 h m l<6277101735386680763835789423207666416102355444464034512896:=by
 obtain⟨_,_⟩:=w1;obtain⟨_,_⟩:=w2;obtain⟨_,_⟩:=w3;unfold V3
 constructor<;>omega
theorem shr_word (h m l j:Int)(w3:Word l)(hj:64≤j):V3 0 h m / 2 ^ (j-64).toNat=V3 h m l / 2 ^ j.toNat∧(V3 h m l % 2 ^ j.toNat≠0↔l≠0∨V3 0 h m % 2 ^ (j-64).toNat≠0):=by
 have e:(2:Int) ^ j.toNat=18446744073709551616*2 ^ (j-64).toNat:=by
  rw[show j.toNat=64+(j-64).toNat by omega,Int.pow_add];rfl
 have e2:V3 h m l=V3 0 h m*18446744073709551616+l:=by unfold V3;omega
 have hp:=pow_pos' (j-64).toNat;obtain⟨l0,l1⟩:=w3;rw[e];generalize (2:Int) ^ (j-64).toNat=p at *;generalize V3 0 h m=q at *;rw[e2];have d1:(q*18446744073709551616+l) / 18446744073709551616=q:=by omega
 have d2:(q*18446744073709551616+l) / (18446744073709551616*p)=q / p:=by
  rw[←Int.ediv_ediv_of_nonneg (by decide),d1]
 refine⟨d2.symm,?_⟩
 have d3:(q*18446744073709551616+l) % (18446744073709551616*p)=(q % p)*18446744073709551616+l:=by
  have k1:=Int.mul_ediv_add_emod (q*18446744073709551616+l) (18446744073709551616*p);have k2:=Int.mul_ediv_add_emod q p;rw[d2,Int.mul_assoc]at k1;omega
 rw[d3];have:=Int.emod_nonneg q (Int.ne_of_gt hp);omega
theorem shr3_eq {h m l:Int}(w1:Word h)(w2:Word m)(w3:Word l)(k:Nat)(hk:k<64) :
  (∃h' m' l':Int,Word h'∧Word m'∧Word l'∧V3 h' m' l'=V3 h m l / 2 ^ k∧h'=h / 2 ^ k∧m'=bits BinOp.or IntKind.u64 (m / 2 ^ k) (IntKind.u64.wrap (h*2 ^ (64-k)))∧l'=bits BinOp.or IntKind.u64 (l / 2 ^ k) (IntKind.u64.wrap (m*2 ^ (64-k))))
   ∧ (V3 h m l % 2 ^ k≠0↔IntKind.u64.wrap (l*2 ^ (64-k))≠0):=by
 have hb:=wpow_split k (by omega);have hp:=pow_pos' k;have hq:=pow_pos' (64-k);have s1:=wshr_lt m w2 (64-k) (by omega);have s2:=wshr_lt l w3 (64-k) (by omega);have s0:=wshr_lt h w1 (64-k) (by omega);have t0:=pow_le64 (64-k) (by omega);have b1:=or_lt h (64-k) (by omega);have b2:=or_lt m (64-k) (by omega);rw[show 64-(64-k)=k by omega]at s0 s1 s2
 have wr:∀x:Int,IntKind.u64.wrap (x*2 ^ (64-k))=x % 2 ^ k*2 ^ (64-k):=fun x=>by
  rw[IntKind.wrap_u64,←hb,Int.mul_comm x,Int.mul_emod_mul_of_pos _ _ hq,Int.mul_comm]
 rw[or_comm_u64 (word_div w2 k) (word_wrap _),or_comm_u64 (word_div w3 k) (word_wrap _),wor_shl h _ w1 s1.1 _ (by omega) s1.2,wor_shl m _ w2 s2.1 _ (by omega) s2.2];have xh:IntKind.u64.wrap (h*2 ^ (64-k))*2 ^ k=h % 2 ^ k*18446744073709551616:=by rw[wr,Int.mul_assoc,hb]
 have xm:IntKind.u64.wrap (m*2 ^ (64-k))*2 ^ k=m % 2 ^ k*18446744073709551616:=by rw[wr,Int.mul_assoc,hb]
 have zl:IntKind.u64.wrap (l*2 ^ (64-k))≠0↔l % 2 ^ k≠0:=by
  rw[wr];refine⟨fun h e=>h (by rw[e];simp),fun h e=>?_⟩;rcases Int.mul_eq_zero.1 e with e|e
  ·exact h e
  ·omega
 have dh:=Int.ediv_mul_add_emod h (2 ^ k);have dm:=Int.ediv_mul_add_emod m (2 ^ k);have dl:=Int.ediv_mul_add_emod l (2 ^ k);have rl:=Int.emod_nonneg l (Int.ne_of_gt hp);have rl':=Int.emod_lt_of_pos l hp;rw[zl];generalize IntKind.u64.wrap (h*2 ^ (64-k))=X at *;generalize IntKind.u64.wrap (m*2 ^ (64-k))=Y at *
 have eV:V3 (h / 2 ^ k) (X+m / 2 ^ k) (Y+l / 2 ^ k)*2 ^ k+l % 2 ^ k=V3 h m l:=by
  unfold V3;rw[Int.add_mul,Int.add_mul,Int.mul_right_comm,Int.mul_right_comm (X+m / 2 ^ k),Int.add_mul X,Int.add_mul Y];omega
 have eD:V3 h m l / 2 ^ k=V3 (h / 2 ^ k) (X+m / 2 ^ k) (Y+l / 2 ^ k):=by
  rw[←eV,Int.add_comm,Int.add_mul_ediv_right _ _ (Int.ne_of_gt hp),Int.ediv_eq_zero_of_lt rl rl'];omega
 have eM:V3 h m l % 2 ^ k=l % 2 ^ k:=by
  rw[←eV,Int.add_comm,Int.add_mul_emod_self_right,Int.emod_emod_of_dvd _ (Int.dvd_refl _)]
 rw[eM];exact⟨⟨_,_,_,word_div w1 k,⟨by omega,by omega⟩,⟨by omega,by omega⟩,eD.symm,rfl,rfl,rfl⟩,Iff.rfl⟩
theorem shr_done {h m l j:Int}{lo:Bool}{a:Int}{k:Nat}(w1:Word h)(w2:Word m)(w3:Word l)(hj0:0≤j)(hj:j<64)(hd:V3 h m l / 2 ^ j.toNat=a / 2 ^ k)
  (hm:(lo || decide (V3 h m l % 2 ^ j.toNat≠0))=decide (a % 2 ^ k≠0)) :
  IsShr3 a k (.tuple #[.agg #[.int .u64 (h / 2 ^ j.toNat),.int .u64 (bits BinOp.or IntKind.u64 (m / 2 ^ j.toNat) (IntKind.u64.wrap (h*2 ^ (64-j).toNat))),.int .u64 (bits BinOp.or IntKind.u64 (l / 2 ^ j.toNat) (IntKind.u64.wrap (m*2 ^ (64-j).toNat)))],.bool (lo || IntKind.u64.wrap (l*2 ^ (64-j).toNat) != 0)]):=by
 rw[toNat_sub64 hj0 hj];obtain⟨⟨h',m',l',g1,g2,g3,g4,rfl,rfl,rfl⟩,g5⟩:=shr3_eq w1 w2 w3 j.toNat (by omega)
 have e:(IntKind.u64.wrap (l*2 ^ (64-j.toNat)) != 0)=decide (V3 h m l % 2 ^ j.toNat≠0):=by
  rw[Bool.eq_iff_iff];simp only[bne_iff_ne,decide_eq_true_eq];exact g5.symm
 rw[e,hm];exact⟨_,_,_,g1,g2,g3,g4.trans hd,rfl⟩
theorem shr3_small (ah am al n:Int)(h1:Word ah)(h2:Word am)(h3:Word al)(hn:n<192)(hn':-9223372036854775808≤n)(w:World) :
  Calls Tryz.prog 212 #[.agg #[.int .u64 ah,.int .u64 am,.int .u64 al],.int .i64 n] w (Ret (IsShr3 (V3 ah am al) n.toNat) w):=by
 have t0:decide (192≤n)=false:=by simp;omega
 go_enter Tryz.func212,Tryz.ntmps212
 go_wp2
 go_loopw [1,6] (fun s1 s6 wr=>∃(j h m l:Int) (lo:Bool),0≤j∧j<192∧s1=.int .i64 j∧s6=.bool lo∧Word h∧Word m∧Word l∧V3 h m l / 2 ^ j.toNat=V3 ah am al / 2 ^ n.toNat∧(lo || decide (V3 h m l % 2 ^ j.toNat≠0))=decide (V3 ah am al % 2 ^ n.toNat≠0)∧wr=(w.alloc (.cells #[.int .u64 h,.int .u64 m,.int .u64 l] 266)).alloc (.cells #[.int .u64 0,.int .u64 0,.int .u64 0] 266)) (fun s1 _ _=>(intOf s1).toNat)
 case atStart=>exact⟨max n 0,ah,am,al,false,by omega,by omega,rfl,rfl,h1,h2,h3,by rw[show(max n 0).toNat=n.toNat by omega],by rw[show(max n 0).toNat=n.toNat by omega];rfl,rfl⟩
 case round=>
  obtain⟨j,h,m,l,lo,hj0,hj,rfl,rfl,wh,wm,wl,hd,hm,rfl⟩:=hrel;have HD:=Hj hd;have HM:=Hj hm;clear hd hm
  by_cases hc:64≤j
  ·have g:=shr_word h m l j wl hc
   have HR:Hid (V3 0 h m / 2 ^ (j-64).toNat=V3 ah am al / 2 ^ n.toNat):=g.1.trans HD.out
   have HS:Hid (((lo || l != 0) || decide (V3 0 h m % 2 ^ (j-64).toNat≠0))=decide (V3 ah am al % 2 ^ n.toNat≠0)):=by
    show _=_;rw[←HM.out,Bool.or_assoc]
    congr 1
    rw[Bool.eq_iff_iff];simp only[Bool.or_eq_true,bne_iff_ne,decide_eq_true_eq];exact g.2.symm
   clear g HD HM;cases lo
   iterate 2
    ·go_wp2
     go_roundw
     case rel=>exact⟨j-64,0,h,m,_,by omega,by omega,rfl,rfl,⟨by decide,by decide⟩,wh,wm,HR.out,HS.out,rfl⟩
     case measure=>simp[intOf];omega
  ·have fin:=shr_done wh wm wl hj0 (by omega) HD.out HM.out
   clear HD HM;cases lo
   iterate 2
    ·go_wp2
     go_region
     go_wp2
     refine bodyPost_ret (by simp[results,Tryz.results212,go_sem]) rfl ⟨_,fin,rfl,?_⟩;exact bel_drew (bel_alloc (bel_alloc (Below.refl _ _) _) _)
theorem shr_big {v:Int}{k:Nat}(h0:0≤v)(h1:v<6277101735386680763835789423207666416102355444464034512896)(hk:192≤k):v / 2 ^ k=0∧v % 2 ^ k=v:=by
 have e:(2:Int) ^ k=6277101735386680763835789423207666416102355444464034512896*2 ^ (k-192):=by
  rw[show k=192+(k-192) by omega,Int.pow_add,show(2:Int) ^ 192=6277101735386680763835789423207666416102355444464034512896 by decide,show 192+(k-192)-192=k-192 by omega]
 have hp:=pow_pos' (k-192)
 have:v<2 ^ k:=by
  have:6277101735386680763835789423207666416102355444464034512896*1≤6277101735386680763835789423207666416102355444464034512896*(2:Int) ^ (k-192):=Int.mul_le_mul_of_nonneg_left (by omega) (by decide);omega
 exact⟨Int.ediv_eq_zero_of_lt h0 this,Int.emod_eq_of_lt h0 this⟩
theorem V3_zero {h m l:Int}(w1:Word h)(w2:Word m)(w3:Word l):V3 h m l≠0↔¬(h=0∧m=0∧l=0):=by
 obtain⟨_,_⟩:=w1;obtain⟨_,_⟩:=w2;obtain⟨_,_⟩:=w3;unfold V3;omega
theorem shr3 (ah am al n:Int)(h1:Word ah)(h2:Word am)(h3:Word al)(hn':-9223372036854775808≤n)(w:World) :
  Calls Tryz.prog 212 #[.agg #[.int .u64 ah,.int .u64 am,.int .u64 al],.int .i64 n] w (Ret (IsShr3 (V3 ah am al) n.toNat) w):=by
 by_cases hn:n<192
 ·exact shr3_small ah am al n h1 h2 h3 hn hn' w
 ·have g:=V3_pos h1 h2 h3
  have b:=shr_big g.1 g.2 (k:=n.toNat) (by omega);have z:=V3_zero h1 h2 h3
  have fin:IsShr3 (V3 ah am al) n.toNat (.tuple #[.agg #[.int .u64 0,.int .u64 0,.int .u64 0],.bool (decide (V3 ah am al≠0))]):=by
   refine⟨0,0,0,⟨by decide,by decide⟩,⟨by decide,by decide⟩,⟨by decide,by decide⟩,by rw[b.1];decide,by rw[b.2]⟩
  clear g b
  by_cases hz:ah=0∧am=0∧al=0
  ·obtain⟨rfl,rfl,rfl⟩:=hz
   rw[show decide (V3 0 0 0≠0)=false by decide]at fin;clear z;go_enter Tryz.func212,Tryz.ntmps212
   go_wp2
   go_region
   go_wp2
   refine bodyPost_ret (by simp[results,Tryz.results212,go_sem]) rfl ⟨_,fin,rfl,?_⟩;exact bel_drew (bel_alloc (bel_alloc (Below.refl _ _) _) _)
  ·rw[show decide (V3 ah am al≠0)=true by simp only[decide_eq_true_eq];exact z.2 hz]at fin
   clear z
   by_cases z1:ah=0
   ·subst z1
    by_cases z2:am=0
    ·subst z2
     have z3:¬al=0:=fun e=>hz ⟨rfl,rfl,e⟩;clear hz;go_enter Tryz.func212,Tryz.ntmps212
     go_wp2
     go_region
     go_wp2
     refine bodyPost_ret (by simp[results,Tryz.results212,go_sem]) rfl ⟨_,fin,rfl,?_⟩;exact bel_drew (bel_alloc (bel_alloc (Below.refl _ _) _) _)
    ·clear hz
     go_enter Tryz.func212,Tryz.ntmps212
     go_wp2
     go_region
     go_wp2
     refine bodyPost_ret (by simp[results,Tryz.results212,go_sem]) rfl ⟨_,fin,rfl,?_⟩;exact bel_drew (bel_alloc (bel_alloc (Below.refl _ _) _) _)
   ·clear hz
    go_enter Tryz.func212,Tryz.ntmps212
    go_wp2
    go_region
    go_wp2
    refine bodyPost_ret (by simp[results,Tryz.results212,go_sem]) rfl ⟨_,fin,rfl,?_⟩;exact bel_drew (bel_alloc (bel_alloc (Below.refl _ _) _) _)
def IsShr2 (a:Int)(k:Nat)(v:Value):Prop:=∃h l:Int,Word h∧Word l∧V2 h l=a / 2 ^ k∧v=.tuple #[.agg #[.int .u64 h,.int .u64 l],.bool (decide (a % 2 ^ k≠0))]
theorem shr2_eq {h l h' m' l':Int}{k:Nat}(w1:Word h)(w2:Word l)(g1:Word h')(g2:Word m')(g3:Word l')(hv:V3 h' m' l'=V3 0 h l / 2 ^ k):V2 m' l'=V2 h l / 2 ^ k:=by
 have e:V3 0 h l=V2 h l:=by unfold V3 V2;omega
 have hb:V2 h l / 2 ^ k≤V2 h l:=Int.ediv_le_self _ (by obtain⟨_,_⟩:=w1;obtain⟨_,_⟩:=w2;unfold V2;omega);rw[e]at hv;rw[←hv]at hb ⊢;obtain⟨_,_⟩:=w1;obtain⟨_,_⟩:=w2;obtain⟨_,_⟩:=g1;obtain⟨_,_⟩:=g2;obtain⟨_,_⟩:=g3;unfold V3 V2 at *;omega
theorem shr2 (h l n:Int)(h1:Word h)(h2:Word l)(hn':-9223372036854775808≤n)(w:World) :
  Calls Tryz.prog 185 #[.agg #[.int .u64 h,.int .u64 l],.int .i64 n] w (Ret (IsShr2 (V2 h l) n.toNat) w):=by
 go_enter Tryz.func185,Tryz.ntmps185;go_wp2_with fail;refine(widen_any _ _ _).mono ?_;rintro e w1 ⟨rfl,hb1⟩;go_wp2_with fail;refine(shr3 _ _ _ _ ⟨by decide,by decide⟩ h1 h2 hn' _).mono ?_;rintro e w2 ⟨v,⟨h',m',l',wh,wm,wl,hv,rfl⟩,rfl,hb2⟩;have HV:=Hj hv;clear hv;have e0:V3 0 h l=V2 h l:=by unfold V3 V2;omega
 rw[e0];clear e0;generalize hlo:decide (V2 h l % 2 ^ n.toNat≠0)=lo;have fin:IsShr2 (V2 h l) n.toNat (.tuple #[.agg #[.int .u64 m',.int .u64 l'],.bool lo]):=⟨m',l',wm,wl,shr2_eq h1 h2 wh wm wl HV.out,by rw[←hlo]⟩;clear hlo HV;go_wp2_with fail;refine(wlow_any _ _ _ _).mono ?_;rintro e w3 ⟨rfl,hb3⟩;have hb:=bel_trans (bel_alloc (bel_trans hb1 hb2) _) hb3;have r0:=hb.cell (p:=⟨w.heap.size+1,0,none⟩) (by simp);have r1:=hb.cell (p:=⟨w.heap.size+1,1,none⟩) (by simp);have f0:=hb.frozen (p:=⟨w.heap.size+1,0,none⟩) (by simp);have f1:=hb.frozen (p:=⟨w.heap.size+1,1,none⟩) (by simp)
 simp[go_sem]at r0 r1 f0 f1
 have HB:=Hj hb;clear hb hb1 hb2 hb3
 go_wp2
 refine bodyPost_ret (by simp[results,Tryz.results185,go_sem,r0,r1]) rfl ⟨_,fin,rfl,?_⟩;exact bel_set (bel_set (bel_trans (bel_alloc (bel_alloc (Below.refl _ _) _) _) HB.out) (by simp) _) (by simp) _
end Go.Proofs.YtkbicfffokegeaaGreatDoor
