/-
  Whatever program is handed in, CheckChecks answers true. (part 9 of 38) Conditions: none beside what the card ties.
-/
import Derived.Test.YtkbicfffokegeaaGreatDoorCad
namespace Go.Proofs.YtkbicfffokegeaaGreatDoor
set_option maxHeartbeats 16000000
open Go.RowKit
theorem aGe (x:Int):bC (x % 18446744073709551616):=⟨by omega,by omega⟩
theorem uZ {x:Int}(h:bC x):∃n:Nat,n<18446744073709551616∧x=(n:Int):=
 ⟨x.toNat,by have:=h.1;have:=h.2;omega,by have:=h.1;omega⟩
def V2 (h l:Int):Int:=h*18446744073709551616+l
def V3 (h m l:Int):Int:=h*340282366920938463463374607431768211456+m*18446744073709551616+l
def Ret (P:Value→Prop)(w:World)(e:Ending)(w':World):Prop:=∃v,P v∧e=.returned v∧Below w.heap.size w w'
def Is2 (n:Int)(v:Value):Prop:=∃h l:Int,bC h∧bC l∧V2 h l=n∧v=.agg #[.int .u64 h,.int .u64 l]
def Is3 (n:Int)(v:Value):Prop:=∃h m l:Int,bC h∧bC m∧bC l∧V3 h m l=n∧v=.agg #[.int .u64 h,.int .u64 m,.int .u64 l]
theorem yN (h l:Int)(w:World):Calls Tryz.prog 209 #[.agg #[.int .u64 h,.int .u64 l]] w fun e w'=>e=.returned (.agg #[.int .u64 0,.int .u64 h,.int .u64 l])∧Below w.heap.size w w':=by
 go_enter Tryz.func209,Tryz.ntmps209
 go_wp2
 refine bodyPost_ret (by simp[results,Tryz.results209,go_sem]) rfl ⟨rfl,?_⟩;exact aI (aI (Below.refl _ _) _) _
theorem aBg (h m l:Int)(w:World):Calls Tryz.prog 211 #[.agg #[.int .u64 h,.int .u64 m,.int .u64 l]] w fun e w'=>e=.returned (.agg #[.int .u64 m,.int .u64 l])∧Below w.heap.size w w':=by
 go_enter Tryz.func211,Tryz.ntmps211
 go_wp2
 refine bodyPost_ret (by simp[results,Tryz.results211,go_sem]) rfl ⟨rfl,?_⟩;exact aI (aI (Below.refl _ _) _) _
theorem aKx {h l b:Int}{k:Nat}(hh:0<h)(hb:(2:Int) ^ k=b)(h0:0≤l)(h1:l<b):bB (h*b+l)=k+bB h:=by
 obtain⟨H,rfl⟩:=Int.eq_ofNat_of_zero_le (Int.le_of_lt hh);obtain⟨L,rfl⟩:=Int.eq_ofNat_of_zero_le h0;have hb':b=((2 ^ k:Nat):Int):=by rw[←hb];simp
 subst hb'
 have e:((H:Int)*((2 ^ k:Nat):Int)+(L:Int)).toNat=H*2 ^ k+L:=by
  rw[←Int.natCast_mul,←Int.natCast_add];exact Int.toNat_natCast _
 have hp:0<2 ^ k:=Nat.two_pow_pos k
 have q:(H*2 ^ k+L) / 2 ^ k=H:=by
  rw[Nat.add_comm,Nat.add_mul_div_right _ _ hp,Nat.div_eq_of_lt (by omega)];omega
 unfold bB;rw[e,bitLen_shift (H*2 ^ k+L) k (by rw[q];omega),q]
 simp
theorem aAN {x:Int}(h:bC x):0≤bB x∧bB x≤64:=by
 refine⟨by unfold bB;omega,?_⟩;obtain⟨h0,h1⟩:=h;unfold bB Go.bitLen;split
 ·omega
 ·rename_i hx
  have:=(Nat.log2_lt hx).2 (show x.toNat<2 ^ 64 by omega);omega
theorem aMV (h l:Int)(h1:bC h)(h2:bC l)(w:World) :
  Calls Tryz.prog 155 #[.agg #[.int .u64 h,.int .u64 l]] w fun e w'=>e=.returned (.int .i64 (bB (V2 h l)))∧Below w.heap.size w w':=by
 by_cases h0:h=0
 ·subst h0
  have F:Hid (((Lib.bitLen l.toNat:Nat):Int)=bB (V2 0 l)):=by
   show _=_;rw[oH h2]
   simp[V2]
  go_enter Tryz.func155,Tryz.ntmps155
  go_wp2_with (go_at_call 182;refine(aHP l h2 _).mono ?_;rintro e w1 ⟨rfl,rfl⟩)
  go_ret;exact⟨aW F.out,aI (Below.refl _ _) _⟩
 ·have t0:(h != 0)=true:=by simp[h0]
  have F:Hid (64+((Lib.bitLen h.toNat:Nat):Int)=bB (V2 h l)):=by
   show _=_;rw[oH h1];unfold V2;rw[aKx (k:=64) (by have:=h1.1;omega) (by decide) h2.1 h2.2];rfl
  have b1:=aAN h1;have b2:((Lib.bitLen h.toNat:Nat):Int)≤64:=by rw[oH h1];exact b1.2
  clear h0 b1;go_enter Tryz.func155,Tryz.ntmps155
  go_wp2_with (go_at_call 182;refine(aHP h h1 _).mono ?_;rintro e w1 ⟨rfl,rfl⟩)
  go_ret;exact⟨aW F.out,aI (Below.refl _ _) _⟩
theorem fX (j:Nat)(hj:j≤64):(2:Int) ^ (64-j)*2 ^ j=18446744073709551616:=by
 rw[←Int.pow_add,show 64-j+j=64 by omega]
 decide
theorem oW (x:Int)(j:Nat)(hj:j≤64):x*2 ^ j=x / 2 ^ (64-j)*18446744073709551616+IntKind.u64.wrap (x*2 ^ j):=by
 have e:x*2 ^ j / 18446744073709551616=x / 2 ^ (64-j):=by
  rw[←fX j hj];exact Int.mul_ediv_mul_of_pos_left _ _ (aM j)
 rw[IntKind.wrap_u64,←e];omega
theorem pT (y:Int)(hy:bC y)(j:Nat)(hj:j≤64):0≤y / 2 ^ (64-j)∧y / 2 ^ (64-j)<2 ^ j:=by
 refine⟨Int.ediv_nonneg hy.1 (Int.le_of_lt (aM _)),?_⟩;have:=fX j hj;rw[Int.ediv_lt_iff_lt_mul (aM _),Int.mul_comm,this];exact hy.2
theorem aBD (j:Nat)(hj:j≤64):(2:Int) ^ j≤18446744073709551616:=by
 have h1:=fX j hj;have h2:=aM (64-j);have h3:=aM j;have:1*(2:Int) ^ j≤2 ^ (64-j)*2 ^ j:=Int.mul_le_mul_of_nonneg_right (by omega) (Int.le_of_lt h3);omega
theorem uH (x y:Int)(hx:bC x)(hy:0≤y)(j:Nat)(hj:j≤64)(hy':y<2 ^ j) :
  bits .or .u64 (IntKind.u64.wrap (x*2 ^ j)) y=IntKind.u64.wrap (x*2 ^ j)+y:=by
 obtain⟨x,hx',rfl⟩:=uZ hx;obtain⟨y,rfl⟩:=Int.eq_ofNat_of_zero_le hy;have hp:=aBD j hj
 have e:IntKind.u64.wrap ((x:Int)*2 ^ j)=((2 ^ j*(x % 2 ^ (64-j)):Nat):Int):=by
  rw[IntKind.wrap_u64,show(18446744073709551616:Int)=((2 ^ (64-j)*2 ^ j:Nat):Int) by simp[fX j hj],show((x:Int)*2 ^ j)=((x*2 ^ j:Nat):Int) by simp,←Int.natCast_emod,Nat.mul_mod_mul_right,Nat.mul_comm]
 have hyn:y<2 ^ j:=by
  have:(y:Int)<((2 ^ j:Nat):Int):=by simpa using hy'
  omega
 have hlt:2 ^ j*(x % 2 ^ (64-j))+y<18446744073709551616:=by
  have h1:x % 2 ^ (64-j)+1≤2 ^ (64-j):=Nat.mod_lt _ (Nat.two_pow_pos _);have h2:2 ^ j*(x % 2 ^ (64-j)+1)≤2 ^ j*2 ^ (64-j):=Nat.mul_le_mul_left _ h1;rw[←Nat.pow_add,show j+(64-j)=64 by omega,Nat.mul_add]at h2;omega
 rw[e,bits_or_u64_nat _ _ (by omega) (by omega),←Nat.two_pow_add_eq_or_of_lt hyn,Int.natCast_add]
theorem aBG (x:Int)(j:Nat)(hj:j≤64):0≤IntKind.u64.wrap (x*2 ^ j)∧IntKind.u64.wrap (x*2 ^ j)+2 ^ j≤18446744073709551616:=by
 refine⟨by rw[IntKind.wrap_u64];omega,?_⟩
 have e:IntKind.u64.wrap (x*2 ^ j)=x % 2 ^ (64-j)*2 ^ j:=by
  rw[IntKind.wrap_u64,←fX j hj,Int.mul_comm x,Int.mul_comm (2 ^ (64-j)),Int.mul_emod_mul_of_pos _ _ (aM j),Int.mul_comm]
 have h1:=Int.emod_lt_of_pos x (aM (64-j));have h2:(x % 2 ^ (64-j)+1)*2 ^ j≤2 ^ (64-j)*2 ^ j:=Int.mul_le_mul_of_nonneg_right (by omega) (Int.le_of_lt (aM j));rw[fX j hj,Int.add_mul]at h2;rw[e];omega
def kF (v:Int)(k:Nat):Int:=v*2 ^ k % 6277101735386680763835789423207666416102355444464034512896
theorem aEX (h m l j:Int)(hj:64≤j):kF (V3 m l 0) (j-64).toNat=kF (V3 h m l) j.toNat:=by
 unfold kF
 have e:(2:Int) ^ j.toNat=18446744073709551616*2 ^ (j-64).toNat:=by
  rw[show j.toNat=64+(j-64).toNat by omega,Int.pow_add];rfl
 have e2:V3 h m l*2 ^ j.toNat=V3 m l 0*2 ^ (j-64).toNat+h*2 ^ (j-64).toNat*6277101735386680763835789423207666416102355444464034512896:=by
  rw[e,←Int.mul_assoc,show V3 h m l*18446744073709551616=V3 m l 0+h*6277101735386680763835789423207666416102355444464034512896 by unfold V3;omega,Int.add_mul,Int.mul_right_comm]
 rw[e2,Int.add_mul_emod_self_right]
theorem aGz (v:Int)(k:Nat)(hk:192≤k):kF v k=0:=by
 unfold kF;rw[show k=192+(k-192) by omega,Int.pow_add,show(2:Int) ^ 192=6277101735386680763835789423207666416102355444464034512896 by decide,←Int.mul_assoc,Int.mul_right_comm];exact Int.mul_emod_left _ _
theorem tH {j:Int}(h0:0≤j)(hj:j<64):(64-j).toNat=64-j.toNat:=by omega
theorem aJi {h m l j:Int}(w1:bC h)(w2:bC m)(w3:bC l)(hj0:0≤j)(hj:j<64) :
  Is3 (kF (V3 h m l) j.toNat) (.agg #[.int .u64 (bits BinOp.or IntKind.u64 (IntKind.u64.wrap (h*2 ^ j.toNat)) (m / 2 ^ (64-j).toNat)),.int .u64 (bits BinOp.or IntKind.u64 (IntKind.u64.wrap (m*2 ^ j.toNat)) (l / 2 ^ (64-j).toNat)),.int .u64 (IntKind.u64.wrap (l*2 ^ j.toNat))]):=by
 rw[tH hj0 hj];have hk:j.toNat≤64:=by omega
 generalize j.toNat=k at *;have s1:=pT m w2 k hk;have s2:=pT l w3 k hk;have e1:=oW h k hk;have e2:=oW m k hk;have e3:=oW l k hk;rw[uH h _ w1 s1.1 k hk s1.2,uH m _ w2 s2.1 k hk s2.2];have b1:=aBG h k hk;have b2:=aBG m k hk;have b3:=aBG l k hk;have hp:=aM k
 have eV:V3 h m l*2 ^ k=h*2 ^ k*340282366920938463463374607431768211456+m*2 ^ k*18446744073709551616+l*2 ^ k:=by
  unfold V3;rw[Int.add_mul,Int.add_mul,Int.mul_right_comm,Int.mul_right_comm m]
 generalize IntKind.u64.wrap (h*2 ^ k)=H at *;generalize IntKind.u64.wrap (m*2 ^ k)=M at *;generalize IntKind.u64.wrap (l*2 ^ k)=L at *;generalize m / 2 ^ (64-k)=mq at *;generalize l / 2 ^ (64-k)=lq at *;generalize h / 2 ^ (64-k)=hq at *;generalize h*2 ^ k=hp' at *;generalize m*2 ^ k=mp at *;generalize l*2 ^ k=lp at *;refine⟨_,_,_,⟨by omega,by omega⟩,⟨by omega,by omega⟩,⟨by omega,by omega⟩,?_,rfl⟩;unfold kF;rw[eV];unfold V3;omega
theorem aCI (ah am al n:Int)(h1:bC ah)(h2:bC am)(h3:bC al)(hn:n<192)(hn':-9223372036854775808≤n)(w:World) :
  Calls Tryz.prog 210 #[.agg #[.int .u64 ah,.int .u64 am,.int .u64 al],.int .i64 n] w (Ret (Is3 (kF (V3 ah am al) n.toNat)) w):=by
 go_enter Tryz.func210,Tryz.ntmps210
 go_wp2
 go_loopw [1] (fun s1 wr=>∃(j h m l:Int),0≤j∧j<192∧s1=.int .i64 j∧bC h∧bC m∧bC l∧kF (V3 h m l) j.toNat=kF (V3 ah am al) n.toNat∧wr=(w.alloc (.cells #[.int .u64 h,.int .u64 m,.int .u64 l] 266)).alloc (.cells #[.int .u64 0,.int .u64 0,.int .u64 0] 266)) (fun s1 _=>(intOf s1).toNat)
 case atStart=>exact⟨max n 0,ah,am,al,by omega,by omega,rfl,h1,h2,h3,by rw[show(max n 0).toNat=n.toNat by omega],rfl⟩
 case round=>
  obtain⟨j,h,m,l,hj0,hj,rfl,wh,wm,wl,hv,rfl⟩:=hrel;have HV:=Hj hv;clear hv
  by_cases hc:64≤j
  ·go_wp2
   go_roundw
   case rel=>exact⟨j-64,m,l,0,by omega,by omega,rfl,wm,wl,⟨by decide,by decide⟩,(by rw[←HV.out];exact aEX h m l j hc),rfl⟩
   case measure=>simp[intOf];omega
  ·have fin:=aJi wh wm wl hj0 (by omega)
   rw[HV.out]at fin
   go_wp2
   go_region
   go_wp2
   refine bodyPost_ret (by simp[results,Tryz.results210,go_sem]) rfl ⟨_,fin,rfl,?_⟩;exact aH (aI (aI (Below.refl _ _) _) _)
theorem aNx (ah am al n:Int)(h1:bC ah)(h2:bC am)(h3:bC al)(hn':-9223372036854775808≤n)(w:World) :
  Calls Tryz.prog 210 #[.agg #[.int .u64 ah,.int .u64 am,.int .u64 al],.int .i64 n] w (Ret (Is3 (kF (V3 ah am al) n.toNat)) w):=by
 by_cases hn:n<192
 ·exact aCI ah am al n h1 h2 h3 hn hn' w
 ·have fin:Is3 (kF (V3 ah am al) n.toNat) (.agg #[.int .u64 0,.int .u64 0,.int .u64 0]):=by
   rw[aGz _ _ (by omega)];exact⟨0,0,0,⟨by decide,by decide⟩,⟨by decide,by decide⟩,⟨by decide,by decide⟩,by decide,rfl⟩
  go_enter Tryz.func210,Tryz.ntmps210
  go_wp2
  refine bodyPost_ret (by simp[results,Tryz.results210,go_sem]) rfl ⟨_,fin,rfl,?_⟩;exact aI (aI (Below.refl _ _) _) _
def aBo (v:Int)(k:Nat):Int:=v*2 ^ k % 340282366920938463463374607431768211456
theorem aJj {h l h' m' l':Int}{k:Nat}(w2:bC m')(w3:bC l')(hv:V3 h' m' l'=kF (V3 0 h l) k):V2 m' l'=aBo (V2 h l) k:=by
 have e:V3 0 h l=V2 h l:=by unfold V3 V2;omega
 obtain⟨_,_⟩:=w2;obtain⟨_,_⟩:=w3;rw[e]at hv;unfold kF at hv;unfold aBo;unfold V3 at hv;generalize V2 h l*2 ^ k=x at *;unfold V2;omega
theorem aNy (h l n:Int)(h1:bC h)(h2:bC l)(hn':-9223372036854775808≤n)(w:World) :
  Calls Tryz.prog 184 #[.agg #[.int .u64 h,.int .u64 l],.int .i64 n] w (Ret (Is2 (aBo (V2 h l) n.toNat)) w):=by
 go_enter Tryz.func184,Tryz.ntmps184;go_wp2_with fail;refine(yN _ _ _).mono ?_;rintro e w1 ⟨rfl,hb1⟩;go_wp2_with fail;refine(aNx _ _ _ _ ⟨by decide,by decide⟩ h1 h2 hn' _).mono ?_;rintro e w2 ⟨v,⟨h',m',l',wh,wm,wl,hv,rfl⟩,rfl,hb2⟩;have HV:=Hj hv;clear hv;go_wp2_with fail;refine(aBg _ _ _ _).mono ?_;rintro e w3 ⟨rfl,hb3⟩;have hb:=aG (aI (aG hb1 hb2) _) hb3;have r0:=hb.cell (p:=⟨w.heap.size+1,0,none⟩) (by simp);have r1:=hb.cell (p:=⟨w.heap.size+1,1,none⟩) (by simp);have f0:=hb.frozen (p:=⟨w.heap.size+1,0,none⟩) (by simp);have f1:=hb.frozen (p:=⟨w.heap.size+1,1,none⟩) (by simp)
 simp[go_sem]at r0 r1 f0 f1
 have HB:=Hj hb;clear hb hb1 hb2 hb3
 go_wp2
 refine bodyPost_ret (by simp[results,Tryz.results184,go_sem,r0,r1]) rfl ⟨_,⟨m',l',wm,wl,aJj wm wl HV.out,rfl⟩,rfl,?_⟩;exact dQ (dQ (aG (aI (aI (Below.refl _ _) _) _) HB.out) (by simp) _) (by simp) _
def aAV (a:Int)(k:Nat)(v:Value):Prop:=∃h m l:Int,bC h∧bC m∧bC l∧V3 h m l=a / 2 ^ k∧v=.tuple #[.agg #[.int .u64 h,.int .u64 m,.int .u64 l],.bool (decide (a % 2 ^ k≠0))]
theorem tO {a b:Int}(ha:bC a)(hb:bC b):bits .or .u64 a b=bits .or .u64 b a:=by
 obtain⟨a,ha',rfl⟩:=uZ ha;obtain⟨b,hb',rfl⟩:=uZ hb;rw[bits_or_u64_nat _ _ ha' hb',bits_or_u64_nat _ _ hb' ha',Nat.or_comm]
theorem yM (x:Int):bC (IntKind.u64.wrap x):=by rw[IntKind.wrap_u64];exact aGe _
theorem aMy {h m l:Int}(w1:bC h)(w2:bC m)(w3:bC l):0≤V3 h m l∧V3 h m l<6277101735386680763835789423207666416102355444464034512896:=by
 obtain⟨_,_⟩:=w1;obtain⟨_,_⟩:=w2;obtain⟨_,_⟩:=w3;unfold V3
 constructor<;>omega
theorem aGw (h m l j:Int)(w3:bC l)(hj:64≤j):V3 0 h m / 2 ^ (j-64).toNat=V3 h m l / 2 ^ j.toNat∧(V3 h m l % 2 ^ j.toNat≠0↔l≠0∨V3 0 h m % 2 ^ (j-64).toNat≠0):=by
 have e:(2:Int) ^ j.toNat=18446744073709551616*2 ^ (j-64).toNat:=by
  rw[show j.toNat=64+(j-64).toNat by omega,Int.pow_add];rfl
 have e2:V3 h m l=V3 0 h m*18446744073709551616+l:=by unfold V3;omega
 have hp:=aM (j-64).toNat;obtain⟨l0,l1⟩:=w3;rw[e];generalize (2:Int) ^ (j-64).toNat=p at *;generalize V3 0 h m=q at *;rw[e2];have d1:(q*18446744073709551616+l) / 18446744073709551616=q:=by omega
 have d2:(q*18446744073709551616+l) / (18446744073709551616*p)=q / p:=by
  rw[←Int.ediv_ediv_of_nonneg (by decide),d1]
 refine⟨d2.symm,?_⟩
 have d3:(q*18446744073709551616+l) % (18446744073709551616*p)=(q % p)*18446744073709551616+l:=by
  have k1:=Int.mul_ediv_add_emod (q*18446744073709551616+l) (18446744073709551616*p);have k2:=Int.mul_ediv_add_emod q p;rw[d2,Int.mul_assoc]at k1;omega
 rw[d3];have:=Int.emod_nonneg q (Int.ne_of_gt hp);omega
theorem aJg {h m l:Int}(w1:bC h)(w2:bC m)(w3:bC l)(k:Nat)(hk:k<64) :
  (∃h' m' l':Int,bC h'∧bC m'∧bC l'∧V3 h' m' l'=V3 h m l / 2 ^ k∧h'=h / 2 ^ k∧m'=bits BinOp.or IntKind.u64 (m / 2 ^ k) (IntKind.u64.wrap (h*2 ^ (64-k)))∧l'=bits BinOp.or IntKind.u64 (l / 2 ^ k) (IntKind.u64.wrap (m*2 ^ (64-k))))
   ∧ (V3 h m l % 2 ^ k≠0↔IntKind.u64.wrap (l*2 ^ (64-k))≠0):=by
 have hb:=fX k (by omega);have hp:=aM k;have hq:=aM (64-k);have s1:=pT m w2 (64-k) (by omega);have s2:=pT l w3 (64-k) (by omega);have s0:=pT h w1 (64-k) (by omega);have t0:=aBD (64-k) (by omega);have b1:=aBG h (64-k) (by omega);have b2:=aBG m (64-k) (by omega);rw[show 64-(64-k)=k by omega]at s0 s1 s2
 have wr:∀x:Int,IntKind.u64.wrap (x*2 ^ (64-k))=x % 2 ^ k*2 ^ (64-k):=fun x=>by
  rw[IntKind.wrap_u64,←hb,Int.mul_comm x,Int.mul_emod_mul_of_pos _ _ hq,Int.mul_comm]
 rw[tO (pV w2 k) (yM _),tO (pV w3 k) (yM _),uH h _ w1 s1.1 _ (by omega) s1.2,uH m _ w2 s2.1 _ (by omega) s2.2];have xh:IntKind.u64.wrap (h*2 ^ (64-k))*2 ^ k=h % 2 ^ k*18446744073709551616:=by rw[wr,Int.mul_assoc,hb]
 have xm:IntKind.u64.wrap (m*2 ^ (64-k))*2 ^ k=m % 2 ^ k*18446744073709551616:=by rw[wr,Int.mul_assoc,hb]
 have zl:IntKind.u64.wrap (l*2 ^ (64-k))≠0↔l % 2 ^ k≠0:=by
  rw[wr];refine⟨fun h e=>h (by rw[e];simp),fun h e=>?_⟩;rcases Int.mul_eq_zero.1 e with e|e
  ·exact h e
  ·omega
 have dh:=Int.ediv_mul_add_emod h (2 ^ k);have dm:=Int.ediv_mul_add_emod m (2 ^ k);have dl:=Int.ediv_mul_add_emod l (2 ^ k);have rl:=Int.emod_nonneg l (Int.ne_of_gt hp);have rl':=Int.emod_lt_of_pos l hp;rw[zl];generalize IntKind.u64.wrap (h*2 ^ (64-k))=X at *;generalize IntKind.u64.wrap (m*2 ^ (64-k))=Y at *
 have eV:V3 (h / 2 ^ k) (X+m / 2 ^ k) (Y+l / 2 ^ k)*2 ^ k+l % 2 ^ k=V3 h m l:=by
  unfold V3;rw[Int.add_mul,Int.add_mul,Int.mul_right_comm,Int.mul_right_comm (X+m / 2 ^ k),Int.add_mul X,Int.add_mul Y];omega
 have eD:V3 h m l / 2 ^ k=V3 (h / 2 ^ k) (X+m / 2 ^ k) (Y+l / 2 ^ k):=by
  rw[←eV,Int.add_comm,Int.add_mul_ediv_right _ _ (Int.ne_of_gt hp),Int.ediv_eq_zero_of_lt rl rl'];omega
 have eM:V3 h m l % 2 ^ k=l % 2 ^ k:=by
  rw[←eV,Int.add_comm,Int.add_mul_emod_self_right,Int.emod_emod_of_dvd _ (Int.dvd_refl _)]
 rw[eM];exact⟨⟨_,_,_,pV w1 k,⟨by omega,by omega⟩,⟨by omega,by omega⟩,eD.symm,rfl,rfl,rfl⟩,Iff.rfl⟩
theorem aGx {h m l j:Int}{lo:Bool}{a:Int}{k:Nat}(w1:bC h)(w2:bC m)(w3:bC l)(hj0:0≤j)(hj:j<64)(hd:V3 h m l / 2 ^ j.toNat=a / 2 ^ k)
  (hm:(lo || decide (V3 h m l % 2 ^ j.toNat≠0))=decide (a % 2 ^ k≠0)) :
  aAV a k (.tuple #[.agg #[.int .u64 (h / 2 ^ j.toNat),.int .u64 (bits BinOp.or IntKind.u64 (m / 2 ^ j.toNat) (IntKind.u64.wrap (h*2 ^ (64-j).toNat))),.int .u64 (bits BinOp.or IntKind.u64 (l / 2 ^ j.toNat) (IntKind.u64.wrap (m*2 ^ (64-j).toNat)))],.bool (lo || IntKind.u64.wrap (l*2 ^ (64-j).toNat) != 0)]):=by
 rw[tH hj0 hj];obtain⟨⟨h',m',l',g1,g2,g3,g4,rfl,rfl,rfl⟩,g5⟩:=aJg w1 w2 w3 j.toNat (by omega)
 have e:(IntKind.u64.wrap (l*2 ^ (64-j.toNat)) != 0)=decide (V3 h m l % 2 ^ j.toNat≠0):=by
  rw[Bool.eq_iff_iff];simp only[bne_iff_ne,decide_eq_true_eq];exact g5.symm
 rw[e,hm];exact⟨_,_,_,g1,g2,g3,g4.trans hd,rfl⟩
theorem aCG (ah am al n:Int)(h1:bC ah)(h2:bC am)(h3:bC al)(hn:n<192)(hn':-9223372036854775808≤n)(w:World) :
  Calls Tryz.prog 212 #[.agg #[.int .u64 ah,.int .u64 am,.int .u64 al],.int .i64 n] w (Ret (aAV (V3 ah am al) n.toNat) w):=by
 have t0:decide (192≤n)=false:=by simp;omega
 go_enter Tryz.func212,Tryz.ntmps212
 go_wp2
 go_loopw [1,6] (fun s1 s6 wr=>∃(j h m l:Int) (lo:Bool),0≤j∧j<192∧s1=.int .i64 j∧s6=.bool lo∧bC h∧bC m∧bC l∧V3 h m l / 2 ^ j.toNat=V3 ah am al / 2 ^ n.toNat∧(lo || decide (V3 h m l % 2 ^ j.toNat≠0))=decide (V3 ah am al % 2 ^ n.toNat≠0)∧wr=(w.alloc (.cells #[.int .u64 h,.int .u64 m,.int .u64 l] 266)).alloc (.cells #[.int .u64 0,.int .u64 0,.int .u64 0] 266)) (fun s1 _ _=>(intOf s1).toNat)
 case atStart=>exact⟨max n 0,ah,am,al,false,by omega,by omega,rfl,rfl,h1,h2,h3,by rw[show(max n 0).toNat=n.toNat by omega],by rw[show(max n 0).toNat=n.toNat by omega];rfl,rfl⟩
 case round=>
  obtain⟨j,h,m,l,lo,hj0,hj,rfl,rfl,wh,wm,wl,hd,hm,rfl⟩:=hrel;have HD:=Hj hd;have HM:=Hj hm;clear hd hm
  by_cases hc:64≤j
  ·have g:=aGw h m l j wl hc
   have HR:Hid (V3 0 h m / 2 ^ (j-64).toNat=V3 ah am al / 2 ^ n.toNat):=g.1.trans HD.out
   have HS:Hid (((lo || l != 0) || decide (V3 0 h m % 2 ^ (j-64).toNat≠0))=decide (V3 ah am al % 2 ^ n.toNat≠0)):=by
    show _=_;rw[←HM.out,Bool.or_assoc]
    congr 1
    rw[Bool.eq_iff_iff];simp only[Bool.or_eq_true,bne_iff_ne,decide_eq_true_eq];exact g.2.symm
   clear g HD HM;cases lo
   iterate 2
    ·go_wp2
     go_roundw
     case rel=>exact⟨j-64,0,h,m,_,by omega,by omega,rfl,rfl,⟨by decide,by decide⟩,wh,wm,HR.out,HS.out,rfl⟩
     case measure=>simp[intOf];omega
  ·have fin:=aGx wh wm wl hj0 (by omega) HD.out HM.out
   clear HD HM;cases lo
   iterate 2
    ·go_wp2
     go_region
     go_wp2
     refine bodyPost_ret (by simp[results,Tryz.results212,go_sem]) rfl ⟨_,fin,rfl,?_⟩;exact aH (aI (aI (Below.refl _ _) _) _)
theorem aJf {v:Int}{k:Nat}(h0:0≤v)(h1:v<6277101735386680763835789423207666416102355444464034512896)(hk:192≤k):v / 2 ^ k=0∧v % 2 ^ k=v:=by
 have e:(2:Int) ^ k=6277101735386680763835789423207666416102355444464034512896*2 ^ (k-192):=by
  rw[show k=192+(k-192) by omega,Int.pow_add,show(2:Int) ^ 192=6277101735386680763835789423207666416102355444464034512896 by decide,show 192+(k-192)-192=k-192 by omega]
 have hp:=aM (k-192)
 have:v<2 ^ k:=by
  have:6277101735386680763835789423207666416102355444464034512896*1≤6277101735386680763835789423207666416102355444464034512896*(2:Int) ^ (k-192):=Int.mul_le_mul_of_nonneg_left (by omega) (by decide);omega
 exact⟨Int.ediv_eq_zero_of_lt h0 this,Int.emod_eq_of_lt h0 this⟩
theorem aKB {h m l:Int}(w1:bC h)(w2:bC m)(w3:bC l):V3 h m l≠0↔¬(h=0∧m=0∧l=0):=by
 obtain⟨_,_⟩:=w1;obtain⟨_,_⟩:=w2;obtain⟨_,_⟩:=w3;unfold V3;omega
theorem aNv (ah am al n:Int)(h1:bC ah)(h2:bC am)(h3:bC al)(hn':-9223372036854775808≤n)(w:World) :
  Calls Tryz.prog 212 #[.agg #[.int .u64 ah,.int .u64 am,.int .u64 al],.int .i64 n] w (Ret (aAV (V3 ah am al) n.toNat) w):=by
 by_cases hn:n<192
 ·exact aCG ah am al n h1 h2 h3 hn hn' w
 ·have g:=aMy h1 h2 h3
  have b:=aJf g.1 g.2 (k:=n.toNat) (by omega);have z:=aKB h1 h2 h3
  have fin:aAV (V3 ah am al) n.toNat (.tuple #[.agg #[.int .u64 0,.int .u64 0,.int .u64 0],.bool (decide (V3 ah am al≠0))]):=by
   refine⟨0,0,0,⟨by decide,by decide⟩,⟨by decide,by decide⟩,⟨by decide,by decide⟩,by rw[b.1];decide,by rw[b.2]⟩
  clear g b
  by_cases hz:ah=0∧am=0∧al=0
  ·obtain⟨rfl,rfl,rfl⟩:=hz
   rw[show decide (V3 0 0 0≠0)=false by decide]at fin;clear z;go_enter Tryz.func212,Tryz.ntmps212
   go_wp2
   go_region
   go_wp2
   refine bodyPost_ret (by simp[results,Tryz.results212,go_sem]) rfl ⟨_,fin,rfl,?_⟩;exact aH (aI (aI (Below.refl _ _) _) _)
  ·rw[show decide (V3 ah am al≠0)=true by simp only[decide_eq_true_eq];exact z.2 hz]at fin
   clear z
   by_cases z1:ah=0
   ·subst z1
    by_cases z2:am=0
    ·subst z2
     have z3:¬al=0:=fun e=>hz ⟨rfl,rfl,e⟩;clear hz;go_enter Tryz.func212,Tryz.ntmps212
     go_wp2
     go_region
     go_wp2
     refine bodyPost_ret (by simp[results,Tryz.results212,go_sem]) rfl ⟨_,fin,rfl,?_⟩;exact aH (aI (aI (Below.refl _ _) _) _)
    ·clear hz
     go_enter Tryz.func212,Tryz.ntmps212
     go_wp2
     go_region
     go_wp2
     refine bodyPost_ret (by simp[results,Tryz.results212,go_sem]) rfl ⟨_,fin,rfl,?_⟩;exact aH (aI (aI (Below.refl _ _) _) _)
   ·clear hz
    go_enter Tryz.func212,Tryz.ntmps212
    go_wp2
    go_region
    go_wp2
    refine bodyPost_ret (by simp[results,Tryz.results212,go_sem]) rfl ⟨_,fin,rfl,?_⟩;exact aH (aI (aI (Below.refl _ _) _) _)
def aDR (a:Int)(k:Nat)(v:Value):Prop:=∃h l:Int,bC h∧bC l∧V2 h l=a / 2 ^ k∧v=.tuple #[.agg #[.int .u64 h,.int .u64 l],.bool (decide (a % 2 ^ k≠0))]
theorem aJh {h l h' m' l':Int}{k:Nat}(w1:bC h)(w2:bC l)(g1:bC h')(g2:bC m')(g3:bC l')(hv:V3 h' m' l'=V3 0 h l / 2 ^ k):V2 m' l'=V2 h l / 2 ^ k:=by
 have e:V3 0 h l=V2 h l:=by unfold V3 V2;omega
 have hb:V2 h l / 2 ^ k≤V2 h l:=Int.ediv_le_self _ (by obtain⟨_,_⟩:=w1;obtain⟨_,_⟩:=w2;unfold V2;omega);rw[e]at hv;rw[←hv]at hb ⊢;obtain⟨_,_⟩:=w1;obtain⟨_,_⟩:=w2;obtain⟨_,_⟩:=g1;obtain⟨_,_⟩:=g2;obtain⟨_,_⟩:=g3;unfold V3 V2 at *;omega
theorem aNw (h l n:Int)(h1:bC h)(h2:bC l)(hn':-9223372036854775808≤n)(w:World) :
  Calls Tryz.prog 185 #[.agg #[.int .u64 h,.int .u64 l],.int .i64 n] w (Ret (aDR (V2 h l) n.toNat) w):=by
 go_enter Tryz.func185,Tryz.ntmps185;go_wp2_with fail;refine(yN _ _ _).mono ?_;rintro e w1 ⟨rfl,hb1⟩;go_wp2_with fail;refine(aNv _ _ _ _ ⟨by decide,by decide⟩ h1 h2 hn' _).mono ?_;rintro e w2 ⟨v,⟨h',m',l',wh,wm,wl,hv,rfl⟩,rfl,hb2⟩;have HV:=Hj hv;clear hv;have e0:V3 0 h l=V2 h l:=by unfold V3 V2;omega
 rw[e0];clear e0;generalize hlo:decide (V2 h l % 2 ^ n.toNat≠0)=lo;have fin:aDR (V2 h l) n.toNat (.tuple #[.agg #[.int .u64 m',.int .u64 l'],.bool lo]):=⟨m',l',wm,wl,aJh h1 h2 wh wm wl HV.out,by rw[←hlo]⟩;clear hlo HV;go_wp2_with fail;refine(aBg _ _ _ _).mono ?_;rintro e w3 ⟨rfl,hb3⟩;have hb:=aG (aI (aG hb1 hb2) _) hb3;have r0:=hb.cell (p:=⟨w.heap.size+1,0,none⟩) (by simp);have r1:=hb.cell (p:=⟨w.heap.size+1,1,none⟩) (by simp);have f0:=hb.frozen (p:=⟨w.heap.size+1,0,none⟩) (by simp);have f1:=hb.frozen (p:=⟨w.heap.size+1,1,none⟩) (by simp)
 simp[go_sem]at r0 r1 f0 f1
 have HB:=Hj hb;clear hb hb1 hb2 hb3
 go_wp2
 refine bodyPost_ret (by simp[results,Tryz.results185,go_sem,r0,r1]) rfl ⟨_,fin,rfl,?_⟩;exact dQ (dQ (aG (aI (aI (Below.refl _ _) _) _) HB.out) (by simp) _) (by simp) _
end Go.Proofs.YtkbicfffokegeaaGreatDoor
