/-
  Whatever program is handed in, CheckChecks answers true. (part 8 of 38) Conditions: none beside what the card ties.
-/
import Derived.Test.YtkbicfffokegeaaGreatDoorCag
namespace Go.Proofs.YtkbicfffokegeaaGreatDoor
set_option maxHeartbeats 16000000
open Go.RowKit
set_option maxRecDepth 100000
theorem aHl {X b N k E:Nat}(h1:X<2 ^ b)(hb:b≤1∨0<N∧b-1≤65535 / N)(hk:k≤N)(hE:E=131072):X ^ k<2 ^ E:=by
 rcases Nat.lt_or_ge 1 b with h|h
 ·obtain⟨hN,hb'⟩:=hb.resolve_left (by omega)
  have h3:=Nat.div_mul_le_self 65535 N;have h5:(b-1)*N≤65535 / N*N:=Nat.mul_le_mul_right N hb';have h6:1*N≤(b-1)*N:=Nat.mul_le_mul_right N (by omega);have h7:X ^ k≤(2 ^ b) ^ k:=Nat.pow_le_pow_left (Nat.le_of_lt h1) k;rw[←Nat.pow_mul]at h7;have h8:b*k≤b*N:=Nat.mul_le_mul_left b hk
  have h9:b*N=(b-1)*N+N:=by
   obtain⟨c,rfl⟩:∃c,b=c+1:=⟨b - 1,by omega⟩;rw[Nat.add_sub_cancel,Nat.add_mul,Nat.one_mul]
  exact Nat.lt_of_le_of_lt h7 (Nat.pow_lt_pow_right (by decide) (by omega))
 ·have hX:X≤1:=by
   have:2 ^ b≤2 ^ 1:=Nat.pow_le_pow_right (by decide) h;omega
  have h7:X ^ k≤1 ^ k:=Nat.pow_le_pow_left hX k;rw[Nat.one_pow]at h7;have:2 ^ 1≤2 ^ E:=Nat.pow_le_pow_right (by decide) (by omega);omega
theorem aND (x:Int)(h:bC x)(w:World):Calls Tryz.prog 254 #[.int .u64 x] w fun e w'=>e=.returned (.int .i64 (bB x))∧w=w':=by
 have L:=aHO x h;obtain⟨x0,x1⟩:=h;generalize bB x=b at *;have LL:=Hj L;clear L;go_enter Tryz.func254,Tryz.ntmps254;go_wp2_with fail;refine(LL.out _).mono ?_;rintro e w1 ⟨rfl,rfl⟩;go_wp2_with fail;go_ret;exact⟨rfl,rfl⟩
theorem aCn (a:Int)(h0:0≤a)(h1:a<9223372036854775808):bits BinOp.and IntKind.i64 a 1=a % 2:=by
 obtain⟨i,rfl⟩:=Int.eq_ofNat_of_zero_le h0
 have e:(BitVec.ofInt 64 (i:Int)).toNat=i:=by
  rw[BitVec.ofInt_natCast,BitVec.toNat_ofNat];exact Nat.mod_eq_of_lt (by omega)
 show IntKind.i64.wrap ((BitVec.ofInt 64 (i:Int) &&& BitVec.ofInt 64 1).toNat:Int)=_;rw[BitVec.toNat_and,e,show(BitVec.ofInt 64 1).toNat=1 by decide,Nat.and_one_is_mod,IntKind.wrap_i64];omega
def aFl (P:Int):Int:=if bB P≤65536 then P else 0
def aFm (P:Int):Int:=if bB P≤65536 then 0 else 20
theorem aHk (x:Int)(N S k:Nat)(hk:k<S):x ^ (N / 2 ^ (S-(k+1)))=x ^ (N / 2 ^ (S-k))*x ^ (N / 2 ^ (S-k))*(if N / 2 ^ (S-1-k) % 2=1 then x else 1):=by
 have e1:S-(k+1)=S-1-k:=by omega
 have e2:N / 2 ^ (S-k)=N / 2 ^ (S-1-k) / 2:=by
  rw[show S-k=S-1-k+1 by omega,Nat.pow_succ,Nat.div_div_eq_div_mul]
 rw[e1,e2];generalize N / 2 ^ (S-1-k)=m;have e3:x ^ m=x ^ (m / 2+m / 2+m % 2):=by rw[show m / 2+m / 2+m % 2=m by omega]
 rw[e3,Int.pow_add,Int.pow_add];rcases Nat.mod_two_eq_zero_or_one m with h|h
 ·rw[h];simp
 ·rw[h,if_pos rfl,show x ^ 1=x by rw[Int.pow_succ,Int.pow_zero,Int.one_mul]]
theorem aFt (x:Int)(N:Int)(X M b:Nat)(hx:x=(X:Int))(hw:X<18446744073709551616)(hM:max N 0=(M:Int))(hM1:N≤9223372036854775807)(eb:bB x=(b:Int))(he:M=0∨0<M∧¬65535 / M<b-1)(w:World) :
  Calls Tryz.prog 242 #[.int .u64 x,.int .i64 N] w (aAS (aFl (x ^ M)) (aFm (x ^ M)) w):=by
 have wx:bC x:=⟨by omega,by omega⟩;have L:=aHO x wx;rw[eb]at L;have LL:=Hj L;have hb64:=(mK (x:=x) (k:=64) (by omega) (by rw[show(2:Int) ^ 64=18446744073709551616 by decide];omega)).2;rw[eb]at hb64;obtain⟨b',eb',blt,_,_⟩:=dT wx.1
 have hXb:X<2 ^ b:=by
  have e:b'=b:=by rw[eb]at eb';omega
  rw[e,hx]at blt;have:((X:Nat):Int)<((2 ^ b:Nat):Int):=by simpa using blt
  omega
 obtain⟨E,hE⟩:∃E:Nat,E=131072:=⟨_,rfl⟩
 have SZ:Hid (∀k,k≤M→x ^ k<2 ^ E∧0≤x ^ k):=fun k hk=>by
  have h0:(0:Int)≤x ^ k:=by rw[hx];exact Int.pow_nonneg (by omega)
  refine⟨?_,h0⟩;rcases he with h|⟨h,h2⟩
  ·have:k=0:=by omega
   subst this;rw[Int.pow_zero];have h3:=bZ 1 E (by omega);omega
  ·have:=aHl hXb (k:=k) (N:=M) (.inr ⟨h,by omega⟩) hk hE
   have h2:((X ^ k:Nat):Int)<((2 ^ E:Nat):Int):=Int.ofNat_lt.2 this;rw[hx]
   simpa using h2
 have HE:Hid (E=32*4096):=by show _=_;omega
 have hM4:M≤9223372036854775807:=by omega
 obtain⟨S,eS,Slt,_,_⟩:=dT (show(0:Int)≤(M:Int) by omega);have hS64:=(mK (x:=(M:Int)) (k:=63) (by omega) (by rw[show(2:Int) ^ 63=9223372036854775808 by decide];omega)).2;rw[eS]at hS64;have LU:=Hj (fun w=>aND (M:Int) ⟨by omega,by omega⟩ w);rw[eS]at LU
 have hMS:Hid (M / 2 ^ S=0):=by
  show _=_;apply Nat.div_eq_of_lt;have:((M:Nat):Int)<((2 ^ S:Nat):Int):=by simpa using Slt
  omega
 obtain⟨P,hP⟩:∃P,x ^ M=P:=⟨_,rfl⟩;rw[hP];have HP:=Hj hP;clear L hx eb eb' blt hXb hE Slt eS hP;go_enter Tryz.func242,Tryz.ntmps242;go_upto_region 2 with fail
 go_cut [21] (fun s21 wx=>s21=.bool false∧Below w.heap.size w wx)
 case first=>
  rcases he with h|⟨h,h2⟩
  ·subst h
   go_quiet (fail)
   go_wp2_with fail;go_meet;exact⟨rfl,zU (Below.refl _ _) _⟩
  ·have hM2:decide ((0:Int)<(M:Int))=true:=by simp;omega
   have hM3:((M:Int) == 0)=false:=by simp;omega
   have e1:¬(65535:Int) / (M:Int)<(b:Int)-1:=by
    have:((65535 / M:Nat):Int)=(65535:Int) / (M:Int):=by simp
    rw[←this];clear this;generalize 65535 / M=q at *;omega
   have e0:0≤(65535:Int) / (M:Int):=Int.ediv_nonneg (by decide) (by omega);have e2:(65535:Int) / (M:Int)≤65535:=Int.ediv_le_self _ (by decide);have ew:IntKind.i64.wrap ((65535:Int) / (M:Int))=(65535:Int) / (M:Int):=IntWalk.i64_in _ ⟨by omega,by omega⟩;have ew2:IntKind.i64.wrap ((b:Int)-1)=(b:Int)-1:=IntWalk.i64_in _ ⟨by omega,by omega⟩;have hd:decide ((65535:Int) / (M:Int)<(b:Int)-1)=false:=by simp;omega
   go_quiet ((go_at_call 182;exact Calls.quiet_of_same (aNh (LL.out _))))
   go_wp2_with fail;go_meet;exact⟨rfl,zU (Below.refl _ _) _⟩
 case rest=>
  obtain⟨rfl,hb0⟩:=hcut;clear LL he;go_wp2_with fail;refine(uN x wx _).mono ?_;rintro e w1 ⟨bs,A1,n1,c1,nb,l1,rfl,hc1,hr1, -,hb1⟩;have HL1:=Hj l1;clear l1;go_wp2_with fail;refine(uN 1 ⟨by decide,by decide⟩ _).mono ?_;rintro e w2 ⟨os,A2,n2,c2,no,l2,rfl,hc2,hr2, -,hb2⟩;have HL2:=Hj l2;have hr1':=hr1.below hb2 (aD _);have HB:=Hj (aG (aG hb0 hb1) hb2)
  have hn1:n1≤2:=by
   have:=nb.le (k:=2) (by rw[show(2:Int) ^ (32*2)=18446744073709551616 by decide];exact wx.2);rw[HL1.out]at this;exact this
  have VB:=Hj nb.val;clear l2 hr1 hb0 hb1 hb2;go_wp2_with fail;refine(LU.out _).mono ?_;rintro e w3 ⟨rfl,rfl⟩;clear LU;go_wp2_with fail
  go_loopw [7,29] (fun s7 s29 wr=>∃(k n c:Nat) (ps:List Int) (A:Option Addr),s7=.slice A n c∧s29=.int .i64 (k:Int)∧k≤S∧IsNat (x ^ (M / 2 ^ (S-k))) ps∧Hid (ps.length=n)∧n≤c∧Rn wr A ps∧Rn wr A1 bs∧Hid (Below w.heap.size w wr)) (fun _ s29 _=>S-(intOf s29).toNat)
  case atStart=>exact⟨0,n2,c2,os,A2,rfl,rfl,Nat.zero_le _,by rw[Nat.sub_zero,hMS.out,Int.pow_zero];exact no,HL2,hc2,hr2,hr1',HB⟩
  case round=>
   clear no HL2 hc2 hr2 hr1' HB;obtain⟨k,n,c,ps,A,rfl,rfl,hk,np,lp,hc,hr,hrb,HB⟩:=hrel;have szk:=SZ.out (M / 2 ^ (S-k)) (Nat.div_le_self _ _);have ln:=np.le (k:=4096) (by rw[←HE.out];exact szk.1);rw[lp.out]at ln;clear szk
   by_cases hlt:k<S
   ·have hstep:=aHk x M S k hlt
    have hl1:(k:Int)<(S:Int):=by omega
    have esh:(S:Int)-1-(k:Int)=((S-1-k:Nat):Int):=by omega
    obtain⟨j,hj⟩:∃j,S - 1 - k=j:=⟨_,rfl⟩;rw[hj]at hstep esh;have hj64:j≤64:=by omega
    have VP:=Hj np.val;obtain⟨y,hy⟩:∃y,x ^ (M / 2 ^ (S - k))=y:=⟨_,rfl⟩;rw[hy]at np VP hstep;have szn:=SZ.out (M / 2 ^ (S-(k+1))) (Nat.div_le_self _ _);have HST:=Hj hstep;have hMj0:0≤(M:Int) / 2 ^ j:=Int.ediv_nonneg (by omega) (Int.le_of_lt (aM _));have hMj1:(M:Int) / 2 ^ j≤(M:Int):=Int.ediv_le_self _ (by omega);have hand:=aCn ((M:Int) / 2 ^ j) hMj0 (by omega);have ecast:((M / 2 ^ j:Nat):Int)=(M:Int) / 2 ^ j:=by simp
    have HAND:=Hj hand;have HC:=Hj ecast;have hkS:k+1≤S:=by omega
    have HSZ:=Hj szn;clear hstep hy hj hand ecast szn;go_wp2_with fail;refine(wI A A n n c c ps ps wr lp.out lp.out hc hc hr hr np.all np.all (by omega) (by omega)).mono ?_;rw[VP.out];rintro e w4 ⟨qs,A4,n4,c4,h1,h2,rfl,h3,h4, -,hb4⟩;have HL4:=Hj h2;have hrb4:=hrb.below hb4 (aD _);have HB4:=Hj (aG HB.out hb4);clear h2 hb4 HB hr hrb
    by_cases hbit:M / 2 ^ j % 2=1
    ·have hbi:(M:Int) / 2 ^ j % 2=1:=by rw[←HC.out];omega
     have hand:=HAND.out;rw[hbi]at hand;have EQ:Hid (x ^ (M / 2 ^ (S-(k+1)))=y*y*x):=by show _=_;rw[HST.out,if_pos hbit]
     have ln4:n4≤8192:=by
      have h5:=h1.le (k:=8192) (by
       have h6:=ln;have h7:=iZ ps np.all;rw[VP.out,lp.out]at h7;have h8:=np.nonneg;have h9:=bZ (32*n) (32*4096) (by omega)
       have h10:y*y<2 ^ (32*4096)*2 ^ (32*4096):=by
        have a1:y*y≤y*2 ^ (32*4096):=Int.mul_le_mul_of_nonneg_left (by omega) h8;have a2:y*2 ^ (32*4096)<2 ^ (32*4096)*2 ^ (32*4096):=Int.mul_lt_mul_of_pos_right (by omega) (aM _);omega
       rw[←Int.pow_add]at h10;exact h10)
      rw[HL4.out]at h5;exact h5
     have V4:=Hj h1.val;clear hbi hbit;go_wp2_with fail;refine(wI A4 A1 n4 n1 c4 c1 qs bs _ HL4.out HL1.out h3 hc1 h4 hrb4 h1.all nb.all (by omega) (by omega)).mono ?_;rw[V4.out,VB.out];rintro e w5 ⟨rs,A5,n5,c5,g1,g2,rfl,g3,g4, -,hb5⟩;have HL5:=Hj g2;have hrb5:=hrb4.below hb5 (aD _);have HB5:=Hj (aG HB4.out hb5);have NN:IsNat (x ^ (M / 2 ^ (S-(k+1)))) rs:=by rw[EQ.out];exact g1
     clear g2 hb5 HB4 hrb4 h4 EQ hand;go_wp2_with fail
     go_roundw
     case rel=>exact⟨k+1,n5,c5,rs,A5,rfl,by go_num,by omega,NN,HL5,g3,g4,hrb5,HB5⟩
     case measure=>simp[intOf];omega
    ·have hbi:(M:Int) / 2 ^ j % 2=0:=by rw[←HC.out];omega
     have hand:=HAND.out;rw[hbi]at hand;have NN:IsNat (x ^ (M / 2 ^ (S-(k+1)))) qs:=by rw[HST.out,if_neg hbit,Int.mul_one];exact h1
     clear hbi hbit;go_wp2_with fail
     go_roundw
     case rel=>exact⟨k+1,n4,c4,qs,A4,rfl,by go_num,by omega,NN,HL4,h3,h4,hrb4,HB4⟩
     case measure=>simp[intOf];omega
   ·have ek:k=S:=by omega
    subst ek
    have NP:IsNat P ps:=by
     have:=np;rw[Nat.sub_self,Nat.pow_zero,Nat.div_one,HP.out]at this;exact this
    have CL:=Hj (qK A n c ps wr lp.out hc hr NP.all (by omega));rw[NP.val]at CL;clear np;obtain⟨B,eB,_,_,_⟩:=dT NP.nonneg;rw[eB]at CL;have BE:=Hj eB;have h4096:=(mK NP.nonneg (k:=32*n) (by have:=iZ ps NP.all;rw[NP.val,lp.out]at this;exact this)).2;rw[eB]at h4096;clear eB
    by_cases hB:B≤65536
    ·have FV:Hid (aFl P=P):=by show _=_;rw[aFl,BE.out,if_pos (by omega)]
     have FE:Hid (aFm P=0):=by show _=_;rw[aFm,BE.out,if_pos (by omega)]
     have hB':decide ((65536:Int)<(B:Int))=false:=by simp;omega
     go_wp2_with fail;refine CL.out.mono ?_;rintro e w4 ⟨rfl,rfl⟩;clear CL;go_wp2_with fail
     go_ret2
     refine⟨ps,A,n,c,by rw[FV.out];exact NP,lp.out,?_,hc,hr,HB.out⟩;rw[FE.out];rfl
    ·have FV:Hid (aFl P=0):=by show _=_;rw[aFl,BE.out,if_neg (by omega)]
     have FE:Hid (aFm P=20):=by show _=_;rw[aFm,BE.out,if_neg (by omega)]
     have hB':decide ((65536:Int)<(B:Int))=true:=by simp;omega
     go_wp2_with fail;refine CL.out.mono ?_;rintro e w4 ⟨rfl,rfl⟩;clear CL;go_wp2_with fail
     go_ret2
     refine⟨[],none,0,0,by rw[FV.out];exact IsNat.nil,rfl,?_,aD _,.inl rfl,HB.out⟩;rw[FE.out];rfl
theorem map_set (us:List Int)(i:Nat)(x:Int):(us.map (Value.int .u32)).set i (.int .u32 x)=(us.set i x).map (Value.int .u32):=by rw[List.map_set]
structure MaTo (us zs:List Int) (f c0:Int) (k:Nat) (cr:Int):Prop where
 len:zs.length=us.length
 all:bN zs
 eq:nv (zs.take k)+2 ^ (32*k)*cr=nv (us.take k)*f+c0
 same:∀j,k≤j→zs.getD j 0=us.getD j 0
 car:W32 cr
theorem MaTo.next {us zs:List Int}{f c0 y:Int}{k:Nat}{cr:Int}(h:MaTo us zs f c0 k cr)(hk:k<us.length)(hf:W32 f)(hy:W32 y)(ey:us.getD k 0=y) :
  MaTo us (zs.set k (cC (y*f+cr))) f c0 (k+1) (eJ (y*f+cr)):=by
 obtain⟨h1,h2,h3,h4,h5⟩:=h;have pb:=nS hf hy;refine⟨by rw[List.length_set,h1],h2.set _ (lS _),?_,fun j hj=>?_,?_⟩
 ·rw[bV,bV,take_set,wT _ _ _ (by omega),ey,lG]
  have e2:=nY (2 ^ (32*k)) (uS (y*f+cr));rw[Int.mul_add]at e2;rw[Int.add_mul,Int.mul_assoc _ y f];omega
 ·rw[cT _ _ _ _ (by omega)]
  exact h4 j (by omega)
 ·obtain⟨_,_⟩:=h5
  constructor<;>unfold eJ<;>omega
def aNo (v:Int)(n base:Nat)(w:World)(e:Ending)(w':World):Prop:=
 ∃(zs:List Int) (m:Nat) (u:Value),nv zs=v∧bN zs∧m≤n+1∧e=.returned u∧w'.ownsRow base 166 1 u m (zs.map (Value.int .u32))∧Below base w w'∧w.heap.size≤w'.heap.size
theorem aDl (A:Option Addr)(n c base:Nat)(us:List Int)(f c0:Int)(w:World)(own:w.ownsRow base 166 1 (.slice A n c) n (us.map (Value.int .u32)))(hbase:base≤w.heap.size)(hu:bN us)(hf:W32 f)(hc:W32 c0)(ln:n≤1048576) :
  Calls Tryz.prog 234 #[.slice A n c,.int .u32 f,.int .u32 c0] w (aNo (nv us*f+c0) n base w):=by
 obtain⟨i0,hi,hz0,hz1,hz2⟩:=info_parts vG;have HI:=Hj hi;have HZ0:=Hj hz0;have HZ1:=Hj hz1;have HZ2:=Hj hz2;have HL:Hid (us.length=n):=by have:=own.1;show _=_;simpa using this
 obtain⟨f0,f1⟩:=id hf;obtain⟨v,hv⟩:∃v,nv us * f+c0=v:=⟨_,rfl⟩;rw[hv];have HV:=Hj hv;clear hi hz0 hz1 hz2 hv;go_enter Tryz.func234,Tryz.ntmps234;go_wp2_with fail
 go_loopw [2,11] (fun s2 s11 wr=>∃(k:Nat) (zs:List Int) (cr:Int),s2=.int .u32 cr∧s11=.int .i64 (k:Int)∧k≤n∧MaTo us zs f c0 k cr∧wr.ownsRow base 166 1 (.slice A n c) n (zs.map (Value.int .u32))∧Hid (Below base w wr)∧w.heap.size≤wr.heap.size) (fun _ s11 _=>n-(intOf s11).toNat)
 case atStart=>exact⟨0,us,c0,rfl,rfl,Nat.zero_le _,⟨rfl,hu,by simp[nv],fun _ _=>rfl,hc⟩,own,Below.refl _ _,aD _⟩
 case round=>
  clear own;obtain⟨k,zs,cr,rfl,rfl,hk,T,own,HB,hsz⟩:=hrel;have cw:=T.car
  by_cases hlt:k<n
  ·obtain⟨g,cap,hform⟩:∃g cap,(Value.slice A n c)=.slice (some ⟨g,0,none⟩) n cap:=by
    rcases own.2 with⟨e,e2⟩|⟨g,cap,cur,e,_⟩
    ·omega
    ·exact⟨g,cap,e⟩
   injection hform with hA hn2 hc2;subst hA hc2;have wy:=hu.getD k;have TN:=Hj (T.next (by rw[HL.out];exact hlt) hf wy rfl)
   have q0:wr.cell? ⟨g,k,none⟩=some (.int .u32 (us.getD k 0)):=by
    rw[own.cellAt k (by omega),List.getElem?_map,←T.same k (aD _),List.getD_eq_getElem?_getD,List.getElem?_eq_getElem (by rw[T.len,HL.out];exact hlt)];rfl
   have q1:=own.frozenAt k
   have hgb:base≤g:=by
    rcases own.2 with⟨e,_⟩|⟨g',cap',cur,e,hb,_⟩
    ·cases e
    ·injection e with e
     injection e with e;injection e with e;omega
   generalize us.getD k 0=y at *;obtain⟨pb0,pb1⟩:=nS hf wy;obtain⟨c0',c1'⟩:=cw;obtain⟨y0,y1⟩:=wy;have own2:=(own.stored k (.int .u32 (cC (y*f+cr)))).1;rw[map_set]at own2;have HB2:Hid (Below base w (wr.setCell ⟨g,k,none⟩ (.int .u32 (cC (y*f+cr))))):=HB.out.setCell hgb _;have hsz2:w.heap.size≤(wr.setCell ⟨g,k,none⟩ (.int .u32 (cC (y*f+cr)))).heap.size:=by simpa [World.setCell] using hsz
   have e1:(y*f+cr) % 4294967296=cC (y*f+cr):=rfl;have e2:(y*f+cr) / 4294967296=eJ (y*f+cr):=rfl;have s0:0≤y*f+cr:=by omega
   have s1:y*f+cr≤18446744073709551615:=by omega
   have hl1:(k:Int)<(n:Int):=by omega
   have wc':eJ (y*f+cr)<4294967296∧0≤eJ (y*f+cr):=by unfold eJ;omega
   generalize cC (y*f+cr)=l at *;generalize eJ (y*f+cr)=c' at *;clear T own HB;go_wp2_with fail
   go_roundw
   case rel=>exact⟨k+1,_,c',rfl,by go_num,by omega,TN.out,own2,HB2,hsz2⟩
   case measure=>simp[intOf];omega
  ·have ek:k=n:=by omega
   subst ek
   have FIN:Hid (nv zs+2 ^ (32*k)*cr=v):=by
    show _=_;have e:=T.eq;rw[List.take_of_length_le (by rw[T.len,HL.out];exact aD _),List.take_of_length_le (by rw[HL.out];exact aD _),HV.out]at e;exact e
   have ha:=T.all;have HLz:Hid (zs.length=k):=T.len.trans HL.out;clear T
   by_cases h0:cr=0
   ·subst h0
    have F2:Hid (nv zs=v):=by show _=_;have:=FIN.out;rw[Int.mul_zero]at this;omega
    clear FIN;go_wp2_with fail;go_ret;exact⟨zs,k,_,F2.out,ha,by omega,rfl,own,HB.out,hsz⟩
   ·have h1:(cr != 0)=true:=by simp;exact h0
    have h2:(cr == 0)=false:=by simp;exact h0
    have F2:Hid (nv (zs++[cr])=v):=by show _=_;rw[aEh,HLz.out];exact FIN.out
    have ha2:bN (zs++[cr]):=ha.append (bN.cons cw bN.nil);clear FIN h0
    go_wp2_with (at_builtin;refine wpList_append_own _ rfl _ _ 278 rfl base 166 i0 (.int .u32 0) 1 4 Tryz.underlying278 HI.out HZ0.out HZ1.out HZ2.out rfl (by decide) _ _ _ rfl (own.alloc _) ⟨wr.heap.size,0,none⟩ 1 1 [_] rfl rfl (cell_one_new _ _ _) ?c2 ?c3 ?c4 ?c5 ?_)
    case c2=>intro u hu;simp at hu;subst hu;rfl
    case c3=>unfold maxLen;omega
    case c4=>omega
    case c5=>simp;omega
    intro v' w1 own' hgrow hnil;clear hnil;have HB2:=Hj (wF (HB.out.alloc (by omega) _) (by simp;omega) (own.alloc _) hgrow);have hsz2:w.heap.size≤w1.heap.size:=by have:=hgrow.size;simp at this;omega
    have own2:w1.ownsRow base 166 1 v' (k+1) ((zs++[cr]).map (Value.int .u32)):=by rw[List.map_append];exact own'
    clear own' hgrow own HB;go_wp2_with fail;go_ret;exact⟨zs++[cr],k+1,v',F2.out,ha2,aD _,rfl,own2,HB2.out,hsz2⟩
def bT (c:UInt8):Bool:=decide (48≤c.toNat) && decide (c.toNat≤57)
def fF (l:List UInt8):Bool:=!l.isEmpty && l.all bT
def cX (l:List UInt8):Int:=l.foldl (fun a c=>a*10+((c.toNat:Int)-48)) 0
theorem sP (l:List UInt8)(c:UInt8):cX (l++[c])=cX l*10+((c.toNat:Int)-48):=by unfold cX;rw[List.foldl_append];rfl
theorem qU:cX []=0:=rfl
theorem aBY (c:UInt8):cX [c]=(c.toNat:Int)-48:=by have:=sP [] c;rw[qU,List.nil_append]at this;omega
theorem kM:∀(l m:List UInt8),cX (l++m)=cX l*10 ^ m.length+cX m
 | l,[]=>by simp[qU]
 | l,c::m=>by
  have h1:=kM (l++[c]) m;have h2:=kM [c] m;rw[List.append_assoc,sP]at h1;simp only[List.singleton_append]at h1 h2;rw[h1,h2,aBY,List.length_cons,Int.pow_succ,Int.add_mul,Int.mul_assoc,Int.mul_comm 10];omega
theorem aFJ (c:UInt8)(m:List UInt8):cX (c::m)=((c.toNat:Int)-48)*10 ^ m.length+cX m:=by
 have h2:=kM [c] m;rw[aBY]at h2;exact h2
theorem iN:∀ {l:List UInt8},l.all bT=true→0≤cX l∧cX l<10 ^ l.length
 | [],_=>by simp[qU]
 | c::m,h=>by
  simp only[List.all_cons,Bool.and_eq_true]at h;obtain⟨h1,h2⟩:=iN h.2;have h3:=h.1;unfold bT at h3;simp only[Bool.and_eq_true,decide_eq_true_eq]at h3;have hp:(0:Int)<10 ^ m.length:=Int.pow_pos (by decide);have h4:0≤((c.toNat:Int)-48)*10 ^ m.length:=Int.mul_nonneg (by omega) (Int.le_of_lt hp);have h5:((c.toNat:Int)-48)*10 ^ m.length≤9*10 ^ m.length:=Int.mul_le_mul_of_nonneg_right (by omega) (Int.le_of_lt hp);rw[aFJ,List.length_cons,Int.pow_succ];omega
theorem iB (s:ByteArray)(k:Nat)(h:k<s.size):s.data.toList.take (k+1)=s.data.toList.take k++[s[k]]:=by
 rw[List.take_succ_eq_append_getElem (by simpa using h)];rfl
theorem aAx (s:ByteArray)(w:World)(hs:s.size≤1048576) :
  Calls Tryz.prog 233 #[.string s] w fun e w'=>e=.returned (.bool (fF s.data.toList))∧w=w':=by
 go_enter Tryz.func233,Tryz.ntmps233;go_wp2_with fail
 go_loop [6] (fun s6=>∃k:Nat,s6=.int .i64 (k:Int)∧k≤s.size∧Hid ((s.data.toList.take k).all bT=true)) (fun s6=>s.size-(intOf s6).toNat)
 case atStart=>exact⟨0,rfl,Nat.zero_le _,by show _=_;simp⟩
 case round=>
  obtain⟨k,rfl,hk,H⟩:=hrel
  by_cases hlt:k<s.size
  ·have hts:=iB s k hlt
   have hmem:s[k]∈s.data.toList:=by
    have:s[k]∈s.data.toList.take (k+1):=by rw[hts];simp
    exact List.mem_of_mem_take this
   have hl1:(k:Int)<(s.size:Int):=by omega
   by_cases hd:bT s[k]=true
   ·have H2:Hid ((s.data.toList.take (k+1)).all bT=true):=by
     show _=_;rw[hts,List.all_append,H.out]
     simp[hd]
    unfold bT at hd;simp only[Bool.and_eq_true,decide_eq_true_eq]at hd;obtain⟨d1,d2⟩:=hd;clear hts H hmem;go_wp2_with fail
    go_round
    case rel=>exact⟨k+1,by go_num,by omega,H2⟩
    case measure=>simp[intOf];omega
   ·have F:Hid (false=fF s.data.toList):=by
     show _=_;unfold fF
     have:s.data.toList.all bT=false:=by
      rw[List.all_eq_false];exact⟨_,hmem,hd⟩
     rw[this,Bool.and_false]
    unfold bT at hd;simp only[Bool.and_eq_true,decide_eq_true_eq]at hd;clear hts H hmem
    by_cases d1:48≤s[k].toNat
    ·have d2:57<s[k].toNat:=by omega
     have d3:(57:Int)<(s[k].toNat:Int):=by omega
     have d4:¬(s[k].toNat:Int)<48:=by omega
     clear hd;go_wp2_with fail;go_ret;exact⟨bD F.out,rfl⟩
    ·have d3:(s[k].toNat:Int)<48:=by omega
     clear hd;go_wp2_with fail;go_ret;exact⟨bD F.out,rfl⟩
  ·have ek:k=s.size:=by omega
   have ht:s.data.toList.take k=s.data.toList:=List.take_of_length_le (by simp;omega)
   have F:Hid ((!s.toList.isEmpty)=fF s.data.toList):=by
    show _=_;rw[Lib.toList_data];unfold fF;have:=H.out;rw[ht]at this;rw[this,Bool.and_true]
   clear ht H;go_wp2_with fail;go_ret;exact⟨bD F.out,rfl⟩
theorem aFA (s:ByteArray)(w:World)(hs:s.size≤9)(hd:s.data.toList.all bT=true) :
  Calls Tryz.prog 235 #[.string s] w fun e w'=>e=.returned (.int .u32 (cX s.data.toList))∧w=w':=by
 have HD:=Hj hd;clear hd;go_enter Tryz.func235,Tryz.ntmps235;go_wp2_with fail
 go_loop [3,7] (fun s3 s7=>∃k:Nat,s7=.int .i64 (k:Int)∧k≤s.size∧s3=.int .u32 (cX (s.data.toList.take k))) (fun _ s7=>s.size-(intOf s7).toNat)
 case atStart=>exact⟨0,rfl,Nat.zero_le _,rfl⟩
 case round=>
  obtain⟨k,rfl,hk,rfl⟩:=hrel
  have hall:(s.data.toList.take k).all bT=true:=by
   rw[List.all_eq_true];exact fun c hc=>List.all_eq_true.1 HD.out c (List.mem_of_mem_take hc)
  obtain⟨b0,b1⟩:=iN hall
  by_cases hlt:k<s.size
  ·have hts:=iB s k hlt
   have hmem:s[k]∈s.data.toList:=by
    have:s[k]∈s.data.toList.take (k+1):=by rw[hts];simp
    exact List.mem_of_mem_take this
   have hdk:=List.all_eq_true.1 HD.out _ hmem;unfold bT at hdk;simp only[Bool.and_eq_true,decide_eq_true_eq]at hdk;obtain⟨d1,d2⟩:=hdk;have hl1:(k:Int)<(s.size:Int):=by omega
   have b2:cX (s.data.toList.take k)<100000000:=by
    have hlen:(s.data.toList.take k).length≤8:=by rw[List.length_take];omega
    have h3:(10:Int) ^ (s.data.toList.take k).length≤10 ^ 8:=by
     have h4:10 ^ (s.data.toList.take k).length≤10 ^ 8:=Nat.pow_le_pow_right (by decide) hlen;have h5:((10 ^ (s.data.toList.take k).length:Nat):Int)≤((10 ^ 8:Nat):Int):=Int.ofNat_le.2 h4
     simpa using h5
    rw[show(10:Int) ^ 8=100000000 by decide]at h3;omega
   have HS:Hid (cX (s.data.toList.take (k+1))=cX (s.data.toList.take k)*10+((s[k].toNat:Int)-48)):=by show _=_;rw[hts,sP]
   generalize cX (s.data.toList.take k)=x at *;have d3:(48:Int)≤(s[k].toNat:Int):=by omega
   have d4:(s[k].toNat:Int)≤57:=by omega
   clear hts hmem hall b1 d1 d2;go_wp2_with fail
   go_round
   case rel=>exact⟨k+1,by go_num,by omega,by rw[HS.out]⟩
   case measure=>simp[intOf];omega
  ·have ek:k=s.size:=by omega
   have ht:s.data.toList.take k=s.data.toList:=List.take_of_length_le (by simp;omega);have F:Hid (cX (s.data.toList.take k)=cX s.data.toList):=by show _=_;rw[ht]
   clear ht hall b1;generalize cX (s.data.toList.take k)=x at *;go_wp2_with fail;go_ret;exact⟨aW F.out,rfl⟩
def aHp (l:List UInt8):Int:=if fF l then cX l else 0
def aHq (l:List UInt8):Int:=if fF l then 0 else 22
theorem aDj (s:ByteArray)(w:World)(hs:s.size≤20000) :
  Calls Tryz.prog 219 #[.string s] w (aAS (aHp s.data.toList) (aHq s.data.toList) w):=by
 have D:=aAx s;obtain⟨pv,hpv⟩:∃pv,aHp s.data.toList=pv:=⟨_,rfl⟩;obtain⟨pe,hpe⟩:∃pe,aHq s.data.toList=pe:=⟨_,rfl⟩;rw[hpv,hpe];have HPV:=Hj hpv;have HPE:=Hj hpe;clear hpv hpe
 cases hd:fF s.data.toList
 ·have FV:Hid (pv=0):=by show _=_;rw[←HPV.out,aHp,hd];rfl
  have FE:Hid (pe=22):=by show _=_;rw[←HPE.out,aHq,hd];rfl
  rw[hd]at D;have DD:=Hj D;clear D hd;go_enter Tryz.func219,Tryz.ntmps219;go_wp2_with fail;refine(DD.out _ (by omega)).mono ?_;rintro e w1 ⟨rfl,rfl⟩;clear DD;go_wp2_with fail
  go_ret2
  refine⟨[],none,0,0,by rw[FV.out];exact IsNat.nil,rfl,?_,aD _,.inl rfl,Below.refl _ _⟩;rw[FE.out];rfl
 ·have FV:Hid (pv=cX s.data.toList):=by show _=_;rw[←HPV.out,aHp,hd];rfl
  have FE:Hid (pe=0):=by show _=_;rw[←HPE.out,aHq,hd];rfl
  have HALL:Hid (s.data.toList.all bT=true):=by
   unfold fF at hd;simp only[Bool.and_eq_true]at hd;exact hd.2
  rw[hd]at D;have DD:=Hj D;clear D hd;go_enter Tryz.func219,Tryz.ntmps219;go_wp2_with fail;refine(DD.out _ (by omega)).mono ?_;rintro e w1 ⟨rfl,rfl⟩;clear DD;go_wp2_with fail
  go_loopg [0,4] s.size (fun gk s0 s4 wr=>∃(k n c:Nat) (t:ByteArray) (ws:List Int) (A:Option Addr),s0=.string t∧s4=.slice A n c∧gk=t.size∧k≤s.size∧Hid (t.data.toList=s.data.toList.drop k)∧Hid (t.size=s.size-k)∧(k=0∨t.size % 9=0)∧Hid (nv ws=cX (s.data.toList.take k))∧bN ws∧n≤k∧wr.ownsRow w.heap.size 166 1 (.slice A n c) n (ws.map (Value.int .u32))∧Hid (Below w.heap.size w wr))
  case atStart=>exact⟨0,0,0,s,[],none,rfl,rfl,rfl,Nat.zero_le _,by show _=_;simp,by show _=_;simp,.inl rfl,rfl,bN.nil,aD _,⟨rfl,.inl ⟨rfl,rfl⟩⟩,Below.refl _ _⟩
  case round=>
   obtain⟨k,n,c,t,ws,A,rfl,rfl,hgk,hk,HT,HS,h9,HV,aw,hnk,own,HB⟩:=hrel;have hts:=HS.out
   by_cases h0:t.size=0
   ·have ek:k=s.size:=by omega
    have ht:s.data.toList.take k=s.data.toList:=List.take_of_length_le (by simp;omega);have FIN:Hid (nv ws=pv):=by show _=_;rw[HV.out,ht,FV.out]
    obtain⟨hl,A',c',e,hc',hr',hf'⟩:=sB own;injection e with e1 e2 e3;subst e1 e3;have HL:=Hj hl;have hd0:decide ((0:Int)<(t.size:Int))=false:=decide_eq_false (by omega);have hd1:decide (0<t.size)=false:=decide_eq_false (by omega);clear ht HV hl own hgk HT HS h9 hts ek h0;go_wp2_with fail;refine(dI A n c ws wr HL.out hc' hr' (by omega)).mono ?_;rintro e w1 ⟨ts,A2,m2,c2,T,rfl,hmc,hra, -,rfl⟩;have fin2:IsNat pv ts:=by have:=T.nat aw;rw[FIN.out]at this;exact this
    have HTL:=Hj T.len;clear T;go_wp2_with fail
    go_ret2
    refine⟨ts,A2,m2,c2,fin2,HTL.out,?_,hmc,hra,HB.out⟩;rw[FE.out];rfl
   ·obtain⟨q,hq⟩:∃q,(t.size - 1) % 9+1=q:=⟨_,rfl⟩
    have hq1:((t.size:Int)-1) % 9+1=(q:Int):=by omega
    have hq2:q≤t.size:=by omega
    have hq3:q≤9:=by omega
    have hq4:1≤q:=by omega
    have ht0:(0:Int)<(t.size:Int):=by omega
    have htm:t.size≤20000:=by omega
    have hq9:k=0∨q=9:=by omega
    have hr9:(t.size-q) % 9=0:=by omega
    have hkq:k+q≤s.size:=by omega
    have htl:t.data.toList.length=t.size:=by simp
    have e1:(t.extract 0 q).data.toList=t.data.toList.take q:=by rw[Lib.extract_data];simp
    have e2:(t.extract q t.size).data.toList=t.data.toList.drop q:=by rw[Lib.extract_data,List.take_of_length_le (by rw[List.length_drop,htl];exact aD _)]
    have s1:(t.extract 0 q).size=q:=by
     have:(t.extract 0 q).data.toList.length=q:=by rw[e1,List.length_take,htl];omega
     simpa using this
    have s2:(t.extract q t.size).size=t.size-q:=by
     rw[Lib.size_eq,e2,List.length_drop,htl]
    have hallt:(t.extract 0 q).data.toList.all bT=true:=by
     rw[e1,List.all_eq_true];intro ch hch;have h1:=List.mem_of_mem_take hch;rw[HT.out]at h1;exact List.all_eq_true.1 HALL.out ch (List.mem_of_mem_drop h1)
    have GC:=Hj (fun w=>aFA (t.extract 0 q) w (by omega) hallt);have gb:=iN hallt
    have HV2:Hid (nv ws*1000000000+cX (t.extract 0 q).data.toList=cX (s.data.toList.take (k+q))):=by
     show _=_
     have h1:s.data.toList.take (k+q)=s.data.toList.take k++(t.extract 0 q).data.toList:=by
      rw[e1,HT.out,←List.take_add]
     rw[h1,kM,HV.out];have hlen:(t.extract 0 q).data.toList.length=q:=by simpa using s1
     rw[hlen];rcases hq9 with h|h
     ·subst h;simp[qU]
     ·subst h;rfl
    have HT2:Hid ((t.extract q t.size).data.toList=s.data.toList.drop (k+q)):=by
     show _=_;rw[e2,HT.out,List.drop_drop]
    have HS2:Hid ((t.extract q t.size).size=s.size-(k+q)):=by show _=_;rw[s2];omega
    have gb9:cX (t.extract 0 q).data.toList<4294967296:=by
     have hlen:(t.extract 0 q).data.toList.length=q:=by simpa using s1
     rw[hlen]at gb;have h4:10 ^ q≤10 ^ 9:=Nat.pow_le_pow_right (by decide) hq3;have h5:((10 ^ q:Nat):Int)≤((10 ^ 9:Nat):Int):=Int.ofNat_le.2 h4;have h6:((10 ^ q:Nat):Int)=(10:Int) ^ q:=by simp
     have h7:((10 ^ 9:Nat):Int)=1000000000:=by decide
     have:=gb.2;omega
    have gb0:=gb.1;have S2:=Hj s2;have h9':(t.extract q t.size).size % 9=0:=by rw[s2];exact hr9
    have GK:=Hj hgk;clear hgk hq hts h0 e1 e2 s1 s2 hallt gb HV HT HS htl h9 hq9;generalize cX (t.extract 0 q).data.toList=gv at *;go_wp2_with fail;refine(GC.out _).mono ?_;rintro e w1 ⟨rfl,rfl⟩;clear GC;go_wp2_with fail;refine(aDl A n c w.heap.size ws 1000000000 gv wr own HB.out.size aw ⟨by decide,by decide⟩ ⟨gb0,gb9⟩ (by omega)).mono ?_;rintro e w1 ⟨zs,m,u,hv,az,hm,rfl,own2,hb2,hsz2⟩;obtain⟨-,A2,c2,rfl, -, -, -⟩:=sB own2;have HV3:=Hj (hv.trans HV2.out);have HB2:=Hj (HB.out.trans hb2);clear hv hb2 HB own HV2;go_wp2_with fail
    go_roundg (t.extract q t.size).size
    case measure=>rw[GK.out,S2.out];omega
    case rel=>exact⟨k+q,m,c2,t.extract q t.size,zs,A2,rfl,rfl,rfl,hkq,HT2,HS2,.inr h9',HV3,az,by omega,own2,HB2⟩
theorem aDc (a b:Nat)(h:a≤b):(10:Int) ^ a≤10 ^ b:=by
 have h4:10 ^ a≤10 ^ b:=Nat.pow_le_pow_right (by decide) h;have h5:((10 ^ a:Nat):Int)≤((10 ^ b:Nat):Int):=Int.ofNat_le.2 h4
 simpa using h5
theorem aFp {B:Nat}{e:TypeId}{k:Nat}{v:Value}{n:Nat}{xs:List Value}{w w':World}(h:w.ownsRow B e k v n xs)(hb:Below w.heap.size w w'):w'.ownsRow B e k v n xs:=
 h.kept (row:=none) ⟨hb.os,hb.tape,hb.output,hb.size,fun j hj _=>hb.block j hj⟩ (by cases hv:v.ownBlock<;>simp)
theorem aLV {x y:Int}{a b c:Nat}(h0:0≤x)(h1:x<2 ^ (32*a))(h2:y<2 ^ (32*b))(h3:a+b=c):x*y<2 ^ (32*c):=by
 subst h3;rw[qD];have a1:x*y≤x*2 ^ (32*b):=Int.mul_le_mul_of_nonneg_left (by omega) h0;have a2:x*2 ^ (32*b)<2 ^ (32*a)*2 ^ (32*b):=Int.mul_lt_mul_of_pos_right h1 (aM _);omega
end Go.Proofs.YtkbicfffokegeaaGreatDoor
namespace Go.Proofs.YtkbicfffokegeaaGreatDoor
set_option maxHeartbeats 16000000
open Go.RowKit
def sv (s:Bool)(p:Int):Int:=if s then -p else p
end Go.Proofs.YtkbicfffokegeaaGreatDoor
namespace Go.Proofs.YtkbicfffokegeaaGreatDoor
set_option maxHeartbeats 16000000
open Go.RowKit
set_option maxRecDepth 100000
def hJ (w:World)(v:Value)(p:Int)(L:Nat):Prop:=∃(A:Option Addr) (n c:Nat) (us:List Int),v=.slice A n c∧us.length=n∧n≤c∧Rn w A us∧bN us∧nv us=p∧n≤L
def pQ (w:World)(v:Value)(p:Int)(L:Nat):Prop:=∃(A:Option Addr) (n c:Nat) (us:List Int),v=.slice A n c∧us.length=n∧n≤c∧Rn w A us∧IsNat p us∧n≤L
theorem pQ.v {w:World}{v:Value}{p:Int}{L:Nat}(h:pQ w v p L):hJ w v p L:=by
 obtain⟨A,n,c,us,e,hn,hc,hr,hi,hl⟩:=h;exact⟨A,n,c,us,e,hn,hc,hr,hi.all,hi.val,hl⟩
theorem hJ.below {w w':World}{v:Value}{p:Int}{L:Nat}(h:hJ w v p L)(hb:Below w.heap.size w w'):hJ w' v p L:=by
 obtain⟨A,n,c,us,e,hn,hc,hr,hi⟩:=h;exact⟨A,n,c,us,e,hn,hc,hr.below hb (aD _),hi⟩
theorem hJ.nonneg {w:World}{v:Value}{p:Int}{L:Nat}(h:hJ w v p L):0≤p:=by
 obtain⟨A,n,c,us,e,hn,hc,hr,ha,hv,hl⟩:=h;rw[←hv];exact cN _ ha
theorem hJ.lt {w:World}{v:Value}{p:Int}{L:Nat}(h:hJ w v p L):p<2 ^ (32*L):=by
 obtain⟨A,n,c,us,e,hn,hc,hr,ha,hv,hl⟩:=h;rw[←hv];have:=iZ us ha;have:=bZ (32*us.length) (32*L) (by omega);omega
theorem hJ.form {w:World}{v:Value}{p:Int}{L:Nat}(h:hJ w v p L):∃A n c,v=.slice A n c:=by
 obtain⟨A,n,c,us,e,_⟩:=h;exact⟨A,n,c,e⟩
theorem pQ.form {w:World}{v:Value}{p:Int}{L:Nat}(h:pQ w v p L):∃A n c,v=.slice A n c:=h.v.form
def aAR (P:World→Value→Prop)(w:World)(e:Ending)(w':World):Prop:=∃v,P w' v∧e=.returned v∧Below w.heap.size w w'
theorem aDQ.v {p:Int}{L:Nat}{w:World}{e:Ending}{w':World}(hp:p<2 ^ (32*L))(h:aDQ p w e w'):aAR (fun w v=>pQ w v p L) w e w':=by
 obtain⟨us,A,n,c,hi,hn,e1,hc,hr, -,hb⟩:=h;exact⟨_,⟨A,n,c,us,rfl,hn,hc,hr,hi,by rw[←hn];exact hi.le hp⟩,e1,hb⟩
section
variable {w:World} {x y:Value} {p q:Int} {L M:Nat}
theorem aKP (h:hJ w x p L)(k:hJ w y q M)(hL:L≤1048576)(hM:M≤1048576):Calls Tryz.prog 221 #[x,y] w (aAR (fun w v=>pQ w v (p*q) (L+M)) w):=by
 have b:=aLV h.nonneg h.lt k.lt rfl;obtain⟨A,n,c,us,rfl,hn,hc,hr,ha,hv,hl⟩:=h;obtain⟨B,m,d,vs,rfl,hm,hd,hs,hb,hw,hk⟩:=k;refine(wI A B n m c d us vs w hn hm hc hd hr hs ha hb (by omega) (by omega)).mono fun e w' r=>?_;rw[hv,hw]at r;exact r.v b
theorem tP (h:hJ w x p L)(hL:L≤1048576):Calls Tryz.prog 237 #[x] w fun e w'=>e=.returned (.int .i64 (bB p))∧w=w':=by
 obtain⟨A,n,c,us,rfl,hn,hc,hr,ha,hv,hl⟩:=h;have r:=qK A n c us w hn hc hr ha (by omega);rw[hv]at r;exact r
def aKF (p q:Int)(L M:Nat)(w:World)(e:Ending)(w':World):Prop:=∃v u,pQ w' v (p / q) L∧pQ w' u (p % q) M∧e=.returned (.tuple #[v,u,.int .i64 0])∧Below w.heap.size w w'
theorem aMS (h:hJ w x p L)(k:hJ w y q M)(hL:L≤1048576)(hM:M≤1048576)(h0:q≠0):Calls Tryz.prog 239 #[x,y] w (aKF p q L M w):=by
 have b1:=h.lt;have b0:=h.nonneg;have b2:=k.nonneg;have b3:=k.lt;have b4:=Int.ediv_le_self q b0;have b5:=Int.emod_lt_of_pos p (show 0<q by omega);obtain⟨A,n,c,us,rfl,hn,hc,hr,ha,hv,hl⟩:=h;obtain⟨B,m,d,vs,rfl,hm,hd,hs,hb,hw,hk⟩:=k;refine(aHE A B n m c d us vs w hn hm hc hd hr hs ha hb (by omega) (by omega) (by rw[hw];exact h0)).mono fun e w' r=>?_;rw[hv,hw]at r;obtain⟨us',vs',A',B',n',m',c',d',i1,i2,n1,n2,e1,c1,c2,r1,r2, -, -,hb'⟩:=r;exact⟨_,_,⟨A',n',c',us',rfl,n1,c1,r1,i1,by rw[←n1];exact i1.le (by omega)⟩,⟨B',m',d',vs',rfl,n2,c2,r2,i2,by rw[←n2];exact i2.le (by omega)⟩,e1,hb'⟩
theorem aNB (a:Int)(ha:bC a)(w:World):Calls Tryz.prog 248 #[.int .u64 a] w (aAR (fun w v=>pQ w v a 2) w):=
 (uN a ha w).mono fun _ _ r=>r.v (by rw[show(2:Int) ^ (32*2)=18446744073709551616 by decide];exact ha.2)
end
def fN (w:World)(v:Value)(p:Int)(L:Nat):Prop:=∃(A:Option Addr) (n c:Nat) (xs:List Bool),v=.slice A n c∧xs.length=n∧n≤c∧Rd w A xs∧val xs=p∧n≤L
theorem fN.below {w w':World}{v:Value}{p:Int}{L:Nat}(h:fN w v p L)(hb:Below w.heap.size w w'):fN w' v p L:=by
 obtain⟨A,n,c,us,e,hn,hc,hr,hi⟩:=h;exact⟨A,n,c,us,e,hn,hc,hr.below hb (aD _),hi⟩
theorem fN.alloc {w:World}{v:Value}{p:Int}{L:Nat}(h:fN w v p L)(o:Obj):fN (w.alloc o) v p L:=h.below (aI (Below.refl _ _) o)
theorem fN.mono {w:World}{v:Value}{p:Int}{L M:Nat}(h:fN w v p L)(k:L≤M):fN w v p M:=by
 obtain⟨A,n,c,us,e,hn,hc,hr,hv,hl⟩:=h;exact⟨A,n,c,us,e,hn,hc,hr,hv,aF hl k⟩
theorem fN.nonneg {w:World}{v:Value}{p:Int}{L:Nat}(h:fN w v p L):0≤p:=by
 obtain⟨A,n,c,us,e,hn,hc,hr,hv,hl⟩:=h;rw[←hv];exact fY _
theorem fN.form {w:World}{v:Value}{p:Int}{L:Nat}(h:fN w v p L):∃A n c,v=.slice A n c:=by
 obtain⟨A,n,c,us,e,_⟩:=h;exact⟨A,n,c,e⟩
section
variable {w:World} {x y:Value} {p q:Int} {L M:Nat}
theorem vW (h:fN w x p L)(k:fN w y q M)(hL:L≤1048576)(hM:M≤1048576):Calls Tryz.prog 166 #[x,y] w (aAR (fun w v=>fN w v (p+q) (L+M+1)) w):=by
 obtain⟨A,n,c,us,rfl,hn,hc,hr,hv,hl⟩:=h;obtain⟨B,m,d,vs,rfl,hm,hd,hs,hw,hk⟩:=k;refine(aBz A B n m c d us vs w hn hm hr hs (by omega) (by omega)).mono fun e w' r=>?_;obtain⟨xs,A',c',⟨p1,_,p3⟩,e1,hc',_,hr',hb'⟩:=r;exact⟨_,⟨A',xs.length,c',xs,rfl,rfl,hc',hr',by rw[p1,hv,hw],by omega⟩,e1,hb'⟩
theorem aMJ (h:fN w x p L)(k:fN w y q M)(hL:L≤1048576)(hM:M≤1048576):Calls Tryz.prog 188 #[x,y] w (aAR (fun w v=>fN w v (p*q) (L+M+1)) w):=by
 obtain⟨A,n,c,us,rfl,hn,hc,hr,hv,hl⟩:=h;obtain⟨B,m,d,vs,rfl,hm,hd,hs,hw,hk⟩:=k;refine(aGO A B n m c d us vs w hn hm hr hs (by omega) (by omega)).mono fun e w' r=>?_;obtain⟨xs,A',c',⟨p1,p3⟩,e1,hc',_,hr',hb'⟩:=r;exact⟨_,⟨A',xs.length,c',xs,rfl,rfl,hc',hr',by rw[p1,hv,hw],by omega⟩,e1,hb'⟩
theorem aMM (h:fN w x p L)(k:fN w y q M)(hL:L≤1048576)(hM:M≤1048576):Calls Tryz.prog 189 #[x,y] w fun e w'=>e=.returned (.int .i64 (gD p q))∧w=w':=by
 obtain⟨A,n,c,us,rfl,hn,hc,hr,hv,hl⟩:=h;obtain⟨B,m,d,vs,rfl,hm,hd,hs,hw,hk⟩:=k;have r:=aGU A B n m c d us vs w hn hm hr hs (by omega) (by omega);rw[hv,hw]at r;exact r
theorem aMK (h:fN w x p L)(hL:L≤1048576):Calls Tryz.prog 110 #[x] w fun e w'=>e=.returned (.int .i64 (bB p))∧w=w':=by
 obtain⟨A,n,c,us,rfl,hn,hc,hr,hv,hl⟩:=h;have r:=aBu A n c us w hn hr (by omega);rw[hv]at r;exact r
end
section
variable {w w':World} {g:Nat} {t:TypeId} {b0:Bool} {A0 B0:Option Addr} {n0 c0 m0 d0:Nat}
end
theorem size_alloc (w:World)(o:Obj):(w.alloc o).heap.size=w.heap.size+1:=by simp
section
variable {w w':World} {o1 o2 o3:Obj} {t:TypeId} {cs:Array Value}
end
def aKC (v:Int)(K:Nat)(w:World)(e:Ending)(w':World):Prop:=∃x,pQ w' x v K∧e=.returned (.tuple #[x,.int .i64 0])∧Below w.heap.size w w'
theorem aMR {w:World}{x:Value}{p:Int}{L:Nat}(h:hJ w x p L)(N:Int)(hL:L≤1048576)(hN:p≠0→bB p≤65536-max N 0)(K:Nat)(hK:2 ^ (max N 0).toNat*p<2 ^ (32*K)):Calls Tryz.prog 249 #[x,.int .i64 N] w (aKC (2 ^ (max N 0).toNat*p) K w):=by
 obtain⟨A,n,c,us,rfl,hn,hc,hr,ha,hv,hl⟩:=h
 by_cases h0:p=0
 ·refine(aFs A n c us N w hn hc hr ha (by omega) (by rw[hv,h0])).mono fun e w' r=>?_
  obtain⟨ws,A',n',c',i,hn',e1,hc',hr',hb⟩:=r;have ez:2 ^ (max N 0).toNat*p=0:=by rw[h0,Int.mul_zero]
  rw[ez]at hK ⊢;exact⟨_,⟨A',n',c',ws,rfl,hn',hc',hr',i,by rw[←hn'];exact i.le hK⟩,e1,hb⟩
 ·refine(aJK A n c us N w hn hc hr ha (by omega) (by rw[hv];exact h0) (by rw[hv];have:=hN h0;omega)).mono fun e w' r=>?_
  rw[hv]at r;obtain⟨ws,A',n',c',i,hn',e1,hc',hr',hb⟩:=r;exact⟨_,⟨A',n',c',ws,rfl,hn',hc',hr',i,by rw[←hn'];exact i.le hK⟩,e1,hb⟩
theorem uE {W w1:World}{p:Addr}{a:Value}(hb:Below W.heap.size W w1)(h:W.cell? p=some a):w1.cell? p=some a:=(hb.cell (World.block_lt_of_cell? _ _ h)).trans h
def gZ (e m:Int):Int:=if e=0 then m else(4503599627370496+m)*2 ^ (e-1).toNat
theorem aBR {e m:Int}(h0:0≤e)(m0:0≤m)(m1:m<4503599627370496):0≤gZ e m∧gZ e m<2 ^ (52+e.toNat):=by
 unfold gZ;have e52:(2:Int) ^ 52=4503599627370496:=by decide
 by_cases h:e=0
 ·subst h
  rw[if_pos rfl];refine⟨m0,?_⟩;rw[show 52+(0:Int).toNat=52 from rfl,e52];exact m1
 ·rw[if_neg h]
  have hp:=aM (e-1).toNat;refine⟨Int.mul_nonneg (by omega) (by omega),?_⟩;rw[show 52+e.toNat=53+(e-1).toNat by omega,Int.pow_add];exact Int.mul_lt_mul_of_pos_right (by rw[show(2:Int) ^ 53=9007199254740992 by decide];omega) hp
theorem aNe {e m:Int}(h0:0<e)(m0:0≤m):2 ^ (52+(e-1).toNat)≤gZ e m:=by
 unfold gZ;rw[if_neg (by omega),Int.pow_add,show(2:Int) ^ 52=4503599627370496 by decide];exact Int.mul_le_mul_of_nonneg_right (by omega) (Int.le_of_lt (aM _))
theorem aAA {e m e' m':Int}(h0:0≤e)(m0:0≤m)(m1:m<4503599627370496)(h0':0≤e')(m0':0≤m')(m1':m'<4503599627370496)(h:e*4503599627370496+m<e'*4503599627370496+m'):gZ e m<gZ e' m':=by
 by_cases he:e=e'
 ·subst he
  unfold gZ;split
  ·omega
  ·exact Int.mul_lt_mul_of_pos_right (by omega) (aM _)
 ·have hlt:e<e':=by omega
  have a:=(aBR h0 m0 m1).2;have b:=aNe (e:=e') (m:=m') (by omega) m0';have c:=bZ (52+e.toNat) (52+(e'-1).toNat) (by omega);omega
def fZ (f:Int):Int:=sv (fS f) (gZ (fE f) (fM f))
theorem aKZ {f:Int}(hf:bC f):fK f=sv (fS f) (fE f*4503599627370496+fM f):=by
 rw[aKS hf];rfl
theorem aEw {e m:Int}(h0:0≤e)(m0:0≤m):gZ e m=0↔e*4503599627370496+m=0:=by
 unfold gZ;split
 ·rename_i h;subst h;omega
 ·have:=aM (e-1).toNat
  constructor
  ·intro h
   rcases Int.mul_eq_zero.1 h with h|h<;>omega
  ·intro h
   omega
theorem aMn {a b:Int}(ha:bC a)(hb:bC b):gD (fZ a) (fZ b)=gD (fK a) (fK b):=by
 have ea:=wX (f:=a);have eb:=wX (f:=b);have ma:=aAC (f:=a);have mb:=aAC (f:=b);rw[aKZ ha,aKZ hb];unfold fZ;have la:=aBR ea.1 ma.1 ma.2;have lb:=aBR eb.1 mb.1 mb.2;have z1:=aEw ea.1 ma.1;have z2:=aEw eb.1 mb.1;have m1:=aAA ea.1 ma.1 ma.2 eb.1 mb.1 mb.2;have m2:=aAA eb.1 mb.1 mb.2 ea.1 ma.1 ma.2
 have m3:fE a*4503599627370496+fM a=fE b*4503599627370496+fM b→gZ (fE a) (fM a)=gZ (fE b) (fM b):=fun h=>by
  have:fE a=fE b:=by omega
  have:fM a=fM b:=by omega
  simp[*]
 have n1:0≤fE a*4503599627370496+fM a:=by omega
 have n2:0≤fE b*4503599627370496+fM b:=by omega
 have p1:=la.1;have p2:=lb.1;clear la lb;generalize gZ (fE a) (fM a)=x at *;generalize gZ (fE b) (fM b)=y at *;generalize fE a*4503599627370496+fM a=k at *;generalize fE b*4503599627370496+fM b=l at *;unfold gD;rcases Int.lt_trichotomy k l with h|h|h
 ·have:=m1 h
  cases fS a<;>cases fS b<;>simp only[sv,if_true,Bool.false_eq_true,if_false]<;>(repeat' split)<;>omega
 ·have:=m3 h
  cases fS a<;>cases fS b<;>simp only[sv,if_true,Bool.false_eq_true,if_false]<;>(repeat' split)<;>omega
 ·have:=m2 h
  cases fS a<;>cases fS b<;>simp only[sv,if_true,Bool.false_eq_true,if_false]<;>(repeat' split)<;>omega
theorem aLp (s:Bool)(p c:Int):sv s (p*c)=sv s p*c:=by cases s<;>simp[sv,Int.neg_mul]
def dB (n:Nat):Nat:=2 ^ n
theorem aIB (n:Nat):((dB n:Nat):Int)=2 ^ n:=by unfold dB;simp
theorem uK (W:World)(t:TypeId)(d:Int):RdW (W.alloc (.cells #[.int .u64 d] t)) (some ⟨W.heap.size,0,none⟩) [d]:=by
 refine .inr ⟨_,0,rfl,by simp,fun j v hj=>?_⟩;rcases j with _|j
 ·simp at hj;subst hj;simp[go_sem]
 ·simp at hj
theorem ofV {A:Option Addr}{w:World}{m:Int}(hr:RdW w A [m])(hm:bC m):Calls Tryz.prog 90 #[.slice A 1 1] w (aAR (fun w v=>fN w v m 64) w):=by
 refine(aJt A 1 1 [m] w rfl hr (fun x hx=>by simp at hx;subst hx;exact hm) (by decide)).mono fun e w' r=>?_;obtain⟨xs,B,c,⟨hv,hl⟩,rfl,hc, -,hr,hb⟩:=r;have hl2:xs.length=64:=by rw[hl];rfl
 exact⟨_,⟨B,_,c,xs,rfl,rfl,hc,hr,by rw[hv];simp[wv],by omega⟩,rfl,hb⟩
theorem aCH {w:World}{x:Value}{p N:Int}{L:Nat}(h:fN w x p L)(hL:L≤1048576)(h0:0≤N)(h1:N≤1048576)(M:Nat)(hM:L+N.toNat≤M):Calls Tryz.prog 167 #[x,.int .i64 N] w (aAR (fun w v=>fN w v (2 ^ N.toNat*p) M) w):=by
 obtain⟨A,n,c,xs,rfl,hn,hc,hr,hv,hl⟩:=h;refine(aBs A n c xs N w hn hr (by omega) h0 (by omega)).mono fun e w' r=>?_;obtain⟨zs,B,d,hs,rfl,hc2, -,hr2,hb⟩:=r;obtain⟨e1,e2⟩:=hs.val;exact⟨_,⟨B,_,d,zs,rfl,rfl,hc2,hr2,by rw[e1,hv],by omega⟩,rfl,hb⟩
theorem aJq (W:World):Rd (W.alloc (.cells #[.bool true] 4)) (some ⟨W.heap.size,0,none⟩) [true]:=by
 refine .inr ⟨_,0,rfl,(Blk.new W 4 #[.bool true]).typed,fun i b hi=>?_⟩;rcases i with _|i
 ·simp at hi
  subst hi
  simp[go_sem]
 ·simp at hi
end Go.Proofs.YtkbicfffokegeaaGreatDoor
