/-
  Layer 12's checks answer true, whatever program is handed in. (part 8 of 35) Conditions: none beside what the card ties.
-/
import Derived.Laws.OwnMore
import Derived.Laws.BytesArg
import Derived.Test.YtkbicfffokegeaaGreatDoorUag
import Derived.Shelf.LaysM
import Derived.Shelf.Small.Strs
import Derived.Shelf.Small.Wraps
import Derived.Shelf.Strconv.Itoa1
import Derived.Shelf.Strconv.Itoa2
import Derived.Shelf.Strconv.Itoa3
import Derived.Shelf.Strconv.ParseIntPublic10
import Derived.Shelf.Strings.Cut
import Derived.Shelf.Strings.IndexAnyAll
import Derived.Shelf.Strings.Prefix
import Derived.Shelf.Strings.SplitShaped
import Derived.Shelf.Strings.Trim
import Derived.Test.YtkbicfffokegeaaGreatDoorProg
import Derived.Test.YtkbicfffokegeaaGreatDoorUae
namespace Go.Proofs.YtkbicfffokegeaaGreatDoor
set_option maxHeartbeats 16000000
open Go.RowKit
set_option maxRecDepth 100000
theorem pow_size {X b N k E:Nat}(h1:X<2 ^ b)(hb:b≤1∨0<N∧b-1≤65535 / N)(hk:k≤N)(hE:E=131072):X ^ k<2 ^ E:=by
 rcases Nat.lt_or_ge 1 b with h|h
 ·obtain⟨hN,hb'⟩:=hb.resolve_left (by omega)
  have h3:=Nat.div_mul_le_self 65535 N;have h5:(b-1)*N≤65535 / N*N:=Nat.mul_le_mul_right N hb';have h6:1*N≤(b-1)*N:=Nat.mul_le_mul_right N (by omega);have h7:X ^ k≤(2 ^ b) ^ k:=Nat.pow_le_pow_left (Nat.le_of_lt h1) k;rw[←Nat.pow_mul]at h7;have h8:b*k≤b*N:=Nat.mul_le_mul_left b hk
  have h9:b*N=(b-1)*N+N:=by
   obtain⟨c,rfl⟩:∃c,b=c+1:=⟨b - 1,by omega⟩;rw[Nat.add_sub_cancel,Nat.add_mul,Nat.one_mul]
  exact Nat.lt_of_le_of_lt h7 (Nat.pow_lt_pow_right (by decide) (by omega))
 ·have hX:X≤1:=by
   have:2 ^ b≤2 ^ 1:=Nat.pow_le_pow_right (by decide) h;omega
  have h7:X ^ k≤1 ^ k:=Nat.pow_le_pow_left hX k;rw[Nat.one_pow]at h7;have:2 ^ 1≤2 ^ E:=Nat.pow_le_pow_right (by decide) (by omega);omega
theorem lenU (x:Int)(h:Word x)(w:World):Calls Tryz.prog 254 #[.int .u64 x] w fun e w'=>e=.returned (.int .i64 (blen x))∧w=w':=by
 have L:=len64w x h;obtain⟨x0,x1⟩:=h;generalize blen x=b at *;have LL:=Hj L;clear L;go_enter Tryz.func254,Tryz.ntmps254;go_wp2_with fail;refine(LL.out _).mono ?_;rintro e w1 ⟨rfl,rfl⟩;go_wp2_with fail;go_ret;exact⟨rfl,rfl⟩
theorem and_one_i64 (a:Int)(h0:0≤a)(h1:a<9223372036854775808):bits BinOp.and IntKind.i64 a 1=a % 2:=by
 obtain⟨i,rfl⟩:=Int.eq_ofNat_of_zero_le h0
 have e:(BitVec.ofInt 64 (i:Int)).toNat=i:=by
  rw[BitVec.ofInt_natCast,BitVec.toNat_ofNat];exact Nat.mod_eq_of_lt (by omega)
 show IntKind.i64.wrap ((BitVec.ofInt 64 (i:Int) &&& BitVec.ofInt 64 1).toNat:Int)=_;rw[BitVec.toNat_and,e,show(BitVec.ofInt 64 1).toNat=1 by decide,Nat.and_one_is_mod,IntKind.wrap_i64];omega
def powV (P:Int):Int:=if blen P≤65536 then P else 0
def powE (P:Int):Int:=if blen P≤65536 then 0 else 20
theorem pow_step (x:Int)(N S k:Nat)(hk:k<S):x ^ (N / 2 ^ (S-(k+1)))=x ^ (N / 2 ^ (S-k))*x ^ (N / 2 ^ (S-k))*(if N / 2 ^ (S-1-k) % 2=1 then x else 1):=by
 have e1:S-(k+1)=S-1-k:=by omega
 have e2:N / 2 ^ (S-k)=N / 2 ^ (S-1-k) / 2:=by
  rw[show S-k=S-1-k+1 by omega,Nat.pow_succ,Nat.div_div_eq_div_mul]
 rw[e1,e2];generalize N / 2 ^ (S-1-k)=m;have e3:x ^ m=x ^ (m / 2+m / 2+m % 2):=by rw[show m / 2+m / 2+m % 2=m by omega]
 rw[e3,Int.pow_add,Int.pow_add];rcases Nat.mod_two_eq_zero_or_one m with h|h
 ·rw[h];simp
 ·rw[h,if_pos rfl,show x ^ 1=x by rw[Int.pow_succ,Int.pow_zero,Int.one_mul]]
theorem npow_main (x:Int)(N:Int)(X M b:Nat)(hx:x=(X:Int))(hw:X<18446744073709551616)(hM:max N 0=(M:Int))(hM1:N≤9223372036854775807)(eb:blen x=(b:Int))(he:M=0∨0<M∧¬65535 / M<b-1)(w:World) :
  Calls Tryz.prog 242 #[.int .u64 x,.int .i64 N] w (RetShl (powV (x ^ M)) (powE (x ^ M)) w):=by
 have wx:Word x:=⟨by omega,by omega⟩;have L:=len64w x wx;rw[eb]at L;have LL:=Hj L;have hb64:=(blen_bd (x:=x) (k:=64) (by omega) (by rw[show(2:Int) ^ 64=18446744073709551616 by decide];omega)).2;rw[eb]at hb64;obtain⟨b',eb',blt,_,_⟩:=blen_spec wx.1
 have hXb:X<2 ^ b:=by
  have e:b'=b:=by rw[eb]at eb';omega
  rw[e,hx]at blt;have:((X:Nat):Int)<((2 ^ b:Nat):Int):=by simpa using blt
  omega
 obtain⟨E,hE⟩:∃E:Nat,E=131072:=⟨_,rfl⟩
 have SZ:Hid (∀k,k≤M→x ^ k<2 ^ E∧0≤x ^ k):=fun k hk=>by
  have h0:(0:Int)≤x ^ k:=by rw[hx];exact Int.pow_nonneg (by omega)
  refine⟨?_,h0⟩;rcases he with h|⟨h,h2⟩
  ·have:k=0:=by omega
   subst this;rw[Int.pow_zero];have h3:=pow_mono 1 E (by omega);omega
  ·have:=pow_size hXb (k:=k) (N:=M) (.inr ⟨h,by omega⟩) hk hE
   have h2:((X ^ k:Nat):Int)<((2 ^ E:Nat):Int):=Int.ofNat_lt.2 this;rw[hx]
   simpa using h2
 have HE:Hid (E=32*4096):=by show _=_;omega
 have hM4:M≤9223372036854775807:=by omega
 obtain⟨S,eS,Slt,_,_⟩:=blen_spec (show(0:Int)≤(M:Int) by omega);have hS64:=(blen_bd (x:=(M:Int)) (k:=63) (by omega) (by rw[show(2:Int) ^ 63=9223372036854775808 by decide];omega)).2;rw[eS]at hS64;have LU:=Hj (fun w=>lenU (M:Int) ⟨by omega,by omega⟩ w);rw[eS]at LU
 have hMS:Hid (M / 2 ^ S=0):=by
  show _=_;apply Nat.div_eq_of_lt;have:((M:Nat):Int)<((2 ^ S:Nat):Int):=by simpa using Slt
  omega
 obtain⟨P,hP⟩:∃P,x ^ M=P:=⟨_,rfl⟩;rw[hP];have HP:=Hj hP;clear L hx eb eb' blt hXb hE Slt eS hP;go_enter Tryz.func242,Tryz.ntmps242;go_upto_region 2 with fail
 go_cut [21] (fun s21 wx=>s21=.bool false∧Below w.heap.size w wx)
 case first=>
  rcases he with h|⟨h,h2⟩
  ·subst h
   go_quiet (fail)
   go_wp2_with fail;go_meet;exact⟨rfl,bel_drewN (Below.refl _ _) _⟩
  ·have hM2:decide ((0:Int)<(M:Int))=true:=by simp;omega
   have hM3:((M:Int) == 0)=false:=by simp;omega
   have e1:¬(65535:Int) / (M:Int)<(b:Int)-1:=by
    have:((65535 / M:Nat):Int)=(65535:Int) / (M:Int):=by simp
    rw[←this];clear this;generalize 65535 / M=q at *;omega
   have e0:0≤(65535:Int) / (M:Int):=Int.ediv_nonneg (by decide) (by omega);have e2:(65535:Int) / (M:Int)≤65535:=Int.ediv_le_self _ (by decide);have ew:IntKind.i64.wrap ((65535:Int) / (M:Int))=(65535:Int) / (M:Int):=IntWalk.i64_in _ ⟨by omega,by omega⟩;have ew2:IntKind.i64.wrap ((b:Int)-1)=(b:Int)-1:=IntWalk.i64_in _ ⟨by omega,by omega⟩;have hd:decide ((65535:Int) / (M:Int)<(b:Int)-1)=false:=by simp;omega
   go_quiet ((go_at_call 182;exact Calls.quiet_of_same (back (LL.out _))))
   go_wp2_with fail;go_meet;exact⟨rfl,bel_drewN (Below.refl _ _) _⟩
 case rest=>
  obtain⟨rfl,hb0⟩:=hcut;clear LL he;go_wp2_with fail;refine(new_any x wx _).mono ?_;rintro e w1 ⟨bs,A1,n1,c1,nb,l1,rfl,hc1,hr1, -,hb1⟩;have HL1:=Hj l1;clear l1;go_wp2_with fail;refine(new_any 1 ⟨by decide,by decide⟩ _).mono ?_;rintro e w2 ⟨os,A2,n2,c2,no,l2,rfl,hc2,hr2, -,hb2⟩;have HL2:=Hj l2;have hr1':=hr1.below hb2 (Nat.le_refl _);have HB:=Hj (bel_trans (bel_trans hb0 hb1) hb2)
  have hn1:n1≤2:=by
   have:=nb.le (k:=2) (by rw[show(2:Int) ^ (32*2)=18446744073709551616 by decide];exact wx.2);rw[HL1.out]at this;exact this
  have VB:=Hj nb.val;clear l2 hr1 hb0 hb1 hb2;go_wp2_with fail;refine(LU.out _).mono ?_;rintro e w3 ⟨rfl,rfl⟩;clear LU;go_wp2_with fail
  go_loopw [7,29] (fun s7 s29 wr=>∃(k n c:Nat) (ps:List Int) (A:Option Addr),s7=.slice A n c∧s29=.int .i64 (k:Int)∧k≤S∧IsNat (x ^ (M / 2 ^ (S-k))) ps∧Hid (ps.length=n)∧n≤c∧Rn wr A ps∧Rn wr A1 bs∧Hid (Below w.heap.size w wr)) (fun _ s29 _=>S-(intOf s29).toNat)
  case atStart=>exact⟨0,n2,c2,os,A2,rfl,rfl,Nat.zero_le _,by rw[Nat.sub_zero,hMS.out,Int.pow_zero];exact no,HL2,hc2,hr2,hr1',HB⟩
  case round=>
   clear no HL2 hc2 hr2 hr1' HB;obtain⟨k,n,c,ps,A,rfl,rfl,hk,np,lp,hc,hr,hrb,HB⟩:=hrel;have szk:=SZ.out (M / 2 ^ (S-k)) (Nat.div_le_self _ _);have ln:=np.le (k:=4096) (by rw[←HE.out];exact szk.1);rw[lp.out]at ln;clear szk
   by_cases hlt:k<S
   ·have hstep:=pow_step x M S k hlt
    have hl1:(k:Int)<(S:Int):=by omega
    have esh:(S:Int)-1-(k:Int)=((S-1-k:Nat):Int):=by omega
    obtain⟨j,hj⟩:∃j,S - 1 - k=j:=⟨_,rfl⟩;rw[hj]at hstep esh;have hj64:j≤64:=by omega
    have VP:=Hj np.val;obtain⟨y,hy⟩:∃y,x ^ (M / 2 ^ (S - k))=y:=⟨_,rfl⟩;rw[hy]at np VP hstep;have szn:=SZ.out (M / 2 ^ (S-(k+1))) (Nat.div_le_self _ _);have HST:=Hj hstep;have hMj0:0≤(M:Int) / 2 ^ j:=Int.ediv_nonneg (by omega) (Int.le_of_lt (pow_pos' _));have hMj1:(M:Int) / 2 ^ j≤(M:Int):=Int.ediv_le_self _ (by omega);have hand:=and_one_i64 ((M:Int) / 2 ^ j) hMj0 (by omega);have ecast:((M / 2 ^ j:Nat):Int)=(M:Int) / 2 ^ j:=by simp
    have HAND:=Hj hand;have HC:=Hj ecast;have hkS:k+1≤S:=by omega
    have HSZ:=Hj szn;clear hstep hy hj hand ecast szn;go_wp2_with fail;refine(nmul_any A A n n c c ps ps wr lp.out lp.out hc hc hr hr np.all np.all (by omega) (by omega)).mono ?_;rw[VP.out];rintro e w4 ⟨qs,A4,n4,c4,h1,h2,rfl,h3,h4, -,hb4⟩;have HL4:=Hj h2;have hrb4:=hrb.below hb4 (Nat.le_refl _);have HB4:=Hj (bel_trans HB.out hb4);clear h2 hb4 HB hr hrb
    by_cases hbit:M / 2 ^ j % 2=1
    ·have hbi:(M:Int) / 2 ^ j % 2=1:=by rw[←HC.out];omega
     have hand:=HAND.out;rw[hbi]at hand;have EQ:Hid (x ^ (M / 2 ^ (S-(k+1)))=y*y*x):=by show _=_;rw[HST.out,if_pos hbit]
     have ln4:n4≤8192:=by
      have h5:=h1.le (k:=8192) (by
       have h6:=ln;have h7:=nv_lt ps np.all;rw[VP.out,lp.out]at h7;have h8:=np.nonneg;have h9:=pow_mono (32*n) (32*4096) (by omega)
       have h10:y*y<2 ^ (32*4096)*2 ^ (32*4096):=by
        have a1:y*y≤y*2 ^ (32*4096):=Int.mul_le_mul_of_nonneg_left (by omega) h8;have a2:y*2 ^ (32*4096)<2 ^ (32*4096)*2 ^ (32*4096):=Int.mul_lt_mul_of_pos_right (by omega) (pow_pos' _);omega
       rw[←Int.pow_add]at h10;exact h10)
      rw[HL4.out]at h5;exact h5
     have V4:=Hj h1.val;clear hbi hbit;go_wp2_with fail;refine(nmul_any A4 A1 n4 n1 c4 c1 qs bs _ HL4.out HL1.out h3 hc1 h4 hrb4 h1.all nb.all (by omega) (by omega)).mono ?_;rw[V4.out,VB.out];rintro e w5 ⟨rs,A5,n5,c5,g1,g2,rfl,g3,g4, -,hb5⟩;have HL5:=Hj g2;have hrb5:=hrb4.below hb5 (Nat.le_refl _);have HB5:=Hj (bel_trans HB4.out hb5);have NN:IsNat (x ^ (M / 2 ^ (S-(k+1)))) rs:=by rw[EQ.out];exact g1
     clear g2 hb5 HB4 hrb4 h4 EQ hand;go_wp2_with fail
     go_roundw
     case rel=>exact⟨k+1,n5,c5,rs,A5,rfl,by go_num,by omega,NN,HL5,g3,g4,hrb5,HB5⟩
     case measure=>simp[intOf];omega
    ·have hbi:(M:Int) / 2 ^ j % 2=0:=by rw[←HC.out];omega
     have hand:=HAND.out;rw[hbi]at hand;have NN:IsNat (x ^ (M / 2 ^ (S-(k+1)))) qs:=by rw[HST.out,if_neg hbit,Int.mul_one];exact h1
     clear hbi hbit;go_wp2_with fail
     go_roundw
     case rel=>exact⟨k+1,n4,c4,qs,A4,rfl,by go_num,by omega,NN,HL4,h3,h4,hrb4,HB4⟩
     case measure=>simp[intOf];omega
   ·have ek:k=S:=by omega
    subst ek
    have NP:IsNat P ps:=by
     have:=np;rw[Nat.sub_self,Nat.pow_zero,Nat.div_one,HP.out]at this;exact this
    have CL:=Hj (nlen_any A n c ps wr lp.out hc hr NP.all (by omega));rw[NP.val]at CL;clear np;obtain⟨B,eB,_,_,_⟩:=blen_spec NP.nonneg;rw[eB]at CL;have BE:=Hj eB;have h4096:=(blen_bd NP.nonneg (k:=32*n) (by have:=nv_lt ps NP.all;rw[NP.val,lp.out]at this;exact this)).2;rw[eB]at h4096;clear eB
    by_cases hB:B≤65536
    ·have FV:Hid (powV P=P):=by show _=_;rw[powV,BE.out,if_pos (by omega)]
     have FE:Hid (powE P=0):=by show _=_;rw[powE,BE.out,if_pos (by omega)]
     have hB':decide ((65536:Int)<(B:Int))=false:=by simp;omega
     go_wp2_with fail;refine CL.out.mono ?_;rintro e w4 ⟨rfl,rfl⟩;clear CL;go_wp2_with fail
     go_ret2
     refine⟨ps,A,n,c,by rw[FV.out];exact NP,lp.out,?_,hc,hr,HB.out⟩;rw[FE.out];rfl
    ·have FV:Hid (powV P=0):=by show _=_;rw[powV,BE.out,if_neg (by omega)]
     have FE:Hid (powE P=20):=by show _=_;rw[powE,BE.out,if_neg (by omega)]
     have hB':decide ((65536:Int)<(B:Int))=true:=by simp;omega
     go_wp2_with fail;refine CL.out.mono ?_;rintro e w4 ⟨rfl,rfl⟩;clear CL;go_wp2_with fail
     go_ret2
     refine⟨[],none,0,0,by rw[FV.out];exact IsNat.nil,rfl,?_,Nat.le_refl _,.inl rfl,HB.out⟩;rw[FE.out];rfl
theorem map_set (us:List Int)(i:Nat)(x:Int):(us.map (Value.int .u32)).set i (.int .u32 x)=(us.set i x).map (Value.int .u32):=by rw[List.map_set]
structure MaTo (us zs:List Int) (f c0:Int) (k:Nat) (cr:Int):Prop where
 len:zs.length=us.length
 all:AllW zs
 eq:nv (zs.take k)+2 ^ (32*k)*cr=nv (us.take k)*f+c0
 same:∀j,k≤j→zs.getD j 0=us.getD j 0
 car:W32 cr
theorem MaTo.next {us zs:List Int}{f c0 y:Int}{k:Nat}{cr:Int}(h:MaTo us zs f c0 k cr)(hk:k<us.length)(hf:W32 f)(hy:W32 y)(ey:us.getD k 0=y) :
  MaTo us (zs.set k (low32 (y*f+cr))) f c0 (k+1) (car32 (y*f+cr)):=by
 obtain⟨h1,h2,h3,h4,h5⟩:=h;have pb:=prod_bd hf hy;refine⟨by rw[List.length_set,h1],h2.set _ (w32_low _),?_,fun j hj=>?_,?_⟩
 ·rw[nv_take_succ,nv_take_succ,take_set,getD_set _ _ _ (by omega),ey,pow32]
  have e2:=mul_car (2 ^ (32*k)) (car_low (y*f+cr));rw[Int.mul_add]at e2;rw[Int.add_mul,Int.mul_assoc _ y f];omega
 ·rw[getD_set_ne _ _ _ _ (by omega)]
  exact h4 j (by omega)
 ·obtain⟨_,_⟩:=h5
  constructor<;>unfold car32<;>omega
def RetMa (v:Int)(n base:Nat)(w:World)(e:Ending)(w':World):Prop:=
 ∃(zs:List Int) (m:Nat) (u:Value),nv zs=v∧AllW zs∧m≤n+1∧e=.returned u∧w'.ownsRow base 166 1 u m (zs.map (Value.int .u32))∧Below base w w'∧w.heap.size≤w'.heap.size
theorem mulAdd_any (A:Option Addr)(n c base:Nat)(us:List Int)(f c0:Int)(w:World)(own:w.ownsRow base 166 1 (.slice A n c) n (us.map (Value.int .u32)))(hbase:base≤w.heap.size)(hu:AllW us)(hf:W32 f)(hc:W32 c0)(ln:n≤1048576) :
  Calls Tryz.prog 234 #[.slice A n c,.int .u32 f,.int .u32 c0] w (RetMa (nv us*f+c0) n base w):=by
 obtain⟨i0,hi,hz0,hz1,hz2⟩:=info_parts u32_info;have HI:=Hj hi;have HZ0:=Hj hz0;have HZ1:=Hj hz1;have HZ2:=Hj hz2;have HL:Hid (us.length=n):=by have:=own.1;show _=_;simpa using this
 obtain⟨f0,f1⟩:=id hf;obtain⟨v,hv⟩:∃v,nv us * f+c0=v:=⟨_,rfl⟩;rw[hv];have HV:=Hj hv;clear hi hz0 hz1 hz2 hv;go_enter Tryz.func234,Tryz.ntmps234;go_wp2_with fail
 go_loopw [2,11] (fun s2 s11 wr=>∃(k:Nat) (zs:List Int) (cr:Int),s2=.int .u32 cr∧s11=.int .i64 (k:Int)∧k≤n∧MaTo us zs f c0 k cr∧wr.ownsRow base 166 1 (.slice A n c) n (zs.map (Value.int .u32))∧Hid (Below base w wr)∧w.heap.size≤wr.heap.size) (fun _ s11 _=>n-(intOf s11).toNat)
 case atStart=>exact⟨0,us,c0,rfl,rfl,Nat.zero_le _,⟨rfl,hu,by simp[nv],fun _ _=>rfl,hc⟩,own,Below.refl _ _,Nat.le_refl _⟩
 case round=>
  clear own;obtain⟨k,zs,cr,rfl,rfl,hk,T,own,HB,hsz⟩:=hrel;have cw:=T.car
  by_cases hlt:k<n
  ·obtain⟨g,cap,hform⟩:∃g cap,(Value.slice A n c)=.slice (some ⟨g,0,none⟩) n cap:=by
    rcases own.2 with⟨e,e2⟩|⟨g,cap,cur,e,_⟩
    ·omega
    ·exact⟨g,cap,e⟩
   injection hform with hA hn2 hc2;subst hA hc2;have wy:=hu.getD k;have TN:=Hj (T.next (by rw[HL.out];exact hlt) hf wy rfl)
   have q0:wr.cell? ⟨g,k,none⟩=some (.int .u32 (us.getD k 0)):=by
    rw[own.cellAt k (by omega),List.getElem?_map,←T.same k (Nat.le_refl _),List.getD_eq_getElem?_getD,List.getElem?_eq_getElem (by rw[T.len,HL.out];exact hlt)];rfl
   have q1:=own.frozenAt k
   have hgb:base≤g:=by
    rcases own.2 with⟨e,_⟩|⟨g',cap',cur,e,hb,_⟩
    ·cases e
    ·injection e with e
     injection e with e;injection e with e;omega
   generalize us.getD k 0=y at *;obtain⟨pb0,pb1⟩:=prod_bd hf wy;obtain⟨c0',c1'⟩:=cw;obtain⟨y0,y1⟩:=wy;have own2:=(own.stored k (.int .u32 (low32 (y*f+cr)))).1;rw[map_set]at own2;have HB2:Hid (Below base w (wr.setCell ⟨g,k,none⟩ (.int .u32 (low32 (y*f+cr))))):=HB.out.setCell hgb _;have hsz2:w.heap.size≤(wr.setCell ⟨g,k,none⟩ (.int .u32 (low32 (y*f+cr)))).heap.size:=by simpa [World.setCell] using hsz
   have e1:(y*f+cr) % 4294967296=low32 (y*f+cr):=rfl;have e2:(y*f+cr) / 4294967296=car32 (y*f+cr):=rfl;have s0:0≤y*f+cr:=by omega
   have s1:y*f+cr≤18446744073709551615:=by omega
   have hl1:(k:Int)<(n:Int):=by omega
   have wc':car32 (y*f+cr)<4294967296∧0≤car32 (y*f+cr):=by unfold car32;omega
   generalize low32 (y*f+cr)=l at *;generalize car32 (y*f+cr)=c' at *;clear T own HB;go_wp2_with fail
   go_roundw
   case rel=>exact⟨k+1,_,c',rfl,by go_num,by omega,TN.out,own2,HB2,hsz2⟩
   case measure=>simp[intOf];omega
  ·have ek:k=n:=by omega
   subst ek
   have FIN:Hid (nv zs+2 ^ (32*k)*cr=v):=by
    show _=_;have e:=T.eq;rw[List.take_of_length_le (by rw[T.len,HL.out];exact Nat.le_refl _),List.take_of_length_le (by rw[HL.out];exact Nat.le_refl _),HV.out]at e;exact e
   have ha:=T.all;have HLz:Hid (zs.length=k):=T.len.trans HL.out;clear T
   by_cases h0:cr=0
   ·subst h0
    have F2:Hid (nv zs=v):=by show _=_;have:=FIN.out;rw[Int.mul_zero]at this;omega
    clear FIN;go_wp2_with fail;go_ret;exact⟨zs,k,_,F2.out,ha,by omega,rfl,own,HB.out,hsz⟩
   ·have h1:(cr != 0)=true:=by simp;exact h0
    have h2:(cr == 0)=false:=by simp;exact h0
    have F2:Hid (nv (zs++[cr])=v):=by show _=_;rw[nv_snoc,HLz.out];exact FIN.out
    have ha2:AllW (zs++[cr]):=ha.append (AllW.cons cw AllW.nil);clear FIN h0
    go_wp2_with (at_builtin;refine wpList_append_own _ rfl _ _ 278 rfl base 166 i0 (.int .u32 0) 1 4 Tryz.underlying278 HI.out HZ0.out HZ1.out HZ2.out rfl (by decide) _ _ _ rfl (own.alloc _) ⟨wr.heap.size,0,none⟩ 1 1 [_] rfl rfl (cell_one_new _ _ _) ?c2 ?c3 ?c4 ?c5 ?_)
    case c2=>intro u hu;simp at hu;subst hu;rfl
    case c3=>unfold maxLen;omega
    case c4=>omega
    case c5=>simp;omega
    intro v' w1 own' hgrow hnil;clear hnil;have HB2:=Hj (own_grown1 (HB.out.alloc (by omega) _) (by simp;omega) (own.alloc _) hgrow);have hsz2:w.heap.size≤w1.heap.size:=by have:=hgrow.size;simp at this;omega
    have own2:w1.ownsRow base 166 1 v' (k+1) ((zs++[cr]).map (Value.int .u32)):=by rw[List.map_append];exact own'
    clear own' hgrow own HB;go_wp2_with fail;go_ret;exact⟨zs++[cr],k+1,v',F2.out,ha2,Nat.le_refl _,rfl,own2,HB2.out,hsz2⟩
def isDig (c:UInt8):Bool:=decide (48≤c.toNat) && decide (c.toNat≤57)
def digB (l:List UInt8):Bool:=!l.isEmpty && l.all isDig
def dval (l:List UInt8):Int:=l.foldl (fun a c=>a*10+((c.toNat:Int)-48)) 0
theorem dval_snoc (l:List UInt8)(c:UInt8):dval (l++[c])=dval l*10+((c.toNat:Int)-48):=by unfold dval;rw[List.foldl_append];rfl
theorem dval_nil:dval []=0:=rfl
theorem dval_one (c:UInt8):dval [c]=(c.toNat:Int)-48:=by have:=dval_snoc [] c;rw[dval_nil,List.nil_append]at this;omega
theorem dval_append:∀(l m:List UInt8),dval (l++m)=dval l*10 ^ m.length+dval m
 | l,[]=>by simp[dval_nil]
 | l,c::m=>by
  have h1:=dval_append (l++[c]) m;have h2:=dval_append [c] m;rw[List.append_assoc,dval_snoc]at h1;simp only[List.singleton_append]at h1 h2;rw[h1,h2,dval_one,List.length_cons,Int.pow_succ,Int.add_mul,Int.mul_assoc,Int.mul_comm 10];omega
theorem dval_cons (c:UInt8)(m:List UInt8):dval (c::m)=((c.toNat:Int)-48)*10 ^ m.length+dval m:=by
 have h2:=dval_append [c] m;rw[dval_one]at h2;exact h2
theorem dval_bd:∀ {l:List UInt8},l.all isDig=true→0≤dval l∧dval l<10 ^ l.length
 | [],_=>by simp[dval_nil]
 | c::m,h=>by
  simp only[List.all_cons,Bool.and_eq_true]at h;obtain⟨h1,h2⟩:=dval_bd h.2;have h3:=h.1;unfold isDig at h3;simp only[Bool.and_eq_true,decide_eq_true_eq]at h3;have hp:(0:Int)<10 ^ m.length:=Int.pow_pos (by decide);have h4:0≤((c.toNat:Int)-48)*10 ^ m.length:=Int.mul_nonneg (by omega) (Int.le_of_lt hp);have h5:((c.toNat:Int)-48)*10 ^ m.length≤9*10 ^ m.length:=Int.mul_le_mul_of_nonneg_right (by omega) (Int.le_of_lt hp);rw[dval_cons,List.length_cons,Int.pow_succ];omega
theorem take_snoc (s:ByteArray)(k:Nat)(h:k<s.size):s.data.toList.take (k+1)=s.data.toList.take k++[s[k]]:=by
 rw[List.take_succ_eq_append_getElem (by simpa using h)];rfl
theorem isDigits_any (s:ByteArray)(w:World)(hs:s.size≤1048576) :
  Calls Tryz.prog 233 #[.string s] w fun e w'=>e=.returned (.bool (digB s.data.toList))∧w=w':=by
 go_enter Tryz.func233,Tryz.ntmps233;go_wp2_with fail
 go_loop [6] (fun s6=>∃k:Nat,s6=.int .i64 (k:Int)∧k≤s.size∧Hid ((s.data.toList.take k).all isDig=true)) (fun s6=>s.size-(intOf s6).toNat)
 case atStart=>exact⟨0,rfl,Nat.zero_le _,by show _=_;simp⟩
 case round=>
  obtain⟨k,rfl,hk,H⟩:=hrel
  by_cases hlt:k<s.size
  ·have hts:=take_snoc s k hlt
   have hmem:s[k]∈s.data.toList:=by
    have:s[k]∈s.data.toList.take (k+1):=by rw[hts];simp
    exact List.mem_of_mem_take this
   have hl1:(k:Int)<(s.size:Int):=by omega
   by_cases hd:isDig s[k]=true
   ·have H2:Hid ((s.data.toList.take (k+1)).all isDig=true):=by
     show _=_;rw[hts,List.all_append,H.out]
     simp[hd]
    unfold isDig at hd;simp only[Bool.and_eq_true,decide_eq_true_eq]at hd;obtain⟨d1,d2⟩:=hd;clear hts H hmem;go_wp2_with fail
    go_round
    case rel=>exact⟨k+1,by go_num,by omega,H2⟩
    case measure=>simp[intOf];omega
   ·have F:Hid (false=digB s.data.toList):=by
     show _=_;unfold digB
     have:s.data.toList.all isDig=false:=by
      rw[List.all_eq_false];exact⟨_,hmem,hd⟩
     rw[this,Bool.and_false]
    unfold isDig at hd;simp only[Bool.and_eq_true,decide_eq_true_eq]at hd;clear hts H hmem
    by_cases d1:48≤s[k].toNat
    ·have d2:57<s[k].toNat:=by omega
     have d3:(57:Int)<(s[k].toNat:Int):=by omega
     have d4:¬(s[k].toNat:Int)<48:=by omega
     clear hd;go_wp2_with fail;go_ret;exact⟨ret_bool F.out,rfl⟩
    ·have d3:(s[k].toNat:Int)<48:=by omega
     clear hd;go_wp2_with fail;go_ret;exact⟨ret_bool F.out,rfl⟩
  ·have ek:k=s.size:=by omega
   have ht:s.data.toList.take k=s.data.toList:=List.take_of_length_le (by simp;omega)
   have F:Hid ((!s.toList.isEmpty)=digB s.data.toList):=by
    show _=_;rw[Lib.toList_data];unfold digB;have:=H.out;rw[ht]at this;rw[this,Bool.and_true]
   clear ht H;go_wp2_with fail;go_ret;exact⟨ret_bool F.out,rfl⟩
theorem group_any (s:ByteArray)(w:World)(hs:s.size≤9)(hd:s.data.toList.all isDig=true) :
  Calls Tryz.prog 235 #[.string s] w fun e w'=>e=.returned (.int .u32 (dval s.data.toList))∧w=w':=by
 have HD:=Hj hd;clear hd;go_enter Tryz.func235,Tryz.ntmps235;go_wp2_with fail
 go_loop [3,7] (fun s3 s7=>∃k:Nat,s7=.int .i64 (k:Int)∧k≤s.size∧s3=.int .u32 (dval (s.data.toList.take k))) (fun _ s7=>s.size-(intOf s7).toNat)
 case atStart=>exact⟨0,rfl,Nat.zero_le _,rfl⟩
 case round=>
  obtain⟨k,rfl,hk,rfl⟩:=hrel
  have hall:(s.data.toList.take k).all isDig=true:=by
   rw[List.all_eq_true];exact fun c hc=>List.all_eq_true.1 HD.out c (List.mem_of_mem_take hc)
  obtain⟨b0,b1⟩:=dval_bd hall
  by_cases hlt:k<s.size
  ·have hts:=take_snoc s k hlt
   have hmem:s[k]∈s.data.toList:=by
    have:s[k]∈s.data.toList.take (k+1):=by rw[hts];simp
    exact List.mem_of_mem_take this
   have hdk:=List.all_eq_true.1 HD.out _ hmem;unfold isDig at hdk;simp only[Bool.and_eq_true,decide_eq_true_eq]at hdk;obtain⟨d1,d2⟩:=hdk;have hl1:(k:Int)<(s.size:Int):=by omega
   have b2:dval (s.data.toList.take k)<100000000:=by
    have hlen:(s.data.toList.take k).length≤8:=by rw[List.length_take];omega
    have h3:(10:Int) ^ (s.data.toList.take k).length≤10 ^ 8:=by
     have h4:10 ^ (s.data.toList.take k).length≤10 ^ 8:=Nat.pow_le_pow_right (by decide) hlen;have h5:((10 ^ (s.data.toList.take k).length:Nat):Int)≤((10 ^ 8:Nat):Int):=Int.ofNat_le.2 h4
     simpa using h5
    rw[show(10:Int) ^ 8=100000000 by decide]at h3;omega
   have HS:Hid (dval (s.data.toList.take (k+1))=dval (s.data.toList.take k)*10+((s[k].toNat:Int)-48)):=by show _=_;rw[hts,dval_snoc]
   generalize dval (s.data.toList.take k)=x at *;have d3:(48:Int)≤(s[k].toNat:Int):=by omega
   have d4:(s[k].toNat:Int)≤57:=by omega
   clear hts hmem hall b1 d1 d2;go_wp2_with fail
   go_round
   case rel=>exact⟨k+1,by go_num,by omega,by rw[HS.out]⟩
   case measure=>simp[intOf];omega
  ·have ek:k=s.size:=by omega
   have ht:s.data.toList.take k=s.data.toList:=List.take_of_length_le (by simp;omega);have F:Hid (dval (s.data.toList.take k)=dval s.data.toList):=by show _=_;rw[ht]
   clear ht hall b1;generalize dval (s.data.toList.take k)=x at *;go_wp2_with fail;go_ret;exact⟨ret_int F.out,rfl⟩
def parV (l:List UInt8):Int:=if digB l then dval l else 0
def parE (l:List UInt8):Int:=if digB l then 0 else 22
theorem nparse_any (s:ByteArray)(w:World)(hs:s.size≤20000) :
  Calls Tryz.prog 219 #[.string s] w (RetShl (parV s.data.toList) (parE s.data.toList) w):=by
 have D:=isDigits_any s;obtain⟨pv,hpv⟩:∃pv,parV s.data.toList=pv:=⟨_,rfl⟩;obtain⟨pe,hpe⟩:∃pe,parE s.data.toList=pe:=⟨_,rfl⟩;rw[hpv,hpe];have HPV:=Hj hpv;have HPE:=Hj hpe;clear hpv hpe
 cases hd:digB s.data.toList
 ·have FV:Hid (pv=0):=by show _=_;rw[←HPV.out,parV,hd];rfl
  have FE:Hid (pe=22):=by show _=_;rw[←HPE.out,parE,hd];rfl
  rw[hd]at D;have DD:=Hj D;clear D hd;go_enter Tryz.func219,Tryz.ntmps219;go_wp2_with fail;refine(DD.out _ (by omega)).mono ?_;rintro e w1 ⟨rfl,rfl⟩;clear DD;go_wp2_with fail
  go_ret2
  refine⟨[],none,0,0,by rw[FV.out];exact IsNat.nil,rfl,?_,Nat.le_refl _,.inl rfl,Below.refl _ _⟩;rw[FE.out];rfl
 ·have FV:Hid (pv=dval s.data.toList):=by show _=_;rw[←HPV.out,parV,hd];rfl
  have FE:Hid (pe=0):=by show _=_;rw[←HPE.out,parE,hd];rfl
  have HALL:Hid (s.data.toList.all isDig=true):=by
   unfold digB at hd;simp only[Bool.and_eq_true]at hd;exact hd.2
  rw[hd]at D;have DD:=Hj D;clear D hd;go_enter Tryz.func219,Tryz.ntmps219;go_wp2_with fail;refine(DD.out _ (by omega)).mono ?_;rintro e w1 ⟨rfl,rfl⟩;clear DD;go_wp2_with fail
  go_loopg [0,4] s.size (fun gk s0 s4 wr=>∃(k n c:Nat) (t:ByteArray) (ws:List Int) (A:Option Addr),s0=.string t∧s4=.slice A n c∧gk=t.size∧k≤s.size∧Hid (t.data.toList=s.data.toList.drop k)∧Hid (t.size=s.size-k)∧(k=0∨t.size % 9=0)∧Hid (nv ws=dval (s.data.toList.take k))∧AllW ws∧n≤k∧wr.ownsRow w.heap.size 166 1 (.slice A n c) n (ws.map (Value.int .u32))∧Hid (Below w.heap.size w wr))
  case atStart=>exact⟨0,0,0,s,[],none,rfl,rfl,rfl,Nat.zero_le _,by show _=_;simp,by show _=_;simp,.inl rfl,rfl,AllW.nil,Nat.le_refl _,⟨rfl,.inl ⟨rfl,rfl⟩⟩,Below.refl _ _⟩
  case round=>
   obtain⟨k,n,c,t,ws,A,rfl,rfl,hgk,hk,HT,HS,h9,HV,aw,hnk,own,HB⟩:=hrel;have hts:=HS.out
   by_cases h0:t.size=0
   ·have ek:k=s.size:=by omega
    have ht:s.data.toList.take k=s.data.toList:=List.take_of_length_le (by simp;omega);have FIN:Hid (nv ws=pv):=by show _=_;rw[HV.out,ht,FV.out]
    obtain⟨hl,A',c',e,hc',hr',hf'⟩:=own_words own;injection e with e1 e2 e3;subst e1 e3;have HL:=Hj hl;have hd0:decide ((0:Int)<(t.size:Int))=false:=decide_eq_false (by omega);have hd1:decide (0<t.size)=false:=decide_eq_false (by omega);clear ht HV hl own hgk HT HS h9 hts ek h0;go_wp2_with fail;refine(trim_any A n c ws wr HL.out hc' hr' (by omega)).mono ?_;rintro e w1 ⟨ts,A2,m2,c2,T,rfl,hmc,hra, -,rfl⟩;have fin2:IsNat pv ts:=by have:=T.nat aw;rw[FIN.out]at this;exact this
    have HTL:=Hj T.len;clear T;go_wp2_with fail
    go_ret2
    refine⟨ts,A2,m2,c2,fin2,HTL.out,?_,hmc,hra,HB.out⟩;rw[FE.out];rfl
   ·obtain⟨q,hq⟩:∃q,(t.size - 1) % 9+1=q:=⟨_,rfl⟩
    have hq1:((t.size:Int)-1) % 9+1=(q:Int):=by omega
    have hq2:q≤t.size:=by omega
    have hq3:q≤9:=by omega
    have hq4:1≤q:=by omega
    have ht0:(0:Int)<(t.size:Int):=by omega
    have htm:t.size≤20000:=by omega
    have hq9:k=0∨q=9:=by omega
    have hr9:(t.size-q) % 9=0:=by omega
    have hkq:k+q≤s.size:=by omega
    have htl:t.data.toList.length=t.size:=by simp
    have e1:(t.extract 0 q).data.toList=t.data.toList.take q:=by rw[Lib.extract_data];simp
    have e2:(t.extract q t.size).data.toList=t.data.toList.drop q:=by rw[Lib.extract_data,List.take_of_length_le (by rw[List.length_drop,htl];exact Nat.le_refl _)]
    have s1:(t.extract 0 q).size=q:=by
     have:(t.extract 0 q).data.toList.length=q:=by rw[e1,List.length_take,htl];omega
     simpa using this
    have s2:(t.extract q t.size).size=t.size-q:=by
     rw[Lib.size_eq,e2,List.length_drop,htl]
    have hallt:(t.extract 0 q).data.toList.all isDig=true:=by
     rw[e1,List.all_eq_true];intro ch hch;have h1:=List.mem_of_mem_take hch;rw[HT.out]at h1;exact List.all_eq_true.1 HALL.out ch (List.mem_of_mem_drop h1)
    have GC:=Hj (fun w=>group_any (t.extract 0 q) w (by omega) hallt);have gb:=dval_bd hallt
    have HV2:Hid (nv ws*1000000000+dval (t.extract 0 q).data.toList=dval (s.data.toList.take (k+q))):=by
     show _=_
     have h1:s.data.toList.take (k+q)=s.data.toList.take k++(t.extract 0 q).data.toList:=by
      rw[e1,HT.out,←List.take_add]
     rw[h1,dval_append,HV.out];have hlen:(t.extract 0 q).data.toList.length=q:=by simpa using s1
     rw[hlen];rcases hq9 with h|h
     ·subst h;simp[dval_nil]
     ·subst h;rfl
    have HT2:Hid ((t.extract q t.size).data.toList=s.data.toList.drop (k+q)):=by
     show _=_;rw[e2,HT.out,List.drop_drop]
    have HS2:Hid ((t.extract q t.size).size=s.size-(k+q)):=by show _=_;rw[s2];omega
    have gb9:dval (t.extract 0 q).data.toList<4294967296:=by
     have hlen:(t.extract 0 q).data.toList.length=q:=by simpa using s1
     rw[hlen]at gb;have h4:10 ^ q≤10 ^ 9:=Nat.pow_le_pow_right (by decide) hq3;have h5:((10 ^ q:Nat):Int)≤((10 ^ 9:Nat):Int):=Int.ofNat_le.2 h4;have h6:((10 ^ q:Nat):Int)=(10:Int) ^ q:=by simp
     have h7:((10 ^ 9:Nat):Int)=1000000000:=by decide
     have:=gb.2;omega
    have gb0:=gb.1;have S2:=Hj s2;have h9':(t.extract q t.size).size % 9=0:=by rw[s2];exact hr9
    have GK:=Hj hgk;clear hgk hq hts h0 e1 e2 s1 s2 hallt gb HV HT HS htl h9 hq9;generalize dval (t.extract 0 q).data.toList=gv at *;go_wp2_with fail;refine(GC.out _).mono ?_;rintro e w1 ⟨rfl,rfl⟩;clear GC;go_wp2_with fail;refine(mulAdd_any A n c w.heap.size ws 1000000000 gv wr own HB.out.size aw ⟨by decide,by decide⟩ ⟨gb0,gb9⟩ (by omega)).mono ?_;rintro e w1 ⟨zs,m,u,hv,az,hm,rfl,own2,hb2,hsz2⟩;obtain⟨-,A2,c2,rfl, -, -, -⟩:=own_words own2;have HV3:=Hj (hv.trans HV2.out);have HB2:=Hj (HB.out.trans hb2);clear hv hb2 HB own HV2;go_wp2_with fail
    go_roundg (t.extract q t.size).size
    case measure=>rw[GK.out,S2.out];omega
    case rel=>exact⟨k+q,m,c2,t.extract q t.size,zs,A2,rfl,rfl,rfl,hkq,HT2,HS2,.inr h9',HV3,az,by omega,own2,HB2⟩
theorem pow10_mono (a b:Nat)(h:a≤b):(10:Int) ^ a≤10 ^ b:=by
 have h4:10 ^ a≤10 ^ b:=Nat.pow_le_pow_right (by decide) h;have h5:((10 ^ a:Nat):Int)≤((10 ^ b:Nat):Int):=Int.ofNat_le.2 h4
 simpa using h5
theorem own_below {B:Nat}{e:TypeId}{k:Nat}{v:Value}{n:Nat}{xs:List Value}{w w':World}(h:w.ownsRow B e k v n xs)(hb:Below w.heap.size w w'):w'.ownsRow B e k v n xs:=
 h.kept (row:=none) ⟨hb.os,hb.tape,hb.output,hb.size,fun j hj _=>hb.block j hj⟩ (by cases hv:v.ownBlock<;>simp)
end Go.Proofs.YtkbicfffokegeaaGreatDoor
namespace Go.Proofs.YtkbicfffokegeaaGreatDoor
set_option maxHeartbeats 16000000
open Go.Shelf Go.Proofs
def sh_lays161_ren:Go.Shelf.Ren:=⟨fun|161=>114|231=>138|227=>139|233=>140|235=>141|228=>168|197=>169|151=>170|260=>191|152=>192|137=>176|119=>213|224=>195|225=>194|217=>193|266=>214|n=>n,fun|9=>9|4=>4|3=>3|5=>5|117=>202|116=>201|0=>0|124=>205|105=>231|21=>21|119=>146|46=>162|139=>274|138=>273|n=>n,fun|3=>3|4=>4|n=>n⟩
theorem sh_lays161:Go.Proofs.Lays.n161 Tryz.prog sh_lays161_ren:={
 mixed:=by kernel_rfl
 f119:=Tryz.func213.trans (congrArg some (by kernel_rfl))
 f137:=Tryz.func176.trans (congrArg some (by kernel_rfl))
 f151:=Tryz.func170.trans (congrArg some (by kernel_rfl))
 f152:=Tryz.func192.trans (congrArg some (by kernel_rfl))
 f161:=Tryz.func114.trans (congrArg some (by kernel_rfl))
 f197:=Tryz.func169.trans (congrArg some (by kernel_rfl))
 f217:=Tryz.func193.trans (congrArg some (by kernel_rfl))
 f224:=Tryz.func195.trans (congrArg some (by kernel_rfl))
 f225:=Tryz.func194.trans (congrArg some (by kernel_rfl))
 f227:=Tryz.func139.trans (congrArg some (by kernel_rfl))
 f228:=Tryz.func168.trans (congrArg some (by kernel_rfl))
 f231:=Tryz.func138.trans (congrArg some (by kernel_rfl))
 f233:=Tryz.func140.trans (congrArg some (by kernel_rfl))
 f235:=Tryz.func141.trans (congrArg some (by kernel_rfl))
 f260:=Tryz.func191.trans (congrArg some (by kernel_rfl))
 f266:=Tryz.func214.trans (congrArg some (by kernel_rfl))
 t0:=Tryz.underlying0
 a0:=Tryz.isAgg0
 z0:=Tryz.sizeOf0
 v0:=Tryz.zeroValue0
 t3:=Tryz.underlying3
 a3:=Tryz.isAgg3
 z3:=Tryz.sizeOf3
 v3:=Tryz.zeroValue3
 t4:=Tryz.underlying4
 a4:=Tryz.isAgg4
 z4:=Tryz.sizeOf4
 v4:=Tryz.zeroValue4
 t5:=Tryz.underlying5
 a5:=Tryz.isAgg5
 z5:=Tryz.sizeOf5
 v5:=Tryz.zeroValue5
 t9:=Tryz.underlying9
 a9:=Tryz.isAgg9
 z9:=Tryz.sizeOf9
 v9:=Tryz.zeroValue9
 t21:=Tryz.underlying21
 a21:=Tryz.isAgg21
 z21:=Tryz.sizeOf21
 v21:=Tryz.zeroValue21
 t46:=Tryz.underlying162
 a46:=Tryz.isAgg162
 z46:=Tryz.sizeOf162
 v46:=Tryz.zeroValue162
 t105:=Tryz.underlying231
 a105:=Tryz.isAgg231
 z105:=Tryz.sizeOf231
 v105:=Tryz.zeroValue231
 t116:=Tryz.underlying201
 a116:=Tryz.isAgg201
 z116:=Tryz.sizeOf201
 t117:=Tryz.underlying202
 a117:=Tryz.isAgg202
 z117:=Tryz.sizeOf202
 v117:=Tryz.zeroValue202
 t119:=Tryz.underlying146
 a119:=Tryz.isAgg146
 z119:=Tryz.sizeOf146
 t124:=Tryz.underlying205
 a124:=Tryz.isAgg205
 z124:=Tryz.sizeOf205
 v124:=Tryz.zeroValue205
 t138:=Tryz.underlying273
 a138:=Tryz.isAgg273
 z138:=Tryz.sizeOf273
 v138:=Tryz.zeroValue273
 t139:=Tryz.underlying274
 a139:=Tryz.isAgg274
 z139:=Tryz.sizeOf274
 v139:=Tryz.zeroValue274
 g3:=by kernel_rfl
 g4:=by kernel_rfl }
def sh_lays137_ren:Go.Shelf.Ren:=⟨fun|137=>176|217=>193|266=>214|n=>n,fun|9=>9|5=>5|3=>3|n=>n,fun|n=>n⟩
theorem sh_lays137:Go.Proofs.Lays.n137 Tryz.prog sh_lays137_ren:={
 mixed:=by kernel_rfl
 f137:=Tryz.func176.trans (congrArg some (by kernel_rfl))
 f217:=Tryz.func193.trans (congrArg some (by kernel_rfl))
 f266:=Tryz.func214.trans (congrArg some (by kernel_rfl))
 t3:=Tryz.underlying3
 a3:=Tryz.isAgg3
 z3:=Tryz.sizeOf3
 v3:=Tryz.zeroValue3
 t5:=Tryz.underlying5
 a5:=Tryz.isAgg5
 z5:=Tryz.sizeOf5
 v5:=Tryz.zeroValue5
 t9:=Tryz.underlying9
 a9:=Tryz.isAgg9
 z9:=Tryz.sizeOf9
 v9:=Tryz.zeroValue9 }
open Go.RowKit in
theorem sh_strings_IndexByte (s:ByteArray)(c:Int)(w:World) :
  Calls Tryz.prog 176 #[.string s,.int .u8 c] w fun e w'=>e=.returned (.int .i64 (Lib.indexByte s.data.toList c.toNat.toUInt8))∧w'=w:=Any.strings_IndexByte sh_lays137 s c w
def sh_lays103_ren:Go.Shelf.Ren:=⟨fun|103=>172|210=>197|206=>142|n=>n,fun|9=>9|4=>4|24=>235|3=>3|n=>n,fun|n=>n⟩
theorem sh_lays103:Go.Proofs.Lays.n103 Tryz.prog sh_lays103_ren:={
 mixed:=by kernel_rfl
 f103:=Tryz.func172.trans (congrArg some (by kernel_rfl))
 f206:=Tryz.func142.trans (congrArg some (by kernel_rfl))
 f210:=Tryz.func197.trans (congrArg some (by kernel_rfl))
 t3:=Tryz.underlying3
 a3:=Tryz.isAgg3
 z3:=Tryz.sizeOf3
 v3:=Tryz.zeroValue3
 t4:=Tryz.underlying4
 a4:=Tryz.isAgg4
 z4:=Tryz.sizeOf4
 v4:=Tryz.zeroValue4
 t9:=Tryz.underlying9
 a9:=Tryz.isAgg9
 z9:=Tryz.sizeOf9
 v9:=Tryz.zeroValue9
 t24:=Tryz.underlying235
 a24:=Tryz.isAgg235
 z24:=Tryz.sizeOf235
 v24:=Tryz.zeroValue235 }
open Go.RowKit in
theorem sh_strings_CutPrefix (s p:ByteArray)(w:World) :
  Calls Tryz.prog 172 #[.string s,.string p] w fun e w'=>e=.returned (.tuple #[.string ⟨(Lib.trimPrefix s.data.toList p.data.toList).toArray⟩,.bool (Lib.hasPrefix s.data.toList p.data.toList)])∧w'=w:=Any.strings_CutPrefix sh_lays103 s p w
def sh_laysC174_ren:Go.Shelf.Ren:=⟨fun|174=>148|247=>174|245=>175|287=>200|279=>201|280=>202|281=>203|282=>204|321=>223|322=>224|316=>225|171=>227|205=>226|243=>243|246=>255|283=>263|284=>264|285=>265|286=>266|129=>182|317=>272|318=>273|319=>274|320=>275|337=>280|338=>281|n=>n,fun|9=>9|3=>3|2=>2|75=>208|85=>209|4=>4|167=>257|5=>5|53=>38|175=>258|46=>162|168=>260|37=>285|0=>0|210=>288|21=>21|127=>302|145=>305|143=>303|171=>319|173=>321|212=>325|51=>166|20=>20|213=>326|232=>328|233=>329|80=>330|n=>n,fun|15=>5|16=>6|17=>8|18=>9|19=>10|n=>n⟩
theorem sh_laysC174:Go.Proofs.LaysC.n174 Tryz.prog sh_laysC174_ren:={
 mixed:=by kernel_rfl
 f129:=Tryz.func182.trans (congrArg some (by kernel_rfl))
 f171:=Tryz.func227.trans (congrArg some (by kernel_rfl))
 f174:=Tryz.func148.trans (congrArg some (by kernel_rfl))
 f205:=Tryz.func226.trans (congrArg some (by kernel_rfl))
 f243:=Tryz.func243.trans (congrArg some (by kernel_rfl))
 f245:=Tryz.func175.trans (congrArg some (by kernel_rfl))
 f246:=Tryz.func255.trans (congrArg some (by kernel_rfl))
 f247:=Tryz.func174.trans (congrArg some (by kernel_rfl))
 f279:=Tryz.func201.trans (congrArg some (by kernel_rfl))
 f280:=Tryz.func202.trans (congrArg some (by kernel_rfl))
 f281:=Tryz.func203.trans (congrArg some (by kernel_rfl))
 f282:=Tryz.func204.trans (congrArg some (by kernel_rfl))
 f283:=Tryz.func263.trans (congrArg some (by kernel_rfl))
 f284:=Tryz.func264.trans (congrArg some (by kernel_rfl))
 f285:=Tryz.func265.trans (congrArg some (by kernel_rfl))
 f286:=Tryz.func266.trans (congrArg some (by kernel_rfl))
 f287:=Tryz.func200.trans (congrArg some (by kernel_rfl))
 f316:=Tryz.func225.trans (congrArg some (by kernel_rfl))
 f317:=Tryz.func272.trans (congrArg some (by kernel_rfl))
 f318:=Tryz.func273.trans (congrArg some (by kernel_rfl))
 f319:=Tryz.func274.trans (congrArg some (by kernel_rfl))
 f320:=Tryz.func275.trans (congrArg some (by kernel_rfl))
 f321:=Tryz.func223.trans (congrArg some (by kernel_rfl))
 f322:=Tryz.func224.trans (congrArg some (by kernel_rfl))
 f337:=Tryz.func280.trans (congrArg some (by kernel_rfl))
 f338:=Tryz.func281.trans (congrArg some (by kernel_rfl))
 t0:=Tryz.underlying0
 a0:=Tryz.isAgg0
 z0:=Tryz.sizeOf0
 v0:=Tryz.zeroValue0
 t2:=Tryz.underlying2
 a2:=Tryz.isAgg2
 z2:=Tryz.sizeOf2
 v2:=Tryz.zeroValue2
 t3:=Tryz.underlying3
 a3:=Tryz.isAgg3
 z3:=Tryz.sizeOf3
 v3:=Tryz.zeroValue3
 t4:=Tryz.underlying4
 a4:=Tryz.isAgg4
 z4:=Tryz.sizeOf4
 v4:=Tryz.zeroValue4
 t5:=Tryz.underlying5
 a5:=Tryz.isAgg5
 z5:=Tryz.sizeOf5
 v5:=Tryz.zeroValue5
 t9:=Tryz.underlying9
 a9:=Tryz.isAgg9
 z9:=Tryz.sizeOf9
 v9:=Tryz.zeroValue9
 t20:=Tryz.underlying20
 a20:=Tryz.isAgg20
 z20:=Tryz.sizeOf20
 v20:=Tryz.zeroValue20
 t21:=Tryz.underlying21
 a21:=Tryz.isAgg21
 z21:=Tryz.sizeOf21
 v21:=Tryz.zeroValue21
 t37:=Tryz.underlying285
 a37:=Tryz.isAgg285
 z37:=Tryz.sizeOf285
 v37:=Tryz.zeroValue285
 t46:=Tryz.underlying162
 a46:=Tryz.isAgg162
 z46:=Tryz.sizeOf162
 v46:=Tryz.zeroValue162
 t51:=Tryz.underlying166
 a51:=Tryz.isAgg166
 z51:=Tryz.sizeOf166
 v51:=Tryz.zeroValue166
 t53:=Tryz.underlying38
 a53:=Tryz.isAgg38
 z53:=Tryz.sizeOf38
 v53:=Tryz.zeroValue38
 t75:=Tryz.underlying208
 a75:=Tryz.isAgg208
 z75:=Tryz.sizeOf208
 v75:=Tryz.zeroValue208
 t85:=Tryz.underlying209
 a85:=Tryz.isAgg209
 z85:=Tryz.sizeOf209
 v85:=Tryz.zeroValue209
 t127:=Tryz.underlying302
 a127:=Tryz.isAgg302
 z127:=Tryz.sizeOf302
 v127:=Tryz.zeroValue302
 t143:=Tryz.underlying303
 a143:=Tryz.isAgg303
 z143:=Tryz.sizeOf303
 v143:=Tryz.zeroValue303
 t145:=Tryz.underlying305
 a145:=Tryz.isAgg305
 z145:=Tryz.sizeOf305
 v145:=Tryz.zeroValue305
 t167:=Tryz.underlying257
 a167:=Tryz.isAgg257
 z167:=Tryz.sizeOf257
 v167:=Tryz.zeroValue257
 t168:=Tryz.underlying260
 a168:=Tryz.isAgg260
 z168:=Tryz.sizeOf260
 v168:=Tryz.zeroValue260
 t171:=Tryz.underlying319
 a171:=Tryz.isAgg319
 z171:=Tryz.sizeOf319
 v171:=Tryz.zeroValue319
 t173:=Tryz.underlying321
 a173:=Tryz.isAgg321
 z173:=Tryz.sizeOf321
 v173:=Tryz.zeroValue321
 t175:=Tryz.underlying258
 a175:=Tryz.isAgg258
 z175:=Tryz.sizeOf258
 v175:=Tryz.zeroValue258
 t210:=Tryz.underlying288
 a210:=Tryz.isAgg288
 z210:=Tryz.sizeOf288
 v210:=Tryz.zeroValue288
 t212:=Tryz.underlying325
 a212:=Tryz.isAgg325
 z212:=Tryz.sizeOf325
 v212:=Tryz.zeroValue325
 t213:=Tryz.underlying326
 a213:=Tryz.isAgg326
 z213:=Tryz.sizeOf326
 t232:=Tryz.underlying328
 a232:=Tryz.isAgg328
 z232:=Tryz.sizeOf328
 v232:=Tryz.zeroValue328
 t233:=Tryz.underlying329
 a233:=Tryz.isAgg329
 z233:=Tryz.sizeOf329
 v233:=Tryz.zeroValue329
 g15:=by kernel_rfl
 g16:=by kernel_rfl
 g17:=by kernel_rfl
 g18:=by kernel_rfl
 g19:=by kernel_rfl
 t80:=Tryz.underlying330
 a80:=Tryz.isAgg330
 z80:=Tryz.sizeOf330
 v80:=Tryz.zeroValue330
 i0:=by kernel_rfl
 i2:=by kernel_rfl
 i3:=by kernel_rfl
 i4:=by kernel_rfl
 i5:=by kernel_rfl
 i9:=by kernel_rfl
 i20:=by kernel_rfl
 i21:=by kernel_rfl
 i37:=by kernel_rfl
 i46:=by kernel_rfl
 i51:=by kernel_rfl
 i53:=by kernel_rfl
 i75:=by kernel_rfl
 i80:=by kernel_rfl
 i85:=by kernel_rfl
 i127:=by kernel_rfl
 i143:=by kernel_rfl
 i145:=by kernel_rfl
 i167:=by kernel_rfl
 i168:=by kernel_rfl
 i171:=by kernel_rfl
 i173:=by kernel_rfl
 i175:=by kernel_rfl
 i210:=by kernel_rfl
 i212:=by kernel_rfl
 i232:=by kernel_rfl
 i233:=by kernel_rfl
 m15:=by kernel_rfl
 m16:=by kernel_rfl
 m17:=by kernel_rfl
 m18:=by kernel_rfl
 m19:=by kernel_rfl
 c0:=by kernel_rfl
 c2:=by kernel_rfl
 c3:=by kernel_rfl
 c4:=by kernel_rfl
 c5:=by kernel_rfl
 c9:=by kernel_rfl
 c20:=by kernel_rfl
 c21:=by kernel_rfl
 c37:=by kernel_rfl
 c46:=by kernel_rfl
 c51:=by kernel_rfl
 c53:=by kernel_rfl
 c75:=by kernel_rfl
 c80:=by kernel_rfl
 c85:=by kernel_rfl
 c127:=by kernel_rfl
 c143:=by kernel_rfl
 c145:=by kernel_rfl
 c167:=by kernel_rfl
 c168:=by kernel_rfl
 c171:=by kernel_rfl
 c173:=by kernel_rfl
 c175:=by kernel_rfl
 c210:=by kernel_rfl
 c212:=by kernel_rfl
 c213:=by kernel_rfl
 c232:=by kernel_rfl
 c233:=by kernel_rfl }
open Go.RowKit in
theorem sh_strconv_ParseInt_10_at32_ok (s:ByteArray)(hmax:s.size≤9223372036854775806)(v:Int)(h:Lib.parseIntB 32 s.data.toList=.ok v)(w:World) :
  Calls Tryz.prog 148 #[.string s,.int .i64 10,.int .i64 32] w fun e w'=>e=.returned (.tuple #[.int .i64 v,.nilIface])∧(w'=w∨∃t,w'=Lib.bytesWorld w 5 t):=Any.strconv_ParseInt_10_at32_ok sh_laysC174 s hmax v h w
open Go.RowKit in
theorem sh_strconv_ParseInt_10_at32_range (s:ByteArray)(hlim:s.size≤281474976710656)(h:Lib.parseIntB 32 s.data.toList=.range)(ev:Value)(w:World)(hv:w.cell? ⟨6,0,none⟩=some ev)(hev:ev=.nilIface∨∃te pe,ev=.iface te pe) :
  Calls Tryz.prog 148 #[.string s,.int .i64 10,.int .i64 32] w fun e w'=>∃N,e=.returned (.tuple #[.int .i64 (Lib.intSat 32 s.data.toList),.iface 260 (.pointer (some ⟨N,0,none⟩))])∧w.heap.size≤N∧w'.heap[N]? = some (.cells #[.string ⟨#[80,97,114,115,101,73,110,116]⟩,.string s,ev] 288 (0,0))∧Below w.heap.size w w':=Any.strconv_ParseInt_10_at32_range sh_laysC174 s hlim h ev w hv hev
def sh_lays145_ren:Go.Shelf.Ren:=⟨fun|145=>116|220=>143|219=>171|217=>193|225=>194|224=>195|267=>196|266=>214|314=>215|n=>n,fun|9=>9|4=>4|59=>170|3=>3|5=>5|46=>162|146=>275|51=>166|n=>n,fun|1=>2|n=>n⟩
theorem sh_lays145:Go.Proofs.Lays.n145 Tryz.prog sh_lays145_ren:={
 mixed:=by kernel_rfl
 f145:=Tryz.func116.trans (congrArg some (by kernel_rfl))
 f217:=Tryz.func193.trans (congrArg some (by kernel_rfl))
 f219:=Tryz.func171.trans (congrArg some (by kernel_rfl))
 f220:=Tryz.func143.trans (congrArg some (by kernel_rfl))
 f224:=Tryz.func195.trans (congrArg some (by kernel_rfl))
 f225:=Tryz.func194.trans (congrArg some (by kernel_rfl))
 f266:=Tryz.func214.trans (congrArg some (by kernel_rfl))
 f267:=Tryz.func196.trans (congrArg some (by kernel_rfl))
 f314:=Tryz.func215.trans (congrArg some (by kernel_rfl))
 t3:=Tryz.underlying3
 a3:=Tryz.isAgg3
 z3:=Tryz.sizeOf3
 v3:=Tryz.zeroValue3
 t4:=Tryz.underlying4
 a4:=Tryz.isAgg4
 z4:=Tryz.sizeOf4
 v4:=Tryz.zeroValue4
 t5:=Tryz.underlying5
 a5:=Tryz.isAgg5
 z5:=Tryz.sizeOf5
 v5:=Tryz.zeroValue5
 t9:=Tryz.underlying9
 a9:=Tryz.isAgg9
 z9:=Tryz.sizeOf9
 v9:=Tryz.zeroValue9
 t46:=Tryz.underlying162
 a46:=Tryz.isAgg162
 z46:=Tryz.sizeOf162
 v46:=Tryz.zeroValue162
 t51:=Tryz.underlying166
 a51:=Tryz.isAgg166
 z51:=Tryz.sizeOf166
 v51:=Tryz.zeroValue166
 t59:=Tryz.underlying170
 a59:=Tryz.isAgg170
 z59:=Tryz.sizeOf170
 v59:=Tryz.zeroValue170
 t146:=Tryz.underlying275
 a146:=Tryz.isAgg275
 z146:=Tryz.sizeOf275
 v146:=Tryz.zeroValue275
 g1:=by kernel_rfl }
open Go.RowKit Go.Lib in
theorem sh_strings_Cut (s sep:ByteArray)(m:Int)(w:World)(hs:s.size<4294967281)(hm:w.cell? ⟨2,0,none⟩=some (.int .i64 m)) :
  Calls Tryz.prog 116 #[.string s,.string sep] w fun e w'=>e=.returned (.tuple #[.string ⟨(Lib.cut s.data.toList sep.data.toList).1.toArray⟩,.string ⟨(Lib.cut s.data.toList sep.data.toList).2.1.toArray⟩,.bool (Lib.cut s.data.toList sep.data.toList).2.2])∧∃n,w'=w.drewN n:=Any.strings_Cut sh_lays145 s sep m w hs hm
def sh_lays99_ren:Go.Shelf.Ren:=⟨fun|99=>115|206=>142|n=>n,fun|9=>9|4=>4|3=>3|n=>n,fun|n=>n⟩
theorem sh_lays99:Go.Proofs.Lays.n99 Tryz.prog sh_lays99_ren:={
 mixed:=by kernel_rfl
 f99:=Tryz.func115.trans (congrArg some (by kernel_rfl))
 f206:=Tryz.func142.trans (congrArg some (by kernel_rfl))
 t3:=Tryz.underlying3
 a3:=Tryz.isAgg3
 z3:=Tryz.sizeOf3
 v3:=Tryz.zeroValue3
 t4:=Tryz.underlying4
 a4:=Tryz.isAgg4
 z4:=Tryz.sizeOf4
 v4:=Tryz.zeroValue4
 t9:=Tryz.underlying9
 a9:=Tryz.isAgg9
 z9:=Tryz.sizeOf9
 v9:=Tryz.zeroValue9 }
open Go.RowKit Go.Lib in
theorem sh_strings_HasPrefix (s p:ByteArray)(w:World) :
  Calls Tryz.prog 115 #[.string s,.string p] w fun e w'=>e=.returned (.bool (Lib.hasPrefix s.data.toList p.data.toList))∧w'=w:=Any.strings_HasPrefix sh_lays99 s p w
def sh_lays101_ren:Go.Shelf.Ren:=⟨fun|101=>232|208=>246|206=>142|n=>n,fun|9=>9|4=>4|3=>3|n=>n,fun|n=>n⟩
theorem sh_lays101:Go.Proofs.Lays.n101 Tryz.prog sh_lays101_ren:={
 mixed:=by kernel_rfl
 f101:=Tryz.func232.trans (congrArg some (by kernel_rfl))
 f206:=Tryz.func142.trans (congrArg some (by kernel_rfl))
 f208:=Tryz.func246.trans (congrArg some (by kernel_rfl))
 t3:=Tryz.underlying3
 a3:=Tryz.isAgg3
 z3:=Tryz.sizeOf3
 v3:=Tryz.zeroValue3
 t4:=Tryz.underlying4
 a4:=Tryz.isAgg4
 z4:=Tryz.sizeOf4
 v4:=Tryz.zeroValue4
 t9:=Tryz.underlying9
 a9:=Tryz.isAgg9
 z9:=Tryz.sizeOf9
 v9:=Tryz.zeroValue9 }
open Go.RowKit Go.Lib in
theorem sh_strings_TrimPrefix (s p:ByteArray)(w:World) :
  Calls Tryz.prog 232 #[.string s,.string p] w fun e w'=>e=.returned (.string ⟨(Lib.trimPrefix s.data.toList p.data.toList).toArray⟩)∧w'=w:=Any.strings_TrimPrefix sh_lays101 s p w
def sh_laysM157_ren:Go.Shelf.Ren:=⟨fun|157=>78|229=>93|199=>94|261=>113|311=>136|312=>137|n=>n,fun|9=>9|31=>71|3=>3|5=>5|4=>4|119=>146|0=>0|40=>102|152=>163|21=>21|154=>165|51=>166|141=>168|196=>191|193=>188|198=>194|49=>192|194=>189|201=>197|226=>229|46=>162|227=>230|n=>n,fun|0=>0|6=>1|n=>n⟩
theorem sh_laysM157:Go.Proofs.LaysM.n157 Tryz.prog sh_laysM157_ren:={
 mixed:=by kernel_rfl
 f157:=Tryz.func78.trans (congrArg some (by kernel_rfl))
 f199:=Tryz.func94.trans (congrArg some (by kernel_rfl))
 f229:=Tryz.func93.trans (congrArg some (by kernel_rfl))
 f261:=Tryz.func113.trans (congrArg some (by kernel_rfl))
 f311:=Tryz.func136.trans (congrArg some (by kernel_rfl))
 f312:=Tryz.func137.trans (congrArg some (by kernel_rfl))
 t0:=Tryz.underlying0
 a0:=Tryz.isAgg0
 z0:=Tryz.sizeOf0
 v0:=Tryz.zeroValue0
 t3:=Tryz.underlying3
 a3:=Tryz.isAgg3
 z3:=Tryz.sizeOf3
 v3:=Tryz.zeroValue3
 t4:=Tryz.underlying4
 a4:=Tryz.isAgg4
 z4:=Tryz.sizeOf4
 v4:=Tryz.zeroValue4
 t5:=Tryz.underlying5
 a5:=Tryz.isAgg5
 z5:=Tryz.sizeOf5
 v5:=Tryz.zeroValue5
 t9:=Tryz.underlying9
 a9:=Tryz.isAgg9
 z9:=Tryz.sizeOf9
 v9:=Tryz.zeroValue9
 t21:=Tryz.underlying21
 a21:=Tryz.isAgg21
 z21:=Tryz.sizeOf21
 v21:=Tryz.zeroValue21
 t31:=Tryz.underlying71
 a31:=Tryz.isAgg71
 z31:=Tryz.sizeOf71
 v31:=Tryz.zeroValue71
 t40:=Tryz.underlying102
 a40:=Tryz.isAgg102
 z40:=Tryz.sizeOf102
 v40:=Tryz.zeroValue102
 t46:=Tryz.underlying162
 a46:=Tryz.isAgg162
 z46:=Tryz.sizeOf162
 v46:=Tryz.zeroValue162
 t49:=Tryz.underlying192
 a49:=Tryz.isAgg192
 z49:=Tryz.sizeOf192
 v49:=Tryz.zeroValue192
 t51:=Tryz.underlying166
 a51:=Tryz.isAgg166
 z51:=Tryz.sizeOf166
 v51:=Tryz.zeroValue166
 t119:=Tryz.underlying146
 a119:=Tryz.isAgg146
 z119:=Tryz.sizeOf146
 t141:=Tryz.underlying168
 a141:=Tryz.isAgg168
 z141:=Tryz.sizeOf168
 v141:=Tryz.zeroValue168
 t152:=Tryz.underlying163
 a152:=Tryz.isAgg163
 z152:=Tryz.sizeOf163
 v152:=Tryz.zeroValue163
 t154:=Tryz.underlying165
 a154:=Tryz.isAgg165
 z154:=Tryz.sizeOf165
 v154:=Tryz.zeroValue165
 t193:=Tryz.underlying188
 a193:=Tryz.isAgg188
 z193:=Tryz.sizeOf188
 v193:=Tryz.zeroValue188
 t194:=Tryz.underlying189
 a194:=Tryz.isAgg189
 z194:=Tryz.sizeOf189
 v194:=Tryz.zeroValue189
 t196:=Tryz.underlying191
 a196:=Tryz.isAgg191
 z196:=Tryz.sizeOf191
 v196:=Tryz.zeroValue191
 t198:=Tryz.underlying194
 a198:=Tryz.isAgg194
 z198:=Tryz.sizeOf194
 v198:=Tryz.zeroValue194
 t201:=Tryz.underlying197
 a201:=Tryz.isAgg197
 z201:=Tryz.sizeOf197
 v201:=Tryz.zeroValue197
 t226:=Tryz.underlying229
 a226:=Tryz.isAgg229
 z226:=Tryz.sizeOf229
 v226:=Tryz.zeroValue229
 t227:=Tryz.underlying230
 a227:=Tryz.isAgg230
 z227:=Tryz.sizeOf230
 v227:=Tryz.zeroValue230
 g0:=by kernel_rfl
 g6:=by kernel_rfl
 i0:=by kernel_rfl
 i3:=by kernel_rfl
 i4:=by kernel_rfl
 i5:=by kernel_rfl
 i9:=by kernel_rfl
 i21:=by kernel_rfl
 i31:=by kernel_rfl
 i40:=by kernel_rfl
 i46:=by kernel_rfl
 i49:=by kernel_rfl
 i51:=by kernel_rfl
 i141:=by kernel_rfl
 i152:=by kernel_rfl
 i154:=by kernel_rfl
 i193:=by kernel_rfl
 i194:=by kernel_rfl
 i196:=by kernel_rfl
 i198:=by kernel_rfl
 i201:=by kernel_rfl
 i226:=by kernel_rfl
 i227:=by kernel_rfl
 m0:=by kernel_rfl
 m6:=by kernel_rfl }
open Go.RowKit Go.Lib in
theorem sh_strings_Fields_laid (s:ByteArray)(w:World)(hs:s.size<4294967281)(hascii:∀(j:Nat) b,s.data.toList[j]? = some b→b.toNat<128)(htab:Lib.TabIs Tryz.prog w "strings.asciiSpace" .u8 Lib.asciiSpaceTab) :
  Calls Tryz.prog 78 #[.string s] w fun e w'=>
   e=.returned (.slice (some ⟨w.heap.size,0,none⟩) (Lib.fields s.data.toList).length (Lib.fields s.data.toList).length)∧w'=w.alloc (.cells ((Lib.fields s.data.toList).map fun l=>Value.string ⟨l.toArray⟩).toArray 9):=Any.strings_Fields_laid sh_laysM157 s w hs hascii htab
def sh_lays153_ren:Go.Shelf.Ren:=⟨fun|153=>216|152=>192|226=>231|227=>139|228=>168|137=>176|119=>213|224=>195|225=>194|217=>193|266=>214|n=>n,fun|9=>9|3=>3|4=>4|5=>5|21=>21|117=>202|116=>201|0=>0|46=>162|124=>205|n=>n,fun|n=>n⟩
theorem sh_lays153:Go.Proofs.Lays.n153 Tryz.prog sh_lays153_ren:={
 mixed:=by kernel_rfl
 f119:=Tryz.func213.trans (congrArg some (by kernel_rfl))
 f137:=Tryz.func176.trans (congrArg some (by kernel_rfl))
 f152:=Tryz.func192.trans (congrArg some (by kernel_rfl))
 f153:=Tryz.func216.trans (congrArg some (by kernel_rfl))
 f217:=Tryz.func193.trans (congrArg some (by kernel_rfl))
 f224:=Tryz.func195.trans (congrArg some (by kernel_rfl))
 f225:=Tryz.func194.trans (congrArg some (by kernel_rfl))
 f226:=Tryz.func231.trans (congrArg some (by kernel_rfl))
 f227:=Tryz.func139.trans (congrArg some (by kernel_rfl))
 f228:=Tryz.func168.trans (congrArg some (by kernel_rfl))
 f266:=Tryz.func214.trans (congrArg some (by kernel_rfl))
 t0:=Tryz.underlying0
 a0:=Tryz.isAgg0
 z0:=Tryz.sizeOf0
 v0:=Tryz.zeroValue0
 t3:=Tryz.underlying3
 a3:=Tryz.isAgg3
 z3:=Tryz.sizeOf3
 v3:=Tryz.zeroValue3
 t4:=Tryz.underlying4
 a4:=Tryz.isAgg4
 z4:=Tryz.sizeOf4
 v4:=Tryz.zeroValue4
 t5:=Tryz.underlying5
 a5:=Tryz.isAgg5
 z5:=Tryz.sizeOf5
 v5:=Tryz.zeroValue5
 t9:=Tryz.underlying9
 a9:=Tryz.isAgg9
 z9:=Tryz.sizeOf9
 v9:=Tryz.zeroValue9
 t21:=Tryz.underlying21
 a21:=Tryz.isAgg21
 z21:=Tryz.sizeOf21
 v21:=Tryz.zeroValue21
 t46:=Tryz.underlying162
 a46:=Tryz.isAgg162
 z46:=Tryz.sizeOf162
 v46:=Tryz.zeroValue162
 t116:=Tryz.underlying201
 a116:=Tryz.isAgg201
 z116:=Tryz.sizeOf201
 t117:=Tryz.underlying202
 a117:=Tryz.isAgg202
 z117:=Tryz.sizeOf202
 v117:=Tryz.zeroValue202
 t124:=Tryz.underlying205
 a124:=Tryz.isAgg205
 z124:=Tryz.sizeOf205
 v124:=Tryz.zeroValue205 }
open Go.RowKit Go.Lib in
theorem sh_strings_IndexAny_laid (s chars:ByteArray)(w:World)(hs:s.size<4294967281)(hcs:chars.size<4294967281)(has:∀(j:Nat) b,s.data.toList[j]? = some b→b.toNat<128)(hac:∀(j:Nat) b,chars.data.toList[j]? = some b→b.toNat<128) :
  Calls Tryz.prog 216 #[.string s,.string chars] w fun e w'=>e=.returned (.int .i64 (Lib.indexAny s.data.toList chars.data.toList))∧Below w.heap.size w w':=Any.strings_IndexAny_laid sh_lays153 (by kernel_rfl) s chars w hs hcs has hac
end Go.Proofs.YtkbicfffokegeaaGreatDoor
namespace Go.Proofs.YtkbicfffokegeaaGreatDoor
set_option maxHeartbeats 16000000
open Go.RowKit
set_option maxRecDepth 100000
theorem mul_bd {x y:Int}{a b c:Nat}(h0:0≤x)(h1:x<2 ^ (32*a))(h2:y<2 ^ (32*b))(h3:a+b=c):x*y<2 ^ (32*c):=by
 subst h3;rw[pow_off];have a1:x*y≤x*2 ^ (32*b):=Int.mul_le_mul_of_nonneg_left (by omega) h0;have a2:x*2 ^ (32*b)<2 ^ (32*a)*2 ^ (32*b):=Int.mul_lt_mul_of_pos_right h1 (pow_pos' _);omega
end Go.Proofs.YtkbicfffokegeaaGreatDoor
