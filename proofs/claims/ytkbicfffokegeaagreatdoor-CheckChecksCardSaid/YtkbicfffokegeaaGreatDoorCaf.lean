/-
  Whatever program is handed in, CheckChecks answers true. (part 6 of 38) Conditions: none beside what the card ties.
-/
import Derived.Test.YtkbicfffokegeaaGreatDoorCad
import Derived.Test.YtkbicfffokegeaaGreatDoorCae
namespace Go.Proofs.YtkbicfffokegeaaGreatDoor
set_option maxHeartbeats 16000000
open Go.RowKit
theorem aEb {v:Int}{ws:List Int}{A:Option Addr}{n c:Nat}{W w:World}{g:Nat}(hn:IsNat v ws)(hl:ws.length=n)(hc:n≤c)(hr:Rn w A ws)(hf:∀a,A=some a→(some ⟨g,0,none⟩:Option Addr)=some a)(hg:W.heap.size≤g)(hb:Below W.heap.size W w):aDQ v W (.returned (.slice A n c)) w:=
 ⟨ws,A,n,c,hn,hl,rfl,hc,hr,fun a h=>by injection hf a h with h;rw[←h];exact hg,hb⟩
theorem uN (x:Int)(hx:bC x)(w:World):Calls Tryz.prog 248 #[.int .u64 x] w (aDQ x w):=by
 obtain⟨x0,x1⟩:=hx;have hv:Hid (nv [x % 4294967296,x / 4294967296]=x):=by show _=_;simp[nv];omega
 have ha:bN [x % 4294967296,x / 4294967296]:=bN.cons ⟨by omega,by omega⟩ (bN.cons ⟨by omega,by omega⟩ bN.nil);go_enter Tryz.func248,Tryz.ntmps248;go_wp2_with fail;have BK:=Blk.new w 166 #[.int .u32 (x % 4294967296),.int .u32 (x / 4294967296)];have BK2:Blk (w.alloc (.cells #[.int .u32 (x % 4294967296),.int .u32 (x / 4294967296)] 166)) w.heap.size 166 (cE [x % 4294967296,x / 4294967296]):=BK;refine(dI (some ⟨w.heap.size,0,none⟩) 2 2 _ _ rfl (aD _) BK2.words (by decide)).mono ?_;rintro e w1 ⟨ts,A',m',c',T,rfl,hmc,hra,hfr,rfl⟩;have fin:IsNat x ts:=by have:=T.nat ha;rw[hv.out]at this;exact this
 go_wp2_with fail;go_ret;exact aEb fin T.len hmc hra hfr (aD _) (aI (Below.refl _ _) _)
theorem aKw {ws:List Int}{k:Nat}(ha:bN ws)(ht:dE ws=k+1):bB (nv ws)=(k:Int)*32+bB (ws.getD k 0):=by
 have hne:ws.getD k 0≠0:=by have:=iP ws (by omega);rw[ht]at this;exact this
 have wx:=ha.getD k;obtain⟨b,eb,lt,ge,_⟩:=dT wx.1;obtain⟨g1,g2⟩:=ge (by have:=wx.1;omega);have e:nv ws=nv (ws.take k)+2 ^ (32*k)*ws.getD k 0:=by rw[←qI ws,ht,bV]
 have l0:=cN _ (ha.take k);have l1:=iZ _ (ha.take k);rw[List.length_take]at l1;have l2:=bZ (32*min k ws.length) (32*k) (by omega);rw[eb]
 have hh:bB (nv ws)=((32*k+b:Nat):Int):=by
  refine aEL (by omega) ?_ ?_
  ·rw[show 32*k+b-1=32*k+(b-1) by omega,Int.pow_add]
   have:=Int.mul_le_mul_of_nonneg_left g1 (Int.le_of_lt (aM (32*k)));omega
  ·rw[Int.pow_add]
   have h2:(2:Int) ^ (32*k)*(ws.getD k 0+1)≤2 ^ (32*k)*2 ^ b:=Int.mul_le_mul_of_nonneg_left (by omega) (Int.le_of_lt (aM (32*k)));rw[Int.mul_add]at h2;omega
 rw[hh];omega
theorem qK (A:Option Addr)(n c:Nat)(us:List Int)(w:World)(hn:us.length=n)(hc:n≤c)(hx:Rn w A us)(hu:bN us)(ln:n≤1048577) :
  Calls Tryz.prog 237 #[.slice A n c] w fun e w'=>e=.returned (.int .i64 (bB (nv us)))∧w=w':=by
 have HN:=Hj hn;obtain⟨va,hva⟩:∃va,bB (nv us)=va:=⟨_,rfl⟩;rw[hva];have HVA:=Hj hva;clear hn hva;go_enter Tryz.func237,Tryz.ntmps237;go_wp2_with fail;refine(dI A n c us w HN.out hc hx (by omega)).mono ?_;rintro e w1 ⟨us',A1,n1,c1,TU,rfl,hc1,hx1, -,rfl⟩;have a1:=(TU.nat hu).all;have HVA':Hid (bB (nv us')=va):=by show _=_;rw[(TU.nat hu).val];exact HVA.out
 have ln1:=TU.le HN.out;have HN1:=Hj TU.len;have HT:=Hj TU.tl;clear TU HVA hx hu
 by_cases h0:n1=0
 ·subst h0
  have F:Hid (va=0):=by
   show _=_;rw[←HVA'.out,(nG a1).2 HT.out];rfl
  go_wp2_with fail;go_ret;exact⟨aW F.out.symm,rfl⟩
 ·obtain⟨k,rfl⟩:∃k,n1=k+1:=⟨n1 - 1,by omega⟩
  obtain⟨g,off,rfl,hg,hcell⟩:=hx1.at_ (i:=k) (by rw[HN1.out];omega);have wx:=a1.getD k;have F:Hid ((k:Int)*32+bB (us'.getD k 0)=va):=by show _=_;rw[←HVA'.out,aKw a1 HT.out]
  generalize us'.getD k 0=x at *;obtain⟨b0,b1⟩:=mK (k:=32) wx.1 wx.2;have L:=aHQ x wx;generalize bB x=b at *;clear h0;go_wp2_with fail;refine(L _).mono ?_;rintro e w1 ⟨rfl,rfl⟩;clear L;go_wp2_with fail;go_ret;exact⟨aW F.out,rfl⟩
theorem aHu (us:List Int)(hu:bN us)(q:Nat):nv us / 2 ^ (32*q)=nv (us.drop q):=by
 rcases Nat.lt_or_ge us.length q with h|h
 ·rw[List.drop_eq_nil_of_le (by omega)]
  have:=iZ us hu;have:=bZ (32*us.length) (32*q) (by omega);exact Int.ediv_eq_zero_of_lt (cN us hu) (by omega)
 ·have e:=qJ us q h
  have h0:=cN _ (hu.take q);have h1:=iZ _ (hu.take q);rw[List.length_take,Nat.min_eq_left h]at h1;rw[e,Int.add_mul_ediv_left _ _ (Int.ne_of_gt (aM _)),Int.ediv_eq_zero_of_lt h0 h1,Int.zero_add]
theorem aLO {us:List Int}(_hu:bN us)(h:dE us≤2):nv us=us.getD 1 0*4294967296+us.getD 0 0:=by
 rw[aEi us [us.getD 0 0,us.getD 1 0] fun j=>?_]
 ·simp[nv];omega
 ·rcases j with _|_|j
  ·simp
  ·simp
  ·rw[jI us _ (by omega)];rfl
def vF (v:Int):Int:=if v<18446744073709551616 then v else 0
theorem aFr (A:Option Addr)(n c:Nat)(us:List Int)(w:World)(hn:us.length=n)(hc:n≤c)(hx:Rn w A us)(hu:bN us)(ln:n≤1048577) :
  Calls Tryz.prog 240 #[.slice A n c] w fun e w'=>e=.returned (.tuple #[.int .u64 (vF (nv us)),.bool (decide (nv us<18446744073709551616))])∧w=w':=by
 have HN:=Hj hn;clear hn;obtain⟨va,hva⟩:∃va,vF (nv us)=va:=⟨_,rfl⟩;obtain⟨vb,hvb⟩:∃vb,decide (nv us<18446744073709551616)=vb:=⟨_,rfl⟩;rw[hva,hvb];have HVA:=Hj hva;have HVB:=Hj hvb;clear hva hvb;go_enter Tryz.func240,Tryz.ntmps240;go_wp2_with fail;refine(dI A n c us w HN.out hc hx (by omega)).mono ?_;rintro e w1 ⟨us',A1,n1,c1,TU,rfl,hc1,hx1, -,rfl⟩;have HT:Hid (dE us=n1):=by show _=_;rw[←TU.len,TU.eq,iU]
 have ln1:=TU.le HN.out;clear TU hx1
 by_cases h2:2<n1
 ·have F:Hid (¬nv us<18446744073709551616):=by
   show ¬_;have:=mS hu (by rw[HT.out];omega);rw[HT.out]at this;have h3:=bZ 64 (32*(n1-1)) (by omega);have h4:(2:Int) ^ 64=18446744073709551616:=by decide
   omega
  have F1:Hid (0=va):=by show _=_;rw[←HVA.out,vF,if_neg F.out]
  have F2:Hid (false=vb):=by show _=_;rw[←HVB.out];simp;have:=F.out;omega
  clear F;go_wp2_with fail
  go_ret2
  refine⟨?_,rfl⟩;rw[←F1.out,←F2.out];rfl
 ·have e:=aLO hu (by rw[HT.out];omega)
  have F0:Hid (nv us<18446744073709551616):=by
   show _<_;have:=(hu.getD 1).2;have:=(hu.getD 0).2;omega
  have F1:Hid (us.getD 1 0*4294967296+us.getD 0 0=va):=by show _=_;rw[←HVA.out,vF,if_pos F0.out,e]
  have F2:Hid (true=vb):=by show _=_;rw[←HVB.out];simp;exact F0.out
  have w1':=hu.getD 1;have w0':=hu.getD 0;have C1:=Hj (pW A n c us 1 w HN.out hx (by omega) (by omega));have C0:=Hj (pW A n c us 0 w HN.out hx (by omega) (by omega));clear e F0;generalize us.getD 1 0=x1 at *;generalize us.getD 0 0=x0 at *;have OR:=Hj (aKO x1 x0 w1' w0');obtain⟨y0,y1⟩:=w1';obtain⟨z0,z1⟩:=w0';go_wp2_with fail;refine C1.out.mono ?_;rintro e w1 ⟨rfl,rfl⟩;go_wp2_with fail;refine C0.out.mono ?_;rintro e w1 ⟨rfl,rfl⟩;clear C0 C1;have or':=OR.out;go_wp2_with fail
  go_ret2
  refine⟨?_,rfl⟩;rw[←F1.out,←F2.out];rfl
structure ShrTo (us zs:List Int) (n r k:Nat):Prop where
 len:zs.length=n
 all:bN zs
 eq:nv (zs.take k)*2 ^ r+us.getD 0 0 % 2 ^ r=nv (us.take k)+2 ^ (32*k)*(us.getD k 0 % 2 ^ r)
theorem ShrTo.next {us zs:List Int}{n r k:Nat}{x y:Int}(h:ShrTo us zs n r k)(hr:r<32)(hx:W32 x)(ex:us.getD k 0=x)(ey:us.getD (k+1) 0=y)(hk:k<n) :
  ShrTo us (zs.set k (x / 2 ^ r+IntKind.u32.wrap (y*2 ^ (32-r)))) n r (k+1):=by
 obtain⟨h1,h2,h3⟩:=h;have b1:=kZ y (32-r) (by omega);have b2:=aCF hx (32-r) (by omega);have b3:=uY y (32-r) (by omega);rw[show 32-(32-r)=r by omega]at b2 b3;refine⟨by rw[List.length_set,h1],h2.set _ ⟨by omega,by omega⟩,?_⟩;rw[bV,bV,take_set,wT _ _ _ (by omega),ex,ey,b3,lG];rw[ex]at h3;have e1:=Int.ediv_mul_add_emod x (2 ^ r);have e2:y % 2 ^ r*2 ^ (32-r)*2 ^ r=y % 2 ^ r*4294967296:=by rw[Int.mul_assoc,lE r (by omega)]
 have e3:2 ^ (32*k)*(x / 2 ^ r+y % 2 ^ r*2 ^ (32-r))*2 ^ r=2 ^ (32*k)*(x-x % 2 ^ r)+2 ^ (32*k)*4294967296*(y % 2 ^ r):=by
  rw[Int.mul_assoc,Int.add_mul,e2,show x / 2 ^ r*2 ^ r=x-x % 2 ^ r by omega,Int.mul_add,Int.mul_comm (y % 2 ^ r),←Int.mul_assoc (2 ^ (32*k)) 4294967296]
 rw[Int.add_mul,e3,Int.mul_sub];omega
theorem ShrTo.done {us zs:List Int}{n r:Nat}(h:ShrTo us zs n r n)(hn:us.length=n):nv zs=nv us / 2 ^ r:=by
 have e:=h.eq;rw[List.take_of_length_le (by rw[h.len];exact aD _),List.take_of_length_le (by omega),mG us n (by omega)]at e;have hp:=aM r;have r0:=Int.emod_nonneg (us.getD 0 0) (Int.ne_of_gt hp);have r1:=Int.emod_lt_of_pos (us.getD 0 0) hp;rw[Int.zero_emod,Int.mul_zero,Int.add_zero]at e;have e2:nv us=us.getD 0 0 % 2 ^ r+nv zs*2 ^ r:=by omega
 rw[e2,Int.add_mul_ediv_right _ _ (Int.ne_of_gt hp),Int.ediv_eq_zero_of_lt r0 r1,Int.zero_add]
end Go.Proofs.YtkbicfffokegeaaGreatDoor
namespace Go.Proofs.YtkbicfffokegeaaGreatDoor
set_option maxHeartbeats 16000000
open Go.RowKit
set_option maxRecDepth 100000
theorem aHw (A:Option Addr)(n c:Nat)(us:List Int)(N:Int)(w:World)(hn:us.length=n)(hc:n≤c)(hx:Rn w A us)(hu:bN us)(ln:n≤1048577)(hN1:N≤9223372036854775807) :
  Calls Tryz.prog 262 #[.slice A n c,.int .i64 N] w (aDQ (nv us / 2 ^ (max N 0).toNat) w):=by
 have HN:=Hj hn;obtain⟨M,hM⟩:=Int.eq_ofNat_of_zero_le (show 0≤max N 0 by omega);rw[hM,Int.toNat_natCast];obtain⟨s,hs⟩:∃s,M / 32=s:=⟨_,rfl⟩;have e1:(M:Int) / 32=(s:Int):=by omega
 have hMs:Hid (M=32*s+M % 32):=by show _=_;omega
 have hM1:M≤9223372036854775807:=by omega
 clear hn hs hN1
 by_cases hsn:s<n
 ·have HV:Hid (nv us / 2 ^ M=nv (us.drop s) / 2 ^ (M % 32)):=by
   show _=_;rw[hMs.out,Int.pow_add,←Int.ediv_ediv_of_nonneg (Int.le_of_lt (aM _)),aHu us hu s,←hMs.out]
  obtain⟨m,hm⟩:∃m,n - s=m:=⟨_,rfl⟩;have hd1:(us.drop s).length=m:=by rw[List.length_drop,HN.out];exact hm
  have HD1:=Hj hd1;obtain⟨g,off,rfl,hg,_⟩:=hx.at_ (i:=s) (by rw[HN.out];exact hsn);have hx1:=hx.dropAt s;have hu1:=hu.drop s;generalize us.drop s=vs at *;have hm1:(n:Int)-(s:Int)=(m:Int):=by omega
  have hm2:0<m:=by omega
  have hm3:m≤1048577:=by omega
  obtain⟨d,hd⟩:∃d,c - s=d:=⟨_,rfl⟩;have hsc:(s:Int)<(c:Int):=by omega
  have hsn':(s:Int)<(n:Int):=by omega
  have hsn2:decide (n≤s)=false:=by simp;omega
  obtain⟨r0,hr0⟩:∃r0,r0=List.replicate m (0:Int):=⟨_,rfl⟩;have hmk:=gQ (m:Int) m rfl (by omega) r0 hr0;have HR0:=Hj hr0;clear hd1 hr0;generalize nv us / 2 ^ M=va at *;go_enter Tryz.func262,Tryz.ntmps262;go_wp2_with fail;clear hmk e1 hM hd hm1
  go_loopw [26] (fun s26 wr=>∃(k:Nat) (zs:List Int),s26=.int .i64 (k:Int)∧k≤m∧ShrTo vs zs m (M % 32) k∧Blk wr w.heap.size 166 (cE zs)∧Hid (Below w.heap.size w wr)) (fun s26 _=>m-(intOf s26).toNat)
  case atStart=>exact⟨0,r0,rfl,Nat.zero_le _,⟨by rw[HR0.out];simp,by rw[HR0.out];exact bN.zeros _,by simp[nv]⟩,Blk.new _ _ _,aI (Below.refl _ _) _⟩
  case round=>
   obtain⟨k,zs,rfl,hk,T,BZ,HB⟩:=hrel
   by_cases hlt:k<m
   ·have hxr:=hx1.below HB.out (aD _)
    have hcell:wr.drew.cell? ⟨g,off+s+k,none⟩=some (.int .u32 (vs.getD k 0)):=hxr.cell (i:=k) (by rw[HD1.out];exact hlt);have wx:=hu1.getD k;have wy:=hu1.getD (k+1);have TN:=Hj (T.next (by omega) wx rfl rfl hlt);have q0:∃z,wr.drew.cell? ⟨w.heap.size,k,none⟩=some (.int .u32 z):=⟨_,BZ.word (by rw[T.len];exact hlt)⟩;obtain⟨z,q0⟩:=q0;have q1:wr.drew.frozen? ⟨w.heap.size,k,none⟩=false:=BZ.frozen k;have C:=Hj (aNh (pW (some ⟨g,off+s,none⟩) m d vs (k+1) wr.drew HD1.out hxr.drew (by omega) (by omega)));rw[show((k+1:Nat):Int)=(k:Int)+1 by omega]at C;generalize vs.getD k 0=x at *;generalize vs.getD (k+1) 0=y at *;have b2:=aCF wx (32-M % 32) (by omega);rw[show 32-(32-M % 32)=M % 32 by omega]at b2;have hor:=aHr y (x / 2 ^ (M % 32)) b2.1 (32-M % 32) (by omega) b2.2;have wrm:=kZ y (32-M % 32) (by omega);rw[IntKind.wrap_u32]at hor wrm TN;have BZ2:=BZ.drew.set_ k (.int .u32 (x / 2 ^ (M % 32)+y*2 ^ (32-M % 32) % 4294967296));rw[dA]at BZ2;have HB2:Hid (Below w.heap.size w (wr.drew.setCell ⟨w.heap.size,k,none⟩ (.int .u32 (x / 2 ^ (M % 32)+y*2 ^ (32-M % 32) % 4294967296)))):=dQ (aH HB.out) (aD _) _;have ehh:(32-(M:Int) % 32).toNat=32-M % 32:=by omega
    have hl1:(k:Int)<(m:Int):=by omega
    have hl2:(k:Int)+1≤1048577:=by omega
    have HOR:=Hj hor;clear hor T BZ HB hxr hu1;obtain⟨x0,x1⟩:=wx;obtain⟨y0,y1⟩:=wy;go_upto_region 10 with fail;have ew:IntKind.i64.wrap ((k:Int)+1)=(k:Int)+1:=IntWalk.i64_in _ ⟨by omega,by omega⟩;have ew2:IntKind.i64.wrap (32-(M:Int) % 32)=32-(M:Int) % 32:=IntWalk.i64_in _ ⟨by omega,by omega⟩;have et:((M:Int) % 32).toNat=M % 32:=by omega
    refine wp_region_still_tail 17 (by kernel_rfl) (by kernel_rfl) ?_;simp only[List.take_succ_cons,List.take_zero,List.drop_succ_cons,List.drop_zero]
    repeat still_step
    still_call C.out
    repeat still_step
    refine wpStill_nil ?_;rw[IntKind.wrap_u32,HOR.out];change wpList _ _ _ _ _ wr.drew;clear C hcell ew ew2 et ehh;generalize wr.drew=w2 at *;go_wp2_with fail
    go_roundw
    case rel=>exact⟨k+1,_,by go_num,by omega,TN.out,BZ2,HB2⟩
    case measure=>simp[intOf];omega
   ·have ek:k=m:=by omega
    subst ek
    have FIN:Hid (nv zs=va):=by
     show _=_;rw[HV.out];exact T.done HD1.out
    have ha:=T.all;have HL:=Hj T.len;clear T;go_wp2_with fail;refine(dI (some ⟨w.heap.size,0,none⟩) k k zs wr HL.out (aD _) BZ.words (by omega)).mono ?_;rintro e w1 ⟨ts,A',m',c',T,rfl,hmc,hra,hfr,rfl⟩
    have fin2:IsNat va ts:=by
     rw[←FIN.out];exact T.nat ha
    go_wp2_with fail;go_ret;exact aEb fin2 T.len hmc hra hfr (aD _) HB.out
 ·have F:Hid (nv us / 2 ^ M=0):=by
   show _=_;have:=iZ us hu;rw[HN.out]at this;have:=bZ (32*n) M (by have:=hMs.out;omega);exact Int.ediv_eq_zero_of_lt (cN us hu) (by omega)
  have hsn':decide ((n:Int)≤(s:Int))=true:=by simp;omega
  generalize nv us / 2 ^ M=va at *;go_enter Tryz.func262,Tryz.ntmps262;go_wp2_with fail;go_ret;exact⟨[],none,0,0,by rw[F.out];exact IsNat.nil,rfl,rfl,aD _,.inl rfl,(fun a h=>by cases h),Below.refl _ _⟩
def aAS (v:Int)(er:Int)(w:World)(e:Ending)(w':World):Prop:=
 ∃(ws:List Int) (A:Option Addr) (n c:Nat),IsNat v ws∧ws.length=n∧e=.returned (.tuple #[.slice A n c,.int .i64 er])∧n≤c∧Rn w' A ws∧Below w.heap.size w w'
theorem aFs (A:Option Addr)(n c:Nat)(us:List Int)(N:Int)(w:World)(hn:us.length=n)(hc:n≤c)(hx:Rn w A us)(hu:bN us)(ln:n≤1048577)(hv:nv us=0) :
  Calls Tryz.prog 249 #[.slice A n c,.int .i64 N] w (aAS 0 0 w):=by
 have HN:=Hj hn;have L:=qK A n c us w HN.out hc hx hu ln;rw[hv,show bB 0=0 by rfl]at L;clear hn hv;go_enter Tryz.func249,Tryz.ntmps249;go_wp2_with fail;refine L.mono ?_;rintro e w1 ⟨rfl,rfl⟩;clear L;go_wp2_with fail
 go_ret2
 exact⟨[],none,0,0,IsNat.nil,rfl,rfl,aD _,.inl rfl,Below.refl _ _⟩
theorem aJK (A:Option Addr)(n c:Nat)(us:List Int)(N:Int)(w:World)(hn:us.length=n)(hc:n≤c)(hx:Rn w A us)(hu:bN us)(ln:n≤1048576)(hv:nv us≠0)(hl:¬65536-max N 0<bB (nv us)) :
  Calls Tryz.prog 249 #[.slice A n c,.int .i64 N] w (aAS (2 ^ (max N 0).toNat*nv us) 0 w):=by
 have HN:=Hj hn;have L:=qK A n c us w HN.out hc hx hu (by omega);have h0:=cN us hu;obtain⟨b,eb,_,ge,_⟩:=dT h0;have g2:=(ge (by omega)).2;have h1:=iZ us hu;rw[hn]at h1;have h2:=(mK h0 h1).2;rw[eb]at L hl h2;have hb1:((b:Int) == 0)=false:=by simp;omega
 obtain⟨M,hM⟩:=Int.eq_ofNat_of_zero_le (show 0≤max N 0 by omega);rw[hM]at hl ⊢;rw[Int.toNat_natCast];have hM1:M≤65536:=by omega
 obtain⟨s,hs⟩:∃s,M / 32=s:=⟨_,rfl⟩;obtain⟨LL,hLL⟩:∃LL,s+n+1=LL:=⟨_,rfl⟩;have hLL1:LL≤1060000:=by omega
 have LC:=Hj (fun w hx=>wM A n c M s LL us w HN.out hx hu (by omega) hs (by omega) hLL);clear hn hv eb ge h0 h1 hs hLL;generalize 2 ^ M*nv us=va at *;go_enter Tryz.func249,Tryz.ntmps249;go_wp2_with fail;refine L.mono ?_;rintro e w1 ⟨rfl,rfl⟩;clear L;go_wp2_with fail;refine(LC.out w hx).mono ?_;rintro e w1 ⟨zs,g,Z,rfl,hg,BZ,HB⟩;have hl:=Hj Z.len;go_wp2_with fail;refine(dI (some ⟨g,0,none⟩) LL LL zs w1 hl.out (aD _) BZ.words (by omega)).mono ?_;rintro e w2 ⟨ts,A',m',c',T,rfl,hmc,hra,hfr,rfl⟩;have fin2:IsNat va ts:=by have:=T.nat Z.all;rw[Z.val]at this;exact this
 go_wp2_with fail
 go_ret2
 exact⟨ts,A',m',c',fin2,T.len,rfl,hmc,hra,HB⟩
structure DivW (us zs:List Int) (n K:Nat) (b r:Int):Prop where
 len:zs.length=n
 all:bN zs
 eq:nv zs*b+2 ^ (32*K)*r+nv (us.take K)=nv us
 low:∀j,j<K→zs.getD j 0=0
 r0:0≤r
 r1:r<b
theorem DivW.next {us zs:List Int}{n i:Nat}{b r x q r':Int}(h:DivW us zs n (i+1) b r)(hi:i<n)(ex:us.getD i 0=x)(hq:W32 q)(hr:0≤r')(hr':r'<b)(e:q*b+r'=r*4294967296+x):DivW us (zs.set i q) n i b r':=by
 obtain⟨h1,h2,h3,h4,h5,h6⟩:=h;refine⟨by rw[List.length_set,h1],h2.set _ hq,?_,fun j hj=>?_,hr,hr'⟩
 ·rw[kV _ _ _ (by omega),h4 i (by omega),Int.sub_zero,Int.add_mul]
  rw[bV,ex,lG]at h3;have e2:2 ^ (32*i)*(q*b+r')=2 ^ (32*i)*(r*4294967296+x):=by rw[e]
  rw[Int.mul_add,Int.mul_add,←Int.mul_assoc,Int.mul_comm r,←Int.mul_assoc]at e2;omega
 ·rw[cT _ _ _ _ (by omega)]
  exact h4 j (by omega)
def TB (w:World)(A:Option Addr):Prop:=∀a,A=some a→∃cs,Blk w a.block 166 cs
def aKE (v b:Int)(w:World)(e:Ending)(w':World):Prop:=
 ∃(ws:List Int) (A:Option Addr) (n c:Nat) (q r:Int),IsNat q ws∧q*b+r=v∧0≤r∧r<b∧ws.length=n∧e=.returned (.tuple #[.slice A n c,.int .u32 r])∧n≤c∧Rn w' A ws∧(∀a,A=some a→w.heap.size≤a.block)∧TB w' A∧Below w.heap.size w w'
theorem aAr (A:Option Addr)(n c:Nat)(us:List Int)(b:Int)(w:World)(hn:us.length=n)(hx:Rn w A us)(hu:bN us)(ln:n≤1048577)(hb:W32 b)(hb0:b≠0) :
  Calls Tryz.prog 250 #[.slice A n c,.int .u32 b] w (aKE (nv us) b w):=by
 have HN:=Hj hn;obtain⟨va,hva⟩:∃va,nv us=va:=⟨_,rfl⟩;rw[hva];have HVA:=Hj hva;obtain⟨r0,hr0⟩:∃r0,r0=List.replicate n (0:Int):=⟨_,rfl⟩;have hmk:=gQ (n:Int) n rfl (by omega) r0 hr0;have HR0:=Hj hr0;have hb1:0<b:=by have:=hb.1;omega
 clear hn hva hr0 hb0;go_enter Tryz.func250,Tryz.ntmps250;go_wp2_with fail;clear hmk
 go_loopw [7,15] (fun s7 s15 wr=>∃(k K:Nat) (zs:List Int) (r:Int),s7=.int .u32 r∧s15=.int .i64 (k:Int)∧k+K=n∧DivW us zs n K b r∧Blk wr w.heap.size 166 (cE zs)∧Hid (Below w.heap.size w wr)) (fun _ s15 _=>n-(intOf s15).toNat)
 case atStart=>
  refine⟨0,n,r0,0,rfl,rfl,by omega,⟨by rw[HR0.out];simp,by rw[HR0.out];exact bN.zeros _,?_,fun j _=>by rw[HR0.out,List.getD_eq_getElem?_getD,List.getElem?_replicate];split<;>rfl,Int.le_refl _,hb1⟩,Blk.new _ _ _,aI (Below.refl _ _) _⟩;rw[HR0.out,qH,List.take_of_length_le (by rw[HN.out];exact aD _)]
  simp
 case round=>
  obtain⟨k,K,zs,r,rfl,rfl,hkK,T,BZ,HB⟩:=hrel
  by_cases h0:K=0
  ·subst h0
   have FIN:Hid (nv zs*b+r=va):=by
    show _=_;have:=T.eq;rw[HVA.out]at this
    simpa [nv] using this
   have hkn:n≤k:=by omega
   have r0':=T.r0;have r1':=T.r1;have ha:=T.all;have HL:=Hj T.len;clear T hkK;go_wp2_with fail;refine(dI (some ⟨w.heap.size,0,none⟩) n n zs wr HL.out (aD _) BZ.words (by omega)).mono ?_;rintro e w1 ⟨ts,A',m',c',T,rfl,hmc,hra,hfr,rfl⟩;have fin2:=T.nat ha;go_wp2_with fail
   go_ret2
   exact⟨ts,A',m',c',_,r,fin2,FIN.out,r0',r1',T.len,rfl,hmc,hra,fun a h=>by injection hfr a h with h;rw[←h];exact aD _,fun a h=>by injection hfr a h with h;rw[←h];exact⟨_,BZ⟩,HB.out⟩
  ·obtain⟨i,rfl⟩:∃i,K=i+1:=⟨K - 1,by omega⟩
   have hxr:=hx.below HB.out (aD _);obtain⟨g,off,rfl,hg,hcell⟩:=hxr.at_ (i:=i) (by rw[HN.out];omega);have wx:=hu.getD i;have TN:Hid (∀q r',W32 q→0≤r'→r'<b→q*b+r'=r*4294967296+us.getD i 0→DivW us (zs.set i q) n i b r'):=fun q r' h1 h2 h3 h4=>T.next (by omega) rfl h1 h2 h3 h4;have hl:=Hj T.len;have wr':W32 r:=⟨T.r0,by have:=T.r1;have:=hb.2;omega⟩;have r1':=T.r1;generalize us.getD i 0=x at *;have e1:(n:Int)-1-(k:Int)=(i:Int):=by omega
   have hl1:(k:Int)<(n:Int):=by omega
   have hl2:(i:Int)<(n:Int):=by omega
   have hk2:k+1+i=n:=by omega
   have HK2:=Hj hk2;clear T h0 hkK hk2;go_wp2_with fail;refine(aLa r x b wr' wx hb r1' _).mono ?_;rintro e w1 ⟨q,r2,wq,wr2,hr2,heq,rfl,hb2⟩;have TN2:=TN.out q r2 wq wr2.1 hr2 heq;have BZ1:=BZ.below hb2 BZ.lt;have HB1:=Hj (aG HB.out hb2);have q0:=BZ1.word (i:=i) (by rw[hl.out];omega);have q1:=BZ1.frozen i;have BZ2:=BZ1.set_ i (.int .u32 q);rw[dA]at BZ2;have HB2:Hid (Below w.heap.size w (w1.setCell ⟨w.heap.size,i,none⟩ (.int .u32 q))):=dQ HB1.out (aD _) _;clear heq TN hb2 BZ BZ1 HB HB1 hxr hcell;go_wp2_with fail
   go_roundw
   case rel=>exact⟨k+1,i,_,r2,rfl,by go_num,HK2.out,TN2,BZ2,HB2⟩
   case measure=>simp[intOf];omega
structure SubPr (vs zs zs':List Int) (x:Int) (off k:Nat) (cr bo:Int):Prop where
 len:zs'.length=zs.length
 all:bN zs'
 eq:nv zs'-2 ^ (32*(off+k))*(cr+bo)=nv zs-2 ^ (32*off)*(nv (vs.take k)*x)
 same:∀j,j<off∨off+k≤j→zs'.getD j 0=zs.getD j 0
 car:W32 cr
 b0:0≤bo
 b1:bo≤1
theorem SubPr.next {vs zs zs':List Int}{x y z:Int}{off k:Nat}{cr bo:Int}(h:SubPr vs zs zs' x off k cr bo)(hk:off+k<zs.length)(hx:W32 x)(hy:W32 y)(hz:W32 z)(ey:vs.getD k 0=y)(ez:zs'.getD (off+k) 0=z) :
  SubPr vs zs (zs'.set (off+k) (cC (z-(cC (y*x+cr)+bo)))) x off (k+1) (eJ (y*x+cr)) (jB z (cC (y*x+cr)+bo)):=by
 obtain⟨h1,h2,h3,h4,h5,h6,h7⟩:=h;have pb:=nS hx hy;refine⟨by rw[List.length_set,h1],h2.set _ (lS _),?_,fun j hj=>?_,?_,aCl _ _,aCk _ _⟩
 ·rw[kV _ _ _ (by rw[h1];exact hk),bV,ey,ez,←Nat.add_assoc,lG]
  have wl:=lS (y*x+cr);have e1:=uS (y*x+cr);have e0:=zR hz (y:=cC (y*x+cr)+bo) (by have:=wl.1;omega) (by have:=wl.2;omega);generalize cC (z-(cC (y*x+cr)+bo))=l at *;generalize jB z (cC (y*x+cr)+bo)=b' at *;generalize cC (y*x+cr)=t at *;generalize eJ (y*x+cr)=c' at *;have e2:(-(c'+b'))*4294967296+l=z-bo-(y*x+cr):=by omega
  have e3:=nY (2 ^ (32*(off+k))) e2;have e4:(2:Int) ^ (32*(off+k))*(y*x)=2 ^ (32*off)*(2 ^ (32*k)*y*x):=by rw[qD,Int.mul_assoc,Int.mul_assoc]
  rw[Int.mul_sub,Int.mul_sub,Int.mul_add,Int.mul_neg,e4]at e3;rw[Int.mul_add]at h3;rw[Int.mul_sub,Int.add_mul,Int.mul_add (2 ^ (32*off))];omega
 ·rw[cT _ _ _ _ (by omega)]
  exact h4 j (by omega)
 ·obtain⟨_,_⟩:=hz
  obtain⟨_,_⟩:=h5
  constructor<;>unfold eJ<;>omega
theorem SubPr.last {vs zs zs':List Int}{x z:Int}{off m:Nat}{cr bo:Int}(h:SubPr vs zs zs' x off m cr bo)(hm:vs.length=m)(hk:off+m<zs.length)(hz:W32 z)(ez:zs'.getD (off+m) 0=z) :
  nv (zs'.set (off+m) (cC (z-(cr+bo))))-2 ^ (32*(off+m+1))*jB z (cr+bo)=nv zs-2 ^ (32*off)*(nv vs*x):=by
 obtain⟨h1,h2,h3,h4,h5,h6,h7⟩:=h;rw[kV _ _ _ (by rw[h1];exact hk),ez,lG];have e0:=zR hz (y:=cr+bo) (by have:=h5.1;omega) (by have:=h5.2;omega);generalize cC (z-(cr+bo))=l at *;generalize jB z (cr+bo)=b' at *;have e2:(-b')*4294967296+l=z-(cr+bo):=by omega
 have e3:=nY (2 ^ (32*(off+m))) e2;rw[List.take_of_length_le (by omega)]at h3;rw[Int.mul_sub,Int.mul_neg]at e3;rw[Int.mul_sub];omega
structure Moved (zs zs':List Int) (off m:Nat) (d bo:Int):Prop where
 len:zs'.length=zs.length
 all:bN zs'
 eq:nv zs'+2 ^ (32*(off+m+1))*bo=nv zs+2 ^ (32*off)*d
 same:∀j,j<off∨off+m+1≤j→zs'.getD j 0=zs.getD j 0
def aEN (zs:List Int)(off m:Nat)(d:Int)(sg:Int)(g:Nat)(w:World)(e:Ending)(w':World):Prop:=
 ∃(zs':List Int) (bo:Int),Moved zs zs' off m d (sg*bo)∧0≤bo∧bo≤1∧e=.returned (.int .u32 bo)∧Blk w' g 166 (cE zs')∧Only g w w'
theorem vI (B:Option Addr)(g off ca m d:Nat)(vs zs:List Int)(x:Int)(w:World)(hm:vs.length=m)(hoff:off+m<zs.length)(hy:Rn w B vs)(hB:vs≠[]→∀a,B=some a→a.block≠g)(hv:bN vs)(hz:bN zs)(hx:W32 x)(BZ:Blk w g 166 (cE zs))(lm:m≤1048577) :
  Calls Tryz.prog 270 #[.slice (some ⟨g,off,none⟩) (m+1) ca,.slice B m d,.int .u32 x] w (aEN zs off m (-(nv vs*x)) (-1) g w):=by
 have HM:=Hj hm;have HBB:=Hj hB;obtain⟨x0,x1⟩:=id hx;clear hm hB;go_enter Tryz.func270,Tryz.ntmps270;go_wp2_with fail
 go_loopw [7,8,13] (fun s7 s8 s13 wr=>∃(k:Nat) (us:List Int) (cr bo:Int),s7=.int .u64 cr∧s8=.int .u32 bo∧s13=.int .i64 (k:Int)∧k≤m∧SubPr vs zs us x off k cr bo∧Blk wr g 166 (cE us)∧Hid (Only g w wr)) (fun _ _ s13 _=>m-(intOf s13).toNat)
 case atStart=>exact⟨0,zs,0,0,rfl,rfl,rfl,Nat.zero_le _,⟨rfl,hz,by simp[nv],fun _ _=>rfl,⟨by decide,by decide⟩,by decide,by decide⟩,BZ,Only.refl _ _⟩
 case round=>
  clear BZ;obtain⟨k,us,cr,bo,rfl,rfl,rfl,hk,T,BZ,HO⟩:=hrel;have cw:=T.car;have b0:=T.b0;have b1:=T.b1
  by_cases hlt:k<m
  ·have hyr:=hy.only HO.out HBB.out
   obtain⟨g2,off2,rfl,hg2,hc2⟩:=hyr.at_ (i:=k) (by rw[HM.out];exact hlt);have wy:=hv.getD k;have wz:=T.all.getD (off+k);have TN:=Hj (T.next (by omega) hx wy wz rfl rfl);have q0:=BZ.word (i:=off+k) (by rw[T.len];omega);have q1:=BZ.frozen (off+k);generalize vs.getD k 0=y at *;generalize us.getD (off+k) 0=z at *;obtain⟨pb0,pb1⟩:=nS hx wy;obtain⟨y0,y1⟩:=wy;obtain⟨c0,c1⟩:=cw;have hl1:(k:Int)<(m:Int):=by omega
   have hl2:(k:Int)<(m:Int)+1:=by omega
   have s0:0≤y*x+cr:=by omega
   have s1:y*x+cr≤18446744073709551615:=by omega
   have wl:=lS (y*x+cr);have e1:(y*x+cr) % 4294967296=cC (y*x+cr):=rfl;have e2:(y*x+cr) / 4294967296=eJ (y*x+cr):=rfl;have C:=Hj (fun w=>aKI z (cC (y*x+cr)) bo wz wl b0 b1 w);have BZ2:=BZ.set_ (off+k) (.int .u32 (cC (z-(cC (y*x+cr)+bo))));rw[dA]at BZ2;have HO2:Hid (Only g w (wr.setCell ⟨g,off+k,none⟩ (.int .u32 (cC (z-(cC (y*x+cr)+bo)))))):=HO.out.set_ _ _;generalize cC (z-(cC (y*x+cr)+bo))=l at *;generalize jB z (cC (y*x+cr)+bo)=b' at *;generalize cC (y*x+cr)=t at *;generalize eJ (y*x+cr)=c' at *;clear T BZ HO hyr;go_wp2_with fail;refine(C.out _).mono ?_;rintro e w1 ⟨rfl,rfl⟩;clear C;go_wp2_with fail
   go_roundw
   case rel=>exact⟨k+1,_,c',b',rfl,rfl,by go_num,by omega,TN.out,BZ2,HO2⟩
   case measure=>simp[intOf];omega
  ·have ek:k=m:=by omega
   subst ek;have wz:=T.all.getD (off+k);have TL:=Hj (T.last HM.out hoff wz rfl);have q0:=BZ.word (i:=off+k) (by rw[T.len];omega);have q1:=BZ.frozen (off+k);have hl:=Hj T.len;have hall:=T.all;have hsame:=Hj T.same;generalize us.getD (off+k) 0=z at *;have C:=Hj (fun w=>aKI z cr bo wz cw b0 b1 w);have BZ2:=BZ.set_ (off+k) (.int .u32 (cC (z-(cr+bo))));rw[dA]at BZ2;have HO2:Hid (Only g w (wr.setCell ⟨g,off+k,none⟩ (.int .u32 (cC (z-(cr+bo)))))):=HO.out.set_ _ _
   have FIN:Hid (Moved zs (us.set (off+k) (cC (z-(cr+bo)))) off k (-(nv vs*x)) (-1*jB z (cr+bo))):=by
    refine⟨by rw[List.length_set];exact hl.out,hall.set _ (lS _),?_,fun j hj=>?_⟩
    ·have:=TL.out
     rw[Int.mul_neg,Int.neg_one_mul,Int.mul_neg];omega
    ·rw[cT _ _ _ _ (by omega)]
     exact hsame.out j (by omega)
   have bb0:=aCl z (cr+bo);have bb1:=aCk z (cr+bo);generalize cC (z-(cr+bo))=l at *;generalize jB z (cr+bo)=b' at *;obtain⟨c0,c1⟩:=cw;clear T BZ HO TL hsame hl;go_wp2_with fail;refine(C.out _).mono ?_;rintro e w1 ⟨rfl,rfl⟩;clear C;go_wp2_with fail;go_ret;exact⟨_,b',FIN.out,bb0,bb1,rfl,BZ2,HO2.out⟩
structure AddBk (vs zs zs':List Int) (off k:Nat) (c:Int):Prop where
 len:zs'.length=zs.length
 all:bN zs'
 eq:nv zs'+2 ^ (32*(off+k))*c=nv zs+2 ^ (32*off)*nv (vs.take k)
 same:∀j,j<off∨off+k≤j→zs'.getD j 0=zs.getD j 0
 c0:0≤c
 c1:c≤1
theorem AddBk.next {vs zs zs':List Int}{off k:Nat}{c y z:Int}(h:AddBk vs zs zs' off k c)(hk:off+k<zs.length)(hy:W32 y)(hz:W32 z)(ey:vs.getD k 0=y)(ez:zs'.getD (off+k) 0=z) :
  AddBk vs zs (zs'.set (off+k) (cC (z+y+c))) off (k+1) (eJ (z+y+c)):=by
 obtain⟨h1,h2,h3,h4,h5,h6⟩:=h;refine⟨by rw[List.length_set,h1],h2.set _ (lS _),?_,fun j hj=>?_,aMv hz hy h5,aMu hz hy h6⟩
 ·rw[kV _ _ _ (by rw[h1];exact hk),bV,ey,ez,←Nat.add_assoc,lG]
  have e2:=nY (2 ^ (32*(off+k))) (uS (z+y+c));have e3:(2:Int) ^ (32*(off+k))*y=2 ^ (32*off)*(2 ^ (32*k)*y):=by rw[qD,Int.mul_assoc]
  rw[Int.mul_add,Int.mul_add,e3]at e2;rw[Int.mul_sub,Int.mul_add (2 ^ (32*off))];omega
 ·rw[cT _ _ _ _ (by omega)]
  exact h4 j (by omega)
theorem aCp (B:Option Addr)(g off ca m d:Nat)(vs zs:List Int)(w:World)(hm:vs.length=m)(hoff:off+m<zs.length)(hy:Rn w B vs)(hB:vs≠[]→∀a,B=some a→a.block≠g)(hv:bN vs)(hz:bN zs)(BZ:Blk w g 166 (cE zs))(lm:m≤1048577) :
  Calls Tryz.prog 271 #[.slice (some ⟨g,off,none⟩) (m+1) ca,.slice B m d] w (aEN zs off m (nv vs) 1 g w):=by
 have HM:=Hj hm;have HBB:=Hj hB;clear hm hB;go_enter Tryz.func271,Tryz.ntmps271;go_wp2_with fail
 go_loopw [5,9] (fun s5 s9 wr=>∃(k:Nat) (us:List Int) (cr:Int),s5=.int .u32 cr∧s9=.int .i64 (k:Int)∧k≤m+1∧AddBk vs zs us off k cr∧Blk wr g 166 (cE us)∧Hid (Only g w wr)) (fun _ s9 _=>m+1-(intOf s9).toNat)
 case atStart=>exact⟨0,zs,0,rfl,rfl,Nat.zero_le _,⟨rfl,hz,by simp[nv],fun _ _=>rfl,by decide,by decide⟩,BZ,Only.refl _ _⟩
 case round=>
  clear BZ;obtain⟨k,us,cr,rfl,rfl,hk,T,BZ,HO⟩:=hrel;have c0:=T.c0;have c1:=T.c1
  by_cases hlt:k<m+1
  ·have hyr:=hy.only HO.out HBB.out
   have wy:=hv.getD k;have wz:=T.all.getD (off+k);have TN:=Hj (T.next (by omega) wy wz rfl rfl);have q0:wr.drew.cell? ⟨g,off+k,none⟩=some (.int .u32 (us.getD (off+k) 0)):=BZ.word (i:=off+k) (by rw[T.len];omega);have q1:wr.drew.frozen? ⟨g,off+k,none⟩=false:=BZ.frozen (off+k);have C1:=Hj (pW B m d vs k wr.drew HM.out hyr.drew (by omega) (by omega));generalize vs.getD k 0=y at *;generalize us.getD (off+k) 0=z at *;have C2:=Hj (fun w=>aNm z y cr wz wy c0 c1 w);have BZ2:=(BZ.set_ (off+k) (.int .u32 (cC (z+y+cr)))).drew;rw[dA]at BZ2;have HO2:Hid (Only g w (wr.setCell ⟨g,off+k,none⟩ (.int .u32 (cC (z+y+cr)))).drew):=(HO.out.set_ _ _).drew;have hl1:(k:Int)<(m:Int)+1:=by omega
   generalize cC (z+y+cr)=l at *;generalize eJ (z+y+cr)=c' at *;clear T BZ HO hyr;go_upto_region 5 with fail
   go_region_with
    (first
     | (go_at_call 253;refine C1.out.mono ?_;rintro e w' ⟨rfl,rfl⟩)
     | (go_at_call 279;refine(C2.out _).mono ?_;rintro e w' ⟨rfl,rfl⟩))
   all_goals
    go_wp2_with fail
    go_roundw
    case rel=>exact⟨k+1,_,c',rfl,by go_num,by omega,TN.out,BZ2,HO2⟩
    case measure=>simp[intOf];omega
  ·have ek:k=m+1:=by omega
   subst ek
   have FIN:Hid (Moved zs us off m (nv vs) (1*cr)):=by
    have e:=T.eq;rw[List.take_of_length_le (by rw[HM.out];omega)]at e;exact⟨T.len,T.all,by rw[Int.one_mul];exact e,T.same⟩
   clear T;go_wp2_with fail;go_ret;exact⟨us,cr,FIN.out,c0,c1,rfl,BZ,HO.out⟩
structure StepIn (vs zs:List Int) (off m:Nat):Prop where
 len:vs.length=m
 pos:0<m
 top:vs.getD (m-1) 0≠0
 hv:bN vs
 hz:bN zs
 room:off+m<zs.length
 lt:nv zs<nv vs*2 ^ (32*(off+1))
theorem StepIn.vpos {vs zs:List Int}{off m:Nat}(h:StepIn vs zs off m):(2:Int) ^ (32*(m-1))*vs.getD (m-1) 0≤nv vs∧nv vs<2 ^ (32*m)∧0<nv vs:=by
 have e:nv vs=nv (vs.take (m-1))+2 ^ (32*(m-1))*vs.getD (m-1) 0:=by
  rw[←bV,show m-1+1=m by have:=h.pos;omega,List.take_of_length_le (by rw[h.len];exact aD _)]
 have l0:=cN _ (h.hv.take (m-1));have l1:=iZ vs h.hv;rw[h.len]at l1;have w:=(h.hv.getD (m-1)).1;have t:=h.top;have p:=aM (32*(m-1));have:(2:Int) ^ (32*(m-1))*1≤2 ^ (32*(m-1))*vs.getD (m-1) 0:=Int.mul_le_mul_of_nonneg_left (by omega) (Int.le_of_lt p);exact⟨by omega,l1,by omega⟩
theorem StepIn.high {vs zs:List Int}{off m:Nat}(h:StepIn vs zs off m):∀j,off+m+1≤j→zs.getD j 0=0:=by
 have h1:=h.vpos;have h2:=h.lt;have p:=aM (32*(off+1));have h3:nv vs*2 ^ (32*(off+1))≤2 ^ (32*m)*2 ^ (32*(off+1)):=Int.mul_le_mul_of_nonneg_right (by omega) (Int.le_of_lt p);rw[←Int.pow_add,←Nat.mul_add]at h3;have h4:=vH h.hz (k:=m+(off+1)) (by omega);intro j hj;exact jI zs j (by omega)
theorem StepIn.guess {vs zs:List Int}{off m:Nat}(h:StepIn vs zs off m):(nv zs / 2 ^ (32*off)) / nv vs<4294967296∧(nv zs / 2 ^ (32*off)) / nv vs*vs.getD (m-1) 0≤zs.getD (off+m) 0*4294967296+zs.getD (off+m-1) 0:=by
 obtain⟨v1,v2,v3⟩:=h.vpos;have p:=aM (32*off);have hlt:=h.lt;have hz0:=cN zs h.hz
 have hR:nv zs / 2 ^ (32*off)<nv vs*4294967296:=by
  rw[Int.ediv_lt_iff_lt_mul p,Int.mul_assoc,Int.mul_comm 4294967296,←lG];exact hlt
 have hR0:0≤nv zs / 2 ^ (32*off):=Int.ediv_nonneg hz0 (Int.le_of_lt p);have q0:=Int.ediv_nonneg hR0 (Int.le_of_lt v3);have q1:=Int.ediv_mul_le (nv zs / 2 ^ (32*off)) (Int.ne_of_gt v3);refine⟨by rw[Int.ediv_lt_iff_lt_mul v3,Int.mul_comm];exact hR,?_⟩;have m1:=h.pos
 have eW:nv (zs.drop off)=nv ((zs.drop off).take (m+1)):=by
  rcases Nat.lt_or_ge (zs.drop off).length (m+1)with hh|hh
  ·rw[List.take_of_length_le (by omega)]
  ·exact aEj hh fun j hj=>by rw[mH];exact h.high _ (by omega)
 rw[aHu zs h.hz off]at q1 q0 ⊢;rw[eW]at q1 q0 ⊢;obtain⟨i,rfl⟩:∃i,m=i+1:=⟨m - 1,by omega⟩;rw[bV,bV,mH,mH]at q1 q0 ⊢;simp only[Nat.add_sub_cancel]at v1 ⊢;rw[show off+(i+1)-1=off+i by omega];have l0:=cN _ ((h.hz.drop off).take i);have l1:=iZ _ ((h.hz.drop off).take i);have l2:=bZ (32*((zs.drop off).take i).length) (32*i) (by rw[List.length_take];omega);generalize nv ((zs.drop off).take i)=L at *;have p32:=lG i;rw[p32]at q1 q0 ⊢;generalize zs.getD (off+(i+1)) 0=hi at *;generalize zs.getD (off+i) 0=nx at *;generalize vs.getD i 0=tp at *;have pp:=aM (32*i);generalize (2:Int) ^ (32*i)=P at *;generalize nv vs=V at *;generalize (L+P*nx+P*4294967296*hi) / V=q at *;have h1:q*(P*tp)≤q*V:=Int.mul_le_mul_of_nonneg_left v1 q0
 have h2:P*(q*tp)<P*(hi*4294967296+nx+1):=by
  have e1:q*(P*tp)=P*(q*tp):=by rw[←Int.mul_assoc,Int.mul_comm q P,Int.mul_assoc]
  have e2:P*(hi*4294967296+nx+1)=P*4294967296*hi+P*nx+P:=by rw[Int.mul_add,Int.mul_add,Int.mul_one,Int.mul_comm hi,←Int.mul_assoc]
  omega
 have:=Int.lt_of_mul_lt_mul_left h2 (Int.le_of_lt pp);omega
structure StepTo (vs zs us:List Int) (off m:Nat) (G bo:Int):Prop where
 mv:Moved zs us off m (-(nv vs*G)) (-1*bo)
 ge:(nv zs / 2 ^ (32*off)) / nv vs≤G
 hi:G<4294967296
 b0:0≤bo
 b1:bo≤1
theorem StepTo.more {vs zs us:List Int}{off m:Nat}{G:Int}(h:StepTo vs zs us off m G 1)(hs:StepIn vs zs off m):1≤G∧(nv zs / 2 ^ (32*off)) / nv vs≤G-1:=by
 obtain⟨v1,v2,v3⟩:=hs.vpos;obtain⟨h1,h2,h3,h4,h5⟩:=h;have p:=aM (32*off);have e:=h1.eq
 have ht:dE us≤off+m+1:=by
  rcases Nat.lt_or_ge (off+m+1) (dE us)with hh|hh
  ·exfalso
   have t1:=iP us (by omega);rw[h1.same _ (by omega),hs.high _ (by omega)]at t1;exact t1 rfl
  ·exact hh
 have l1:=aJd us h1.all;have l2:=bZ (32*dE us) (32*(off+m+1)) (by omega);have hz0:=cN zs hs.hz;have hR:=Int.mul_ediv_add_emod (nv zs) (2 ^ (32*off));have hL0:=Int.emod_nonneg (nv zs) (Int.ne_of_gt p);have hR0:0≤nv zs / 2 ^ (32*off):=Int.ediv_nonneg hz0 (Int.le_of_lt p);generalize nv zs / 2 ^ (32*off)=R at *;generalize nv zs % 2 ^ (32*off)=L at *
 have hneg:R-nv vs*G<0:=by
  rcases Int.lt_or_le (R - nv vs * G) 0 with hh|hh
  ·exact hh
  ·exfalso
   have:=Int.mul_nonneg (Int.le_of_lt p) hh;rw[Int.mul_sub]at this;rw[Int.mul_neg]at e;omega
 have hq:R / nv vs<G:=by
  rw[Int.ediv_lt_iff_lt_mul v3,Int.mul_comm];omega
 have hq0:=Int.ediv_nonneg hR0 (Int.le_of_lt v3);exact⟨by omega,by omega⟩
theorem StepTo.next {vs zs us us':List Int}{off m:Nat}{G c:Int}(h:StepTo vs zs us off m G 1)(hs:StepIn vs zs off m)(hm:Moved us us' off m (nv vs) (1*c))(c0:0≤c)(c1:c≤1):StepTo vs zs us' off m (G-1) (1-c):=by
 obtain⟨m1,m2⟩:=h.more hs;obtain⟨⟨a1,a2,a3,a4⟩,h2,h3,h4,h5⟩:=h;obtain⟨b1,b2,b3,b4⟩:=hm;refine⟨⟨by rw[b1,a1],b2,?_,fun j hj=>by rw[b4 j hj,a4 j hj]⟩,m2,by omega,by omega,by omega⟩;rw[show -1*(1-c)=c-1 by omega,Int.mul_sub (nv vs),Int.mul_one,Int.neg_sub,Int.mul_sub,Int.mul_sub,Int.mul_one];rw[show(-1:Int)*1 = -1 by decide,Int.mul_neg,Int.mul_neg,Int.mul_one]at a3;rw[Int.one_mul]at b3;omega
theorem StepTo.done {vs zs us:List Int}{off m:Nat}{G:Int}(h:StepTo vs zs us off m G 0)(hs:StepIn vs zs off m):0≤G∧nv zs=nv us+2 ^ (32*off)*(nv vs*G)∧nv us<nv vs*2 ^ (32*off):=by
 obtain⟨v1,v2,v3⟩:=hs.vpos;obtain⟨h1,h2,h3,h4,h5⟩:=h;have p:=aM (32*off);have e:=h1.eq;have hz0:=cN zs hs.hz;have hR:=Int.mul_ediv_add_emod (nv zs) (2 ^ (32*off));have hL0:=Int.emod_nonneg (nv zs) (Int.ne_of_gt p);have hL1:=Int.emod_lt_of_pos (nv zs) p;have hR0:0≤nv zs / 2 ^ (32*off):=Int.ediv_nonneg hz0 (Int.le_of_lt p);have hq0:=Int.ediv_nonneg hR0 (Int.le_of_lt v3);have hq1:=Int.lt_ediv_add_one_mul_self (nv zs / 2 ^ (32*off)) v3
 have e2:nv zs=nv us+2 ^ (32*off)*(nv vs*G):=by
  rw[Int.mul_neg,Int.mul_zero,Int.mul_zero]at e;omega
 refine⟨by omega,e2,?_⟩;generalize nv zs / 2 ^ (32*off)=R at *;generalize nv zs % 2 ^ (32*off)=L at *
 have h6:R<nv vs*G+nv vs:=by
  have:(R / nv vs+1)*nv vs≤(G+1)*nv vs:=Int.mul_le_mul_of_nonneg_right (by omega) (Int.le_of_lt v3);have e5:(G+1)*nv vs=nv vs*G+nv vs:=by rw[Int.add_mul,Int.one_mul,Int.mul_comm]
  omega
 have h7:2 ^ (32*off)*(R+1)≤2 ^ (32*off)*(nv vs*G+nv vs):=Int.mul_le_mul_of_nonneg_left (by omega) (Int.le_of_lt p);rw[Int.mul_add,Int.mul_add,Int.mul_one,Int.mul_comm _ (nv vs)]at h7;omega
def aMD (vs zs:List Int)(off:Nat)(g:Nat)(w:World)(e:Ending)(w':World):Prop:=
 ∃(us:List Int) (q:Int),W32 q∧us.length=zs.length∧bN us∧nv zs=nv us+2 ^ (32*off)*(nv vs*q)∧nv us<nv vs*2 ^ (32*off)∧e=.returned (.int .u32 q)∧Blk w' g 166 (cE us)∧Only g w w'
theorem aBZ (B:Option Addr)(g off ca m d:Nat)(vs zs:List Int)(w:World)(S:StepIn vs zs off m)(hy:Rn w B vs)(hB:∀a,B=some a→a.block≠g)(BZ:Blk w g 166 (cE zs))(lm:m≤1048577) :
  Calls Tryz.prog 261 #[.slice (some ⟨g,off,none⟩) (m+1) ca,.slice B m d] w (aMD vs zs off g w):=by
 have HS:=Hj S;have HBB:=Hj hB;obtain⟨i,hi⟩:∃i,m=i+1:=⟨m - 1,by have:=S.pos;omega⟩;obtain⟨g2,off2,rfl,hg2,hc2⟩:=hy.at_ (i:=i) (by rw[S.len];omega);have q0:w.drew.cell? ⟨g,off+m,none⟩=some (.int .u32 (zs.getD (off+m) 0)):=BZ.word (by have:=S.room;omega);have q1:=BZ.word (i:=off+i) (by have:=S.room;omega);have q2:w.drew.cell? ⟨g2,off2+i,none⟩=some (.int .u32 (vs.getD i 0)):=hc2;have GS:=S.guess;rw[hi]at GS;simp only[Nat.add_sub_cancel]at GS;rw[show off+(i+1)-1=off+i by omega,←hi]at GS;have wh:=S.hz.getD (off+m);have wn:=S.hz.getD (off+i);have wt:=S.hv.getD i;have ht:=S.top;rw[hi]at ht;simp only[Nat.add_sub_cancel]at ht;obtain⟨Q,hQ⟩:∃Q,(nv zs / 2 ^ (32 * off)) / nv vs=Q:=⟨_,rfl⟩;have HQ:=Hj hQ;rw[hQ]at GS;obtain⟨gs1,gs2⟩:=GS;generalize zs.getD (off+m) 0=hi' at *;generalize zs.getD (off+i) 0=nx at *;generalize vs.getD i 0=tp at *;have e1:(m:Int)-1=(i:Int):=by omega
 have hl1:(m:Int)<(m:Int)+1:=by omega
 have hl2:(i:Int)<(m:Int):=by omega
 have hl3:(i:Int)<(m:Int)+1:=by omega
 clear hi hQ S hc2 hB;go_enter Tryz.func261,Tryz.ntmps261;go_upto_region 1 with fail
 go_region
 have B1:=BZ.drew;have O1:Hid (Only g w w.drew):=(Only.refl g w).drew;have y1:=hy.drew;have r1:w.drew.cell? ⟨g,off+i,none⟩=some (.int .u32 nx):=q1;clear q0 q1 q2 hy BZ;generalize w.drew=w1 at *
 go_upto_if 22 with fail
 go_cut [7] (fun s7 wx=>∃G:Int,s7=.int .u32 G∧W32 G∧Q≤G∧Below w1.heap.size w1 wx)
 case first=>
  by_cases h:hi'<tp
  ·go_wp2_with fail
   refine(aLa hi' nx tp wh wn wt h _).mono ?_;rintro e w2 ⟨G,r,wG,wr,hr,heq,rfl,hb⟩
   have hG:Q≤G:=by
    have:Q*tp<(G+1)*tp:=by rw[Int.add_mul,Int.one_mul];omega
    have:=Int.lt_of_mul_lt_mul_right this wt.1;omega
   clear heq;go_wp2_with fail;go_meet;exact⟨G,rfl,wG,hG,hb⟩
  ·go_wp2_with fail
   go_meet;exact⟨4294967295,rfl,⟨by decide,by decide⟩,by omega,Below.refl _ _⟩
 case rest=>
  obtain⟨G,rfl,wG,hG,hb⟩:=hcut;have B2:=B1.below hb B1.lt;have O2:Hid (Only g w _):=O1.out.trans (Only.of_below hb B1.lt);have y2:=y1.below hb (aD _);have S:=HS.out;go_wp2_with fail;refine(vI _ g off ca m d vs zs G _ S.len S.room y2 (fun _=>HBB.out) S.hv S.hz wG B2 lm).mono ?_;rintro e w3 ⟨us,bo,hmv,b0,b1,rfl,B3,O3⟩;have T0:StepTo vs zs us off m G bo:=⟨hmv,by rw[HQ.out];exact hG,wG.2,b0,b1⟩;have O4:=Hj (O2.out.trans O3);have y3:=y2.only O3 (fun _=>HBB.out);have z3:=y3;clear hmv O2 O3 B1 B2 y1 y2 hb r1 O1;go_wp2_with fail
  go_loopw [7,8] (fun s7 s8 wr=>∃(G bo:Int) (us:List Int),s7=.int .u32 G∧s8=.int .u32 bo∧StepTo vs zs us off m G bo∧Blk wr g 166 (cE us)∧Hid (Only g w wr)∧Rn wr (some ⟨g2,off2,none⟩) vs) (fun s7 _ _=>(intOf s7).toNat)
  case atStart=>exact⟨G,bo,us,rfl,rfl,T0,B3,O4,y3⟩
  case round=>
   clear T0 B3 O4 y3 z3;obtain⟨G,bo,us,rfl,rfl,T,BZ,HO,yr⟩:=hrel
   by_cases h0:bo=0
   ·subst h0
    obtain⟨g0,d1,d2⟩:=T.done HS.out;have hG1:=T.hi;have D1:=Hj d1;have HL:=Hj T.mv.len;have ha:=T.mv.all;clear d1 T;go_wp2_with fail;go_ret;exact⟨us,G,⟨g0,hG1⟩,HL.out,ha,D1.out,d2,rfl,BZ,HO.out⟩
   ·have e0:bo=1:=by have:=T.b0;have:=T.b1;omega
    subst e0;obtain⟨m1, -⟩:=T.more HS.out;have hG1:=T.hi;have S:=HS.out;have TN:Hid (∀us' c,Moved us us' off m (nv vs) (1*c)→0≤c→c≤1→StepTo vs zs us' off m (G-1) (1-c)):=fun us' c h1 h2 h3=>T.next HS.out h1 h2 h3;have hl:off+m<us.length:=by rw[T.mv.len];exact HS.out.room
    have ha:=T.mv.all;clear T h0;go_wp2_with fail;refine(aCp _ g off ca m d vs us _ S.len hl yr (fun _=>HBB.out) S.hv ha BZ lm).mono ?_;rintro e w4 ⟨us',cc,hmv,c0,c1,rfl,B4,O5⟩;have T2:=TN.out us' cc hmv c0 c1;have y4:=yr.only O5 (fun _=>HBB.out);have O6:=Hj (HO.out.trans O5);clear hmv TN O5 HO BZ yr;go_wp2_with fail
    go_roundw
    case rel=>exact⟨G-1,1-cc,us',rfl,rfl,T2,B4,O6,y4⟩
    case measure=>simp[intOf];omega
end Go.Proofs.YtkbicfffokegeaaGreatDoor
