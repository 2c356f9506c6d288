/-
  Whatever program is handed in, CheckChecks answers true. (part 7 of 38) Conditions: none beside what the card ties.
-/
import Derived.Laws.Cover3
import Derived.Lib.TrailingZeros
import Derived.Test.YtkbicfffokegeaaGreatDoorCaf
namespace Go.Proofs.YtkbicfffokegeaaGreatDoor
set_option maxHeartbeats 16000000
open Go.RowKit
set_option maxRecDepth 100000
structure LongTo (U V:Int) (zs qs:List Int) (L nq K:Nat):Prop where
 lz:zs.length=L
 az:bN zs
 lq:qs.length=nq
 aq:bN qs
 eq:nv zs+nv qs*V=U
 lt:nv zs<V*2 ^ (32*K)
 low:∀j,j<K→qs.getD j 0=0
theorem LongTo.next {U:Int}{vs zs qs us:List Int}{L nq i:Nat}{q:Int}(h:LongTo U (nv vs) zs qs L nq (i+1))(hi:i<nq)(hq:W32 q)(hl:us.length=zs.length)(ha:bN us)(e:nv zs=nv us+2 ^ (32*i)*(nv vs*q))(hlt:nv us<nv vs*2 ^ (32*i)):LongTo U (nv vs) us (qs.set i q) L nq i:=by
 obtain⟨h1,h2,h3,h4,h5,h6,h7⟩:=h;refine⟨by rw[hl,h1],ha,by rw[List.length_set,h3],h4.set _ hq,?_,hlt,fun j hj=>?_⟩
 ·rw[kV _ _ _ (by omega),h7 i (by omega),Int.sub_zero,Int.add_mul,Int.mul_assoc,Int.mul_comm q]
  omega
 ·rw[cT _ _ _ _ (by omega)]
  exact h7 j (by omega)
theorem LongTo.done {U V:Int}{N:Nat}{zs qs:List Int}{L nq:Nat}(h:LongTo (2 ^ N*U) (2 ^ N*V) zs qs L nq 0):nv qs=U / V∧nv zs / 2 ^ N=U % V:=by
 obtain⟨h1,h2,h3,h4,h5,h6,h7⟩:=h;have p:=aM N;have z0:=cN zs h2;have z1:nv zs<2 ^ N*V:=by simpa using h6
 have vp:0<2 ^ N*V:=by omega
 have e1:nv qs=(2 ^ N*U) / (2 ^ N*V):=by
  rw[←h5,Int.add_mul_ediv_right _ _ (Int.ne_of_gt vp),Int.ediv_eq_zero_of_lt z0 z1,Int.zero_add]
 have e2:nv zs=(2 ^ N*U) % (2 ^ N*V):=by
  rw[←h5,Int.add_mul_emod_self_right,Int.emod_eq_of_lt z0 z1]
 rw[Int.mul_ediv_mul_of_pos _ _ p]at e1;rw[Int.mul_emod_mul_of_pos _ _ p]at e2;refine⟨e1,?_⟩;rw[e2,Int.mul_ediv_cancel_left _ (Int.ne_of_gt p)]
def aNn (q r:Int)(w:World)(e:Ending)(w':World):Prop:=
 ∃(us vs:List Int) (A B:Option Addr) (n m c d:Nat),IsNat q us∧IsNat r vs∧us.length=n∧vs.length=m∧e=.returned (.tuple #[.slice A n c,.slice B m d])∧n≤c∧m≤d∧Rn w' A us∧Rn w' B vs∧(∀a,A=some a→w.heap.size≤a.block)∧(∀a,B=some a→w.heap.size≤a.block)∧Below w.heap.size w w'
theorem aCa (A B:Option Addr)(n m c d:Nat)(us vs:List Int)(U V:Int)(w:World)(hn:us.length=n)(hm:vs.length=m)(hx:Rn w A us)(hy:Rn w B vs)(hu:IsNat U us)(hv:IsNat V vs)(hm0:0<m)(hmn:m≤n)(ln:n≤1048576) :
  Calls Tryz.prog 252 #[.slice A n c,.slice B m d] w (aNn (U / V) (U % V) w):=by
 have HN:=Hj hn;have HM:=Hj hm;obtain⟨i,hi⟩:∃i,m=i+1:=⟨m - 1,by omega⟩;obtain⟨g0,off0,rfl,hg0,hc0⟩:=hy.at_ (i:=i) (by omega);have wt:=hv.all.getD i
 have ht:vs.getD i 0≠0:=by
  have:=iP vs (by rw[hv.trim];omega);rw[hv.trim,hm,hi]at this;exact this
 have eV:V=nv (vs.take i)+2 ^ (32*i)*vs.getD i 0:=by
  rw[←bV,←hi,List.take_of_length_le (by omega),hv.val]
 have lV0:=cN _ (hv.all.take i);have lV1:=iZ _ (hv.all.take i);have lV2:=bZ (32*(vs.take i).length) (32*i) (by rw[List.length_take];omega);generalize vs.getD i 0=tp at *;obtain⟨b,eb,blt,bge,_⟩:=dT wt.1;obtain⟨b1,b2⟩:=bge (by have:=wt.1;omega);have hb32:=(mK (k:=32) wt.1 wt.2).2;rw[eb]at hb32;have LZ:=Hj (fun w=>aNC tp wt w);rw[eb]at LZ;obtain⟨N,hN⟩:∃N,32 - b=N:=⟨_,rfl⟩;have eN:32-(b:Int)=(N:Int):=by omega
 rw[eN]at LZ;have hN31:N≤31:=by omega
 -- the lifted divisor has as aDo words
 have p1:=aM N;have hV0:=hv.nonneg
 have hV1:2 ^ N*V<2 ^ (32*m):=by
  have h1:V<2 ^ (32*i)*2 ^ b:=by
   have:(2:Int) ^ (32*i)*(tp+1)≤2 ^ (32*i)*2 ^ b:=Int.mul_le_mul_of_nonneg_left (by omega) (Int.le_of_lt (aM _));rw[Int.mul_add,Int.mul_one]at this;omega
  have h2:2 ^ N*V<2 ^ N*(2 ^ (32*i)*2 ^ b):=Int.mul_lt_mul_of_pos_left h1 p1;rw[←Int.pow_add,←Int.pow_add,show N+(32*i+b)=32*m by omega]at h2;exact h2
 have hVp:0<V:=hv.pos (by omega)
 have hVge:V≤2 ^ N*V:=by
  have:1*V≤2 ^ N*V:=Int.mul_le_mul_of_nonneg_right (by omega) (by omega);omega
 have hVlo:(2:Int) ^ (32*i)≤V:=by
  have:=mS hv.all (by rw[hv.trim];omega);rw[hv.trim,hm,hv.val,hi]at this;exact this
 have hU1:U<V*2 ^ (32*(n-m+1)):=by
  have h1:=iZ us hu.all;rw[hu.val,hn]at h1;have h2:(2:Int) ^ (32*i)*2 ^ (32*(n-m+1))≤V*2 ^ (32*(n-m+1)):=Int.mul_le_mul_of_nonneg_right hVlo (Int.le_of_lt (aM _));rw[←Int.pow_add,show 32*i+32*(n-m+1)=32*n by omega]at h2;omega
 have HV1:=Hj hV1;have HVge:=Hj hVge;have HVlo:=Hj hVlo;have HU1:=Hj hU1;have HVal:=Hj hv.val;have HUal:=Hj hu.val;have av:=hv.all;have au:=hu.all;have e1:(m:Int)-1=(i:Int):=by omega
 have hl1:(i:Int)<(m:Int):=by omega
 have HI:=Hj hi;clear hn hm hi eV lV0 lV1 lV2 eb blt bge b1 b2 hN eN hV1 hVge hVlo hU1 hu hv p1;obtain⟨nq,hnq⟩:∃nq,n - m+1=nq:=⟨_,rfl⟩;obtain⟨r0,hr0⟩:∃r0,r0=List.replicate nq (0:Int):=⟨_,rfl⟩;have hmk:=Hj (gQ ((n:Int)-(m:Int)+1) nq (by omega) (by omega) r0 hr0);have HR0:=Hj hr0;have hnq1:nq+m≤n+1:=by omega
 have hnq2:n+1≤nq+m:=by omega
 clear hr0;have HNQ:=Hj hnq;clear hnq;go_enter Tryz.func252,Tryz.ntmps252;go_wp2_with fail;refine(LZ.out _).mono ?_;rintro e w1 ⟨rfl,rfl⟩;clear LZ e1 hc0;go_wp2_with fail;refine(wM A n c N 0 (n+1) us w HN.out hx au ln (by omega) (by omega) (by omega)).mono ?_;rintro e w1 ⟨zs,g1,Z1,rfl,hg1,BZ,HB1⟩;have hy1:=hy.below HB1 (aD _);go_wp2_with fail;refine(wM _ m d N 0 (m+1) vs w1 HM.out hy1 av (by omega) (by omega) (by omega) (by omega)).mono ?_;rintro e w2 ⟨ys,g2,Z2,rfl,hg2,BY,HB2⟩;have BZ2:=BZ.below HB2 BZ.lt;have hLY:=Hj Z2.len;have hg12:g1≠g2:=by have:=BZ.lt;omega
 go_wp2_with fail;refine(dI (some ⟨g2,0,none⟩) (m+1) (m+1) ys w2 hLY.out (aD _) BY.words (by omega)).mono ?_;rintro e w3 ⟨ts,A',m',c',T,rfl,hmc,hra,hfr,rfl⟩;have NT:IsNat (2 ^ N*V) ts:=by have:=T.nat Z2.all;rw[Z2.val,HVal.out]at this;exact this
 obtain rfl:m=m':=by
  have h1:=NT.le (k:=m) HV1.out
  have h3:m-1<ts.length:=by
   have h4:=iZ ts NT.all;rw[NT.val]at h4;have h5:=HVge.out;have h6:=HVlo.out;have h7:=HI.out;have:=aHn (a:=i) (b:=ts.length) (by omega);omega
  rw[T.len]at h1 h3;omega
 have LT:=Hj T.len;have EV:Hid (nv ts=2 ^ N*V):=NT.val;have at_:=NT.all
 have tt:ts.getD (m-1) 0≠0:=by
  have h8:=NT.trim;rw[T.len]at h8;have:=iP ts (by rw[h8];omega);rw[h8]at this;exact this
 have ET:Hid (LongTo (2 ^ N*U) (nv ts) zs r0 (n+1) nq nq):=by
  refine⟨Z1.len,Z1.all,by rw[HR0.out];simp,by rw[HR0.out];exact bN.zeros _,?_,?_,fun j _=>by rw[HR0.out,List.getD_eq_getElem?_getD,List.getElem?_replicate];split<;>rfl⟩
  ·rw[HR0.out,qH,Z1.val,HUal.out]
   omega
  ·rw[Z1.val,EV.out,HUal.out,Int.mul_assoc,←HNQ.out]
   exact Int.mul_lt_mul_of_pos_left HU1.out (aM N)
 have HBW:=Hj (aG HB1 HB2);have hBlt:g1<w2.heap.size:=BZ2.lt
 have hA':Hid (∀a,A'=some a→a.block≠g1):=fun a ha=>by
  have:=hfr a ha;injection this with this;rw[←this];exact fun h=>hg12 h.symm
 have hAq:Hid (∀a,A'=some a→a.block=g2):=fun a ha=>by
  have:=hfr a ha;injection this with this;rw[←this]
 have hg2q:w2.heap.size≠g2:=by have:=BY.lt;omega
 have hw2:w.heap.size≤w2.heap.size:=HBW.out.size;have hmk':=hmk.out;clear T NT hfr BY BZ hLY Z1 Z2 HB1 HB2 hy1 hx hy hmk av au HV1 HVge HVlo HU1;go_wp2_with fail;clear hmk'
 go_loopw [34] (fun s34 wr=>∃(k K:Nat) (zs qs:List Int),s34=.int .i64 (k:Int)∧k+K=nq∧LongTo (2 ^ N*U) (nv ts) zs qs (n+1) nq K∧Blk wr g1 166 (cE zs)∧Blk wr w2.heap.size 166 (cE qs)∧Rn wr A' ts∧Hid (Below w.heap.size w wr)) (fun s34 _=>nq-(intOf s34).toNat)
 case atStart=>exact⟨0,nq,zs,r0,rfl,by omega,ET.out,BZ2.alloc _,Blk.new _ _ _,hra.alloc _,aI HBW.out _⟩
 case round=>
  clear ET BZ2 hra HBW;obtain⟨k,K,zs,qs,rfl,hkK,T,BZ,BQ,yr,HB⟩:=hrel
  by_cases h0:K=0
  ·subst h0
   have T':=T;rw[EV.out]at T';obtain⟨d1,d2⟩:=T'.done;have D1:=Hj d1;have D2:=Hj d2;have aq:=T.aq;have az:=T.az;have lq:=Hj T.lq;have lz:=Hj T.lz;have hkn:nq≤k:=by omega
   clear d1 d2 T T' hkK;go_wp2_with fail;refine(dI (some ⟨w2.heap.size,0,none⟩) nq nq qs wr lq.out (aD _) BQ.words (by omega)).mono ?_;rintro e w4 ⟨ps,A4,m4,c4,T4,rfl,hmc4,hra4,hfr4,rfl⟩;have fin1:IsNat (U / V) ps:=by have:=T4.nat aq;rw[D1.out]at this;exact this
   have L4:=Hj T4.len
   have hf4:Hid (∀a,A4=some a→w.heap.size≤a.block):=fun a h=>by
    injection hfr4 a h with h;rw[←h];show w.heap.size≤w2.heap.size;omega
   clear T4 hfr4;go_wp2_with fail;refine(aHw (some ⟨g1,0,none⟩) (n+1) (n+1) zs (N:Int) wr lz.out (aD _) BZ.words az (by omega) (by omega)).mono ?_;rw[show(max (N:Int) 0).toNat=N by omega,D2.out];rintro e w5 ⟨rs,A5,m5,c5,n5,l5,rfl,hmc5,hra5,hfr5,hb5⟩;have hra4':=hra4.below hb5 (aD _);have HB5:=Hj (aG HB.out hb5);have L5:=Hj l5;have hf5:Hid (∀a,A5=some a→w.heap.size≤a.block):=fun a h=>aF HB.out.size (hfr5 a h);clear l5 hfr5 hb5 HB hra4;go_wp2_with fail
   go_ret2
   exact⟨ps,rs,A4,A5,m4,m5,c4,c5,fin1,n5,L4.out,L5.out,rfl,hmc4,hmc5,hra4',hra5,hf4.out,hf5.out,HB5.out⟩
  ·obtain⟨j,rfl⟩:∃j,K=j+1:=⟨K - 1,by omega⟩
   have S:StepIn ts zs j m:=⟨LT.out,hm0,tt,at_,T.az,by rw[T.lz];omega,T.lt⟩;have TN:Hid (∀us q,W32 q→us.length=zs.length→bN us→nv zs=nv us+2 ^ (32*j)*(nv ts*q)→nv us<nv ts*2 ^ (32*j)→LongTo (2 ^ N*U) (nv ts) us (qs.set j q) (n+1) nq j):=fun us q h1 h2 h3 h4 h5=>T.next (by omega) h1 h2 h3 h4 h5;have lq:=Hj T.lq;have e1:(nq:Int)-1-(k:Int)=(j:Int):=by omega
   have hl1:(k:Int)<(nq:Int):=by omega
   have hl2:(j:Int)+(m:Int)+1≤(n:Int)+1:=by omega
   have hl3:(j:Int)<(nq:Int):=by omega
   have HK2:Hid (k+1+j=nq):=by show _=_;omega
   have hgq:w2.heap.size≠g1:=by omega
   clear T h0 hkK;go_wp2_with fail;rw[show j+m+1-j=m+1 by omega];refine(aBZ A' g1 j (n+1-j) m c' ts zs wr S yr hA'.out BZ (by omega)).mono ?_;rintro e w4 ⟨us',q,wq,hl,ha,heq,hlt,rfl,BZ4,O4⟩;have T2:=TN.out us' q wq hl ha heq hlt;have BQ4:=BQ.only O4 hgq;have yr4:=yr.only O4 (fun _=>hA'.out);have HB4:=Hj (O4.below HB.out hg1);have q0:=BQ4.word (i:=j) (by rw[lq.out];omega);have q1:=BQ4.frozen j;have BQ5:=BQ4.set_ j (.int .u32 q);rw[dA]at BQ5;have BZ5:=BZ4.far (p:=⟨w2.heap.size,j,none⟩) (fun h=>hgq h.symm) (.int .u32 q);have yr5:Rn (w4.setCell ⟨w2.heap.size,j,none⟩ (.int .u32 q)) A' ts:=yr4.far (fun a ha=>by rw[hAq.out a ha];exact hg2q) _;have HB5:Hid (Below w.heap.size w (w4.setCell ⟨w2.heap.size,j,none⟩ (.int .u32 q))):=dQ HB4.out hw2 _;clear heq hlt hl TN S BZ BQ yr HB BZ4 BQ4 yr4 HB4 O4;go_wp2_with fail
   go_roundw
   case rel=>exact⟨k+1,j,us',_,by go_num,HK2.out,T2,BZ5,BQ5,yr5,HB5⟩
   case measure=>simp[intOf];omega
theorem rR {P:Program}(w:World)(base:Nat)(t ty e:TypeId)(i:TypeInfo)(z:Value)(ht:P.underlying t=some (.slice e))(hi:P.info? e=some i)(hz:i.zero=some z)
  (hsize:i.size=1) (hby:i.bytes=4) (hzs:z.cells.size=1) (v:Value) (n:Nat) (xs:List Value) (hown:w.ownsRow base e 1 v n xs)
  (A:Option Addr) (c:Nat) (ys:List Int) (hr:Rn w A ys) (h63:n+ys.length≤maxLen) (hbytes:(n+ys.length)*4≤140737488355328) (hbase:base≤w.heap.size) :
  ∃v' w',(Builtin.append_ #[t,t] ty #[v,.slice A ys.length c]).run P w=.ok v' w'∧w'.ownsRow base e 1 v' (n+ys.length) (xs++ys.map (Value.int .u32))∧w.grownBy w' v.ownBlock:=by
 rcases A with _|ad
 ·have hy:ys=[]:=by
   rcases hr with h|⟨g,off,h,_⟩
   ·exact h
   ·cases h
  subst hy;refine⟨v,w,?_,by simpa using hown,World.grownBy.refl w _⟩;rcases hown.2 with⟨rfl,rfl⟩|⟨g,cap,cur,rfl,_,_,hnc,_⟩
  ·simp[Builtin.append_,run_underlying ht,sizeOf,typeInfo,hi,Builtin.lenOf,Builtin.firstCells]
  ·simp[Builtin.append_,run_underlying ht,sizeOf,typeInfo,hi,Builtin.lenOf,Builtin.firstCells,hnc,storeCells]
 ·have hcells:∀j u,(ys.map (Value.int .u32))[j]? = some u→w.cell? (ad.add j)=some u:=by
   intro j u hu;rw[List.getElem?_map]at hu
   cases hj:ys[j]? with
   | none=>rw[hj]at hu;cases hu
   | some b=>
    rw[hj]at hu;injection hu with hu;subst hu;rcases hr with h|⟨g,off,h,_,hc⟩
    ·subst h;simp at hj
    ·injection h with h
     subst h;have:=hc j b hj;unfold Addr.add;split
     ·rename_i h0
      subst h0
      simpa using this
     ·exact this
  have h1:∀u∈ys.map (Value.int .u32),u.oneCell'=true:=by
   intro u hu;obtain⟨b,_,rfl⟩:=List.mem_map.1 hu;rfl
  obtain⟨v',w',hrun,h2,h3,_,_⟩:=run_append_own_at (P:=P) w base t ty e i z 1 4 ht hi hz hsize hby hzs (by decide) v n xs hown ad ys.length c (ys.map (Value.int .u32)) (by simp) hcells h1 h63 hbytes hbase;exact⟨v',w',hrun,h2,h3⟩
theorem oL {P:Program}(w:World){ops:Array Oper}{rest:List Oper}{o:Oper}{a:Act}{Q:Exit→Act→World→Prop}(hgd:o.guard=none)(s x:Operand)(t:TypeId)
  (ho:o.op=.call { callee:=.builtin .append,args:=#[s,x],argTypes:=#[t,t] })
  (base:Nat) (e:TypeId) (i:TypeInfo) (z:Value) (ht:P.underlying t=some (.slice e)) (hi:P.info? e=some i) (hz:i.zero=some z)
  (hsize:i.size=1) (hby:i.bytes=4) (hzs:z.cells.size=1) (v:Value) (n:Nat) (xs:List Value) (hs:a.eval s=v) (hown:w.ownsRow base e 1 v n xs)
  (A:Option Addr) (c m:Nat) (ys:List Int) (hm:ys.length=m) (hx:a.eval x=.slice A m c) (hr:Rn w A ys) (h63:n+m≤maxLen) (hbytes:(n+m)*4≤140737488355328) (hbase:base≤w.heap.size)
  (h:∀v' w',w'.ownsRow base e 1 v' (n+m) (xs++ys.map (Value.int .u32))→w.grownBy w' v.ownBlock→wpList P ops Q rest (a.put o.dst v') w'):wpList P ops Q (o::rest) a w:=by
 subst hm;refine wpList_plain hgd fun K hK=>?_;obtain⟨v',w',hrun,h2,h3⟩:=rR (P:=P) w base t o.type e i z ht hi hz hsize hby hzs v n xs hown A c ys hr h63 hbytes hbase;unfold Oper.wp execOp;simp only[ho,resolve,invoke,builtin,Sem.run_bind,Sem.run_pure,Result.andThen_ok,List.map_toArray,List.map_cons,List.map_nil,hs,hx,hrun];exact hK _ _ (h v' w' h2 h3)
theorem sB {w:World}{base:Nat}{v:Value}{n:Nat}{ws:List Int}(h:w.ownsRow base 166 1 v n (ws.map (Value.int .u32))):ws.length=n∧∃(A:Option Addr) (c:Nat),v=.slice A n c∧n≤c∧Rn w A ws∧∀a,A=some a→base≤a.block:=by
 have hl:ws.length=n:=by have:=h.1;simpa using this
 refine⟨hl,?_⟩;rcases h.2 with⟨rfl,rfl⟩|⟨g,cap,cur,rfl,hb,hh,hc,hm,hs,ht⟩
 ·have:ws=[]:=List.eq_nil_of_length_eq_zero hl
  subst this;exact⟨none,0,rfl,aD _,.inl rfl,fun a h=>by cases h⟩
 ·subst hl
  refine⟨some ⟨g,0,none⟩,cap,rfl,hc,?_,fun a h=>by injection h with h;subst h;exact hb⟩
  by_cases hx:ws=[]
  ·exact .inl hx
  ·refine .inr ⟨g,0,rfl,?_,fun i b hi=>?_⟩
   ·rcases Nat.lt_or_ge g w.heap.size with hlt|hge
    ·exact hlt
    ·rw[Array.getElem?_eq_none hge]at hh;cases hh
   ·rw[cell_of_row w g (0+i) cur 166 (0,0) hh]
    have e:(cur.toList.take (ws.length*1))[i]? = some (.int .u32 b):=by rw[ht,List.getElem?_map,hi];rfl
    rw[List.getElem?_take]at e
    split at e
    ·simpa using e
    ·cases e
theorem wF {B:Nat}{w wr w1:World}{t:TypeId}{v:Value}{n:Nat}{xs:List Value}(HB:Below B w wr)(hB:B≤wr.heap.size)(own:wr.ownsRow B t 1 v n xs)(hg:wr.grownBy w1 v.ownBlock):Below B w w1:=by
 refine HB.grown hg hB fun g e=>?_;rcases own.2 with⟨rfl,_⟩|⟨g',cap,cur,rfl,hb,_⟩
 ·cases e
 ·simp[Value.ownBlock]at e
  omega
theorem aEE (a:Option Addr)(l c:Nat)(w:World):(binOp .eql 278 (.slice a l c) (.slice none 0 0)).run Tryz.prog w=.ok (.bool a.isNone) w:=by
 simp only[binOp]
 simp[run_equal_slice_nil w 278 _ a l c Tryz.underlying278]
set_option maxRecDepth 100000 in
theorem aFQ (A:Option Addr)(n c:Nat)(us:List Int)(v:Int)(w:World)(hn:us.length=n)(hx:Rn w A us)(hu:IsNat v us)(ln:n≤1048577) :
  Calls Tryz.prog 251 #[.slice A n c] w (aDQ v w):=by
 obtain⟨i0,hi,hz0,hz1,hz2⟩:=info_parts vG;have HN:=Hj hn;have HI:=Hj hi;have HZ0:=Hj hz0;have HZ1:=Hj hz1;have HZ2:=Hj hz2;clear hn hi hz0 hz1 hz2;rcases A with _|a
 ·have h0:us=[]:=by
   rcases hx with h|⟨g,off,h,_⟩
   ·exact h
   ·cases h
  subst h0;have en:=aEE none n c;go_enter Tryz.func251,Tryz.ntmps251;go_wp2_with fail;go_ret;exact⟨[],none,0,0,hu,rfl,rfl,aD _,.inl rfl,(fun a h=>by cases h),Below.refl _ _⟩
 ·have en:=aEE (some a) n c
  go_enter Tryz.func251,Tryz.ntmps251
  have own0:(w.alloc (.cells #[] 166)).ownsRow w.heap.size 166 1 (.slice (some ⟨w.heap.size,0,none⟩) 0 0) 0 (([]:List Int).map (Value.int .u32)):=
   ⟨rfl,.inr ⟨w.heap.size,0,#[],rfl,aD _,heap_alloc_new w _,aD _,by simp[maxLen],rfl,rfl⟩⟩
  have hx1:=hx.alloc (.cells #[] 166)
  go_wp2_with (at_builtin;refine oL _ rfl _ _ 278 rfl w.heap.size 166 i0 (.int .u32 0) Tryz.underlying278 HI.out HZ0.out HZ1.out HZ2.out rfl _ _ _ rfl own0 _ c n us HN.out rfl hx1 ?c3 ?c4 (by simp) ?_)
  case c3=>unfold maxLen;omega
  case c4=>omega
  intro v' w1 own' hgrow;have HB:=Hj (wF (aI (Below.refl w.heap.size w) _) (by simp) own0 hgrow);obtain⟨hl,A',c',rfl,hc',hr',hf⟩:=sB own';have HL:=Hj hl;clear own0 own' hgrow hx hx1 hl;go_wp2_with fail;go_ret;exact⟨us,A',n,c',hu,HL.out,rfl,hc',hr',hf,HB.out⟩
def aMA (q r er:Int)(w:World)(e:Ending)(w':World):Prop:=
 ∃(us vs:List Int) (A B:Option Addr) (n m c d:Nat),IsNat q us∧IsNat r vs∧us.length=n∧vs.length=m∧e=.returned (.tuple #[.slice A n c,.slice B m d,.int .i64 er])∧n≤c∧m≤d∧Rn w' A us∧Rn w' B vs∧(∀a,A=some a→w.heap.size≤a.block)∧(∀a,B=some a→w.heap.size≤a.block)∧Below w.heap.size w w'
theorem aMo {q b r v:Int}(e:q*b+r=v)(h0:0≤r)(h1:r<b):v / b=q∧v % b=r:=by
 have hb:0<b:=by omega
 rw[←e];constructor
 ·rw[Int.add_comm,Int.add_mul_ediv_right _ _ (Int.ne_of_gt hb),Int.ediv_eq_zero_of_lt h0 h1,Int.zero_add]
 ·rw[Int.add_comm,Int.add_mul_emod_self_right,Int.emod_eq_of_lt h0 h1]
theorem aHE (A B:Option Addr)(n m c d:Nat)(us vs:List Int)(w:World)(hn:us.length=n)(hm:vs.length=m)(hc:n≤c)(hd:m≤d)(hx:Rn w A us)(hy:Rn w B vs)(hu:bN us)(hv:bN vs)(ln:n≤1048576)(lm:m≤1048576)(h0:nv vs≠0) :
  Calls Tryz.prog 239 #[.slice A n c,.slice B m d] w (aMA (nv us / nv vs) (nv us % nv vs) 0 w):=by
 have HN:=Hj hn;have HM:=Hj hm;obtain⟨U,hU⟩:∃U,nv us=U:=⟨_,rfl⟩;obtain⟨V,hV⟩:∃V,nv vs=V:=⟨_,rfl⟩;rw[hU,hV];rw[hV]at h0;have HU:=Hj hU;have HV:=Hj hV;clear hn hm hU hV;go_enter Tryz.func239,Tryz.ntmps239;go_wp2_with fail;refine(dI A n c us w HN.out hc hx (by omega)).mono ?_;rintro e w1 ⟨us',A1,n1,c1,TU,rfl,hc1,hx1, -,rfl⟩;have NU:IsNat U us':=by have:=TU.nat hu;rw[HU.out]at this;exact this
 have ln1:=TU.le HN.out;have HN1:=Hj TU.len;clear TU;go_wp2_with fail;refine(dI B m d vs w HM.out hd hy (by omega)).mono ?_;rintro e w1 ⟨vs',B1,m1,d1,TV,rfl,hd1,hy1, -,rfl⟩;have NV:IsNat V vs':=by have:=TV.nat hv;rw[HV.out]at this;exact this
 have lm1:=TV.le HM.out;have HM1:=Hj TV.len
 have hm0:m1≠0:=fun h=>h0 (by
  have h2:=TV.len;rw[h]at h2;have:=List.eq_nil_of_length_eq_zero h2;rw[this]at NV;exact NV.val.symm)
 clear TV HU HV hx hy hu hv h0
 by_cases h1:m1=1
 ·subst h1
  obtain⟨g,off,rfl,hg,hcell⟩:=hy1.at_ (i:=0) (by rw[HM1.out];decide);have hcell':w.cell? ⟨g,off,none⟩=some (.int .u32 (vs'.getD 0 0)):=hcell;have wb:=NV.all.getD 0
  have eV:vs'.getD 0 0=V:=by
   have:=NV.val;rw[aAq,List.eq_nil_of_length_eq_zero (l:=vs'.tail) (by rw[List.length_tail,HM1.out])]at this
   simpa [nv] using this
  have hV0:0<V:=NV.pos (by rw[HM1.out];decide);rw[eV]at hcell' wb;clear eV hcell;go_wp2_with fail;refine(aAr A1 n1 c1 us' V w HN1.out hx1 NU.all (by omega) wb (by omega)).mono ?_;rintro e w1 ⟨qs,A2,n2,c2,q,r,hq,heq,hr0,hr1,hl,rfl,hc2,hr2,hf2, -,hb2⟩;rw[NU.val]at heq;obtain⟨d1',d2'⟩:=aMo heq hr0 hr1;have HQ:IsNat (U / V) qs:=by rw[d1'];exact hq
  have HL:=Hj hl;have ER:Hid (U % V=r):=d2';have hr3:r<4294967296:=by have:=wb.2;omega
  clear hl d1' d2' heq hcell' hq;go_wp2_with fail;refine(uN r ⟨hr0,by omega⟩ _).mono ?_;rintro e w2 ⟨rs,A3,n3,c3,hr,hl3,rfl,hc3,hr3',hf3,hb3⟩;have HR:IsNat (U % V) rs:=by rw[ER.out];exact hr
  have hr4:=hr2.below hb3 (aD _);have HB:=Hj (aG hb2 hb3);have HL3:=Hj hl3;have HF3:Hid (∀a,A3=some a→w.heap.size≤a.block):=fun a h=>aF hb2.size (hf3 a h);have HF2:=Hj hf2;clear hl3 hf3 hf2 hb2 hb3 hr ER hr2;go_wp2_with fail
  go_ret3
  exact⟨qs,rs,A2,A3,n2,n3,c2,c3,HQ,HR,HL.out,HL3.out,rfl,hc2,hc3,hr4,hr3',HF2.out,HF3.out,HB.out⟩
 ·have h2:((m1:Int) == 0)=false:=by simp;omega
  have h3:((m1:Int) == 1)=false:=by simp;omega
  have hm2:2≤m1:=by omega
  clear h1 hm0
  by_cases hlt:n1<m1
  ·have hV1:=iZ us' NU.all
   rw[NU.val,HN1.out]at hV1;have hV2:=mS NV.all (by rw[NV.trim,HM1.out];omega);rw[NV.trim,HM1.out,NV.val]at hV2;have hV3:=bZ (32*n1) (32*(m1-1)) (by omega);have hU0:=NU.nonneg;have HQ:Hid (U / V=0):=Int.ediv_eq_zero_of_lt hU0 (by omega);have HR:Hid (U % V=U):=Int.emod_eq_of_lt hU0 (by omega);have hlt':(n1:Int)<(m1:Int):=by omega
   clear hV1 hV2 hV3;go_wp2_with fail;refine(aFQ A1 n1 c1 us' U w HN1.out hx1 NU (by omega)).mono ?_;rintro e w2 ⟨rs,A3,n3,c3,hr,hl3,rfl,hc3,hr3',hf3,hb3⟩;have HL3:=Hj hl3;have HF3:=Hj hf3;have F1:Hid (IsNat (U / V) []):=by show IsNat _ _;rw[HQ.out];exact IsNat.nil
   have F2:Hid (IsNat (U % V) rs):=by show IsNat _ _;rw[HR.out];exact hr
   clear hl3 hf3 HQ HR;go_wp2_with fail
   go_ret3
   exact⟨[],rs,none,A3,0,n3,0,c3,F1.out,F2.out,rfl,HL3.out,rfl,aD _,hc3,.inl rfl,hr3',(fun a h=>by cases h),HF3.out,hb3⟩
  ·have hlt':decide ((n1:Int)<(m1:Int))=false:=by simp;omega
   have hlt2:decide (n1<m1)=false:=by simp;omega
   go_wp2_with fail;refine(aCa A1 B1 n1 m1 c1 d1 us' vs' U V w HN1.out HM1.out hx1 hy1 NU NV (by omega) (by omega) (by omega)).mono ?_;rintro e w2 ⟨qs,rs,A2,A3,n2,n3,c2,c3,hq,hr,hl2,hl3,rfl,hc2,hc3,hr2,hr3,hf2,hf3,hb⟩;have HL2:=Hj hl2;have HL3:=Hj hl3;have HF2:=Hj hf2;have HF3:=Hj hf3;clear hl2 hl3 hf2 hf3;go_wp2_with fail
   go_ret3
   exact⟨qs,rs,A2,A3,n2,n3,c2,c3,hq,hr,HL2.out,HL3.out,rfl,hc2,hc3,hr2,hr3,HF2.out,HF3.out,hb⟩
def aCr (w:World):Prop:=∀j,j<32→w.cell? ⟨9,j,none⟩=some (.int .u8 ((Lib.deBruijn32tab.getD j 0:Nat):Int))
theorem aCr.below {w w':World}(h:aCr w)(hb:Below w.heap.size w w'):aCr w':=fun j hj=>
 (hb.cell (p:=⟨9,j,none⟩) (World.block_lt_of_cell? _ _ (h j hj))).trans (h j hj)
end Go.Proofs.YtkbicfffokegeaaGreatDoor
