/-
  Whatever program is handed in, CheckChecks answers true. (part 13 of 38) Conditions: none beside what the card ties.
-/
import Derived.Lib.Repeat
import Derived.Test.YtkbicfffokegeaaGreatDoorCal
namespace Go.Proofs.YtkbicfffokegeaaGreatDoor
set_option maxHeartbeats 16000000
open Go.RowKit
set_option maxRecDepth 100000
def cQ (l:List UInt8):Int:=l.foldl (fun n c=>min (n*10+((c.toNat:Int)-48)) 1000) 0
def rxD (l:List UInt8):List UInt8:=if Lib.hasPrefix l [45]then Lib.trimPrefix l [45]else Lib.trimPrefix l [43]
def vT (l:List UInt8):Bool:=fF (rxD l)
def rxV (l:List UInt8):Int:=if vT l then(if Lib.hasPrefix l [45]then -cQ (rxD l)else cQ (rxD l))else 0
def rdI (l:List UInt8):Int:=Lib.indexAny l [101,69]
def rdS (l:List UInt8):List UInt8:=if 0≤rdI l then l.take (rdI l).toNat else l
def rdX (l:List UInt8):List UInt8:=l.drop ((rdI l).toNat+1)
def rdP (l:List UInt8):Int:=if 0≤rdI l then rxV (rdX l)else 0
def aBx (l:List UInt8):Bool:=decide (rdI l<0) || vT (rdX l)
def rdC (l:List UInt8):List UInt8×List UInt8×Bool:=Lib.cut (rdS l) [46]
def tZ (l:List UInt8):Bool:=aBx l && (fF (rdC l).1 && (!(rdC l).2.2 || fF (rdC l).2.1))
def rdD (l:List UInt8):List UInt8:=(rdC l).1++(rdC l).2.1
def rdE (l:List UInt8):Int:=rdP l-(rdC l).2.1.length
theorem xD:∀(l:List UInt8) (a:Int),0≤a→l.all bT=true →
  l.foldl (fun n c=>min (n*10+((c.toNat:Int)-48)) 1000) (min a 1000)=min (l.foldl (fun n c=>n*10+((c.toNat:Int)-48)) a) 1000
 | [],_,_,_=>rfl
 | c::l,a,ha,h=>by
  simp only[List.all_cons,Bool.and_eq_true]at h;have h1:=h.1;unfold bT at h1;simp only[Bool.and_eq_true,decide_eq_true_eq]at h1;rw[List.foldl_cons,List.foldl_cons,show min (min a 1000*10+((c.toNat:Int)-48)) 1000=min (a*10+((c.toNat:Int)-48)) 1000 by omega];exact xD l _ (by omega) h.2
theorem aIF {l:List UInt8}(h:l.all bT=true):cQ l=min (cX l) 1000:=by
 have:=xD l 0 (by omega) h;rw[show min (0:Int) 1000=0 by decide]at this;exact this
theorem aCe (l:List UInt8)(h:l.all bT=true):0≤cQ l∧cQ l≤1000:=by
 have:=(iN h).1;rw[aIF h];omega
theorem gU {l:List UInt8}(h:fF l=true):l.all bT=true∧l≠[]:=by
 unfold fF at h;simp only[Bool.and_eq_true,Bool.not_eq_true']at h;refine⟨h.2,fun e=>?_⟩;rw[e]at h
 simp at h
theorem aEF {l:List UInt8}(h:l.all bT=true)(k:l≠[]):fF l=true:=by
 unfold fF;rw[h]
 cases l with
 | nil=>exact absurd rfl k
 | cons a l=>rfl
theorem aLv (l:List UInt8):-1000≤rxV l∧rxV l≤1000:=by
 unfold rxV;split
 ·rename_i h
  have:=aCe (rxD l) (gU h).1
  split<;>omega
 ·omega
theorem aGT (l:List UInt8):-1000≤rdP l∧rdP l≤1000:=by
 unfold rdP;split
 ·exact aLv _
 ·omega
theorem aEc {l:List UInt8}(h:tZ l=true):fF (rdD l)=true:=by
 unfold tZ at h;simp only[Bool.and_eq_true,Bool.or_eq_true,Bool.not_eq_true']at h;obtain⟨-,h1,h2⟩:=h;obtain⟨a,b⟩:=gU h1;unfold rdD;rcases h2 with h2|h2
 ·have:(rdC l).2.1=[]:=by
   unfold rdC Lib.cut at h2 ⊢;split
   ·rename_i h3
    rw[if_pos h3]at h2;cases h2
   ·rfl
  rw[this,List.append_nil];exact h1
 ·obtain⟨a',b'⟩:=gU h2
  refine aEF (by rw[List.all_append,a,a'];rfl) ?_
  simp[b]
theorem aIV {l:List UInt8}(h:l.all bT=true)(k:Nat):(l.take k).all bT=true:=List.all_eq_true.2 fun c hc=>List.all_eq_true.1 h c (List.mem_of_mem_take hc)
end Go.Proofs.YtkbicfffokegeaaGreatDoor
namespace Go.Proofs.YtkbicfffokegeaaGreatDoor
set_option maxHeartbeats 16000000
open Go.RowKit Go.Sort
set_option maxRecDepth 100000
theorem aFn:Tryz.prog.globalNamed "internal/strconv.uint64pow10" = some 8:=by kernel_rfl
structure EnvOk (w:World):Prop where
 tab:aCr w
 pow:Lib.TabIs Tryz.prog w "internal/strconv.uint64pow10" .u64 Lib.pow10Tab
 len:∃m,w.cell? ⟨2,0,none⟩=some (.int .i64 m)
theorem tI {w w':World}{name:String}{k:IntKind}{zs:List Int}(h:Lib.TabIs Tryz.prog w name k zs)(hb:Below w.heap.size w w'):Lib.TabIs Tryz.prog w' name k zs:=by
 unfold Lib.TabIs World.var? at *
 cases hg:Tryz.prog.globalNamed name with
 | none=>simp[hg]at h
 | some g=>
  simp only[hg,Option.bind_some]at h ⊢
  have lt:g<w.heap.size:=by
   rcases Nat.lt_or_ge g w.heap.size with h1|h1
   ·exact h1
   ·rw[Array.getElem?_eq_none h1]at h
    cases h
  rw[hb.block g lt];exact h
theorem EnvOk.below {w w':World}(h:EnvOk w)(hb:Below w.heap.size w w'):EnvOk w':=by
 refine⟨h.tab.below hb,tI h.pow hb,?_⟩;obtain⟨m,hm⟩:=h.len;have lt:2<w.heap.size:=World.block_lt_of_cell? _ _ hm;exact⟨m,(hb.cell (p:=⟨2,0,none⟩) lt).trans hm⟩
theorem EnvOk.alloc {w:World}(h:EnvOk w)(o:Obj):EnvOk (w.alloc o):=h.below (aI (Below.refl _ _) o)
theorem nO (w:World)(k:Nat):Below w.heap.size w (w.drewN k):=
 ⟨by simp[World.drewN],by simp[World.drewN],by simp[World.drewN],by simp[World.drewN],fun j _=>by simp[World.drewN]⟩
theorem aAe {s:ByteArray}{l:List UInt8}(h:s.data.toList=l):s=⟨l.toArray⟩:=by
 subst h;obtain⟨⟨l⟩⟩:=s;rfl
theorem aBl (l:List UInt8):(⟨l.toArray⟩:ByteArray).data.toList=l:=rfl
theorem aBk (l:List UInt8):(⟨l.toArray⟩:ByteArray).size=l.length:=by rw[Lib.size_eq]
end Go.Proofs.YtkbicfffokegeaaGreatDoor
namespace Go.Proofs.YtkbicfffokegeaaGreatDoor
set_option maxHeartbeats 16000000
open Go.RowKit
set_option maxRecDepth 100000
theorem kW (s:ByteArray)(w:World)(hs:s.size≤1048576) :
  Calls Tryz.prog 218 #[.string s] w fun e w'=>e=.returned (.bool (fF s.data.toList))∧w=w':=by
 go_enter Tryz.func218,Tryz.ntmps218;go_wp2_with fail
 go_loop [6] (fun s6=>∃k:Nat,s6=.int .i64 (k:Int)∧k≤s.size∧Hid ((s.data.toList.take k).all bT=true)) (fun s6=>s.size-(intOf s6).toNat)
 case atStart=>exact⟨0,rfl,Nat.zero_le _,by show _=_;simp⟩
 case round=>
  obtain⟨k,rfl,hk,H⟩:=hrel
  by_cases hlt:k<s.size
  ·have hts:=iB s k hlt
   have hmem:s[k]∈s.data.toList:=by
    have:s[k]∈s.data.toList.take (k+1):=by rw[hts];simp
    exact List.mem_of_mem_take this
   have hl1:(k:Int)<(s.size:Int):=by omega
   by_cases hd:bT s[k]=true
   ·have H2:Hid ((s.data.toList.take (k+1)).all bT=true):=by
     show _=_;rw[hts,List.all_append,H.out]
     simp[hd]
    unfold bT at hd;simp only[Bool.and_eq_true,decide_eq_true_eq]at hd;obtain⟨d1,d2⟩:=hd;clear hts H hmem;go_wp2_with fail
    go_round
    case rel=>exact⟨k+1,by go_num,by omega,H2⟩
    case measure=>simp[intOf];omega
   ·have F:Hid (false=fF s.data.toList):=by
     show _=_;unfold fF
     have:s.data.toList.all bT=false:=by
      rw[List.all_eq_false];exact⟨_,hmem,hd⟩
     rw[this,Bool.and_false]
    unfold bT at hd;simp only[Bool.and_eq_true,decide_eq_true_eq]at hd;clear hts H hmem
    by_cases d1:48≤s[k].toNat
    ·have d2:57<s[k].toNat:=by omega
     have d3:(57:Int)<(s[k].toNat:Int):=by omega
     have d4:¬(s[k].toNat:Int)<48:=by omega
     clear hd;go_wp2_with fail;go_ret;exact⟨bD F.out,rfl⟩
    ·have d3:(s[k].toNat:Int)<48:=by omega
     clear hd;go_wp2_with fail;go_ret;exact⟨bD F.out,rfl⟩
  ·have ek:k=s.size:=by omega
   have ht:s.data.toList.take k=s.data.toList:=List.take_of_length_le (by simp;omega)
   have F:Hid ((!s.toList.isEmpty)=fF s.data.toList):=by
    show _=_;rw[Lib.toList_data];unfold fF;have:=H.out;rw[ht]at this;rw[this,Bool.and_true]
   clear ht H;go_wp2_with fail;go_ret;exact⟨bD F.out,rfl⟩
theorem aBw (s:ByteArray)(w:World)(hs:s.size≤1048576) :
  Calls Tryz.prog 217 #[.string s] w fun e w'=>e=.returned (.tuple #[.int .i64 (rxV s.data.toList),.bool (vT s.data.toList)])∧w=w':=by
 have C1:=Hj (fun w=>iR s ⟨#[45]⟩ w);have C2:=Hj (fun w=>mO s ⟨#[43]⟩ w);obtain⟨t,ht⟩:∃t:ByteArray,t=⟨(rxD s.data.toList).toArray⟩:=⟨_,rfl⟩;have htd:t.data.toList=rxD s.data.toList:=by rw[ht]
 have hts:t.size≤s.size:=by
  rw[Lib.size_eq,Lib.size_eq,htd]
  have tp:∀p,(Lib.trimPrefix s.data.toList p).length≤s.data.toList.length:=fun p=>by
   unfold Lib.trimPrefix;split
   ·rw[List.length_drop];omega
   ·omega
  unfold rxD;split
  ·exact tp _
  ·exact tp _
 have D:=Hj (fun w=>kW t w (by omega));have VO:Hid (vT s.data.toList=fF t.data.toList):=by show _=_;rw[htd];rfl
 have VN:Hid (vT s.data.toList=false→rxV s.data.toList=0):=fun h=>by unfold rxV;rw[h];rfl
 have V0:Hid (vT s.data.toList=true→Lib.hasPrefix s.data.toList [45]=false→rxV s.data.toList=cQ t.data.toList):=fun h k=>by unfold rxV;rw[h,k,htd];rfl
 have V1:Hid (vT s.data.toList=true→Lib.hasPrefix s.data.toList [45]=true→rxV s.data.toList = -cQ t.data.toList):=fun h k=>by unfold rxV;rw[h,k,htd];rfl
 have T0:Hid (Lib.hasPrefix s.data.toList [45]=false→(⟨(Lib.trimPrefix s.data.toList [43]).toArray⟩:ByteArray)=t):=fun h=>by rw[ht];unfold rxD;rw[h];rfl
 have T1:Hid (Lib.hasPrefix s.data.toList [45]=true→(⟨(Lib.trimPrefix s.data.toList [45]).toArray⟩:ByteArray)=t):=fun h=>by rw[ht];unfold rxD;rw[h];rfl
 clear ht htd;generalize rxV s.data.toList=rv at *;generalize vT s.data.toList=ok at *;have C1':=C1.out;have C2':=C2.out;clear C1 C2;simp only at C1' C2'
 -- the loop's number
 have LOOP:Hid (∀k,k<t.size→fF t.data.toList=true→0≤cQ (t.data.toList.take k)∧cQ (t.data.toList.take k)≤1000∧cQ (t.data.toList.take (k+1))=min (cQ (t.data.toList.take k)*10+((t[k]!.toNat:Int)-48)) 1000∧48≤t[k]!.toNat∧t[k]!.toNat≤57):=by
  intro k hk hd;have al:=(gU hd).1;have b:=aCe _ (aIV al k);have ts:=iB t k hk;have gk:t[k]! = t[k]:=getElem!_pos t k hk
  have mem:t[k]∈t.data.toList:=by
   have:t[k]∈t.data.toList.take (k+1):=by rw[ts];simp
   exact List.mem_of_mem_take this
  have dk:=List.all_eq_true.1 al _ mem;unfold bT at dk;simp only[Bool.and_eq_true,decide_eq_true_eq]at dk;refine⟨b.1,b.2,?_,by rw[gk];exact dk.1,by rw[gk];exact dk.2⟩;rw[ts,gk];unfold cQ;rw[List.foldl_append];rfl
 have CT:Hid (cQ t.data.toList=cQ (t.data.toList.take t.size)):=by
  show _=_;rw[List.take_of_length_le (by rw[Lib.size_eq];omega)]
 have LS:t.size≤1048576:=by omega
 clear hts;obtain⟨t0,ht0⟩:∃t0:ByteArray,(⟨(Lib.trimPrefix s.data.toList [45]).toArray⟩:ByteArray)=t0:=⟨_,rfl⟩;obtain⟨t1,ht1⟩:∃t1:ByteArray,(⟨(Lib.trimPrefix s.data.toList [43]).toArray⟩:ByteArray)=t1:=⟨_,rfl⟩;rw[ht0]at C1' T1;rw[ht1]at C2' T0;clear ht0 ht1;have D':=D.out;clear D;have CC1:=Hj C1';have CC2:=Hj C2';have DD:=Hj D';clear C1' C2' D';generalize Lib.hasPrefix s.data.toList [45]=neg at *;have NIL:vT s.data.toList=vT s.data.toList:=rfl;clear NIL;cases ok
 ·obtain rfl:=VN.out rfl
  have HD:=VO.out;rw[←HD]at DD;clear LOOP CT V0 V1 VN VO HD;cases neg
  ·obtain rfl:=T0.out rfl
   clear T0 T1;go_enter Tryz.func217,Tryz.ntmps217;go_wp2_with fail;refine(CC1.out _).mono ?_;rintro e w1 ⟨rfl,rfl⟩;go_wp2_with fail;refine(CC2.out _).mono ?_;rintro e w1 ⟨rfl,rfl⟩;go_wp2_with fail;refine(DD.out _).mono ?_;rintro e w1 ⟨rfl,rfl⟩;go_wp2_with fail
   go_ret2
   exact⟨rfl,rfl⟩
  ·obtain rfl:=T1.out rfl
   clear T0 T1;go_enter Tryz.func217,Tryz.ntmps217;go_wp2_with fail;refine(CC1.out _).mono ?_;rintro e w1 ⟨rfl,rfl⟩;go_wp2_with fail;refine(DD.out _).mono ?_;rintro e w1 ⟨rfl,rfl⟩;go_wp2_with fail
   go_ret2
   exact⟨rfl,rfl⟩
 ·have HD:=VO.out
  rw[←HD]at DD;have LO:=Hj (fun k hk=>LOOP.out k hk HD.symm);clear LOOP VO HD VN;cases neg
  ·obtain rfl:=T0.out rfl
   obtain rfl:=V0.out rfl rfl;clear T0 T1 V0 V1;go_enter Tryz.func217,Tryz.ntmps217;go_wp2_with fail;refine(CC1.out _).mono ?_;rintro e w1 ⟨rfl,rfl⟩;go_wp2_with fail;refine(CC2.out _).mono ?_;rintro e w1 ⟨rfl,rfl⟩;go_wp2_with fail;refine(DD.out _).mono ?_;rintro e w1 ⟨rfl,rfl⟩;clear CC1 CC2 DD;go_wp2_with fail
   go_loop [6,22] (fun s6 s22=>∃k:Nat,s22=.int .i64 (k:Int)∧k≤t1.size∧s6=.int .i64 (cQ (t1.data.toList.take k))∧Hid (0≤cQ (t1.data.toList.take k)∧cQ (t1.data.toList.take k)≤1000)) (fun _ s22=>t1.size-(intOf s22).toNat)
   case atStart=>exact⟨0,rfl,Nat.zero_le _,rfl,by show _∧_;rw[List.take_zero];decide⟩
   obtain⟨k,rfl,hk,rfl,CB⟩:=hrel
   by_cases hlt:k<t1.size
   ·obtain⟨b0,b1,b2,b3,b4⟩:=LO.out k hlt
    obtain⟨x',hx'⟩:∃x',cQ (t1.data.toList.take (k+1))=x':=⟨_,rfl⟩;rw[hx']at b2;have B2:=Hj b2;have HX:=Hj hx';clear hx';have gk:t1[k]=t1[k]!:=(getElem!_pos t1 k hlt).symm;have B3:Hid (0≤x'∧x'≤1000):=by show _∧_;rw[b2];omega
    clear b2 CB;have hl1:(k:Int)<(t1.size:Int):=by omega
    generalize cQ (t1.data.toList.take k)=x at *;generalize t1[k]! = c at *;have d3:(48:Int)≤(c.toNat:Int):=by omega
    have d4:(c.toNat:Int)≤57:=by omega
    have e1:IntKind.u8.wrap ((c.toNat:Int)-48)=(c.toNat:Int)-48:=by rw[IntKind.wrap_u8];omega
    have e2:IntKind.i64.wrap ((c.toNat:Int)-48)=(c.toNat:Int)-48:=by rw[IntKind.wrap_i64];omega
    clear LO CT b3 b4;go_wp2_with fail
    go_round
    case rel=>exact⟨k+1,by go_num,by omega,by rw[HX.out,B2.out],by rw[HX.out];exact B3⟩
    case measure=>simp[intOf];omega
   ·obtain rfl:k=t1.size:=by omega
    have ce:=CT.out;clear LO CT;go_wp2_with fail
    go_ret2
    exact⟨rfl,rfl⟩
  ·obtain rfl:=T1.out rfl
   obtain rfl:=V1.out rfl rfl;clear T0 T1 V0 V1;go_enter Tryz.func217,Tryz.ntmps217;go_wp2_with fail;refine(CC1.out _).mono ?_;rintro e w1 ⟨rfl,rfl⟩;go_wp2_with fail;refine(DD.out _).mono ?_;rintro e w1 ⟨rfl,rfl⟩;clear CC1 CC2 DD;go_wp2_with fail
   go_loop [6,22] (fun s6 s22=>∃k:Nat,s22=.int .i64 (k:Int)∧k≤t0.size∧s6=.int .i64 (cQ (t0.data.toList.take k))∧Hid (0≤cQ (t0.data.toList.take k)∧cQ (t0.data.toList.take k)≤1000)) (fun _ s22=>t0.size-(intOf s22).toNat)
   case atStart=>exact⟨0,rfl,Nat.zero_le _,rfl,by show _∧_;rw[List.take_zero];decide⟩
   obtain⟨k,rfl,hk,rfl,CB⟩:=hrel
   by_cases hlt:k<t0.size
   ·obtain⟨b0,b1,b2,b3,b4⟩:=LO.out k hlt
    obtain⟨x',hx'⟩:∃x',cQ (t0.data.toList.take (k+1))=x':=⟨_,rfl⟩;rw[hx']at b2;have B2:=Hj b2;have HX:=Hj hx';clear hx';have gk:t0[k]=t0[k]!:=(getElem!_pos t0 k hlt).symm;have B3:Hid (0≤x'∧x'≤1000):=by show _∧_;rw[b2];omega
    clear b2 CB;have hl1:(k:Int)<(t0.size:Int):=by omega
    generalize cQ (t0.data.toList.take k)=x at *;generalize t0[k]! = c at *;have d3:(48:Int)≤(c.toNat:Int):=by omega
    have d4:(c.toNat:Int)≤57:=by omega
    have e1:IntKind.u8.wrap ((c.toNat:Int)-48)=(c.toNat:Int)-48:=by rw[IntKind.wrap_u8];omega
    have e2:IntKind.i64.wrap ((c.toNat:Int)-48)=(c.toNat:Int)-48:=by rw[IntKind.wrap_i64];omega
    clear LO CT b3 b4;go_wp2_with fail
    go_round
    case rel=>exact⟨k+1,by go_num,by omega,by rw[HX.out,B2.out],by rw[HX.out];exact B3⟩
    case measure=>simp[intOf];omega
   ·obtain rfl:k=t0.size:=by omega
    have ce:=CT.out;have cb:0≤cQ (t0.data.toList.take t0.size)∧cQ (t0.data.toList.take t0.size)≤1000:=CB.out;have CE:=Hj ce;clear LO CT ce CB;generalize cQ (t0.data.toList.take t0.size)=x at *;go_wp2_with fail
    go_ret2
    exact⟨by rw[CE.out];rfl,rfl⟩
theorem aFk {b n k K:Nat}(hb:b≤10)(hn:n≤3*k)(hk:10*k<K):((b:Int)) ^ n<2 ^ K:=by
 have h1:b ^ n≤10 ^ n:=Nat.pow_le_pow_left hb n;have h2:10 ^ n≤10 ^ (3*k):=Nat.pow_le_pow_right (by decide) hn
 have h3:10 ^ (3*k)≤2 ^ (10*k):=by
  rw[Nat.pow_mul,Nat.pow_mul];exact Nat.pow_le_pow_left (by decide) k
 have h4:2 ^ (10*k)<2 ^ K:=Nat.pow_lt_pow_right (by decide) hk;have h5:((b ^ n:Nat):Int)<((2 ^ K:Nat):Int):=Int.ofNat_lt.2 (by omega);rw[Int.natCast_pow,Int.natCast_pow]at h5;exact h5
theorem aHm {b n:Nat}(hb:b≤10)(hn:n≤3000):((b:Int)) ^ n<2 ^ 12000:=aFk (k:=1000) hb (by omega) (by decide)
theorem wY (b:Nat)(n:Int)(hb:2≤b)(hb':b≤10)(hn:n≤3000)(w:World) :
  Calls Tryz.prog 222 #[.int .u64 (b:Int),.int .i64 n] w (aAR (fun w v=>pQ w v ((b:Int) ^ (max n 0).toNat) 375) w):=by
 have B4:∃k:Nat,bB (b:Int)=(k:Int)∧k≤4:=by
  have:∀b:Fin 11,∃k:Nat,bB ((b.val:Nat):Int)=(k:Int)∧k≤4:=by
   intro b;refine⟨(bB ((b.val:Nat):Int)).toNat,?_,?_⟩
   ·rw[Int.toNat_of_nonneg (qZ _)]
   ·revert b;decide +kernel
  exact this ⟨b,by omega⟩
 obtain⟨k,hk,hk4⟩:=B4;have lt:(b:Int) ^ (max n 0).toNat<2 ^ 12000:=aHm hb' (by omega);have nn:0≤(b:Int) ^ (max n 0).toNat:=Int.pow_nonneg (by omega);have bl:bB ((b:Int) ^ (max n 0).toNat)≤12000:=jZ nn lt
 have P:=aFt (b:Int) n b (max n 0).toNat k rfl (by omega) (by omega) (by omega) hk (by
  rcases Nat.eq_zero_or_pos (max n 0).toNat with h|h
  ·exact .inl h
  ·refine .inr ⟨h,?_⟩
   have:3≤65535 / (max n 0).toNat:=(Nat.le_div_iff_mul_le h).2 (by omega)
   omega) w
 rw[aFl,aFm,if_pos (by omega),if_pos (by omega)]at P;have PP:=Hj P;clear P hk;generalize (b:Int) ^ (max n 0).toNat=v at *;go_enter Tryz.func222,Tryz.ntmps222;go_wp2_with fail;refine PP.out.mono ?_;rintro e w1 ⟨ws,A,m,c,i,hn',rfl,hc,hr,hb⟩;go_wp2_with fail;go_ret;exact⟨_,⟨A,m,c,ws,rfl,hn',hc,hr,i,by rw[←hn'];exact i.le lt⟩,rfl,hb⟩
def nrF (p q:Int):Int:=if p=0∨q=0 then 0 else rF 0 false (nX p q) (sX p q)
def jA (l:List UInt8)(e:Int):Int:=nrF (cX l*10 ^ (max e 0).toNat) (10 ^ (max (-e) 0).toNat)
theorem aHx {p q:Int}(hp:0≤p)(hq:0≤q):bC (nrF p q):=by
 unfold nrF;split
 ·exact⟨by decide,by decide⟩
 ·exact aJz (aEo hp (by omega))
theorem aFI {w:World}{x y:Value}{p q:Int}{L M:Nat}(h:hJ w x p L)(k:hJ w y q M)(hL:L≤65536)(hM:M≤65536):Calls Tryz.prog 220 #[.bool false,x,y,.int .u8 0] w fun e w'=>∃g,e=.returned (.tuple #[.int .u64 (nrF p q),.int .u8 g])∧Below w.heap.size w w':=by
 by_cases h0:p=0∨q=0
 ·unfold nrF
  rw[if_pos h0];exact(aFC h k false 0 hL hM h0).mono fun _ _ r=>⟨0,r⟩
 ·unfold nrF
  rw[if_neg h0];have:=h.nonneg;have:=k.nonneg;exact(aIg h k false 0 hL hM (by omega) (by omega)).mono fun _ _ r=>⟨_,r⟩
theorem aNF {W w1:World}{p0 p1:Addr}{a0 a1:Value}(hb:Below W.heap.size W w1)(h0:W.cell? p0=some a0)(h1:W.cell? p1=some a1) :
  w1.cell? p0=some a0∧w1.cell? p1=some a1:=
 ⟨(hb.cell (World.block_lt_of_cell? _ _ h0)).trans h0,(hb.cell (World.block_lt_of_cell? _ _ h1)).trans h1⟩
theorem aBL (s:ByteArray)(e:Int)(w:World)(hs:s.size≤2000)(hd:fF s.data.toList=true)(he:-3000≤e)(he':e≤3000) :
  Calls Tryz.prog 199 #[.agg #[.string s,.int .i64 e]] w fun x w'=>x=.returned (.int .u64 (jA s.data.toList e))∧Below w.heap.size w w':=by
 have P:=aDj s (w.alloc (.cells #[.string s,.int .i64 e] 254)) (by omega);rw[aHp,aHq,if_pos hd,if_pos hd]at P;have vb:=iN (gU hd).1
 have vlt:cX s.data.toList<2 ^ (32*250):=by
  have h1:(10:Int) ^ s.data.toList.length≤10 ^ 2000:=aDc _ _ (by rw[←Lib.size_eq];omega);have h2:(10:Int) ^ 2000<2 ^ (32*250):=by decide +kernel
  omega
 have N:Hid (jA s.data.toList e=nrF (cX s.data.toList*(10:Nat) ^ (max e 0).toNat) ((10:Nat) ^ (max (-e) 0).toNat)):=rfl;have VL:=Hj vlt;have PP:=Hj P;clear P hd vb vlt;generalize jA s.data.toList e=r at *;generalize cX s.data.toList=d at *;go_enter Tryz.func199,Tryz.ntmps199;go_wp2_with fail;refine PP.out.mono ?_;rintro x w1 ⟨ws,A,m,c,i,hn',rfl,hc,hr,hb1⟩;have n1:hJ w1 (.slice A m c) d 250:=(show pQ w1 (.slice A m c) d 250 from⟨A,m,c,ws,rfl,hn',hc,hr,i,by rw[←hn'];exact i.le VL.out⟩).v
 have c0:w1.cell? ⟨w.heap.size,0,none⟩=some (.string s):=by
  refine(hb1.cell (by simp)).trans ?_;rw[World.cell?_alloc_new];rfl
 have c1:w1.cell? ⟨w.heap.size,1,none⟩=some (.int .i64 e):=by
  refine(hb1.cell (by simp)).trans ?_;rw[World.cell?_alloc_new];rfl
 have HB1:=Hj (aG (aI (Below.refl _ _) _) hb1);clear hb1 hn' hc hr i ws PP VL;go_upto_region 2 with fail;have NEG:IntKind.i64.wrap (-e) = -e:=by rw[IntKind.wrap_i64];omega
 obtain⟨g,hg⟩:∃g,w.heap.size=g:=⟨_,rfl⟩;rw[hg]at c0 c1 ⊢;clear hg;have HK:Hid (∀w',Below w1.heap.size w1 w'→(w'.cell? ⟨g,0,none⟩=some (.string s)∧w'.cell? ⟨g,1,none⟩=some (.int .i64 e))):=fun w' hb=>aNF hb c0 c1;clear c0 c1;refine aL (S:=fun w'=>w'.cell? ⟨g,0,none⟩=some (.string s)∧w'.cell? ⟨g,1,none⟩=some (.int .i64 e)) _ [(0,true),(1,true),(2,true),(5,true),(6,true),(7,true),(3,false),(4,false),(8,false),(9,false),(10,true),(11,true),(12,true),(13,true),(14,true)] (by kernel_rfl) (by kernel_rfl) rfl (by kernel_rfl) (by kernel_rfl) (fun _ _ d _ _ h=>by cases d<;>exact h) (HK.out _ (aH (Below.refl _ _))) ?_
 iterate 6
  refine Walk.take (v:=?_) rfl (by rfl) ?_ ?_;rotate_left
  ·(intro w' hSw;(try dsimp only at hSw);go_simp<;>with_reducible rfl)
  try simp only[Act.put,aA,aC,aB]
 refine Walk.act rfl (by rfl) (fun K hK=>?_);go_simp;go_at_call 222;refine(wY 10 e (by decide) (by decide) he' w1.drew).mono ?_;rintro x t1 ⟨y1,m1,rfl,hh1⟩;have X1:Below w1.heap.size w1 t1:=aG (aH (Below.refl w1.heap.size w1)) hh1;obtain⟨A1,n1',c1',rfl⟩:=m1.v.form;refine hK.out _ _ (HK.out _ X1) ?_;clear hK K;try simp only[Act.put,aA,aC,aB]
 refine Walk.act rfl (by rfl) (fun K hK=>?_);go_simp;go_at_call 221;refine(aKP (w:=t1) (n1.below X1) m1.v (by decide) (by decide)).mono ?_;rintro x t2 ⟨y2,m2,rfl,hh2⟩;have X2:Below w1.heap.size w1 t2:=aG X1 hh2;obtain⟨A2,n2',c2',rfl⟩:=m2.v.form;refine hK.out _ _ (HK.out _ X2) ?_;clear hK K;try simp only[Act.put,aA,aC,aB]
 refine Walk.act rfl (by rfl) (fun K hK=>?_);go_simp;go_at_call 222;refine(wY 10 (-e) (by decide) (by decide) (by omega) t2).mono ?_;rintro x t3 ⟨y3,m3,rfl,hh3⟩;have X3:Below w1.heap.size w1 t3:=aG X2 hh3;obtain⟨A3,n3',c3',rfl⟩:=m3.v.form;refine hK.out _ _ (HK.out _ X3) ?_;clear hK K;try simp only[Act.put,aA,aC,aB]
 refine Walk.act rfl (by rfl) (fun K hK=>?_);go_simp;go_at_call 220;refine(aFI (w:=t3) (m2.v.below hh3) m3.v (by decide) (by decide)).mono ?_;rintro x t4 ⟨g4,rfl,hh4⟩;have X4:Below w1.heap.size w1 t4:=aG X3 hh4;refine hK.out _ _ (HK.out _ X4) ?_;clear hK K
 iterate 5
  try simp only[Act.put,aA,aC,aB]
  refine Walk.take (v:=?_) rfl (by rfl) ?_ ?_;rotate_left
  ·(intro w' hSw;(try dsimp only at hSw);go_simp<;>with_reducible rfl)
 try simp only[Act.put,aA,aC,aB]
 refine Walk.done ?_;clear HK;have HB9:=Hj (aG HB1.out X4);clear X1 X2 X3 X4 HB1;go_wp2_with fail;go_ret;exact⟨by rw[N.out];rfl,HB9.out⟩
def aEP (s:ByteArray):Prop:=∀(j:Nat) (b:UInt8),s.data.toList[j]? = some b→b.toNat<128
theorem aHV (cs:List UInt8):∀l:List UInt8,Lib.indexAny l cs<l.length
 | []=>by unfold Lib.indexAny;simp
 | b::l=>by
  have:=aHV cs l;unfold Lib.indexAny;split
  ·simp only[List.length_cons];omega
  ·split
   iterate 2
    ·simp only[List.length_cons];omega
theorem aLz (l:List UInt8):-1≤rdI l∧rdI l<l.length:=⟨Lib.indexAny_ge _ _,aHV _ _⟩
theorem sN (s:ByteArray)(k:Nat):(s.extract 0 k).data.toList=s.data.toList.take k:=by
 have:=Lib.extract_toList s 0 k;rw[Lib.toList_data]at this;rw[this]
 simp
theorem wW (s:ByteArray)(k:Nat):(s.extract k s.size).data.toList=s.data.toList.drop k:=by
 have:=Lib.extract_toList s k s.size;rw[Lib.toList_data]at this;rw[this,List.take_of_length_le (by rw[List.length_drop,Lib.size_eq];exact aD _)]
theorem aEI (l p:List UInt8):(Lib.cut l p).1.length≤l.length∧(Lib.cut l p).2.1.length≤l.length:=by
 unfold Lib.cut;split
 ·simp only[List.length_take,List.length_drop];omega
 ·simp
theorem aGP (s:ByteArray)(w:World)(hs:s.size≤400)(ha:aEP s)(hE:EnvOk w) :
  Calls Tryz.prog 198 #[.string s] w fun x w'=>x=.returned (.tuple #[.agg #[.string ⟨(if tZ s.data.toList then rdD s.data.toList else[]).toArray⟩,.int .i64 (if tZ s.data.toList then rdE s.data.toList else 0)],.bool (tZ s.data.toList)])∧Below w.heap.size w w':=by
 have CI:=Hj fun w=>kQ s ⟨#[101,69]⟩ w (by omega) (by decide) ha (fun j b h=>by
  have:b∈([101,69]:List UInt8):=List.mem_of_getElem? h
  simp at this
  rcases this with rfl|rfl<;>decide)
 obtain⟨i0,i1⟩:=aLz s.data.toList;rw[←Lib.size_eq]at i1;obtain⟨t,ht⟩:∃t:ByteArray,t=⟨(rdS s.data.toList).toArray⟩:=⟨_,rfl⟩;obtain⟨W,hW⟩:∃t:ByteArray,t=⟨(rdC s.data.toList).1.toArray⟩:=⟨_,rfl⟩;obtain⟨F,hF⟩:∃t:ByteArray,t=⟨(rdC s.data.toList).2.1.toArray⟩:=⟨_,rfl⟩;have dW:W.data.toList=(rdC s.data.toList).1:=by rw[hW]
 have dF:F.data.toList=(rdC s.data.toList).2.1:=by rw[hF]
 have ls:(rdS s.data.toList).length≤s.size:=by
  rw[Lib.size_eq];unfold rdS;split
  ·rw[List.length_take];omega
  ·omega
 have lc:=aEI (rdS s.data.toList) [46];have lt:t.size≤400:=by rw[ht,aBk];omega
 have lW:W.size≤400:=by rw[Lib.size_eq,dW];unfold rdC;omega
 have lF:F.size≤400:=by rw[Lib.size_eq,dF];unfold rdC;omega
 have CC:Hid (∀(w:World) m,w.cell? ⟨2,0,none⟩=some (.int .i64 m)→Calls Tryz.prog 116 #[.string t,.string ⟨#[46]⟩] w fun e w'=>e=.returned (.tuple #[.string W,.string F,.bool (rdC s.data.toList).2.2])∧∃n,w'=w.drewN n):=by
  intro w m hm;have:=mW t ⟨#[46]⟩ m w (by omega) hm;rw[ht,aBl]at this;rw[ht,hW,hF];exact this
 have D1:Hid (∀w,Calls Tryz.prog 218 #[.string W] w fun e w'=>e=.returned (.bool (fF (rdC s.data.toList).1))∧w=w'):=by
  intro w;rw[←dW];exact kW W w (by omega)
 have D2:Hid (∀w,Calls Tryz.prog 218 #[.string F] w fun e w'=>e=.returned (.bool (fF (rdC s.data.toList).2.1))∧w=w'):=by
  intro w;rw[←dF];exact kW F w (by omega)
 have OK:Hid (tZ s.data.toList=(aBx s.data.toList && (fF (rdC s.data.toList).1 && (!(rdC s.data.toList).2.2 || fF (rdC s.data.toList).2.1)))):=rfl
 have RD:Hid ((⟨(rdD s.data.toList).toArray⟩:ByteArray)=W++F):=by
  show _=_;refine(aAe ?_).symm;unfold rdD;rw[←dW,←dF]
  simp
 have RE:Hid (rdE s.data.toList=rdP s.data.toList-F.size):=by
  show _=_;rw[Lib.size_eq,dF];rfl
 have PB:=aGT s.data.toList
 have T0:Hid (∀k:Nat,rdI s.data.toList=(k:Int)→s.extract 0 k=t):=by
  intro k hk;rw[ht];refine aAe ?_;rw[sN];unfold rdS;rw[hk,if_pos (by omega)];rfl
 have T1:Hid (rdI s.data.toList<0→s=t∧rdP s.data.toList=0∧aBx s.data.toList=true):=by
  intro h;refine⟨?_,?_,?_⟩
  ·rw[ht]
   refine aAe ?_;unfold rdS;rw[if_neg (by omega)]
  ·unfold rdP
   rw[if_neg (by omega)]
  ·unfold aBx
   rw[decide_eq_true h];rfl
 have XP:Hid (∀k:Nat,rdI s.data.toList=(k:Int)→∀w,Calls Tryz.prog 217 #[.string (s.extract (k+1) s.size)] w fun e w'=>e=.returned (.tuple #[.int .i64 (rdP s.data.toList),.bool (aBx s.data.toList)])∧w=w'):=by
  intro k hk w
  have e1:(s.extract (k+1) s.size).data.toList=rdX s.data.toList:=by
   rw[wW];unfold rdX;rw[hk];rfl
  have:=aBw (s.extract (k+1) s.size) w (by rw[Lib.size_eq,wW,List.length_drop,←Lib.size_eq];omega);rw[e1]at this;have e2:rdP s.data.toList=rxV (rdX s.data.toList):=by unfold rdP;rw[hk,if_pos (by omega)]
  have e3:aBx s.data.toList=vT (rdX s.data.toList):=by unfold aBx;rw[hk,decide_eq_false (by omega)];rfl
  rw[e2,e3];exact this
 have CI':Hid (∀w,Calls Tryz.prog 216 #[.string s,.string ⟨#[101,69]⟩] w fun e w'=>e=.returned (.int .i64 (rdI s.data.toList))∧Below w.heap.size w w'):=CI.out;clear CI ht hW hF dW dF ls lc ha;generalize rdI s.data.toList=i at *;generalize rdP s.data.toList=p at *;generalize aBx s.data.toList=xk at *;generalize fF (rdC s.data.toList).1=d1 at *;generalize fF (rdC s.data.toList).2.1=d2 at *;generalize (rdC s.data.toList).2.2=pt at *;generalize rdE s.data.toList=re at *;generalize rdD s.data.toList=rd at *;generalize tZ s.data.toList=ok at *;go_enter Tryz.func198,Tryz.ntmps198;go_wp2_with fail;refine(CI'.out _).mono ?_;rintro x w1 ⟨rfl,hb1⟩;have K1:=Blk.made hb1;have HE1:=Hj (hE.below (aG (aI (Below.refl _ _) _) hb1));have HB1:=Hj (aG (aI (Below.refl _ _) _) hb1);clear hb1 CI' hE
 by_cases h0:0≤i
 ·obtain⟨k,rfl⟩:∃k:Nat,i=(k:Int):=⟨i.toNat,by omega⟩
  have X:=Hj (XP.out k rfl);have T:=T0.out k rfl;clear XP T0 T1;go_wp2_with fail;refine(X.out _).mono ?_;rintro x w2 ⟨rfl,rfl⟩;clear X;cases xk
  ·obtain rfl:ok=false:=OK.out.trans rfl
   obtain⟨c0,c1,f0,f1⟩:=K1.two;go_wp2_with fail;have K2:=K1.put2 (.string ⟨#[]⟩) (.int .i64 0);have HB2:=Hj (gY HB1.out (aD _) (.string ⟨#[]⟩) (.int .i64 0));unfold mM at K2 HB2;obtain⟨q0,q1, -, -⟩:=K2.two;exact bodyPost_ret (by simp[results,Tryz.results198,go_sem,q0,q1];(try rfl)) rfl ⟨rfl,HB2.out⟩
  ·go_wp2_with fail
   obtain⟨m,hm⟩:=HE1.out.len;refine(CC.out _ m hm).mono ?_;rintro x w3 ⟨rfl,nd,hw3⟩;have hb3:Below w1.heap.size w1 w3:=by rw[hw3];exact nO w1 nd
   have K3:=K1.below hb3 K1.lt;have HB3:=Hj (aG HB1.out hb3);clear hw3 hb3 K1 HB1 hm CC;obtain⟨c0,c1,f0,f1⟩:=K3.two;have o:=OK.out;cases d1
   ·obtain rfl:ok=false:=o.trans rfl
    clear o OK;go_wp2_with fail;refine(D1.out _).mono ?_;rintro x w4 ⟨rfl,rfl⟩;go_wp2_with fail;have K4:=K3.put2 (.string ⟨#[]⟩) (.int .i64 0);have HB4:=Hj (gY HB3.out (aD _) (.string ⟨#[]⟩) (.int .i64 0));unfold mM at K4 HB4;obtain⟨q0,q1, -, -⟩:=K4.two;exact bodyPost_ret (by simp[results,Tryz.results198,go_sem,q0,q1];(try rfl)) rfl ⟨rfl,HB4.out⟩
   ·cases pt
    ·obtain rfl:ok=true:=o.trans rfl
     clear o OK;have ov:IntKind.i64.wrap (p-(F.size:Int))=p-F.size:=by rw[IntKind.wrap_i64];omega
     go_wp2_with fail;refine(D1.out _).mono ?_;rintro x w4 ⟨rfl,rfl⟩;go_wp2_with fail;have K4:=K3.put2 (.string (W++F)) (.int .i64 (p-F.size));have HB4:=Hj (gY HB3.out (aD _) (.string (W++F)) (.int .i64 (p-F.size)));unfold mM at K4 HB4;obtain⟨q0,q1, -, -⟩:=K4.two;refine bodyPost_ret (by simp[results,Tryz.results198,go_sem,q0,q1];(try rfl)) rfl ⟨?_,HB4.out⟩;rw[RD.out,RE.out]
    ·cases d2
     ·obtain rfl:ok=false:=o.trans rfl
      clear o OK;go_wp2_with fail;refine(D1.out _).mono ?_;rintro x w4 ⟨rfl,rfl⟩;go_wp2_with fail;refine(D2.out _).mono ?_;rintro x w4 ⟨rfl,rfl⟩;go_wp2_with fail;have K4:=K3.put2 (.string ⟨#[]⟩) (.int .i64 0);have HB4:=Hj (gY HB3.out (aD _) (.string ⟨#[]⟩) (.int .i64 0));unfold mM at K4 HB4;obtain⟨q0,q1, -, -⟩:=K4.two;exact bodyPost_ret (by simp[results,Tryz.results198,go_sem,q0,q1];(try rfl)) rfl ⟨rfl,HB4.out⟩
     ·obtain rfl:ok=true:=o.trans rfl
      clear o OK;have ov:IntKind.i64.wrap (p-(F.size:Int))=p-F.size:=by rw[IntKind.wrap_i64];omega
      go_wp2_with fail;refine(D1.out _).mono ?_;rintro x w4 ⟨rfl,rfl⟩;go_wp2_with fail;refine(D2.out _).mono ?_;rintro x w4 ⟨rfl,rfl⟩;go_wp2_with fail;have K4:=K3.put2 (.string (W++F)) (.int .i64 (p-F.size));have HB4:=Hj (gY HB3.out (aD _) (.string (W++F)) (.int .i64 (p-F.size)));unfold mM at K4 HB4;obtain⟨q0,q1, -, -⟩:=K4.two;refine bodyPost_ret (by simp[results,Tryz.results198,go_sem,q0,q1];(try rfl)) rfl ⟨?_,HB4.out⟩;rw[RD.out,RE.out]
 ·obtain⟨rfl,rfl,rfl⟩:=T1.out (by omega)
  clear XP T0 T1;go_wp2_with fail;obtain⟨m,hm⟩:=HE1.out.len;refine(CC.out _ m hm).mono ?_;rintro x w3 ⟨rfl,nd,hw3⟩;have hb3:Below w1.heap.size w1 w3:=by rw[hw3];exact nO w1 nd
  have K3:=K1.below hb3 K1.lt;have HB3:=Hj (aG HB1.out hb3);clear hw3 hb3 K1 HB1 hm CC;obtain⟨c0,c1,f0,f1⟩:=K3.two;have o:=OK.out;cases d1
  ·obtain rfl:ok=false:=o.trans rfl
   clear o OK;go_wp2_with fail;refine(D1.out _).mono ?_;rintro x w4 ⟨rfl,rfl⟩;go_wp2_with fail;have K4:=K3.put2 (.string ⟨#[]⟩) (.int .i64 0);have HB4:=Hj (gY HB3.out (aD _) (.string ⟨#[]⟩) (.int .i64 0));unfold mM at K4 HB4;obtain⟨q0,q1, -, -⟩:=K4.two;exact bodyPost_ret (by simp[results,Tryz.results198,go_sem,q0,q1];(try rfl)) rfl ⟨rfl,HB4.out⟩
  ·cases pt
   ·obtain rfl:ok=true:=o.trans rfl
    clear o OK;have ov:IntKind.i64.wrap (0-(F.size:Int))=0-F.size:=by rw[IntKind.wrap_i64];omega
    go_wp2_with fail;refine(D1.out _).mono ?_;rintro x w4 ⟨rfl,rfl⟩;go_wp2_with fail;have K4:=K3.put2 (.string (W++F)) (.int .i64 (-F.size));have HB4:=Hj (gY HB3.out (aD _) (.string (W++F)) (.int .i64 (-F.size)));unfold mM at K4 HB4;obtain⟨q0,q1, -, -⟩:=K4.two;refine bodyPost_ret (by simp[results,Tryz.results198,go_sem,q0,q1];(try rfl)) rfl ⟨?_,HB4.out⟩;rw[RD.out,RE.out,Int.zero_sub]
   ·cases d2
    ·obtain rfl:ok=false:=o.trans rfl
     clear o OK;go_wp2_with fail;refine(D1.out _).mono ?_;rintro x w4 ⟨rfl,rfl⟩;go_wp2_with fail;refine(D2.out _).mono ?_;rintro x w4 ⟨rfl,rfl⟩;go_wp2_with fail;have K4:=K3.put2 (.string ⟨#[]⟩) (.int .i64 0);have HB4:=Hj (gY HB3.out (aD _) (.string ⟨#[]⟩) (.int .i64 0));unfold mM at K4 HB4;obtain⟨q0,q1, -, -⟩:=K4.two;exact bodyPost_ret (by simp[results,Tryz.results198,go_sem,q0,q1];(try rfl)) rfl ⟨rfl,HB4.out⟩
    ·obtain rfl:ok=true:=o.trans rfl
     clear o OK;have ov:IntKind.i64.wrap (0-(F.size:Int))=0-F.size:=by rw[IntKind.wrap_i64];omega
     go_wp2_with fail;refine(D1.out _).mono ?_;rintro x w4 ⟨rfl,rfl⟩;go_wp2_with fail;refine(D2.out _).mono ?_;rintro x w4 ⟨rfl,rfl⟩;go_wp2_with fail;have K4:=K3.put2 (.string (W++F)) (.int .i64 (-F.size));have HB4:=Hj (gY HB3.out (aD _) (.string (W++F)) (.int .i64 (-F.size)));unfold mM at K4 HB4;obtain⟨q0,q1, -, -⟩:=K4.two;refine bodyPost_ret (by simp[results,Tryz.results198,go_sem,q0,q1];(try rfl)) rfl ⟨?_,HB4.out⟩;rw[RD.out,RE.out,Int.zero_sub]
def psE (l:List UInt8):Int:=if 400<l.length then 81 else if tZ l then(if fC (jA (rdD l) (rdE l))=3 then 82 else 0)else 80
def psF (l:List UInt8):Int:=if psE l=0 then jA (rdD l) (rdE l)else 0
theorem aLy (l:List UInt8):(rdD l).length≤2*l.length∧((rdC l).2.1).length≤l.length:=by
 have h:=aEI (rdS l) [46]
 have hs:(rdS l).length≤l.length:=by
  unfold rdS;split
  ·rw[List.length_take];omega
  ·omega
 unfold rdD rdC;rw[List.length_append];omega
theorem aFu (d:List UInt8)(e:Int)(hd:fF d=true):bC (jA d e):=
 aHx (Int.mul_nonneg (iN (gU hd).1).1 (Int.pow_nonneg (by decide))) (Int.pow_nonneg (by decide))
theorem aFo (s:ByteArray)(w:World)(hs:s.size≤1048576)(ha:aEP s)(hE:EnvOk w) :
  Calls Tryz.prog 173 #[.string s] w fun x w'=>x=.returned (.tuple #[.int .u64 (psF s.data.toList),.int .i64 (psE s.data.toList)])∧Below w.heap.size w w':=by
 by_cases hl:400<s.size
 ·have hl':(400:Int)<(s.size:Int):=by omega
  have pe:psE s.data.toList=81:=by unfold psE;rw[←Lib.size_eq,if_pos hl]
  have pf:psF s.data.toList=0:=by unfold psF;rw[pe];rfl
  rw[pe,pf];go_enter Tryz.func173,Tryz.ntmps173;go_wp2_with fail
  go_ret2
  exact⟨rfl,Below.refl _ _⟩
 ·have hl':¬(400:Int)<(s.size:Int):=by omega
  have R:=Hj fun w hE=>aGP s w (by omega) ha hE;have PE:psE s.data.toList=if tZ s.data.toList then(if fC (jA (rdD s.data.toList) (rdE s.data.toList))=3 then 82 else 0)else 80:=by unfold psE;rw[←Lib.size_eq,if_neg hl]
  have PF:psF s.data.toList=if psE s.data.toList=0 then jA (rdD s.data.toList) (rdE s.data.toList)else 0:=rfl
  have lens:=aLy s.data.toList;rw[←Lib.size_eq]at lens;have pb:=aGT s.data.toList;have eb:-3000≤rdE s.data.toList∧rdE s.data.toList≤3000:=by unfold rdE;omega
  by_cases ok:tZ s.data.toList=true
  ·have dg:=aEc ok
   have NW:=aFu (rdD s.data.toList) (rdE s.data.toList) dg;have NR:=Hj fun w=>aBL ⟨(rdD s.data.toList).toArray⟩ (rdE s.data.toList) w (by rw[aBk];omega) (by rw[aBl];exact dg) eb.1 eb.2;rw[if_pos ok]at PE;rw[ok]at R;have R':Hid (∀w,EnvOk w→Calls Tryz.prog 198 #[.string s] w fun x w'=>x=.returned (.tuple #[.agg #[.string ⟨(rdD s.data.toList).toArray⟩,.int .i64 (rdE s.data.toList)],.bool true])∧Below w.heap.size w w'):=R.out;have NR':Hid (∀w,Calls Tryz.prog 199 #[.agg #[.string ⟨(rdD s.data.toList).toArray⟩,.int .i64 (rdE s.data.toList)]] w fun x w'=>x=.returned (.int .u64 (jA (rdD s.data.toList) (rdE s.data.toList)))∧Below w.heap.size w w'):=NR.out;clear R NR lens pb eb dg ok ha;generalize jA (rdD s.data.toList) (rdE s.data.toList)=f at *;have CL:=Hj fun w=>sQ f NW w;generalize (⟨(rdD s.data.toList).toArray⟩:ByteArray)=d at *;generalize rdE s.data.toList=e at *;have HPE:=Hj PE;have HPF:=Hj PF;clear PE PF;generalize psE s.data.toList=pe at *;generalize psF s.data.toList=pf at *;go_enter Tryz.func173,Tryz.ntmps173;go_wp2_with fail;refine(R'.out _ hE).mono ?_;rintro x w1 ⟨rfl,hb1⟩;have HB1:=Hj (aI hb1 (.cells #[.string d,.int .i64 e] 254));clear hb1
   go_wp2_with fail;refine(NR'.out _).mono ?_;rintro x w2 ⟨rfl,hb2⟩;have HB2:=Hj (aG HB1.out hb2);clear hb2 HB1;go_wp2_with fail;refine(CL.out _).mono ?_;rintro x w3 ⟨rfl,rfl⟩;clear CL R' NR'
   by_cases h3:fC f=3
   ·have e1:pe=82:=by have:=HPE.out;rw[if_pos h3]at this;exact this
    have e2:pf=0:=by have:=HPF.out;rw[e1]at this;exact this
    subst e1 e2;have hc:(fC f == 3)=true:=by simp[h3]
    clear HPE HPF h3;go_wp2_with fail
    go_ret2
    exact⟨rfl,HB2.out⟩
   ·have e1:pe=0:=by have:=HPE.out;rw[if_neg h3]at this;exact this
    have e2:pf=f:=by have:=HPF.out;rw[e1]at this;exact this
    subst e1 e2;have hc:(fC pf == 3)=false:=by simp[h3]
    clear HPE HPF h3;go_wp2_with fail
    go_ret2
    exact⟨rfl,HB2.out⟩
  ·have ok':tZ s.data.toList=false:=by simpa using ok
   rw[if_neg ok]at PE;rw[PE]at PF;rw[ok']at R;have R':Hid (∀w,EnvOk w→Calls Tryz.prog 198 #[.string s] w fun x w'=>x=.returned (.tuple #[.agg #[.string ⟨#[]⟩,.int .i64 0],.bool false])∧Below w.heap.size w w'):=R.out;have pf:psF s.data.toList=0:=PF;rw[PE,pf];clear R PE PF pf lens pb eb ok ok' ha;go_enter Tryz.func173,Tryz.ntmps173;go_wp2_with fail;refine(R'.out _ hE).mono ?_;rintro x w1 ⟨rfl,hb1⟩;have HB1:=Hj (aI hb1 (.cells #[.string ⟨#[]⟩,.int .i64 0] 254));clear hb1;go_wp2_with fail
   go_ret2
   exact⟨rfl,HB1.out⟩
end Go.Proofs.YtkbicfffokegeaaGreatDoor
