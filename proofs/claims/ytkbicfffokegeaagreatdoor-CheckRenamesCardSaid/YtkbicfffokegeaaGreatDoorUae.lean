/-
  Layer 12's checks answer true, whatever program is handed in. (part 5 of 35) Conditions: none beside what the card ties.
-/
import Derived.Test.YtkbicfffokegeaaGreatDoorUad
import Derived.Test.YtkbicfffokegeaaGreatDoorUaa
import Derived.Maps.AppendAt
import Derived.WalkSmall
import Derived.Deep.AppendLies
namespace Go.Proofs.YtkbicfffokegeaaGreatDoor
set_option maxHeartbeats 16000000
open Go.RowKit
def car32 (s:Int):Int:=s / 4294967296
def low32 (s:Int):Int:=s % 4294967296
def bor32 (x y:Int):Int:=if x<y then 1 else 0
theorem w32_low (s:Int):W32 (low32 s):=⟨by unfold low32;omega,by unfold low32;omega⟩
theorem car_low (s:Int):car32 s*4294967296+low32 s=s:=by unfold car32 low32;omega
theorem car_le {x y c:Int}(hx:W32 x)(hy:W32 y)(hc:c≤1):car32 (x+y+c)≤1:=by
 have:=hx.2;have:=hy.2;unfold car32;omega
theorem car_ge {x y c:Int}(hx:W32 x)(hy:W32 y)(hc0:0≤c):0≤car32 (x+y+c):=by
 have:=hx.1;have:=hy.1;unfold car32;omega
theorem bor32_ge (x y:Int):0≤bor32 x y:=by unfold bor32;split<;>decide
theorem bor32_le (x y:Int):bor32 x y≤1:=by unfold bor32;split<;>decide
theorem bor32_low {x y:Int}(hx:W32 x)(hy0:0≤y)(hy1:y≤4294967296):low32 (x-y)=x-y+bor32 x y*4294967296:=by
 obtain⟨_,_⟩:=hx;unfold bor32 low32
 split<;>omega
theorem add32 (x y c:Int)(hx:W32 x)(hy:W32 y)(hc0:0≤c)(hc:c≤1)(w:World) :
  Calls Tryz.prog 279 #[.int .u32 x,.int .u32 y,.int .u32 c] w fun e w'=>e=.returned (.tuple #[.int .u32 (low32 (x+y+c)),.int .u32 (car32 (x+y+c))])∧w=w':=by
 obtain⟨x0,x1⟩:=hx;obtain⟨y0,y1⟩:=hy;go_enter Tryz.func279,Tryz.ntmps279
 go_wp2
 go_ret2
 exact⟨rfl,rfl⟩
theorem top_bit (n:Nat)(h:n<4294967296):n.testBit 31=decide (2147483648≤n):=by
 rw[Nat.testBit_eq_decide_div_mod_eq,Bool.eq_iff_iff];simp only[decide_eq_true_eq];have e:(2:Nat) ^ 31=2147483648:=by decide
 rw[e];omega
theorem top_div (n:Nat)(h:n<4294967296):n / 2147483648=if n.testBit 31 then 1 else 0:=by
 rw[top_bit n h]
 by_cases hn:2147483648≤n
 iterate 2
  ·simp[hn];omega
theorem sub_top (x y b:Int)(hx:W32 x)(hy:W32 y)(hb0:0≤b)(hb:b≤1) :
  bits BinOp.or IntKind.u32 (bits BinOp.and IntKind.u32 (bits BinOp.xor IntKind.u32 IntKind.u32.max x) y) (bits BinOp.and IntKind.u32 (bits BinOp.xor IntKind.u32 IntKind.u32.max (bits BinOp.xor IntKind.u32 x y)) ((x-y-b) % 4294967296)) / 2147483648=bor32 x (y+b):=by
 obtain⟨x0,x1⟩:=hx;obtain⟨y0,y1⟩:=hy;obtain⟨x,rfl⟩:=Int.eq_ofNat_of_zero_le x0;obtain⟨y,rfl⟩:=Int.eq_ofNat_of_zero_le y0;obtain⟨D,hD⟩:=Int.eq_ofNat_of_zero_le (show 0≤((x:Int) - y - b) % 4294967296 by omega);have em:IntKind.u32.max=((4294967295:Nat):Int):=by decide
 have lx:x<2 ^ 32:=by omega
 have ly:y<2 ^ 32:=by omega
 have lD:D<2 ^ 32:=by omega
 have lm:4294967295<2 ^ 32:=by decide
 have l1:=Nat.xor_lt_two_pow lm lx;have l2:=Nat.and_lt_two_pow (4294967295 ^^^ x) ly;have l3:=Nat.xor_lt_two_pow lx ly;have l4:=Nat.xor_lt_two_pow lm l3;have l5:=Nat.and_lt_two_pow (4294967295 ^^^ (x ^^^ y)) lD;have l6:=Nat.or_lt_two_pow l2 l5;rw[hD,em,u32_xor_nat _ _ lm lx,u32_and_nat _ _ l1 ly,u32_xor_nat _ _ lx ly,u32_xor_nat _ _ lm l3,u32_and_nat _ _ l4 lD,u32_or_nat _ _ l2 l5];have e:=top_div _ l6;have ee:((((4294967295 ^^^ x) &&& y ||| (4294967295 ^^^ (x ^^^ y)) &&& D):Nat):Int) / 2147483648=((((4294967295 ^^^ x) &&& y ||| (4294967295 ^^^ (x ^^^ y)) &&& D) / 2147483648:Nat):Int):=by omega
 rw[ee,e,Nat.testBit_or,Nat.testBit_and,Nat.testBit_and,Nat.testBit_xor,Nat.testBit_xor,Nat.testBit_xor,top_bit x lx,top_bit y ly,top_bit D lD,show Nat.testBit 4294967295 31=true by decide];unfold bor32
 by_cases h1:2147483648≤x<;>by_cases h2:2147483648≤y<;>by_cases h3:2147483648≤D<;>simp[h1,h2,h3]<;>omega
theorem sub32 (x y b:Int)(hx:W32 x)(hy:W32 y)(hb0:0≤b)(hb:b≤1)(w:World) :
  Calls Tryz.prog 278 #[.int .u32 x,.int .u32 y,.int .u32 b] w fun e w'=>e=.returned (.tuple #[.int .u32 (low32 (x-(y+b))),.int .u32 (bor32 x (y+b))])∧w=w':=by
 have F:=Hj (sub_top x y b hx hy hb0 hb);obtain⟨x0,x1⟩:=hx;obtain⟨y0,y1⟩:=hy;go_enter Tryz.func278,Tryz.ntmps278
 go_wp2
 rw[F.out]
 go_ret2
 refine⟨?_,rfl⟩;have e:(x-y-b) % 4294967296=low32 (x-(y+b)):=by unfold low32;omega
 rw[←e];rfl
theorem len32 (x:Int)(h:W32 x)(w:World):Calls Tryz.prog 247 #[.int .u32 x] w fun e w'=>e=.returned (.int .i64 (Lib.bitLen x.toNat))∧w=w':=
 len32b x w h.1 (by have:=h.2;omega)
theorem len64 (x:Int)(h:Word x)(w:World):Calls Tryz.prog 182 #[.int .u64 x] w fun e w'=>e=.returned (.int .i64 (Lib.bitLen x.toNat))∧w=w':=
 len64b x w h.1 (by have:=h.2;omega)
theorem or_hi (h l:Int)(hh:W32 h)(hl:W32 l):bits BinOp.or IntKind.u64 (h*4294967296) l=h*4294967296+l:=by
 obtain⟨x0,x1⟩:=hh;obtain⟨y0,y1⟩:=hl;obtain⟨x,rfl⟩:=Int.eq_ofNat_of_zero_le x0;obtain⟨y,rfl⟩:=Int.eq_ofNat_of_zero_le y0
 have e:(x:Int)*4294967296=((2 ^ 32*x:Nat):Int):=by
  rw[show(2:Nat) ^ 32=4294967296 by decide];omega
 have ly:y<2 ^ 32:=by omega
 rw[e,bits_or_u64_nat _ _ (by omega) (by omega),←Nat.two_pow_add_eq_or_of_lt ly,Int.natCast_add]
def IsDiv32 (h l d:Int)(w:World)(e:Ending)(w':World):Prop:=
 ∃q r:Int,W32 q∧W32 r∧r<d∧q*d+r=h*4294967296+l∧e=.returned (.tuple #[.int .u32 q,.int .u32 r])∧Below w.heap.size w w'
theorem div32_eq {h l d:Int}(hh:W32 h)(hl:W32 l)(hd:W32 d)(hlt:h<d):W32 ((h*4294967296+l) / d)∧W32 ((h*4294967296+l) % d)∧(h*4294967296+l) % d<d∧(h*4294967296+l) / d*d+(h*4294967296+l) % d=h*4294967296+l:=by
 obtain⟨x0,x1⟩:=hh;obtain⟨y0,y1⟩:=hl;obtain⟨z0,z1⟩:=hd;have hp:0<d:=by omega
 have r0:=Int.emod_nonneg (h*4294967296+l) (Int.ne_of_gt hp);have r1:=Int.emod_lt_of_pos (h*4294967296+l) hp;have e:=Int.ediv_mul_add_emod (h*4294967296+l) d;refine⟨⟨Int.ediv_nonneg (by omega) (by omega),?_⟩,⟨r0,by omega⟩,r1,e⟩;rw[Int.ediv_lt_iff_lt_mul hp];have:(h+1)*4294967296≤d*4294967296:=by omega
 omega
theorem div32 (h l d:Int)(hh:W32 h)(hl:W32 l)(hd:W32 d)(hlt:h<d)(w:World) :
  Calls Tryz.prog 259 #[.int .u32 h,.int .u32 l,.int .u32 d] w (IsDiv32 h l d w):=by
 have hor:=or_hi h l hh hl;obtain⟨F1,F2,F3,F4⟩:=div32_eq hh hl hd hlt;have G1:=F1.1;have G2:=F1.2;have G3:=F2.1;have G4:=F2.2;obtain⟨x0,x1⟩:=hh;obtain⟨y0,y1⟩:=hl;obtain⟨z0,z1⟩:=hd;have hN0:0≤h*4294967296+l:=by omega
 have hN1:h*4294967296+l<18446744073709551616:=by omega
 have hz:(d == 0)=false:=by simp;omega
 have hz2:(d != 0)=true:=by simp;omega
 have hn:decide (d≤h)=false:=by simp;omega
 have H4:=Hj F4;clear F4;generalize hN:h*4294967296+l=N at *;go_enter Tryz.func259,Tryz.ntmps259;go_upto_region 4 with fail
 go_region
 go_wp2
 go_ret2
 exact⟨N / d,N % d,F1,F2,F3,by rw[H4.out,hN],rfl,bel_drew (Below.refl _ _)⟩
theorem aux_bitLen:∀(f x:Nat),x<2 ^ f→Lib.bitLenAux f x=Go.bitLen x
 | 0,x,h=>by
  have:x=0:=by simpa using h
  subst this;rfl
 | f+1,x,h=>by
  simp only[Lib.bitLenAux]
  by_cases hx:x=0
  ·subst hx;rfl
  ·rw[if_neg hx,aux_bitLen f (x / 2) (by rw[Nat.pow_succ]at h;omega)]
   by_cases h1:x<2
   ·have:x=1:=by omega
    subst this;rfl
   ·have:=bitLen_shift x 1 (by omega)
    rw[this]
theorem lib_bitLen (x:Nat)(h:x<18446744073709551616):Lib.bitLen x=Go.bitLen x:=aux_bitLen 64 x h
theorem blen_w32 {x:Int}(h:W32 x):((Lib.bitLen x.toNat:Nat):Int)=blen x:=by
 unfold blen;rw[lib_bitLen x.toNat (by have:=h.1;have:=h.2;omega)]
theorem blen_word {x:Int}(h:Word x):((Lib.bitLen x.toNat:Nat):Int)=blen x:=by
 unfold blen;rw[lib_bitLen x.toNat (by have:=h.1;have:=h.2;omega)]
theorem blen_bd {x:Int}{k:Nat}(h0:0≤x)(h1:x<2 ^ k):0≤blen x∧blen x≤k:=by
 obtain⟨n,e,lt,ge,z⟩:=blen_spec h0;rw[e];refine⟨by omega,?_⟩;rcases Int.lt_or_le 0 x with hp|hp
 ·have g:=ge hp
  rcases Nat.lt_or_ge k n with hk|hk
  ·have:=pow_mono k (n-1) (by omega)
   omega
  ·omega
 ·rw[z (by omega)]
  omega
theorem len32w (x:Int)(h:W32 x)(w:World):Calls Tryz.prog 247 #[.int .u32 x] w fun e w'=>e=.returned (.int .i64 (blen x))∧w=w':=by
 rw[←blen_w32 h];exact len32 x h w
theorem len64w (x:Int)(h:Word x)(w:World):Calls Tryz.prog 182 #[.int .u64 x] w fun e w'=>e=.returned (.int .i64 (blen x))∧w=w':=by
 rw[←blen_word h];exact len64 x h w
theorem lz32 (x:Int)(h:W32 x)(w:World):Calls Tryz.prog 260 #[.int .u32 x] w fun e w'=>e=.returned (.int .i64 (32-blen x))∧w=w':=by
 obtain⟨b0,b1⟩:=blen_bd (k:=32) h.1 h.2;have L:=len32w x h;generalize blen x=b at *;go_enter Tryz.func260,Tryz.ntmps260;go_wp2_with fail;refine(L _).mono ?_;rintro e w1 ⟨rfl,rfl⟩;clear L
 go_wp2
 go_ret;exact⟨rfl,rfl⟩
theorem word_any (A:Option Addr)(n c:Nat)(ws:List Int)(i:Nat)(w:World)(hn:ws.length=n)(hr:Rn w A ws)(_ln:n≤1099511627776)(_hi:i≤9223372036854775807) :
  Calls Tryz.prog 253 #[.slice A n c,.int .i64 (i:Int)] w fun e w'=>e=.returned (.int .u32 (ws.getD i 0))∧w=w':=by
 have HN:=Hj hn
 by_cases hk:i<n
 ·obtain⟨g,off,rfl,hg,hcell⟩:=hr.at_ (i:=i) (by omega)
  generalize ws.getD i 0=x at *;clear hn hr;have hk1:(i:Int)<(n:Int):=by omega
  have hk2:decide ((n:Int)≤(i:Int))=false:=by simp;omega
  go_enter Tryz.func253,Tryz.ntmps253
  go_wp2
  go_ret;exact⟨rfl,rfl⟩
 ·rw[getD0_past ws i (by omega)]
  have hk2:decide ((n:Int)≤(i:Int))=true:=by simp;omega
  clear hn hr;go_enter Tryz.func253,Tryz.ntmps253
  go_wp2
  go_ret;exact⟨rfl,rfl⟩
structure TrimOf (ws us:List Int) (m:Nat):Prop where
 eq:us=ws.take (tlen ws)
 len:us.length=m
theorem TrimOf.nat {ws us:List Int}{m:Nat}(h:TrimOf ws us m)(ha:AllW ws):IsNat (nv ws) us:=by rw[h.eq];exact IsNat.of_trim ha
theorem TrimOf.le {ws us:List Int}{m n:Nat}(h:TrimOf ws us m)(hn:ws.length=n):m≤n:=by
 rw[←h.len,h.eq,length_trim,←hn];exact tlen_le ws
theorem TrimOf.tl {ws us:List Int}{m:Nat}(h:TrimOf ws us m):tlen us=m:=by rw[←h.len,h.eq,tlen_trim,length_trim]
def IsTrim (ws:List Int)(A:Option Addr)(w:World)(e:Ending)(w':World):Prop:=
 ∃(us:List Int) (A':Option Addr) (m c':Nat),TrimOf ws us m∧e=.returned (.slice A' m c')∧m≤c'∧Rn w A' us∧(∀a,A'=some a→A=some a)∧w=w'
theorem trim_any (A:Option Addr)(n c:Nat)(ws:List Int)(w:World)(hn:ws.length=n)(hc:n≤c)(hr:Rn w A ws)(ln:n≤1099511627776) :
  Calls Tryz.prog 236 #[.slice A n c] w (IsTrim ws A w):=by
 have HN:=Hj hn;clear hn;go_enter Tryz.func236,Tryz.ntmps236;go_wp2_with fail
 go_loop [7] (fun s7=>∃k:Nat,s7=.int .i64 (k:Int)∧k≤n∧Hid (∀j,n-k≤j→ws.getD j 0=0)) (fun s7=>n-(intOf s7).toNat)
 case atStart=>exact⟨0,rfl,Nat.zero_le _,fun j hj=>getD0_past ws j (by have:=HN.out;omega)⟩
 case round=>
  obtain⟨k,rfl,hk,H⟩:=hrel
  by_cases hlt:k<n
  ·obtain⟨i,hi⟩:∃i,n - k=i+1:=⟨n - k - 1,by omega⟩
   obtain⟨g,off,rfl,hg,hcell⟩:=hr.at_ (i:=i) (by have:=HN.out;omega);have e1:(n:Int)-(k:Int)=(i:Int)+1:=by omega
   have hi1:(i:Int)<(n:Int):=by omega
   have hi2:(i:Int)+1≤(c:Int):=by omega
   by_cases ex:ws.getD i 0=0
   ·have H2:Hid (∀j,n-(k+1)≤j→ws.getD j 0=0):=fun j hj=>by
     rcases Nat.eq_or_lt_of_le (show i≤j by omega)with e|e
     ·subst e;exact ex
     ·exact H.out j (by omega)
    rw[ex]at hcell;clear ex H hi;go_wp2_with fail
    go_round
    case rel=>exact⟨k+1,by go_num,by omega,H2⟩
    case measure=>simp[intOf];omega
   ·have F:Hid (tlen ws=i+1):=by
     show _=_;refine tlen_eq (fun j hj=>H.out j (by omega)) fun _=>?_
     simpa using ex
    have ex2:(ws.getD i 0 != 0)=true:=by simpa using ex
    generalize ws.getD i 0=x at *;clear ex H hi;go_wp2_with fail;go_ret;refine⟨ws.take (i+1),some ⟨g,off,none⟩,i+1,c,⟨by rw[F.out],?_⟩,by go_num,by omega,hr.take _,fun a h=>h,rfl⟩;rw[List.length_take,HN.out];omega
  ·have F:Hid (tlen ws=0):=tlen_eq (fun j hj=>H.out j (by omega)) fun h=>by omega
   clear H;go_wp2_with fail;go_ret;exact⟨[],none,0,0,⟨by rw[F.out];simp,rfl⟩,rfl,Nat.le_refl _,.inl rfl,(fun a h=>by cases h),rfl⟩
theorem take_set (zs:List Int)(k:Nat)(x:Int):(zs.set k x).take k=zs.take k:=by
 rw[List.take_set,List.set_eq_of_length_le];rw[List.length_take];omega
theorem getD_set (zs:List Int)(k:Nat)(x:Int)(h:k<zs.length):(zs.set k x).getD k 0=x:=by
 rw[List.getD_eq_getElem?_getD,List.getElem?_set_self h];rfl
theorem getD_set_ne (zs:List Int)(k j:Nat)(x:Int)(h:k≠j):(zs.set k x).getD j 0=zs.getD j 0:=by
 rw[List.getD_eq_getElem?_getD,List.getElem?_set_ne h,←List.getD_eq_getElem?_getD]
theorem mul_car (P:Int){c l s:Int}(e:c*4294967296+l=s):P*4294967296*c+P*l=P*s:=by rw[←e,Int.mul_add,Int.mul_assoc,Int.mul_comm 4294967296 c]
structure Only (g:Nat) (w w':World):Prop where
 base:Below g w w'
 rest:∀b,b≠g→b<w.heap.size→w'.heap[b]? = w.heap[b]?
theorem Only.refl (g:Nat)(w:World):Only g w w:=⟨Below.refl _ _,fun _ _ _=>rfl⟩
theorem Only.drew {g:Nat}{w w':World}(h:Only g w w'):Only g w w'.drew:=⟨h.base.drew,h.rest⟩
theorem Only.set_ {g:Nat}{w w':World}(h:Only g w w')(i:Nat)(u:Value):Only g w (w'.setCell ⟨g,i,none⟩ u):=
 ⟨h.base.setCell (Nat.le_refl _) u,fun b hb hl=>(Below.heap_setCell w' ⟨g,i,none⟩ u b hb).trans (h.rest b hb hl)⟩
theorem Only.trans {g:Nat}{w w1 w2:World}(h:Only g w w1)(k:Only g w1 w2):Only g w w2:=
 ⟨h.base.trans k.base,fun b hb hl=>(k.rest b hb (Nat.lt_of_lt_of_le hl h.base.size)).trans (h.rest b hb hl)⟩
theorem Only.of_below {g:Nat}{w w':World}(h:Below w.heap.size w w')(hg:g<w.heap.size):Only g w w':=
 ⟨h.mono (Nat.le_of_lt hg),fun b _ hl=>h.block b hl⟩
theorem Only.below {g B:Nat}{w w1 w2:World}(h:Below B w w1)(k:Only g w1 w2)(hB:B≤g):Below B w w2:=h.trans (k.base.mono hB)
theorem Blk.only {g h:Nat}{w w':World}{t:TypeId}{cs:Array Value}(b:Blk w h t cs)(k:Only g w w')(hg:h≠g):Blk w' h t cs:=(k.rest h hg b.lt).trans b
theorem Only.cell {g:Nat}{w w':World}(k:Only g w w'){b i:Nat}(hb:b≠g)(hl:b<w.heap.size):w'.cell? ⟨b,i,none⟩=w.cell? ⟨b,i,none⟩:=by
 have:=k.rest b hb hl;simp only[World.cell?,this]
theorem Rn.only {g:Nat}{w w':World}{A:Option Addr}{ws:List Int}(h:Rn w A ws)(k:Only g w w')(hA:ws≠[]→∀a,A=some a→a.block≠g):Rn w' A ws:=by
 by_cases h0:ws=[]
 ·exact .inl h0
 rcases h with h|⟨b,off,e,hg,hc⟩
 ·exact .inl h
 ·refine .inr ⟨b,off,e,Nat.lt_of_lt_of_le hg k.base.size,fun i x hi=>?_⟩
  rw[k.cell (hA h0 _ e) hg];exact hc i x hi
theorem Rn.ne {W:World}{g:Nat}{A:Option Addr}{ws:List Int}(h:Rn W A ws)(hg:W.heap.size≤g):ws≠[]→∀a,A=some a→a.block≠g:=fun h0 a ha=>by
 rcases h with h|⟨b,off,e,hb,hc⟩
 ·exact absurd h h0
 ·rw[e]at ha
  injection ha with ha;subst ha;show b≠g;omega
structure AddPr (vs zs zs':List Int) (x:Int) (off k:Nat) (cr:Int):Prop where
 len:zs'.length=zs.length
 all:AllW zs'
 eq:nv zs'+2 ^ (32*(off+k))*cr=nv zs+2 ^ (32*off)*(nv (vs.take k)*x)
 same:∀j,j<off∨off+k≤j→zs'.getD j 0=zs.getD j 0
 car:W32 cr
theorem pow_off (off k:Nat):(2:Int) ^ (32*(off+k))=2 ^ (32*off)*2 ^ (32*k):=by rw[Nat.mul_add,Int.pow_add]
theorem prod_bd {x y:Int}(hx:W32 x)(hy:W32 y):0≤y*x∧y*x≤18446744065119617025:=by
 obtain⟨x0,x1⟩:=hx;obtain⟨y0,y1⟩:=hy;refine⟨Int.mul_nonneg y0 x0,?_⟩;have:=Int.mul_le_mul (show y≤4294967295 by omega) (show x≤4294967295 by omega) x0 (by decide);omega
theorem AddPr.next {vs zs zs':List Int}{x y z:Int}{off k:Nat}{cr:Int}(h:AddPr vs zs zs' x off k cr)(hk:off+k<zs.length)(hx:W32 x)(hy:W32 y)(hz:W32 z)(ey:vs.getD k 0=y)(ez:zs'.getD (off+k) 0=z) :
  AddPr vs zs (zs'.set (off+k) (low32 (y*x+z+cr))) x off (k+1) (car32 (y*x+z+cr)):=by
 obtain⟨h1,h2,h3,h4,h5⟩:=h;have pb:=prod_bd hx hy;refine⟨by rw[List.length_set,h1],h2.set _ (w32_low _),?_,fun j hj=>?_,?_⟩
 ·rw[nv_set _ _ _ (by rw[h1];exact hk),nv_take_succ,ey,ez,←Nat.add_assoc,pow32]
  have e2:=mul_car (2 ^ (32*(off+k))) (car_low (y*x+z+cr));have e3:(2:Int) ^ (32*(off+k))*(y*x)=2 ^ (32*off)*(2 ^ (32*k)*y*x):=by rw[pow_off,Int.mul_assoc,Int.mul_assoc]
  rw[Int.mul_add,Int.mul_add]at e2;rw[Int.mul_sub,Int.add_mul,Int.mul_add,←e3];omega
 ·rw[getD_set_ne _ _ _ _ (by omega)]
  exact h4 j (by omega)
 ·obtain⟨_,_⟩:=hz
  obtain⟨_,_⟩:=h5
  constructor<;>unfold car32<;>omega
def IsAddPr (vs zs:List Int)(x:Int)(g off:Nat)(w:World)(e:Ending)(w':World):Prop:=
 ∃(zs':List Int) (cr:Int),AddPr vs zs zs' x off vs.length cr∧e=.returned (.int .u32 cr)∧Blk w' g 166 (wordArr zs')∧Only g w w'
theorem addProduct_any (B:Option Addr)(g off la ca m d:Nat)(vs zs:List Int)(x:Int)(w:World)(hm:vs.length=m)(hla:m≤la)(hoff:off+m≤zs.length)(hy:Rn w B vs)(hB:vs≠[]→∀a,B=some a→a.block≠g)(hv:AllW vs)(hz:AllW zs)(hx:W32 x)(BZ:Blk w g 166 (wordArr zs))(lm:m≤1048576)(lla:la≤2097152) :
  Calls Tryz.prog 241 #[.slice (some ⟨g,off,none⟩) la ca,.slice B m d,.int .u32 x] w (IsAddPr vs zs x g off w):=by
 have HM:=Hj hm;have HBB:=Hj hB;obtain⟨x0,x1⟩:=id hx;clear hm hB;go_enter Tryz.func241,Tryz.ntmps241;go_wp2_with fail
 go_loopw [7,12] (fun s7 s12 wr=>∃(k:Nat) (us:List Int) (cr:Int),s7=.int .u64 cr∧s12=.int .i64 (k:Int)∧k≤m∧AddPr vs zs us x off k cr∧Blk wr g 166 (wordArr us)∧Hid (Only g w wr)) (fun _ s12 _=>m-(intOf s12).toNat)
 case atStart=>exact⟨0,zs,0,rfl,rfl,Nat.zero_le _,⟨rfl,hz,by simp[nv],fun _ _=>rfl,⟨by decide,by decide⟩⟩,BZ,Only.refl _ _⟩
 case round=>
  clear BZ;obtain⟨k,us,cr,rfl,rfl,hk,T,BZ,HO⟩:=hrel
  by_cases hlt:k<m
  ·have hyr:=hy.only HO.out HBB.out
   obtain⟨g2,off2,rfl,hg2,hc2⟩:=hyr.at_ (i:=k) (by rw[HM.out];exact hlt);have wy:=hv.getD k;have wz:=T.all.getD (off+k);have TN:=Hj (T.next (by omega) hx wy wz rfl rfl);have q0:=BZ.word (i:=off+k) (by rw[T.len];omega);have q1:wr.drew.frozen? ⟨g,off+k,none⟩=false:=BZ.frozen (off+k);have cw:=T.car;generalize vs.getD k 0=y at *;generalize us.getD (off+k) 0=z at *;have q2:wr.drew.cell? ⟨g,off+k,none⟩=some (.int .u32 z):=q0;have pb:=prod_bd hx wy;obtain⟨pb0,pb1⟩:=pb;obtain⟨z0,z1⟩:=wz;obtain⟨y0,y1⟩:=wy;obtain⟨c0,c1⟩:=cw;have hl1:(k:Int)<(m:Int):=by omega
   have hl2:(k:Int)<(la:Int):=by omega
   have BZ2:=BZ.drew.set_ (off+k) (.int .u32 (low32 (y*x+z+cr)));rw[wordArr_set]at BZ2;have HO2:Hid (Only g w (wr.drew.setCell ⟨g,off+k,none⟩ (.int .u32 (low32 (y*x+z+cr))))):=HO.out.drew.set_ _ _;clear T BZ HO hyr;go_upto_region 5 with fail
   go_region
   have s0:0≤y*x+z+cr:=by omega
   have s1:y*x+z+cr≤18446744073709551615:=by omega
   have e1:(y*x+z+cr) % 4294967296=low32 (y*x+z+cr):=rfl;have e2:(y*x+z+cr) / 4294967296=car32 (y*x+z+cr):=rfl;generalize y*x+z+cr=s at *;generalize low32 s=l at *;generalize car32 s=cr' at *;go_wp2_with fail
   go_roundw
   case rel=>exact⟨k+1,_,cr',by rw[←e2],by go_num,by omega,TN.out,BZ2,HO2⟩
   case measure=>simp[intOf];omega
  ·have ek:k=m:=by omega
   subst ek;have fin:AddPr vs zs us x off vs.length cr:=by rw[HM.out];exact T
   obtain⟨c0,c1⟩:=T.car;clear T;go_wp2_with fail;go_ret;exact⟨us,cr,fin,rfl,BZ,HO.out⟩
structure MulTo (us vs zs:List Int) (n k:Nat):Prop where
 len:zs.length=n
 all:AllW zs
 eq:nv zs=nv (us.take k)*nv vs
 high:∀j,k+vs.length≤j→zs.getD j 0=0
theorem MulTo.next {us vs zs zs':List Int}{n k:Nat}{x cr:Int}(h:MulTo us vs zs n k)(hp:AddPr vs zs zs' x k vs.length cr)(ex:us.getD k 0=x)(hk:k+vs.length<n):MulTo us vs (zs'.set (k+vs.length) cr) n (k+1):=by
 obtain⟨h1,h2,h3,h4⟩:=h;obtain⟨p1,p2,p3,p4,p5⟩:=hp;refine⟨by rw[List.length_set,p1,h1],p2.set _ p5,?_,fun j hj=>?_⟩
 ·rw[nv_set _ _ _ (by omega),p4 _ (by omega),h4 _ (Nat.le_refl _),nv_take_succ,ex,Int.add_mul,←h3]
  rw[List.take_length]at p3;rw[Int.mul_assoc,Int.mul_comm x,Int.sub_zero];omega
 ·rw[getD_set_ne _ _ _ _ (by omega),p4 _ (by omega)]
  exact h4 j (by omega)
theorem nmul_any (A B:Option Addr)(n m c d:Nat)(us vs:List Int)(w:World)(hn:us.length=n)(hm:vs.length=m)(hc:n≤c)(hd:m≤d)(hx:Rn w A us)(hy:Rn w B vs)(hu:AllW us)(hv:AllW vs)(ln:n≤1048576)(lm:m≤1048576) :
  Calls Tryz.prog 221 #[.slice A n c,.slice B m d] w (RetN (nv us*nv vs) w):=by
 have HN:=Hj hn;have HM:=Hj hm;obtain⟨va,hva⟩:∃va,nv us=va:=⟨_,rfl⟩;obtain⟨vb,hvb⟩:∃vb,nv vs=vb:=⟨_,rfl⟩;rw[hva,hvb];have HVA:=Hj hva;have HVB:=Hj hvb;clear hn hm hva hvb;go_enter Tryz.func221,Tryz.ntmps221;go_wp2_with fail;refine(trim_any A n c us w HN.out hc hx (by omega)).mono ?_;rintro e w1 ⟨us',A1,n1,c1,TU,rfl,hc1,hx1, -,rfl⟩;go_wp2_with fail;refine(trim_any B m d vs w HM.out hd hy (by omega)).mono ?_;rintro e w1 ⟨vs',B1,m1,d1,TV,rfl,hd1,hy1, -,rfl⟩;have a1:=(TU.nat hu).all;have a2:=(TV.nat hv).all;have HVA':Hid (nv us'=va):=(TU.nat hu).val.trans HVA.out;have HVB':Hid (nv vs'=vb):=(TV.nat hv).val.trans HVB.out;have ln1:=TU.le HN.out;have lm1:=TV.le HM.out;have HN1:=Hj TU.len;have HM1:=Hj TV.len;clear TU TV hx hy hu hv HVA HVB;obtain⟨N,hN⟩:∃N,n1+m1=N:=⟨_,rfl⟩;obtain⟨r0,hr0⟩:∃r0,r0=List.replicate N (0:Int):=⟨_,rfl⟩;have hmk:=run_make_nat ((n1:Int)+(m1:Int)) N (by omega) (by omega) r0 hr0;have HR0:=Hj hr0;have hN1:n1+m1≤N:=by omega
 have hN2:N≤n1+m1:=by omega
 clear hr0 hN;go_wp2_with fail;clear hmk
 go_loopw [19] (fun s19 wr=>∃(k:Nat) (zs:List Int),s19=.int .i64 (k:Int)∧k≤n1∧MulTo us' vs' zs N k∧Blk wr w.heap.size 166 (wordArr zs)∧Hid (Below w.heap.size w wr)) (fun s19 _=>n1-(intOf s19).toNat)
 case atStart=>exact⟨0,r0,rfl,Nat.zero_le _,⟨by rw[HR0.out];simp,by rw[HR0.out];exact AllW.zeros _,by rw[HR0.out,nv_zeros];simp[nv],fun j _=>by rw[HR0.out,List.getD_eq_getElem?_getD,List.getElem?_replicate];split<;>rfl⟩,Blk.new _ _ _,bel_alloc (Below.refl _ _) _⟩
 case round=>
  obtain⟨k,zs,rfl,hk,T,BZ,HB⟩:=hrel
  by_cases hlt:k<n1
  ·have hxr:=hx1.below HB.out (Nat.le_refl _)
   have hyr:=hy1.below HB.out (Nat.le_refl _);obtain⟨g,off,rfl,hg,hcell⟩:=hxr.at_ (i:=k) (by rw[HN1.out];exact hlt);have wx:=a1.getD k
   have TN:Hid (∀zs' cr,AddPr vs' zs zs' (us'.getD k 0) k vs'.length cr→MulTo us' vs' (zs'.set (k+m1) cr) N (k+1)∧k+m1<zs'.length):=fun zs' cr hp=>by
    have:=T.next hp rfl (by rw[HM1.out];omega);rw[HM1.out]at this;exact⟨this,by rw[hp.len,T.len];omega⟩
   have hB1:=Hj (hy1.ne (Nat.le_refl _));generalize us'.getD k 0=x at *;have hl1:(k:Int)<(n1:Int):=by omega
   have hl2:(k:Int)<(N:Int):=by omega
   have hl3:(k:Int)+(m1:Int)<(N:Int):=by omega
   have hcell':wr.drew.cell? ⟨g,off+k,none⟩=some (.int .u32 x):=hcell;have HBd:=Hj (bel_drew HB.out)
   have CALL:Hid (∀la ca,m1≤la→la≤2097152→Calls Tryz.prog 241 #[.slice (some ⟨w.heap.size,k,none⟩) la ca,.slice B1 m1 d1,.int .u32 x] wr.drew (IsAddPr vs' zs x w.heap.size k wr.drew)):=fun la ca h1 h2=>
    addProduct_any B1 w.heap.size k la ca m1 d1 vs' zs x wr.drew HM1.out h1 (by rw[T.len];omega) hyr.drew hB1.out a2 T.all wx BZ.drew (by omega) h2
   clear hcell T BZ HB hxr hyr;go_upto_region 6 with fail
   go_region_with
    (first
     | (go_at_call 241;refine(CALL.out _ _ (by omega) (by omega)).mono ?_;rintro e w' ⟨zs',cr,hp,rfl,BZ',HO'⟩;have hq:=TN.out zs' cr hp;have q0:=BZ'.word (i:=k+m1) hq.2;have q1:=BZ'.frozen (k+m1);have TM:=hq.1;clear hp hq))
   all_goals
    have BZ2:=BZ'.set_ (k+m1) (.int .u32 cr);rw[wordArr_set]at BZ2;have HB2:Hid (Below w.heap.size w (w'.setCell ⟨w.heap.size,k+m1,none⟩ (.int .u32 cr))):=bel_set (HO'.below HBd.out (Nat.le_refl _)) (Nat.le_refl _) _;go_wp2_with fail
    go_roundw
    case rel=>exact⟨k+1,_,by go_num,by omega,TM,BZ2,HB2⟩
    case measure=>simp[intOf];omega
  ·have ek:k=n1:=by omega
   subst ek
   have FIN:Hid (nv zs=va*vb):=by
    show _=_;rw[T.eq,List.take_of_length_le (by rw[HN1.out];exact Nat.le_refl _),HVA'.out,HVB'.out]
   have ha:=T.all;have HL:=Hj T.len;clear T;go_wp2_with fail;refine(trim_any (some ⟨w.heap.size,0,none⟩) N N zs wr HL.out (Nat.le_refl _) BZ.words (by omega)).mono ?_;rintro e w1 ⟨ts,A',m',c',T,rfl,hmc,hra,hfr,rfl⟩
   have fin2:IsNat (va*vb) ts:=by
    rw[←FIN.out];exact T.nat ha
   go_wp2_with fail;go_ret;exact⟨ts,A',m',c',fin2,T.len,rfl,hmc,hra,fun a h=>by injection hfr a h with h;rw[←h];exact Nat.le_refl _,HB.out⟩
theorem pow_split (j:Nat)(hj:j≤32):(2:Int) ^ (32-j)*2 ^ j=4294967296:=by
 rw[←Int.pow_add,show 32-j+j=32 by omega]
 decide
theorem pow_le32 (j:Nat)(hj:j≤32):(2:Int) ^ j≤4294967296:=by
 have:=pow_mono j 32 hj
 simpa using this
theorem shl_split (x:Int)(j:Nat)(hj:j≤32):x / 2 ^ (32-j)*4294967296+IntKind.u32.wrap (x*2 ^ j)=x*2 ^ j:=by
 have e:x*2 ^ j / 4294967296=x / 2 ^ (32-j):=by
  rw[←pow_split j hj];exact Int.mul_ediv_mul_of_pos_left _ _ (pow_pos' j)
 rw[IntKind.wrap_u32,←e];omega
theorem shr_lt {x:Int}(hx:W32 x)(j:Nat)(hj:j≤32):0≤x / 2 ^ (32-j)∧x / 2 ^ (32-j)<2 ^ j:=by
 refine⟨Int.ediv_nonneg hx.1 (Int.le_of_lt (pow_pos' _)),?_⟩;have:=pow_split j hj;rw[Int.ediv_lt_iff_lt_mul (pow_pos' _),Int.mul_comm,this];exact hx.2
theorem wrap_mul (x:Int)(j:Nat)(hj:j≤32):IntKind.u32.wrap (x*2 ^ j)=x % 2 ^ (32-j)*2 ^ j:=by
 rw[IntKind.wrap_u32,←pow_split j hj,Int.mul_comm x,Int.mul_comm (2 ^ (32-j)),Int.mul_emod_mul_of_pos _ _ (pow_pos' j),Int.mul_comm]
theorem wrap_room (x:Int)(j:Nat)(hj:j≤32):0≤IntKind.u32.wrap (x*2 ^ j)∧IntKind.u32.wrap (x*2 ^ j)+2 ^ j≤4294967296:=by
 refine⟨by rw[IntKind.wrap_u32];omega,?_⟩;have h1:=Int.emod_lt_of_pos x (pow_pos' (32-j));have h2:(x % 2 ^ (32-j)+1)*2 ^ j≤2 ^ (32-j)*2 ^ j:=Int.mul_le_mul_of_nonneg_right (by omega) (Int.le_of_lt (pow_pos' j));rw[pow_split j hj,Int.add_mul]at h2;rw[wrap_mul x j hj];omega
theorem or_shl (x y:Int)(hy:0≤y)(j:Nat)(hj:j≤32)(hy':y<2 ^ j):bits .or .u32 y (IntKind.u32.wrap (x*2 ^ j))=y+IntKind.u32.wrap (x*2 ^ j):=by
 obtain⟨y,rfl⟩:=Int.eq_ofNat_of_zero_le hy;have hp:=pow_le32 j hj;have hr:=wrap_room x j hj;obtain⟨m,hm⟩:=Int.eq_ofNat_of_zero_le (Int.emod_nonneg x (Int.ne_of_gt (pow_pos' (32 - j))))
 have e:IntKind.u32.wrap (x*2 ^ j)=((2 ^ j*m:Nat):Int):=by
  rw[wrap_mul x j hj,hm,Int.natCast_mul,Int.mul_comm]
  simp
 have hyn:y<2 ^ j:=by
  have:(y:Int)<((2 ^ j:Nat):Int):=by simpa using hy'
  omega
 rw[e]at hr ⊢;have l1:2 ^ j*m<4294967296:=by have:=pow_pos' j;omega
 rw[u32_or_nat _ _ (by omega) l1,Nat.or_comm,←Nat.two_pow_add_eq_or_of_lt hyn,Int.natCast_add,Int.add_comm]
structure LiftTo (us zs:List Int) (L s r k:Nat):Prop where
 len:zs.length=L
 all:AllW zs
 eq:nv zs=2 ^ (32*s+r)*nv (us.take k)
 high:∀j,s+k<j→zs.getD j 0=0
 top:zs.getD (s+k) 0<2 ^ r
theorem LiftTo.next {us zs:List Int}{L s r k:Nat}{x t:Int}(h:LiftTo us zs L s r k)(hr:r≤32)(hx:W32 x)(ex:us.getD k 0=x)(et:zs.getD (s+k) 0=t)(hk:s+k+1<L) :
  LiftTo us ((zs.set (s+k) (t+IntKind.u32.wrap (x*2 ^ r))).set (s+k+1) (x / 2 ^ (32-r))) L s r (k+1):=by
 obtain⟨h1,h2,h3,h4,h5⟩:=h;have b1:=wrap_room x r hr;have b2:=shr_lt hx r hr;have b3:=pow_le32 r hr;have wt:=h2.getD (s+k);rw[et]at wt h5;obtain⟨t0,t1⟩:=wt;refine⟨by rw[List.length_set,List.length_set,h1],(h2.set _ ⟨by omega,by omega⟩).set _ ⟨b2.1,by omega⟩,?_,fun j hj=>?_,?_⟩
 ·rw[nv_set _ _ _ (by rw[List.length_set];omega),nv_set _ _ _ (by omega),getD_set_ne _ _ _ _ (by omega),h4 (s+k+1) (by omega),et,nv_take_succ,ex,h3,pow32]
  have e1:=mul_car (2 ^ (32*(s+k))) (shl_split x r hr)
  have e2:(2:Int) ^ (32*(s+k))*(x*2 ^ r)=2 ^ (32*s+r)*(2 ^ (32*k)*x):=by
   rw[pow_off,Int.pow_add,Int.mul_assoc,Int.mul_assoc,←Int.mul_assoc (2 ^ (32*k)),Int.mul_comm _ (2 ^ r)]
  rw[e2]at e1;rw[Int.mul_add,Int.sub_zero,show t+IntKind.u32.wrap (x*2 ^ r)-t=IntKind.u32.wrap (x*2 ^ r) by omega];omega
 ·rw[getD_set_ne _ _ _ _ (by omega),getD_set_ne _ _ _ _ (by omega)]
  exact h4 j (by omega)
 ·rw[show s+(k+1)=s+k+1 by omega,getD_set _ _ _ (by rw[List.length_set];omega)]
  exact b2.2
structure LiftOf (v:Int) (L:Nat) (zs:List Int):Prop where
 len:zs.length=L
 all:AllW zs
 val:nv zs=v
def RetLift (v:Int)(L:Nat)(w:World)(e:Ending)(w':World):Prop:=
 ∃(zs:List Int) (g:Nat),LiftOf v L zs∧e=.returned (.slice (some ⟨g,0,none⟩) L L)∧w.heap.size≤g∧Blk w' g 166 (wordArr zs)∧Below w.heap.size w w'
theorem lift_any (A:Option Addr)(n c N s L:Nat)(us:List Int)(w:World)(hn:us.length=n)(hx:Rn w A us)(hu:AllW us)(ln:n≤1048576)(hs:N / 32=s)(hN:N≤16777216)(hL:s+n+1=L) :
  Calls Tryz.prog 258 #[.slice A n c,.int .i64 (N:Int)] w (RetLift (2 ^ N*nv us) L w):=by
 have HN:=Hj hn;have e1:(N:Int) / 32=(s:Int):=by omega
 have hr32:N % 32<32:=by omega
 have hNN:Hid (N=32*s+N % 32):=by show _=_;omega
 obtain⟨r0,hr0⟩:∃r0,r0=List.replicate L (0:Int):=⟨_,rfl⟩;have hmk:=run_make_nat ((s:Int)+(n:Int)+1) L (by omega) (by omega) r0 hr0;have HR0:=Hj hr0;have hL1:s+n+1≤L:=by omega
 have hL2:L≤s+n+1:=by omega
 have hs1:s≤524288:=by omega
 clear hn hr0 hs hL;go_enter Tryz.func258,Tryz.ntmps258;go_wp2_with fail;clear hmk e1
 go_loopw [20] (fun s20 wr=>∃(k:Nat) (zs:List Int),s20=.int .i64 (k:Int)∧k≤n∧LiftTo us zs L s (N % 32) k∧Blk wr w.heap.size 166 (wordArr zs)∧Hid (Below w.heap.size w wr)) (fun s20 _=>n-(intOf s20).toNat)
 case atStart=>
  have z:∀j,r0.getD j 0=0:=fun j=>by rw[HR0.out,List.getD_eq_getElem?_getD,List.getElem?_replicate];split<;>rfl
  exact⟨0,r0,rfl,Nat.zero_le _,⟨by rw[HR0.out];simp,by rw[HR0.out];exact AllW.zeros _,by rw[HR0.out,nv_zeros];simp[nv],fun j _=>z j,by rw[z];exact pow_pos' _⟩,Blk.new _ _ _,bel_alloc (Below.refl _ _) _⟩
 case round=>
  obtain⟨k,zs,rfl,hk,T,BZ,HB⟩:=hrel
  by_cases hlt:k<n
  ·have hxr:=hx.below HB.out (Nat.le_refl _)
   obtain⟨g,off,rfl,hg,hcell⟩:=hxr.at_ (i:=k) (by rw[HN.out];exact hlt)
   have hne:g≠w.heap.size:=by
    rcases hx with h|⟨g',off',e,hg',_⟩
    ·have:=HN.out;rw[h]at this;simp at this;omega
    ·injection e with e;injection e with e3 e4;omega
   have wx:=hu.getD k;have TN:=Hj (T.next (by omega) wx rfl rfl (by omega));have q0:=BZ.word (i:=s+k) (by rw[T.len];omega);have q1:=BZ.frozen (s+k);have wt:=T.all.getD (s+k);have top:=T.top;have q5:∃z,wr.cell? ⟨w.heap.size,s+k+1,none⟩=some (.int .u32 z):=⟨_,BZ.word (by rw[T.len];omega)⟩;obtain⟨z,q5⟩:=q5;have q6:=BZ.frozen (s+k+1);generalize us.getD k 0=x at *;generalize zs.getD (s+k) 0=t at *;have hor:=or_shl x t wt.1 (N % 32) (by omega) top;have wrm:=wrap_room x (N % 32) (by omega);rw[IntKind.wrap_u32]at hor wrm TN;have ehh:(32-(N:Int) % 32).toNat=32-N % 32:=by omega
   have hl1:(k:Int)<(n:Int):=by omega
   have hl2:(s:Int)+(k:Int)<(L:Int):=by omega
   have hl3:(s:Int)+(k:Int)+1<(L:Int):=by omega
   have p0:wr.drew.cell? ⟨w.heap.size,s+k,none⟩=some (.int .u32 t):=q0;have p1:wr.drew.frozen? ⟨w.heap.size,s+k,none⟩=false:=q1;have HOR:=Hj hor;clear hor;go_upto_region 6 with fail
   go_region
   rw[HOR.out];clear HOR q5 q6;generalize x*2 ^ (N % 32) % 4294967296=y at *;have BZ1:=(BZ.set_ (s+k) (.int .u32 (t+y))).drew;rw[wordArr_set]at BZ1;have HB1:Hid (Below w.heap.size w (wr.setCell ⟨w.heap.size,s+k,none⟩ (.int .u32 (t+y))).drew):=bel_drew (bel_set HB.out (Nat.le_refl _) _);have hc1:(wr.setCell ⟨w.heap.size,s+k,none⟩ (.int .u32 (t+y))).drew.cell? ⟨g,off+k,none⟩=some (.int .u32 x):=(World.cell?_setCell_other wr ⟨w.heap.size,s+k,none⟩ ⟨g,off+k,none⟩ (.int .u32 (t+y)) (fun e=>hne (by injection e with e;exact e.symm))).trans hcell
   have hg1:g<(wr.setCell ⟨w.heap.size,s+k,none⟩ (.int .u32 (t+y))).drew.heap.size:=by
    have:=HB1.out.size;rcases hx with h|⟨g',off',e,hg',_⟩
    ·have h2:=HN.out;rw[h]at h2;simp at h2;omega
    ·injection e with e;injection e with e3 e4;omega
   have hl:=T.len;clear p0 p1 q0 q1 hcell BZ HB T hxr;generalize (wr.setCell ⟨w.heap.size,s+k,none⟩ (.int .u32 (t+y))).drew=w1 at *;obtain⟨z1,q5⟩:∃z,w1.cell? ⟨w.heap.size,s+k+1,none⟩=some (.int .u32 z):=⟨_,BZ1.word (by rw[List.length_set,hl];omega)⟩;have q6:=BZ1.frozen (s+k+1);have BZ2:=BZ1.set_ (s+k+1) (.int .u32 (x / 2 ^ (32-N % 32)));rw[wordArr_set]at BZ2;have HB2:Hid (Below w.heap.size w (w1.setCell ⟨w.heap.size,s+k+1,none⟩ (.int .u32 (x / 2 ^ (32-N % 32))))):=bel_set HB1.out (Nat.le_refl _) _;clear hl hx;go_wp2_with fail
   go_roundw
   case rel=>exact⟨k+1,_,by go_num,by omega,TN.out,BZ2,HB2⟩
   case measure=>simp[intOf];omega
  ·have ek:k=n:=by omega
   subst ek;have FIN:LiftOf (2 ^ N*nv us) L zs:=⟨T.len,T.all,by rw[T.eq,List.take_of_length_le (by rw[HN.out];exact Nat.le_refl _),←hNN.out]⟩;clear T;go_wp2_with fail;go_ret;exact⟨zs,w.heap.size,FIN,rfl,Nat.le_refl _,BZ,HB.out⟩
theorem blen_eq {v:Int}{k:Nat}(hk:1≤k)(h0:(2:Int) ^ (k-1)≤v)(h1:v<2 ^ k):blen v=k:=by
 have hp:=pow_pos' (k-1);have hv:0≤v:=by omega
 obtain⟨n,en,lt,ge,_⟩:=blen_spec hv;obtain⟨g1,g2⟩:=ge (by omega);rw[en];rcases Nat.lt_trichotomy n k with h|h|h
 ·exfalso
  have:(2:Int) ^ n≤2 ^ (k-1):=by
   have h3:2 ^ n≤2 ^ (k-1):=Nat.pow_le_pow_right (by decide) (by omega);have h4:((2 ^ n:Nat):Int)≤((2 ^ (k-1):Nat):Int):=Int.ofNat_le.2 h3
   simpa using h4
  omega
 ·rw[h]
 ·exfalso
  have:(2:Int) ^ k≤2 ^ (n-1):=by
   have h3:2 ^ k≤2 ^ (n-1):=Nat.pow_le_pow_right (by decide) (by omega);have h4:((2 ^ k:Nat):Int)≤((2 ^ (n-1):Nat):Int):=Int.ofNat_le.2 h3
   simpa using h4
  omega
theorem own_grown {w wr w1:World}{t:TypeId}{v:Value}{n:Nat}{xs:List Value}{o:Obj}(HB:Below w.heap.size w wr)(own:wr.ownsRow w.heap.size t 1 v n xs)(hg:(wr.alloc o).grownBy w1 v.ownBlock):Below w.heap.size w w1:=by
 refine(bel_alloc HB o).grown hg (by have:=HB.size;simp;omega) fun g e=>?_;rcases own.2 with⟨rfl,_⟩|⟨g',cap,cur,rfl,hb,_⟩
 ·cases e
 ·simp[Value.ownBlock]at e
  omega
end Go.Proofs.YtkbicfffokegeaaGreatDoor
