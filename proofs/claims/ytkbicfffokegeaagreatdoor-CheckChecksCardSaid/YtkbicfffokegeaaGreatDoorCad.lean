/-
  Whatever program is handed in, CheckChecks answers true. (part 4 of 38) Conditions: none beside what the card ties.
-/
import Derived.Test.YtkbicfffokegeaaGreatDoorCac
import Derived.Test.YtkbicfffokegeaaGreatDoorCaa
namespace Go.Proofs.YtkbicfffokegeaaGreatDoor
set_option maxHeartbeats 16000000
open Go.RowKit
set_option maxRecDepth 100000
def scV (sd sl:Sl)(b:Bool):Value:=.agg #[.slice sd.ao sd.n sd.c,.slice sl.ao sl.n sl.c,.bool b]
def scO (sd sl:Sl)(b:Bool):Obj:=.cells #[.slice sd.ao sd.n sd.c,.slice sl.ao sl.n sl.c,.bool b] 73 (0,0)
theorem tV (w:World)(sd sl:Sl)(b:Bool):w.alloc (.cells #[.slice sd.ao sd.n sd.c,.slice sl.ao sl.n sl.c,.bool b] 73 (0,0))=bx w (scO sd sl b):=rfl
theorem cK {w:World}{k:Nat}{sd sl:Sl}{b:Bool}(g:w.heap[k]? = some (scO sd sl b)):w.cell? ⟨k,0,none⟩=some (.slice sd.ao sd.n sd.c)∧w.cell? ⟨k,1,none⟩=some (.slice sl.ao sl.n sl.c)∧w.cell? ⟨k,2,none⟩=some (.bool b):=
 ⟨aK g 0,aK g 1,aK g 2⟩
def nQ (B:Nat)(w:World)(sl:Sl)(l:List (List UInt8)):Prop:=sl.ok∧Rw w B sl 1 (fun i=>[.string ⟨(l.getD i []).toArray⟩])∧sl.n=l.length
theorem nQ.below {B B':Nat}{w w':World}{sl:Sl}{l:List (List UInt8)}(h:nQ B w sl l)(hb:Below B' w w')(hB:B≤B'):nQ B w' sl l:=⟨h.1,h.2.1.mono (bA hb hB) (aD _),h.2.2⟩
theorem nQ.none (B:Nat)(w:World):nQ B w ⟨.none,0,0⟩ []:=⟨⟨aD _,Nat.zero_le _,fun _=>rfl⟩,(fun a ha=>by cases ha),rfl⟩
theorem aKj {d:Nat→De}{x:List UInt8}{j:Nat}(h:fd d x j=.none)(e:(d j).nm=x):∀m,j<m→fd d x m=some j:=by
 intro m
 induction m with
 | zero=>intro h;omega
 | succ m ih=>
  intro hm;simp only[fd];rcases Nat.lt_succ_iff_lt_or_eq.1 hm with h4|rfl
  ·rw[ih h4]
  ·rw[h,if_pos e]
def ixV:Option Nat→Int
 | some i=>(i:Int)
 | .none=>-1
theorem lY (B:Nat)(sd sl:Sl)(b:Bool)(d:Nat→De)(x:List UInt8)(w:World)(hD:gF B w sd d)(hB:B≤w.heap.size) :
  Calls Tryz.prog 41 #[scV sd sl b,.string ⟨x.toArray⟩] w fun r w'=>r=.returned (.int .i64 (ixV (fd d x sd.n)))∧Below w.heap.size w w':=by
 have BX:=bS (Below.refl w.heap.size w) (aD _) (scO sd sl b);have HD:=Hj (hD.below BX hB);have hn:sd.n≤maxLen:=aF hD.1.1 hD.1.2.1;unfold maxLen at hn;have HN:=Hj hn;have c0:=(cK (cD w (scO sd sl b))).1;have B1:=Hj BX;clear BX hD hB hn;obtain⟨ao,n,c⟩:=sd;dsimp only at *;show Calls Tryz.prog 41 #[.agg #[.slice ao n c,.slice sl.ao sl.n sl.c,.bool b],.string ⟨x.toArray⟩] w _;go_enter Tryz.func41,Tryz.ntmps41;go_upto_region 1 with fail;rw[tV w ⟨ao,n,c⟩ sl b];generalize bx w (scO ⟨ao,n,c⟩ sl b)=w1 at *;go_wp2_with fail
 go_loopg [5] n (fun gk i wr=>∃j:Nat,i=.int .i64 (j:Int)∧wr=w1∧Hid (gk=n-j∧j≤n)∧Hid (fd d x j=.none))
 case atStart=>exact⟨0,rfl,rfl,⟨rfl,Nat.zero_le _⟩,rfl⟩
 case round=>
  obtain⟨j,rfl,rfl,HJ,HF⟩:=hrel
  by_cases hlt:j<n
  ·have z0:(j:Int)<(n:Int):=by omega
   have ovi:IntKind.i64.wrap ((j:Int)+1)=((j+1:Nat):Int):=by have:=HN.out;rw[IntKind.wrap_i64];omega
   obtain⟨a,b',o,rfl,hA,hb,X,I⟩:=HD.out.at (i:=j) hlt;have c2:=X.c2;have HLT:=Hj hlt;clear X I hb hlt
   by_cases e:(d j).nm=x
   ·have hb:((d j).nm == x)=true:=by simp[e]
    have R:=Hj (aKj HF.out e n HLT.out);clear e;go_wp2_with fail;go_ret;exact⟨by rw[R.out];rfl,B1.out⟩
   ·have hb:((d j).nm == x)=false:=by simp[e]
    have R:Hid (fd d x (j+1)=.none):=by show fd d x (j+1)=_;simp only[fd,HF.out,if_neg e]
    clear e;go_wp2_with fail
    go_roundg (n-(j+1))
    case measure=>have:=HJ.out;have:=HLT.out;omega
    case rel=>exact⟨j+1,by go_num,rfl,⟨rfl,HLT.out⟩,R.out⟩
  ·obtain rfl:j=n:=by have:=HJ.out;omega
   have z0:¬(j:Int)<(j:Int):=by omega
   clear hlt;go_wp2_with fail;go_ret;exact⟨by rw[HF.out];rfl,B1.out⟩
theorem pA (B:Nat)(sd sl:Sl)(b:Bool)(l:List (List UInt8))(x:List UInt8)(w:World)(hD:nQ B w sl l)(hB:B≤w.heap.size) :
  Calls Tryz.prog 69 #[scV sd sl b,.string ⟨x.toArray⟩] w fun r w'=>r=.returned (.bool (decide (x∈l)))∧Below w.heap.size w w':=by
 have BX:=bS (Below.refl w.heap.size w) (aD _) (scO sd sl b);have HD:=Hj (hD.below BX hB);have hn:sl.n≤maxLen:=aF hD.1.1 hD.1.2.1;unfold maxLen at hn;have HN:=Hj hn;have HL:=Hj hD.2.2;have c1:=(cK (cD w (scO sd sl b))).2.1;have B1:=Hj BX;clear BX hD hB hn;obtain⟨ao,n,c⟩:=sl;dsimp only at *;show Calls Tryz.prog 69 #[.agg #[.slice sd.ao sd.n sd.c,.slice ao n c,.bool b],.string ⟨x.toArray⟩] w _;go_enter Tryz.func69,Tryz.ntmps69;go_upto_region 1 with fail;rw[tV w sd ⟨ao,n,c⟩ b];generalize bx w (scO sd ⟨ao,n,c⟩ b)=w1 at *;go_wp2_with fail
 go_loopg [5] n (fun gk i wr=>∃j:Nat,i=.int .i64 (j:Int)∧wr=w1∧Hid (gk=n-j∧j≤n)∧Hid (∀i,i<j→l.getD i []≠x))
 case atStart=>exact⟨0,rfl,rfl,⟨rfl,Nat.zero_le _⟩,fun i hi=>absurd hi (Nat.not_lt_zero i)⟩
 case round=>
  obtain⟨j,rfl,rfl,HJ,HF⟩:=hrel
  by_cases hlt:j<n
  ·have z0:(j:Int)<(n:Int):=by omega
   have ovi:IntKind.i64.wrap ((j:Int)+1)=((j+1:Nat):Int):=by have:=HN.out;rw[IntKind.wrap_i64];omega
   obtain⟨a,b',o,rfl,hA,hb,h4⟩:=HD.out.2.1.at HD.out.1 hlt rfl;have c2:wr.cell? ⟨b',o,none⟩=some (.string ⟨(l.getD j []).toArray⟩):=h4 0 _ rfl;rw[Nat.mul_one]at hA;have HLT:=Hj hlt;clear h4 hb hlt;generalize hy:l.getD j []=y at *;have HY:=Hj hy;clear hy
   by_cases e:y=x
   ·have hb:(y == x)=true:=by simp[e]
    have R:Hid (decide (x∈l)=true):=by
     show decide (x∈l)=true;rw[←e,←HY.out,List.getD_eq_getElem?_getD,List.getElem?_eq_getElem (by rw[←HL.out];exact HLT.out)]
     simp
    clear e;go_wp2_with fail;go_ret;exact⟨by rw[R.out];rfl,B1.out⟩
   ·have hb:(y == x)=false:=by simp[e]
    have R:Hid (∀i,i<j+1→l.getD i []≠x):=by
     intro i hi;rcases Nat.lt_succ_iff_lt_or_eq.1 hi with h|rfl
     ·exact HF.out i h
     ·rw[HY.out];exact e
    clear e;go_wp2_with fail
    go_roundg (n-(j+1))
    case measure=>have:=HJ.out;have:=HLT.out;omega
    case rel=>exact⟨j+1,by go_num,rfl,⟨rfl,HLT.out⟩,R.out⟩
  ·obtain rfl:j=n:=by have:=HJ.out;omega
   have z0:¬(j:Int)<(j:Int):=by omega
   have R:Hid (decide (x∈l)=false):=by
    refine decide_eq_false fun hx=>?_;obtain⟨i,hi,he⟩:=List.getElem_of_mem hx;refine HF.out i (by have:=HL.out;omega) ?_;rw[List.getD_eq_getElem?_getD,List.getElem?_eq_getElem hi];exact he
   clear hlt;go_wp2_with fail;go_ret;exact⟨by rw[R.out];rfl,B1.out⟩
theorem aFc (op:Int)(A:Option Addr)(c:Nat)(w:World):Calls Tryz.prog 71 #[.int .u8 op,.slice A 0 c] w fun e w'=>e=.returned (.int .u8 (bM op []))∧w'=w:=by
 by_cases c1:op=1
 ·subst c1
  go_enter Tryz.func71,Tryz.ntmps71;go_wp2_with fail;go_ret;exact⟨rfl,rfl⟩
 ·by_cases c2:op=2
  ·subst c2
   go_enter Tryz.func71,Tryz.ntmps71;go_wp2_with fail;go_ret;exact⟨rfl,rfl⟩
  ·by_cases c3:op=3
   ·subst c3
    go_enter Tryz.func71,Tryz.ntmps71;go_wp2_with fail;go_ret;exact⟨rfl,rfl⟩
   ·have e:bM op []=0:=by simp[bM,c1,c2,c3]
    rw[e];clear e;go_enter Tryz.func71,Tryz.ntmps71;go_wp2_with fail;go_ret;exact⟨rfl,rfl⟩
theorem aFb (op t:Int)(g c:Nat)(w:World)(h0:w.cell? ⟨g,0,none⟩=some (.int .u8 t)):Calls Tryz.prog 71 #[.int .u8 op,.slice (some ⟨g,0,.none⟩) 1 c] w fun e w'=>e=.returned (.int .u8 (bM op [t]))∧w'=w:=by
 by_cases t2:t=2
 ·subst t2
  by_cases k:op=17∨op=21∨op=18∨op=19∨op=20
  ·rcases k with rfl|rfl|rfl|rfl|rfl
   all_goals
    go_enter Tryz.func71,Tryz.ntmps71;go_wp2_with fail;go_ret;exact⟨rfl,rfl⟩
  ·obtain⟨a1,a2,a3,a4,a5⟩:¬op=17∧¬op=21∧¬op=18∧¬op=19∧¬op=20:=by omega
   have e:bM op [2]=0:=by simp[bM,a1,a2,a3,a4,a5]
   rw[e];clear e k;go_enter Tryz.func71,Tryz.ntmps71;go_wp2_with fail;go_ret;exact⟨rfl,rfl⟩
 ·by_cases t3:t=3
  ·subst t3
   clear t2
   by_cases k:op=17∨op=21∨op=18∨op=19∨op=20
   ·rcases k with rfl|rfl|rfl|rfl|rfl
    all_goals
     go_enter Tryz.func71,Tryz.ntmps71;go_wp2_with fail;go_ret;exact⟨rfl,rfl⟩
   ·obtain⟨a1,a2,a3,a4,a5⟩:¬op=17∧¬op=21∧¬op=18∧¬op=19∧¬op=20:=by omega
    have e:bM op [3]=0:=by simp[bM,a1,a2,a3,a4,a5]
    rw[e];clear e k;go_enter Tryz.func71,Tryz.ntmps71;go_wp2_with fail;go_ret;exact⟨rfl,rfl⟩
  ·by_cases t1:t=1
   ·subst t1
    clear t2 t3
    by_cases k:op=17∨op=21∨op=18∨op=19∨op=20
    ·rcases k with rfl|rfl|rfl|rfl|rfl
     all_goals
      go_enter Tryz.func71,Tryz.ntmps71;go_wp2_with fail;go_ret;exact⟨rfl,rfl⟩
    ·obtain⟨a1,a2,a3,a4,a5⟩:¬op=17∧¬op=21∧¬op=18∧¬op=19∧¬op=20:=by omega
     have e:bM op [1]=0:=by simp[bM,a1,a2,a3,a4,a5]
     rw[e];clear e k;go_enter Tryz.func71,Tryz.ntmps71;go_wp2_with fail;go_ret;exact⟨rfl,rfl⟩
   ·have e:bM op [t]=0:=by simp[bM,gB,t1,t2,t3]
    rw[e];clear e;have hb3:(t == 3)=false:=by simp[t3]
    have hb2:(t == 2)=false:=by simp[t2]
    by_cases k:op=17∨op=21∨op=18∨op=19∨op=20
    ·rcases k with rfl|rfl|rfl|rfl|rfl
     all_goals
      go_enter Tryz.func71,Tryz.ntmps71;go_wp2_with fail;go_ret;exact⟨rfl,rfl⟩
    ·obtain⟨a1,a2,a3,a4,a5⟩:¬op=17∧¬op=21∧¬op=18∧¬op=19∧¬op=20:=by omega
     clear k;go_enter Tryz.func71,Tryz.ntmps71;go_wp2_with fail;go_ret;exact⟨rfl,rfl⟩
end Go.Proofs.YtkbicfffokegeaaGreatDoor
namespace Go.Proofs.YtkbicfffokegeaaGreatDoor
set_option maxHeartbeats 16000000
open Go.RowKit
def eJ (s:Int):Int:=s / 4294967296
def cC (s:Int):Int:=s % 4294967296
def jB (x y:Int):Int:=if x<y then 1 else 0
theorem lS (s:Int):W32 (cC s):=⟨by unfold cC;omega,by unfold cC;omega⟩
theorem uS (s:Int):eJ s*4294967296+cC s=s:=by unfold eJ cC;omega
theorem aMu {x y c:Int}(hx:W32 x)(hy:W32 y)(hc:c≤1):eJ (x+y+c)≤1:=by
 have:=hx.2;have:=hy.2;unfold eJ;omega
theorem aMv {x y c:Int}(hx:W32 x)(hy:W32 y)(hc0:0≤c):0≤eJ (x+y+c):=by
 have:=hx.1;have:=hy.1;unfold eJ;omega
theorem aCl (x y:Int):0≤jB x y:=by unfold jB;split<;>decide
theorem aCk (x y:Int):jB x y≤1:=by unfold jB;split<;>decide
theorem zR {x y:Int}(hx:W32 x)(hy0:0≤y)(hy1:y≤4294967296):cC (x-y)=x-y+jB x y*4294967296:=by
 obtain⟨_,_⟩:=hx;unfold jB cC
 split<;>omega
theorem aNm (x y c:Int)(hx:W32 x)(hy:W32 y)(hc0:0≤c)(hc:c≤1)(w:World) :
  Calls Tryz.prog 279 #[.int .u32 x,.int .u32 y,.int .u32 c] w fun e w'=>e=.returned (.tuple #[.int .u32 (cC (x+y+c)),.int .u32 (eJ (x+y+c))])∧w=w':=by
 obtain⟨x0,x1⟩:=hx;obtain⟨y0,y1⟩:=hy;go_enter Tryz.func279,Tryz.ntmps279
 go_wp2
 go_ret2
 exact⟨rfl,rfl⟩
theorem uI (n:Nat)(h:n<4294967296):n.testBit 31=decide (2147483648≤n):=by
 rw[Nat.testBit_eq_decide_div_mod_eq,Bool.eq_iff_iff];simp only[decide_eq_true_eq];have e:(2:Nat) ^ 31=2147483648:=by decide
 rw[e];omega
theorem aJc (n:Nat)(h:n<4294967296):n / 2147483648=if n.testBit 31 then 1 else 0:=by
 rw[uI n h]
 by_cases hn:2147483648≤n
 iterate 2
  ·simp[hn];omega
theorem aJe (x y b:Int)(hx:W32 x)(hy:W32 y)(hb0:0≤b)(hb:b≤1) :
  bits BinOp.or IntKind.u32 (bits BinOp.and IntKind.u32 (bits BinOp.xor IntKind.u32 IntKind.u32.max x) y) (bits BinOp.and IntKind.u32 (bits BinOp.xor IntKind.u32 IntKind.u32.max (bits BinOp.xor IntKind.u32 x y)) ((x-y-b) % 4294967296)) / 2147483648=jB x (y+b):=by
 obtain⟨x0,x1⟩:=hx;obtain⟨y0,y1⟩:=hy;obtain⟨x,rfl⟩:=Int.eq_ofNat_of_zero_le x0;obtain⟨y,rfl⟩:=Int.eq_ofNat_of_zero_le y0;obtain⟨D,hD⟩:=Int.eq_ofNat_of_zero_le (show 0≤((x:Int) - y - b) % 4294967296 by omega);have em:IntKind.u32.max=((4294967295:Nat):Int):=by decide
 have lx:x<2 ^ 32:=by omega
 have ly:y<2 ^ 32:=by omega
 have lD:D<2 ^ 32:=by omega
 have lm:4294967295<2 ^ 32:=by decide
 have l1:=Nat.xor_lt_two_pow lm lx;have l2:=Nat.and_lt_two_pow (4294967295 ^^^ x) ly;have l3:=Nat.xor_lt_two_pow lx ly;have l4:=Nat.xor_lt_two_pow lm l3;have l5:=Nat.and_lt_two_pow (4294967295 ^^^ (x ^^^ y)) lD;have l6:=Nat.or_lt_two_pow l2 l5;rw[hD,em,u32_xor_nat _ _ lm lx,u32_and_nat _ _ l1 ly,u32_xor_nat _ _ lx ly,u32_xor_nat _ _ lm l3,u32_and_nat _ _ l4 lD,u32_or_nat _ _ l2 l5];have e:=aJc _ l6;have ee:((((4294967295 ^^^ x) &&& y ||| (4294967295 ^^^ (x ^^^ y)) &&& D):Nat):Int) / 2147483648=((((4294967295 ^^^ x) &&& y ||| (4294967295 ^^^ (x ^^^ y)) &&& D) / 2147483648:Nat):Int):=by omega
 rw[ee,e,Nat.testBit_or,Nat.testBit_and,Nat.testBit_and,Nat.testBit_xor,Nat.testBit_xor,Nat.testBit_xor,uI x lx,uI y ly,uI D lD,show Nat.testBit 4294967295 31=true by decide];unfold jB
 by_cases h1:2147483648≤x<;>by_cases h2:2147483648≤y<;>by_cases h3:2147483648≤D<;>simp[h1,h2,h3]<;>omega
theorem aKI (x y b:Int)(hx:W32 x)(hy:W32 y)(hb0:0≤b)(hb:b≤1)(w:World) :
  Calls Tryz.prog 278 #[.int .u32 x,.int .u32 y,.int .u32 b] w fun e w'=>e=.returned (.tuple #[.int .u32 (cC (x-(y+b))),.int .u32 (jB x (y+b))])∧w=w':=by
 have F:=Hj (aJe x y b hx hy hb0 hb);obtain⟨x0,x1⟩:=hx;obtain⟨y0,y1⟩:=hy;go_enter Tryz.func278,Tryz.ntmps278
 go_wp2
 rw[F.out]
 go_ret2
 refine⟨?_,rfl⟩;have e:(x-y-b) % 4294967296=cC (x-(y+b)):=by unfold cC;omega
 rw[←e];rfl
theorem aMU (x:Int)(h:W32 x)(w:World):Calls Tryz.prog 247 #[.int .u32 x] w fun e w'=>e=.returned (.int .i64 (Lib.bitLen x.toNat))∧w=w':=
 aMb x w h.1 (by have:=h.2;omega)
theorem aHP (x:Int)(h:bC x)(w:World):Calls Tryz.prog 182 #[.int .u64 x] w fun e w'=>e=.returned (.int .i64 (Lib.bitLen x.toNat))∧w=w':=
 aMa x w h.1 (by have:=h.2;omega)
theorem aKO (h l:Int)(hh:W32 h)(hl:W32 l):bits BinOp.or IntKind.u64 (h*4294967296) l=h*4294967296+l:=by
 obtain⟨x0,x1⟩:=hh;obtain⟨y0,y1⟩:=hl;obtain⟨x,rfl⟩:=Int.eq_ofNat_of_zero_le x0;obtain⟨y,rfl⟩:=Int.eq_ofNat_of_zero_le y0
 have e:(x:Int)*4294967296=((2 ^ 32*x:Nat):Int):=by
  rw[show(2:Nat) ^ 32=4294967296 by decide];omega
 have ly:y<2 ^ 32:=by omega
 rw[e,bits_or_u64_nat _ _ (by omega) (by omega),←Nat.two_pow_add_eq_or_of_lt ly,Int.natCast_add]
def aKG (h l d:Int)(w:World)(e:Ending)(w':World):Prop:=
 ∃q r:Int,W32 q∧W32 r∧r<d∧q*d+r=h*4294967296+l∧e=.returned (.tuple #[.int .u32 q,.int .u32 r])∧Below w.heap.size w w'
theorem aIx {h l d:Int}(hh:W32 h)(hl:W32 l)(hd:W32 d)(hlt:h<d):W32 ((h*4294967296+l) / d)∧W32 ((h*4294967296+l) % d)∧(h*4294967296+l) % d<d∧(h*4294967296+l) / d*d+(h*4294967296+l) % d=h*4294967296+l:=by
 obtain⟨x0,x1⟩:=hh;obtain⟨y0,y1⟩:=hl;obtain⟨z0,z1⟩:=hd;have hp:0<d:=by omega
 have r0:=Int.emod_nonneg (h*4294967296+l) (Int.ne_of_gt hp);have r1:=Int.emod_lt_of_pos (h*4294967296+l) hp;have e:=Int.ediv_mul_add_emod (h*4294967296+l) d;refine⟨⟨Int.ediv_nonneg (by omega) (by omega),?_⟩,⟨r0,by omega⟩,r1,e⟩;rw[Int.ediv_lt_iff_lt_mul hp];have:(h+1)*4294967296≤d*4294967296:=by omega
 omega
theorem aLa (h l d:Int)(hh:W32 h)(hl:W32 l)(hd:W32 d)(hlt:h<d)(w:World) :
  Calls Tryz.prog 259 #[.int .u32 h,.int .u32 l,.int .u32 d] w (aKG h l d w):=by
 have hor:=aKO h l hh hl;obtain⟨F1,F2,F3,F4⟩:=aIx hh hl hd hlt;have G1:=F1.1;have G2:=F1.2;have G3:=F2.1;have G4:=F2.2;obtain⟨x0,x1⟩:=hh;obtain⟨y0,y1⟩:=hl;obtain⟨z0,z1⟩:=hd;have hN0:0≤h*4294967296+l:=by omega
 have hN1:h*4294967296+l<18446744073709551616:=by omega
 have hz:(d == 0)=false:=by simp;omega
 have hz2:(d != 0)=true:=by simp;omega
 have hn:decide (d≤h)=false:=by simp;omega
 have H4:=Hj F4;clear F4;generalize hN:h*4294967296+l=N at *;go_enter Tryz.func259,Tryz.ntmps259;go_upto_region 4 with fail
 go_region
 go_wp2
 go_ret2
 exact⟨N / d,N % d,F1,F2,F3,by rw[H4.out,hN],rfl,aH (Below.refl _ _)⟩
theorem xQ:∀(f x:Nat),x<2 ^ f→Lib.bitLenAux f x=Go.bitLen x
 | 0,x,h=>by
  have:x=0:=by simpa using h
  subst this;rfl
 | f+1,x,h=>by
  simp only[Lib.bitLenAux]
  by_cases hx:x=0
  ·subst hx;rfl
  ·rw[if_neg hx,xQ f (x / 2) (by rw[Nat.pow_succ]at h;omega)]
   by_cases h1:x<2
   ·have:x=1:=by omega
    subst this;rfl
   ·have:=bitLen_shift x 1 (by omega)
    rw[this]
theorem wN (x:Nat)(h:x<18446744073709551616):Lib.bitLen x=Go.bitLen x:=xQ 64 x h
theorem aIM {x:Int}(h:W32 x):((Lib.bitLen x.toNat:Nat):Int)=bB x:=by
 unfold bB;rw[wN x.toNat (by have:=h.1;have:=h.2;omega)]
theorem oH {x:Int}(h:bC x):((Lib.bitLen x.toNat:Nat):Int)=bB x:=by
 unfold bB;rw[wN x.toNat (by have:=h.1;have:=h.2;omega)]
theorem mK {x:Int}{k:Nat}(h0:0≤x)(h1:x<2 ^ k):0≤bB x∧bB x≤k:=by
 obtain⟨n,e,lt,ge,z⟩:=dT h0;rw[e];refine⟨by omega,?_⟩;rcases Int.lt_or_le 0 x with hp|hp
 ·have g:=ge hp
  rcases Nat.lt_or_ge k n with hk|hk
  ·have:=bZ k (n-1) (by omega)
   omega
  ·omega
 ·rw[z (by omega)]
  omega
theorem aHQ (x:Int)(h:W32 x)(w:World):Calls Tryz.prog 247 #[.int .u32 x] w fun e w'=>e=.returned (.int .i64 (bB x))∧w=w':=by
 rw[←aIM h];exact aMU x h w
theorem aHO (x:Int)(h:bC x)(w:World):Calls Tryz.prog 182 #[.int .u64 x] w fun e w'=>e=.returned (.int .i64 (bB x))∧w=w':=by
 rw[←oH h];exact aHP x h w
theorem aNC (x:Int)(h:W32 x)(w:World):Calls Tryz.prog 260 #[.int .u32 x] w fun e w'=>e=.returned (.int .i64 (32-bB x))∧w=w':=by
 obtain⟨b0,b1⟩:=mK (k:=32) h.1 h.2;have L:=aHQ x h;generalize bB x=b at *;go_enter Tryz.func260,Tryz.ntmps260;go_wp2_with fail;refine(L _).mono ?_;rintro e w1 ⟨rfl,rfl⟩;clear L
 go_wp2
 go_ret;exact⟨rfl,rfl⟩
theorem pW (A:Option Addr)(n c:Nat)(ws:List Int)(i:Nat)(w:World)(hn:ws.length=n)(hr:Rn w A ws)(_ln:n≤1099511627776)(_hi:i≤9223372036854775807) :
  Calls Tryz.prog 253 #[.slice A n c,.int .i64 (i:Int)] w fun e w'=>e=.returned (.int .u32 (ws.getD i 0))∧w=w':=by
 have HN:=Hj hn
 by_cases hk:i<n
 ·obtain⟨g,off,rfl,hg,hcell⟩:=hr.at_ (i:=i) (by omega)
  generalize ws.getD i 0=x at *;clear hn hr;have hk1:(i:Int)<(n:Int):=by omega
  have hk2:decide ((n:Int)≤(i:Int))=false:=by simp;omega
  go_enter Tryz.func253,Tryz.ntmps253
  go_wp2
  go_ret;exact⟨rfl,rfl⟩
 ·rw[mG ws i (by omega)]
  have hk2:decide ((n:Int)≤(i:Int))=true:=by simp;omega
  clear hn hr;go_enter Tryz.func253,Tryz.ntmps253
  go_wp2
  go_ret;exact⟨rfl,rfl⟩
structure TrimOf (ws us:List Int) (m:Nat):Prop where
 eq:us=ws.take (dE ws)
 len:us.length=m
theorem TrimOf.nat {ws us:List Int}{m:Nat}(h:TrimOf ws us m)(ha:bN ws):IsNat (nv ws) us:=by rw[h.eq];exact IsNat.of_trim ha
theorem TrimOf.le {ws us:List Int}{m n:Nat}(h:TrimOf ws us m)(hn:ws.length=n):m≤n:=by
 rw[←h.len,h.eq,iU,←hn];exact uJ ws
theorem TrimOf.tl {ws us:List Int}{m:Nat}(h:TrimOf ws us m):dE us=m:=by rw[←h.len,h.eq,yR,iU]
def aMC (ws:List Int)(A:Option Addr)(w:World)(e:Ending)(w':World):Prop:=
 ∃(us:List Int) (A':Option Addr) (m c':Nat),TrimOf ws us m∧e=.returned (.slice A' m c')∧m≤c'∧Rn w A' us∧(∀a,A'=some a→A=some a)∧w=w'
theorem dI (A:Option Addr)(n c:Nat)(ws:List Int)(w:World)(hn:ws.length=n)(hc:n≤c)(hr:Rn w A ws)(ln:n≤1099511627776) :
  Calls Tryz.prog 236 #[.slice A n c] w (aMC ws A w):=by
 have HN:=Hj hn;clear hn;go_enter Tryz.func236,Tryz.ntmps236;go_wp2_with fail
 go_loop [7] (fun s7=>∃k:Nat,s7=.int .i64 (k:Int)∧k≤n∧Hid (∀j,n-k≤j→ws.getD j 0=0)) (fun s7=>n-(intOf s7).toNat)
 case atStart=>exact⟨0,rfl,Nat.zero_le _,fun j hj=>mG ws j (by have:=HN.out;omega)⟩
 case round=>
  obtain⟨k,rfl,hk,H⟩:=hrel
  by_cases hlt:k<n
  ·obtain⟨i,hi⟩:∃i,n - k=i+1:=⟨n - k - 1,by omega⟩
   obtain⟨g,off,rfl,hg,hcell⟩:=hr.at_ (i:=i) (by have:=HN.out;omega);have e1:(n:Int)-(k:Int)=(i:Int)+1:=by omega
   have hi1:(i:Int)<(n:Int):=by omega
   have hi2:(i:Int)+1≤(c:Int):=by omega
   by_cases ex:ws.getD i 0=0
   ·have H2:Hid (∀j,n-(k+1)≤j→ws.getD j 0=0):=fun j hj=>by
     rcases Nat.eq_or_lt_of_le (show i≤j by omega)with e|e
     ·subst e;exact ex
     ·exact H.out j (by omega)
    rw[ex]at hcell;clear ex H hi;go_wp2_with fail
    go_round
    case rel=>exact⟨k+1,by go_num,by omega,H2⟩
    case measure=>simp[intOf];omega
   ·have F:Hid (dE ws=i+1):=by
     show _=_;refine aAc (fun j hj=>H.out j (by omega)) fun _=>?_
     simpa using ex
    have ex2:(ws.getD i 0 != 0)=true:=by simpa using ex
    generalize ws.getD i 0=x at *;clear ex H hi;go_wp2_with fail;go_ret;refine⟨ws.take (i+1),some ⟨g,off,none⟩,i+1,c,⟨by rw[F.out],?_⟩,by go_num,by omega,hr.take _,fun a h=>h,rfl⟩;rw[List.length_take,HN.out];omega
  ·have F:Hid (dE ws=0):=aAc (fun j hj=>H.out j (by omega)) fun h=>by omega
   clear H;go_wp2_with fail;go_ret;exact⟨[],none,0,0,⟨by rw[F.out];simp,rfl⟩,rfl,aD _,.inl rfl,(fun a h=>by cases h),rfl⟩
theorem take_set (zs:List Int)(k:Nat)(x:Int):(zs.set k x).take k=zs.take k:=by
 rw[List.take_set,List.set_eq_of_length_le];rw[List.length_take];omega
theorem wT (zs:List Int)(k:Nat)(x:Int)(h:k<zs.length):(zs.set k x).getD k 0=x:=by
 rw[List.getD_eq_getElem?_getD,List.getElem?_set_self h];rfl
theorem cT (zs:List Int)(k j:Nat)(x:Int)(h:k≠j):(zs.set k x).getD j 0=zs.getD j 0:=by
 rw[List.getD_eq_getElem?_getD,List.getElem?_set_ne h,←List.getD_eq_getElem?_getD]
theorem nY (P:Int){c l s:Int}(e:c*4294967296+l=s):P*4294967296*c+P*l=P*s:=by rw[←e,Int.mul_add,Int.mul_assoc,Int.mul_comm 4294967296 c]
structure Only (g:Nat) (w w':World):Prop where
 base:Below g w w'
 rest:∀b,b≠g→b<w.heap.size→w'.heap[b]? = w.heap[b]?
theorem Only.refl (g:Nat)(w:World):Only g w w:=⟨Below.refl _ _,fun _ _ _=>rfl⟩
theorem Only.drew {g:Nat}{w w':World}(h:Only g w w'):Only g w w'.drew:=⟨h.base.drew,h.rest⟩
theorem Only.set_ {g:Nat}{w w':World}(h:Only g w w')(i:Nat)(u:Value):Only g w (w'.setCell ⟨g,i,none⟩ u):=
 ⟨h.base.setCell (aD _) u,fun b hb hl=>(Below.heap_setCell w' ⟨g,i,none⟩ u b hb).trans (h.rest b hb hl)⟩
theorem Only.trans {g:Nat}{w w1 w2:World}(h:Only g w w1)(k:Only g w1 w2):Only g w w2:=
 ⟨h.base.trans k.base,fun b hb hl=>(k.rest b hb (aE hl h.base.size)).trans (h.rest b hb hl)⟩
theorem Only.of_below {g:Nat}{w w':World}(h:Below w.heap.size w w')(hg:g<w.heap.size):Only g w w':=
 ⟨h.mono (Nat.le_of_lt hg),fun b _ hl=>h.block b hl⟩
theorem Only.below {g B:Nat}{w w1 w2:World}(h:Below B w w1)(k:Only g w1 w2)(hB:B≤g):Below B w w2:=h.trans (k.base.mono hB)
theorem Blk.only {g h:Nat}{w w':World}{t:TypeId}{cs:Array Value}(b:Blk w h t cs)(k:Only g w w')(hg:h≠g):Blk w' h t cs:=(k.rest h hg b.lt).trans b
theorem Only.cell {g:Nat}{w w':World}(k:Only g w w'){b i:Nat}(hb:b≠g)(hl:b<w.heap.size):w'.cell? ⟨b,i,none⟩=w.cell? ⟨b,i,none⟩:=by
 have:=k.rest b hb hl;simp only[World.cell?,this]
theorem Rn.only {g:Nat}{w w':World}{A:Option Addr}{ws:List Int}(h:Rn w A ws)(k:Only g w w')(hA:ws≠[]→∀a,A=some a→a.block≠g):Rn w' A ws:=by
 by_cases h0:ws=[]
 ·exact .inl h0
 rcases h with h|⟨b,off,e,hg,hc⟩
 ·exact .inl h
 ·refine .inr ⟨b,off,e,aE hg k.base.size,fun i x hi=>?_⟩
  rw[k.cell (hA h0 _ e) hg];exact hc i x hi
theorem Rn.ne {W:World}{g:Nat}{A:Option Addr}{ws:List Int}(h:Rn W A ws)(hg:W.heap.size≤g):ws≠[]→∀a,A=some a→a.block≠g:=fun h0 a ha=>by
 rcases h with h|⟨b,off,e,hb,hc⟩
 ·exact absurd h h0
 ·rw[e]at ha
  injection ha with ha;subst ha;show b≠g;omega
structure AddPr (vs zs zs':List Int) (x:Int) (off k:Nat) (cr:Int):Prop where
 len:zs'.length=zs.length
 all:bN zs'
 eq:nv zs'+2 ^ (32*(off+k))*cr=nv zs+2 ^ (32*off)*(nv (vs.take k)*x)
 same:∀j,j<off∨off+k≤j→zs'.getD j 0=zs.getD j 0
 car:W32 cr
theorem qD (off k:Nat):(2:Int) ^ (32*(off+k))=2 ^ (32*off)*2 ^ (32*k):=by rw[Nat.mul_add,Int.pow_add]
theorem nS {x y:Int}(hx:W32 x)(hy:W32 y):0≤y*x∧y*x≤18446744065119617025:=by
 obtain⟨x0,x1⟩:=hx;obtain⟨y0,y1⟩:=hy;refine⟨Int.mul_nonneg y0 x0,?_⟩;have:=Int.mul_le_mul (show y≤4294967295 by omega) (show x≤4294967295 by omega) x0 (by decide);omega
theorem AddPr.next {vs zs zs':List Int}{x y z:Int}{off k:Nat}{cr:Int}(h:AddPr vs zs zs' x off k cr)(hk:off+k<zs.length)(hx:W32 x)(hy:W32 y)(hz:W32 z)(ey:vs.getD k 0=y)(ez:zs'.getD (off+k) 0=z) :
  AddPr vs zs (zs'.set (off+k) (cC (y*x+z+cr))) x off (k+1) (eJ (y*x+z+cr)):=by
 obtain⟨h1,h2,h3,h4,h5⟩:=h;have pb:=nS hx hy;refine⟨by rw[List.length_set,h1],h2.set _ (lS _),?_,fun j hj=>?_,?_⟩
 ·rw[kV _ _ _ (by rw[h1];exact hk),bV,ey,ez,←Nat.add_assoc,lG]
  have e2:=nY (2 ^ (32*(off+k))) (uS (y*x+z+cr));have e3:(2:Int) ^ (32*(off+k))*(y*x)=2 ^ (32*off)*(2 ^ (32*k)*y*x):=by rw[qD,Int.mul_assoc,Int.mul_assoc]
  rw[Int.mul_add,Int.mul_add]at e2;rw[Int.mul_sub,Int.add_mul,Int.mul_add,←e3];omega
 ·rw[cT _ _ _ _ (by omega)]
  exact h4 j (by omega)
 ·obtain⟨_,_⟩:=hz
  obtain⟨_,_⟩:=h5
  constructor<;>unfold eJ<;>omega
def aEO (vs zs:List Int)(x:Int)(g off:Nat)(w:World)(e:Ending)(w':World):Prop:=
 ∃(zs':List Int) (cr:Int),AddPr vs zs zs' x off vs.length cr∧e=.returned (.int .u32 cr)∧Blk w' g 166 (cE zs')∧Only g w w'
theorem xT (B:Option Addr)(g off la ca m d:Nat)(vs zs:List Int)(x:Int)(w:World)(hm:vs.length=m)(hla:m≤la)(hoff:off+m≤zs.length)(hy:Rn w B vs)(hB:vs≠[]→∀a,B=some a→a.block≠g)(hv:bN vs)(hz:bN zs)(hx:W32 x)(BZ:Blk w g 166 (cE zs))(lm:m≤1048576)(lla:la≤2097152) :
  Calls Tryz.prog 241 #[.slice (some ⟨g,off,none⟩) la ca,.slice B m d,.int .u32 x] w (aEO vs zs x g off w):=by
 have HM:=Hj hm;have HBB:=Hj hB;obtain⟨x0,x1⟩:=id hx;clear hm hB;go_enter Tryz.func241,Tryz.ntmps241;go_wp2_with fail
 go_loopw [7,12] (fun s7 s12 wr=>∃(k:Nat) (us:List Int) (cr:Int),s7=.int .u64 cr∧s12=.int .i64 (k:Int)∧k≤m∧AddPr vs zs us x off k cr∧Blk wr g 166 (cE us)∧Hid (Only g w wr)) (fun _ s12 _=>m-(intOf s12).toNat)
 case atStart=>exact⟨0,zs,0,rfl,rfl,Nat.zero_le _,⟨rfl,hz,by simp[nv],fun _ _=>rfl,⟨by decide,by decide⟩⟩,BZ,Only.refl _ _⟩
 case round=>
  clear BZ;obtain⟨k,us,cr,rfl,rfl,hk,T,BZ,HO⟩:=hrel
  by_cases hlt:k<m
  ·have hyr:=hy.only HO.out HBB.out
   obtain⟨g2,off2,rfl,hg2,hc2⟩:=hyr.at_ (i:=k) (by rw[HM.out];exact hlt);have wy:=hv.getD k;have wz:=T.all.getD (off+k);have TN:=Hj (T.next (by omega) hx wy wz rfl rfl);have q0:=BZ.word (i:=off+k) (by rw[T.len];omega);have q1:wr.drew.frozen? ⟨g,off+k,none⟩=false:=BZ.frozen (off+k);have cw:=T.car;generalize vs.getD k 0=y at *;generalize us.getD (off+k) 0=z at *;have q2:wr.drew.cell? ⟨g,off+k,none⟩=some (.int .u32 z):=q0;have pb:=nS hx wy;obtain⟨pb0,pb1⟩:=pb;obtain⟨z0,z1⟩:=wz;obtain⟨y0,y1⟩:=wy;obtain⟨c0,c1⟩:=cw;have hl1:(k:Int)<(m:Int):=by omega
   have hl2:(k:Int)<(la:Int):=by omega
   have BZ2:=BZ.drew.set_ (off+k) (.int .u32 (cC (y*x+z+cr)));rw[dA]at BZ2;have HO2:Hid (Only g w (wr.drew.setCell ⟨g,off+k,none⟩ (.int .u32 (cC (y*x+z+cr))))):=HO.out.drew.set_ _ _;clear T BZ HO hyr;go_upto_region 5 with fail
   go_region
   have s0:0≤y*x+z+cr:=by omega
   have s1:y*x+z+cr≤18446744073709551615:=by omega
   have e1:(y*x+z+cr) % 4294967296=cC (y*x+z+cr):=rfl;have e2:(y*x+z+cr) / 4294967296=eJ (y*x+z+cr):=rfl;generalize y*x+z+cr=s at *;generalize cC s=l at *;generalize eJ s=cr' at *;go_wp2_with fail
   go_roundw
   case rel=>exact⟨k+1,_,cr',by rw[←e2],by go_num,by omega,TN.out,BZ2,HO2⟩
   case measure=>simp[intOf];omega
  ·have ek:k=m:=by omega
   subst ek;have fin:AddPr vs zs us x off vs.length cr:=by rw[HM.out];exact T
   obtain⟨c0,c1⟩:=T.car;clear T;go_wp2_with fail;go_ret;exact⟨us,cr,fin,rfl,BZ,HO.out⟩
structure MulTo (us vs zs:List Int) (n k:Nat):Prop where
 len:zs.length=n
 all:bN zs
 eq:nv zs=nv (us.take k)*nv vs
 high:∀j,k+vs.length≤j→zs.getD j 0=0
theorem MulTo.next {us vs zs zs':List Int}{n k:Nat}{x cr:Int}(h:MulTo us vs zs n k)(hp:AddPr vs zs zs' x k vs.length cr)(ex:us.getD k 0=x)(hk:k+vs.length<n):MulTo us vs (zs'.set (k+vs.length) cr) n (k+1):=by
 obtain⟨h1,h2,h3,h4⟩:=h;obtain⟨p1,p2,p3,p4,p5⟩:=hp;refine⟨by rw[List.length_set,p1,h1],p2.set _ p5,?_,fun j hj=>?_⟩
 ·rw[kV _ _ _ (by omega),p4 _ (by omega),h4 _ (aD _),bV,ex,Int.add_mul,←h3]
  rw[List.take_length]at p3;rw[Int.mul_assoc,Int.mul_comm x,Int.sub_zero];omega
 ·rw[cT _ _ _ _ (by omega),p4 _ (by omega)]
  exact h4 j (by omega)
theorem wI (A B:Option Addr)(n m c d:Nat)(us vs:List Int)(w:World)(hn:us.length=n)(hm:vs.length=m)(hc:n≤c)(hd:m≤d)(hx:Rn w A us)(hy:Rn w B vs)(hu:bN us)(hv:bN vs)(ln:n≤1048576)(lm:m≤1048576) :
  Calls Tryz.prog 221 #[.slice A n c,.slice B m d] w (aDQ (nv us*nv vs) w):=by
 have HN:=Hj hn;have HM:=Hj hm;obtain⟨va,hva⟩:∃va,nv us=va:=⟨_,rfl⟩;obtain⟨vb,hvb⟩:∃vb,nv vs=vb:=⟨_,rfl⟩;rw[hva,hvb];have HVA:=Hj hva;have HVB:=Hj hvb;clear hn hm hva hvb;go_enter Tryz.func221,Tryz.ntmps221;go_wp2_with fail;refine(dI A n c us w HN.out hc hx (by omega)).mono ?_;rintro e w1 ⟨us',A1,n1,c1,TU,rfl,hc1,hx1, -,rfl⟩;go_wp2_with fail;refine(dI B m d vs w HM.out hd hy (by omega)).mono ?_;rintro e w1 ⟨vs',B1,m1,d1,TV,rfl,hd1,hy1, -,rfl⟩;have a1:=(TU.nat hu).all;have a2:=(TV.nat hv).all;have HVA':Hid (nv us'=va):=(TU.nat hu).val.trans HVA.out;have HVB':Hid (nv vs'=vb):=(TV.nat hv).val.trans HVB.out;have ln1:=TU.le HN.out;have lm1:=TV.le HM.out;have HN1:=Hj TU.len;have HM1:=Hj TV.len;clear TU TV hx hy hu hv HVA HVB;obtain⟨N,hN⟩:∃N,n1+m1=N:=⟨_,rfl⟩;obtain⟨r0,hr0⟩:∃r0,r0=List.replicate N (0:Int):=⟨_,rfl⟩;have hmk:=gQ ((n1:Int)+(m1:Int)) N (by omega) (by omega) r0 hr0;have HR0:=Hj hr0;have hN1:n1+m1≤N:=by omega
 have hN2:N≤n1+m1:=by omega
 clear hr0 hN;go_wp2_with fail;clear hmk
 go_loopw [19] (fun s19 wr=>∃(k:Nat) (zs:List Int),s19=.int .i64 (k:Int)∧k≤n1∧MulTo us' vs' zs N k∧Blk wr w.heap.size 166 (cE zs)∧Hid (Below w.heap.size w wr)) (fun s19 _=>n1-(intOf s19).toNat)
 case atStart=>exact⟨0,r0,rfl,Nat.zero_le _,⟨by rw[HR0.out];simp,by rw[HR0.out];exact bN.zeros _,by rw[HR0.out,qH];simp[nv],fun j _=>by rw[HR0.out,List.getD_eq_getElem?_getD,List.getElem?_replicate];split<;>rfl⟩,Blk.new _ _ _,aI (Below.refl _ _) _⟩
 case round=>
  obtain⟨k,zs,rfl,hk,T,BZ,HB⟩:=hrel
  by_cases hlt:k<n1
  ·have hxr:=hx1.below HB.out (aD _)
   have hyr:=hy1.below HB.out (aD _);obtain⟨g,off,rfl,hg,hcell⟩:=hxr.at_ (i:=k) (by rw[HN1.out];exact hlt);have wx:=a1.getD k
   have TN:Hid (∀zs' cr,AddPr vs' zs zs' (us'.getD k 0) k vs'.length cr→MulTo us' vs' (zs'.set (k+m1) cr) N (k+1)∧k+m1<zs'.length):=fun zs' cr hp=>by
    have:=T.next hp rfl (by rw[HM1.out];omega);rw[HM1.out]at this;exact⟨this,by rw[hp.len,T.len];omega⟩
   have hB1:=Hj (hy1.ne (aD _));generalize us'.getD k 0=x at *;have hl1:(k:Int)<(n1:Int):=by omega
   have hl2:(k:Int)<(N:Int):=by omega
   have hl3:(k:Int)+(m1:Int)<(N:Int):=by omega
   have hcell':wr.drew.cell? ⟨g,off+k,none⟩=some (.int .u32 x):=hcell;have HBd:=Hj (aH HB.out)
   have CALL:Hid (∀la ca,m1≤la→la≤2097152→Calls Tryz.prog 241 #[.slice (some ⟨w.heap.size,k,none⟩) la ca,.slice B1 m1 d1,.int .u32 x] wr.drew (aEO vs' zs x w.heap.size k wr.drew)):=fun la ca h1 h2=>
    xT B1 w.heap.size k la ca m1 d1 vs' zs x wr.drew HM1.out h1 (by rw[T.len];omega) hyr.drew hB1.out a2 T.all wx BZ.drew (by omega) h2
   clear hcell T BZ HB hxr hyr;go_upto_region 6 with fail
   go_region_with
    (first
     | (go_at_call 241;refine(CALL.out _ _ (by omega) (by omega)).mono ?_;rintro e w' ⟨zs',cr,hp,rfl,BZ',HO'⟩;have hq:=TN.out zs' cr hp;have q0:=BZ'.word (i:=k+m1) hq.2;have q1:=BZ'.frozen (k+m1);have TM:=hq.1;clear hp hq))
   all_goals
    have BZ2:=BZ'.set_ (k+m1) (.int .u32 cr);rw[dA]at BZ2;have HB2:Hid (Below w.heap.size w (w'.setCell ⟨w.heap.size,k+m1,none⟩ (.int .u32 cr))):=dQ (HO'.below HBd.out (aD _)) (aD _) _;go_wp2_with fail
    go_roundw
    case rel=>exact⟨k+1,_,by go_num,by omega,TM,BZ2,HB2⟩
    case measure=>simp[intOf];omega
  ·have ek:k=n1:=by omega
   subst ek
   have FIN:Hid (nv zs=va*vb):=by
    show _=_;rw[T.eq,List.take_of_length_le (by rw[HN1.out];exact aD _),HVA'.out,HVB'.out]
   have ha:=T.all;have HL:=Hj T.len;clear T;go_wp2_with fail;refine(dI (some ⟨w.heap.size,0,none⟩) N N zs wr HL.out (aD _) BZ.words (by omega)).mono ?_;rintro e w1 ⟨ts,A',m',c',T,rfl,hmc,hra,hfr,rfl⟩
   have fin2:IsNat (va*vb) ts:=by
    rw[←FIN.out];exact T.nat ha
   go_wp2_with fail;go_ret;exact⟨ts,A',m',c',fin2,T.len,rfl,hmc,hra,fun a h=>by injection hfr a h with h;rw[←h];exact aD _,HB.out⟩
theorem lE (j:Nat)(hj:j≤32):(2:Int) ^ (32-j)*2 ^ j=4294967296:=by
 rw[←Int.pow_add,show 32-j+j=32 by omega]
 decide
theorem aBE (j:Nat)(hj:j≤32):(2:Int) ^ j≤4294967296:=by
 have:=bZ j 32 hj
 simpa using this
theorem aEW (x:Int)(j:Nat)(hj:j≤32):x / 2 ^ (32-j)*4294967296+IntKind.u32.wrap (x*2 ^ j)=x*2 ^ j:=by
 have e:x*2 ^ j / 4294967296=x / 2 ^ (32-j):=by
  rw[←lE j hj];exact Int.mul_ediv_mul_of_pos_left _ _ (aM j)
 rw[IntKind.wrap_u32,←e];omega
theorem aCF {x:Int}(hx:W32 x)(j:Nat)(hj:j≤32):0≤x / 2 ^ (32-j)∧x / 2 ^ (32-j)<2 ^ j:=by
 refine⟨Int.ediv_nonneg hx.1 (Int.le_of_lt (aM _)),?_⟩;have:=lE j hj;rw[Int.ediv_lt_iff_lt_mul (aM _),Int.mul_comm,this];exact hx.2
theorem uY (x:Int)(j:Nat)(hj:j≤32):IntKind.u32.wrap (x*2 ^ j)=x % 2 ^ (32-j)*2 ^ j:=by
 rw[IntKind.wrap_u32,←lE j hj,Int.mul_comm x,Int.mul_comm (2 ^ (32-j)),Int.mul_emod_mul_of_pos _ _ (aM j),Int.mul_comm]
theorem kZ (x:Int)(j:Nat)(hj:j≤32):0≤IntKind.u32.wrap (x*2 ^ j)∧IntKind.u32.wrap (x*2 ^ j)+2 ^ j≤4294967296:=by
 refine⟨by rw[IntKind.wrap_u32];omega,?_⟩;have h1:=Int.emod_lt_of_pos x (aM (32-j));have h2:(x % 2 ^ (32-j)+1)*2 ^ j≤2 ^ (32-j)*2 ^ j:=Int.mul_le_mul_of_nonneg_right (by omega) (Int.le_of_lt (aM j));rw[lE j hj,Int.add_mul]at h2;rw[uY x j hj];omega
theorem aHr (x y:Int)(hy:0≤y)(j:Nat)(hj:j≤32)(hy':y<2 ^ j):bits .or .u32 y (IntKind.u32.wrap (x*2 ^ j))=y+IntKind.u32.wrap (x*2 ^ j):=by
 obtain⟨y,rfl⟩:=Int.eq_ofNat_of_zero_le hy;have hp:=aBE j hj;have hr:=kZ x j hj;obtain⟨m,hm⟩:=Int.eq_ofNat_of_zero_le (Int.emod_nonneg x (Int.ne_of_gt (aM (32 - j))))
 have e:IntKind.u32.wrap (x*2 ^ j)=((2 ^ j*m:Nat):Int):=by
  rw[uY x j hj,hm,Int.natCast_mul,Int.mul_comm]
  simp
 have hyn:y<2 ^ j:=by
  have:(y:Int)<((2 ^ j:Nat):Int):=by simpa using hy'
  omega
 rw[e]at hr ⊢;have l1:2 ^ j*m<4294967296:=by have:=aM j;omega
 rw[u32_or_nat _ _ (by omega) l1,Nat.or_comm,←Nat.two_pow_add_eq_or_of_lt hyn,Int.natCast_add,Int.add_comm]
structure LiftTo (us zs:List Int) (L s r k:Nat):Prop where
 len:zs.length=L
 all:bN zs
 eq:nv zs=2 ^ (32*s+r)*nv (us.take k)
 high:∀j,s+k<j→zs.getD j 0=0
 top:zs.getD (s+k) 0<2 ^ r
theorem LiftTo.next {us zs:List Int}{L s r k:Nat}{x t:Int}(h:LiftTo us zs L s r k)(hr:r≤32)(hx:W32 x)(ex:us.getD k 0=x)(et:zs.getD (s+k) 0=t)(hk:s+k+1<L) :
  LiftTo us ((zs.set (s+k) (t+IntKind.u32.wrap (x*2 ^ r))).set (s+k+1) (x / 2 ^ (32-r))) L s r (k+1):=by
 obtain⟨h1,h2,h3,h4,h5⟩:=h;have b1:=kZ x r hr;have b2:=aCF hx r hr;have b3:=aBE r hr;have wt:=h2.getD (s+k);rw[et]at wt h5;obtain⟨t0,t1⟩:=wt;refine⟨by rw[List.length_set,List.length_set,h1],(h2.set _ ⟨by omega,by omega⟩).set _ ⟨b2.1,by omega⟩,?_,fun j hj=>?_,?_⟩
 ·rw[kV _ _ _ (by rw[List.length_set];omega),kV _ _ _ (by omega),cT _ _ _ _ (by omega),h4 (s+k+1) (by omega),et,bV,ex,h3,lG]
  have e1:=nY (2 ^ (32*(s+k))) (aEW x r hr)
  have e2:(2:Int) ^ (32*(s+k))*(x*2 ^ r)=2 ^ (32*s+r)*(2 ^ (32*k)*x):=by
   rw[qD,Int.pow_add,Int.mul_assoc,Int.mul_assoc,←Int.mul_assoc (2 ^ (32*k)),Int.mul_comm _ (2 ^ r)]
  rw[e2]at e1;rw[Int.mul_add,Int.sub_zero,show t+IntKind.u32.wrap (x*2 ^ r)-t=IntKind.u32.wrap (x*2 ^ r) by omega];omega
 ·rw[cT _ _ _ _ (by omega),cT _ _ _ _ (by omega)]
  exact h4 j (by omega)
 ·rw[show s+(k+1)=s+k+1 by omega,wT _ _ _ (by rw[List.length_set];omega)]
  exact b2.2
structure LiftOf (v:Int) (L:Nat) (zs:List Int):Prop where
 len:zs.length=L
 all:bN zs
 val:nv zs=v
def aKD (v:Int)(L:Nat)(w:World)(e:Ending)(w':World):Prop:=
 ∃(zs:List Int) (g:Nat),LiftOf v L zs∧e=.returned (.slice (some ⟨g,0,none⟩) L L)∧w.heap.size≤g∧Blk w' g 166 (cE zs)∧Below w.heap.size w w'
theorem wM (A:Option Addr)(n c N s L:Nat)(us:List Int)(w:World)(hn:us.length=n)(hx:Rn w A us)(hu:bN us)(ln:n≤1048576)(hs:N / 32=s)(hN:N≤16777216)(hL:s+n+1=L) :
  Calls Tryz.prog 258 #[.slice A n c,.int .i64 (N:Int)] w (aKD (2 ^ N*nv us) L w):=by
 have HN:=Hj hn;have e1:(N:Int) / 32=(s:Int):=by omega
 have hr32:N % 32<32:=by omega
 have hNN:Hid (N=32*s+N % 32):=by show _=_;omega
 obtain⟨r0,hr0⟩:∃r0,r0=List.replicate L (0:Int):=⟨_,rfl⟩;have hmk:=gQ ((s:Int)+(n:Int)+1) L (by omega) (by omega) r0 hr0;have HR0:=Hj hr0;have hL1:s+n+1≤L:=by omega
 have hL2:L≤s+n+1:=by omega
 have hs1:s≤524288:=by omega
 clear hn hr0 hs hL;go_enter Tryz.func258,Tryz.ntmps258;go_wp2_with fail;clear hmk e1
 go_loopw [20] (fun s20 wr=>∃(k:Nat) (zs:List Int),s20=.int .i64 (k:Int)∧k≤n∧LiftTo us zs L s (N % 32) k∧Blk wr w.heap.size 166 (cE zs)∧Hid (Below w.heap.size w wr)) (fun s20 _=>n-(intOf s20).toNat)
 case atStart=>
  have z:∀j,r0.getD j 0=0:=fun j=>by rw[HR0.out,List.getD_eq_getElem?_getD,List.getElem?_replicate];split<;>rfl
  exact⟨0,r0,rfl,Nat.zero_le _,⟨by rw[HR0.out];simp,by rw[HR0.out];exact bN.zeros _,by rw[HR0.out,qH];simp[nv],fun j _=>z j,by rw[z];exact aM _⟩,Blk.new _ _ _,aI (Below.refl _ _) _⟩
 case round=>
  obtain⟨k,zs,rfl,hk,T,BZ,HB⟩:=hrel
  by_cases hlt:k<n
  ·have hxr:=hx.below HB.out (aD _)
   obtain⟨g,off,rfl,hg,hcell⟩:=hxr.at_ (i:=k) (by rw[HN.out];exact hlt)
   have hne:g≠w.heap.size:=by
    rcases hx with h|⟨g',off',e,hg',_⟩
    ·have:=HN.out;rw[h]at this;simp at this;omega
    ·injection e with e;injection e with e3 e4;omega
   have wx:=hu.getD k;have TN:=Hj (T.next (by omega) wx rfl rfl (by omega));have q0:=BZ.word (i:=s+k) (by rw[T.len];omega);have q1:=BZ.frozen (s+k);have wt:=T.all.getD (s+k);have top:=T.top;have q5:∃z,wr.cell? ⟨w.heap.size,s+k+1,none⟩=some (.int .u32 z):=⟨_,BZ.word (by rw[T.len];omega)⟩;obtain⟨z,q5⟩:=q5;have q6:=BZ.frozen (s+k+1);generalize us.getD k 0=x at *;generalize zs.getD (s+k) 0=t at *;have hor:=aHr x t wt.1 (N % 32) (by omega) top;have wrm:=kZ x (N % 32) (by omega);rw[IntKind.wrap_u32]at hor wrm TN;have ehh:(32-(N:Int) % 32).toNat=32-N % 32:=by omega
   have hl1:(k:Int)<(n:Int):=by omega
   have hl2:(s:Int)+(k:Int)<(L:Int):=by omega
   have hl3:(s:Int)+(k:Int)+1<(L:Int):=by omega
   have p0:wr.drew.cell? ⟨w.heap.size,s+k,none⟩=some (.int .u32 t):=q0;have p1:wr.drew.frozen? ⟨w.heap.size,s+k,none⟩=false:=q1;have HOR:=Hj hor;clear hor;go_upto_region 6 with fail
   go_region
   rw[HOR.out];clear HOR q5 q6;generalize x*2 ^ (N % 32) % 4294967296=y at *;have BZ1:=(BZ.set_ (s+k) (.int .u32 (t+y))).drew;rw[dA]at BZ1;have HB1:Hid (Below w.heap.size w (wr.setCell ⟨w.heap.size,s+k,none⟩ (.int .u32 (t+y))).drew):=aH (dQ HB.out (aD _) _);have hc1:(wr.setCell ⟨w.heap.size,s+k,none⟩ (.int .u32 (t+y))).drew.cell? ⟨g,off+k,none⟩=some (.int .u32 x):=(World.cell?_setCell_other wr ⟨w.heap.size,s+k,none⟩ ⟨g,off+k,none⟩ (.int .u32 (t+y)) (fun e=>hne (by injection e with e;exact e.symm))).trans hcell
   have hg1:g<(wr.setCell ⟨w.heap.size,s+k,none⟩ (.int .u32 (t+y))).drew.heap.size:=by
    have:=HB1.out.size;rcases hx with h|⟨g',off',e,hg',_⟩
    ·have h2:=HN.out;rw[h]at h2;simp at h2;omega
    ·injection e with e;injection e with e3 e4;omega
   have hl:=T.len;clear p0 p1 q0 q1 hcell BZ HB T hxr;generalize (wr.setCell ⟨w.heap.size,s+k,none⟩ (.int .u32 (t+y))).drew=w1 at *;obtain⟨z1,q5⟩:∃z,w1.cell? ⟨w.heap.size,s+k+1,none⟩=some (.int .u32 z):=⟨_,BZ1.word (by rw[List.length_set,hl];omega)⟩;have q6:=BZ1.frozen (s+k+1);have BZ2:=BZ1.set_ (s+k+1) (.int .u32 (x / 2 ^ (32-N % 32)));rw[dA]at BZ2;have HB2:Hid (Below w.heap.size w (w1.setCell ⟨w.heap.size,s+k+1,none⟩ (.int .u32 (x / 2 ^ (32-N % 32))))):=dQ HB1.out (aD _) _;clear hl hx;go_wp2_with fail
   go_roundw
   case rel=>exact⟨k+1,_,by go_num,by omega,TN.out,BZ2,HB2⟩
   case measure=>simp[intOf];omega
  ·have ek:k=n:=by omega
   subst ek;have FIN:LiftOf (2 ^ N*nv us) L zs:=⟨T.len,T.all,by rw[T.eq,List.take_of_length_le (by rw[HN.out];exact aD _),←hNN.out]⟩;clear T;go_wp2_with fail;go_ret;exact⟨zs,w.heap.size,FIN,rfl,aD _,BZ,HB.out⟩
end Go.Proofs.YtkbicfffokegeaaGreatDoor
