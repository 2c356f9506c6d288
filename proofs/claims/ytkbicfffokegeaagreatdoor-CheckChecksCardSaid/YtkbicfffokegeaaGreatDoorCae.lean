/-
  Whatever program is handed in, CheckChecks answers true. (part 5 of 38) Conditions: none beside what the card ties.
-/
import Derived.Test.YtkbicfffokegeaaGreatDoorCab
namespace Go.Proofs.YtkbicfffokegeaaGreatDoor
set_option maxHeartbeats 16000000
open Go.RowKit
def val:List Bool→Int
 | []=>0
 | b::r=>(if b then 1 else 0)+2*val r
theorem fY:∀xs:List Bool,0≤val xs
 | []=>by simp[val]
 | b::r=>by have:=fY r;simp only[val];split<;>omega
theorem aAa:∀xs:List Bool,val xs<2 ^ xs.length
 | []=>by simp[val]
 | b::r=>by
  have:=aAa r;simp only[val,List.length_cons,Int.pow_succ]
  split<;>omega
theorem lU:∀xs ys:List Bool,val (xs++ys)=val xs+2 ^ xs.length*val ys
 | [],ys=>by simp[val]
 | b::r,ys=>by
  simp only[List.cons_append,val,lU r ys,List.length_cons,Int.pow_succ];rw[Int.mul_right_comm];omega
theorem vB (xs:List Bool)(b:Bool):val (xs++[b])=val xs+if b then 2 ^ xs.length else 0:=by
 rw[lU];cases b<;>simp[val]
theorem xZ (n:Nat):val (List.replicate n false)=0:=by
 induction n with
 | zero=>rfl
 | succ n ih=>simp[List.replicate_succ,val,ih]
theorem kP (xs:List Bool)(k:Nat)(hk:k≤xs.length):val xs=val (xs.take k)+2 ^ k*val (xs.drop k):=by
 have h:=lU (xs.take k) (xs.drop k);rw[List.take_append_drop,List.length_take,Nat.min_eq_left hk]at h;exact h
theorem aGh (xs:List Bool)(k:Nat)(hk:k≤xs.length):val (xs.drop k)=val xs / 2 ^ k∧val (xs.take k)=val xs % 2 ^ k:=by
 have h:=kP xs k hk;have h0:=fY (xs.take k);have h1:=aAa (xs.take k);rw[List.length_take,Nat.min_eq_left hk]at h1;have hp:=aM k;constructor
 ·rw[h,Int.add_mul_ediv_left _ _ (Int.ne_of_gt hp),Int.ediv_eq_zero_of_lt h0 h1]
  omega
 ·rw[h,Int.add_mul_emod_self_left,Int.emod_eq_of_lt h0 h1]
def xV (w:World)(g:Nat)(t:TypeId):Prop:=∃cs f,w.heap[g]? = some (.cells cs t f)
theorem xV.lt {w:World}{g:Nat}{t:TypeId}(h:xV w g t):g<w.heap.size:=by
 obtain⟨cs,f,h⟩:=h;rcases Nat.lt_or_ge g w.heap.size with hlt|hge
 ·exact hlt
 ·rw[Array.getElem?_eq_none hge]at h;cases h
theorem xV.below {w w':World}{g:Nat}{t:TypeId}{B:Nat}(h:xV w g t)(hb:Below B w w')(hg:g<B):xV w' g t:=by
 obtain⟨cs,f,h⟩:=h;exact⟨cs,f,(hb.block g hg).trans h⟩
theorem Blk.typed {w:World}{g:Nat}{t:TypeId}{cs:Array Value}(h:Blk w g t cs):xV w g t:=⟨cs,(0,0),h⟩
def Rd (w:World)(A:Option Addr)(xs:List Bool):Prop:=
 xs=[]∨∃g off,A=some ⟨g,off,none⟩∧xV w g 4∧∀i b,xs[i]? = some b→w.cell? ⟨g,off+i,none⟩=some (.bool b)
theorem Rd.below {w w':World}{A:Option Addr}{xs:List Bool}{B:Nat}(h:Rd w A xs)(hb:Below B w w')(hB:w.heap.size≤B):Rd w' A xs:=by
 rcases h with h|⟨g,off,e,hg,hc⟩
 ·exact .inl h
 ·have hl:=hg.lt
  exact .inr ⟨g,off,e,hg.below hb (by omega),fun i b hi=>(hb.cell (p:=⟨g,off+i,none⟩) (by show g<B;omega)).trans (hc i b hi)⟩
theorem Rd.at_ {w:World}{A:Option Addr}{xs:List Bool}(h:Rd w A xs){i:Nat}(hi:i<xs.length):∃g off,A=some ⟨g,off,none⟩∧g<w.heap.size∧w.cell? ⟨g,off+i,none⟩=some (.bool (xs.getD i false)):=by
 rcases h with h|⟨g,off,e,hg,hc⟩
 ·subst h;simp at hi
 ·exact⟨g,off,e,hg.lt,hc i _ (by rw[List.getD_eq_getElem?_getD,List.getElem?_eq_getElem hi];rfl)⟩
theorem Rd.take {w:World}{A:Option Addr}{xs:List Bool}(h:Rd w A xs)(k:Nat):Rd w A (xs.take k):=by
 rcases h with h|⟨g,off,e,hg,hc⟩
 ·subst h;exact .inl (by simp)
 ·refine .inr ⟨g,off,e,hg,fun i b hi=>hc i b ?_⟩
  rw[List.getElem?_take]at hi
  split at hi
  ·exact hi
  ·cases hi
def aNr (w:World)(v:Value)(xs:List Bool):Prop:=∃(A:Option Addr) (c:Nat),v=.slice A xs.length c∧xs.length≤c∧c≤maxLen∧Rd w A xs
def aAT (P:List Bool→Prop)(w:World)(e:Ending)(w':World):Prop:=∃(xs:List Bool) (A:Option Addr) (c:Nat),P xs∧e=.returned (.slice A xs.length c)∧xs.length≤c∧c≤maxLen∧Rd w' A xs∧Below w.heap.size w w'
theorem aAm {w:World}{base:Nat}{v:Value}{n:Nat}{xs:List Bool}(h:w.ownsRow base 4 1 v n (xs.map Value.bool)):aNr w v xs:=by
 have hl:xs.length=n:=by have:=h.1;simpa using this
 rcases h.2 with⟨rfl,rfl⟩|⟨g,cap,cur,rfl,hb,hh,hc,hm,hs,ht⟩
 ·have:xs=[]:=List.eq_nil_of_length_eq_zero hl
  subst this;exact⟨none,0,rfl,aD _,by simp[maxLen],.inl rfl⟩
 ·subst hl
  refine⟨some ⟨g,0,none⟩,cap,rfl,hc,hm,?_⟩
  by_cases hx:xs=[]
  ·exact .inl hx
  ·refine .inr ⟨g,0,rfl,⟨cur,(0,0),hh⟩,fun i b hi=>?_⟩
   ·rw[cell_of_row w g (0+i) cur 4 (0,0) hh]
    have e:(cur.toList.take (xs.length*1))[i]? = some (.bool b):=by rw[ht,List.getElem?_map,hi];rfl
    rw[List.getElem?_take]at e
    split at e
    ·simpa using e
    ·cases e
def rA (xs:List Bool)(i:Int):Bool:=decide (0≤i) && xs.getD i.toNat false
theorem uU (A:Option Addr)(n c:Nat)(xs:List Bool)(i:Int)(w:World)(hn:xs.length=n)(hr:Rd w A xs)(_hm:n≤1099511627776) :
  Calls Tryz.prog 190 #[.slice A n c,.int .i64 i] w fun e w'=>e=.returned (.bool (rA xs i))∧w=w':=by
 have HN:=Hj hn
 by_cases h0:0≤i
 ·obtain⟨k,rfl⟩:=Int.eq_ofNat_of_zero_le h0
  by_cases hk:k<n
  ·obtain⟨g,off,rfl,hg,hcell⟩:=hr.at_ (i:=k) (by omega)
   have hF:Hid (rA xs (k:Int)=xs.getD k false):=by show _=_;simp[rA]
   generalize xs.getD k false=b at *;clear hn hr;have hk':(k:Int)<(n:Int):=by omega
   go_enter Tryz.func190,Tryz.ntmps190
   go_wp2
   go_ret;exact⟨by rw[hF.out];rfl,rfl⟩
  ·have hF:Hid (rA xs (k:Int)=false):=by show _=_;simp only[rA,Int.toNat_natCast,List.getD_eq_getElem?_getD];rw[List.getElem?_eq_none (by omega)];simp
   have hk':decide ((k:Int)<(n:Int))=false:=by simp;omega
   clear hn hr;go_enter Tryz.func190,Tryz.ntmps190
   go_wp2
   go_ret;exact⟨by rw[hF.out];rfl,rfl⟩
 ·have hF:Hid (rA xs i=false):=by show _=_;simp[rA,h0]
  have hk':decide (0≤i)=false:=by simp;omega
  clear hn hr;go_enter Tryz.func190,Tryz.ntmps190
  go_wp2
  go_ret;exact⟨by rw[hF.out];rfl,rfl⟩
theorem iL (xs:List Bool)(j:Nat):xs.getD (j+1) false=xs.tail.getD j false:=by cases xs<;>rfl
theorem jP (xs:List Bool):val xs=(if xs.getD 0 false then 1 else 0)+2*val xs.tail:=by cases xs<;>simp[val]
theorem pY:∀ys:List Bool,(∀j,ys.getD j false=false)→val ys=0
 | [],_=>rfl
 | b::r,h=>by
  have h0:=h 0;have h1:=pY r fun j=>h (j+1)
  simp at h0
  simp[val,h0,h1]
theorem vC:∀xs ys:List Bool,(∀j,xs.getD j false=ys.getD j false)→val xs=val ys
 | [],ys,h=>(pY ys fun j=>(h j).symm).symm
 | b::r,ys,h=>by
  have h0:=h 0;have h1:=vC r ys.tail fun j=>by rw[←iL];exact h (j+1)
  rw[jP (b::r),jP ys,←h0,←h1];rfl
theorem vD:∀(i:Nat) (xs ys:List Bool),(∀j,i<j→xs.getD j false=ys.getD j false)→xs.getD i false=true→ys.getD i false=false→val ys<val xs
 | 0,xs,ys,h,hx,hy=>by
  have h1:=vC xs.tail ys.tail fun j=>by rw[←iL,←iL];exact h (j+1) (by omega)
  rw[jP xs,jP ys,hx,hy,h1]
  simp
  omega
 | i+1,xs,ys,h,hx,hy=>by
  have h1:=vD i xs.tail ys.tail (fun j hj=>by rw[←iL,←iL];exact h (j+1) (by omega)) (by rw[←iL];exact hx) (by rw[←iL];exact hy);rw[jP xs,jP ys]
  split<;>split<;>omega
theorem jL (xs:List Bool)(j:Nat)(h:xs.length≤j):xs.getD j false=false:=by rw[List.getD_eq_getElem?_getD,List.getElem?_eq_none h];rfl
theorem zT (xs:List Bool)(k:Nat):rA xs (k:Int)=xs.getD k false:=by simp[rA]
theorem aGU (A B:Option Addr)(n m c d:Nat)(xs ys:List Bool)(w:World)(hn:xs.length=n)(hm:ys.length=m)(hx:Rd w A xs)(hy:Rd w B ys)(ln:n≤1099511627776)(lm:m≤1099511627776) :
  Calls Tryz.prog 189 #[.slice A n c,.slice B m d] w fun e w'=>e=.returned (.int .i64 (gD (val xs) (val ys)))∧w=w':=by
 have HN:=Hj hn;have HM:=Hj hm;clear hn hm;go_enter Tryz.func189,Tryz.ntmps189;go_wp2_with fail
 go_loop [5] (fun s5=>∃k:Nat,s5=.int .i64 ((k:Int)-1)∧k≤1099511627776∧Hid (∀j,k≤j→xs.getD j false=ys.getD j false)) (fun s5=>(intOf s5+1).toNat)
 case atStart=>
  refine⟨max n m,congrArg (Value.int IntKind.i64) (by omega),by omega,?_⟩;show ∀j,_;intro j hj;rw[jL xs j (by have:=HN.out;omega),jL ys j (by have:=HM.out;omega)]
 case round=>
  obtain⟨k,rfl,hk,H⟩:=hrel
  by_cases h0:k=0
  ·subst h0
   have F:Hid (0=gD (val xs) (val ys)):=by
    show _=_;rw[vC xs ys fun j=>H.out j (Nat.zero_le _),uR]
   go_wp2_with fail;go_ret;exact⟨aW F.out,rfl⟩
  ·obtain⟨i,rfl⟩:∃i,k=i+1:=⟨k - 1,by omega⟩
   have e1:((i+1:Nat):Int)-1=(i:Int):=by omega
   rw[e1];clear e1 h0;have bx:=uU A n c xs (i:Int) w HN.out hx ln;have by_:=uU B m d ys (i:Int) w HM.out hy lm;rw[zT]at bx by_;have BX:=Hj bx;have BY:=Hj by_;clear bx by_
   cases ex:xs.getD i false<;>cases ey:ys.getD i false
   ·have H2:Hid (∀j,i≤j→xs.getD j false=ys.getD j false):=fun j hj=>by
     rcases Nat.eq_or_lt_of_le hj with e|e
     ·subst e;rw[ex,ey]
     ·exact H.out j e
    rw[ex]at BX;rw[ey]at BY;clear ex ey H;go_wp2_with fail;refine BX.out.mono ?_;rintro e w1 ⟨rfl,rfl⟩;go_wp2_with fail;refine BY.out.mono ?_;rintro e w1 ⟨rfl,rfl⟩;go_wp2_with fail
    go_round
    case rel=>exact⟨i,rfl,by omega,H2⟩
    case measure=>simp[intOf]
   ·have F:Hid (-1=gD (val xs) (val ys)):=by
     show _=_;rw[uQ (vD i ys xs (fun j hj=>(H.out j hj).symm) ey ex)]
    rw[ex]at BX;rw[ey]at BY;clear ex ey H;go_wp2_with fail;refine BX.out.mono ?_;rintro e w1 ⟨rfl,rfl⟩;go_wp2_with fail;refine BY.out.mono ?_;rintro e w1 ⟨rfl,rfl⟩;go_wp2_with fail;go_ret;exact⟨aW F.out,rfl⟩
   ·have F:Hid (1=gD (val xs) (val ys)):=by
     show _=_;rw[qY (vD i xs ys (fun j hj=>H.out j hj) ex ey)]
    rw[ex]at BX;rw[ey]at BY;clear ex ey H;go_wp2_with fail;refine BX.out.mono ?_;rintro e w1 ⟨rfl,rfl⟩;go_wp2_with fail;refine BY.out.mono ?_;rintro e w1 ⟨rfl,rfl⟩;go_wp2_with fail;go_ret;exact⟨aW F.out,rfl⟩
   ·have H2:Hid (∀j,i≤j→xs.getD j false=ys.getD j false):=fun j hj=>by
     rcases Nat.eq_or_lt_of_le hj with e|e
     ·subst e;rw[ex,ey]
     ·exact H.out j e
    rw[ex]at BX;rw[ey]at BY;clear ex ey H;go_wp2_with fail;refine BX.out.mono ?_;rintro e w1 ⟨rfl,rfl⟩;go_wp2_with fail;refine BY.out.mono ?_;rintro e w1 ⟨rfl,rfl⟩;go_wp2_with fail
    go_round
    case rel=>exact⟨i,rfl,by omega,H2⟩
    case measure=>simp[intOf]
theorem aEL {v:Int}{k:Nat}(hk:1≤k)(h0:(2:Int) ^ (k-1)≤v)(h1:v<2 ^ k):bB v=k:=by
 have hp:=aM (k-1);have hv:0≤v:=by omega
 obtain⟨n,en,lt,ge,_⟩:=dT hv;obtain⟨g1,g2⟩:=ge (by omega);rw[en];rcases Nat.lt_trichotomy n k with h|h|h
 ·exfalso
  have:(2:Int) ^ n≤2 ^ (k-1):=by
   have h3:2 ^ n≤2 ^ (k-1):=Nat.pow_le_pow_right (by decide) (by omega);have h4:((2 ^ n:Nat):Int)≤((2 ^ (k-1):Nat):Int):=Int.ofNat_le.2 h3
   simpa using h4
  omega
 ·rw[h]
 ·exfalso
  have:(2:Int) ^ k≤2 ^ (n-1):=by
   have h3:2 ^ k≤2 ^ (n-1):=Nat.pow_le_pow_right (by decide) (by omega);have h4:((2 ^ k:Nat):Int)≤((2 ^ (n-1):Nat):Int):=Int.ofNat_le.2 h3
   simpa using h4
  omega
theorem zK (xs:List Bool)(k j:Nat):(xs.drop k).getD j false=xs.getD (k+j) false:=by
 rw[List.getD_eq_getElem?_getD,List.getD_eq_getElem?_getD,List.getElem?_drop]
theorem aGg {xs:List Bool}{k:Nat}(hk:k≤xs.length)(h:∀j,k≤j→xs.getD j false=false):val xs=val (xs.take k):=by
 rw[kP xs k hk,pY (xs.drop k) fun j=>by rw[zK];exact h _ (by omega)]
 simp
theorem aJT {xs:List Bool}{k:Nat}(hk:k+1≤xs.length)(h:∀j,k+1≤j→xs.getD j false=false)(hb:xs.getD k false=true):bB (val xs)=((k+1:Nat):Int):=by
 refine aEL (by omega) ?_ ?_
 ·have e0:(xs.drop k).getD 0 false=true:=by rw[zK];exact hb
  rw[kP xs k (by omega),jP (xs.drop k),e0];have h0:=fY (xs.take k);have h1:=fY (xs.drop k).tail;have hp:=aM k;have h2:(2:Int) ^ k*1≤2 ^ k*((if true=true then 1 else 0)+2*val (xs.drop k).tail):=Int.mul_le_mul_of_nonneg_left (by rw[if_pos rfl];omega) (Int.le_of_lt hp);rw[show k+1-1=k by omega];omega
 ·rw[aGg hk h]
  have:=aAa (xs.take (k+1));rw[List.length_take,Nat.min_eq_left hk]at this;exact this
theorem aBu (A:Option Addr)(n c:Nat)(xs:List Bool)(w:World)(hn:xs.length=n)(hx:Rd w A xs)(ln:n≤1099511627776) :
  Calls Tryz.prog 110 #[.slice A n c] w fun e w'=>e=.returned (.int .i64 (bB (val xs)))∧w=w':=by
 have HN:=Hj hn;clear hn;go_enter Tryz.func110,Tryz.ntmps110;go_wp2_with fail
 go_loop [3] (fun s3=>∃k:Nat,s3=.int .i64 (k:Int)∧k≤n∧Hid (∀j,k≤j→xs.getD j false=false)) (fun s3=>(intOf s3).toNat)
 case atStart=>exact⟨n,rfl,aD _,fun j hj=>jL xs j (by have:=HN.out;omega)⟩
 case round=>
  obtain⟨k,rfl,hk,H⟩:=hrel
  by_cases h0:k=0
  ·subst h0
   have F:Hid (0=bB (val xs)):=by
    show _=_;rw[pY xs fun j=>H.out j (Nat.zero_le _)];rfl
   go_wp2_with fail;go_ret;exact⟨aW F.out,rfl⟩
  ·obtain⟨i,rfl⟩:∃i,k=i+1:=⟨k - 1,by omega⟩
   clear h0;obtain⟨g,off,rfl,hg,hcell⟩:=hx.at_ (i:=i) (by have:=HN.out;omega);have e1:((i+1:Nat):Int)=(i:Int)+1:=by omega
   have hi1:(i:Int)<(n:Int):=by omega
   cases ex:xs.getD i false
   ·have H2:Hid (∀j,i≤j→xs.getD j false=false):=fun j hj=>by
     rcases Nat.eq_or_lt_of_le hj with e|e
     ·subst e;exact ex
     ·exact H.out j e
    rw[ex]at hcell;rw[e1];clear ex H e1;go_wp2_with fail
    go_round
    case rel=>exact⟨i,by go_num,by omega,H2⟩
    case measure=>simp[intOf]
   ·have F:Hid (((i:Int)+1)=bB (val xs)):=by
     show _=_;rw[aJT (by have:=HN.out;omega) H.out ex];omega
    rw[ex]at hcell;rw[e1];clear ex H e1;go_wp2_with fail;go_ret;exact⟨aW F.out,rfl⟩
theorem sW:(Tryz.prog.info? 4).map (fun i=>(i.zero,i.size,i.bytes))=some (some (.bool false),1,1):=by kernel_rfl
theorem kO (xs:List Bool)(k:Nat):val (xs.take (k+1))=val (xs.take k)+if xs.getD k false then 2 ^ k else 0:=by
 by_cases h:k<xs.length
 ·rw[List.take_succ_eq_append_getElem h,vB,List.length_take,Nat.min_eq_left (by omega),List.getD_eq_getElem?_getD,List.getElem?_eq_getElem h]
  rfl
 ·rw[List.take_of_length_le (by omega),List.take_of_length_le (by omega),jL xs k (by omega)]
  simp
structure AddTo (xs ys zs:List Bool) (k:Nat) (c:Bool):Prop where
 len:zs.length=k
 eq:val zs+(if c then 2 ^ k else 0)=val (xs.take k)+val (ys.take k)
 le:k≤max xs.length ys.length+1
 end_:max xs.length ys.length<k→c=false
theorem AddTo.next {xs ys zs:List Bool}{k:Nat}{c:Bool}(h:AddTo xs ys zs k c)(hc:k<xs.length∨k<ys.length∨c=true)(x y:Bool)(ex:xs.getD k false=x)(ey:ys.getD k false=y) :
  AddTo xs ys (zs++[(x != y) != c]) (k+1) (x && y || x && c || y && c):=by
 obtain⟨h1,h2,h3,h4⟩:=h
 have hk:k≤max xs.length ys.length:=by
  rcases hc with hc|hc|hc
  ·omega
  ·omega
  ·rcases Nat.lt_or_ge (max xs.length ys.length) k with h|h
   ·have:=h4 h
    rw[this]at hc;cases hc
   ·exact h
 refine⟨by simp[h1],?_,by omega,fun hk'=>?_⟩
 ·rw[vB,kO,kO,ex,ey,h1,Int.pow_succ]
  generalize (2:Int) ^ k=P at *;revert h2
  cases x<;>cases y<;>cases c<;>simp<;>omega
 ·have e1:x=false:=by rw[←ex];exact jL xs k (by omega)
  have e2:y=false:=by rw[←ey];exact jL ys k (by omega)
  rw[e1,e2];rfl
theorem AddTo.done {xs ys zs:List Bool}{k:Nat}(h:AddTo xs ys zs k false)(h1:xs.length≤k)(h2:ys.length≤k):val zs=val xs+val ys:=by
 have:=h.eq;rw[List.take_of_length_le h1,List.take_of_length_le h2]at this
 simpa using this
theorem lI {w wr w1:World}{t:TypeId}{v:Value}{n:Nat}{xs:List Value}{o:Obj}(HB:Below w.heap.size w wr)(own:wr.ownsRow w.heap.size t 1 v n xs)(hg:(wr.alloc o).grownBy w1 v.ownBlock):Below w.heap.size w w1:=by
 refine(aI HB o).grown hg (by have:=HB.size;simp;omega) fun g e=>?_;rcases own.2 with⟨rfl,_⟩|⟨g',cap,cur,rfl,hb,_⟩
 ·cases e
 ·simp[Value.ownBlock]at e
  omega
theorem wE {w1:World}{B:Nat}{t:TypeId}{v:Value}{n:Nat}{zs:List Bool}{b:Bool}(h:w1.ownsRow B t 1 v n (zs.map Value.bool++[Value.bool b])):w1.ownsRow B t 1 v n ((zs++[b]).map Value.bool):=by
 rw[List.map_append];exact h
def aLd (xs ys zs:List Bool):Prop:=val zs=val xs+val ys∧max xs.length ys.length≤zs.length∧zs.length≤max xs.length ys.length+1
theorem aBz (A B:Option Addr)(n m c d:Nat)(xs ys:List Bool)(w:World)(hn:xs.length=n)(hm:ys.length=m)(hx:Rd w A xs)(hy:Rd w B ys)(ln:n≤1099511627775)(lm:m≤1099511627775) :
  Calls Tryz.prog 166 #[.slice A n c,.slice B m d] w (aAT (aLd xs ys) w):=by
 obtain⟨i0,hi,hz0,hz1,hz2⟩:=info_parts sW;have HN:=Hj hn;have HM:=Hj hm;have HI:=Hj hi;have HZ0:=Hj hz0;have HZ1:=Hj hz1;have HZ2:=Hj hz2;clear hn hm hi hz0 hz1 hz2;go_enter Tryz.func166,Tryz.ntmps166;go_wp2_with fail
 go_loopw [5,6,7] (fun s5 s6 s7 wr=>∃(k:Nat) (zs:List Bool) (cr:Bool),s6=.bool cr∧s7=.int .i64 (k:Int)∧AddTo xs ys zs k cr∧wr.ownsRow w.heap.size 4 1 s5 k (zs.map Value.bool)∧Hid (Below w.heap.size w wr)) (fun _ _ s7 _=>(max n m+1-(intOf s7).toNat))
 case atStart=>exact⟨0,[],false,rfl,rfl,⟨rfl,by simp[val],by omega,fun _=>rfl⟩,⟨rfl,.inl ⟨rfl,rfl⟩⟩,Below.refl _ _⟩
 case round=>
  obtain⟨k,zs,cr,rfl,rfl,T,own,HB⟩:=hrel;have hk:=T.le;rw[HN.out,HM.out]at hk;have hxr:=hx.below HB.out (aD _);have hyr:=hy.below HB.out (aD _);generalize hG:(decide (k<n) || decide (k<m) || cr)=go;have HG:=Hj hG;clear hG;go_upto_region 4 with fail
  go_cut [22] (fun s22 wx=>s22=.bool go∧wr=wx)
  case first=>
   by_cases kn:k<n
   ·have hG:go=true:=by rw[←HG.out];simp[kn]
    subst hG;go_wp2_with fail;go_meet;exact⟨rfl,rfl⟩
   ·have kn':decide ((k:Int)<(n:Int))=false:=by simp;omega
    by_cases km:k<m
    ·have hG:go=true:=by rw[←HG.out];simp[km]
     subst hG;go_wp2_with fail;go_meet;exact⟨rfl,rfl⟩
    ·have km':decide ((k:Int)<(m:Int))=false:=by simp;omega
     have hG:go=cr:=by rw[←HG.out];simp[kn,km]
     subst hG;go_wp2_with fail;go_meet;exact⟨rfl,rfl⟩
  case rest=>
   obtain⟨rfl,rfl⟩:=hcut;cases go
   ·have hG:=HG.out
    simp at hG
    obtain⟨⟨g1,g2⟩,rfl⟩:=hG;have fin:aLd xs ys zs:=⟨T.done (by rw[HN.out];exact g1) (by rw[HM.out];exact g2),by rw[HN.out,HM.out,T.len];omega,by rw[T.len,HN.out,HM.out];exact hk⟩;obtain⟨A',c',rfl,hc',hm',hr'⟩:=aAm own;clear own;go_wp2_with fail;go_ret;exact⟨zs,A',c',fin,rfl,hc',hm',hr',HB.out⟩
   ·have hG:=HG.out
    have hgo:k<xs.length∨k<ys.length∨cr=true:=by
     rw[HN.out,HM.out]
     simp at hG
     rcases hG with(hG|hG)|hG
     ·exact .inl hG
     ·exact .inr (.inl hG)
     ·exact .inr (.inr hG)
    have bx:=uU A n c xs (k:Int) wr HN.out hxr (by omega);have by_:=uU B m d ys (k:Int) wr HM.out hyr (by omega);rw[zT]at bx by_;have hk2:k+1≤max n m+1:=by have:=(T.next hgo _ _ rfl rfl).le;rw[HN.out,HM.out]at this;exact this
    have TN:=Hj (fun x y ex ey=>T.next hgo x y ex ey);clear hgo;generalize ex:xs.getD k false=x at *;generalize ey:ys.getD k false=y at *;have TN2:=Hj (TN.out x y rfl rfl);have BX:=Hj bx;have BY:=Hj by_;clear bx by_ TN hG ex ey;go_wp2_with fail;refine BX.out.mono ?_;rintro e w1 ⟨rfl,rfl⟩;go_wp2_with fail;refine BY.out.mono ?_;rintro e w1 ⟨rfl,rfl⟩;clear BX BY
    cases x<;>cases y<;>cases cr
    all_goals
     go_wp2_with (at_builtin;refine wpList_append_own _ rfl _ _ 141 rfl w.heap.size 4 i0 (.bool false) 1 1 Tryz.underlying141 HI.out HZ0.out HZ1.out HZ2.out rfl (by decide) _ _ _ rfl (own.alloc _) ⟨wr.heap.size,0,none⟩ 1 1 [_] rfl rfl (cell_one_new _ _ _) ?c2 ?c3 ?c4 ?c5 ?_)
     case c2=>intro u hu;simp at hu;subst hu;rfl
     case c3=>unfold maxLen;omega
     case c4=>omega
     case c5=>have:=HB.out.size;simp;omega
     intro v' w1 own' hgrow hnil;clear hnil;have HB':=Hj (lI HB.out own hgrow);have own2:=wE own';clear own' hgrow own HB hxr hyr hx hy;go_wp2_with fail
     go_roundw
     case rel=>exact⟨k+1,_,_,rfl,by go_num,TN2.out,own2,HB'⟩
     case measure=>simp[intOf];omega
end Go.Proofs.YtkbicfffokegeaaGreatDoor
namespace Go.Proofs.YtkbicfffokegeaaGreatDoor
set_option maxHeartbeats 16000000
open Go.RowKit
set_option maxRecDepth 100000
def wv:List Int→Int
 | []=>0
 | x::r=>x+18446744073709551616*wv r
theorem yL:∀(xs ys:List Int),wv (xs++ys)=wv xs+2 ^ (64*xs.length)*wv ys
 | [],ys=>by simp[wv]
 | x::r,ys=>by
  simp only[List.cons_append,wv,yL r ys,List.length_cons]
  have e:(2:Int) ^ (64*(r.length+1))=18446744073709551616*2 ^ (64*r.length):=by
   rw[show 64*(r.length+1)=64+64*r.length by omega,Int.pow_add];rfl
  rw[e,Int.mul_add,Int.mul_assoc];omega
theorem aJP (x:Int)(j:Nat):x % 2 ^ (j+1)=x % 2 ^ j+if x / 2 ^ j % 2=1 then 2 ^ j else 0:=by
 have hp:=aM j
 have e:x % 2 ^ (j+1)=x % 2 ^ j+2 ^ j*(x / 2 ^ j % 2):=by
  rw[Int.pow_succ];have k1:=Int.mul_ediv_add_emod x (2 ^ j*2);have k2:=Int.mul_ediv_add_emod x (2 ^ j);have k3:=Int.mul_ediv_add_emod (x / 2 ^ j) 2;rw[Int.ediv_ediv_of_nonneg (Int.le_of_lt hp)]at k3;rw[←k3,Int.mul_add,←Int.mul_assoc]at k2;omega
 rw[e];split
 ·rename_i h
  rw[h,Int.mul_one]
 ·rename_i h
  have:x / 2 ^ j % 2=0:=by omega
  rw[this,Int.mul_zero]
theorem aCz {x:Int}(h:bC x):x % 2 ^ 64=x:=Int.emod_eq_of_lt h.1 h.2
def RdW (w:World)(A:Option Addr)(ws:List Int):Prop:=
 ws=[]∨∃g off,A=some ⟨g,off,none⟩∧g<w.heap.size∧∀i x,ws[i]? = some x→w.cell? ⟨g,off+i,none⟩=some (.int .u64 x)
def aNs (ws:List Int)(zs:List Bool):Prop:=val zs=wv ws∧zs.length=64*ws.length
structure OfTo (ws:List Int) (i:Nat) (x:Int) (zs:List Bool) (j:Nat):Prop where
 len:zs.length=64*i+j
 eq:val zs=wv (ws.take i)+2 ^ (64*i)*(x % 2 ^ j)
theorem OfTo.next {ws:List Int}{i:Nat}{x:Int}{zs:List Bool}{j:Nat}(h:OfTo ws i x zs j)(b:Bool)(hb:decide (x / 2 ^ j % 2=1)=b):OfTo ws i x (zs++[b]) (j+1):=by
 obtain⟨h1,h2⟩:=h;refine⟨by simp[h1];omega,?_⟩;rw[vB,aJP,h2,h1,Int.mul_add,Int.pow_add,←hb]
 by_cases hx:x / 2 ^ j % 2=1
 ·simp[hx]
  omega
 ·simp[hx]
theorem OfTo.done {ws:List Int}{i:Nat}{x:Int}{zs:List Bool}(h:OfTo ws i x zs 64)(hi:i<ws.length)(hx:ws[i]? = some x)(hw:bC x):val zs=wv (ws.take (i+1)):=by
 have e:ws[i]=x:=by rw[List.getElem?_eq_getElem hi]at hx;injection hx
 rw[h.eq,aCz hw,List.take_succ_eq_append_getElem hi,yL,List.length_take,Nat.min_eq_left (by omega),e]
 simp[wv]
theorem aJt (A:Option Addr)(n c:Nat)(ws:List Int)(w:World)(hn:ws.length=n)(hx:RdW w A ws)(hw:∀x∈ws,bC x)(ln:n≤1048576) :
  Calls Tryz.prog 90 #[.slice A n c] w (aAT (aNs ws) w):=by
 obtain⟨i0,hi,hz0,hz1,hz2⟩:=info_parts sW;have HN:=Hj hn;have HW:=Hj hw;have HI:=Hj hi;have HZ0:=Hj hz0;have HZ1:=Hj hz1;have HZ2:=Hj hz2;clear hn hi hz0 hz1 hz2 hw;go_enter Tryz.func90,Tryz.ntmps90;go_wp2_with fail
 go_loopw [3,4,5] (fun s3 s4 _ wr=>∃(i:Nat) (zs:List Bool),s4=.int .i64 (i:Int)∧i≤n∧Hid (zs.length=64*i)∧Hid (val zs=wv (ws.take i))∧wr.ownsRow w.heap.size 4 1 s3 zs.length (zs.map Value.bool)∧Hid (Below w.heap.size w wr)) (fun _ s4 _ _=>n-(intOf s4).toNat)
 case atStart=>exact⟨0,[],rfl,Nat.zero_le _,rfl,by show _=_;simp[wv,val],⟨rfl,.inl ⟨rfl,rfl⟩⟩,Below.refl _ _⟩
 case round=>
  obtain⟨i,zs,rfl,hin,HL,HV,own,HB⟩:=hrel
  by_cases hlt:i<n
  ·have hlt':i<ws.length:=by rw[HN.out];exact hlt
   obtain⟨x,hxi⟩:∃x,ws[i]? = some x:=⟨ws[i],List.getElem?_eq_getElem hlt'⟩;have wx:bC x:=HW.out x (List.mem_of_getElem? hxi)
   obtain⟨g,off,rfl,hg,hcell⟩:∃g off,A=some ⟨g,off,none⟩∧g<w.heap.size∧w.cell? ⟨g,off+i,none⟩=some (.int .u64 x):=by
    rcases hx with h|⟨g,off,e,hg,hc⟩
    ·subst h;simp at hlt'
    ·exact⟨g,off,e,hg,hc i x hxi⟩
   have HXI:=Hj hxi;have hi':(i:Int)<(n:Int):=by omega
   clear hxi hlt';go_wp2_with fail
   go_loopw [3,5] (fun s3 s5 wq=>∃(j:Nat) (zs:List Bool),s5=.int .i64 (j:Int)∧j≤64∧OfTo ws i x zs j∧wq.ownsRow w.heap.size 4 1 s3 zs.length (zs.map Value.bool)∧Hid (Below w.heap.size w wq)) (fun _ s5 _=>64-(intOf s5).toNat)
   case atStart=>exact⟨0,zs,rfl,by omega,⟨by rw[HL.out];rfl,by rw[HV.out];simp⟩,own,HB⟩
   case round=>
    clear own HB HV HL;obtain⟨j,zs,rfl,hj,T,own,HB⟩:=hrel;have hl:=T.len;have hcr:wr.cell? ⟨g,off+i,none⟩=some (.int .u64 x):=(HB.out.cell (p:=⟨g,off+i,none⟩) hg).trans hcell;have hg':g<wr.heap.size:=aE hg HB.out.size
    by_cases hj':j<64
    ·obtain⟨b,hb⟩:∃b:Bool,decide (x / 2 ^ j % 2=1)=b:=⟨_,rfl⟩
     have T2:=T.next b hb
     have rb:(bits BinOp.and IntKind.u64 (x / 2 ^ j) 1 == 1)=b:=by
      have wd:=pV wx j;rw[and_one_u64 _ wd.1 (by have:=wd.2;omega),←hb];rfl
     have hlb:zs.length+1≤67108865:=by omega
     clear T hb hl;generalize hmz:zs.length=m at *;have HMZ:=Hj hmz;clear hmz
     go_wp2_with (at_builtin;refine wpList_append_own _ rfl _ _ 141 rfl w.heap.size 4 i0 (.bool false) 1 1 Tryz.underlying141 HI.out HZ0.out HZ1.out HZ2.out rfl (by decide) _ _ _ rfl (own.alloc _) ⟨wr.heap.size,0,none⟩ 1 1 [_] rfl rfl (cell_one_new _ _ _) ?c2 ?c3 ?c4 ?c5 ?_)
     case c2=>intro u hu;simp at hu;subst hu;rfl
     case c3=>unfold maxLen;omega
     case c4=>omega
     case c5=>have:=HB.out.size;simp;omega
     intro v' w1 own' hgrow hnil;clear hnil;have HB':=Hj (lI HB.out own hgrow);have own2:=wE own';clear own' hgrow own HB hcr
     have own3:w1.ownsRow w.heap.size 4 1 v' (zs++[b]).length ((zs++[b]).map Value.bool):=by
      have e:(zs++[b]).length=m+1:=by rw[List.length_append,HMZ.out];rfl
      rw[e];exact own2
     clear own2 rb;go_wp2_with fail
     go_roundw
     case rel=>exact⟨j+1,zs++[b],by go_num,by omega,T2,own3,HB'⟩
     case measure=>simp[intOf];omega
    ·have ej:j=64:=by omega
     subst ej;have D:=Hj (T.done (by rw[HN.out];exact hlt) HXI.out wx);have HL2:Hid (zs.length=64*(i+1)):=by show _=_;omega
     clear T hl;go_wp2_with fail
     go_roundw
     case rel=>exact⟨i+1,zs,by go_num,by omega,HL2,D,own,HB⟩
     case measure=>simp[intOf];omega
  ·have ei:i=n:=by omega
   subst ei;have ht:ws.take i=ws:=List.take_of_length_le (by rw[HN.out];omega);have fin:aNs ws zs:=⟨by rw[HV.out,ht],by rw[HL.out,HN.out]⟩;clear ht HV HL;obtain⟨A',c',rfl,hc',hm',hr'⟩:=aAm own;clear own;go_wp2_with fail;go_ret;exact⟨zs,A',c',fin,rfl,hc',hm',hr',HB.out⟩
end Go.Proofs.YtkbicfffokegeaaGreatDoor
namespace Go.Proofs.YtkbicfffokegeaaGreatDoor
set_option maxHeartbeats 16000000
open Go.RowKit
theorem vU {P:Program}(w:World)(base:Nat)(t ty e:TypeId)(i:TypeInfo)(z:Value)(ht:P.underlying t=some (.slice e))(hi:P.info? e=some i)(hz:i.zero=some z)
  (hsize:i.size=1) (hby:i.bytes=1) (hzs:z.cells.size=1) (v:Value) (n:Nat) (xs:List Value) (hown:w.ownsRow base e 1 v n xs)
  (A:Option Addr) (c:Nat) (ys:List Bool) (hr:Rd w A ys) (h63:n+ys.length≤maxLen) (hbytes:(n+ys.length)*1≤140737488355328) (hbase:base≤w.heap.size) :
  ∃v' w',(Builtin.append_ #[t,t] ty #[v,.slice A ys.length c]).run P w=.ok v' w'∧w'.ownsRow base e 1 v' (n+ys.length) (xs++ys.map Value.bool)∧w.grownBy w' v.ownBlock:=by
 rcases A with _|ad
 ·have hy:ys=[]:=by
   rcases hr with h|⟨g,off,h,_⟩
   ·exact h
   ·cases h
  subst hy;refine⟨v,w,?_,by simpa using hown,World.grownBy.refl w _⟩;rcases hown.2 with⟨rfl,rfl⟩|⟨g,cap,cur,rfl,_,_,hnc,_⟩
  ·simp[Builtin.append_,run_underlying ht,sizeOf,typeInfo,hi,Builtin.lenOf,Builtin.firstCells]
  ·simp[Builtin.append_,run_underlying ht,sizeOf,typeInfo,hi,Builtin.lenOf,Builtin.firstCells,hnc,storeCells]
 ·have hcells:∀j u,(ys.map Value.bool)[j]? = some u→w.cell? (ad.add j)=some u:=by
   intro j u hu;rw[List.getElem?_map]at hu
   cases hj:ys[j]? with
   | none=>rw[hj]at hu;cases hu
   | some b=>
    rw[hj]at hu;injection hu with hu;subst hu;rcases hr with h|⟨g,off,h,_,hc⟩
    ·subst h;simp at hj
    ·injection h with h
     subst h;have:=hc j b hj;unfold Addr.add;split
     ·rename_i h0
      subst h0
      simpa using this
     ·exact this
  have h1:∀u∈ys.map Value.bool,u.oneCell'=true:=by
   intro u hu;obtain⟨b,_,rfl⟩:=List.mem_map.1 hu;rfl
  obtain⟨v',w',hrun,h2,h3,_,_⟩:=run_append_own_at (P:=P) w base t ty e i z 1 1 ht hi hz hsize hby hzs (by decide) v n xs hown ad ys.length c (ys.map Value.bool) (by simp) hcells h1 h63 hbytes hbase;exact⟨v',w',hrun,h2,h3⟩
theorem pU {P:Program}(w:World){ops:Array Oper}{rest:List Oper}{o:Oper}{a:Act}{Q:Exit→Act→World→Prop}(hgd:o.guard=none)(s x:Operand)(t:TypeId)
  (ho:o.op=.call { callee:=.builtin .append,args:=#[s,x],argTypes:=#[t,t] })
  (base:Nat) (e:TypeId) (i:TypeInfo) (z:Value) (ht:P.underlying t=some (.slice e)) (hi:P.info? e=some i) (hz:i.zero=some z)
  (hsize:i.size=1) (hby:i.bytes=1) (hzs:z.cells.size=1) (v:Value) (n:Nat) (xs:List Value) (hs:a.eval s=v) (hown:w.ownsRow base e 1 v n xs)
  (A:Option Addr) (c m:Nat) (ys:List Bool) (hm:ys.length=m) (hx:a.eval x=.slice A m c) (hr:Rd w A ys) (h63:n+m≤maxLen) (hbytes:(n+m)*1≤140737488355328) (hbase:base≤w.heap.size)
  (h:∀v' w',w'.ownsRow base e 1 v' (n+m) (xs++ys.map Value.bool)→w.grownBy w' v.ownBlock→wpList P ops Q rest (a.put o.dst v') w'):wpList P ops Q (o::rest) a w:=by
 subst hm;refine wpList_plain hgd fun K hK=>?_;obtain⟨v',w',hrun,h2,h3⟩:=vU (P:=P) w base t o.type e i z ht hi hz hsize hby hzs v n xs hown A c ys hr h63 hbytes hbase;unfold Oper.wp execOp;simp only[ho,resolve,invoke,builtin,Sem.run_bind,Sem.run_pure,Result.andThen_ok,List.map_toArray,List.map_cons,List.map_nil,hs,hx,hrun];exact hK _ _ (h v' w' h2 h3)
theorem aDf {w wr w1:World}{t:TypeId}{v:Value}{n:Nat}{xs:List Value}(HB:Below w.heap.size w wr)(own:wr.ownsRow w.heap.size t 1 v n xs)(hg:wr.grownBy w1 v.ownBlock):Below w.heap.size w w1:=by
 refine HB.grown hg HB.size fun g e=>?_;rcases own.2 with⟨rfl,_⟩|⟨g',cap,cur,rfl,hb,_⟩
 ·cases e
 ·simp[Value.ownBlock]at e
  omega
def aEM (k:Nat)(xs zs:List Bool):Prop:=zs=List.replicate k false++xs
theorem aEM.val {k:Nat}{xs zs:List Bool}(h:aEM k xs zs):val zs=2 ^ k*YtkbicfffokegeaaGreatDoor.val xs∧zs.length=k+xs.length:=by
 unfold aEM at h;subst h;refine⟨?_,by simp⟩;rw[lU,xZ,List.length_replicate];omega
theorem aBs (A:Option Addr)(n c:Nat)(xs:List Bool)(N:Int)(w:World)(hn:xs.length=n)(hx:Rd w A xs)(ln:n≤1099511627775)(hN0:0≤N)(hN1:N≤1099511627775) :
  Calls Tryz.prog 167 #[.slice A n c,.int .i64 N] w (aAT (aEM N.toNat xs) w):=by
 obtain⟨i0,hi,hz0,hz1,hz2⟩:=info_parts sW;have HN:=Hj hn;have HI:=Hj hi;have HZ0:=Hj hz0;have HZ1:=Hj hz1;have HZ2:=Hj hz2;clear hn hi hz0 hz1 hz2;go_enter Tryz.func167,Tryz.ntmps167;go_wp2_with fail
 go_loopw [5,6] (fun s5 s6 wr=>∃(k:Nat) (zs:List Bool),s6=.int .i64 (k:Int)∧(k:Int)≤N∧Hid (zs=List.replicate k false)∧wr.ownsRow w.heap.size 4 1 s5 k (zs.map Value.bool)∧Hid (Below w.heap.size w wr)) (fun _ s6 _=>(N-intOf s6).toNat)
 case atStart=>exact⟨0,[],rfl,hN0,rfl,⟨rfl,.inl ⟨rfl,rfl⟩⟩,Below.refl _ _⟩
 case round=>
  obtain⟨k,zs,rfl,hk,HR,own,HB⟩:=hrel
  by_cases hlt:(k:Int)<N
  ·go_wp2_with (at_builtin;refine wpList_append_own _ rfl _ _ 141 rfl w.heap.size 4 i0 (.bool false) 1 1 Tryz.underlying141 HI.out HZ0.out HZ1.out HZ2.out rfl (by decide) _ _ _ rfl (own.alloc _) ⟨wr.heap.size,0,none⟩ 1 1 [_] rfl rfl (cell_one_new _ _ _) ?c2 ?c3 ?c4 ?c5 ?_)
   case c2=>intro u hu;simp at hu;subst hu;rfl
   case c3=>unfold maxLen;omega
   case c4=>omega
   case c5=>have:=HB.out.size;simp;omega
   intro v' w1 own' hgrow hnil;clear hnil;have HB':=Hj (lI HB.out own hgrow);have own2:=wE own';have HR2:Hid (zs++[false]=List.replicate (k+1) false):=by show _=_;rw[HR.out,List.replicate_succ']
   clear own' hgrow own HB hx;go_wp2_with fail
   go_roundw
   case rel=>exact⟨k+1,_,by go_num,by omega,HR2,own2,HB'⟩
   case measure=>simp[intOf];omega
  ·have eN:N=(k:Int):=by omega
   subst eN;have hxr:=hx.below HB.out (aD _)
   go_wp2_with (at_builtin;refine pU _ rfl _ _ 141 rfl w.heap.size 4 i0 (.bool false) Tryz.underlying141 HI.out HZ0.out HZ1.out HZ2.out rfl _ _ _ rfl own A c n xs HN.out rfl hxr ?c3 ?c4 HB.out.size ?_)
   case c3=>unfold maxLen;omega
   case c4=>omega
   intro v' w1 own' hgrow;have HB':=Hj (aDf HB.out own hgrow);rw[←List.map_append]at own';obtain⟨A',c',rfl,hc',hm',hr'⟩:=aAm own';clear own own' hgrow HB hxr hx;go_wp2_with fail;go_ret;exact⟨_,A',c',by rw[Int.toNat_natCast,HR.out];rfl,rfl,hc',hm',hr',HB'.out⟩
def aIY (xs ys zs:List Bool):Prop:=val zs=val xs*val ys∧zs.length≤xs.length+ys.length+1
theorem aGO (A B:Option Addr)(n m c d:Nat)(xs ys:List Bool)(w:World)(hn:xs.length=n)(hm:ys.length=m)(hx:Rd w A xs)(hy:Rd w B ys)(ln:n≤274877906944)(lm:m≤274877906944) :
  Calls Tryz.prog 188 #[.slice A n c,.slice B m d] w (aAT (aIY xs ys) w):=by
 have HN:=Hj hn;have HM:=Hj hm;clear hn hm;go_enter Tryz.func188,Tryz.ntmps188;go_wp2_with fail
 go_loopw [5,6] (fun s5 s6 wr=>∃(k z c5:Nat) (zs:List Bool) (A5:Option Addr),s6=.int .i64 (k:Int)∧k≤m∧s5=.slice A5 z c5∧z≤c5∧c5≤maxLen∧Hid (zs.length=z)∧z≤n+k+1∧Hid (val zs=val xs*val (ys.take k))∧Rd wr A5 zs∧Hid (Below w.heap.size w wr)) (fun _ s6 _=>m-(intOf s6).toNat)
 case atStart=>exact⟨0,0,0,[],none,rfl,Nat.zero_le _,rfl,aD _,by simp[maxLen],rfl,by omega,by show _=_;simp[val],.inl rfl,Below.refl _ _⟩
 case round=>
  obtain⟨k,z,c5,zs,A5,rfl,hk,rfl,hz1,hz2,HL,hz3,HV,hr,HB⟩:=hrel
  by_cases hlt:k<m
  ·have hyr:=hy.below HB.out (aD _)
   obtain⟨g,off,rfl,hg,hcell⟩:=hyr.at_ (i:=k) (by have:=HM.out;omega);have hts:=kO ys k;have hlt':(k:Int)<(m:Int):=by omega
   cases ey:ys.getD k false
   ·have HV2:Hid (val zs=val xs*val (ys.take (k+1))):=by
     show _=_;rw[hts,ey,HV.out]
     simp
    rw[ey]at hcell;clear ey hts HV hyr;go_wp2_with fail
    go_roundw
    case rel=>exact⟨k+1,z,c5,zs,A5,by go_num,by omega,rfl,hz1,hz2,HL,by omega,HV2,hr,HB⟩
    case measure=>simp[intOf];omega
   ·have hxr:=hx.below HB.out (aD _)
    have HTS:=Hj hts;rw[ey]at hcell HTS;clear ey hts hyr;go_wp2_with fail;refine(aBs A n c xs (k:Int) _ HN.out hxr (by omega) (by omega) (by omega)).mono ?_;rw[Int.toNat_natCast];rintro e w1 ⟨ss,A1,c1,hs,rfl,hc1,hm1,hr1,hb1⟩;obtain⟨hv1,hl1⟩:=hs.val;rw[HN.out]at hl1;rw[hl1]at hc1 ⊢;have HV1:=Hj hv1;have HL1:=Hj hl1;have hr5:=hr.below hb1 (aD _);clear hs hv1 hl1 hr;go_wp2_with fail;refine(aBz A5 A1 z (k+n) c5 c1 zs ss _ HL.out HL1.out hr5 hr1 (by omega) (by omega)).mono ?_;rintro e w2 ⟨qs,A2,c2,hq,rfl,hc2,hm2,hr2,hb2⟩
    have HV2:Hid (val qs=val xs*val (ys.take (k+1))):=by
     show _=_;rw[HTS.out,hq.1,HV.out,HV1.out,Int.mul_add,if_pos (by trivial),Int.mul_comm (2 ^ k)]
    have hl2:qs.length≤n+(k+1)+1:=by
     have:=hq.2.2;rw[HL.out,HL1.out]at this;omega
    have HB2:=Hj (aG (aG HB.out hb1) hb2);clear hq HV HV1 HTS hb1 hb2 HB hr5 hr1;generalize hqz:qs.length=qz at *;have HQZ:=Hj hqz;clear hqz;go_wp2_with fail
    go_roundw
    case rel=>exact⟨k+1,qz,c2,qs,A2,by go_num,by omega,rfl,hc2,hm2,HQZ,hl2,HV2,hr2,HB2⟩
    case measure=>simp[intOf];omega
  ·have ek:k=m:=by omega
   subst ek;have ht:ys.take k=ys:=List.take_of_length_le (by rw[HM.out];omega);have fin:aIY xs ys zs:=⟨by rw[HV.out,ht],by rw[HL.out,HN.out,HM.out];exact hz3⟩;have hzl:=HL.out;clear ht HV;go_wp2_with fail;subst hzl;go_ret;exact⟨zs,A5,c5,fin,rfl,hz1,hz2,hr,HB.out⟩
theorem vA {ys:List Bool}{n:Nat}(h:val ys<2 ^ n):val (ys.take n)=val ys:=by
 rcases Nat.lt_or_ge ys.length n with hl|hl
 ·rw[List.take_of_length_le (by omega)]
 ·rw[(aGh ys n hl).2,Int.emod_eq_of_lt (fY ys) h]
theorem aDJ {v:Int}{m:Nat}(h0:0≤v)(h1:v<2 ^ m):∃L:Nat,bB v=(L:Int)∧L≤m∧v<2 ^ L:=by
 obtain⟨k,e,lt,ge,z⟩:=dT h0;refine⟨k,e,?_,lt⟩;rcases Int.lt_or_le 0 v with h|h
 ·have g:=(ge h).1
  rcases Nat.lt_or_ge m k with hk|hk
  ·exfalso
   have:=bZ m (k-1) (by omega);omega
  ·exact hk
 ·rw[z (by omega)]
  omega
end Go.Proofs.YtkbicfffokegeaaGreatDoor
