/-
  Whatever program and statement are handed in, CheckMore answers true. (part 15 of 30) Conditions: none beside what the card ties.
-/
import Derived.Deep.DeepCutAuto
import Derived.Test.YtkbicfffokegeaaGreatDoorMan
import Derived.Test.YtkbicfffokegeaaGreatDoorMai
import Derived.Test.YtkbicfffokegeaaGreatDoorMac
namespace Go.Proofs.YtkbicfffokegeaaGreatDoor
set_option maxHeartbeats 16000000
open Go.RowKit
set_option maxRecDepth 100000
def mnS (S:Sc)(x:List UInt8):Option Mn:=if x∈S.loops then some ⟨2,2,false⟩ else(S.find x).map fun i=>mnOf (S.d i)
def Sc.good (S:Sc):Prop:=∀i,i<S.n→0≤(S.d i).len
def Ckr (R M n:Nat)(S:Sc)(w:World):Prop:=Ckf R M n (mnS S) S.init (S.loops.length:Int) w
def ckE (r:Ck Int):Ending:=match r with
 | .ok t=>.returned (.int .u8 t)
 | .no c p=>.panicked (fl12 c p)
def nmC (m:Option Mn)(st:Bool)(p:Int)(n:Nat)(a:Ck Int):Ck Int:=match m with
 | none=>.no 120 p
 | some m=>if m.us=1∧st=true then .no 124 p else if(n:Int)=(if m.ar then 1 else 0) then(if m.ar then a.bind fun u=>if u=2 then .ok m.ty else .no 122 p else .ok m.ty)else .no 125 p
theorem nmC_is {S:Sc}(h:S.good)(x:List UInt8)(p:Int)(n:Nat)(a:Ck Int):((S.look x p).bind fun tl=>opsC tl.1 tl.2 n p a)=nmC (mnS S x) S.init p n a:=by
 unfold Sc.look mnS
 by_cases c:x∈S.loops
 ·rw[if_pos c,if_pos c]
  by_cases d:n=0
  ·subst d;rfl
  ·simp[Ck.bind,opsC,nmC,d]
 ·rw[if_neg c,if_neg c]
  cases hf:S.find x with
  | none=>rfl
  | some i=>
   have hl:=h i (fd_lt hf).1;simp only[Option.map_some]
   by_cases e:S.init=true∧(S.d i).inp=true
   ·rw[if_pos e]
    simp[Ck.bind,nmC,mnOf,e.1,e.2]
   ·have e2:¬((mnOf (S.d i)).us=1∧S.init=true):=by
     rintro⟨h1,h2⟩;refine e ⟨h2,?_⟩;unfold mnOf at h1
     cases hi:(S.d i).inp with
     | true=>rfl
     | false=>rw[hi]at h1;simp at h1
    rw[if_neg e];show opsC _ _ _ _ _=_;unfold nmC opsC;dsimp only;rw[if_neg e2]
    by_cases g:0<(S.d i).len
    ·have g2:(mnOf (S.d i)).ar=true:=by simp[mnOf];omega
     rw[if_pos g,g2]
     by_cases k:n=1
     ·subst k;rfl
     ·have k2:¬(n:Int)=1:=by omega
      simp[k,k2]
    ·have g2:(mnOf (S.d i)).ar=false:=by simp[mnOf];omega
     rw[if_neg g,g2]
     by_cases k:n=0
     ·subst k;rfl
     ·simp[k]
theorem ccresult_any (op:Int)(l:List Int)(v:Value)(B:Nat)(w:World)(h:w.ownsRow B 36 1 v l.length (l.map (Value.int .u8))) :
  Calls Tryz.prog 48 #[.int .u8 op,v] w fun e w'=>e=.returned (.int .u8 (resT op l))∧Below w.heap.size w w':=by
 obtain⟨A,c,rfl⟩:=own_f12 h
 match l,h with
 | [],h=>
  clear h;go_enter Tryz.func48,Tryz.ntmps48;go_wp2_with fail;refine(ccliteral_any op w).mono ?_;rintro r w1 ⟨rfl,rfl⟩;go_wp2_with fail;go_ret;exact⟨rfl,Below.refl _ _⟩
 | [t],h=>
  obtain⟨g,cp,e, -⟩:=own_s12 h (by simp);injection e with e1 e2 e3;subst e1;have c0:=ty_cell h (j:=0) (t:=t) rfl;clear h;go_enter Tryz.func48,Tryz.ntmps48;go_wp2_with fail;refine(ccunary_any op t w).mono ?_;rintro r w1 ⟨rfl,rfl⟩;go_wp2_with fail;go_ret;exact⟨rfl,Below.refl _ _⟩
 | [t,u],h=>
  obtain⟨g,cp,e, -⟩:=own_s12 h (by simp);injection e with e1 e2 e3;subst e1;have c0:=ty_cell h (j:=0) (t:=t) rfl;have c1:=ty_cell h (j:=1) (t:=u) rfl;clear h;have BD:=bel_drew (Below.refl w.heap.size w)
  by_cases k:u=t
  ·subst k
   go_enter Tryz.func48,Tryz.ntmps48;go_upto_region 5 with fail
   go_still (by kernel_rfl)
   have c0':w.drew.cell? ⟨g,0,none⟩=some (.int .u8 u):=c0;clear c0 c1;go_wp2_with fail;refine(ccbinary_any op u _).mono ?_;rintro r w2 ⟨rfl,rfl⟩;go_wp2_with fail;go_ret;exact⟨rfl,BD⟩
  ·have k2:¬t=u:=fun h=>k h.symm
   have e:resT op [t,u]=0:=by simp[resT,k]
   rw[e];clear e;go_enter Tryz.func48,Tryz.ntmps48;go_upto_region 5 with fail
   go_still (by kernel_rfl)
   clear c0 c1;go_wp2_with fail;go_ret;exact⟨rfl,BD⟩
 | t::u::v::r,h=>
  have e:resT op (t::u::v::r)=0:=rfl;rw[e];clear e h;have BD:=bel_drew (Below.refl w.heap.size w);generalize hn:(t::u::v::r).length=n;have n0:¬(n:Int)=0:=by rw[←hn];simp only[List.length_cons];omega
  have n1:¬(n:Int)=1:=by rw[←hn];simp only[List.length_cons];omega
  have n2:¬(n:Int)=2:=by rw[←hn];simp only[List.length_cons];omega
  clear hn;go_enter Tryz.func48,Tryz.ntmps48;go_upto_region 5 with fail
  go_still (by kernel_rfl)
  go_wp2_with fail;go_ret;exact⟨rfl,BD⟩
def CkX (B R M n:Nat)(S:Sc)(e:Ex):Prop:=∀w:World,Ckr R M n S w→e.In B w→B≤w.heap.size→e.wt≤1000000→Calls Tryz.prog 30 #[.pointer (some ⟨R,0,none⟩),e.h.v] w fun r w'=>r=ckE (e.ck S)∧Below w.heap.size w w'
def tyR (n:Nat)(r:Ck (List Int))(B:Nat)(e:Ending)(w':World):Prop:=match r with
 | .ok l=>∃v,e=.returned v∧w'.ownsRow B 36 1 v n (l.map (Value.int .u8))
 | .no c p=>e=.panicked (fl12 c p)
theorem wt_num (k:Nat→Ex)(n:Nat):n≤sm (fun i=>(k i).wt) n:=by
 induction n with
 | zero=>exact Nat.le_refl _
 | succ n ih=>
  have:1≤(k n).wt:=by rw[Ex.wt_eq];omega
  show n+1≤sm (fun i=>(k i).wt) n+(k n).wt;omega
theorem ty_info:(Tryz.prog.info? 36).map (fun i=>(i.zero,i.size,i.bytes))=some (some (.int .u8 0),1,1):=by kernel_rfl
theorem ty_snoc {w:World}{B n:Nat}{v:Value}{l:List Int}{t:Int}(h:w.ownsRow B 36 1 v (n+1) (l.map (Value.int .u8)++[.int .u8 t])):w.ownsRow B 36 1 v (n+1) ((l++[t]).map (Value.int .u8)):=by
 rw[List.map_append];exact h
theorem cctypes_of (B R M n:Nat)(S:Sc)(s:Sl)(k:Nat→Ex)(ih:∀i,i<s.n→CkX B R M n S (k i))(w:World)(h:Ckr R M n S w)(hX:XsIn B w s k)(hB:B≤w.heap.size)(hw:sm (fun i=>(k i).wt) s.n≤1000000) :
  Calls Tryz.prog 49 #[.pointer (some ⟨R,0,none⟩),.slice s.ao s.n s.c] w fun r w'=>tyR s.n (cks (fun i=>(k i).ck S) s.n) w.heap.size r w'∧Below w.heap.size w w':=by
 obtain⟨i0,hi,hz0,hz1,hz2⟩:=info_parts ty_info;have HI0:=Hj (And.intro hi (And.intro hz0 (And.intro hz1 hz2)));have HX:=Hj hX;have IH:=Hj ih;have HB:=Hj hB;have HC:=Hj h;have hmx:s.n≤1000000:=Nat.le_trans (wt_num k s.n) hw;have HM:=Hj hmx;have HW:Hid (∀i,i<s.n→(k i).wt≤1000000):=fun i hi=>by have:=sm_one (f:=fun i=>(k i).wt) hi;omega
 clear hi hz0 hz1 hz2 hX ih hB h hmx hw;obtain⟨ao,m,c⟩:=s;dsimp only at *;go_enter Tryz.func49,Tryz.ntmps49;go_wp2_with fail
 go_loopg [5,10] m (fun gk v i wr=>∃(j:Nat) (A:Option Addr) (cp:Nat) (l:List Int),i=.int .i64 (j:Int)∧v=.slice A j cp∧Hid (gk=m-j∧j≤m)∧Hid (cks (fun i=>(k i).ck S) j=.ok l)∧Hid (wr.ownsRow w.heap.size 36 1 (.slice A j cp) j (l.map (Value.int .u8)))∧Hid (Below w.heap.size w wr))
 case atStart=>exact⟨0,none,0,[],rfl,rfl,⟨rfl,Nat.zero_le _⟩,rfl,World.ownsRow_nil _ _ _ _,Below.refl _ _⟩
 case round=>
  obtain⟨j,A,cp,l,rfl,rfl,HJ,HL,OW,BEL⟩:=hrel
  by_cases hlt:j<m
  ·have z0:(j:Int)<(m:Int):=by omega
   have ovi:IntKind.i64.wrap ((j:Int)+1)=((j+1:Nat):Int):=by have:=HM.out;rw[IntKind.wrap_i64];omega
   obtain⟨a,b,o,rfl,hA,hb,X,I⟩:=XsIn.at (HX.out.below BEL.out HB.out) (i:=j) hlt;have d0:=X.c0;have d1:=X.c1;have d2:=X.c2;have d3:=X.c3;have d4:=X.c4;have d5:=X.c5;have d6:=X.c6;have BX:=bx_bel (Below.refl wr.heap.size wr) (Nat.le_refl _) (xO (k j).h);have C:=Hj (IH.out j hlt (bx wr (xO (k j).h)) ((HC.out.bel BEL.out).bel BX) (I.below BX (Nat.le_trans HB.out BEL.out.size)) (Nat.le_trans (Nat.le_trans HB.out BEL.out.size) BX.size) (HW.out j hlt));have GX:=x_cells (bx_new wr (xO (k j).h));have OB:=Hj (OW.out.alloc (xO (k j).h));have BB:=Hj (BEL.out.trans (BX.mono BEL.out.size));have HLT:=Hj hlt;have NXT:Hid (cks (fun i=>(k i).ck S) (j+1)=((k j).ck S).bind fun t=>.ok (l++[t])):=by show cks _ (j+1)=_;simp only[cks,HL.out];rfl
   clear X I hb hlt BX OW;go_upto_region 5 with fail;rw[bx_x wr (k j).h];have OB':Hid ((bx wr (xO (k j).h)).ownsRow w.heap.size 36 1 (.slice A j cp) j (l.map (Value.int .u8))):=OB;obtain⟨x0,x1,x2,x3,x4,x5,x6⟩:=GX;clear OB d0 d1 d2 d3 d4 d5 d6;have HWS:Hid ((bx wr (xO (k j).h)).heap.size=wr.heap.size+1):=bx_size _ _;generalize bx wr (xO (k j).h)=wb at *;go_wp2_with fail;refine C.out.mono ?_;rintro r w1 ⟨rfl,b1⟩;have O1:=Hj (own_below OB'.out b1);have B1:=Hj (bel_trans BB.out b1);clear C b1 OB' BB x0 x1 x2 x3 x4 x5 x6 HWS
   cases hc:(k j).ck S with
   | no c p=>
    have E:Hid (cks (fun i=>(k i).ck S) m=.no c p):=cks_stop hc HL.out m HLT.out;clear hc;dsimp only[ckE];go_wp2_with fail;refine⟨rfl,?_,B1.out⟩;rw[E.out];rfl
   | ok t=>
    rw[hc]at NXT;clear hc;dsimp only[ckE]
    go_wp2_with (at_builtin;refine wpList_append_own _ rfl _ _ 99 rfl w.heap.size 36 i0 (.int .u8 0) 1 1 Tryz.underlying99 HI0.out.1 HI0.out.2.1 HI0.out.2.2.1 HI0.out.2.2.2 rfl (by decide) _ j _ rfl (O1.out.alloc _) ⟨w1.heap.size,0,none⟩ 1 1 [_] rfl rfl (cell_one_new _ _ _) ?c2 ?c3 ?c4 ?c5 ?_)
    case c2=>intro u hu;simp at hu;subst hu;rfl
    case c3=>have:=HM.out;have:=HLT.out;unfold maxLen;omega
    case c4=>have:=HM.out;have:=HLT.out;omega
    case c5=>have:=B1.out.size;simp;omega
    intro v' w2 own' hgrow hnil;clear hnil;have B2:=Hj (own_grown B1.out O1.out hgrow);have own2:=ty_snoc own';obtain⟨A',cp',rfl⟩:=own_f12 own2;have OW2:=Hj own2;clear own' hgrow own2 O1 B1;go_wp2_with fail
    go_roundg (m-(j+1))
    case measure=>have:=HJ.out;have:=HLT.out;omega
    case rel=>exact⟨j+1,A',cp',l++[t],by go_num,by go_num,⟨rfl,HLT.out⟩,NXT.out,OW2.out,B2.out⟩
  ·obtain rfl:j=m:=by have:=HJ.out;omega
   have z0:¬(j:Int)<(j:Int):=by omega
   clear hlt;go_wp2_with fail;go_ret;refine⟨?_,BEL.out⟩;rw[HL.out];exact⟨_,rfl,OW.out⟩
theorem dD_is:dD=2 ^ 1074:=by unfold dD;exact dB_int _
def IsI (W:Int):Prop:=∃k,0≤k∧k≤9218868437227405311∧gK k=W*dD
def iF (s:Bool)(W:Int):Int:=rF 0 s (2*(W*dD)) false
theorem isI_of {X:Int}{i:Nat}(h0:0≤X)(h1:X<9007199254740992)(hi:i≤900):IsI (X*2 ^ i):=by
 rcases Int.lt_or_eq_of_le h0 with h|h
 ·obtain⟨j, -,j1,j2⟩:=blen_at h
  have j3:j<53:=pow_lt_of (Int.lt_of_le_of_lt j1 (show X<2 ^ 53 from h1));have p1:=pow_pos' (52-j)
  have a1:(4503599627370496:Int)≤X*2 ^ (52-j):=by
   have:=Int.mul_le_mul_of_nonneg_right j1 (Int.le_of_lt p1);rw[←Int.pow_add,show j+(52-j)=52 by omega]at this;exact this
  have a2:X*2 ^ (52-j)<9007199254740992:=by
   have:=Int.mul_lt_mul_of_pos_right j2 p1;rw[←Int.pow_add,show j+1+(52-j)=53 by omega]at this;exact this
  have e:=gK_of (u:=1022+j+i) (W:=X*2 ^ (52-j)) (by omega) (by omega) (fun _=>a1);refine⟨_,?_,?_,e.trans ?_⟩
  iterate 2
   ·generalize X*2 ^ (52-j)=Y at *
    omega
  ·rw[Int.mul_assoc,←Int.pow_add,dD_is,Int.mul_assoc,←Int.pow_add,show 52-j+(1022+j+i)=i+1074 by omega]
 ·subst h
  exact⟨0,by decide,by decide,by rw[Int.zero_mul,Int.zero_mul];decide⟩
theorem isI_small {W:Int}(h0:0≤W)(h1:W<9007199254740992):IsI W:=by
 have:=isI_of (i:=0) h0 h1 (by decide);rw[Int.pow_zero,Int.mul_one]at this;exact this
theorem iF_own {W k:Int}(h0:0≤k)(h1:k≤9218868437227405311)(h:gK k=W*dD)(md:Int)(s:Bool):rF md s (2*(W*dD)) false=k+sg s∧rG md s (2*(W*dD)) false=0:=by
 rw[←h];exact own_stays h0 h1 md s
theorem iF_key {W k:Int}(h0:0≤k)(h1:k≤9218868437227405311)(h:gK k=W*dD)(s:Bool):iF s W=k+sg s:=(iF_own h0 h1 h 0 s).1
theorem iF_parts {W:Int}(h:IsI W)(s:Bool):Word (iF s W)∧fC (iF s W)<3∧fS (iF s W)=s∧fMg (iF s W)=W*dD∧fZ (iF s W)=sv s W*dD:=by
 obtain⟨k,h0,h1,h2⟩:=h;rw[iF_key h0 h1 h2];obtain⟨a,b, -, -,c⟩:=kS_parts (s:=s) h0 (by omega);refine⟨c,(kS_class (s:=s) h0 (by omega)).2.2 h1,a,?_,?_⟩
 ·unfold fMg
  rw[b,h2]
 ·rw[kS_Z h0 (by omega),h2,sv_mul]
theorem rF_nil (md:Int)(s:Bool):rF md s 0 false=sg s∧rG md s 0 false=0:=by
 have:=own_stays (k:=0) (by decide) (by decide) md s;rw[show gK 0=0 by decide,Int.mul_zero,Int.zero_add]at this;exact this
theorem int_round (c:Int):rN c (eP (eC 0)) (eQ (eC 0))=2*(c*dD)∧rS c (eP (eC 0)) (eQ (eC 0)) false=false:=by
 rw[show eP (eC 0)=1075 by decide,show eQ (eC 0)=0 by decide]
 have e:c*2 ^ 1075=2*(c*dD):=by
  rw[dD_is,show(1075:Nat)=1+1074 by decide,Int.pow_add,←Int.mul_assoc,Int.mul_comm c,Int.mul_assoc];rfl
 unfold rN rS;rw[e,Int.pow_zero,Int.ediv_one,Int.emod_one];exact⟨rfl,rfl⟩
def fiF (md x:Int):Int:=rF md (decide (x<0)) (2*((x.natAbs:Int)*dD)) false
def fiG (md x:Int):Int:=rG md (decide (x<0)) (2*((x.natAbs:Int)*dD)) false
theorem fi_parts {x:Int}(h0:-2147483648≤x)(h1:x≤2147483647):Word (fiF 0 x)∧fC (fiF 0 x)<3:=by
 have hI:IsI (x.natAbs:Int):=isI_small (by omega) (by omega);obtain⟨w,c, -, -, -⟩:=iF_parts hI (decide (x<0));exact⟨w,c⟩
def enV (e:EH):Int:=if e.op=2 then fiF 0 e.it else if e.op=3 then e.fl else 9221120237041090560
theorem enV_word {e:EH}(h:e.ok):Word (enV e):=by
 unfold enV;split
 ·exact(fi_parts h.it0 h.it1).1
 ·split
  ·exact h.fl
  ·unfold Word;omega
def raP (t:Int)(a b:EH):Bool:=
 if t=2 then decide (a.op=2) && decide (b.op=2) && decide (a.it≤b.it)
 else decide (fC (enV a)<3) && decide (fC (enV b)<3) && !fLt (enV b) (enV a)
def raN (d:De):Bool:=
 if d.inp then decide (d.len=0) && (d.rg == numT d.ty) && (!d.rg || raP d.ty d.lo.h d.hi.h)
 else !d.rg && decide (0≤d.len) && decide (d.len≤16)
theorem raN_len {d:De}(h:raN d=true):0≤d.len∧d.len≤16:=by
 unfold raN at h
 cases g:d.inp with
 | true=>
  rw[g]at h;simp only[if_true,Bool.and_eq_true,decide_eq_true_eq]at h;have:=h.1.1;omega
 | false=>
  rw[g]at h;simp only[Bool.false_eq_true,if_false,Bool.and_eq_true,decide_eq_true_eq]at h;exact⟨h.1.2,h.2⟩
theorem raN_same {d d':De}(h:d.same d'=true):raN d=raN d':=by
 obtain⟨h1, -,h3,h4,h5,h6,h7⟩:=De.same_iff.1 h;obtain⟨a1, -,a3,a4, -⟩:=Ex.same_iff.1 h6;obtain⟨b1, -,b3,b4, -⟩:=Ex.same_iff.1 h7;have e1:enV d.lo.h=enV d'.lo.h:=by unfold enV;rw[a1,a3,a4]
 have e2:enV d.hi.h=enV d'.hi.h:=by unfold enV;rw[b1,b3,b4]
 unfold raN raP;rw[h1,h3,h4,h5,e1,e2,a1,a3,b1,b3]
theorem finF_is {f:Int}:finF f=decide (fC f<3):=by
 unfold finF fC fE fM
 by_cases c:f / 4503599627370496 % 2048=2047
 ·rw[if_pos c,decide_eq_false (by omega:¬f % 9223372036854775808<9218868437227405312)]
  split<;>rfl
 ·rw[if_neg c,decide_eq_true (by omega:f % 9223372036854775808<9218868437227405312)]
  split
  ·split<;>rfl
  ·rfl
theorem ccname_of (B R M n:Nat)(S:Sc)(op ps:Int)(bo:Bool)(it fl:Int)(nm:List UInt8)(s:Sl)(k:Nat→Ex)(ih:∀i,i<s.n→CkX B R M n S (k i))(w:World)(hC:Ckr R M n S w)(hnm:nm.length≤maxLen)(hX:XsIn B w s k)(hB:B≤w.heap.size)(hw:sm (fun i=>(k i).wt) s.n≤1000000)(m:Option Mn)(hm:mnS S nm=m) :
  Calls Tryz.prog 47 #[.pointer (some ⟨R,0,none⟩),EH.v ⟨op,ps,bo,it,fl,nm,s⟩] w fun r w'=>r=ckE (nmC m S.init ps s.n ((k 0).ck S))∧Below w.heap.size w w':=by
 obtain⟨sa,sn,sc⟩:=s;dsimp only at *;have BX:=bx_bel (Below.refl w.heap.size w) (Nat.le_refl _) (xO ⟨op,ps,bo,it,fl,nm,⟨sa,sn,sc⟩⟩);have HC1:=Ckf.bel hC BX;have F:=Hj (ccfind_any R M n _ _ _ nm ps _ HC1 hnm);rw[hm]at F;have HW:=Hj hw;have HC:=Hj HC1;have HX:=Hj (hX.below BX hB);have HB:=Hj hB;have IH:=Hj ih;have GX:=bx_new w (xO ⟨op,ps,bo,it,fl,nm,⟨sa,sn,sc⟩⟩);obtain⟨x0,x1,x2,x3,x4,x5,x6⟩:=x_cells GX;dsimp only at x0 x1 x2 x3 x4 x5 x6;have GB:=Hj GX;have B1:=Hj BX;have HRL:Hid (R<w.heap.size∧M<w.heap.size):=⟨hC.blk.lt,hC.mp.lt⟩;clear BX hC hnm hX hB ih GX HC1 hw hm;show Calls Tryz.prog 47 #[.pointer (some ⟨R,0,none⟩),.agg #[.int .u8 op,.int .i64 ps,.bool bo,.int .i32 it,.int .u64 fl,.string ⟨nm.toArray⟩,.slice sa sn sc]] w _;go_enter Tryz.func47,Tryz.ntmps47;go_upto_region 1 with fail;rw[bx_x w ⟨op,ps,bo,it,fl,nm,⟨sa,sn,sc⟩⟩];have HSZ:Hid ((bx w (xO ⟨op,ps,bo,it,fl,nm,⟨sa,sn,sc⟩⟩)).heap.size=w.heap.size+1):=bx_size _ _;generalize bx w (xO ⟨op,ps,bo,it,fl,nm,⟨sa,sn,sc⟩⟩)=w1 at *;go_wp2_with fail;refine F.out.mono ?_;rintro r w2 ⟨rfl,b2⟩;clear F x0 x1 x2 x3 x4 x5 x6;have B2:=Hj (bel_trans B1.out b2);have BB2:=Hj b2;clear b2
 cases m with
 | none=>
  dsimp only[fnE];go_wp2_with fail;exact⟨rfl,rfl,B2.out⟩
 | some m=>
  obtain⟨us,ty,ar⟩:=m;dsimp only[fnE,mnV];have BA:=bel_one w2 (.cells #[.int .i64 us,.int .u8 ty,.bool ar] 96);have N2:Hid (Blk (w2.alloc (.cells #[.int .i64 us,.int .u8 ty,.bool ar] 96)) w2.heap.size 96 #[.int .i64 us,.int .u8 ty,.bool ar]):=Blk.new _ _ _;have B3:=Hj (bel_trans B2.out BA);have BB3:=Hj (bel_trans BB2.out BA);have G3:=Hj (keptO BB3.out GB.out);have HC3:=Hj (HC.out.bel BB3.out);have HX3:=Hj (HX.out.below BB3.out (by have:=HSZ.out;have:=HB.out;omega));have HLE:Hid (w1.heap.size≤w2.heap.size):=BB2.out.size;clear BA B2 BB2 BB3 GB HC HX B1;go_upto_region 2 with fail;change (Code.region 2 _ _).wp _ _ _ (w2.alloc (.cells #[.int .i64 us,.int .u8 ty,.bool ar] 96));generalize w2.alloc (.cells #[.int .i64 us,.int .u8 ty,.bool ar] 96)=w3 at *;generalize w2.heap.size=g2 at *;obtain⟨x0,x1,x2,x3,x4,x5,x6⟩:=x_cells G3.out;dsimp only at x0 x1 x2 x3 x4 x5 x6;have n0:w3.cell? ⟨g2,0,none⟩=some (.int .i64 us):=N2.out.cell 0;have r1:w3.cell? ⟨R,1,none⟩=some (.bool S.init):=HC3.out.blk.cell 1
  by_cases hu:us=1∧S.init=true
  ·obtain⟨rfl,hi⟩:=hu
   rw[hi]at r1;have E:Hid (nmC (some ⟨1,ty,ar⟩) S.init ps sn ((k 0).ck S)=.no 124 ps):=by show nmC _ _ _ _ _=_;rw[hi];rfl
   clear hi
   go_still_tail 12,(by kernel_rfl)
   change wpList _ _ _ _ _ w3.drew;have B4:=Hj (bel_drew B3.out);generalize w3.drew=w4 at *;go_wp2_with fail;refine(ccmust_any _ _ _ _).mono ?_;rintro r w5 ⟨rfl,rfl⟩;dsimp only[muE];go_wp2_with fail;refine⟨rfl,?_,B4.out⟩;rw[E.out];rfl
  ·have HU:=Hj hu
   go_cut [26] (fun v wx=>v=.tuple #[]∧wx=w3.drew)
   case first=>
    by_cases h1:us=1
    ·subst h1
     have hi:S.init=false:=by
      cases hi:S.init with
      | false=>rfl
      | true=>exact absurd ⟨rfl,hi⟩ hu
     rw[hi]at r1;clear hu hi
     go_still_tail 12,(by kernel_rfl)
     change wpList _ _ _ _ _ w3.drew;generalize w3.drew=w4 at *;go_wp2_with fail;refine(ccmust_any _ _ _ _).mono ?_;rintro r w5 ⟨rfl,rfl⟩;dsimp only[muE];go_wp2_with fail;go_meet;exact⟨rfl,rfl⟩
    ·clear hu
     go_still_tail 12,(by kernel_rfl)
     change wpList _ _ _ _ _ w3.drew;generalize w3.drew=w4 at *;go_wp2_with fail;refine(ccmust_any _ _ _ _).mono ?_;rintro r w5 ⟨rfl,rfl⟩;dsimp only[muE];go_wp2_with fail;go_meet;exact⟨rfl,rfl⟩
   case rest=>
    obtain⟨rfl,rfl⟩:=hcut;have B4:=Hj (bel_drew B3.out);have N4:Hid (Blk w3.drew g2 96 #[.int .i64 us,.int .u8 ty,.bool ar]):=N2.out;have G4:Hid (w3.drew.heap[w.heap.size]? = some (xO ⟨op,ps,bo,it,fl,nm,⟨sa,sn,sc⟩⟩)):=G3.out;have HC4:=Hj (HC3.out.bel (bel_drew (Below.refl _ w3)));have HX4:=Hj (HX3.out.drew);clear B3 N2 G3 HC3 HX3 x0 x1 x2 x3 x4 x5 x6 n0 r1 hu;generalize w3.drew=w4 at *;have HB4:Hid (B≤w4.heap.size):=Nat.le_trans HB.out B4.out.size
    cases ar with
    | false=>
     have E:Hid (nmC (some ⟨us,ty,false⟩) S.init ps sn ((k 0).ck S)=if sn=0 then .ok ty else .no 125 ps):=by
      show nmC _ _ _ _ _=_;unfold nmC;dsimp only;rw[if_neg HU.out]
      by_cases c:sn=0
      ·subst c;rfl
      ·simp[c]
     have IX:Hid (∀w,Calls Tryz.prog 73 #[.agg #[.int .i64 us,.int .u8 ty,.bool false]] w fun e w'=>e=.returned (.int .i64 0)∧Below w.heap.size w w'):=fun w=>ccindexes_any ⟨us,ty,false⟩ w
     by_cases hn:sn=0
     ·subst hn
      have KG:Hid (∀w',Below w4.heap.size w4 w'→(w'.cell? ⟨w.heap.size,6,none⟩=some (.slice sa 0 sc)∧w'.cell? ⟨w.heap.size,1,none⟩=some (.int .i64 ps)∧w'.cell? ⟨g2,0,none⟩=some (.int .i64 us)∧w'.cell? ⟨g2,1,none⟩=some (.int .u8 ty)∧w'.cell? ⟨g2,2,none⟩=some (.bool false))):=fun w' hw=>by
       obtain⟨-,x1, -, -, -, -,x6⟩:=x_cells (keptO hw G4.out);have N5:=N4.out.below hw N4.out.lt;exact⟨x6,x1,N5.cell 0,N5.cell 1,N5.cell 2⟩
      go_upto_region 3 with fail;refine region_plan (S:=fun w'=>w'.cell? ⟨w.heap.size,6,none⟩=some (.slice sa 0 sc)∧w'.cell? ⟨w.heap.size,1,none⟩=some (.int .i64 ps)∧w'.cell? ⟨g2,0,none⟩=some (.int .i64 us)∧w'.cell? ⟨g2,1,none⟩=some (.int .u8 ty)∧w'.cell? ⟨g2,2,none⟩=some (.bool false)) _ [(0,true),(1,true),(2,true),(3,true),(6,true),(7,true),(4,false),(5,true),(8,false)] (by kernel_rfl) (by kernel_rfl) rfl (by kernel_rfl) (by kernel_rfl) (fun _ _ d _ _ h=>by cases d<;>exact h) (KG.out _ (bel_drew (Below.refl _ _))) ?_
      iterate 6
       refine Walk.take (v:=?_) rfl (by rfl) ?_ ?_;rotate_left
       ·(intro w' hSw;(try dsimp only at hSw);go_simp<;>with_reducible rfl)
       try simp only[Act.put,List.setIfInBounds_toArray,List.set_cons_zero,List.set_cons_succ]
      refine Walk.act rfl (by rfl) (fun K hK=>?_);go_simp;go_at_call 73;refine(IX.out _).mono ?_;rintro r w5 ⟨rfl,b5⟩;have X1:Below w4.heap.size w4 w5:=bel_trans (bel_drew (Below.refl _ _)) b5;refine hK.out _ _ (KG.out _ X1) ?_;clear hK K;try simp only[Act.put,List.setIfInBounds_toArray,List.set_cons_zero,List.set_cons_succ]
      iterate 1
       refine Walk.take (v:=?_) rfl (by rfl) ?_ ?_;rotate_left
       ·(intro w' hSw;(try dsimp only at hSw);go_simp<;>with_reducible rfl)
       try simp only[Act.put,List.setIfInBounds_toArray,List.set_cons_zero,List.set_cons_succ]
      refine Walk.act rfl (by rfl) (fun K hK=>?_);go_simp;go_at_call 20;refine(ccmust_any _ _ _ _).mono ?_;rintro r w6 ⟨rfl,e6⟩;dsimp only[muE];have X2:Below w4.heap.size w4 w6:=e6 ▸ X1;refine hK.out _ _ (KG.out _ X2) ?_;clear hK K;try simp only[Act.put,List.setIfInBounds_toArray,List.set_cons_zero,List.set_cons_succ]
      refine Walk.done ?_;have B6:=Hj (bel_trans B4.out X2);have N6:=Hj (N4.out.below X2 N4.out.lt);have G6:=Hj (keptO X2 G4.out);have TY:=Hj (cctypes_of B R M n S ⟨sa,0,sc⟩ k IH.out w6 (HC4.out.bel X2) (HX4.out.below X2 HB4.out) (Nat.le_trans HB4.out X2.size) HW.out);have q6:=(x_cells G6.out).2.2.2.2.2.2;dsimp only at q6;clear KG X1 X2 b5 e6 IX;go_wp2_with fail;refine TY.out.mono ?_;rintro r w7 ⟨hr,b7⟩;have N7:=Hj (N6.out.below b7 N6.out.lt);have G7:=Hj (keptO b7 G6.out);have B7:=Hj (bel_trans B6.out b7);clear TY b7 N6 G6 B6 q6;obtain⟨v,rfl,own⟩:∃v,r=.returned v∧w7.ownsRow w6.heap.size 36 1 v 0 (([]:List Int).map (Value.int .u8)):=hr;obtain⟨A,cp,rfl⟩:=own_f12 own;clear own;have n1:w7.cell? ⟨g2,1,none⟩=some (.int .u8 ty):=N7.out.cell 1;go_wp2_with fail;refine wp_loop_rounds 1 ?_;rw[rounds_succ];go_wp2_with fail;go_ret;refine⟨?_,B7.out⟩;rw[E.out];rfl
     ·have hb:((sn:Int) == 0)=false:=by simp;omega
      have KG:Hid (∀w',Below w4.heap.size w4 w'→(w'.cell? ⟨w.heap.size,6,none⟩=some (.slice sa sn sc)∧w'.cell? ⟨w.heap.size,1,none⟩=some (.int .i64 ps)∧w'.cell? ⟨g2,0,none⟩=some (.int .i64 us)∧w'.cell? ⟨g2,1,none⟩=some (.int .u8 ty)∧w'.cell? ⟨g2,2,none⟩=some (.bool false))):=fun w' hw=>by
       obtain⟨-,x1, -, -, -, -,x6⟩:=x_cells (keptO hw G4.out);have N5:=N4.out.below hw N4.out.lt;exact⟨x6,x1,N5.cell 0,N5.cell 1,N5.cell 2⟩
      rw[if_neg hn]at E;clear hn;go_upto_region 3 with fail;refine region_plan (S:=fun w'=>w'.cell? ⟨w.heap.size,6,none⟩=some (.slice sa sn sc)∧w'.cell? ⟨w.heap.size,1,none⟩=some (.int .i64 ps)∧w'.cell? ⟨g2,0,none⟩=some (.int .i64 us)∧w'.cell? ⟨g2,1,none⟩=some (.int .u8 ty)∧w'.cell? ⟨g2,2,none⟩=some (.bool false)) _ [(0,true),(1,true),(2,true),(3,true),(6,true),(7,true),(4,false),(5,true),(8,false)] (by kernel_rfl) (by kernel_rfl) rfl (by kernel_rfl) (by kernel_rfl) (fun _ _ d _ _ h=>by cases d<;>exact h) (KG.out _ (bel_drew (Below.refl _ _))) ?_
      iterate 6
       refine Walk.take (v:=?_) rfl (by rfl) ?_ ?_;rotate_left
       ·(intro w' hSw;(try dsimp only at hSw);go_simp<;>with_reducible rfl)
       try simp only[Act.put,List.setIfInBounds_toArray,List.set_cons_zero,List.set_cons_succ]
      refine Walk.act rfl (by rfl) (fun K hK=>?_);go_simp;go_at_call 73;refine(IX.out _).mono ?_;rintro r w5 ⟨rfl,b5⟩;have X1:Below w4.heap.size w4 w5:=bel_trans (bel_drew (Below.refl _ _)) b5;refine hK.out _ _ (KG.out _ X1) ?_;clear hK K;try simp only[Act.put,List.setIfInBounds_toArray,List.set_cons_zero,List.set_cons_succ]
      iterate 1
       refine Walk.take (v:=?_) rfl (by rfl) ?_ ?_;rotate_left
       ·(intro w' hSw;(try dsimp only at hSw);go_simp<;>with_reducible rfl)
       try simp only[Act.put,List.setIfInBounds_toArray,List.set_cons_zero,List.set_cons_succ]
      refine Walk.act rfl (by rfl) (fun K hK=>?_);go_simp;go_at_call 20;refine(ccmust_any _ _ _ _).mono ?_;rintro r w6 ⟨rfl,e6⟩;dsimp only[muE];refine⟨rfl,?_,bel_trans B4.out (e6 ▸ X1)⟩;rw[E.out];rfl
    | true=>
     have E:Hid (nmC (some ⟨us,ty,true⟩) S.init ps sn ((k 0).ck S)=if sn=1 then((k 0).ck S).bind fun u=>if u=2 then .ok ty else .no 122 ps else .no 125 ps):=by
      show nmC _ _ _ _ _=_;unfold nmC;dsimp only;rw[if_neg HU.out]
      by_cases c:sn=1
      ·subst c;rfl
      ·have c2:¬(sn:Int)=1:=by omega
       simp[c,c2]
     have IX:Hid (∀w,Calls Tryz.prog 73 #[.agg #[.int .i64 us,.int .u8 ty,.bool true]] w fun e w'=>e=.returned (.int .i64 1)∧Below w.heap.size w w'):=fun w=>ccindexes_any ⟨us,ty,true⟩ w
     by_cases hn:sn=1
     ·subst hn
      have KG:Hid (∀w',Below w4.heap.size w4 w'→(w'.cell? ⟨w.heap.size,6,none⟩=some (.slice sa 1 sc)∧w'.cell? ⟨w.heap.size,1,none⟩=some (.int .i64 ps)∧w'.cell? ⟨g2,0,none⟩=some (.int .i64 us)∧w'.cell? ⟨g2,1,none⟩=some (.int .u8 ty)∧w'.cell? ⟨g2,2,none⟩=some (.bool true))):=fun w' hw=>by
       obtain⟨-,x1, -, -, -, -,x6⟩:=x_cells (keptO hw G4.out);have N5:=N4.out.below hw N4.out.lt;exact⟨x6,x1,N5.cell 0,N5.cell 1,N5.cell 2⟩
      go_upto_region 3 with fail;refine region_plan (S:=fun w'=>w'.cell? ⟨w.heap.size,6,none⟩=some (.slice sa 1 sc)∧w'.cell? ⟨w.heap.size,1,none⟩=some (.int .i64 ps)∧w'.cell? ⟨g2,0,none⟩=some (.int .i64 us)∧w'.cell? ⟨g2,1,none⟩=some (.int .u8 ty)∧w'.cell? ⟨g2,2,none⟩=some (.bool true)) _ [(0,true),(1,true),(2,true),(3,true),(6,true),(7,true),(4,false),(5,true),(8,false)] (by kernel_rfl) (by kernel_rfl) rfl (by kernel_rfl) (by kernel_rfl) (fun _ _ d _ _ h=>by cases d<;>exact h) (KG.out _ (bel_drew (Below.refl _ _))) ?_
      iterate 6
       refine Walk.take (v:=?_) rfl (by rfl) ?_ ?_;rotate_left
       ·(intro w' hSw;(try dsimp only at hSw);go_simp<;>with_reducible rfl)
       try simp only[Act.put,List.setIfInBounds_toArray,List.set_cons_zero,List.set_cons_succ]
      refine Walk.act rfl (by rfl) (fun K hK=>?_);go_simp;go_at_call 73;refine(IX.out _).mono ?_;rintro r w5 ⟨rfl,b5⟩;have X1:Below w4.heap.size w4 w5:=bel_trans (bel_drew (Below.refl _ _)) b5;refine hK.out _ _ (KG.out _ X1) ?_;clear hK K;try simp only[Act.put,List.setIfInBounds_toArray,List.set_cons_zero,List.set_cons_succ]
      iterate 1
       refine Walk.take (v:=?_) rfl (by rfl) ?_ ?_;rotate_left
       ·(intro w' hSw;(try dsimp only at hSw);go_simp<;>with_reducible rfl)
       try simp only[Act.put,List.setIfInBounds_toArray,List.set_cons_zero,List.set_cons_succ]
      refine Walk.act rfl (by rfl) (fun K hK=>?_);go_simp;go_at_call 20;refine(ccmust_any _ _ _ _).mono ?_;rintro r w6 ⟨rfl,e6⟩;dsimp only[muE];have X2:Below w4.heap.size w4 w6:=e6 ▸ X1;refine hK.out _ _ (KG.out _ X2) ?_;clear hK K;try simp only[Act.put,List.setIfInBounds_toArray,List.set_cons_zero,List.set_cons_succ]
      refine Walk.done ?_;have B6:=Hj (bel_trans B4.out X2);have N6:=Hj (N4.out.below X2 N4.out.lt);have G6:=Hj (keptO X2 G4.out);have TY:=Hj (cctypes_of B R M n S ⟨sa,1,sc⟩ k IH.out w6 (HC4.out.bel X2) (HX4.out.below X2 HB4.out) (Nat.le_trans HB4.out X2.size) HW.out);have q6:=(x_cells G6.out).2.2.2.2.2.2;dsimp only at q6;clear KG X1 X2 b5 e6 IX;go_wp2_with fail;refine TY.out.mono ?_;rintro r w7 ⟨hr,b7⟩;have N7:=Hj (N6.out.below b7 N6.out.lt);have G7:=Hj (keptO b7 G6.out);have B7:=Hj (bel_trans B6.out b7);clear TY b7 N6 G6 B6 q6
      cases hc:(k 0).ck S with
      | no c p=>
       have e:cks (fun i=>(k i).ck S) 1=.no c p:=by simp only[cks,Ck.bind,hc]
       rw[e]at hr;obtain rfl:r=.panicked (fl12 c p):=hr;rw[if_pos True.intro]at E;have HCC:=Hj hc;clear e;go_wp2_with fail;refine⟨rfl,?_,B7.out⟩;rw[E.out,HCC.out];rfl
      | ok u=>
       have e:cks (fun i=>(k i).ck S) 1=.ok [u]:=by simp only[cks,Ck.bind,hc];rfl
       rw[e]at hr;obtain⟨v,rfl,own⟩:∃v,r=.returned v∧w7.ownsRow w6.heap.size 36 1 v 1 ([u].map (Value.int .u8)):=hr;obtain⟨g,cap,rfl, -⟩:=own_s12 own (by decide);have c0:=ty_cell own (j:=0) (t:=u) rfl;rw[if_pos True.intro]at E;have HCC:=Hj hc;have n1:w7.cell? ⟨g2,1,none⟩=some (.int .u8 ty):=N7.out.cell 1;have q1:=(x_cells G7.out).2.1;dsimp only at q1;clear own e hc;go_wp2_with fail;refine wp_loop_rounds 2 ?_;rw[rounds_succ]
       by_cases hu2:u=2
       ·subst hu2
        go_wp2_with fail;refine(ccmust_any _ _ _ _).mono ?_;rintro r w8 ⟨rfl,e8⟩;subst e8;dsimp only[muE];go_wp2_with fail;rw[rounds_succ];go_wp2_with fail;go_ret;refine⟨?_,B7.out⟩;rw[E.out,HCC.out];rfl
       ·have hb:(u == 2)=false:=by simp[hu2]
        go_wp2_with fail;refine(ccmust_any _ _ _ _).mono ?_;rintro r w8 ⟨rfl,e8⟩;subst e8;dsimp only[muE];go_wp2_with fail;refine⟨rfl,?_,B7.out⟩;rw[E.out,HCC.out];show _=ckE (if u=2 then .ok ty else .no 122 ps);rw[if_neg hu2];rfl
     ·have hb:((sn:Int) == 1)=false:=by simp;omega
      have KG:Hid (∀w',Below w4.heap.size w4 w'→(w'.cell? ⟨w.heap.size,6,none⟩=some (.slice sa sn sc)∧w'.cell? ⟨w.heap.size,1,none⟩=some (.int .i64 ps)∧w'.cell? ⟨g2,0,none⟩=some (.int .i64 us)∧w'.cell? ⟨g2,1,none⟩=some (.int .u8 ty)∧w'.cell? ⟨g2,2,none⟩=some (.bool true))):=fun w' hw=>by
       obtain⟨-,x1, -, -, -, -,x6⟩:=x_cells (keptO hw G4.out);have N5:=N4.out.below hw N4.out.lt;exact⟨x6,x1,N5.cell 0,N5.cell 1,N5.cell 2⟩
      rw[if_neg hn]at E;clear hn;go_upto_region 3 with fail;refine region_plan (S:=fun w'=>w'.cell? ⟨w.heap.size,6,none⟩=some (.slice sa sn sc)∧w'.cell? ⟨w.heap.size,1,none⟩=some (.int .i64 ps)∧w'.cell? ⟨g2,0,none⟩=some (.int .i64 us)∧w'.cell? ⟨g2,1,none⟩=some (.int .u8 ty)∧w'.cell? ⟨g2,2,none⟩=some (.bool true)) _ [(0,true),(1,true),(2,true),(3,true),(6,true),(7,true),(4,false),(5,true),(8,false)] (by kernel_rfl) (by kernel_rfl) rfl (by kernel_rfl) (by kernel_rfl) (fun _ _ d _ _ h=>by cases d<;>exact h) (KG.out _ (bel_drew (Below.refl _ _))) ?_
      iterate 6
       refine Walk.take (v:=?_) rfl (by rfl) ?_ ?_;rotate_left
       ·(intro w' hSw;(try dsimp only at hSw);go_simp<;>with_reducible rfl)
       try simp only[Act.put,List.setIfInBounds_toArray,List.set_cons_zero,List.set_cons_succ]
      refine Walk.act rfl (by rfl) (fun K hK=>?_);go_simp;go_at_call 73;refine(IX.out _).mono ?_;rintro r w5 ⟨rfl,b5⟩;have X1:Below w4.heap.size w4 w5:=bel_trans (bel_drew (Below.refl _ _)) b5;refine hK.out _ _ (KG.out _ X1) ?_;clear hK K;try simp only[Act.put,List.setIfInBounds_toArray,List.set_cons_zero,List.set_cons_succ]
      iterate 1
       refine Walk.take (v:=?_) rfl (by rfl) ?_ ?_;rotate_left
       ·(intro w' hSw;(try dsimp only at hSw);go_simp<;>with_reducible rfl)
       try simp only[Act.put,List.setIfInBounds_toArray,List.set_cons_zero,List.set_cons_succ]
      refine Walk.act rfl (by rfl) (fun K hK=>?_);go_simp;go_at_call 20;refine(ccmust_any _ _ _ _).mono ?_;rintro r w6 ⟨rfl,e6⟩;dsimp only[muE];refine⟨rfl,?_,bel_trans B4.out (e6 ▸ X1)⟩;rw[E.out];rfl
def fin12 (op ps fl:Int)(l:List Int):Ck Int:=if resT op l=0 then .no 122 ps else if op=3∧finF fl=false then .no 123 ps else .ok (resT op l)
theorem ccexpr_of (B R M n:Nat)(S:Sc)(hS:S.good)(h:EH)(k:Nat→Ex)(ih:∀i,i<h.s.n→CkX B R M n S (k i))(w:World)(hC:Ckr R M n S w)(hok:h.ok)(hX:XsIn B w h.s k)(hB:B≤w.heap.size)(hw:sm (fun i=>(k i).wt) h.s.n≤1000000) :
  Calls Tryz.prog 30 #[.pointer (some ⟨R,0,none⟩),h.v] w fun r w'=>r=ckE (if h.op=4 then(S.look h.nm h.ps).bind fun tl=>opsC tl.1 tl.2 h.s.n h.ps ((k 0).ck S)
   else(cks (fun i=>(k i).ck S) h.s.n).bind fun l=>fin12 h.op h.ps h.fl l)∧Below w.heap.size w w':=by
 rw[nmC_is hS];have hnm:=hok.nm;have hfl:=hok.fl;clear hok;obtain⟨op,ps,bo,it,fl,nm,⟨sa,sn,sc⟩⟩:=h;dsimp only at *;have BX:=bx_bel (Below.refl w.heap.size w) (Nat.le_refl _) (xO ⟨op,ps,bo,it,fl,nm,⟨sa,sn,sc⟩⟩);have HC1:Ckr R M n S (bx w (xO ⟨op,ps,bo,it,fl,nm,⟨sa,sn,sc⟩⟩)):=Ckf.bel hC BX;have hX1:=hX.below BX hB;have hB1:=Nat.le_trans hB BX.size;have G:=Hj (bx_new w (xO ⟨op,ps,bo,it,fl,nm,⟨sa,sn,sc⟩⟩));have B1:=Hj BX;clear BX hX hB hC
 by_cases h4:op=4
 ·subst h4
  rw[if_pos rfl];have NM:=Hj (ccname_of B R M n S 4 ps bo it fl nm ⟨sa,sn,sc⟩ k ih _ HC1 hnm hX1 hB1 hw _ rfl);dsimp only at NM;generalize nmC (mnS S nm) S.init ps sn ((k 0).ck S)=Z at *;obtain⟨x0,x1,x2,x3,x4,x5,x6⟩:=x_cells G.out;dsimp only at x0 x1 x2 x3 x4 x5 x6;clear ih HC1 hX1 hB1 hw hnm hfl;show Calls Tryz.prog 30 #[.pointer (some ⟨R,0,none⟩),.agg #[.int .u8 4,.int .i64 ps,.bool bo,.int .i32 it,.int .u64 fl,.string ⟨nm.toArray⟩,.slice sa sn sc]] w _;go_enter Tryz.func30,Tryz.ntmps30;go_upto_region 1 with fail;rw[bx_x w ⟨4,ps,bo,it,fl,nm,⟨sa,sn,sc⟩⟩];generalize bx w (xO ⟨4,ps,bo,it,fl,nm,⟨sa,sn,sc⟩⟩)=w1 at *;go_wp2_with fail;refine NM.out.mono ?_;rintro r w2 ⟨rfl,b2⟩;have B2:=Hj (bel_trans B1.out b2);clear NM b2 x0 x1 x2 x3 x4 x5 x6
  cases Z with
  | no c p=>
   dsimp only[ckE];go_wp2_with fail;exact⟨rfl,rfl,B2.out⟩
  | ok u=>
   dsimp only[ckE];go_wp2_with fail;go_ret;exact⟨rfl,B2.out⟩
 ·rw[if_neg h4]
  have TY:Hid (∀w',Below (bx w (xO ⟨op,ps,bo,it,fl,nm,⟨sa,sn,sc⟩⟩)).heap.size (bx w (xO ⟨op,ps,bo,it,fl,nm,⟨sa,sn,sc⟩⟩)) w'→Calls Tryz.prog 49 #[.pointer (some ⟨R,0,none⟩),.slice sa sn sc] w' fun r w''=>tyR sn (cks (fun i=>(k i).ck S) sn) w'.heap.size r w''∧Below w'.heap.size w' w''):=fun w' hb=>
   cctypes_of B R M n S ⟨sa,sn,sc⟩ k ih w' (HC1.bel hb) (hX1.below hb hB1) (Nat.le_trans hB1 hb.size) hw
  have LN:Hid (∀l,cks (fun i=>(k i).ck S) sn=.ok l→l.length=sn):=fun l h=>(cks_ok h).1;generalize cks (fun i=>(k i).ck S) sn=L at *;clear ih HC1 hX1 hB1 hw hnm hS;have x0:=(x_cells G.out).1;dsimp only at x0;have HF:=Hj hfl;clear hfl;show Calls Tryz.prog 30 #[.pointer (some ⟨R,0,none⟩),.agg #[.int .u8 op,.int .i64 ps,.bool bo,.int .i32 it,.int .u64 fl,.string ⟨nm.toArray⟩,.slice sa sn sc]] w _;go_enter Tryz.func30,Tryz.ntmps30;go_upto_region 1 with fail;rw[bx_x w ⟨op,ps,bo,it,fl,nm,⟨sa,sn,sc⟩⟩];generalize bx w (xO ⟨op,ps,bo,it,fl,nm,⟨sa,sn,sc⟩⟩)=w1 at *
  have KG:Hid (∀w',Below w1.heap.size w1 w'→(w'.cell? ⟨w.heap.size,0,none⟩=some (.int .u8 op)∧w'.cell? ⟨w.heap.size,6,none⟩=some (.slice sa sn sc))):=fun w' hw=>by
   obtain⟨x0, -, -, -, -, -,x6⟩:=x_cells (keptO hw G.out);exact⟨x0,x6⟩
  go_upto_region 3 with fail
  cases L with
  | no c p=>
   clear LN x0;refine region_plan (S:=fun w'=>w'.cell? ⟨w.heap.size,0,none⟩=some (.int .u8 op)∧w'.cell? ⟨w.heap.size,6,none⟩=some (.slice sa sn sc)) _ [(0,true),(1,true),(2,true),(3,true),(4,true),(5,false),(6,false),(7,true)] (by kernel_rfl) (by kernel_rfl) rfl (by kernel_rfl) (by kernel_rfl) (fun _ _ d _ _ h=>by cases d<;>exact h) (KG.out _ (bel_drew (Below.refl _ _))) ?_
   iterate 5
    refine Walk.take (v:=?_) rfl (by rfl) ?_ ?_;rotate_left
    ·(intro w' hSw;(try dsimp only at hSw);go_simp<;>with_reducible rfl)
    try simp only[Act.put,List.setIfInBounds_toArray,List.set_cons_zero,List.set_cons_succ]
   refine Walk.act rfl (by rfl) (fun K hK=>?_);go_simp;go_at_call 49;refine(TY.out _ (bel_drew (Below.refl _ _))).mono ?_;rintro r w2 ⟨hr,b2⟩;obtain rfl:r=.panicked (fl12 c p):=hr;dsimp only;refine⟨rfl,rfl,bel_trans B1.out (bel_trans (bel_drew (Below.refl _ _)) b2)⟩
  | ok l=>
   have LL:=Hj (LN.out l rfl);clear LN x0;refine region_plan (S:=fun w'=>w'.cell? ⟨w.heap.size,0,none⟩=some (.int .u8 op)∧w'.cell? ⟨w.heap.size,6,none⟩=some (.slice sa sn sc)) _ [(0,true),(1,true),(2,true),(3,true),(4,true),(5,false),(6,false),(7,true)] (by kernel_rfl) (by kernel_rfl) rfl (by kernel_rfl) (by kernel_rfl) (fun _ _ d _ _ h=>by cases d<;>exact h) (KG.out _ (bel_drew (Below.refl _ _))) ?_
   iterate 5
    refine Walk.take (v:=?_) rfl (by rfl) ?_ ?_;rotate_left
    ·(intro w' hSw;(try dsimp only at hSw);go_simp<;>with_reducible rfl)
    try simp only[Act.put,List.setIfInBounds_toArray,List.set_cons_zero,List.set_cons_succ]
   refine Walk.act rfl (by rfl) (fun K hK=>?_);go_simp;go_at_call 49;refine(TY.out _ (bel_drew (Below.refl _ _))).mono ?_;rintro r w2 ⟨hr,b2⟩;obtain⟨v,rfl,own⟩:∃v,r=.returned v∧w2.ownsRow w1.heap.size 36 1 v sn (l.map (Value.int .u8)):=hr;rw[←LL.out]at own;dsimp only;have X1:Below w1.heap.size w1 w2:=bel_trans (bel_drew (Below.refl _ _)) b2;refine hK.out _ _ (KG.out _ X1) ?_;clear hK K;try simp only[Act.put,List.setIfInBounds_toArray,List.set_cons_zero,List.set_cons_succ]
   refine Walk.act rfl (by rfl) (fun K hK=>?_);go_simp;go_at_call 48;refine(ccresult_any op l v _ _ own).mono ?_;rintro r w3 ⟨rfl,b3⟩;dsimp only;have X2:Below w1.heap.size w1 w3:=bel_trans X1 b3;refine hK.out _ _ (KG.out _ X2) ?_;clear hK K;try simp only[Act.put,List.setIfInBounds_toArray,List.set_cons_zero,List.set_cons_succ]
   iterate 1
    refine Walk.take (v:=?_) rfl (by rfl) ?_ ?_;rotate_left
    ·(intro w' hSw;(try dsimp only at hSw);go_simp<;>with_reducible rfl)
    try simp only[Act.put,List.setIfInBounds_toArray,List.set_cons_zero,List.set_cons_succ]
   refine Walk.done ?_;have B3:=Hj (bel_trans B1.out X2);have G3:=Hj (keptO X2 G.out);clear X1 X2 b2 b3 own TY KG B1 G LL;have x1:=(x_cells G3.out).2.1;dsimp only at x1
   by_cases hz:resT op l=0
   ·have hb:(resT op l != 0)=false:=by simp[hz]
    have E:Hid (fin12 op ps fl l=.no 122 ps):=if_pos hz;clear hz;go_wp2_with fail;refine(ccmust_any _ _ _ _).mono ?_;rintro r w4 ⟨rfl,e4⟩;subst e4;dsimp only[muE];go_wp2_with fail;refine⟨rfl,?_,B3.out⟩;show _=ckE (fin12 op ps fl l);rw[E.out];rfl
   ·have hb:(resT op l != 0)=true:=by simp[hz]
    have HZ:=Hj hz;clear hz;go_wp2_with fail;refine(ccmust_any _ _ _ _).mono ?_;rintro r w4 ⟨rfl,e4⟩;subst e4;dsimp only[muE];go_upto_region 5 with fail;clear hb x1
    by_cases h3:op=3
    ·subst h3
     have KG:Hid (∀w',Below w4.heap.size w4 w'→(w'.cell? ⟨w.heap.size,0,none⟩=some (.int .u8 3)∧w'.cell? ⟨w.heap.size,1,none⟩=some (.int .i64 ps)∧w'.cell? ⟨w.heap.size,4,none⟩=some (.int .u64 fl))):=fun w' hw=>by
      obtain⟨x0,x1, -, -,x4, -⟩:=x_cells (keptO hw G3.out);exact⟨x0,x1,x4⟩
     cases hf:decide (fC fl<3) with
     | true=>
      have E:Hid (fin12 3 ps fl l=.ok (resT 3 l)):=by
       show fin12 3 ps fl l=_;unfold fin12;rw[if_neg HZ.out,if_neg (by rw[finF_is,hf];simp)]
      refine region_plan (S:=fun w'=>w'.cell? ⟨w.heap.size,0,none⟩=some (.int .u8 3)∧w'.cell? ⟨w.heap.size,1,none⟩=some (.int .i64 ps)∧w'.cell? ⟨w.heap.size,4,none⟩=some (.int .u64 fl)) _ [(0,true),(1,true),(2,true),(3,true),(4,true),(5,true),(8,true),(9,true),(6,false),(7,true),(10,false)] (by kernel_rfl) (by kernel_rfl) rfl (by kernel_rfl) (by kernel_rfl) (fun _ _ d _ _ h=>by cases d<;>exact h) (KG.out _ (bel_drew (Below.refl _ _))) ?_
      iterate 8
       refine Walk.take (v:=?_) rfl (by rfl) ?_ ?_;rotate_left
       ·(intro w' hSw;(try dsimp only at hSw);go_simp<;>with_reducible rfl)
       try simp only[Act.put,List.setIfInBounds_toArray,List.set_cons_zero,List.set_cons_succ]
      refine Walk.act rfl (by rfl) (fun K hK=>?_);go_simp;go_at_call 50;refine(ccisFinite_any _ HF.out _).mono ?_;rintro r w5 ⟨rfl,rfl⟩;rw[hf];dsimp only;have X1:Below w4.heap.size w4 w4.drew:=bel_drew (Below.refl _ _);refine hK.out _ _ (KG.out _ X1) ?_;clear hK K;try simp only[Act.put,List.setIfInBounds_toArray,List.set_cons_zero,List.set_cons_succ]
      iterate 1
       refine Walk.take (v:=?_) rfl (by rfl) ?_ ?_;rotate_left
       ·(intro w' hSw;(try dsimp only at hSw);go_simp<;>with_reducible rfl)
       try simp only[Act.put,List.setIfInBounds_toArray,List.set_cons_zero,List.set_cons_succ]
      refine Walk.act rfl (by rfl) (fun K hK=>?_);go_simp;go_at_call 20;refine(ccmust_any _ _ _ _).mono ?_;rintro r w6 ⟨rfl,rfl⟩;dsimp only[muE];have X2:Below w4.heap.size w4 w4.drew:=X1;refine hK.out _ _ (KG.out _ X2) ?_;clear hK K;try simp only[Act.put,List.setIfInBounds_toArray,List.set_cons_zero,List.set_cons_succ]
      refine Walk.done ?_;have B6:=Hj (bel_trans B3.out X2);clear X1 X2 KG hf;go_wp2_with fail;go_ret;refine⟨?_,B6.out⟩;show _=ckE (fin12 3 ps fl l);rw[E.out];rfl
     | false=>
      have E:Hid (fin12 3 ps fl l=.no 123 ps):=by
       show fin12 3 ps fl l=_;unfold fin12;rw[if_neg HZ.out,if_pos ⟨rfl,by rw[finF_is,hf]⟩]
      refine region_plan (S:=fun w'=>w'.cell? ⟨w.heap.size,0,none⟩=some (.int .u8 3)∧w'.cell? ⟨w.heap.size,1,none⟩=some (.int .i64 ps)∧w'.cell? ⟨w.heap.size,4,none⟩=some (.int .u64 fl)) _ [(0,true),(1,true),(2,true),(3,true),(4,true),(5,true),(8,true),(9,true),(6,false),(7,true),(10,false)] (by kernel_rfl) (by kernel_rfl) rfl (by kernel_rfl) (by kernel_rfl) (fun _ _ d _ _ h=>by cases d<;>exact h) (KG.out _ (bel_drew (Below.refl _ _))) ?_
      iterate 8
       refine Walk.take (v:=?_) rfl (by rfl) ?_ ?_;rotate_left
       ·(intro w' hSw;(try dsimp only at hSw);go_simp<;>with_reducible rfl)
       try simp only[Act.put,List.setIfInBounds_toArray,List.set_cons_zero,List.set_cons_succ]
      refine Walk.act rfl (by rfl) (fun K hK=>?_);go_simp;go_at_call 50;refine(ccisFinite_any _ HF.out _).mono ?_;rintro r w5 ⟨rfl,rfl⟩;rw[hf];dsimp only;have X1:Below w4.heap.size w4 w4.drew:=bel_drew (Below.refl _ _);refine hK.out _ _ (KG.out _ X1) ?_;clear hK K;try simp only[Act.put,List.setIfInBounds_toArray,List.set_cons_zero,List.set_cons_succ]
      iterate 1
       refine Walk.take (v:=?_) rfl (by rfl) ?_ ?_;rotate_left
       ·(intro w' hSw;(try dsimp only at hSw);go_simp<;>with_reducible rfl)
       try simp only[Act.put,List.setIfInBounds_toArray,List.set_cons_zero,List.set_cons_succ]
      refine Walk.act rfl (by rfl) (fun K hK=>?_);go_simp;go_at_call 20;refine(ccmust_any _ _ _ _).mono ?_;rintro r w6 ⟨rfl,rfl⟩;dsimp only[muE];refine⟨rfl,?_,bel_trans B3.out X1⟩;show _=ckE (fin12 3 ps fl l);rw[E.out];rfl
    ·have E:Hid (fin12 op ps fl l=.ok (resT op l)):=by
      show fin12 op ps fl l=_;unfold fin12;rw[if_neg HZ.out,if_neg (fun h=>h3 h.1)]
     have KG:Hid (∀w',Below w4.heap.size w4 w'→(w'.cell? ⟨w.heap.size,0,none⟩=some (.int .u8 op)∧w'.cell? ⟨w.heap.size,1,none⟩=some (.int .i64 ps)∧w'.cell? ⟨w.heap.size,4,none⟩=some (.int .u64 fl))):=fun w' hw=>by
      obtain⟨x0,x1, -, -,x4, -⟩:=x_cells (keptO hw G3.out);exact⟨x0,x1,x4⟩
     have hb3:(op != 3)=true:=by simp[h3]
     refine region_plan (S:=fun w'=>w'.cell? ⟨w.heap.size,0,none⟩=some (.int .u8 op)∧w'.cell? ⟨w.heap.size,1,none⟩=some (.int .i64 ps)∧w'.cell? ⟨w.heap.size,4,none⟩=some (.int .u64 fl)) _ [(0,true),(1,true),(2,true),(3,true),(4,true),(5,true),(8,true),(9,true),(6,false),(7,true),(10,false)] (by kernel_rfl) (by kernel_rfl) rfl (by kernel_rfl) (by kernel_rfl) (fun _ _ d _ _ h=>by cases d<;>exact h) (KG.out _ (bel_drew (Below.refl _ _))) ?_
     iterate 4
      refine Walk.take (v:=?_) rfl (by rfl) ?_ ?_;rotate_left
      ·(intro w' hSw;(try dsimp only at hSw);go_simp<;>with_reducible rfl)
      try simp only[Act.put,List.setIfInBounds_toArray,List.set_cons_zero,List.set_cons_succ]
     iterate 2
      refine Walk.skip rfl (by rfl) ?_;try simp only[Act.put,List.setIfInBounds_toArray,List.set_cons_zero,List.set_cons_succ]
     iterate 2
      refine Walk.take (v:=?_) rfl (by rfl) ?_ ?_;rotate_left
      ·(intro w' hSw;(try dsimp only at hSw);go_simp<;>with_reducible rfl)
      try simp only[Act.put,List.setIfInBounds_toArray,List.set_cons_zero,List.set_cons_succ]
     refine Walk.pass rfl (by rfl) (KG.out _ (bel_drew (Below.refl _ _))) ?_;try simp only[Act.put,List.setIfInBounds_toArray,List.set_cons_zero,List.set_cons_succ]
     iterate 1
      refine Walk.take (v:=?_) rfl (by rfl) ?_ ?_;rotate_left
      ·(intro w' hSw;(try dsimp only at hSw);go_simp<;>with_reducible rfl)
      try simp only[Act.put,List.setIfInBounds_toArray,List.set_cons_zero,List.set_cons_succ]
     refine Walk.act rfl (by rfl) (fun K hK=>?_);go_simp;go_at_call 20;refine(ccmust_any _ _ _ _).mono ?_;rintro r w6 ⟨rfl,rfl⟩;dsimp only[muE];have X2:Below w4.heap.size w4 w4.drew:=bel_drew (Below.refl _ _);refine hK.out _ _ (KG.out _ X2) ?_;clear hK K;try simp only[Act.put,List.setIfInBounds_toArray,List.set_cons_zero,List.set_cons_succ]
     refine Walk.done ?_;have B6:=Hj (bel_trans B3.out X2);clear X2 KG;go_wp2_with fail;go_ret;refine⟨?_,B6.out⟩;show _=ckE (fin12 op ps fl l);rw[E.out];rfl
theorem ccexpr_any (B R M n:Nat)(S:Sc)(hS:S.good)(e:Ex):CkX B R M n S e:=by
 induction e using Ex.ind with
 | H e ih=>
  intro w hC hI hB hw;rw[Ex.ck_eq];exact ccexpr_of B R M n S hS e.h e.k ih w hC hI.ok hI.xs hB (by rw[Ex.wt_eq]at hw;omega)
end Go.Proofs.YtkbicfffokegeaaGreatDoor
