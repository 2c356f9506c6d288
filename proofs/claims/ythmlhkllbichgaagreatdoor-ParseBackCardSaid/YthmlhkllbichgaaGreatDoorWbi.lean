/-
  ParseBack holds, tied to the program's text. (part 35 of 41) Conditions: none beside what the card ties.
-/
import Derived.Test.YthmlhkllbichgaaGreatDoorWao
namespace Go.Proofs.YthmlhkllbichgaaGreatDoor
set_option maxHeartbeats 16000000
open Go.RowKit
set_option maxRecDepth 100000
theorem al_succ {f:Nat→Bool}{n:Nat}(h:al f n=true)(g:f n=true):al f (n+1)=true:=by simp only[al,h,g,Bool.and_self]
def SmX (B:Nat)(f:Nat)(e e':Ex):Prop:=∀(w:World),e.In B w→e'.In B w→B≤w.heap.size→Calls Tryz.prog f #[e.h.v,e'.h.v] w fun r w'=>r=.returned (.bool (e.same e'))∧Below w.heap.size w w'
def SmXs (B:Nat)(f:Nat)(xs:Array Value)(s:Sl)(k:Nat→Ex)(s':Sl)(k':Nat→Ex):Prop:=
 ∀(w:World),XsIn B w s k→XsIn B w s' k'→B≤w.heap.size→Calls Tryz.prog f (#[.slice s.ao s.n s.c,.slice s'.ao s'.n s'.c]++xs) w fun r w'=>r=.returned (.bool (sameX s.n k s'.n k'))∧Below w.heap.size w w'
theorem Ex.same_eq (e e':Ex):e.same e'=(decide (e.h.op=e'.h.op) && (e.h.bo == e'.h.bo) && decide (e.h.it=e'.h.it) && decide (e.h.fl=e'.h.fl) && (e.h.nm == e'.h.nm) && sameX e.h.s.n e.k e'.h.s.n e'.k):=by
 rw[Ex.same_hd]
 simp only[hdS,sameX,Bool.and_assoc]
theorem tSameX_of (B:Nat)(e e':Ex)(hl:SmXs B 51 #[.func (.func 22) #[] #[]] e.h.s e.k e'.h.s e'.k):SmX B 22 e e':=by
 intro w hI hI' hB
 have HL:=Hj hl
 have HI:=Hj hI
 have HI':=Hj hI'
 have HB:=Hj hB
 have g0:(bx (bx w (xO e.h)) (xO e'.h)).heap[w.heap.size]? = some (xO e.h):=(bx_old _ _ (by rw[bx_size];omega)).trans (bx_new _ _)
 have g1:(bx (bx w (xO e.h)) (xO e'.h)).heap[w.heap.size+1]? = some (xO e'.h):=by have:=bx_new (bx w (xO e.h)) (xO e'.h);rwa [bx_size]at this
 obtain⟨c0, -,c2,c3,c4,c5,c6⟩:=x_cells g0
 obtain⟨d0, -,d2,d3,d4,d5,d6⟩:=x_cells g1
 have hz:(bx w (xO e.h)).heap.size=w.heap.size+1:=bx_size _ _
 rw[Ex.same_eq]
 clear hl hI hI' hB g0 g1
 show Calls Tryz.prog 22 #[.agg #[.int .u8 e.h.op,.int .i64 e.h.ps,.bool e.h.bo,.int .i32 e.h.it,.int .u64 e.h.fl,.string ⟨e.h.nm.toArray⟩,.slice e.h.s.ao e.h.s.n e.h.s.c],
  .agg #[.int .u8 e'.h.op,.int .i64 e'.h.ps,.bool e'.h.bo,.int .i32 e'.h.it,.int .u64 e'.h.fl,.string ⟨e'.h.nm.toArray⟩,.slice e'.h.s.ao e'.h.s.n e'.h.s.c]] w _
 go_enter Tryz.func22,Tryz.ntmps22
 go_upto_region 1 with fail
 rw[bx_x,bx_x]
 go_wp2_with fail
 ·refine(HL.out _ (HI.out.xs.below (bx_bel (bx_bel (Below.refl _ _) (Nat.le_refl _) _) (Nat.le_refl _) _) HB.out) (HI'.out.xs.below (bx_bel (bx_bel (Below.refl _ _) (Nat.le_refl _) _) (Nat.le_refl _) _) HB.out) (by rw[bx_size,bx_size];have:=HB.out;omega)).mono ?_
  rintro r w' ⟨rfl,hb⟩
  have BB:Hid (Below w.heap.size w w'):=(bx_bel (bx_bel (Below.refl _ _) (Nat.le_refl _) _) (Nat.le_refl _) _).trans (hb.mono (by rw[bx_size,bx_size];omega))
  clear hb
  go_wp2_with fail
  go_ret
  exact⟨by simp[*],BB.out⟩
 all_goals
  go_ret
  exact⟨by simp[*],bx_bel (bx_bel (Below.refl _ _) (Nat.le_refl _) _) (Nat.le_refl _) _⟩
theorem tLstX_of (B:Nat)(s:Sl)(k:Nat→Ex)(s':Sl)(k':Nat→Ex)(ih:∀i,i<s.n→i<s'.n→SmX B 22 (k i) (k' i)):SmXs B 51 #[.func (.func 22) #[] #[]] s k s' k':=by
 intro w hX hX' hB
 have HI:=Hj hX
 have HI':=Hj hX'
 have IH:=Hj ih
 have HB:=Hj hB
 have hc:=hX.1
 have hmx:s.n≤maxLen:=Nat.le_trans hc.1 hc.2.1
 unfold maxLen at hmx
 have HM:=Hj hmx
 obtain⟨ao,n,c⟩:=s
 obtain⟨ao',n',c'⟩:=s'
 dsimp only at *
 clear hX hX' hB hc hmx ih
 show Calls Tryz.prog 51 #[.slice ao n c,.slice ao' n' c',.func (.func 22) #[] #[]] w _
 by_cases hn:n=n'
 ·subst hn
  go_enter Tryz.func51,Tryz.ntmps51
  go_wp2_with fail
  go_loopg [16] n (fun gk i wr=>∃j:Nat,i=.int .i64 (j:Int)∧Hid (gk=n-j∧j≤n)∧Hid (al (fun i=>(k i).same (k' i)) j=true)∧Hid (Below w.heap.size w wr))
  case atStart=>exact⟨0,rfl,⟨rfl,Nat.zero_le _⟩,rfl,Below.refl _ _⟩
  case round=>
   obtain⟨j,rfl,HJ,HA,BEL⟩:=hrel
   by_cases hlt:j<n
   ·have z0:(j:Int)<(n:Int):=by omega
    have ovi:IntKind.i64.wrap ((j:Int)+1)=((j+1:Nat):Int):=by have:=HM.out;rw[IntKind.wrap_i64];omega
    obtain⟨a,b,o,rfl,hA,hb,X,I⟩:=XsIn.at (HI.out.below BEL.out HB.out) (i:=j) hlt
    obtain⟨a',b',o',rfl,hA',hb',X',I'⟩:=XsIn.at (HI'.out.below BEL.out HB.out) (i:=j) hlt
    have c0:=X.c0;have c1:=X.c1;have c2:=X.c2;have c3:=X.c3;have c4:=X.c4;have c5:=X.c5;have c6:=X.c6
    have BN:=Hj (bx_bel (Below.refl _ _) (Nat.le_refl _) (xO (k j).h):Below wr.heap.size wr (bx wr (xO (k j).h)))
    have hbw:b'<wr.heap.size:=Nat.lt_of_lt_of_le hb' (Nat.le_trans HB.out BEL.out.size)
    have XD:=X'.below hbw BN.out (Nat.le_refl _)
    have d0:=XD.c0;have d1:=XD.c1;have d2:=XD.c2;have d3:=XD.c3;have d4:=XD.c4;have d5:=XD.c5;have d6:=XD.c6
    obtain⟨e0,e1,e2,e3,e4,e5,e6⟩:=x_cells (bx_new wr (xO (k j).h))
    have C:=Hj (IH.out j hlt hlt (bx wr (xO (k j).h)).drew (I.below BN.out (Nat.le_trans HB.out BEL.out.size)).drew (I'.below BN.out (Nat.le_trans HB.out BEL.out.size)).drew (Nat.le_trans (Nat.le_trans HB.out BEL.out.size) BN.out.size))
    have HLT:=Hj hlt
    clear X X' XD hb hb' hbw I I' hlt
    go_upto_region 6 with fail
    rw[bx_x]
    go_still_tail 6,(by kernel_rfl)
    change wpList _ _ _ _ _ (bx wr (xO (k j).h)).drew
    generalize hw2:(bx wr (xO (k j).h)).drew=w2 at *
    have B2:Hid (Below wr.heap.size wr w2):=by rw[←hw2];exact Below.drew BN.out
    clear hw2 c0 c1 c2 c3 c4 c5 c6 d0 d1 d2 d3 d4 d5 d6 e0 e1 e2 e3 e4 e5 e6
    go_wp2_with fail
    refine C.out.mono ?_
    rintro r w3 ⟨rfl,hb3⟩
    have B3:=Hj (BEL.out.trans ((B2.out.trans (hb3.mono B2.out.size)).mono BEL.out.size))
    clear hb3 C B2 BN
    cases hs:(k j).same (k' j) with
    | true=>
     have HS:=Hj hs
     clear hs
     go_wp2_with fail
     go_roundg (n-(j+1))
     case measure=>have:=HJ.out;have:=HLT.out;omega
     case rel=>exact⟨j+1,by go_num,⟨rfl,HLT.out⟩,al_succ HA.out HS.out,B3.out⟩
    | false=>
     have HS:=Hj hs
     clear hs
     go_wp2_with fail
     go_ret
     refine⟨?_,B3.out⟩
     have:al (fun i=>(k i).same (k' i)) n=false:=al_false.2 ⟨j,HLT.out,HS.out⟩
     simp[sameX,this]
   ·obtain rfl:j=n:=by have:=HJ.out;omega
    clear hlt
    go_wp2_with fail
    go_ret
    exact⟨by simp[sameX,HA.out],BEL.out⟩
 ·have hn':¬(n:Int)=(n':Int):=by omega
  go_enter Tryz.func51,Tryz.ntmps51
  go_wp2_with fail
  go_ret
  exact⟨by simp[sameX,hn],Below.refl _ _⟩
theorem tSameX_any (B:Nat)(e:Ex):∀e',SmX B 22 e e':=by
 induction e using Ex.ind with
 | H e ih=>exact fun e'=>tSameX_of B _ e' (tLstX_of B e.h.s e.k e'.h.s e'.k fun i hi _=>ih i hi _)
theorem tLstX_any (B:Nat)(s:Sl)(k:Nat→Ex)(s':Sl)(k':Nat→Ex):SmXs B 51 #[.func (.func 22) #[] #[]] s k s' k':=tLstX_of B s k s' k' fun i _ _=>tSameX_any B (k i) (k' i)
theorem two_boxes (w:World)(o o':Obj):(bx (bx w o) o').heap[w.heap.size]? = some o∧(bx (bx w o) o').heap[w.heap.size+1]? = some o'∧Below w.heap.size w (bx (bx w o) o')∧(bx (bx w o) o').heap.size=w.heap.size+2:=
 ⟨(bx_old _ _ (by rw[bx_size];omega)).trans (bx_new _ _),by have:=bx_new (bx w o) o';rwa [bx_size]at this,bx_bel (bx_bel (Below.refl _ _) (Nat.le_refl _) _) (Nat.le_refl _) _,by rw[bx_size,bx_size]⟩
theorem kept_obj {w w':World}{k:Nat}{o:Obj}(hb:Below w.heap.size w w')(h:w.heap[k]? = some o):w'.heap[k]? = some o:=(hb.block k (Array.getElem?_eq_some_iff.1 h).1).trans h
def SmD (B:Nat)(f:Nat)(d d':De):Prop:=∀(w:World),d.In B w→d'.In B w→B≤w.heap.size→Calls Tryz.prog f #[dcv d d.lo.h d.hi.h,dcv d' d'.lo.h d'.hi.h] w fun r w'=>r=.returned (.bool (d.same d'))∧Below w.heap.size w w'
def SmDs (B:Nat)(f:Nat)(xs:Array Value)(s:Sl)(k:Nat→De)(s':Sl)(k':Nat→De):Prop:=
 ∀(w:World),DsIn B w s k→DsIn B w s' k'→B≤w.heap.size→Calls Tryz.prog f (#[.slice s.ao s.n s.c,.slice s'.ao s'.n s'.c]++xs) w fun r w'=>r=.returned (.bool (sameD s.n k s'.n k'))∧Below w.heap.size w w'
def SmS (B:Nat)(f:Nat)(d d':St):Prop:=∀(w:World),d.In B w→d'.In B w→B≤w.heap.size→Calls Tryz.prog f #[stv d.h d.e.h,stv d'.h d'.e.h] w fun r w'=>r=.returned (.bool (d.same d'))∧Below w.heap.size w w'
def SmSs (B:Nat)(f:Nat)(xs:Array Value)(s:Sl)(k:Nat→St)(s':Sl)(k':Nat→St):Prop:=
 ∀(w:World),SsIn B w s k→SsIn B w s' k'→B≤w.heap.size→Calls Tryz.prog f (#[.slice s.ao s.n s.c,.slice s'.ao s'.n s'.c]++xs) w fun r w'=>r=.returned (.bool (sameS s.n k s'.n k'))∧Below w.heap.size w w'
theorem St.same_eq (s r:St):s.same r=(decide (s.h.kd=r.h.kd) && (s.h.nm == r.h.nm) && decide (s.h.lo=r.h.lo) && decide (s.h.hi=r.h.hi) && s.e.same r.e && sameX s.h.xs.n s.x r.h.xs.n r.x && sameS s.h.ts.n s.t r.h.ts.n r.t && sameS s.h.es.n s.l r.h.es.n r.l):=by
 rw[St.same_hd]
 simp only[hsS,sameS]
 cases decide (s.h.kd=r.h.kd)<;>cases (s.h.nm == r.h.nm)<;>cases decide (s.h.lo=r.h.lo)<;>cases decide (s.h.hi=r.h.hi)<;>cases s.e.same r.e<;>cases sameX s.h.xs.n s.x r.h.xs.n r.x<;>cases decide (s.h.ts.n=r.h.ts.n)<;>cases decide (s.h.es.n=r.h.es.n)<;>simp
theorem tSameD_any (B:Nat)(d d':De):SmD B 46 d d':=by
 intro w hI hI' hB
 have HI:=Hj hI
 have HI':=Hj hI'
 have HB:=Hj hB
 obtain⟨g0,g1,b2,z2⟩:=two_boxes w (dO d d.lo.h d.hi.h) (dO d' d'.lo.h d'.hi.h)
 have X:=d_cells g0
 have X':=d_cells g1
 have c1:=X.c1;have d1:=X'.c1
 have c2:=X.c2;have d2:=X'.c2
 have c3:=X.c3;have d3:=X'.c3
 have c4:=X.c4;have d4:=X'.c4
 have c5:=X.c5;have d5:=X'.c5
 have c6:=X.c6;have d6:=X'.c6
 have c7:=X.c7;have d7:=X'.c7
 have c8:=X.c8;have d8:=X'.c8
 have c9:=X.c9;have d9:=X'.c9
 have c10:=X.c10;have d10:=X'.c10
 have c11:=X.c11;have d11:=X'.c11
 have c12:=X.c12;have d12:=X'.c12
 have hz:(bx w (dO d d.lo.h d.hi.h)).heap.size=w.heap.size+1:=bx_size _ _
 have G:=Hj (And.intro g0 g1)
 have B2:=Hj b2
 have Z2:=Hj z2
 have C1:=Hj (tSameX_any B d.lo d'.lo (bx (bx w (dO d d.lo.h d.hi.h)) (dO d' d'.lo.h d'.hi.h)) (hI.2.1.below b2 hB) (hI'.2.1.below b2 hB) (by rw[z2];omega))
 clear hI hI' hB g0 g1 X X' b2 z2
 show Calls Tryz.prog 46 #[.agg #[.int .i64 d.ps,.bool d.inp,.string ⟨d.nm.toArray⟩,.int .u8 d.ty,.int .i64 d.len,.bool d.rg,.int .u8 d.lo.h.op,.int .i64 d.lo.h.ps,.bool d.lo.h.bo,.int .i32 d.lo.h.it,.int .u64 d.lo.h.fl,.string ⟨d.lo.h.nm.toArray⟩,.slice d.lo.h.s.ao d.lo.h.s.n d.lo.h.s.c,.int .u8 d.hi.h.op,.int .i64 d.hi.h.ps,.bool d.hi.h.bo,.int .i32 d.hi.h.it,.int .u64 d.hi.h.fl,.string ⟨d.hi.h.nm.toArray⟩,.slice d.hi.h.s.ao d.hi.h.s.n d.hi.h.s.c],.agg #[.int .i64 d'.ps,.bool d'.inp,.string ⟨d'.nm.toArray⟩,.int .u8 d'.ty,.int .i64 d'.len,.bool d'.rg,.int .u8 d'.lo.h.op,.int .i64 d'.lo.h.ps,.bool d'.lo.h.bo,.int .i32 d'.lo.h.it,.int .u64 d'.lo.h.fl,.string ⟨d'.lo.h.nm.toArray⟩,.slice d'.lo.h.s.ao d'.lo.h.s.n d'.lo.h.s.c,.int .u8 d'.hi.h.op,.int .i64 d'.hi.h.ps,.bool d'.hi.h.bo,.int .i32 d'.hi.h.it,.int .u64 d'.hi.h.fl,.string ⟨d'.hi.h.nm.toArray⟩,.slice d'.hi.h.s.ao d'.hi.h.s.n d'.hi.h.s.c]] w _
 unfold De.same
 go_enter Tryz.func46,Tryz.ntmps46
 go_upto_region 1 with fail
 rw[bx_d,bx_d]
 go_wp2_with fail
 ·refine C1.out.mono ?_
  rintro r w1 ⟨rfl,hb⟩
  have X:=d_cells (kept_obj hb G.out.1)
  have X':=d_cells (kept_obj hb G.out.2)
  have c13:=X.c13;have d13:=X'.c13
  have c14:=X.c14;have d14:=X'.c14
  have c15:=X.c15;have d15:=X'.c15
  have c16:=X.c16;have d16:=X'.c16
  have c17:=X.c17;have d17:=X'.c17
  have c18:=X.c18;have d18:=X'.c18
  have c19:=X.c19;have d19:=X'.c19
  have BB:Hid (Below w.heap.size w w1):=B2.out.trans (hb.mono (by have:=Z2.out;omega))
  clear hb X X' G B2 Z2 C1 c1 c2 c3 c4 c5 c6 c7 c8 c9 c10 c11 c12 d1 d2 d3 d4 d5 d6 d7 d8 d9 d10 d11 d12
  cases hs:d.lo.same d'.lo with
  | true=>
   have C2:=Hj (tSameX_any B d.hi d'.hi w1 (HI.out.2.2.below BB.out HB.out) (HI'.out.2.2.below BB.out HB.out) (Nat.le_trans HB.out BB.out.size))
   go_wp2_with fail
   refine C2.out.mono ?_
   rintro r w2 ⟨rfl,hb⟩
   have BB2:Hid (Below w.heap.size w w2):=BB.out.trans (hb.mono BB.out.size)
   clear hb
   go_wp2_with fail
   go_ret
   exact⟨by simp[*],BB2.out⟩
  | false=>
   go_wp2_with fail
   go_ret
   exact⟨by simp[*],BB.out⟩
 all_goals
  go_ret
  exact⟨by simp[*],B2.out⟩
theorem tLstD_of (B:Nat)(s:Sl)(k:Nat→De)(s':Sl)(k':Nat→De)(ih:∀i,i<s.n→i<s'.n→SmD B 46 (k i) (k' i)):SmDs B 45 #[.func (.func 46) #[] #[]] s k s' k':=by
 intro w hX hX' hB
 have HI:=Hj hX
 have HI':=Hj hX'
 have IH:=Hj ih
 have HB:=Hj hB
 have hc:=hX.1
 have hmx:s.n≤maxLen:=Nat.le_trans hc.1 hc.2.1
 unfold maxLen at hmx
 have HM:=Hj hmx
 obtain⟨ao,n,c⟩:=s
 obtain⟨ao',n',c'⟩:=s'
 dsimp only at *
 clear hX hX' hB hc hmx ih
 show Calls Tryz.prog 45 #[.slice ao n c,.slice ao' n' c',.func (.func 46) #[] #[]] w _
 by_cases hn:n=n'
 ·subst hn
  go_enter Tryz.func45,Tryz.ntmps45
  go_wp2_with fail
  go_loopg [16] n (fun gk i wr=>∃j:Nat,i=.int .i64 (j:Int)∧Hid (gk=n-j∧j≤n)∧Hid (al (fun i=>(k i).same (k' i)) j=true)∧Hid (Below w.heap.size w wr))
  case atStart=>exact⟨0,rfl,⟨rfl,Nat.zero_le _⟩,rfl,Below.refl _ _⟩
  case round=>
   obtain⟨j,rfl,HJ,HA,BEL⟩:=hrel
   by_cases hlt:j<n
   ·have z0:(j:Int)<(n:Int):=by omega
    have ovi:IntKind.i64.wrap ((j:Int)+1)=((j+1:Nat):Int):=by have:=HM.out;rw[IntKind.wrap_i64];omega
    obtain⟨a,b,o,rfl,hA,hb,X,I⟩:=DsIn.at (HI.out.below BEL.out HB.out) (i:=j) hlt
    obtain⟨a',b',o',rfl,hA',hb',X',I'⟩:=DsIn.at (HI'.out.below BEL.out HB.out) (i:=j) hlt
    have RC:=Hj (d20_range X)
    have BN:=Hj (bx_bel (Below.refl _ _) (Nat.le_refl _) (dO (k j) (k j).lo.h (k j).hi.h):Below wr.heap.size wr (bx wr (dO (k j) (k j).lo.h (k j).hi.h)))
    have hbw:b'<wr.heap.size:=Nat.lt_of_lt_of_le hb' (Nat.le_trans HB.out BEL.out.size)
    have XD:=X'.below hbw BN.out (Nat.le_refl _)
    have RB:=Hj (show(bx wr (dO (k j) (k j).lo.h (k j).hi.h)).rangeAt b' o' (dcvs (k' j) (k' j).lo.h (k' j).hi.h)from d20_range XD)
    have RA:=Hj (show(bx wr (dO (k j) (k j).lo.h (k j).hi.h)).rangeAt wr.heap.size 0 (dcvs (k j) (k j).lo.h (k j).hi.h)from dO_range (bx_new wr _))
    have C:=Hj (IH.out j hlt hlt (bx wr (dO (k j) (k j).lo.h (k j).hi.h)).drew (I.below BN.out (Nat.le_trans HB.out BEL.out.size)).drew (I'.below BN.out (Nat.le_trans HB.out BEL.out.size)).drew (Nat.le_trans (Nat.le_trans HB.out BEL.out.size) BN.out.size))
    have HLT:=Hj hlt
    rw[dcv_eq,dcv_eq]at C
    have O1:=Hj (dcvs_one (k j) (k j).lo.h (k j).hi.h)
    rw[dO_eq]at C BN RA RB
    obtain⟨V1,hV1⟩:∃V,dcvs (k j) (k j).lo.h (k j).hi.h=V:=⟨_,rfl⟩
    obtain⟨V2,hV2⟩:∃V,dcvs (k' j) (k' j).lo.h (k' j).hi.h=V:=⟨_,rfl⟩
    have L1:=Hj (show(Tryz.prog.info? 56).map (·.size)=some V1.length∧V1.length=20 by rw[←hV1];exact⟨by kernel_rfl,rfl⟩)
    have L2:=Hj (show(Tryz.prog.info? 56).map (·.size)=some V2.length by rw[←hV2];kernel_rfl)
    rw[hV1]at C BN RA RB RC O1
    rw[hV2]at C RB
    clear X X' XD hb hb' hbw I I' hlt hV1 hV2
    as_aux_lemma=>
     go_upto_region 6 with(first
      | refine wpList_load_mid rfl 56 _ rfl b o rfl V1 _ RC.out Tryz.underlying56 rfl L1.out.1 ?_
      | refine store_bx rfl 56 _ _ rfl wr _ V1.toArray rfl rfl (by rw[List.size_toArray];exact L1.out.1) (by have h:V1.toArray.size=20:=(by rw[List.size_toArray];exact L1.out.2);rw[h];rfl) O1.out ?_)
     as_aux_lemma=>
      have B2:=Hj (Below.drew BN.out)
      clear BN RC O1
      generalize bx wr (.cells V1.toArray 56 (0,0))=wb at *
      refine wp_region_still_tail 6 (by kernel_rfl) (by kernel_rfl) ?_
      simp only[List.take_succ_cons,List.take_zero,List.drop_succ_cons,List.drop_zero]
      still_step
      refine still_row (by rfl) 56 _ rfl wr.heap.size 0 rfl V1 _ RA.out Tryz.underlying56 rfl L1.out.1 ?_
      still_step
      still_step
      still_step
      refine still_row (by rfl) 56 _ rfl b' o' rfl V2 _ RB.out Tryz.underlying56 rfl L2.out ?_
      refine wpStill_nil ?_
      change wpList _ _ _ _ _ wb.drew
      clear RA RB L1 L2
      generalize wb.drew=w2 at *
      go_wp2_with fail
      refine C.out.mono ?_
      rintro r w3 ⟨rfl,hb3⟩
      have B3:=Hj (BEL.out.trans ((B2.out.trans (hb3.mono B2.out.size)).mono BEL.out.size))
      clear hb3 C B2
      cases hs:(k j).same (k' j) with
      | true=>
       have HS:=Hj hs
       clear hs
       go_wp2_with fail
       go_roundg (n-(j+1))
       case measure=>have:=HJ.out;have:=HLT.out;omega
       case rel=>exact⟨j+1,by go_num,⟨rfl,HLT.out⟩,al_succ HA.out HS.out,B3.out⟩
      | false=>
       have HS:=Hj hs
       clear hs
       go_wp2_with fail
       go_ret
       refine⟨?_,B3.out⟩
       have:al (fun i=>(k i).same (k' i)) n=false:=al_false.2 ⟨j,HLT.out,HS.out⟩
       simp[sameD,this]
   ·obtain rfl:j=n:=by have:=HJ.out;omega
    clear hlt
    go_wp2_with fail
    go_ret
    exact⟨by simp[sameD,HA.out],BEL.out⟩
 ·have hn':¬(n:Int)=(n':Int):=by omega
  go_enter Tryz.func45,Tryz.ntmps45
  go_wp2_with fail
  go_ret
  exact⟨by simp[sameD,hn],Below.refl _ _⟩
theorem tLstD_any (B:Nat)(s:Sl)(k:Nat→De)(s':Sl)(k':Nat→De):SmDs B 45 #[.func (.func 46) #[] #[]] s k s' k':=tLstD_of B s k s' k' fun i _ _=>tSameD_any B (k i) (k' i)
theorem tLstS_of (B:Nat)(s:Sl)(k:Nat→St)(s':Sl)(k':Nat→St)(ih:∀i,i<s.n→i<s'.n→SmS B 48 (k i) (k' i)):SmSs B 47 #[.func (.func 48) #[] #[]] s k s' k':=by
 intro w hX hX' hB
 have HI:=Hj hX
 have HI':=Hj hX'
 have IH:=Hj ih
 have HB:=Hj hB
 have hc:=hX.1
 have hmx:s.n≤maxLen:=Nat.le_trans hc.1 hc.2.1
 unfold maxLen at hmx
 have HM:=Hj hmx
 obtain⟨ao,n,c⟩:=s
 obtain⟨ao',n',c'⟩:=s'
 dsimp only at *
 clear hX hX' hB hc hmx ih
 show Calls Tryz.prog 47 #[.slice ao n c,.slice ao' n' c',.func (.func 48) #[] #[]] w _
 by_cases hn:n=n'
 ·subst hn
  go_enter Tryz.func47,Tryz.ntmps47
  go_wp2_with fail
  go_loopg [16] n (fun gk i wr=>∃j:Nat,i=.int .i64 (j:Int)∧Hid (gk=n-j∧j≤n)∧Hid (al (fun i=>(k i).same (k' i)) j=true)∧Hid (Below w.heap.size w wr))
  case atStart=>exact⟨0,rfl,⟨rfl,Nat.zero_le _⟩,rfl,Below.refl _ _⟩
  case round=>
   obtain⟨j,rfl,HJ,HA,BEL⟩:=hrel
   by_cases hlt:j<n
   ·have z0:(j:Int)<(n:Int):=by omega
    have ovi:IntKind.i64.wrap ((j:Int)+1)=((j+1:Nat):Int):=by have:=HM.out;rw[IntKind.wrap_i64];omega
    obtain⟨a,b,o,rfl,hA,hb,X,I⟩:=SsIn.at (HI.out.below BEL.out HB.out) (i:=j) hlt
    obtain⟨a',b',o',rfl,hA',hb',X',I'⟩:=SsIn.at (HI'.out.below BEL.out HB.out) (i:=j) hlt
    have c0:=X.c0;have c1:=X.c1;have c2:=X.c2;have c3:=X.c3;have c4:=X.c4;have c5:=X.c5;have c6:=X.c6;have c7:=X.c7;have c8:=X.c8;have c9:=X.c9;have c10:=X.c10;have c11:=X.c11;have c12:=X.c12;have c13:=X.c13;have c14:=X.c14
    have BN:=Hj (bx_bel (Below.refl _ _) (Nat.le_refl _) (sO (k j).h (k j).e.h):Below wr.heap.size wr (bx wr (sO (k j).h (k j).e.h)))
    have hbw:b'<wr.heap.size:=Nat.lt_of_lt_of_le hb' (Nat.le_trans HB.out BEL.out.size)
    have XD:=X'.below hbw BN.out (Nat.le_refl _)
    have d0:=XD.c0;have d1:=XD.c1;have d2:=XD.c2;have d3:=XD.c3;have d4:=XD.c4;have d5:=XD.c5;have d6:=XD.c6;have d7:=XD.c7;have d8:=XD.c8;have d9:=XD.c9;have d10:=XD.c10;have d11:=XD.c11;have d12:=XD.c12;have d13:=XD.c13;have d14:=XD.c14
    have XE:=s_cells (bx_new wr (sO (k j).h (k j).e.h))
    have e0:=XE.c0;have e1:=XE.c1;have e2:=XE.c2;have e3:=XE.c3;have e4:=XE.c4;have e5:=XE.c5;have e6:=XE.c6;have e7:=XE.c7;have e8:=XE.c8;have e9:=XE.c9;have e10:=XE.c10;have e11:=XE.c11;have e12:=XE.c12;have e13:=XE.c13;have e14:=XE.c14
    have C:=Hj (IH.out j hlt hlt (bx wr (sO (k j).h (k j).e.h)).drew (I.below BN.out (Nat.le_trans HB.out BEL.out.size)).drew (I'.below BN.out (Nat.le_trans HB.out BEL.out.size)).drew (Nat.le_trans (Nat.le_trans HB.out BEL.out.size) BN.out.size))
    have HLT:=Hj hlt
    clear X X' XD XE hb hb' hbw I I' hlt
    go_upto_region 6 with fail
    rw[bx_s]
    go_still_tail 6,(by kernel_rfl)
    change wpList _ _ _ _ _ (bx wr (sO (k j).h (k j).e.h)).drew
    generalize hw2:(bx wr (sO (k j).h (k j).e.h)).drew=w2 at *
    have B2:Hid (Below wr.heap.size wr w2):=by rw[←hw2];exact Below.drew BN.out
    clear hw2 c0 c1 c2 c3 c4 c5 c6 c7 c8 c9 c10 c11 c12 c13 c14 d0 d1 d2 d3 d4 d5 d6 d7 d8 d9 d10 d11 d12 d13 d14 e0 e1 e2 e3 e4 e5 e6 e7 e8 e9 e10 e11 e12 e13 e14
    go_wp2_with fail
    refine C.out.mono ?_
    rintro r w3 ⟨rfl,hb3⟩
    have B3:=Hj (BEL.out.trans ((B2.out.trans (hb3.mono B2.out.size)).mono BEL.out.size))
    clear hb3 C B2 BN
    cases hs:(k j).same (k' j) with
    | true=>
     have HS:=Hj hs
     clear hs
     go_wp2_with fail
     go_roundg (n-(j+1))
     case measure=>have:=HJ.out;have:=HLT.out;omega
     case rel=>exact⟨j+1,by go_num,⟨rfl,HLT.out⟩,al_succ HA.out HS.out,B3.out⟩
    | false=>
     have HS:=Hj hs
     clear hs
     go_wp2_with fail
     go_ret
     refine⟨?_,B3.out⟩
     have:al (fun i=>(k i).same (k' i)) n=false:=al_false.2 ⟨j,HLT.out,HS.out⟩
     simp[sameS,this]
   ·obtain rfl:j=n:=by have:=HJ.out;omega
    clear hlt
    go_wp2_with fail
    go_ret
    exact⟨by simp[sameS,HA.out],BEL.out⟩
 ·have hn':¬(n:Int)=(n':Int):=by omega
  go_enter Tryz.func47,Tryz.ntmps47
  go_wp2_with fail
  go_ret
  exact⟨by simp[sameS,hn],Below.refl _ _⟩
theorem tSameS_of (B:Nat)(d d':St)(ht:SmSs B 47 #[.func (.func 48) #[] #[]] d.h.ts d.t d'.h.ts d'.t)(hl:SmSs B 47 #[.func (.func 48) #[] #[]] d.h.es d.l d'.h.es d'.l):SmS B 48 d d':=by
 intro w hI hI' hB
 have HI:=Hj hI
 have HI':=Hj hI'
 have HB:=Hj hB
 have HT:=Hj ht
 have HL:=Hj hl
 obtain⟨g0,g1,b2,z2⟩:=two_boxes w (sO d.h d.e.h) (sO d'.h d'.e.h)
 have X:=s_cells g0
 have X':=s_cells g1
 have c0:=X.c0;have d0:=X'.c0
 have c2:=X.c2;have d2:=X'.c2
 have c11:=X.c11;have d11:=X'.c11
 have c12:=X.c12;have d12:=X'.c12
 have c4:=X.c4;have d4:=X'.c4
 have c5:=X.c5;have d5:=X'.c5
 have c6:=X.c6;have d6:=X'.c6
 have c7:=X.c7;have d7:=X'.c7
 have c8:=X.c8;have d8:=X'.c8
 have c9:=X.c9;have d9:=X'.c9
 have c10:=X.c10;have d10:=X'.c10
 have hz:(bx w (sO d.h d.e.h)).heap.size=w.heap.size+1:=bx_size _ _
 have G:=Hj (And.intro g0 g1)
 have B2:=Hj b2
 have Z2:=Hj z2
 have C1:=Hj (tSameX_any B d.e d'.e (bx (bx w (sO d.h d.e.h)) (sO d'.h d'.e.h)) (hI.ex.below b2 hB) (hI'.ex.below b2 hB) (by rw[z2];omega))
 clear hI hI' hB g0 g1 X X' b2 z2 ht hl
 rw[St.same_eq]
 show Calls Tryz.prog 48 #[.agg #[.int .u8 d.h.kd,.int .i64 d.h.ps,.string ⟨d.h.nm.toArray⟩,.slice d.h.xs.ao d.h.xs.n d.h.xs.c,.int .u8 d.e.h.op,.int .i64 d.e.h.ps,.bool d.e.h.bo,.int .i32 d.e.h.it,.int .u64 d.e.h.fl,.string ⟨d.e.h.nm.toArray⟩,.slice d.e.h.s.ao d.e.h.s.n d.e.h.s.c,.int .i32 d.h.lo,.int .i32 d.h.hi,.slice d.h.ts.ao d.h.ts.n d.h.ts.c,.slice d.h.es.ao d.h.es.n d.h.es.c],.agg #[.int .u8 d'.h.kd,.int .i64 d'.h.ps,.string ⟨d'.h.nm.toArray⟩,.slice d'.h.xs.ao d'.h.xs.n d'.h.xs.c,.int .u8 d'.e.h.op,.int .i64 d'.e.h.ps,.bool d'.e.h.bo,.int .i32 d'.e.h.it,.int .u64 d'.e.h.fl,.string ⟨d'.e.h.nm.toArray⟩,.slice d'.e.h.s.ao d'.e.h.s.n d'.e.h.s.c,.int .i32 d'.h.lo,.int .i32 d'.h.hi,.slice d'.h.ts.ao d'.h.ts.n d'.h.ts.c,.slice d'.h.es.ao d'.h.es.n d'.h.es.c]] w _
 go_enter Tryz.func48,Tryz.ntmps48
 go_upto_region 1 with fail
 rw[bx_s,bx_s]
 go_wp2_with fail
 ·refine C1.out.mono ?_
  rintro r w1 ⟨rfl,hb⟩
  have G1:=Hj (And.intro (kept_obj hb G.out.1) (kept_obj hb G.out.2))
  have X:=s_cells G1.out.1
  have X':=s_cells G1.out.2
  have c3:=X.c3;have d3:=X'.c3
  have BB:Hid (Below w.heap.size w w1):=B2.out.trans (hb.mono (by have:=Z2.out;omega))
  clear hb X X' G B2 Z2 C1 c0 c2 c4 c5 c6 c7 c8 c9 c10 c11 c12 d0 d2 d4 d5 d6 d7 d8 d9 d10 d11 d12
  cases hs:d.e.same d'.e with
  | true=>
   have C2:=Hj (tLstX_any B d.h.xs d.x d'.h.xs d'.x w1 (HI.out.xs.below BB.out HB.out) (HI'.out.xs.below BB.out HB.out) (Nat.le_trans HB.out BB.out.size))
   have HS:=Hj hs
   clear hs
   go_wp2_with fail
   refine C2.out.mono ?_
   rintro r w2 ⟨rfl,hb⟩
   have BB2:Hid (Below w.heap.size w w2):=BB.out.trans (hb.mono BB.out.size)
   have G2:=Hj (And.intro (kept_obj hb G1.out.1) (kept_obj hb G1.out.2))
   have X:=s_cells G2.out.1
   have X':=s_cells G2.out.2
   have c13:=X.c13;have d13:=X'.c13
   clear hb BB C2 X X' c3 d3 G1
   cases hs:sameX d.h.xs.n d.x d'.h.xs.n d'.x with
   | true=>
    have C3:=Hj (HT.out w2 (HI.out.ts.below BB2.out HB.out) (HI'.out.ts.below BB2.out HB.out) (Nat.le_trans HB.out BB2.out.size))
    have HS2:=Hj hs
    clear hs
    go_wp2_with fail
    refine C3.out.mono ?_
    rintro r w3 ⟨rfl,hb⟩
    have BB3:Hid (Below w.heap.size w w3):=BB2.out.trans (hb.mono BB2.out.size)
    have G3:=Hj (And.intro (kept_obj hb G2.out.1) (kept_obj hb G2.out.2))
    have X:=s_cells G3.out.1
    have X':=s_cells G3.out.2
    have c14:=X.c14;have d14:=X'.c14
    clear hb BB2 C3 X X' c13 d13 G2
    cases hs:sameS d.h.ts.n d.t d'.h.ts.n d'.t with
    | true=>
     have C4:=Hj (HL.out w3 (HI.out.es.below BB3.out HB.out) (HI'.out.es.below BB3.out HB.out) (Nat.le_trans HB.out BB3.out.size))
     have HS3:=Hj hs
     clear hs
     go_wp2_with fail
     refine C4.out.mono ?_
     rintro r w4 ⟨rfl,hb⟩
     have BB4:Hid (Below w.heap.size w w4):=BB3.out.trans (hb.mono BB3.out.size)
     clear hb
     go_wp2_with fail
     go_ret
     exact⟨by rw[HS.out,HS2.out,HS3.out];simp[*],BB4.out⟩
    | false=>
     go_wp2_with fail
     go_ret
     exact⟨by rw[hs];simp,BB3.out⟩
   | false=>
    go_wp2_with fail
    go_ret
    exact⟨by rw[hs];simp,BB2.out⟩
  | false=>
   go_wp2_with fail
   go_ret
   exact⟨by rw[hs];simp,BB.out⟩
 all_goals
  go_ret
  exact⟨by simp[*],B2.out⟩
theorem tSameS_any (B:Nat)(d:St):∀d',SmS B 48 d d':=by
 induction d using St.ind with
 | H d it il=>exact fun d'=>tSameS_of B _ d' (tLstS_of B d.h.ts d.t d'.h.ts d'.t fun i hi _=>it i hi _) (tLstS_of B d.h.es d.l d'.h.es d'.l fun i hi _=>il i hi _)
theorem tLstS_any (B:Nat)(s:Sl)(k:Nat→St)(s':Sl)(k':Nat→St):SmSs B 47 #[.func (.func 48) #[] #[]] s k s' k':=tLstS_of B s k s' k' fun i _ _=>tSameS_any B (k i) (k' i)
theorem tSame_any (B:Nat)(p q:Pr)(w:World)(hp:p.In B w)(hq:q.In B w)(hB:B≤w.heap.size):Calls Tryz.prog 18 #[p.v,q.v] w fun r w'=>r=.returned (.bool (p.same q))∧Below w.heap.size w w':=by
 have HI:=Hj hp
 have HI':=Hj hq
 have HB:=Hj hB
 obtain⟨g0,g1,b2,z2⟩:=two_boxes w (pO p) (pO q)
 obtain⟨c0,c1, -, -⟩:=p_cells g0
 obtain⟨d0,d1, -, -⟩:=p_cells g1
 have hz:(bx w (pO p)).heap.size=w.heap.size+1:=bx_size _ _
 have G:=Hj (And.intro g0 g1)
 have B2:=Hj b2
 have Z2:=Hj z2
 have C1:=Hj (tLstD_any B p.ds p.d q.ds q.d (bx (bx w (pO p)) (pO q)) (hp.2.1.below b2 hB) (hq.2.1.below b2 hB) (by rw[z2];omega))
 clear hp hq hB g0 g1 b2 z2
 unfold Pr.same
 show Calls Tryz.prog 18 #[.agg #[.int .i64 p.ticks,.slice p.ds.ao p.ds.n p.ds.c,.slice p.is.ao p.is.n p.is.c,.slice p.ss.ao p.ss.n p.ss.c],.agg #[.int .i64 q.ticks,.slice q.ds.ao q.ds.n q.ds.c,.slice q.is.ao q.is.n q.is.c,.slice q.ss.ao q.ss.n q.ss.c]] w _
 go_enter Tryz.func18,Tryz.ntmps18
 go_upto_region 1 with fail
 rw[bx_p,bx_p]
 go_wp2_with fail
 ·refine C1.out.mono ?_
  rintro r w1 ⟨rfl,hb⟩
  have G1:=Hj (And.intro (kept_obj hb G.out.1) (kept_obj hb G.out.2))
  obtain⟨-, -,c2, -⟩:=p_cells G1.out.1
  obtain⟨-, -,d2, -⟩:=p_cells G1.out.2
  have BB:Hid (Below w.heap.size w w1):=B2.out.trans (hb.mono (by have:=Z2.out;omega))
  clear hb G B2 Z2 C1 c0 c1 d0 d1
  cases hs:sameD p.ds.n p.d q.ds.n q.d with
  | true=>
   have C2:=Hj (tLstS_any B p.is p.i q.is q.i w1 (HI.out.2.2.1.below BB.out HB.out) (HI'.out.2.2.1.below BB.out HB.out) (Nat.le_trans HB.out BB.out.size))
   have HS:=Hj hs
   clear hs
   go_wp2_with fail
   refine C2.out.mono ?_
   rintro r w2 ⟨rfl,hb⟩
   have BB2:Hid (Below w.heap.size w w2):=BB.out.trans (hb.mono BB.out.size)
   obtain⟨-, -, -,c3⟩:=p_cells (kept_obj hb G1.out.1)
   obtain⟨-, -, -,d3⟩:=p_cells (kept_obj hb G1.out.2)
   clear hb BB C2 c2 d2 G1
   cases hs:sameS p.is.n p.i q.is.n q.i with
   | true=>
    have C3:=Hj (tLstS_any B p.ss p.s q.ss q.s w2 (HI.out.2.2.2.below BB2.out HB.out) (HI'.out.2.2.2.below BB2.out HB.out) (Nat.le_trans HB.out BB2.out.size))
    have HS2:=Hj hs
    clear hs
    go_wp2_with fail
    refine C3.out.mono ?_
    rintro r w3 ⟨rfl,hb⟩
    have BB3:Hid (Below w.heap.size w w3):=BB2.out.trans (hb.mono BB2.out.size)
    clear hb
    go_wp2_with fail
    go_ret
    exact⟨by rw[HS.out,HS2.out];simp[*],BB3.out⟩
   | false=>
    go_wp2_with fail
    go_ret
    exact⟨by rw[hs];simp,BB2.out⟩
  | false=>
   go_wp2_with fail
   go_ret
   exact⟨by rw[hs];simp,BB.out⟩
 all_goals
  go_ret
  exact⟨by simp[*],B2.out⟩
end Go.Proofs.YthmlhkllbichgaaGreatDoor
