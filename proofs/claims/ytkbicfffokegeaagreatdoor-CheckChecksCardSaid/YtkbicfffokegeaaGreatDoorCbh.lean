/-
  Whatever program is handed in, CheckChecks answers true. (part 34 of 38) Conditions: none beside what the card ties.
-/
import Derived.Test.YtkbicfffokegeaaGreatDoorCaw
import Derived.Test.YtkbicfffokegeaaGreatDoorCbg
namespace Go.Proofs.YtkbicfffokegeaaGreatDoor
set_option maxHeartbeats 16000000
open Go.RowKit
set_option maxRecDepth 100000
theorem gG {r:Ck Unit}{c p:Int}(h:r=.no c p):Ending.returned (.agg #[.int .i64 c,.int .i64 p])=unW r:=by rw[h];rfl
theorem aKH {r:Ck Unit}(h:r=.ok ()):Ending.returned (.agg #[.int .i64 0,.int .i64 0])=unW r:=by rw[h];rfl
theorem aAi (B:Nat)(S:Sc)(sd sl:Sl)(hs:sd.n=S.n)(s:St)(w:World)(hD:gF B w sd S.d)(hL:nQ B w sl S.loops)(hX:s.In B w)(hB:B≤w.heap.size)(hw:s.e.wt≤1000000∧∀i,i<s.h.xs.n→(s.x i).wt≤1000000) :
  Calls Tryz.prog 44 #[scV sd sl S.init,stv s.h s.e.h] w fun r w'=>r=unW (lQ S s.h s.x s.e)∧Below w.heap.size w w':=by
 obtain⟨Z,hZ⟩:∃Z,lQ S s.h s.x s.e=Z:=⟨_,rfl⟩;have HZ:Hid (lQ S s.h s.x s.e=Z):=hZ;rw[hZ];clear hZ;have CI:=Hj fun(h0:0<s.h.xs.n) w1 (hb:Below w.heap.size w w1)=>pB B S sd sl hs (s.x 0) w1 (hD.below hb hB) (hL.below hb hB) ((hX.below hb hB).xs.2.2 0 h0) (aF hB hb.size) (hw.2 0 h0);have CE:=Hj fun w1 (hb:Below w.heap.size w w1)=>pB B S sd sl hs s.e w1 (hD.below hb hB) (hL.below hb hB) (hX.below hb hB).ex (aF hB hb.size) hw.1;have FN:=Hj fun w1 (hb:Below w.heap.size w w1)=>lY B sd sl S.init S.d s.h.nm w1 (hD.below hb hB) (aF hB hb.size);have LN:=Hj fun w1 (hb:Below w.heap.size w w1)=>pA B sd sl S.init S.loops s.h.nm w1 (hL.below hb hB) (aF hB hb.size);have HD:=Hj fun w1 (hb:Below w.heap.size w w1)=>hD.below hb hB;have HX:=Hj fun w1 (hb:Below w.heap.size w w1)=>(hX.below hb hB).xs;have HBB:=Hj hB;have NI:=Hj (Ex.ck_nz S (s.x 0));have NE:=Hj (Ex.ck_nz S s.e);have HS:=Hj hs;clear hD hL hX hB hw hs;unfold scV at FN LN;generalize hYI:(s.x 0).ck S=YI at *;generalize hYE:s.e.ck S=YE at *;have HYI:=Hj hYI;have HYE:=Hj hYE;clear hYI hYE;have GS1:=Hj (cD w (scO sd sl S.init))
 have B1:=Hj (bS (Below.refl w.heap.size w) (aD _) (scO sd sl S.init));have S1:Hid ((bx w (scO sd sl S.init)).heap.size=w.heap.size+1):=cJ _ _;show Calls Tryz.prog 44 #[.agg #[.slice sd.ao sd.n sd.c,.slice sl.ao sl.n sl.c,.bool S.init],.agg #[.int .u8 s.h.kd,.int .i64 s.h.ps,.string ⟨s.h.nm.toArray⟩,.slice s.h.xs.ao s.h.xs.n s.h.xs.c,.int .u8 s.e.h.op,.int .i64 s.e.h.ps,.bool s.e.h.bo,.int .i32 s.e.h.it,.int .u64 s.e.h.fl,.string ⟨s.e.h.nm.toArray⟩,.slice s.e.h.s.ao s.e.h.s.n s.e.h.s.c,.int .i32 s.h.lo,.int .i32 s.h.hi,.slice s.h.ts.ao s.h.ts.n s.h.ts.c,.slice s.h.es.ao s.h.es.n s.h.es.c]] w _;go_enter Tryz.func44,Tryz.ntmps44;go_upto_region 1 with fail;rw[tV w sd sl S.init];generalize bx w (scO sd sl S.init)=w1 at *;have GX2:=cD w1 (sO s.h s.e.h);rw[S1.out]at GX2;have GS2:=Hj (aV (aY w1 (sO s.h s.e.h)) GS1.out);have B2:=Hj (bS B1.out (aD _) (sO s.h s.e.h));have S2:Hid ((bx w1 (sO s.h s.e.h)).heap.size=w.heap.size+1+1):=(cJ _ _).trans (by rw[S1.out]);change Hid ((bx w1 (sO s.h s.e.h)).heap[w.heap.size]? = _)at GS2;rw[aCj w1 s.h s.e.h];generalize bx w1 (sO s.h s.e.h)=w2 at *
 have GR:Hid (Blk (w2.alloc (.cells #[.int .i64 0,.int .i64 0] 32)) (w.heap.size+1+1) 32 (wrA 0 0)):=by rw[←S2.out];exact Blk.new _ _ _
 have GS:=Hj (aV (aY w2 (.cells #[.int .i64 0,.int .i64 0] 32)) GS2.out);have GX:=Hj (aV (aY w2 (.cells #[.int .i64 0,.int .i64 0] 32)) GX2);have BZ:=Hj (aI B2.out (.cells #[.int .i64 0,.int .i64 0] 32));clear GS1 B1 S1 GS2 GX2 B2 S2;change (Code.region 1 _ _).wp _ _ _ (w2.alloc (.cells #[.int .i64 0,.int .i64 0] 32));generalize w2.alloc (.cells #[.int .i64 0,.int .i64 0] 32)=w3 at *;obtain⟨s0,s1,s2⟩:=cK GS.out;have c2:=(bX GX.out).c2;go_wp2_with fail;refine(FN.out _ BZ.out).mono ?_;rintro r w4 ⟨rfl,b4⟩;clear FN s0 s1 s2 c2;have GSn:=Hj (aV b4 GS.out);have GXn:=Hj (aV b4 GX.out);have GRn:=Hj (GR.out.below b4 GR.out.lt);have BZn:=Hj (aG BZ.out b4);clear GS GX GR BZ b4;have GS:=Hj GSn.out;have GX:=Hj GXn.out;have GR:=Hj GRn.out;have BZ:=Hj BZn.out;clear GSn GXn GRn BZn;obtain⟨s0,s1,s2⟩:=cK GS.out;have c2:=(bX GX.out).c2;go_wp2_with fail;refine(LN.out _ BZ.out).mono ?_;rintro r w5 ⟨rfl,b5⟩;clear LN s0 s1 s2 c2;have GSn:=Hj (aV b5 GS.out);have GXn:=Hj (aV b5 GX.out);have GRn:=Hj (GR.out.below b5 GR.out.lt);have BZn:=Hj (aG BZ.out b5);clear GS GX GR BZ b5;have GS:=Hj GSn.out;have GX:=Hj GXn.out;have GR:=Hj GRn.out;have BZ:=Hj BZn.out
 clear GSn GXn GRn BZn;have c1:=(bX GX.out).c1
 by_cases hlo:s.h.nm∈S.loops
 case pos=>
  rw[decide_eq_true hlo]
  have E:Hid (Z=.no 124 s.h.ps):=by
   show Z=_;rw[←HZ.out];unfold lQ;rw[if_pos hlo]
  clear HZ HD hlo CI CE NI NE HYI HYE
  cases hf:fd S.d s.h.nm sd.n with
  | none=>
   dsimp only[ixV];clear hf
   go_wp2_with (first|refine dR 124 s.h.ps (w.heap.size+1+1) _ GR.out rfl rfl _ _ rfl rfl rfl ?_)
   exact bodyPost_ret (jE rfl _ _ (w.heap.size+1+1) 124 s.h.ps rfl (GR.out.rowS _)) rfl ⟨gG E.out,aR BZ.out (aD _) (by omega) _⟩
  | some i=>
   have z2:¬(i:Int)<0:=by omega
   dsimp only[ixV];clear hf
   go_wp2_with (first|refine dR 124 s.h.ps (w.heap.size+1+1) _ GR.out rfl rfl _ _ rfl rfl rfl ?_)
   exact bodyPost_ret (jE rfl _ _ (w.heap.size+1+1) 124 s.h.ps rfl (GR.out.rowS _)) rfl ⟨gG E.out,aR BZ.out (aD _) (by omega) _⟩
 case neg=>
  rw[decide_eq_false hlo]
  cases hf:fd S.d s.h.nm sd.n with
  | none=>
   have E:Hid (Z=.no 120 s.h.ps):=by
    show Z=_;rw[HS.out]at hf;rw[←HZ.out];unfold lQ Sc.find;rw[if_neg hlo,hf]
   clear HZ HD CI CE NI NE HYI HYE hlo hf;dsimp only[ixV]
   go_wp2_with (first|refine dR 120 s.h.ps (w.heap.size+1+1) _ GR.out rfl rfl _ _ rfl rfl rfl ?_)
   exact bodyPost_ret (jE rfl _ _ (w.heap.size+1+1) 120 s.h.ps rfl (GR.out.rowS _)) rfl ⟨gG E.out,aR BZ.out (aD _) (by omega) _⟩
  | some i=>
   dsimp only[ixV];have hi:=(zM hf).1
   have AS:Hid (Z=if(S.d i).inp=true then .no 124 s.h.ps else if(0<(S.d i).len∧s.h.xs.n≠1)∨(¬0<(S.d i).len∧s.h.xs.n≠0)then .no 125 s.h.ps else(if 0<(S.d i).len then YI.bind fun t=>dC (t == 2) 122 (s.x 0).h.ps else .ok ()).bind fun _=>YE.bind fun t=>dC (t == (S.d i).ty) 122 s.e.h.ps):=by
    show Z=_;rw[HS.out]at hf;rw[←HZ.out];unfold lQ Sc.find;rw[if_neg hlo,hf,←HYI.out,←HYE.out]
   clear hf hlo HZ HYI HYE;obtain⟨s0,s1,s2⟩:=cK GS.out;obtain⟨ao,n,cc⟩:=sd;dsimp only at *;obtain⟨a,b',o,rfl,hA,hb,X, -⟩:=(HD.out _ BZ.out).at hi;have e1:=X.c1;have z0:(i:Int)<(n:Int):=by omega
   have z1:(0:Int)≤(i:Int):=by omega
   have z2:¬(i:Int)<0:=by omega
   by_cases hinp:(S.d i).inp=true
   case pos=>
    have E:Hid (Z=.no 124 s.h.ps):=by show Z=_;rw[AS.out,if_pos hinp]
    rw[hinp]at e1;clear AS HD CI CE NI NE X hb hi hinp
    go_wp2_with (first|refine dR 124 s.h.ps (w.heap.size+1+1) _ GR.out rfl rfl _ _ rfl rfl rfl ?_)
    exact bodyPost_ret (jE rfl _ _ (w.heap.size+1+1) 124 s.h.ps rfl (GR.out.rowS _)) rfl ⟨gG E.out,aR BZ.out (aD _) (by omega) _⟩
   case neg=>
    have hinf:(S.d i).inp=false:=by simpa using hinp
    have AS2:=AS.out;rw[if_neg hinp]at AS2;replace AS2:=Hj AS2;rw[hinf]at e1;clear AS hinp hinf;have RC:=Hj (aFM X);have BX:=Hj (bS (Below.refl w5.heap.size w5) (aD _) (dO (S.d i) (S.d i).lo.h (S.d i).hi.h));have GD:=Hj (cD w5 (dO (S.d i) (S.d i).lo.h (S.d i).hi.h));have O1:=Hj (aCc (S.d i) (S.d i).lo.h (S.d i).hi.h);rw[aEH]at BX GD;obtain⟨V1,hV1⟩:∃V,dM (S.d i) (S.d i).lo.h (S.d i).hi.h=V:=⟨_,rfl⟩;have HV1:=Hj hV1;have L1:=Hj (show(Tryz.prog.info? 44).map (·.size)=some V1.length∧V1.length=20 by rw[←hV1];exact⟨by kernel_rfl,rfl⟩);rw[hV1]at BX GD RC O1;clear hb X hV1 hi HD
    go_upto_region 8 with(first
     | refine wpList_load_mid rfl 44 _ rfl b' o rfl V1 _ RC.out Tryz.underlying44 rfl L1.out.1 ?_
     | refine vL rfl 44 _ _ rfl w5 _ V1.toArray rfl rfl (by rw[List.size_toArray];exact L1.out.1) (by have h:V1.toArray.size=20:=(by rw[List.size_toArray];exact L1.out.2);rw[h];rfl) O1.out ?_)
    clear RC O1 e1 z0 z1 z2 hA s0 s1 s2 c1;have GD':Hid ((bx w5 (.cells V1.toArray 44 (0,0))).heap[w5.heap.size]? = some (dO (S.d i) (S.d i).lo.h (S.d i).hi.h)):=by rw[aEH,HV1.out];exact GD
    clear GD;have bx5:=BX.out;generalize bx w5 (.cells V1.toArray 44 (0,0))=w6 at *;try simp only[Act.put]
    have GD:=Hj GD'.out;clear GD' L1 HV1 BX;have GSn:=Hj (aV bx5 GS.out);have GXn:=Hj (aV bx5 GX.out);have GRn:=Hj (GR.out.below bx5 GR.out.lt);have BZn:=Hj (aG BZ.out bx5);clear GS GX GR BZ bx5;have GS:=Hj GSn.out;have GX:=Hj GXn.out;have GR:=Hj GRn.out;have BZ:=Hj BZn.out;clear GSn GXn GRn BZn;have DD:=cA GD.out;have d3:=DD.c3;have d4:=DD.c4;clear DD;have TC:=bX GX.out;have c1:=TC.c1;have c3:=TC.c3;have c4:=TC.c4;have c5:=TC.c5;have c6:=TC.c6;have c7:=TC.c7;have c8:=TC.c8;have c9:=TC.c9;have c10:=TC.c10;clear TC;obtain⟨ty,hty⟩:∃ty,(S.d i).ty=ty:=⟨_,rfl⟩;obtain⟨len,hlen⟩:∃len,(S.d i).len=len:=⟨_,rfl⟩;rw[hty]at d3 AS2;rw[hlen]at d4 AS2;have HTY:=Hj hty;clear hty hlen;obtain⟨s0,s1,s2⟩:=cK GS.out
    by_cases hix:(0<len∧s.h.xs.n≠1)∨(¬0<len∧s.h.xs.n≠0)
    case pos=>
     have E:Hid (Z=.no 125 s.h.ps):=by show Z=_;rw[AS2.out,if_pos hix]
     clear AS2 CI CE NI NE;rcases hix with⟨hl,hn⟩|⟨hl,hn⟩
     ·have hb:((s.h.xs.n:Int) != 1)=true:=by simp;omega
      clear hn;go_upto_region 9 with fail;clear hb hl c3 c4 c5 c6 c7 c8 c9 c10 d3 d4 s0 s1 s2
      go_wp2_with (first|refine dR 125 s.h.ps (w.heap.size+1+1) _ GR.out rfl rfl _ _ rfl rfl rfl ?_)
      exact bodyPost_ret (jE rfl _ _ (w.heap.size+1+1) 125 s.h.ps rfl (GR.out.rowS _)) rfl ⟨gG E.out,aR BZ.out (aD _) (by omega) _⟩
     ·have hb:((s.h.xs.n:Int) != 0)=true:=by simp;omega
      have hl2:len≤0:=by omega
      clear hn;go_upto_region 9 with fail;clear hb hl hl2 c3 c4 c5 c6 c7 c8 c9 c10 d3 d4 s0 s1 s2
      go_wp2_with (first|refine dR 125 s.h.ps (w.heap.size+1+1) _ GR.out rfl rfl _ _ rfl rfl rfl ?_)
      exact bodyPost_ret (jE rfl _ _ (w.heap.size+1+1) 125 s.h.ps rfl (GR.out.rowS _)) rfl ⟨gG E.out,aR BZ.out (aD _) (by omega) _⟩
    case neg=>
     have AS3:=AS2.out;rw[if_neg hix]at AS3;replace AS3:=Hj AS3;clear AS2;have Z1:Hid (len≤0→s.h.xs.n=0):=fun h=>Decidable.byContradiction fun g=>hix (.inr ⟨by omega,g⟩);have Z2:Hid (0<len→s.h.xs.n=1):=fun h=>Decidable.byContradiction fun g=>hix (.inl ⟨h,g⟩);clear hix;go_upto_region 8 with fail
     go_cut [65] (fun v wx=>v=.bool false∧wx=w6)
     case first=>
      by_cases hl:0<len
      ·have e1:=Z2.out hl
       have hb:((s.h.xs.n:Int) != 1)=false:=by simp;omega
       have hl2:¬len≤0:=by omega
       clear e1;go_wp2_with fail;go_meet;exact⟨rfl,rfl⟩
      ·have e1:=Z1.out (by omega)
       have hb:((s.h.xs.n:Int) != 0)=false:=by simp;omega
       have hl2:len≤0:=by omega
       clear e1;go_wp2_with fail;go_meet;exact⟨rfl,rfl⟩
     case rest=>
     obtain⟨rfl,hwx⟩:=hcut;rw[hwx];clear hwx wc
     go_upto_if 71 with fail
     go_cut [71] (fun v wx=>v=v∧Hid ((if 0<len then YI.bind fun t=>dC (t == 2) 122 (s.x 0).h.ps else .ok ())=.ok ())∧Hid (Below w6.heap.size w6 wx))
     case first=>
      by_cases hl:0<len
      case neg=>
       have EV:Hid ((if 0<len then YI.bind fun t=>dC (t == 2) 122 (s.x 0).h.ps else .ok ())=.ok ()):=if_neg hl;go_wp2_with fail;go_meet;exact⟨trivial,EV.out,Below.refl _ _⟩
      case pos=>
       have n1:=Z2.out hl;have AS4:=AS3.out;rw[if_pos hl]at AS4;replace AS4:=Hj AS4;have h0:0<s.h.xs.n:=by omega
       obtain⟨a2,b2,o2,ha2,hA2,hb2,X2, -⟩:=(HX.out _ BZ.out).at h0;obtain rfl:=aDN hA2;rw[ha2]at c3;have IH:Hid (∀w',Below w6.heap.size w6 w'→Calls Tryz.prog 45 #[.agg #[.slice (some a) n cc,.slice sl.ao sl.n sl.c,.bool S.init],.agg #[.int .u8 (s.x 0).h.op,.int .i64 (s.x 0).h.ps,.bool (s.x 0).h.bo,.int .i32 (s.x 0).h.it,.int .u64 (s.x 0).h.fl,.string ⟨(s.x 0).h.nm.toArray⟩,.slice (s.x 0).h.s.ao (s.x 0).h.s.n (s.x 0).h.s.c]] w' fun r w''=>r=xpE YI∧Below w'.heap.size w' w''):=fun w' hb=>CI.out h0 w' (aG BZ.out hb)
       have KG:Hid (∀w',Below w6.heap.size w6 w'→(w'.cell? ⟨w.heap.size,0,none⟩=some (.slice (some a) n cc)∧w'.cell? ⟨w.heap.size,1,none⟩=some (.slice sl.ao sl.n sl.c)∧w'.cell? ⟨w.heap.size,2,none⟩=some (.bool S.init)∧w'.cell? ⟨w.heap.size+1,3,none⟩=some (.slice (some ⟨b2,o2,none⟩) s.h.xs.n s.h.xs.c) ∧
         w'.cell? ⟨b2,o2,none⟩=some (.int .u8 (s.x 0).h.op)∧w'.cell? ⟨b2,o2+1,none⟩=some (.int .i64 (s.x 0).h.ps)∧w'.cell? ⟨b2,o2+2,none⟩=some (.bool (s.x 0).h.bo)∧w'.cell? ⟨b2,o2+3,none⟩=some (.int .i32 (s.x 0).h.it)∧w'.cell? ⟨b2,o2+4,none⟩=some (.int .u64 (s.x 0).h.fl)∧w'.cell? ⟨b2,o2+5,none⟩=some (.string ⟨(s.x 0).h.nm.toArray⟩)∧w'.cell? ⟨b2,o2+6,none⟩=some (.slice (s.x 0).h.s.ao (s.x 0).h.s.n (s.x 0).h.s.c))):=fun w' hb=>by
        obtain⟨q0,q1,q2⟩:=cK (aV hb GS.out);have X3:=X2.below hb2 hb (aF HBB.out BZ.out.size);have q6:=(bX (aV hb GX.out)).c3;rw[ha2]at q6;exact⟨q0,q1,q2,q6,X3.c0,X3.c1,X3.c2,X3.c3,X3.c4,X3.c5,X3.c6⟩
       have z3:(0:Int)<(s.h.xs.n:Int):=by omega
       have X2H:=Hj (And.intro hb2 X2);have HB6:=Hj (aF HBB.out BZ.out.size);have HA2:=Hj ha2;clear X2 hb2 CE NE n1 ha2;go_upto_region 11 with fail;clear s0 s1 s2 c1 c4 c5 c6 c7 c8 c9 c10 d3 d4 c3
       go_cut [8,9] (fun t v wx=>∃be:Nat,t=.int .u8 (YI.va 0)∧v=.pointer (some ⟨be,0,none⟩)∧Hid (Blk wx be 32 (wrA YI.er YI.pl))∧Hid (Below w6.heap.size w6 wx)∧Hid (w6.heap.size≤be))
       case first=>
        refine bY (S:=fun w'=>w'.cell? ⟨w.heap.size,0,none⟩=some (.slice (some a) n cc)∧w'.cell? ⟨w.heap.size,1,none⟩=some (.slice sl.ao sl.n sl.c)∧w'.cell? ⟨w.heap.size,2,none⟩=some (.bool S.init)∧w'.cell? ⟨w.heap.size+1,3,none⟩=some (.slice (some ⟨b2,o2,none⟩) s.h.xs.n s.h.xs.c)∧w'.cell? ⟨b2,o2,none⟩=some (.int .u8 (s.x 0).h.op)∧w'.cell? ⟨b2,o2+1,none⟩=some (.int .i64 (s.x 0).h.ps)∧w'.cell? ⟨b2,o2+2,none⟩=some (.bool (s.x 0).h.bo)∧w'.cell? ⟨b2,o2+3,none⟩=some (.int .i32 (s.x 0).h.it)∧w'.cell? ⟨b2,o2+4,none⟩=some (.int .u64 (s.x 0).h.fl)∧w'.cell? ⟨b2,o2+5,none⟩=some (.string ⟨(s.x 0).h.nm.toArray⟩)∧w'.cell? ⟨b2,o2+6,none⟩=some (.slice (s.x 0).h.s.ao (s.x 0).h.s.n (s.x 0).h.s.c)) _ (.take 0 (.take 1 (.take 2 (.take 3 (.take 4 (.two 5 (.take 6 (.take 7 (.take 8 (.act 9 (.take 10 (.act 11 .done)))))) 9 (.act 5 (.take 6 (.take 7 (.take 8 (.take 10 (.act 11 .done)))))))))))) (by kernel_rfl) (by kernel_rfl) rfl (by kernel_rfl) (by kernel_rfl) (fun _ _ d _ _ h=>by cases d<;>exact h) (KG.out _ (aH (Below.refl _ _))) ?_
        iterate 5
         refine aN.take (v:=?_) rfl (by rfl) ?_ ?_;rotate_left
         ·(intro w' hSw;(try dsimp only at hSw);go_simp<;>with_reducible rfl)
         try simp only[Act.put,aA,aC,aB]
        refine⟨bF rfl (by rfl) (fun K hK=>?_),bF rfl (by rfl) (fun K hK=>?_)⟩
        ·go_simp
         go_at_call 45;refine(IH.out _ (by repeat (first|exact Below.refl _ _|refine aH ?_|refine aI ?_ _))).mono ?_;rintro r wc ⟨rfl,hbc⟩;dsimp only[xpE];have X1:Below w6.heap.size w6 wc:=(by refine aG ?_ hbc;repeat (first|exact Below.refl _ _|refine aH ?_|refine aI ?_ _));refine hK.out _ _ (KG.out _ X1) ?_;clear hK K;try simp only[Act.put,aA,aC,aB]
         iterate 3
          refine aN.take (v:=?_) rfl (by rfl) ?_ ?_;rotate_left
          ·(intro w' hSw;(try dsimp only at hSw);go_simp<;>with_reducible rfl)
          try simp only[Act.put,aA,aC,aB]
         refine aN.act rfl (by rfl) (fun K hK=>?_);go_simp;refine hK.out _ _ (KG.out _ (by repeat (first|exact Below.refl _ _|exact X1|refine aH ?_|refine aI ?_ _))) ?_;clear hK K;try simp only[Act.put,aA,aC,aB]
         iterate 1
          refine aN.take (v:=?_) rfl (by rfl) ?_ ?_;rotate_left
          ·(intro w' hSw;(try dsimp only at hSw);go_simp<;>with_reducible rfl)
          try simp only[Act.put,aA,aC,aB]
         refine aN.act rfl (by rfl) (fun K hK=>?_);refine cO (YI).er (YI).pl wc.heap.size _ (Blk.new wc 32 (wrA 0 0)) rfl _ _ rfl rfl rfl ?_;have X2:=aR (aI X1 (.cells (wrA 0 0) 32 (0,0))) (aD _) X1.size (wrA (YI).er (YI).pl);refine hK.out _ _ (KG.out _ X2) ?_;clear hK K;try simp only[Act.put]
         refine aN.done ?_;go_wp2_with fail;go_meet;exact⟨_,rfl,rfl,((Blk.new wc 32 (wrA 0 0)).rowS _),X2,X1.size⟩
        ·go_simp
         refine hK.out _ _ (KG.out _ (by repeat (first|exact Below.refl _ _|exact X1|refine aH ?_|refine aI ?_ _))) ?_;clear hK K;try simp only[Act.put,aA,aC,aB]
         refine aN.act rfl (by rfl) (fun K hK=>?_);go_simp;go_at_call 45;refine(IH.out _ (by repeat (first|exact Below.refl _ _|refine aH ?_|refine aI ?_ _))).mono ?_;rintro r wc ⟨rfl,hbc⟩;dsimp only[xpE];have X1:Below w6.heap.size w6 wc:=(by refine aG ?_ hbc;repeat (first|exact Below.refl _ _|refine aH ?_|refine aI ?_ _));have Kq:Blk wc w6.heap.size 32 (wrA 0 0):=(Blk.drew (Blk.new w6 32 (wrA 0 0))).below hbc (Blk.drew (Blk.new w6 32 (wrA 0 0))).lt;refine hK.out _ _ (KG.out _ X1) ?_;clear hK K;try simp only[Act.put,aA,aC,aB]
         iterate 4
          refine aN.take (v:=?_) rfl (by rfl) ?_ ?_;rotate_left
          ·(intro w' hSw;(try dsimp only at hSw);go_simp<;>with_reducible rfl)
          try simp only[Act.put,aA,aC,aB]
         refine aN.act rfl (by rfl) (fun K hK=>?_);refine cO (YI).er (YI).pl w6.heap.size _ Kq rfl _ _ rfl rfl rfl ?_;have X2:=aR X1 (aD _) (aD _) (wrA (YI).er (YI).pl);refine hK.out _ _ (KG.out _ X2) ?_;clear hK K;try simp only[Act.put]
         refine aN.done ?_;go_wp2_with fail;go_meet;exact⟨_,rfl,rfl,(Kq.rowS _),X2,(aD _)⟩
       case rest=>
        obtain⟨be,rfl,rfl,NB,bx7,HG⟩:=hcut;have b7:=bx7.out;have B67:=Hj b7;clear KG IH bx7;have GSn:=Hj (aV b7 GS.out);have GXn:=Hj (aV b7 GX.out);have GRn:=Hj (GR.out.below b7 GR.out.lt);have BZn:=Hj (aG BZ.out b7);clear GS GX GR BZ b7;have GS:=Hj GSn.out;have GX:=Hj GXn.out;have GR:=Hj GRn.out;have BZ:=Hj BZn.out;clear GSn GXn GRn BZn
        cases YI with
        | no c q=>
         have hz:=NI.out c q rfl;have E:Hid (Z=.no c q):=AS4.out;have n0:wc.cell? ⟨be,0,none⟩=some (.int .i64 c):=NB.out.cell 0;have hb:(c != 0)=true:=by simp;omega
         clear AS3 AS4 hz NI CI;dsimp only[Ck.va]
         go_wp2_with (first|refine zG c q be NB.out rfl _ rfl rfl ?_|refine dR c q (w.heap.size+1+1) _ GR.out rfl rfl _ _ rfl rfl rfl ?_)
         exact bodyPost_ret (jE rfl _ _ (w.heap.size+1+1) c q rfl (GR.out.rowS _)) rfl ⟨gG E.out,aR BZ.out (aD _) (by omega) _⟩
        | ok u=>
         have n0:wc.cell? ⟨be,0,none⟩=some (.int .i64 0):=NB.out.cell 0;clear NI CI;dsimp only[Ck.va]
         by_cases hu:u=2
         case pos=>
          subst hu;have EV:Hid ((if 0<len then(Ck.ok 2).bind fun t=>dC (t == 2) 122 (s.x 0).h.ps else .ok ())=.ok ()):=if_pos hl;clear AS3 AS4;go_wp2_with fail;go_meet;exact⟨trivial,EV.out,B67.out⟩
         case neg=>
          have E:Hid (Z=.no 122 (s.x 0).h.ps):=by
           show Z=_;rw[AS4.out];show(dC (u == 2) 122 (s.x 0).h.ps).bind _=_;rw[mN hu];rfl
          have hb:(u != 2)=true:=by simp[hu]
          have c3:=(bX GX.out).c3;rw[HA2.out]at c3;have x1:=(X2H.out.2.below X2H.out.1 B67.out HB6.out).c1;clear AS3 AS4 hu
          go_wp2_with (first|refine dR 122 (s.x 0).h.ps (w.heap.size+1+1) _ GR.out rfl rfl _ _ rfl rfl rfl ?_)
          exact bodyPost_ret (jE rfl _ _ (w.heap.size+1+1) 122 (s.x 0).h.ps rfl (GR.out.rowS _)) rfl ⟨gG E.out,aR BZ.out (aD _) (by omega) _⟩
     case rest=>
      obtain⟨-,EV,B6c⟩:=hcut;have b7:=B6c.out;have AS4:=AS3.out;rw[EV.out]at AS4;replace AS4:Hid (Z=YE.bind fun t=>dC (t == ty) 122 s.e.h.ps):=AS4;clear s0 s1 s2 c1 c3 c4 c5 c6 c7 c8 c9 c10 d3 d4 EV AS3 CI NI B6c;have GSn:=Hj (aV b7 GS.out);have GXn:=Hj (aV b7 GX.out);have GRn:=Hj (GR.out.below b7 GR.out.lt);have GDn:=Hj (aV b7 GD.out);have BZn:=Hj (aG BZ.out b7);clear GS GX GR GD BZ b7;have GS:=Hj GSn.out;have GX:=Hj GXn.out;have GR:=Hj GRn.out;have GD:=Hj GDn.out;have BZ:=Hj BZn.out;clear GSn GXn GRn GDn BZn;obtain⟨s0,s1,s2⟩:=cK GS.out;have TC:=bX GX.out;have c4:=TC.c4;have c5:=TC.c5;have c6:=TC.c6;have c7:=TC.c7;have c8:=TC.c8;have c9:=TC.c9;have c10:=TC.c10;clear TC;go_upto_region 16 with fail;go_wp2_with fail;refine(CE.out _ BZ.out).mono ?_;rintro r w8 ⟨rfl,b8⟩;clear CE s0 s1 s2 c4 c5 c6 c7 c8 c9 c10;have GSn:=Hj (aV b8 GS.out);have GXn:=Hj (aV b8 GX.out);have GRn:=Hj (GR.out.below b8 GR.out.lt);have GDn:=Hj (aV b8 GD.out);have BZn:=Hj (aG BZ.out b8);clear GS GX GR GD BZ b8;have GS:=Hj GSn.out;have GX:=Hj GXn.out;have GR:=Hj GRn.out;have GD:=Hj GDn.out;have BZ:=Hj BZn.out;clear GSn GXn GRn GDn BZn;dsimp only[xpE];go_upto_region 17 with fail
      change (Code.region 17 _ _).wp _ _ _ (w8.alloc (.cells #[.int .i64 YE.er,.int .i64 YE.pl] 32));have NB:Hid (Blk (w8.alloc (.cells #[.int .i64 YE.er,.int .i64 YE.pl] 32)) w8.heap.size 32 (wrA YE.er YE.pl)):=Blk.new w8 _ _;have b9:=aY w8 (.cells #[.int .i64 YE.er,.int .i64 YE.pl] 32);have GSn:=Hj (aV b9 GS.out);have GXn:=Hj (aV b9 GX.out);have GRn:=Hj (GR.out.below b9 GR.out.lt);have GDn:=Hj (aV b9 GD.out);have BZn:=Hj (aG BZ.out b9);clear GS GX GR GD BZ b9;have GS:=Hj GSn.out;have GX:=Hj GXn.out;have GR:=Hj GRn.out;have GD:=Hj GDn.out;have BZ:=Hj BZn.out;clear GSn GXn GRn GDn BZn;generalize w8.alloc (.cells #[.int .i64 YE.er,.int .i64 YE.pl] 32)=w9 at *
      cases YE with
      | no c q=>
       have hz:=NE.out c q rfl;have E:Hid (Z=.no c q):=AS4.out;have n0:w9.cell? ⟨w8.heap.size,0,none⟩=some (.int .i64 c):=NB.out.cell 0;have hb:(c != 0)=true:=by simp;omega
       clear AS4 hz NE;dsimp only[Ck.va]
       go_wp2_with (first|refine zG c q w8.heap.size NB.out rfl _ rfl rfl ?_|refine dR c q (w.heap.size+1+1) _ GR.out rfl rfl _ _ rfl rfl rfl ?_)
       exact bodyPost_ret (jE rfl _ _ (w.heap.size+1+1) c q rfl (GR.out.rowS _)) rfl ⟨gG E.out,aR BZ.out (aD _) (by omega) _⟩
      | ok u=>
       have n0:w9.cell? ⟨w8.heap.size,0,none⟩=some (.int .i64 0):=NB.out.cell 0;have d3:=(cA GD.out).c3;rw[HTY.out]at d3;clear NE;dsimp only[Ck.va]
       by_cases hu:u=ty
       case pos=>
        subst hu;have E:Hid (Z=.ok ()):=by show Z=_;rw[AS4.out];show dC (u == u) _ _=_;rw[beq_self_eq_true];rfl
        clear AS4
        go_wp2_with (refine dR 0 0 (w.heap.size+1+1) _ GR.out rfl rfl _ _ rfl rfl rfl ?_)
        exact bodyPost_ret (jE rfl _ _ (w.heap.size+1+1) 0 0 rfl (GR.out.rowS _)) rfl ⟨aKH E.out,aR BZ.out (aD _) (by omega) _⟩
       case neg=>
        have E:Hid (Z=.no 122 s.e.h.ps):=by show Z=_;rw[AS4.out];show dC (u == ty) _ _=_;rw[mN hu];rfl
        have hb:(u != ty)=true:=by simp[hu]
        have c5:=(bX GX.out).c5;clear AS4 hu
        go_wp2_with (first|refine dR 122 s.e.h.ps (w.heap.size+1+1) _ GR.out rfl rfl _ _ rfl rfl rfl ?_)
        exact bodyPost_ret (jE rfl _ _ (w.heap.size+1+1) 122 s.e.h.ps rfl (GR.out.rowS _)) rfl ⟨gG E.out,aR BZ.out (aD _) (by omega) _⟩
theorem vK:(Tryz.prog.info? 9).map (fun i=>(i.zero,i.size,i.bytes))=some (some (.string ⟨#[]⟩),1,16):=by kernel_rfl
def uD (l:List (List UInt8)):List Value:=l.map fun x=>.string ⟨x.toArray⟩
theorem aHA {l:List (List UInt8)}{j:Nat}{u:Value}(h:(uD l)[j]? = some u):j<l.length∧u=.string ⟨(l.getD j []).toArray⟩:=by
 unfold uD at h;rw[List.getElem?_map]at h
 cases hx:l[j]? with
 | none=>rw[hx]at h;cases h
 | some x=>
  rw[hx]at h;refine⟨(List.getElem?_eq_some_iff.1 hx).1,?_⟩;rw[List.getD_eq_getElem?_getD,hx];exact(Option.some.inj h).symm
theorem aJM {l:List (List UInt8)}{j:Nat}(h:j<l.length):(uD l)[j]? = some (.string ⟨(l.getD j []).toArray⟩):=by
 unfold uD;rw[List.getElem?_map,List.getD_eq_getElem?_getD,List.getElem?_eq_getElem h];rfl
theorem aHz (l:List (List UInt8)):∀u∈uD l,u.oneCell'=true:=by
 intro u hu;obtain⟨x,_,rfl⟩:=List.mem_map.1 hu;rfl
theorem rJ {w:World}{ops:Array Oper}{rest:List Oper}{o:Oper}{a:Act}{Q:Exit→Act→World→Prop}(hgd:o.guard=none)(s x:Operand)
  (ho:o.op=.call { callee:=.builtin .append,args:=#[s,x],argTypes:=#[71,71] }) (B:Nat) (S:Sl) (l:List (List UInt8)) (hs:a.eval s=.slice none 0 0) (hx:a.eval x=.slice S.ao S.n S.c) (hI:nQ B w S l) (hn:S.n≤100000)
  (h:∀v' w',w'.ownsRow w.heap.size 9 1 v' S.n (uD l)→Below w.heap.size w w'→wpList Tryz.prog ops Q rest (a.put o.dst v') w'):wpList Tryz.prog ops Q (o::rest) a w:=by
 obtain⟨i0,hi,hz0,hz1,hz2⟩:=info_parts vK;obtain⟨ao,n,c⟩:=S;dsimp only at hn hx h ⊢;have hl:n=l.length:=hI.2.2
 cases ao with
 | none=>
  obtain rfl:n=0:=hI.1.2.2 rfl;have hl0:l=[]:=List.eq_nil_of_length_eq_zero hl.symm;subst hl0;refine wpList_plain hgd fun K' hK=>?_
  have hr:(Builtin.append_ #[71,71] o.type #[.slice none 0 0,.slice none 0 c]).run Tryz.prog w=.ok (.slice none 0 0) w:=by
   simp[Builtin.append_,run_underlying Tryz.underlying71,sizeOf,typeInfo,hi,Builtin.lenOf,Builtin.firstCells]
  unfold Oper.wp execOp;simp only[ho,resolve,invoke,builtin,Sem.run_bind,Sem.run_pure,Result.andThen_ok,List.map_toArray,List.map_cons,List.map_nil,hs,hx,hr];exact hK _ _ (h _ _ (World.ownsRow_nil w w.heap.size 9 1) (Below.refl _ _))
 | some ad=>
  refine fO w hgd s x 71 ho w.heap.size 9 i0 _ 1 16 Tryz.underlying71 hi hz0 hz1 hz2 rfl (by decide) (.slice none 0 0) 0 [] hs (World.ownsRow_nil w w.heap.size 9 1) ad n c (uD l) hx (by unfold uD;rw[List.length_map,hl,Nat.mul_one]) ?_ (aHz l) (by unfold maxLen;omega) (by omega) (aD _) ?_
  ·intro j u hu
   obtain⟨h1,rfl⟩:=aHA hu;have h2:=(hI.2.1 ad rfl j (by show j<n;omega)).2 0 _ rfl;rw[Nat.mul_one]at h2;exact h2
  ·intro v' w' own gr mv
   rw[List.nil_append,Nat.zero_add]at own;exact h v' w' own ((zJ gr).bel (fun k hk x=>by cases x))
theorem aLE {w:World}{L n:Nat}{v:Value}{l:List (List UInt8)}(h:w.ownsRow L 9 1 v n (uD l)):∃S:Sl,v=.slice S.ao S.n S.c∧nQ w.heap.size w S l:=by
 have hl:l.length=n:=by have:=h.1;unfold uD at this;rw[List.length_map]at this;omega
 rcases h.2 with⟨rfl,rfl⟩|⟨g,cap,cur,rfl,hb,hg,hn,hc,hcs,ht⟩
 ·have hl0:l=[]:=List.eq_nil_of_length_eq_zero hl
  subst hl0;exact⟨⟨none,0,0⟩,rfl,nQ.none _ _⟩
 ·refine⟨⟨some ⟨g,0,none⟩,n,cap⟩,rfl,⟨hn,hc,fun e=>by cases e⟩,?_,hl.symm⟩
  intro a ha i hi;cases ha;have hi:i<n:=hi;refine⟨(Array.getElem?_eq_some_iff.1 hg).1,fun j u hu=>?_⟩
  cases j with
  | succ j=>cases j<;>cases hu
  | zero=>
   obtain rfl:=Option.some.inj hu;have:=h.cells (g:=g) rfl i _ (aJM (by omega));rw[Nat.mul_one];exact this
def RfB (s:Sl)(k:Nat→St):Prop:=∀(B:Nat) (S:Sc) (sd sl:Sl) (w:World),sd.n=S.n→gF B w sd S.d→nQ B w sl S.loops→gL B w s k→B≤w.heap.size→sm (fun i=>(k i).wt) s.n≤1000000→S.loops.length≤2 →
 Calls Tryz.prog 25 #[scV sd sl S.init,.slice s.ao s.n s.c] w fun r w'=>r=unW (cP (fun i=>(k i).ck aU S) s.n)∧Below w.heap.size w w'
def aBN (S:Sc)(s:St):Ck Unit:=
 if aU s.h.nm=false then .no 120 s.h.ps
 else if(S.find s.h.nm).isSome=true∨s.h.nm∈S.loops then .no 121 s.h.ps
 else if 16≤s.h.hi-s.h.lo∨2≤S.loops.length then .no 123 s.h.ps
 else cP (fun i=>(s.t i).ck aU (S.inner s.h.nm)) s.h.ts.n
theorem aCR (s:St)(ih:RfB s.h.ts s.t)(B:Nat)(S:Sc)(sd sl:Sl)(w:World)(hs:sd.n=S.n)(hD:gF B w sd S.d)(hL:nQ B w sl S.loops)(hX:s.In B w)(hB:B≤w.heap.size)(hw:s.wt≤1000000)(hll:S.loops.length≤2) :
  Calls Tryz.prog 46 #[scV sd sl S.init,stv s.h s.e.h] w fun r w'=>r=unW (aBN S s)∧Below w.heap.size w w':=by
 obtain⟨Z,hZ⟩:∃Z,aBN S s=Z:=⟨_,rfl⟩;have HZ:Hid (aBN S s=Z):=hZ;rw[hZ];clear hZ;have hnm:s.h.nm.length≤1000000:=by have:=St.wt_eq s;omega
 have FN:=Hj fun w1 (hb:Below w.heap.size w w1)=>lY B sd sl S.init S.d s.h.nm w1 (hD.below hb hB) (aF hB hb.size);have LN:=Hj fun w1 (hb:Below w.heap.size w w1)=>pA B sd sl S.init S.loops s.h.nm w1 (hL.below hb hB) (aF hB hb.size);have IN:Hid (∀w1,Calls Tryz.prog 40 #[.string ⟨s.h.nm.toArray⟩] w1 fun r w'=>r=.returned (.bool (aU s.h.nm))∧w1=w'):=fun w1=>tC ⟨s.h.nm.toArray⟩ w1 (by rw[Lib.size_eq];exact aF hnm (by decide));have HLP:=Hj fun w1 (hb:Below w.heap.size w w1)=>hL.below hb hB;have hlo0:=hX.ok.lo0;have hlo1:=hX.ok.lo1;have hhi0:=hX.ok.hi0;have hhi1:=hX.ok.hi1;have HLN:Hid (sl.n=S.loops.length):=hL.2.2
 have ST:=Hj fun w1 (hb:Below w.heap.size w w1) (sl':Sl) (hl':nQ w1.heap.size w1 sl' (S.loops++[s.h.nm])) (h2:S.loops.length<2)=>
  ih w1.heap.size (S.inner s.h.nm) sd sl' w1 hs (hD.mono (bA hb hB) (aF hB hb.size)) hl' ((hX.ts).mono (bA hb hB) (aF hB hb.size)) (aD _) (by have:=St.wt_eq s;omega) (by show(S.loops++[s.h.nm]).length≤2;rw[List.length_append];show S.loops.length+1≤2;omega)
 have HS:=Hj hs;clear hD hL hX hB hw hs ih hnm;unfold scV at FN LN;have GS1:=Hj (cD w (scO sd sl S.init));have B1:=Hj (bS (Below.refl w.heap.size w) (aD _) (scO sd sl S.init));have S1:Hid ((bx w (scO sd sl S.init)).heap.size=w.heap.size+1):=cJ _ _;show Calls Tryz.prog 46 #[.agg #[.slice sd.ao sd.n sd.c,.slice sl.ao sl.n sl.c,.bool S.init],.agg #[.int .u8 s.h.kd,.int .i64 s.h.ps,.string ⟨s.h.nm.toArray⟩,.slice s.h.xs.ao s.h.xs.n s.h.xs.c,.int .u8 s.e.h.op,.int .i64 s.e.h.ps,.bool s.e.h.bo,.int .i32 s.e.h.it,.int .u64 s.e.h.fl,.string ⟨s.e.h.nm.toArray⟩,.slice s.e.h.s.ao s.e.h.s.n s.e.h.s.c,.int .i32 s.h.lo,.int .i32 s.h.hi,.slice s.h.ts.ao s.h.ts.n s.h.ts.c,.slice s.h.es.ao s.h.es.n s.h.es.c]] w _;go_enter Tryz.func46,Tryz.ntmps46;go_upto_region 1 with fail;rw[tV w sd sl S.init];generalize bx w (scO sd sl S.init)=w1 at *;have GX2:=cD w1 (sO s.h s.e.h);rw[S1.out]at GX2;have GS2:=Hj (aV (aY w1 (sO s.h s.e.h)) GS1.out);have B2:=Hj (bS B1.out (aD _) (sO s.h s.e.h));have S2:Hid ((bx w1 (sO s.h s.e.h)).heap.size=w.heap.size+1+1):=(cJ _ _).trans (by rw[S1.out]);change Hid ((bx w1 (sO s.h s.e.h)).heap[w.heap.size]? = _)at GS2;rw[aCj w1 s.h s.e.h]
 generalize bx w1 (sO s.h s.e.h)=w2 at *;have GR:Hid (Blk (w2.alloc (.cells #[.int .i64 0,.int .i64 0] 32)) (w.heap.size+1+1) 32 (wrA 0 0)):=by rw[←S2.out];exact Blk.new _ _ _
 have GS:=Hj (aV (aY w2 (.cells #[.int .i64 0,.int .i64 0] 32)) GS2.out);have GX:=Hj (aV (aY w2 (.cells #[.int .i64 0,.int .i64 0] 32)) GX2);have BZ:=Hj (aI B2.out (.cells #[.int .i64 0,.int .i64 0] 32));clear GS1 B1 S1 GS2 GX2 B2 S2;change (Code.region 1 _ _).wp _ _ _ (w2.alloc (.cells #[.int .i64 0,.int .i64 0] 32));generalize w2.alloc (.cells #[.int .i64 0,.int .i64 0] 32)=w3 at *;have TC:=bX GX.out;have c1:=TC.c1;have c2:=TC.c2;have c11:=TC.c11;have c12:=TC.c12;have c13:=TC.c13;clear TC;go_wp2_with fail;refine(IN.out _).mono ?_;rintro r w4 ⟨rfl,e4⟩;rw[←e4];clear e4 w4 IN
 cases hnam:aU s.h.nm with
 | false=>
  have E:Hid (Z=.no 120 s.h.ps):=by show Z=_;rw[←HZ.out];unfold aBN;rw[if_pos hnam]
  clear HZ hnam ST
  go_wp2_with (first|refine dR 120 s.h.ps (w.heap.size+1+1) _ GR.out rfl rfl _ _ rfl rfl rfl ?_)
  exact bodyPost_ret (jE rfl _ _ (w.heap.size+1+1) 120 s.h.ps rfl (GR.out.rowS _)) rfl ⟨gG E.out,aR BZ.out (aD _) (by omega) _⟩
 | true=>
  have LZ:Hid (Z=if(S.find s.h.nm).isSome=true∨s.h.nm∈S.loops then .no 121 s.h.ps else if 16≤s.h.hi-s.h.lo∨2≤S.loops.length then .no 123 s.h.ps else cP (fun i=>(s.t i).ck aU (S.inner s.h.nm)) s.h.ts.n):=by
   show Z=_;rw[←HZ.out];unfold aBN;rw[if_neg (by rw[hnam];decide)]
  clear HZ hnam;obtain⟨s0,s1,s2⟩:=cK GS.out;go_wp2_with fail;refine(FN.out _ BZ.out).mono ?_;rintro r w4 ⟨rfl,b4⟩;clear FN s0 s1 s2 c1 c2 c11 c12 c13;have GSn:=Hj (aV b4 GS.out);have GXn:=Hj (aV b4 GX.out);have GRn:=Hj (GR.out.below b4 GR.out.lt);have BZn:=Hj (aG BZ.out b4);clear GS GX GR BZ b4;have GS:=Hj GSn.out;have GX:=Hj GXn.out;have GR:=Hj GRn.out;have BZ:=Hj BZn.out;clear GSn GXn GRn BZn;obtain⟨s0,s1,s2⟩:=cK GS.out;have TC:=bX GX.out;have c1:=TC.c1;have c2:=TC.c2;have c11:=TC.c11;have c12:=TC.c12;have c13:=TC.c13;clear TC
  cases hf:fd S.d s.h.nm sd.n with
  | some i=>
   have E:Hid (Z=.no 121 s.h.ps):=by
    show Z=_;rw[HS.out]at hf;rw[LZ.out,if_pos (.inl (by unfold Sc.find;rw[hf];rfl))]
   have z2:(0:Int)≤(i:Int):=by omega
   dsimp only[ixV];clear LZ hf ST
   go_wp2_with (first|refine dR 121 s.h.ps (w.heap.size+1+1) _ GR.out rfl rfl _ _ rfl rfl rfl ?_)
   exact bodyPost_ret (jE rfl _ _ (w.heap.size+1+1) 121 s.h.ps rfl (GR.out.rowS _)) rfl ⟨gG E.out,aR BZ.out (aD _) (by omega) _⟩
  | none=>
   dsimp only[ixV]
   have LZ2:Hid (Z=if s.h.nm∈S.loops then .no 121 s.h.ps else if 16≤s.h.hi-s.h.lo∨2≤S.loops.length then .no 123 s.h.ps else cP (fun i=>(s.t i).ck aU (S.inner s.h.nm)) s.h.ts.n):=by
    show Z=_;rw[HS.out]at hf;rw[LZ.out]
    by_cases c:s.h.nm∈S.loops
    ·rw[if_pos (.inr c),if_pos c]
    ·rw[if_neg (fun h=>by
      rcases h with h|h
      ·unfold Sc.find at h;rw[hf]at h;cases h
      ·exact c h),if_neg c]
   clear LZ hf;go_wp2_with fail;refine(LN.out _ BZ.out).mono ?_;rintro r w5 ⟨rfl,b5⟩;clear LN s0 s1 s2 c1 c2 c11 c12 c13;have GSn:=Hj (aV b5 GS.out);have GXn:=Hj (aV b5 GX.out);have GRn:=Hj (GR.out.below b5 GR.out.lt);have BZn:=Hj (aG BZ.out b5);clear GS GX GR BZ b5;have GS:=Hj GSn.out;have GX:=Hj GXn.out;have GR:=Hj GRn.out;have BZ:=Hj BZn.out;clear GSn GXn GRn BZn;obtain⟨s0,s1,s2⟩:=cK GS.out;have TC:=bX GX.out;have c1:=TC.c1;have c2:=TC.c2;have c11:=TC.c11;have c12:=TC.c12;have c13:=TC.c13;clear TC
   by_cases hlo:s.h.nm∈S.loops
   case pos=>
    have E:Hid (Z=.no 121 s.h.ps):=by show Z=_;rw[LZ2.out,if_pos hlo]
    rw[decide_eq_true hlo];clear LZ2 hlo ST
    go_wp2_with (first|refine dR 121 s.h.ps (w.heap.size+1+1) _ GR.out rfl rfl _ _ rfl rfl rfl ?_)
    exact bodyPost_ret (jE rfl _ _ (w.heap.size+1+1) 121 s.h.ps rfl (GR.out.rowS _)) rfl ⟨gG E.out,aR BZ.out (aD _) (by omega) _⟩
   case neg=>
    have LZ3:Hid (Z=if 16≤s.h.hi-s.h.lo∨2≤S.loops.length then .no 123 s.h.ps else cP (fun i=>(s.t i).ck aU (S.inner s.h.nm)) s.h.ts.n):=by show Z=_;rw[LZ2.out,if_neg hlo]
    rw[decide_eq_false hlo];clear LZ2 hlo;have o1:IntKind.i64.wrap s.h.hi=s.h.hi:=by rw[IntKind.wrap_i64];omega
    have o2:IntKind.i64.wrap s.h.lo=s.h.lo:=by rw[IntKind.wrap_i64];omega
    have o3:IntKind.i64.wrap (s.h.hi-s.h.lo)=s.h.hi-s.h.lo:=by rw[IntKind.wrap_i64];omega
    by_cases h16:16≤s.h.hi-s.h.lo
    case pos=>
     have E:Hid (Z=.no 123 s.h.ps):=by show Z=_;rw[LZ3.out,if_pos (.inl h16)]
     clear LZ3 ST
     go_wp2_with (first|refine dR 123 s.h.ps (w.heap.size+1+1) _ GR.out rfl rfl _ _ rfl rfl rfl ?_)
     exact bodyPost_ret (jE rfl _ _ (w.heap.size+1+1) 123 s.h.ps rfl (GR.out.rowS _)) rfl ⟨gG E.out,aR BZ.out (aD _) (by omega) _⟩
    case neg=>
     by_cases h2:2≤S.loops.length
     case pos=>
      have E:Hid (Z=.no 123 s.h.ps):=by show Z=_;rw[LZ3.out,if_pos (.inr h2)]
      have z3:(2:Int)≤(sl.n:Int):=by have:=HLN.out;omega
      clear LZ3 ST
      go_wp2_with (first|refine dR 123 s.h.ps (w.heap.size+1+1) _ GR.out rfl rfl _ _ rfl rfl rfl ?_)
      exact bodyPost_ret (jE rfl _ _ (w.heap.size+1+1) 123 s.h.ps rfl (GR.out.rowS _)) rfl ⟨gG E.out,aR BZ.out (aD _) (by omega) _⟩
     case neg=>
      have E:Hid (Z=cP (fun i=>(s.t i).ck aU (S.inner s.h.nm)) s.h.ts.n):=by show Z=_;rw[LZ3.out,if_neg (fun h=>h.elim h16 h2)]
      have z3:¬(2:Int)≤(sl.n:Int):=by have:=HLN.out;omega
      have H2:Hid (S.loops.length<2):=by show _<_;omega
      have HSN:Hid (sl.n≤100000):=by have:=HLN.out;show _≤_;omega
      clear LZ3
      go_upto_region 10 with(at_builtin;refine rJ rfl _ _ rfl B sl S.loops rfl rfl (HLP.out _ BZ.out) HSN.out ?_;intro v7 w7 own7 b7)
      obtain⟨A7,c7,rfl⟩:=nW own7;have OW7:=Hj own7;have B57:=Hj b7;have s0':=(cK (aV b7 GS.out)).1;have c2':=(bX (aV b7 GX.out)).c2;clear own7 s0 s1 s2 c1 c2 c11 c12 c13 o1 o2 o3 h16 h2 z3 hlo0 hlo1 hhi0 hhi1 b7 s0';obtain⟨i0,hi,hz0,hz1,hz2⟩:=info_parts vK;have HI0:=Hj (And.intro hi (And.intro hz0 (And.intro hz1 hz2)));clear hi hz0 hz1 hz2
      go_upto_region 11 with(at_builtin;refine wpList_append_own _ rfl _ _ 71 rfl w5.heap.size 9 i0 (.string ⟨#[]⟩) 1 16 Tryz.underlying71 HI0.out.1 HI0.out.2.1 HI0.out.2.2.1 HI0.out.2.2.2 rfl (by decide) _ sl.n _ rfl (OW7.out.alloc _) ⟨w7.heap.size,0,none⟩ 1 1 [_] rfl rfl (cell_one_new _ _ _) ?c2 ?c3 ?c4 ?c5 ?_)
      case c2=>intro u hu;simp at hu;subst hu;rfl
      case c3=>have:=HSN.out;unfold maxLen;omega
      case c4=>have:=HSN.out;omega
      case c5=>have:=B57.out.size;simp;omega
      intro v' w8 own' hgrow hnil;clear hnil c2';have b8:Below w5.heap.size w5 w8:=pF (aI B57.out _) (aI B57.out _).size (OW7.out.alloc _) hgrow
      have own2:w8.ownsRow w5.heap.size 9 1 v' (sl.n+1) (uD (S.loops++[s.h.nm])):=by
       unfold uD;rw[List.map_append];exact own'
      obtain⟨S8,rfl,hlp⟩:=aLE own2;have HLP8:=Hj hlp;clear own' own2 hgrow hlp OW7 B57 HLP HI0;have GSn:=Hj (aV b8 GS.out);have GXn:=Hj (aV b8 GX.out);have GRn:=Hj (GR.out.below b8 GR.out.lt);have BZn:=Hj (aG BZ.out b8);clear GS GX GR BZ b8;have GS:=Hj GSn.out;have GX:=Hj GXn.out;have GR:=Hj GRn.out;have BZ:=Hj BZn.out;clear GSn GXn GRn BZn;obtain⟨s0,s1,s2⟩:=cK GS.out;have c13:=(bX GX.out).c13
      have SC:Hid (Calls Tryz.prog 25 #[.agg #[.slice sd.ao sd.n sd.c,.slice S8.ao S8.n S8.c,.bool S.init],.slice s.h.ts.ao s.h.ts.n s.h.ts.c] w8 fun r w'=>r=unW Z∧Below w8.heap.size w8 w'):=by
       show Calls _ _ _ _ _;rw[E.out];exact ST.out w8 BZ.out S8 HLP8.out H2.out
      clear ST HLP8;go_wp2_with fail;refine SC.out.mono ?_;rintro r w9 ⟨rfl,b9⟩;have GR9:=Hj (GR.out.below b9 GR.out.lt);have BZ9:=Hj (aG BZ.out b9);clear b9 SC s0 s1 s2 c13;dsimp only[unW]
      go_wp2_with (refine dR Z.er Z.pl (w.heap.size+1+1) _ GR9.out rfl rfl _ _ rfl rfl rfl ?_)
      exact bodyPost_ret (jE rfl _ _ (w.heap.size+1+1) Z.er Z.pl rfl (GR9.out.rowS _)) rfl ⟨rfl,aR BZ9.out (aD _) (by omega) _⟩
end Go.Proofs.YtkbicfffokegeaaGreatDoor
