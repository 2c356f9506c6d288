/-
  Whatever program is handed in, CheckChecks answers true. (part 23 of 38) Conditions: none beside what the card ties.
-/
import Derived.Test.YtkbicfffokegeaaGreatDoorCas
import Derived.Test.YtkbicfffokegeaaGreatDoorCav
namespace Go.Proofs.YtkbicfffokegeaaGreatDoor
set_option maxHeartbeats 16000000
open Go.RowKit
set_option maxRecDepth 100000
theorem oQ {r:Ck Int}{c p:Int}(h:r=.no c p):Ending.returned (.tuple #[.int .u8 0,.agg #[.int .i64 c,.int .i64 p]])=xpE r:=by rw[h];rfl
theorem aAZ {r:Ck Int}{t:Int}(h:r=.ok t):Ending.returned (.tuple #[.int .u8 t,.agg #[.int .i64 0,.int .i64 0]])=xpE r:=by rw[h];rfl
def RxX (B:Nat)(S:Sc)(sd sl:Sl)(e:Ex):Prop:=∀w,gF B w sd S.d→nQ B w sl S.loops→e.In B w→B≤w.heap.size→e.wt≤1000000→Calls Tryz.prog 45 #[scV sd sl S.init,e.h.v] w fun r w'=>r=xpE (e.ck S)∧Below w.heap.size w w'
theorem aFd (B:Nat)(S:Sc)(sd sl:Sl)(hs:sd.n=S.n)(h:EH)(k:Nat→Ex)(ih:∀i,i<h.s.n→RxX B S sd sl (k i))(w:World)(hD:gF B w sd S.d)(hL:nQ B w sl S.loops)(hX:gE B w h.s k)(hB:B≤w.heap.size)(hw:sm (fun i=>(k i).wt) h.s.n≤1000000) :
  Calls Tryz.prog 70 #[scV sd sl S.init,h.v] w fun r w'=>r=xpE ((S.look h.nm h.ps).bind fun tl=>mP tl.1 tl.2 h.s.n h.ps ((k 0).ck S))∧Below w.heap.size w w':=by
 obtain⟨op,ps,bo,it,fl,nm,⟨sa,sn,sc⟩⟩:=h;dsimp only at *;obtain⟨Z,hZ⟩:∃Z,((S.look nm ps).bind fun tl=>mP tl.1 tl.2 sn ps ((k 0).ck S))=Z:=⟨_,rfl⟩;rw[hZ];have HZ:=Hj hZ;clear hZ;have CX:=Hj fun(h0:0<sn) w1 (hb:Below w.heap.size w w1)=>ih 0 h0 w1 (hD.below hb hB) (hL.below hb hB) ((hX.2.2 0 h0).below hb hB) (aF hB hb.size) (by have:=iD (f:=fun i=>(k i).wt) h0;have e0:sm (fun i=>(k i).wt) 0=0:=rfl;omega);have FN:=Hj fun w1 (hb:Below w.heap.size w w1)=>lY B sd sl S.init S.d nm w1 (hD.below hb hB) (aF hB hb.size);have LN:=Hj fun w1 (hb:Below w.heap.size w w1)=>pA B sd sl S.init S.loops nm w1 (hL.below hb hB) (aF hB hb.size);have HD:=Hj fun w1 (hb:Below w.heap.size w w1)=>hD.below hb hB;have HBB:=Hj hB;have HX:=Hj fun w1 (hb:Below w.heap.size w w1)=>hX.below hb hB;have NZ:=Hj (Ex.ck_nz S (k 0));have HS:=Hj hs;clear ih hD hL hX hB hw hs;unfold scV at FN LN;generalize (k 0).ck S=Y at *;have GS1:=Hj (cD w (scO sd sl S.init));have B1:=Hj (bS (Below.refl w.heap.size w) (aD _) (scO sd sl S.init));have S1:Hid ((bx w (scO sd sl S.init)).heap.size=w.heap.size+1):=cJ _ _
 show Calls Tryz.prog 70 #[.agg #[.slice sd.ao sd.n sd.c,.slice sl.ao sl.n sl.c,.bool S.init],.agg #[.int .u8 op,.int .i64 ps,.bool bo,.int .i32 it,.int .u64 fl,.string ⟨nm.toArray⟩,.slice sa sn sc]] w _;go_enter Tryz.func70,Tryz.ntmps70;go_upto_region 3 with fail;rw[tV w sd sl S.init];generalize bx w (scO sd sl S.init)=w1 at *;have GX2:=cD w1 (xO ⟨op,ps,bo,it,fl,nm,⟨sa,sn,sc⟩⟩);rw[S1.out]at GX2;have GS2:=Hj (aV (aY w1 (xO ⟨op,ps,bo,it,fl,nm,⟨sa,sn,sc⟩⟩)) GS1.out);have B2:=Hj (bS B1.out (aD _) (xO ⟨op,ps,bo,it,fl,nm,⟨sa,sn,sc⟩⟩));have S2:Hid ((bx w1 (xO ⟨op,ps,bo,it,fl,nm,⟨sa,sn,sc⟩⟩)).heap.size=w.heap.size+1+1):=(cJ _ _).trans (by rw[S1.out]);change Hid ((bx w1 (xO ⟨op,ps,bo,it,fl,nm,⟨sa,sn,sc⟩⟩)).heap[w.heap.size]? = _)at GS2;rw[kY w1 ⟨op,ps,bo,it,fl,nm,⟨sa,sn,sc⟩⟩];generalize bx w1 (xO ⟨op,ps,bo,it,fl,nm,⟨sa,sn,sc⟩⟩)=w2 at *;have GR:Hid (Blk (w2.alloc (.cells #[.int .i64 0,.int .i64 0] 32)) (w.heap.size+1+1) 32 (wrA 0 0)):=by rw[←S2.out];exact Blk.new _ _ _
 have GS:=Hj (aV (aY w2 (.cells #[.int .i64 0,.int .i64 0] 32)) GS2.out);have GX:=Hj (aV (aY w2 (.cells #[.int .i64 0,.int .i64 0] 32)) GX2);have BZ:=Hj (aI B2.out (.cells #[.int .i64 0,.int .i64 0] 32));clear GS1 B1 S1 GS2 GX2 B2 S2;change (Code.region 3 _ _).wp _ _ _ (w2.alloc (.cells #[.int .i64 0,.int .i64 0] 32));generalize w2.alloc (.cells #[.int .i64 0,.int .i64 0] 32)=w3 at *;obtain⟨s0,s1,s2⟩:=cK GS.out;have x5:=(bK GX.out).2.2.2.2.2.1;dsimp only at x5;go_wp2_with fail;refine(LN.out _ BZ.out).mono ?_;rintro r w4 ⟨rfl,b4⟩;clear LN s0 s1 s2 x5;have GSn:=Hj (aV b4 GS.out);have GXn:=Hj (aV b4 GX.out);have GRn:=Hj (GR.out.below b4 GR.out.lt);have BZn:=Hj (aG BZ.out b4);clear GS GX GR BZ b4;have GS:=Hj GSn.out;have GX:=Hj GXn.out;have GR:=Hj GRn.out;have BZ:=Hj BZn.out;clear GSn GXn GRn BZn
 by_cases hlo:nm∈S.loops
 case pos=>
  rw[decide_eq_true hlo]
  have HE:Hid (Z=if sn=0 then .ok 2 else .no 125 ps):=by
   show Z=_;rw[←HZ.out];unfold Sc.look;rw[if_pos hlo];rfl
  clear FN HZ HD hlo CX;have x6:=(bK GX.out).2.2.2.2.2.2;dsimp only at x6
  by_cases hn:sn=0
  case pos=>
   subst hn;have E:Hid (Z=.ok 2):=HE.out;clear HE;have r0:w4.cell? ⟨w.heap.size+1+1,0,none⟩=some (.int .i64 0):=GR.out.cell 0;have r1:w4.cell? ⟨w.heap.size+1+1,1,none⟩=some (.int .i64 0):=GR.out.cell 1;have y0:=GR.out.frozen 0;have y1:=GR.out.frozen 1;go_wp2_with fail;exact bodyPost_ret (bP rfl _ _ (w.heap.size+1+1) (.int .u8 2) 0 0 rfl rfl ((GR.out.set_ 0 (.int .i64 0)).set_ 1 (.int .i64 0))) rfl ⟨aAZ E.out,Below.setCell (Below.setCell BZ.out (p:=⟨(w.heap.size+1+1),0,none⟩) (by show w.heap.size≤w.heap.size+1+1;omega) _) (p:=⟨(w.heap.size+1+1),1,none⟩) (by show w.heap.size≤w.heap.size+1+1;omega) _⟩
  case neg=>
   have E:Hid (Z=.no 125 ps):=by rw[if_neg hn]at HE;exact HE
   have hb:((sn:Int) != 0)=true:=by simp;omega
   clear HE hn;go_upto_region 13 with fail;have KG:Hid (∀w',Kp (w.heap.size+1+1) w4 w'→(w'.cell? ⟨w.heap.size+1,1,none⟩=some (.int .i64 ps))):=fun w' hw=>(bK (bH hw (by omega) GX.out)).2.1;refine aL (S:=fun w'=>w'.cell? ⟨w.heap.size+1,1,none⟩=some (.int .i64 ps)) _ [(0,true),(1,true),(2,true),(3,true),(4,false)] (by kernel_rfl) (by kernel_rfl) rfl (by kernel_rfl) (by kernel_rfl) (fun _ _ d _ _ h=>by cases d<;>exact h) (KG.out _ (kp0 _ _)) ?_
   iterate 4
    refine Walk.take (v:=?_) rfl (by rfl) ?_ ?_;rotate_left
    ·(intro w' hSw;(try dsimp only at hSw);go_simp<;>with_reducible rfl)
    try simp only[Act.put,aA,aC,aB]
   refine Walk.act rfl (by rfl) (fun K hK=>?_);refine cO 125 ps (w.heap.size+1+1) _ GR.out.drew rfl _ _ rfl rfl rfl ?_;refine hK.out _ _ (KG.out _ (kp1 _ _ _)) ?_;clear hK K;try simp only[Act.put]
   refine Walk.done ?_;go_wp2_with fail;exact bodyPost_ret (bP rfl _ _ (w.heap.size+1+1) (.int .u8 0) 125 ps rfl rfl (Blk.rowS GR.out.drew _)) rfl ⟨oQ E.out,aR (aH BZ.out) (aD _) (by omega) _⟩
 case neg=>
  rw[decide_eq_false hlo];obtain⟨s0,s1,s2⟩:=cK GS.out;have x5:=(bK GX.out).2.2.2.2.2.1;dsimp only at x5;go_wp2_with fail;refine(FN.out _ BZ.out).mono ?_;rintro r w5 ⟨rfl,b5⟩;clear FN s0 s1 s2 x5;have GSn:=Hj (aV b5 GS.out);have GXn:=Hj (aV b5 GX.out);have GRn:=Hj (GR.out.below b5 GR.out.lt);have BZn:=Hj (aG BZ.out b5);clear GS GX GR BZ b5;have GS:=Hj GSn.out;have GX:=Hj GXn.out;have GR:=Hj GRn.out;have BZ:=Hj BZn.out;clear GSn GXn GRn BZn;clear w4;have HLO:=Hj hlo;clear hlo
  cases hf:fd S.d nm sd.n with
  | none=>
   have E:Hid (Z=.no 120 ps):=by
    show Z=_;rw[HS.out]at hf;rw[←HZ.out];unfold Sc.look Sc.find;rw[if_neg HLO.out,hf];rfl
   clear HZ HD CX hf;dsimp only[ixV];go_upto_region 7 with fail;have KG:Hid (∀w',Kp (w.heap.size+1+1) w5 w'→(w'.cell? ⟨w.heap.size+1,1,none⟩=some (.int .i64 ps))):=fun w' hw=>(bK (bH hw (by omega) GX.out)).2.1;refine aL (S:=fun w'=>w'.cell? ⟨w.heap.size+1,1,none⟩=some (.int .i64 ps)) _ [(0,true),(1,true),(2,true),(3,true),(4,false)] (by kernel_rfl) (by kernel_rfl) rfl (by kernel_rfl) (by kernel_rfl) (fun _ _ d _ _ h=>by cases d<;>exact h) (KG.out _ (kp0 _ _)) ?_
   iterate 4
    refine Walk.take (v:=?_) rfl (by rfl) ?_ ?_;rotate_left
    ·(intro w' hSw;(try dsimp only at hSw);go_simp<;>with_reducible rfl)
    try simp only[Act.put,aA,aC,aB]
   refine Walk.act rfl (by rfl) (fun K hK=>?_);refine cO 120 ps (w.heap.size+1+1) _ GR.out.drew rfl _ _ rfl rfl rfl ?_;refine hK.out _ _ (KG.out _ (kp1 _ _ _)) ?_;clear hK K;try simp only[Act.put]
   refine Walk.done ?_;go_wp2_with fail;exact bodyPost_ret (bP rfl _ _ (w.heap.size+1+1) (.int .u8 0) 120 ps rfl rfl (Blk.rowS GR.out.drew _)) rfl ⟨oQ E.out,aR (aH BZ.out) (aD _) (by omega) _⟩
  | some i=>
   dsimp only[ixV];have hi:=(zM hf).1
   have LK:Hid (S.look nm ps=if S.init=true∧(S.d i).inp=true then .no 124 ps else .ok ((S.d i).ty,(S.d i).len)):=by
    show S.look nm ps=_;rw[HS.out]at hf;unfold Sc.look Sc.find;rw[if_neg HLO.out,hf]
   clear hf;obtain⟨s0,s1,s2⟩:=cK GS.out;obtain⟨ao,n,cc⟩:=sd;dsimp only at *;obtain⟨a,b',o,rfl,hA,hb,X, -⟩:=(HD.out _ BZ.out).at hi;have c1:=X.c1;have c3:=X.c3;have c4:=X.c4;have z0:(i:Int)<(n:Int):=by omega
   have z1:(0:Int)≤(i:Int):=by omega
   have z2:¬(i:Int)<0:=by omega
   clear hb X hi
   by_cases hbad:S.init=true∧(S.d i).inp=true
   case pos=>
    have E:Hid (Z=.no 124 ps):=by
     show Z=_;rw[←HZ.out,LK.out,if_pos hbad];rfl
    obtain⟨h1,h2⟩:=hbad;rw[h1]at s2;rw[h2]at c1;clear h1 h2 HZ HD CX LK;go_upto_region 9 with fail;have KG:Hid (∀w',Kp (w.heap.size+1+1) w5 w'→(w'.cell? ⟨w.heap.size+1,1,none⟩=some (.int .i64 ps))):=fun w' hw=>(bK (bH hw (by omega) GX.out)).2.1;refine aL (S:=fun w'=>w'.cell? ⟨w.heap.size+1,1,none⟩=some (.int .i64 ps)) _ [(0,true),(1,true),(2,true),(3,true),(4,false)] (by kernel_rfl) (by kernel_rfl) rfl (by kernel_rfl) (by kernel_rfl) (fun _ _ d _ _ h=>by cases d<;>exact h) (KG.out _ (kp0 _ _)) ?_
    iterate 4
     refine Walk.take (v:=?_) rfl (by rfl) ?_ ?_;rotate_left
     ·(intro w' hSw;(try dsimp only at hSw);go_simp<;>with_reducible rfl)
     try simp only[Act.put,aA,aC,aB]
    refine Walk.act rfl (by rfl) (fun K hK=>?_);refine cO 124 ps (w.heap.size+1+1) _ GR.out.drew rfl _ _ rfl rfl rfl ?_;refine hK.out _ _ (KG.out _ (kp1 _ _ _)) ?_;clear hK K;try simp only[Act.put]
    refine Walk.done ?_;go_wp2_with fail;exact bodyPost_ret (bP rfl _ _ (w.heap.size+1+1) (.int .u8 0) 124 ps rfl rfl (Blk.rowS GR.out.drew _)) rfl ⟨oQ E.out,aR (aH BZ.out) (aD _) (by omega) _⟩
   case neg=>
    have LO:Hid (Z=mP (S.d i).ty (S.d i).len sn ps Y):=by
     show Z=_;rw[←HZ.out,LK.out,if_neg hbad];rfl
    clear HZ HD LK;go_upto_region 8 with fail
    go_cut [36] (fun v wx=>v=.bool false∧wx=w5)
    case first=>
     by_cases h1:S.init=true
     case neg=>
      rw[Bool.not_eq_true]at h1;rw[h1]at s2;clear hbad h1;go_wp2_with fail;go_meet;exact⟨rfl,rfl⟩
     case pos=>
      have h2:(S.d i).inp=false:=by
       cases h2:(S.d i).inp with
       | false=>rfl
       | true=>exact absurd ⟨h1,h2⟩ hbad
      rw[h1]at s2;rw[h2]at c1;clear hbad h1 h2;go_wp2_with fail;go_meet;exact⟨rfl,rfl⟩
    case rest=>
     obtain⟨rfl,hwx⟩:=hcut;rw[hwx];clear hwx hbad c1;generalize (S.d i).ty=ty at *;generalize (S.d i).len=len at *;have x6:=(bK GX.out).2.2.2.2.2.2;dsimp only at x6
     by_cases hl:0<len
     case neg=>
      have hl2:len≤0:=by omega
      clear CX
      by_cases hn:sn=0
      case pos=>
       subst hn;have E:Hid (Z=.ok ty):=by show Z=_;rw[LO.out];unfold mP;rw[if_neg hl,if_pos rfl]
       clear LO;have r0:w5.cell? ⟨w.heap.size+1+1,0,none⟩=some (.int .i64 0):=GR.out.cell 0;have r1:w5.cell? ⟨w.heap.size+1+1,1,none⟩=some (.int .i64 0):=GR.out.cell 1;have y0:=GR.out.frozen 0;have y1:=GR.out.frozen 1;go_wp2_with fail;exact bodyPost_ret (bP rfl _ _ (w.heap.size+1+1) (.int .u8 ty) 0 0 rfl rfl ((GR.out.set_ 0 (.int .i64 0)).set_ 1 (.int .i64 0))) rfl ⟨aAZ E.out,Below.setCell (Below.setCell BZ.out (p:=⟨(w.heap.size+1+1),0,none⟩) (by show w.heap.size≤w.heap.size+1+1;omega) _) (p:=⟨(w.heap.size+1+1),1,none⟩) (by show w.heap.size≤w.heap.size+1+1;omega) _⟩
      case neg=>
       have E:Hid (Z=.no 125 ps):=by show Z=_;rw[LO.out];unfold mP;rw[if_neg hl,if_neg hn]
       have hb:((sn:Int) != 0)=true:=by simp;omega
       clear LO hn;go_upto_region 13 with fail;have KG:Hid (∀w',Kp (w.heap.size+1+1) w5 w'→(w'.cell? ⟨w.heap.size+1,1,none⟩=some (.int .i64 ps))):=fun w' hw=>(bK (bH hw (by omega) GX.out)).2.1;refine aL (S:=fun w'=>w'.cell? ⟨w.heap.size+1,1,none⟩=some (.int .i64 ps)) _ [(0,true),(1,true),(2,true),(3,true),(4,false)] (by kernel_rfl) (by kernel_rfl) rfl (by kernel_rfl) (by kernel_rfl) (fun _ _ d _ _ h=>by cases d<;>exact h) (KG.out _ (kp0 _ _)) ?_
       iterate 4
        refine Walk.take (v:=?_) rfl (by rfl) ?_ ?_;rotate_left
        ·(intro w' hSw;(try dsimp only at hSw);go_simp<;>with_reducible rfl)
        try simp only[Act.put,aA,aC,aB]
       refine Walk.act rfl (by rfl) (fun K hK=>?_);refine cO 125 ps (w.heap.size+1+1) _ GR.out.drew rfl _ _ rfl rfl rfl ?_;refine hK.out _ _ (KG.out _ (kp1 _ _ _)) ?_;clear hK K;try simp only[Act.put]
       refine Walk.done ?_;go_wp2_with fail;exact bodyPost_ret (bP rfl _ _ (w.heap.size+1+1) (.int .u8 0) 125 ps rfl rfl (Blk.rowS GR.out.drew _)) rfl ⟨oQ E.out,aR (aH BZ.out) (aD _) (by omega) _⟩
     case pos=>
      have hl2:¬len≤0:=by omega
      by_cases hn:sn=1
      case neg=>
       have E:Hid (Z=.no 125 ps):=by show Z=_;rw[LO.out];unfold mP;rw[if_pos hl,if_neg hn]
       have hb:((sn:Int) != 1)=true:=by simp;omega
       clear LO hn CX;go_upto_region 13 with fail;have KG:Hid (∀w',Kp (w.heap.size+1+1) w5 w'→(w'.cell? ⟨w.heap.size+1,1,none⟩=some (.int .i64 ps))):=fun w' hw=>(bK (bH hw (by omega) GX.out)).2.1;refine aL (S:=fun w'=>w'.cell? ⟨w.heap.size+1,1,none⟩=some (.int .i64 ps)) _ [(0,true),(1,true),(2,true),(3,true),(4,false)] (by kernel_rfl) (by kernel_rfl) rfl (by kernel_rfl) (by kernel_rfl) (fun _ _ d _ _ h=>by cases d<;>exact h) (KG.out _ (kp0 _ _)) ?_
       iterate 4
        refine Walk.take (v:=?_) rfl (by rfl) ?_ ?_;rotate_left
        ·(intro w' hSw;(try dsimp only at hSw);go_simp<;>with_reducible rfl)
        try simp only[Act.put,aA,aC,aB]
       refine Walk.act rfl (by rfl) (fun K hK=>?_);refine cO 125 ps (w.heap.size+1+1) _ GR.out.drew rfl _ _ rfl rfl rfl ?_;refine hK.out _ _ (KG.out _ (kp1 _ _ _)) ?_;clear hK K;try simp only[Act.put]
       refine Walk.done ?_;go_wp2_with fail;exact bodyPost_ret (bP rfl _ _ (w.heap.size+1+1) (.int .u8 0) 125 ps rfl rfl (Blk.rowS GR.out.drew _)) rfl ⟨oQ E.out,aR (aH BZ.out) (aD _) (by omega) _⟩
      case pos=>
       subst hn;have E1:Hid (Z=Y.bind fun u=>if u=2 then .ok ty else .no 122 ps):=by show Z=_;rw[LO.out];unfold mP;rw[if_pos hl,if_pos rfl]
       obtain⟨a2,b2,o2,ha2,hA2,hb2,X2, -⟩:=(HX.out _ BZ.out).at (i:=0) (Nat.lt_succ_self 0);dsimp only at ha2;subst ha2;obtain rfl:=aDN hA2;clear LO hA2;have IH:Hid (∀w',Below w5.heap.size w5 w'→Calls Tryz.prog 45 #[.agg #[.slice (some a) n cc,.slice sl.ao sl.n sl.c,.bool S.init],.agg #[.int .u8 (k 0).h.op,.int .i64 (k 0).h.ps,.bool (k 0).h.bo,.int .i32 (k 0).h.it,.int .u64 (k 0).h.fl,.string ⟨(k 0).h.nm.toArray⟩,.slice (k 0).h.s.ao (k 0).h.s.n (k 0).h.s.c]] w' fun r w''=>r=xpE Y∧Below w'.heap.size w' w''):=fun w' hb=>CX.out (Nat.lt_succ_self 0) w' (aG BZ.out hb)
       have KG:Hid (∀w',Below w5.heap.size w5 w'→(w'.cell? ⟨w.heap.size,0,none⟩=some (.slice (some a) n cc)∧w'.cell? ⟨w.heap.size,1,none⟩=some (.slice sl.ao sl.n sl.c)∧w'.cell? ⟨w.heap.size,2,none⟩=some (.bool S.init)∧w'.cell? ⟨w.heap.size+1,6,none⟩=some (.slice (some ⟨b2,o2,none⟩) 1 sc) ∧
         w'.cell? ⟨b2,o2,none⟩=some (.int .u8 (k 0).h.op)∧w'.cell? ⟨b2,o2+1,none⟩=some (.int .i64 (k 0).h.ps)∧w'.cell? ⟨b2,o2+2,none⟩=some (.bool (k 0).h.bo)∧w'.cell? ⟨b2,o2+3,none⟩=some (.int .i32 (k 0).h.it)∧w'.cell? ⟨b2,o2+4,none⟩=some (.int .u64 (k 0).h.fl)∧w'.cell? ⟨b2,o2+5,none⟩=some (.string ⟨(k 0).h.nm.toArray⟩)∧w'.cell? ⟨b2,o2+6,none⟩=some (.slice (k 0).h.s.ao (k 0).h.s.n (k 0).h.s.c))):=fun w' hb=>by
        obtain⟨q0,q1,q2⟩:=cK (aV hb GS.out);have X3:=X2.below hb2 hb (aF HBB.out BZ.out.size);exact⟨q0,q1,q2,(bK (aV hb GX.out)).2.2.2.2.2.2,X3.c0,X3.c1,X3.c2,X3.c3,X3.c4,X3.c5,X3.c6⟩
       clear CX X2 hb2;go_upto_region 15 with fail;clear s0 s1 s2 x6 hl hl2 c3 c4 z0 z1 z2 hA
       go_cut [10,11] (fun t v wx=>∃be:Nat,t=.int .u8 (Y.va 0)∧v=.pointer (some ⟨be,0,none⟩)∧Hid (Blk wx be 32 (wrA Y.er Y.pl))∧Hid (Below w5.heap.size w5 wx)∧Hid (w5.heap.size≤be))
       case first=>
        refine bY (S:=fun w'=>w'.cell? ⟨w.heap.size,0,none⟩=some (.slice (some a) n cc)∧w'.cell? ⟨w.heap.size,1,none⟩=some (.slice sl.ao sl.n sl.c)∧w'.cell? ⟨w.heap.size,2,none⟩=some (.bool S.init)∧w'.cell? ⟨w.heap.size+1,6,none⟩=some (.slice (some ⟨b2,o2,none⟩) 1 sc)∧w'.cell? ⟨b2,o2,none⟩=some (.int .u8 (k 0).h.op)∧w'.cell? ⟨b2,o2+1,none⟩=some (.int .i64 (k 0).h.ps)∧w'.cell? ⟨b2,o2+2,none⟩=some (.bool (k 0).h.bo)∧w'.cell? ⟨b2,o2+3,none⟩=some (.int .i32 (k 0).h.it)∧w'.cell? ⟨b2,o2+4,none⟩=some (.int .u64 (k 0).h.fl)∧w'.cell? ⟨b2,o2+5,none⟩=some (.string ⟨(k 0).h.nm.toArray⟩)∧w'.cell? ⟨b2,o2+6,none⟩=some (.slice (k 0).h.s.ao (k 0).h.s.n (k 0).h.s.c)) _ (.take 0 (.take 1 (.take 2 (.take 3 (.take 4 (.two 5 (.take 6 (.take 7 (.take 8 (.act 9 (.take 10 (.act 11 .done)))))) 9 (.act 5 (.take 6 (.take 7 (.take 8 (.take 10 (.act 11 .done)))))))))))) (by kernel_rfl) (by kernel_rfl) rfl (by kernel_rfl) (by kernel_rfl) (fun _ _ d _ _ h=>by cases d<;>exact h) (KG.out _ (aH (Below.refl _ _))) ?_
        iterate 5
         refine aN.take (v:=?_) rfl (by rfl) ?_ ?_;rotate_left
         ·(intro w' hSw;(try dsimp only at hSw);go_simp<;>with_reducible rfl)
         try simp only[Act.put,aA,aC,aB]
        refine⟨bF rfl (by rfl) (fun K hK=>?_),bF rfl (by rfl) (fun K hK=>?_)⟩
        ·go_simp
         go_at_call 45;refine(IH.out _ (aH (Below.refl _ _))).mono ?_;rintro r wc ⟨rfl,hbc⟩;dsimp only[xpE];have X1:Below w5.heap.size w5 wc:=aG (aH (Below.refl _ _)) hbc;refine hK.out _ _ (KG.out _ X1) ?_;clear hK K;try simp only[Act.put,aA,aC,aB]
         iterate 3
          refine aN.take (v:=?_) rfl (by rfl) ?_ ?_;rotate_left
          ·(intro w' hSw;(try dsimp only at hSw);go_simp<;>with_reducible rfl)
          try simp only[Act.put,aA,aC,aB]
         refine aN.act rfl (by rfl) (fun K hK=>?_);go_simp;refine hK.out _ _ (KG.out _ (aI X1 _)) ?_;clear hK K;try simp only[Act.put,aA,aC,aB]
         iterate 1
          refine aN.take (v:=?_) rfl (by rfl) ?_ ?_;rotate_left
          ·(intro w' hSw;(try dsimp only at hSw);go_simp<;>with_reducible rfl)
          try simp only[Act.put,aA,aC,aB]
         refine aN.act rfl (by rfl) (fun K hK=>?_);refine cO (Y).er (Y).pl wc.heap.size _ (Blk.new wc 32 (wrA 0 0)) rfl _ _ rfl rfl rfl ?_;have X2:=aR (aI X1 (.cells (wrA 0 0) 32 (0,0))) (aD _) X1.size (wrA (Y).er (Y).pl);refine hK.out _ _ (KG.out _ X2) ?_;clear hK K;try simp only[Act.put]
         refine aN.done ?_;go_wp2_with fail;go_meet;exact⟨_,rfl,rfl,((Blk.new wc 32 (wrA 0 0)).rowS _),X2,X1.size⟩
        ·go_simp
         refine hK.out _ _ (KG.out _ (aI (aH (Below.refl _ _)) _)) ?_;clear hK K;try simp only[Act.put,aA,aC,aB]
         refine aN.act rfl (by rfl) (fun K hK=>?_);go_simp;go_at_call 45;refine(IH.out _ (aI (aH (Below.refl _ _)) _)).mono ?_;rintro r wc ⟨rfl,hbc⟩;dsimp only[xpE];have X1:Below w5.heap.size w5 wc:=(by refine aG ?_ hbc;repeat (first|exact Below.refl _ _|refine aH ?_|refine aI ?_ _));have Kq:Blk wc w5.heap.size 32 (wrA 0 0):=(Blk.drew (Blk.new w5 32 (wrA 0 0))).below hbc (Blk.drew (Blk.new w5 32 (wrA 0 0))).lt;refine hK.out _ _ (KG.out _ X1) ?_;clear hK K;try simp only[Act.put,aA,aC,aB]
         iterate 4
          refine aN.take (v:=?_) rfl (by rfl) ?_ ?_;rotate_left
          ·(intro w' hSw;(try dsimp only at hSw);go_simp<;>with_reducible rfl)
          try simp only[Act.put,aA,aC,aB]
         refine aN.act rfl (by rfl) (fun K hK=>?_);refine cO (Y).er (Y).pl w5.heap.size _ Kq rfl _ _ rfl rfl rfl ?_;have X2:=aR X1 (aD _) (aD _) (wrA (Y).er (Y).pl);refine hK.out _ _ (KG.out _ X2) ?_;clear hK K;try simp only[Act.put]
         refine aN.done ?_;go_wp2_with fail;go_meet;exact⟨_,rfl,rfl,(Kq.rowS _),X2,(aD _)⟩
       case rest=>
        obtain⟨be,rfl,rfl,NB,bx5,HG⟩:=hcut;have b6:=bx5.out;have HG2:Hid (w.heap.size+1+1<be):=aE GR.out.lt HG.out;clear KG IH bx5 HG;have GSn:=Hj (aV b6 GS.out);have GXn:=Hj (aV b6 GX.out);have GRn:=Hj (GR.out.below b6 GR.out.lt);have BZn:=Hj (aG BZ.out b6);clear GS GX GR BZ b6;have GS:=Hj GSn.out;have GX:=Hj GXn.out;have GR:=Hj GRn.out;have BZ:=Hj BZn.out;clear GSn GXn GRn BZn
        cases Y with
        | no c q=>
         have hz:=NZ.out c q rfl;have E:Hid (Z=.no c q):=E1.out;have n0:wc.cell? ⟨be,0,none⟩=some (.int .i64 c):=NB.out.cell 0;have hb:(c != 0)=true:=by simp;omega
         clear E1 hz NZ;dsimp only[Ck.va];go_upto_region 17 with fail
         have KG:Hid (∀w',Kp (w.heap.size+1+1) wc w'→(w'.cell? ⟨be,0,none⟩=some (.int .i64 c)∧w'.cell? ⟨be,1,none⟩=some (.int .i64 q))):=fun w' hw=>by
          have N:=bH hw (by have:=HG2.out;omega) NB.out;exact⟨aK N 0,aK N 1⟩
         refine aL (S:=fun w'=>w'.cell? ⟨be,0,none⟩=some (.int .i64 c)∧w'.cell? ⟨be,1,none⟩=some (.int .i64 q)) _ [(0,true),(1,true),(2,false)] (by kernel_rfl) (by kernel_rfl) rfl (by kernel_rfl) (by kernel_rfl) (fun _ _ d _ _ h=>by cases d<;>exact h) (KG.out _ (kp0 _ _)) ?_
         iterate 2
          refine Walk.take (v:=?_) rfl (by rfl) ?_ ?_;rotate_left
          ·(intro w' hSw;(try dsimp only at hSw);go_simp<;>with_reducible rfl)
          try simp only[Act.put,aA,aC,aB]
         refine Walk.act rfl (by rfl) (fun K hK=>?_);refine cO c q (w.heap.size+1+1) _ GR.out.drew rfl _ _ rfl rfl rfl ?_;refine hK.out _ _ (KG.out _ (kp1 _ _ _)) ?_;clear hK K;try simp only[Act.put]
         refine Walk.done ?_;go_wp2_with fail;exact bodyPost_ret (bP rfl _ _ (w.heap.size+1+1) (.int .u8 0) c q rfl rfl (Blk.rowS GR.out.drew _)) rfl ⟨oQ E.out,aR (aH BZ.out) (aD _) (by omega) _⟩
        | ok u=>
         have n0:wc.cell? ⟨be,0,none⟩=some (.int .i64 0):=NB.out.cell 0;clear NZ;dsimp only[Ck.va]
         by_cases hu:u=2
         case pos=>
          subst hu;have E:Hid (Z=.ok ty):=E1.out;clear E1;have r0:wc.cell? ⟨w.heap.size+1+1,0,none⟩=some (.int .i64 0):=GR.out.cell 0;have r1:wc.cell? ⟨w.heap.size+1+1,1,none⟩=some (.int .i64 0):=GR.out.cell 1;have y0:=GR.out.frozen 0;have y1:=GR.out.frozen 1;go_wp2_with fail;exact bodyPost_ret (bP rfl _ _ (w.heap.size+1+1) (.int .u8 ty) 0 0 rfl rfl ((GR.out.set_ 0 (.int .i64 0)).set_ 1 (.int .i64 0))) rfl ⟨aAZ E.out,Below.setCell (Below.setCell BZ.out (p:=⟨(w.heap.size+1+1),0,none⟩) (by show w.heap.size≤w.heap.size+1+1;omega) _) (p:=⟨(w.heap.size+1+1),1,none⟩) (by show w.heap.size≤w.heap.size+1+1;omega) _⟩
         case neg=>
          have E:Hid (Z=.no 122 ps):=by show Z=_;rw[E1.out];show(if u=2 then _ else _)=_;rw[if_neg hu]
          have hb:(u != 2)=true:=by simp[hu]
          clear E1 hu;go_upto_region 19 with fail;have KG:Hid (∀w',Kp (w.heap.size+1+1) wc w'→(w'.cell? ⟨w.heap.size+1,1,none⟩=some (.int .i64 ps))):=fun w' hw=>(bK (bH hw (by omega) GX.out)).2.1;refine aL (S:=fun w'=>w'.cell? ⟨w.heap.size+1,1,none⟩=some (.int .i64 ps)) _ [(0,true),(1,true),(2,true),(3,true),(4,false)] (by kernel_rfl) (by kernel_rfl) rfl (by kernel_rfl) (by kernel_rfl) (fun _ _ d _ _ h=>by cases d<;>exact h) (KG.out _ (kp0 _ _)) ?_
          iterate 4
           refine Walk.take (v:=?_) rfl (by rfl) ?_ ?_;rotate_left
           ·(intro w' hSw;(try dsimp only at hSw);go_simp<;>with_reducible rfl)
           try simp only[Act.put,aA,aC,aB]
          refine Walk.act rfl (by rfl) (fun K hK=>?_);refine cO 122 ps (w.heap.size+1+1) _ GR.out.drew rfl _ _ rfl rfl rfl ?_;refine hK.out _ _ (KG.out _ (kp1 _ _ _)) ?_;clear hK K;try simp only[Act.put]
          refine Walk.done ?_;go_wp2_with fail;exact bodyPost_ret (bP rfl _ _ (w.heap.size+1+1) (.int .u8 0) 122 ps rfl rfl (Blk.rowS GR.out.drew _)) rfl ⟨oQ E.out,aR (aH BZ.out) (aD _) (by omega) _⟩
theorem mN {a b:Int}(h:a≠b):(a == b)=false:=by simp[h]
section
variable {ops:Array Oper} {rest:List Oper} {o:Oper} {a:Act} {w:World} {Q:Exit→Act→World→Prop}
theorem dR (c p:Int)(g:Nat)(old:Array Value)(hg:Blk w g 32 old)(hold:old.size=2)(hgd:o.guard=none)(x y:Operand)(ho:o.op=.store 32 x y)(hx:a.eval x=.pointer (some ⟨g,0,none⟩))(hy:a.eval y=.agg #[.int .i64 c,.int .i64 p])
  (h:wpList Tryz.prog ops Q rest (a.put o.dst undef) (w.setRow g (wrA c p))):wpList Tryz.prog ops Q (o::rest) a w:=
 wpList_store_row hgd 32 x y ho g (wrA c p) hx hy 32 old hg (by kernel_rfl) hold (by simp[wrA,Value.oneCell']) h
theorem zG (c p:Int)(g:Nat)(hg:Blk w g 32 (wrA c p))(hgd:o.guard=none)(x:Operand)(ho:o.op=.load 32 x)(hx:a.eval x=.pointer (some ⟨g,0,none⟩))
  (h:wpList Tryz.prog ops Q rest (a.put o.dst (.agg #[.int .i64 c,.int .i64 p])) w):wpList Tryz.prog ops Q (o::rest) a w:=
 wpList_load_row hgd 32 x ho g hx 32 (wrA c p) (0,0) _ hg Tryz.underlying32 rfl (by kernel_rfl) h
end
theorem aFe (B:Nat)(S:Sc)(sd sl:Sl)(hs:sd.n=S.n)(e:Ex)(ih:∀i,i<e.h.s.n→RxX B S sd sl (e.k i)):RxX B S sd sl e:=by
 intro w hD hL hX hB hw;have hw2:=hw;rw[Ex.wt_eq]at hw2;have HN:Hid (e.h.s.n≤1000000):=by have h1:=aGd e.k e.h.s.n;show _≤_;omega
 have NMo:=Hj fun w1 (hb:Below w.heap.size w w1)=>aFd B S sd sl hs e.h e.k ih w1 (hD.below hb hB) (hL.below hb hB) ((hX.below hb hB).xs) (aF hB hb.size) (by omega);have IH:=Hj fun i (hi:i<e.h.s.n) w1 (hb:Below w.heap.size w w1)=>ih i hi w1 (hD.below hb hB) (hL.below hb hB) ((hX.below hb hB).xs.2.2 i hi) (aF hB hb.size) (by have:=iD (f:=fun i=>(e.k i).wt) hi;omega);have HX:=Hj fun w1 (hb:Below w.heap.size w w1)=>(hX.below hb hB).xs;have HBB:=Hj hB;have NZ:=Hj fun i=>Ex.ck_nz S (e.k i);have HFL:=Hj hX.ok.fl;obtain⟨Z,hZ⟩:∃Z,e.ck S=Z:=⟨_,rfl⟩;rw[hZ];have HZ:Hid (Z=if e.h.op=4 then(S.look e.h.nm e.h.ps).bind fun tl=>mP tl.1 tl.2 e.h.s.n e.h.ps ((e.k 0).ck S) else(cks (fun i=>(e.k i).ck S) e.h.s.n).bind fun l=>if bM e.h.op l=0 then .no 122 e.h.ps else if e.h.op=3∧aBT e.h.fl=false then .no 123 e.h.ps else .ok (bM e.h.op l)):=by show Z=_;rw[←hZ];exact Ex.ck_eq S e
 obtain⟨i0,hi,hz0,hz1,hz2⟩:=info_parts aDU;have HI0:=Hj (And.intro hi (And.intro hz0 (And.intro hz1 hz2)));clear hi hz0 hz1 hz2 hw2 hZ ih hD hL hX hB hw hs;have GS1:=Hj (cD w (scO sd sl S.init));have B1:=Hj (bS (Below.refl w.heap.size w) (aD _) (scO sd sl S.init));have S1:Hid ((bx w (scO sd sl S.init)).heap.size=w.heap.size+1):=cJ _ _;show Calls Tryz.prog 45 #[.agg #[.slice sd.ao sd.n sd.c,.slice sl.ao sl.n sl.c,.bool S.init],.agg #[.int .u8 e.h.op,.int .i64 e.h.ps,.bool e.h.bo,.int .i32 e.h.it,.int .u64 e.h.fl,.string ⟨e.h.nm.toArray⟩,.slice e.h.s.ao e.h.s.n e.h.s.c]] w _;go_enter Tryz.func45,Tryz.ntmps45;go_upto_region 1 with fail;rw[tV w sd sl S.init];generalize bx w (scO sd sl S.init)=w1 at *;have GX2:=cD w1 (xO e.h);rw[S1.out]at GX2;have GS2:=Hj (aV (aY w1 (xO e.h)) GS1.out);have B2:=Hj (bS B1.out (aD _) (xO e.h));have S2:Hid ((bx w1 (xO e.h)).heap.size=w.heap.size+1+1):=(cJ _ _).trans (by rw[S1.out]);change Hid ((bx w1 (xO e.h)).heap[w.heap.size]? = _)at GS2;rw[kY w1 e.h];generalize bx w1 (xO e.h)=w2 at *
 have GR:Hid (Blk (w2.alloc (.cells #[.int .i64 0,.int .i64 0] 32)) (w.heap.size+1+1) 32 (wrA 0 0)):=by rw[←S2.out];exact Blk.new _ _ _
 have GS:=Hj (aV (aY w2 (.cells #[.int .i64 0,.int .i64 0] 32)) GS2.out);have GX:=Hj (aV (aY w2 (.cells #[.int .i64 0,.int .i64 0] 32)) GX2);have BZ:=Hj (aI B2.out (.cells #[.int .i64 0,.int .i64 0] 32));clear GS1 B1 S1 GS2 GX2 B2 S2;change (Code.region 1 _ _).wp _ _ _ (w2.alloc (.cells #[.int .i64 0,.int .i64 0] 32));generalize w2.alloc (.cells #[.int .i64 0,.int .i64 0] 32)=w3 at *;obtain⟨s0,s1,s2⟩:=cK GS.out;obtain⟨x0,x1,x2,x3,x4,x5,x6⟩:=bK GX.out
 by_cases h4:e.h.op=4
 case pos=>
  have b4:(e.h.op == 4)=true:=by simp[h4]
  have E:=HZ.out;rw[if_pos h4]at E;have EE:=Hj E;clear E HZ h4 IH;go_wp2_with fail;refine(NMo.out _ BZ.out).mono ?_;rintro r w4 ⟨rfl,b4'⟩;rw[←EE.out];have GR4:=Hj (GR.out.below b4' GR.out.lt);have BZ4:=Hj (aG BZ.out b4');clear b4' GR BZ NMo EE s0 s1 s2 x0 x1 x2 x3 x4 x5 x6;dsimp only[xpE]
  go_wp2_with (refine dR Z.er Z.pl (w.heap.size+1+1) _ GR4.out rfl rfl _ _ rfl rfl rfl ?_)
  exact bodyPost_ret (bP rfl _ _ (w.heap.size+1+1) (.int .u8 (Z.va 0)) Z.er Z.pl rfl rfl (GR4.out.rowS _)) rfl ⟨rfl,aR BZ4.out (aD _) (by omega) _⟩
 case neg=>
  have b4:=mN h4;have E:=HZ.out;rw[if_neg h4]at E;have EE:=Hj E;clear E HZ h4 NMo;have OW0:Hid (w3.ownsRow w3.heap.size 36 1 (.slice none 0 0) 0 (([]:List Int).map (Value.int .u8))):=World.ownsRow_nil _ _ _ _;have SZ3:Hid (w.heap.size+1+1<w3.heap.size):=GR.out.lt;clear s0 s1 s2 x1 x2 x3 x4 x5 x6;go_wp2_with fail;clear x0
  go_loopg [6,7] e.h.s.n (fun gk v i wr=>∃(j:Nat) (A:Option Addr) (cp:Nat) (l:List Int),v=.slice A j cp∧i=.int .i64 (j:Int)∧Hid (gk=e.h.s.n-j∧j≤e.h.s.n)∧Hid (cks (fun i=>(e.k i).ck S) j=.ok l)∧Hid (wr.ownsRow w3.heap.size 36 1 (.slice A j cp) j (l.map (Value.int .u8)))∧Hid (Below w3.heap.size w3 wr))
  case atStart=>exact⟨0,none,0,[],rfl,rfl,⟨rfl,Nat.zero_le _⟩,rfl,OW0.out,Below.refl _ _⟩
  case round=>
   clear OW0;obtain⟨j,A,cp,l,rfl,rfl,HJ,HL,OW,BJ⟩:=hrel;have bj:=BJ.out;have GSn:=Hj (aV bj GS.out);have GXn:=Hj (aV bj GX.out);have GRn:=Hj (GR.out.below bj GR.out.lt);have BZn:=Hj (aG BZ.out bj);clear GS GX GR BZ bj;have GS:=Hj GSn.out;have GX:=Hj GXn.out;have GR:=Hj GRn.out;have BZ:=Hj BZn.out;clear GSn GXn GRn BZn;obtain⟨s0,s1,s2⟩:=cK GS.out;obtain⟨-, -, -, -, -, -,x6⟩:=bK GX.out
   by_cases hlt:j<e.h.s.n
   ·have z0:(j:Int)<(e.h.s.n:Int):=by omega
    have ovi:IntKind.i64.wrap ((j:Int)+1)=((j+1:Nat):Int):=by have:=HN.out;rw[IntKind.wrap_i64];omega
    obtain⟨a,b,o',ha,hA,hb,X, -⟩:=(HX.out _ BZ.out).at hlt;rw[ha]at x6;have HLT:=Hj hlt;obtain⟨Y,hY⟩:∃Y,(e.k j).ck S=Y:=⟨_,rfl⟩;have HY:=Hj hY;have NZY:Hid Y.nz:=by show Y.nz;rw[←hY];exact NZ.out j
    have NXT:Hid (cks (fun i=>(e.k i).ck S) (j+1)=Y.bind fun t=>.ok (l++[t])):=by show cks _ (j+1)=_;simp only[cks,HL.out];rw[←hY];rfl
    have IHj:Hid (∀w',Below wr.heap.size wr w'→Calls Tryz.prog 45 #[.agg #[.slice sd.ao sd.n sd.c,.slice sl.ao sl.n sl.c,.bool S.init],.agg #[.int .u8 (e.k j).h.op,.int .i64 (e.k j).h.ps,.bool (e.k j).h.bo,.int .i32 (e.k j).h.it,.int .u64 (e.k j).h.fl,.string ⟨(e.k j).h.nm.toArray⟩,.slice (e.k j).h.s.ao (e.k j).h.s.n (e.k j).h.s.c]] w' fun r w''=>r=xpE Y∧Below w'.heap.size w' w''):=fun w' hb=>by rw[←hY];exact IH.out j hlt w' (aG BZ.out hb)
    have KG:Hid (∀w',Below wr.heap.size wr w'→(w'.cell? ⟨w.heap.size,0,none⟩=some (.slice sd.ao sd.n sd.c)∧w'.cell? ⟨w.heap.size,1,none⟩=some (.slice sl.ao sl.n sl.c)∧w'.cell? ⟨w.heap.size,2,none⟩=some (.bool S.init)∧w'.cell? ⟨w.heap.size+1,6,none⟩=some (.slice (some a) e.h.s.n e.h.s.c) ∧
      w'.cell? ⟨b,o',none⟩=some (.int .u8 (e.k j).h.op)∧w'.cell? ⟨b,o'+1,none⟩=some (.int .i64 (e.k j).h.ps)∧w'.cell? ⟨b,o'+2,none⟩=some (.bool (e.k j).h.bo)∧w'.cell? ⟨b,o'+3,none⟩=some (.int .i32 (e.k j).h.it)∧w'.cell? ⟨b,o'+4,none⟩=some (.int .u64 (e.k j).h.fl)∧w'.cell? ⟨b,o'+5,none⟩=some (.string ⟨(e.k j).h.nm.toArray⟩)∧w'.cell? ⟨b,o'+6,none⟩=some (.slice (e.k j).h.s.ao (e.k j).h.s.n (e.k j).h.s.c))):=fun w' hw'=>by
     obtain⟨q0,q1,q2⟩:=cK (aV hw' GS.out);have X3:=X.below hb hw' (aF HBB.out BZ.out.size);have q6:=(bK (aV hw' GX.out)).2.2.2.2.2.2;rw[ha]at q6;exact⟨q0,q1,q2,q6,X3.c0,X3.c1,X3.c2,X3.c3,X3.c4,X3.c5,X3.c6⟩
    clear X hlt hb hY HX IH ha;go_upto_region 7 with fail;clear s0 s1 s2 x6
    go_cut [8,9] (fun t v wx=>∃be:Nat,t=.int .u8 (Y.va 0)∧v=.pointer (some ⟨be,0,none⟩)∧Hid (Blk wx be 32 (wrA Y.er Y.pl))∧Hid (Below wr.heap.size wr wx)∧Hid (wr.heap.size≤be))
    case first=>
     refine bY (S:=fun w'=>w'.cell? ⟨w.heap.size,0,none⟩=some (.slice sd.ao sd.n sd.c)∧w'.cell? ⟨w.heap.size,1,none⟩=some (.slice sl.ao sl.n sl.c)∧w'.cell? ⟨w.heap.size,2,none⟩=some (.bool S.init)∧w'.cell? ⟨w.heap.size+1,6,none⟩=some (.slice (some a) e.h.s.n e.h.s.c)∧w'.cell? ⟨b,o',none⟩=some (.int .u8 (e.k j).h.op)∧w'.cell? ⟨b,o'+1,none⟩=some (.int .i64 (e.k j).h.ps)∧w'.cell? ⟨b,o'+2,none⟩=some (.bool (e.k j).h.bo)∧w'.cell? ⟨b,o'+3,none⟩=some (.int .i32 (e.k j).h.it)∧w'.cell? ⟨b,o'+4,none⟩=some (.int .u64 (e.k j).h.fl)∧w'.cell? ⟨b,o'+5,none⟩=some (.string ⟨(e.k j).h.nm.toArray⟩)∧w'.cell? ⟨b,o'+6,none⟩=some (.slice (e.k j).h.s.ao (e.k j).h.s.n (e.k j).h.s.c)) _ (.take 0 (.take 1 (.take 2 (.take 3 (.take 4 (.take 5 (.two 6 (.take 7 (.take 8 (.take 9 (.act 10 (.take 11 (.act 12 .done)))))) 10 (.act 6 (.take 7 (.take 8 (.take 9 (.take 11 (.act 12 .done))))))))))))) (by kernel_rfl) (by kernel_rfl) rfl (by kernel_rfl) (by kernel_rfl) (fun _ _ d _ _ h=>by cases d<;>exact h) (KG.out _ (aH (Below.refl _ _))) ?_
     iterate 6
      refine aN.take (v:=?_) rfl (by rfl) ?_ ?_;rotate_left
      ·(intro w' hSw;(try dsimp only at hSw);go_simp<;>with_reducible rfl)
      try simp only[Act.put,aA,aC,aB]
     refine⟨bF rfl (by rfl) (fun K hK=>?_),bF rfl (by rfl) (fun K hK=>?_)⟩
     ·go_simp
      go_at_call 45;refine(IHj.out _ (by repeat (first|exact Below.refl _ _|refine aH ?_|refine aI ?_ _))).mono ?_;rintro r wc ⟨rfl,hbc⟩;dsimp only[xpE];have X1:Below wr.heap.size wr wc:=(by refine aG ?_ hbc;repeat (first|exact Below.refl _ _|refine aH ?_|refine aI ?_ _));refine hK.out _ _ (KG.out _ X1) ?_;clear hK K;try simp only[Act.put,aA,aC,aB]
      iterate 3
       refine aN.take (v:=?_) rfl (by rfl) ?_ ?_;rotate_left
       ·(intro w' hSw;(try dsimp only at hSw);go_simp<;>with_reducible rfl)
       try simp only[Act.put,aA,aC,aB]
      refine aN.act rfl (by rfl) (fun K hK=>?_);go_simp;refine hK.out _ _ (KG.out _ (by repeat (first|exact Below.refl _ _|exact X1|refine aH ?_|refine aI ?_ _))) ?_;clear hK K;try simp only[Act.put,aA,aC,aB]
      iterate 1
       refine aN.take (v:=?_) rfl (by rfl) ?_ ?_;rotate_left
       ·(intro w' hSw;(try dsimp only at hSw);go_simp<;>with_reducible rfl)
       try simp only[Act.put,aA,aC,aB]
      refine aN.act rfl (by rfl) (fun K hK=>?_);refine cO (Y).er (Y).pl wc.heap.size _ (Blk.new wc 32 (wrA 0 0)) rfl _ _ rfl rfl rfl ?_;have X2:=aR (aI X1 (.cells (wrA 0 0) 32 (0,0))) (aD _) X1.size (wrA (Y).er (Y).pl);refine hK.out _ _ (KG.out _ X2) ?_;clear hK K;try simp only[Act.put]
      refine aN.done ?_;go_wp2_with fail;go_meet;exact⟨_,rfl,rfl,((Blk.new wc 32 (wrA 0 0)).rowS _),X2,X1.size⟩
     ·go_simp
      refine hK.out _ _ (KG.out _ (by repeat (first|exact Below.refl _ _|exact X1|refine aH ?_|refine aI ?_ _))) ?_;clear hK K;try simp only[Act.put,aA,aC,aB]
      refine aN.act rfl (by rfl) (fun K hK=>?_);go_simp;go_at_call 45;refine(IHj.out _ (by repeat (first|exact Below.refl _ _|refine aH ?_|refine aI ?_ _))).mono ?_;rintro r wc ⟨rfl,hbc⟩;dsimp only[xpE];have X1:Below wr.heap.size wr wc:=(by refine aG ?_ hbc;repeat (first|exact Below.refl _ _|refine aH ?_|refine aI ?_ _));have Kq:Blk wc wr.heap.size 32 (wrA 0 0):=(Blk.drew (Blk.new wr 32 (wrA 0 0))).below hbc (Blk.drew (Blk.new wr 32 (wrA 0 0))).lt;refine hK.out _ _ (KG.out _ X1) ?_;clear hK K;try simp only[Act.put,aA,aC,aB]
      iterate 4
       refine aN.take (v:=?_) rfl (by rfl) ?_ ?_;rotate_left
       ·(intro w' hSw;(try dsimp only at hSw);go_simp<;>with_reducible rfl)
       try simp only[Act.put,aA,aC,aB]
      refine aN.act rfl (by rfl) (fun K hK=>?_);refine cO (Y).er (Y).pl wr.heap.size _ Kq rfl _ _ rfl rfl rfl ?_;have X2:=aR X1 (aD _) (aD _) (wrA (Y).er (Y).pl);refine hK.out _ _ (KG.out _ X2) ?_;clear hK K;try simp only[Act.put]
      refine aN.done ?_;go_wp2_with fail;go_meet;exact⟨_,rfl,rfl,(Kq.rowS _),X2,(aD _)⟩
    case rest=>
     obtain⟨be,rfl,rfl,NB,bx5,HG⟩:=hcut;have b6:=bx5.out;have HG2:Hid (w.heap.size+1+1<be):=aE GR.out.lt HG.out;have BJ6:=Hj (aG BJ.out b6);have OW6:=Hj (bE OW.out b6);clear KG IHj bx5 HG OW BJ;have GSn:=Hj (aV b6 GS.out);have GXn:=Hj (aV b6 GX.out);have GRn:=Hj (GR.out.below b6 GR.out.lt);have BZn:=Hj (aG BZ.out b6);clear GS GX GR BZ b6;have GS:=Hj GSn.out;have GX:=Hj GXn.out;have GR:=Hj GRn.out;have BZ:=Hj BZn.out;clear GSn GXn GRn BZn
     cases Y with
     | no c q=>
      have hz:=NZY.out c q rfl
      have EF:Hid (Z=.no c q):=by
       show Z=_;rw[EE.out,aCf HY.out HL.out e.h.s.n HLT.out];rfl
      have n0:wc.cell? ⟨be,0,none⟩=some (.int .i64 c):=NB.out.cell 0;have hb:(c != 0)=true:=by simp;omega
      clear EE hz NZY NXT HY HL;dsimp only[Ck.va];go_upto_region 9 with fail;have KG:Hid (∀w',Kp (w.heap.size+1+1) wc w'→(w'.cell? ⟨be,0,none⟩=some (.int .i64 c)∧w'.cell? ⟨be,1,none⟩=some (.int .i64 q))):=fun w' hw=>(let N:=bH hw (by have:=HG2.out;omega) NB.out;⟨aK N 0,aK N 1⟩);refine bY (S:=fun w'=>w'.cell? ⟨be,0,none⟩=some (.int .i64 c)∧w'.cell? ⟨be,1,none⟩=some (.int .i64 q)) _ (.take 0 (.take 1 (.act 2 .done))) (by kernel_rfl) (by kernel_rfl) rfl (by kernel_rfl) (by kernel_rfl) (fun _ _ d _ _ h=>by cases d<;>exact h) (KG.out _ (kp0 _ _)) ?_
      iterate 2
       refine aN.take (v:=?_) rfl (by rfl) ?_ ?_;rotate_left
       ·(intro w' hSw;(try dsimp only at hSw);go_simp<;>with_reducible rfl)
       try simp only[Act.put,aA,aC,aB]
      refine aN.act rfl (by rfl) (fun K hK=>?_);refine cO c q (w.heap.size+1+1) _ GR.out.drew rfl _ _ rfl rfl rfl ?_;refine hK.out _ _ (KG.out _ (kp1 _ _ _)) ?_;clear hK K;try simp only[Act.put]
      refine aN.done ?_;go_wp2_with fail;exact bodyPost_ret (bP rfl _ _ (w.heap.size+1+1) (.int .u8 0) c q rfl rfl (Blk.rowS GR.out.drew _)) rfl ⟨oQ EF.out,aR (aH BZ.out) (aD _) (by omega) _⟩
     | ok t=>
      have n0:wc.cell? ⟨be,0,none⟩=some (.int .i64 0):=NB.out.cell 0;clear NZY HY;dsimp only[Ck.va]
      go_wp2_with (at_builtin;refine wpList_append_own _ rfl _ _ 99 rfl w3.heap.size 36 i0 (.int .u8 0) 1 1 Tryz.underlying99 HI0.out.1 HI0.out.2.1 HI0.out.2.2.1 HI0.out.2.2.2 rfl (by decide) _ j _ rfl (OW6.out.alloc _) ⟨wc.heap.size,0,none⟩ 1 1 [_] rfl rfl (cell_one_new _ _ _) ?c2 ?c3 ?c4 ?c5 ?_)
      case c2=>intro u hu;simp at hu;subst hu;rfl
      case c3=>have:=HN.out;have:=HLT.out;unfold maxLen;omega
      case c4=>have:=HN.out;have:=HLT.out;omega
      case c5=>have:=BJ6.out.size;simp;omega
      intro v' w7 own' hgrow hnil;clear hnil;have B7:=Hj (lI BJ6.out OW6.out hgrow);have own2:=aDT own';obtain⟨A',cp',rfl⟩:=nW own2;have OW7:=Hj own2;clear own' hgrow own2 OW6 BJ6 n0 NB;go_wp2_with fail
      go_roundg (e.h.s.n-(j+1))
      case measure=>have:=HJ.out;have:=HLT.out;omega
      case rel=>exact⟨j+1,A',cp',l++[t],by go_num,by go_num,⟨rfl,HLT.out⟩,NXT.out,OW7.out,B7.out⟩
   ·obtain rfl:j=e.h.s.n:=by have:=HJ.out;omega
    have z0:¬(e.h.s.n:Int)<(e.h.s.n:Int):=by omega
    have HLL:=Hj (aIG HL.out).1
    have E2:Hid (Z=if bM e.h.op l=0 then .no 122 e.h.ps else if e.h.op=3∧aBT e.h.fl=false then .no 123 e.h.ps else .ok (bM e.h.op l)):=by
     show Z=_;rw[EE.out,HL.out];rfl
    have OWL:=OW.out;rw[←HLL.out]at OWL;have SR:=Hj (aAh e.h.op l _ w3.heap.size wr OWL);rw[HLL.out]at SR;have x0:=(bK GX.out).1;clear hlt OWL EE HL OW IH HX s0 s1 s2 BJ SZ3;go_wp2_with fail;refine SR.out.mono ?_;rintro r w8 ⟨rfl,e8⟩;rw[e8];clear e8 w8 SR x6;obtain⟨rt,hrt⟩:∃rt,bM e.h.op l=rt:=⟨_,rfl⟩;rw[hrt]at E2;rw[hrt];clear hrt
    by_cases hr:rt=0
    case pos=>
     subst hr;have EF:Hid (Z=.no 122 e.h.ps):=E2.out;clear E2;go_upto_region 13 with fail;have KG:Hid (∀w',Kp (w.heap.size+1+1) wr w'→(w'.cell? ⟨w.heap.size+1,1,none⟩=some (.int .i64 e.h.ps))):=fun w' hw=>(bK (bH hw (by omega) GX.out)).2.1;refine bY (S:=fun w'=>w'.cell? ⟨w.heap.size+1,1,none⟩=some (.int .i64 e.h.ps)) _ (.take 0 (.take 1 (.take 2 (.take 3 (.act 4 .done))))) (by kernel_rfl) (by kernel_rfl) rfl (by kernel_rfl) (by kernel_rfl) (fun _ _ d _ _ h=>by cases d<;>exact h) (KG.out _ (kp0 _ _)) ?_
     iterate 4
      refine aN.take (v:=?_) rfl (by rfl) ?_ ?_;rotate_left
      ·(intro w' hSw;(try dsimp only at hSw);go_simp<;>with_reducible rfl)
      try simp only[Act.put,aA,aC,aB]
     refine aN.act rfl (by rfl) (fun K hK=>?_);refine cO 122 e.h.ps (w.heap.size+1+1) _ GR.out.drew rfl _ _ rfl rfl rfl ?_;refine hK.out _ _ (KG.out _ (kp1 _ _ _)) ?_;clear hK K;try simp only[Act.put]
     refine aN.done ?_;go_wp2_with fail;exact bodyPost_ret (bP rfl _ _ (w.heap.size+1+1) (.int .u8 0) 122 e.h.ps rfl rfl (Blk.rowS GR.out.drew _)) rfl ⟨oQ EF.out,aR (aH BZ.out) (aD _) (by omega) _⟩
    case neg=>
     have br:=mN hr;have E3:=E2.out;rw[if_neg hr]at E3;have E3:=Hj E3;clear E2 hr
     by_cases h3:e.h.op=3
     case neg=>
      have b3:=mN h3;have EF:Hid (Z=.ok rt):=by show Z=_;rw[E3.out,if_neg (fun h=>h3 h.1)]
      clear E3 h3;have r0:wr.cell? ⟨w.heap.size+1+1,0,none⟩=some (.int .i64 0):=GR.out.cell 0;have r1:wr.cell? ⟨w.heap.size+1+1,1,none⟩=some (.int .i64 0):=GR.out.cell 1;have y0:=GR.out.frozen 0;have y1:=GR.out.frozen 1;go_wp2_with fail;exact bodyPost_ret (bP rfl _ _ (w.heap.size+1+1) (.int .u8 rt) 0 0 rfl rfl ((GR.out.set_ 0 (.int .i64 0)).set_ 1 (.int .i64 0))) rfl ⟨aAZ EF.out,Below.setCell (Below.setCell BZ.out (p:=⟨(w.heap.size+1+1),0,none⟩) (by show w.heap.size≤w.heap.size+1+1;omega) _) (p:=⟨(w.heap.size+1+1),1,none⟩) (by show w.heap.size≤w.heap.size+1+1;omega) _⟩
     case pos=>
      have b3:(e.h.op == 3)=true:=by simp[h3]
      have x4:=(bK GX.out).2.2.2.2.1;have FN:=Hj (tR e.h.fl HFL.out wr);go_wp2_with fail;refine FN.out.mono ?_;rintro r w8 ⟨rfl,e8⟩;rw[←e8];rw[←aAD];clear e8 w8 FN
      cases hf:aBT e.h.fl with
      | true=>
       have EF:Hid (Z=.ok rt):=by show Z=_;rw[E3.out,if_neg (fun h=>by rw[hf]at h;cases h.2)]
       clear E3 hf h3 x0 x4;have r0:wr.cell? ⟨w.heap.size+1+1,0,none⟩=some (.int .i64 0):=GR.out.cell 0;have r1:wr.cell? ⟨w.heap.size+1+1,1,none⟩=some (.int .i64 0):=GR.out.cell 1;have y0:=GR.out.frozen 0;have y1:=GR.out.frozen 1;go_wp2_with fail;exact bodyPost_ret (bP rfl _ _ (w.heap.size+1+1) (.int .u8 rt) 0 0 rfl rfl ((GR.out.set_ 0 (.int .i64 0)).set_ 1 (.int .i64 0))) rfl ⟨aAZ EF.out,Below.setCell (Below.setCell BZ.out (p:=⟨(w.heap.size+1+1),0,none⟩) (by show w.heap.size≤w.heap.size+1+1;omega) _) (p:=⟨(w.heap.size+1+1),1,none⟩) (by show w.heap.size≤w.heap.size+1+1;omega) _⟩
      | false=>
       have EF:Hid (Z=.no 123 e.h.ps):=by show Z=_;rw[E3.out,if_pos ⟨h3,hf⟩]
       clear E3 hf h3;go_upto_region 15 with fail;have KG:Hid (∀w',Kp (w.heap.size+1+1) wr w'→(w'.cell? ⟨w.heap.size+1,1,none⟩=some (.int .i64 e.h.ps))):=fun w' hw=>(bK (bH hw (by omega) GX.out)).2.1;refine bY (S:=fun w'=>w'.cell? ⟨w.heap.size+1,1,none⟩=some (.int .i64 e.h.ps)) _ (.take 0 (.take 1 (.take 2 (.take 3 (.act 4 .done))))) (by kernel_rfl) (by kernel_rfl) rfl (by kernel_rfl) (by kernel_rfl) (fun _ _ d _ _ h=>by cases d<;>exact h) (KG.out _ (kp0 _ _)) ?_
       iterate 4
        refine aN.take (v:=?_) rfl (by rfl) ?_ ?_;rotate_left
        ·(intro w' hSw;(try dsimp only at hSw);go_simp<;>with_reducible rfl)
        try simp only[Act.put,aA,aC,aB]
       refine aN.act rfl (by rfl) (fun K hK=>?_);refine cO 123 e.h.ps (w.heap.size+1+1) _ GR.out.drew rfl _ _ rfl rfl rfl ?_;refine hK.out _ _ (KG.out _ (kp1 _ _ _)) ?_;clear hK K;try simp only[Act.put]
       refine aN.done ?_;go_wp2_with fail;exact bodyPost_ret (bP rfl _ _ (w.heap.size+1+1) (.int .u8 0) 123 e.h.ps rfl rfl (Blk.rowS GR.out.drew _)) rfl ⟨oQ EF.out,aR (aH BZ.out) (aD _) (by omega) _⟩
theorem pB (B:Nat)(S:Sc)(sd sl:Sl)(hs:sd.n=S.n)(e:Ex):RxX B S sd sl e:=by
 induction e using Ex.ind with
 | H e ih=>exact aFe B S sd sl hs e ih
end Go.Proofs.YtkbicfffokegeaaGreatDoor
