/-
  Whatever program is handed in, CheckChecks answers true. (part 21 of 38) Conditions: none beside what the card ties.
-/
import Derived.Test.YtkbicfffokegeaaGreatDoorCat
namespace Go.Proofs.YtkbicfffokegeaaGreatDoor
set_option maxHeartbeats 16000000
open Go.RowKit
set_option maxRecDepth 100000
theorem aFT (B R M n:Nat)(S:Sc)(op ps:Int)(bo:Bool)(it fl:Int)(nm:List UInt8)(s:Sl)(k:Nat→Ex)(ih:∀i,i<s.n→CkX B R M n S (k i))(w:World)(hC:Ckr R M n S w)(hnm:nm.length≤maxLen)(hX:gE B w s k)(hB:B≤w.heap.size)(hw:sm (fun i=>(k i).wt) s.n≤1000000)(m:Option Mn)(hm:mnS S nm=m) :
  Calls Tryz.prog 47 #[.pointer (some ⟨R,0,none⟩),EH.v ⟨op,ps,bo,it,fl,nm,s⟩] w fun r w'=>r=ckE (nmC m S.init ps s.n ((k 0).ck S))∧Below w.heap.size w w':=by
 obtain⟨sa,sn,sc⟩:=s;dsimp only at *;have BX:=bS (Below.refl w.heap.size w) (aD _) (xO ⟨op,ps,bo,it,fl,nm,⟨sa,sn,sc⟩⟩);have HC1:=Ckf.bel hC BX;have F:=Hj (xK R M n _ _ _ nm ps _ HC1 hnm);rw[hm]at F;have HW:=Hj hw;have HC:=Hj HC1;have HX:=Hj (hX.below BX hB);have HB:=Hj hB;have IH:=Hj ih;have GX:=cD w (xO ⟨op,ps,bo,it,fl,nm,⟨sa,sn,sc⟩⟩);obtain⟨x0,x1,x2,x3,x4,x5,x6⟩:=bK GX;dsimp only at x0 x1 x2 x3 x4 x5 x6;have GB:=Hj GX;have B1:=Hj BX;have HRL:Hid (R<w.heap.size∧M<w.heap.size):=⟨hC.blk.lt,hC.mp.lt⟩;clear BX hC hnm hX hB ih GX HC1 hw hm;show Calls Tryz.prog 47 #[.pointer (some ⟨R,0,none⟩),.agg #[.int .u8 op,.int .i64 ps,.bool bo,.int .i32 it,.int .u64 fl,.string ⟨nm.toArray⟩,.slice sa sn sc]] w _;go_enter Tryz.func47,Tryz.ntmps47;go_upto_region 1 with fail;rw[kY w ⟨op,ps,bo,it,fl,nm,⟨sa,sn,sc⟩⟩];have HSZ:Hid ((bx w (xO ⟨op,ps,bo,it,fl,nm,⟨sa,sn,sc⟩⟩)).heap.size=w.heap.size+1):=cJ _ _;generalize bx w (xO ⟨op,ps,bo,it,fl,nm,⟨sa,sn,sc⟩⟩)=w1 at *;go_wp2_with fail;refine F.out.mono ?_;rintro r w2 ⟨rfl,b2⟩;clear F x0 x1 x2 x3 x4 x5 x6;have B2:=Hj (aG B1.out b2);have BB2:=Hj b2;clear b2
 cases m with
 | none=>
  dsimp only[fnE];go_wp2_with fail;exact⟨rfl,rfl,B2.out⟩
 | some m=>
  obtain⟨us,ty,ar⟩:=m;dsimp only[fnE,mnV];have BA:=aY w2 (.cells #[.int .i64 us,.int .u8 ty,.bool ar] 96);have N2:Hid (Blk (w2.alloc (.cells #[.int .i64 us,.int .u8 ty,.bool ar] 96)) w2.heap.size 96 #[.int .i64 us,.int .u8 ty,.bool ar]):=Blk.new _ _ _;have B3:=Hj (aG B2.out BA);have BB3:=Hj (aG BB2.out BA);have G3:=Hj (aV BB3.out GB.out);have HC3:=Hj (HC.out.bel BB3.out);have HX3:=Hj (HX.out.below BB3.out (by have:=HSZ.out;have:=HB.out;omega));have HLE:Hid (w1.heap.size≤w2.heap.size):=BB2.out.size;clear BA B2 BB2 BB3 GB HC HX B1;go_upto_region 2 with fail;change (Code.region 2 _ _).wp _ _ _ (w2.alloc (.cells #[.int .i64 us,.int .u8 ty,.bool ar] 96));generalize w2.alloc (.cells #[.int .i64 us,.int .u8 ty,.bool ar] 96)=w3 at *;generalize w2.heap.size=g2 at *;obtain⟨x0,x1,x2,x3,x4,x5,x6⟩:=bK G3.out;dsimp only at x0 x1 x2 x3 x4 x5 x6;have n0:w3.cell? ⟨g2,0,none⟩=some (.int .i64 us):=N2.out.cell 0;have r1:w3.cell? ⟨R,1,none⟩=some (.bool S.init):=HC3.out.blk.cell 1
  by_cases hu:us=1∧S.init=true
  ·obtain⟨rfl,hi⟩:=hu
   rw[hi]at r1;have E:Hid (nmC (some ⟨1,ty,ar⟩) S.init ps sn ((k 0).ck S)=.no 124 ps):=by show nmC _ _ _ _ _=_;rw[hi];rfl
   clear hi
   go_still_tail 12,(by kernel_rfl)
   change wpList _ _ _ _ _ w3.drew;have B4:=Hj (aH B3.out);generalize w3.drew=w4 at *;go_wp2_with fail;refine(aT _ _ _ _).mono ?_;rintro r w5 ⟨rfl,rfl⟩;dsimp only[muE];go_wp2_with fail;refine⟨rfl,?_,B4.out⟩;rw[E.out];rfl
  ·have HU:=Hj hu
   go_cut [26] (fun v wx=>v=.tuple #[]∧wx=w3.drew)
   case first=>
    by_cases h1:us=1
    ·subst h1
     have hi:S.init=false:=by
      cases hi:S.init with
      | false=>rfl
      | true=>exact absurd ⟨rfl,hi⟩ hu
     rw[hi]at r1;clear hu hi
     go_still_tail 12,(by kernel_rfl)
     change wpList _ _ _ _ _ w3.drew;generalize w3.drew=w4 at *;go_wp2_with fail;refine(aT _ _ _ _).mono ?_;rintro r w5 ⟨rfl,rfl⟩;dsimp only[muE];go_wp2_with fail;go_meet;exact⟨rfl,rfl⟩
    ·clear hu
     go_still_tail 12,(by kernel_rfl)
     change wpList _ _ _ _ _ w3.drew;generalize w3.drew=w4 at *;go_wp2_with fail;refine(aT _ _ _ _).mono ?_;rintro r w5 ⟨rfl,rfl⟩;dsimp only[muE];go_wp2_with fail;go_meet;exact⟨rfl,rfl⟩
   case rest=>
    obtain⟨rfl,rfl⟩:=hcut;have B4:=Hj (aH B3.out);have N4:Hid (Blk w3.drew g2 96 #[.int .i64 us,.int .u8 ty,.bool ar]):=N2.out;have G4:Hid (w3.drew.heap[w.heap.size]? = some (xO ⟨op,ps,bo,it,fl,nm,⟨sa,sn,sc⟩⟩)):=G3.out;have HC4:=Hj (HC3.out.bel (aH (Below.refl _ w3)));have HX4:=Hj (HX3.out.drew);clear B3 N2 G3 HC3 HX3 x0 x1 x2 x3 x4 x5 x6 n0 r1 hu;generalize w3.drew=w4 at *;have HB4:Hid (B≤w4.heap.size):=aF HB.out B4.out.size
    cases ar with
    | false=>
     have E:Hid (nmC (some ⟨us,ty,false⟩) S.init ps sn ((k 0).ck S)=if sn=0 then .ok ty else .no 125 ps):=by
      show nmC _ _ _ _ _=_;unfold nmC;dsimp only;rw[if_neg HU.out]
      by_cases c:sn=0
      ·subst c;rfl
      ·simp[c]
     have IX:Hid (∀w,Calls Tryz.prog 73 #[.agg #[.int .i64 us,.int .u8 ty,.bool false]] w fun e w'=>e=.returned (.int .i64 0)∧Below w.heap.size w w'):=fun w=>iO ⟨us,ty,false⟩ w
     by_cases hn:sn=0
     ·subst hn
      have KG:Hid (∀w',Below w4.heap.size w4 w'→(w'.cell? ⟨w.heap.size,6,none⟩=some (.slice sa 0 sc)∧w'.cell? ⟨w.heap.size,1,none⟩=some (.int .i64 ps)∧w'.cell? ⟨g2,0,none⟩=some (.int .i64 us)∧w'.cell? ⟨g2,1,none⟩=some (.int .u8 ty)∧w'.cell? ⟨g2,2,none⟩=some (.bool false))):=fun w' hw=>by
       obtain⟨-,x1, -, -, -, -,x6⟩:=bK (aV hw G4.out);have N5:=N4.out.below hw N4.out.lt;exact⟨x6,x1,N5.cell 0,N5.cell 1,N5.cell 2⟩
      go_upto_region 3 with fail;refine aL (S:=fun w'=>w'.cell? ⟨w.heap.size,6,none⟩=some (.slice sa 0 sc)∧w'.cell? ⟨w.heap.size,1,none⟩=some (.int .i64 ps)∧w'.cell? ⟨g2,0,none⟩=some (.int .i64 us)∧w'.cell? ⟨g2,1,none⟩=some (.int .u8 ty)∧w'.cell? ⟨g2,2,none⟩=some (.bool false)) _ [(0,true),(1,true),(2,true),(3,true),(6,true),(7,true),(4,false),(5,true),(8,false)] (by kernel_rfl) (by kernel_rfl) rfl (by kernel_rfl) (by kernel_rfl) (fun _ _ d _ _ h=>by cases d<;>exact h) (KG.out _ (aH (Below.refl _ _))) ?_
      iterate 6
       refine Walk.take (v:=?_) rfl (by rfl) ?_ ?_;rotate_left
       ·(intro w' hSw;(try dsimp only at hSw);go_simp<;>with_reducible rfl)
       try simp only[Act.put,aA,aC,aB]
      refine Walk.act rfl (by rfl) (fun K hK=>?_);go_simp;go_at_call 73;refine(IX.out _).mono ?_;rintro r w5 ⟨rfl,b5⟩;have X1:Below w4.heap.size w4 w5:=aG (aH (Below.refl _ _)) b5;refine hK.out _ _ (KG.out _ X1) ?_;clear hK K;try simp only[Act.put,aA,aC,aB]
      iterate 1
       refine Walk.take (v:=?_) rfl (by rfl) ?_ ?_;rotate_left
       ·(intro w' hSw;(try dsimp only at hSw);go_simp<;>with_reducible rfl)
       try simp only[Act.put,aA,aC,aB]
      refine Walk.act rfl (by rfl) (fun K hK=>?_);go_simp;go_at_call 20;refine(aT _ _ _ _).mono ?_;rintro r w6 ⟨rfl,e6⟩;dsimp only[muE];have X2:Below w4.heap.size w4 w6:=e6 ▸ X1;refine hK.out _ _ (KG.out _ X2) ?_;clear hK K;try simp only[Act.put,aA,aC,aB]
      refine Walk.done ?_;have B6:=Hj (aG B4.out X2);have N6:=Hj (N4.out.below X2 N4.out.lt);have G6:=Hj (aV X2 G4.out);have TY:=Hj (pL B R M n S ⟨sa,0,sc⟩ k IH.out w6 (HC4.out.bel X2) (HX4.out.below X2 HB4.out) (aF HB4.out X2.size) HW.out);have q6:=(bK G6.out).2.2.2.2.2.2;dsimp only at q6;clear KG X1 X2 b5 e6 IX;go_wp2_with fail;refine TY.out.mono ?_;rintro r w7 ⟨hr,b7⟩;have N7:=Hj (N6.out.below b7 N6.out.lt);have G7:=Hj (aV b7 G6.out);have B7:=Hj (aG B6.out b7);clear TY b7 N6 G6 B6 q6;obtain⟨v,rfl,own⟩:∃v,r=.returned v∧w7.ownsRow w6.heap.size 36 1 v 0 (([]:List Int).map (Value.int .u8)):=hr;obtain⟨A,cp,rfl⟩:=nW own;clear own;have n1:w7.cell? ⟨g2,1,none⟩=some (.int .u8 ty):=N7.out.cell 1;go_wp2_with fail;refine wp_loop_rounds 1 ?_;rw[rounds_succ];go_wp2_with fail;go_ret;refine⟨?_,B7.out⟩;rw[E.out];rfl
     ·have hb:((sn:Int) == 0)=false:=by simp;omega
      have KG:Hid (∀w',Below w4.heap.size w4 w'→(w'.cell? ⟨w.heap.size,6,none⟩=some (.slice sa sn sc)∧w'.cell? ⟨w.heap.size,1,none⟩=some (.int .i64 ps)∧w'.cell? ⟨g2,0,none⟩=some (.int .i64 us)∧w'.cell? ⟨g2,1,none⟩=some (.int .u8 ty)∧w'.cell? ⟨g2,2,none⟩=some (.bool false))):=fun w' hw=>by
       obtain⟨-,x1, -, -, -, -,x6⟩:=bK (aV hw G4.out);have N5:=N4.out.below hw N4.out.lt;exact⟨x6,x1,N5.cell 0,N5.cell 1,N5.cell 2⟩
      rw[if_neg hn]at E;clear hn;go_upto_region 3 with fail;refine aL (S:=fun w'=>w'.cell? ⟨w.heap.size,6,none⟩=some (.slice sa sn sc)∧w'.cell? ⟨w.heap.size,1,none⟩=some (.int .i64 ps)∧w'.cell? ⟨g2,0,none⟩=some (.int .i64 us)∧w'.cell? ⟨g2,1,none⟩=some (.int .u8 ty)∧w'.cell? ⟨g2,2,none⟩=some (.bool false)) _ [(0,true),(1,true),(2,true),(3,true),(6,true),(7,true),(4,false),(5,true),(8,false)] (by kernel_rfl) (by kernel_rfl) rfl (by kernel_rfl) (by kernel_rfl) (fun _ _ d _ _ h=>by cases d<;>exact h) (KG.out _ (aH (Below.refl _ _))) ?_
      iterate 6
       refine Walk.take (v:=?_) rfl (by rfl) ?_ ?_;rotate_left
       ·(intro w' hSw;(try dsimp only at hSw);go_simp<;>with_reducible rfl)
       try simp only[Act.put,aA,aC,aB]
      refine Walk.act rfl (by rfl) (fun K hK=>?_);go_simp;go_at_call 73;refine(IX.out _).mono ?_;rintro r w5 ⟨rfl,b5⟩;have X1:Below w4.heap.size w4 w5:=aG (aH (Below.refl _ _)) b5;refine hK.out _ _ (KG.out _ X1) ?_;clear hK K;try simp only[Act.put,aA,aC,aB]
      iterate 1
       refine Walk.take (v:=?_) rfl (by rfl) ?_ ?_;rotate_left
       ·(intro w' hSw;(try dsimp only at hSw);go_simp<;>with_reducible rfl)
       try simp only[Act.put,aA,aC,aB]
      refine Walk.act rfl (by rfl) (fun K hK=>?_);go_simp;go_at_call 20;refine(aT _ _ _ _).mono ?_;rintro r w6 ⟨rfl,e6⟩;dsimp only[muE];refine⟨rfl,?_,aG B4.out (e6 ▸ X1)⟩;rw[E.out];rfl
    | true=>
     have E:Hid (nmC (some ⟨us,ty,true⟩) S.init ps sn ((k 0).ck S)=if sn=1 then((k 0).ck S).bind fun u=>if u=2 then .ok ty else .no 122 ps else .no 125 ps):=by
      show nmC _ _ _ _ _=_;unfold nmC;dsimp only;rw[if_neg HU.out]
      by_cases c:sn=1
      ·subst c;rfl
      ·have c2:¬(sn:Int)=1:=by omega
       simp[c,c2]
     have IX:Hid (∀w,Calls Tryz.prog 73 #[.agg #[.int .i64 us,.int .u8 ty,.bool true]] w fun e w'=>e=.returned (.int .i64 1)∧Below w.heap.size w w'):=fun w=>iO ⟨us,ty,true⟩ w
     by_cases hn:sn=1
     ·subst hn
      have KG:Hid (∀w',Below w4.heap.size w4 w'→(w'.cell? ⟨w.heap.size,6,none⟩=some (.slice sa 1 sc)∧w'.cell? ⟨w.heap.size,1,none⟩=some (.int .i64 ps)∧w'.cell? ⟨g2,0,none⟩=some (.int .i64 us)∧w'.cell? ⟨g2,1,none⟩=some (.int .u8 ty)∧w'.cell? ⟨g2,2,none⟩=some (.bool true))):=fun w' hw=>by
       obtain⟨-,x1, -, -, -, -,x6⟩:=bK (aV hw G4.out);have N5:=N4.out.below hw N4.out.lt;exact⟨x6,x1,N5.cell 0,N5.cell 1,N5.cell 2⟩
      go_upto_region 3 with fail;refine aL (S:=fun w'=>w'.cell? ⟨w.heap.size,6,none⟩=some (.slice sa 1 sc)∧w'.cell? ⟨w.heap.size,1,none⟩=some (.int .i64 ps)∧w'.cell? ⟨g2,0,none⟩=some (.int .i64 us)∧w'.cell? ⟨g2,1,none⟩=some (.int .u8 ty)∧w'.cell? ⟨g2,2,none⟩=some (.bool true)) _ [(0,true),(1,true),(2,true),(3,true),(6,true),(7,true),(4,false),(5,true),(8,false)] (by kernel_rfl) (by kernel_rfl) rfl (by kernel_rfl) (by kernel_rfl) (fun _ _ d _ _ h=>by cases d<;>exact h) (KG.out _ (aH (Below.refl _ _))) ?_
      iterate 6
       refine Walk.take (v:=?_) rfl (by rfl) ?_ ?_;rotate_left
       ·(intro w' hSw;(try dsimp only at hSw);go_simp<;>with_reducible rfl)
       try simp only[Act.put,aA,aC,aB]
      refine Walk.act rfl (by rfl) (fun K hK=>?_);go_simp;go_at_call 73;refine(IX.out _).mono ?_;rintro r w5 ⟨rfl,b5⟩;have X1:Below w4.heap.size w4 w5:=aG (aH (Below.refl _ _)) b5;refine hK.out _ _ (KG.out _ X1) ?_;clear hK K;try simp only[Act.put,aA,aC,aB]
      iterate 1
       refine Walk.take (v:=?_) rfl (by rfl) ?_ ?_;rotate_left
       ·(intro w' hSw;(try dsimp only at hSw);go_simp<;>with_reducible rfl)
       try simp only[Act.put,aA,aC,aB]
      refine Walk.act rfl (by rfl) (fun K hK=>?_);go_simp;go_at_call 20;refine(aT _ _ _ _).mono ?_;rintro r w6 ⟨rfl,e6⟩;dsimp only[muE];have X2:Below w4.heap.size w4 w6:=e6 ▸ X1;refine hK.out _ _ (KG.out _ X2) ?_;clear hK K;try simp only[Act.put,aA,aC,aB]
      refine Walk.done ?_;have B6:=Hj (aG B4.out X2);have N6:=Hj (N4.out.below X2 N4.out.lt);have G6:=Hj (aV X2 G4.out);have TY:=Hj (pL B R M n S ⟨sa,1,sc⟩ k IH.out w6 (HC4.out.bel X2) (HX4.out.below X2 HB4.out) (aF HB4.out X2.size) HW.out);have q6:=(bK G6.out).2.2.2.2.2.2;dsimp only at q6;clear KG X1 X2 b5 e6 IX;go_wp2_with fail;refine TY.out.mono ?_;rintro r w7 ⟨hr,b7⟩;have N7:=Hj (N6.out.below b7 N6.out.lt);have G7:=Hj (aV b7 G6.out);have B7:=Hj (aG B6.out b7);clear TY b7 N6 G6 B6 q6
      cases hc:(k 0).ck S with
      | no c p=>
       have e:cks (fun i=>(k i).ck S) 1=.no c p:=by simp only[cks,Ck.bind,hc]
       rw[e]at hr;obtain rfl:r=.panicked (wV c p):=hr;rw[if_pos True.intro]at E;have HCC:=Hj hc;clear e;go_wp2_with fail;refine⟨rfl,?_,B7.out⟩;rw[E.out,HCC.out];rfl
      | ok u=>
       have e:cks (fun i=>(k i).ck S) 1=.ok [u]:=by simp only[cks,Ck.bind,hc];rfl
       rw[e]at hr;obtain⟨v,rfl,own⟩:∃v,r=.returned v∧w7.ownsRow w6.heap.size 36 1 v 1 ([u].map (Value.int .u8)):=hr;obtain⟨g,cap,rfl, -⟩:=nU own (by decide);have c0:=kH own (j:=0) (t:=u) rfl;rw[if_pos True.intro]at E;have HCC:=Hj hc;have n1:w7.cell? ⟨g2,1,none⟩=some (.int .u8 ty):=N7.out.cell 1;have q1:=(bK G7.out).2.1;dsimp only at q1;clear own e hc;go_wp2_with fail;refine wp_loop_rounds 2 ?_;rw[rounds_succ]
       by_cases hu2:u=2
       ·subst hu2
        go_wp2_with fail;refine(aT _ _ _ _).mono ?_;rintro r w8 ⟨rfl,e8⟩;subst e8;dsimp only[muE];go_wp2_with fail;rw[rounds_succ];go_wp2_with fail;go_ret;refine⟨?_,B7.out⟩;rw[E.out,HCC.out];rfl
       ·have hb:(u == 2)=false:=by simp[hu2]
        go_wp2_with fail;refine(aT _ _ _ _).mono ?_;rintro r w8 ⟨rfl,e8⟩;subst e8;dsimp only[muE];go_wp2_with fail;refine⟨rfl,?_,B7.out⟩;rw[E.out,HCC.out];show _=ckE (if u=2 then .ok ty else .no 122 ps);rw[if_neg hu2];rfl
     ·have hb:((sn:Int) == 1)=false:=by simp;omega
      have KG:Hid (∀w',Below w4.heap.size w4 w'→(w'.cell? ⟨w.heap.size,6,none⟩=some (.slice sa sn sc)∧w'.cell? ⟨w.heap.size,1,none⟩=some (.int .i64 ps)∧w'.cell? ⟨g2,0,none⟩=some (.int .i64 us)∧w'.cell? ⟨g2,1,none⟩=some (.int .u8 ty)∧w'.cell? ⟨g2,2,none⟩=some (.bool true))):=fun w' hw=>by
       obtain⟨-,x1, -, -, -, -,x6⟩:=bK (aV hw G4.out);have N5:=N4.out.below hw N4.out.lt;exact⟨x6,x1,N5.cell 0,N5.cell 1,N5.cell 2⟩
      rw[if_neg hn]at E;clear hn;go_upto_region 3 with fail;refine aL (S:=fun w'=>w'.cell? ⟨w.heap.size,6,none⟩=some (.slice sa sn sc)∧w'.cell? ⟨w.heap.size,1,none⟩=some (.int .i64 ps)∧w'.cell? ⟨g2,0,none⟩=some (.int .i64 us)∧w'.cell? ⟨g2,1,none⟩=some (.int .u8 ty)∧w'.cell? ⟨g2,2,none⟩=some (.bool true)) _ [(0,true),(1,true),(2,true),(3,true),(6,true),(7,true),(4,false),(5,true),(8,false)] (by kernel_rfl) (by kernel_rfl) rfl (by kernel_rfl) (by kernel_rfl) (fun _ _ d _ _ h=>by cases d<;>exact h) (KG.out _ (aH (Below.refl _ _))) ?_
      iterate 6
       refine Walk.take (v:=?_) rfl (by rfl) ?_ ?_;rotate_left
       ·(intro w' hSw;(try dsimp only at hSw);go_simp<;>with_reducible rfl)
       try simp only[Act.put,aA,aC,aB]
      refine Walk.act rfl (by rfl) (fun K hK=>?_);go_simp;go_at_call 73;refine(IX.out _).mono ?_;rintro r w5 ⟨rfl,b5⟩;have X1:Below w4.heap.size w4 w5:=aG (aH (Below.refl _ _)) b5;refine hK.out _ _ (KG.out _ X1) ?_;clear hK K;try simp only[Act.put,aA,aC,aB]
      iterate 1
       refine Walk.take (v:=?_) rfl (by rfl) ?_ ?_;rotate_left
       ·(intro w' hSw;(try dsimp only at hSw);go_simp<;>with_reducible rfl)
       try simp only[Act.put,aA,aC,aB]
      refine Walk.act rfl (by rfl) (fun K hK=>?_);go_simp;go_at_call 20;refine(aT _ _ _ _).mono ?_;rintro r w6 ⟨rfl,e6⟩;dsimp only[muE];refine⟨rfl,?_,aG B4.out (e6 ▸ X1)⟩;rw[E.out];rfl
def jX (op ps fl:Int)(l:List Int):Ck Int:=if bM op l=0 then .no 122 ps else if op=3∧aBT fl=false then .no 123 ps else .ok (bM op l)
theorem aFV (B R M n:Nat)(S:Sc)(hS:S.good)(h:EH)(k:Nat→Ex)(ih:∀i,i<h.s.n→CkX B R M n S (k i))(w:World)(hC:Ckr R M n S w)(hok:h.ok)(hX:gE B w h.s k)(hB:B≤w.heap.size)(hw:sm (fun i=>(k i).wt) h.s.n≤1000000) :
  Calls Tryz.prog 30 #[.pointer (some ⟨R,0,none⟩),h.v] w fun r w'=>r=ckE (if h.op=4 then(S.look h.nm h.ps).bind fun tl=>mP tl.1 tl.2 h.s.n h.ps ((k 0).ck S)
   else(cks (fun i=>(k i).ck S) h.s.n).bind fun l=>jX h.op h.ps h.fl l)∧Below w.heap.size w w':=by
 rw[aLT hS];have hnm:=hok.nm;have hfl:=hok.fl;clear hok;obtain⟨op,ps,bo,it,fl,nm,⟨sa,sn,sc⟩⟩:=h;dsimp only at *;have BX:=bS (Below.refl w.heap.size w) (aD _) (xO ⟨op,ps,bo,it,fl,nm,⟨sa,sn,sc⟩⟩);have HC1:Ckr R M n S (bx w (xO ⟨op,ps,bo,it,fl,nm,⟨sa,sn,sc⟩⟩)):=Ckf.bel hC BX;have hX1:=hX.below BX hB;have hB1:=aF hB BX.size;have G:=Hj (cD w (xO ⟨op,ps,bo,it,fl,nm,⟨sa,sn,sc⟩⟩));have B1:=Hj BX;clear BX hX hB hC
 by_cases h4:op=4
 ·subst h4
  rw[if_pos rfl];have NM:=Hj (aFT B R M n S 4 ps bo it fl nm ⟨sa,sn,sc⟩ k ih _ HC1 hnm hX1 hB1 hw _ rfl);dsimp only at NM;generalize nmC (mnS S nm) S.init ps sn ((k 0).ck S)=Z at *;obtain⟨x0,x1,x2,x3,x4,x5,x6⟩:=bK G.out;dsimp only at x0 x1 x2 x3 x4 x5 x6;clear ih HC1 hX1 hB1 hw hnm hfl;show Calls Tryz.prog 30 #[.pointer (some ⟨R,0,none⟩),.agg #[.int .u8 4,.int .i64 ps,.bool bo,.int .i32 it,.int .u64 fl,.string ⟨nm.toArray⟩,.slice sa sn sc]] w _;go_enter Tryz.func30,Tryz.ntmps30;go_upto_region 1 with fail;rw[kY w ⟨4,ps,bo,it,fl,nm,⟨sa,sn,sc⟩⟩];generalize bx w (xO ⟨4,ps,bo,it,fl,nm,⟨sa,sn,sc⟩⟩)=w1 at *;go_wp2_with fail;refine NM.out.mono ?_;rintro r w2 ⟨rfl,b2⟩;have B2:=Hj (aG B1.out b2);clear NM b2 x0 x1 x2 x3 x4 x5 x6
  cases Z with
  | no c p=>
   dsimp only[ckE];go_wp2_with fail;exact⟨rfl,rfl,B2.out⟩
  | ok u=>
   dsimp only[ckE];go_wp2_with fail;go_ret;exact⟨rfl,B2.out⟩
 ·rw[if_neg h4]
  have TY:Hid (∀w',Below (bx w (xO ⟨op,ps,bo,it,fl,nm,⟨sa,sn,sc⟩⟩)).heap.size (bx w (xO ⟨op,ps,bo,it,fl,nm,⟨sa,sn,sc⟩⟩)) w'→Calls Tryz.prog 49 #[.pointer (some ⟨R,0,none⟩),.slice sa sn sc] w' fun r w''=>tyR sn (cks (fun i=>(k i).ck S) sn) w'.heap.size r w''∧Below w'.heap.size w' w''):=fun w' hb=>
   pL B R M n S ⟨sa,sn,sc⟩ k ih w' (HC1.bel hb) (hX1.below hb hB1) (aF hB1 hb.size) hw
  have LN:Hid (∀l,cks (fun i=>(k i).ck S) sn=.ok l→l.length=sn):=fun l h=>(aIG h).1;generalize cks (fun i=>(k i).ck S) sn=L at *;clear ih HC1 hX1 hB1 hw hnm hS;have x0:=(bK G.out).1;dsimp only at x0;have HF:=Hj hfl;clear hfl;show Calls Tryz.prog 30 #[.pointer (some ⟨R,0,none⟩),.agg #[.int .u8 op,.int .i64 ps,.bool bo,.int .i32 it,.int .u64 fl,.string ⟨nm.toArray⟩,.slice sa sn sc]] w _;go_enter Tryz.func30,Tryz.ntmps30;go_upto_region 1 with fail;rw[kY w ⟨op,ps,bo,it,fl,nm,⟨sa,sn,sc⟩⟩];generalize bx w (xO ⟨op,ps,bo,it,fl,nm,⟨sa,sn,sc⟩⟩)=w1 at *
  have KG:Hid (∀w',Below w1.heap.size w1 w'→(w'.cell? ⟨w.heap.size,0,none⟩=some (.int .u8 op)∧w'.cell? ⟨w.heap.size,6,none⟩=some (.slice sa sn sc))):=fun w' hw=>by
   obtain⟨x0, -, -, -, -, -,x6⟩:=bK (aV hw G.out);exact⟨x0,x6⟩
  go_upto_region 3 with fail
  cases L with
  | no c p=>
   clear LN x0;refine aL (S:=fun w'=>w'.cell? ⟨w.heap.size,0,none⟩=some (.int .u8 op)∧w'.cell? ⟨w.heap.size,6,none⟩=some (.slice sa sn sc)) _ [(0,true),(1,true),(2,true),(3,true),(4,true),(5,false),(6,false),(7,true)] (by kernel_rfl) (by kernel_rfl) rfl (by kernel_rfl) (by kernel_rfl) (fun _ _ d _ _ h=>by cases d<;>exact h) (KG.out _ (aH (Below.refl _ _))) ?_
   iterate 5
    refine Walk.take (v:=?_) rfl (by rfl) ?_ ?_;rotate_left
    ·(intro w' hSw;(try dsimp only at hSw);go_simp<;>with_reducible rfl)
    try simp only[Act.put,aA,aC,aB]
   refine Walk.act rfl (by rfl) (fun K hK=>?_);go_simp;go_at_call 49;refine(TY.out _ (aH (Below.refl _ _))).mono ?_;rintro r w2 ⟨hr,b2⟩;obtain rfl:r=.panicked (wV c p):=hr;dsimp only;refine⟨rfl,rfl,aG B1.out (aG (aH (Below.refl _ _)) b2)⟩
  | ok l=>
   have LL:=Hj (LN.out l rfl);clear LN x0;refine aL (S:=fun w'=>w'.cell? ⟨w.heap.size,0,none⟩=some (.int .u8 op)∧w'.cell? ⟨w.heap.size,6,none⟩=some (.slice sa sn sc)) _ [(0,true),(1,true),(2,true),(3,true),(4,true),(5,false),(6,false),(7,true)] (by kernel_rfl) (by kernel_rfl) rfl (by kernel_rfl) (by kernel_rfl) (fun _ _ d _ _ h=>by cases d<;>exact h) (KG.out _ (aH (Below.refl _ _))) ?_
   iterate 5
    refine Walk.take (v:=?_) rfl (by rfl) ?_ ?_;rotate_left
    ·(intro w' hSw;(try dsimp only at hSw);go_simp<;>with_reducible rfl)
    try simp only[Act.put,aA,aC,aB]
   refine Walk.act rfl (by rfl) (fun K hK=>?_);go_simp;go_at_call 49;refine(TY.out _ (aH (Below.refl _ _))).mono ?_;rintro r w2 ⟨hr,b2⟩;obtain⟨v,rfl,own⟩:∃v,r=.returned v∧w2.ownsRow w1.heap.size 36 1 v sn (l.map (Value.int .u8)):=hr;rw[←LL.out]at own;dsimp only;have X1:Below w1.heap.size w1 w2:=aG (aH (Below.refl _ _)) b2;refine hK.out _ _ (KG.out _ X1) ?_;clear hK K;try simp only[Act.put,aA,aC,aB]
   refine Walk.act rfl (by rfl) (fun K hK=>?_);go_simp;go_at_call 48;refine(aAJ op l v _ _ own).mono ?_;rintro r w3 ⟨rfl,b3⟩;dsimp only;have X2:Below w1.heap.size w1 w3:=aG X1 b3;refine hK.out _ _ (KG.out _ X2) ?_;clear hK K;try simp only[Act.put,aA,aC,aB]
   iterate 1
    refine Walk.take (v:=?_) rfl (by rfl) ?_ ?_;rotate_left
    ·(intro w' hSw;(try dsimp only at hSw);go_simp<;>with_reducible rfl)
    try simp only[Act.put,aA,aC,aB]
   refine Walk.done ?_;have B3:=Hj (aG B1.out X2);have G3:=Hj (aV X2 G.out);clear X1 X2 b2 b3 own TY KG B1 G LL;have x1:=(bK G3.out).2.1;dsimp only at x1
   by_cases hz:bM op l=0
   ·have hb:(bM op l != 0)=false:=by simp[hz]
    have E:Hid (jX op ps fl l=.no 122 ps):=if_pos hz;clear hz;go_wp2_with fail;refine(aT _ _ _ _).mono ?_;rintro r w4 ⟨rfl,e4⟩;subst e4;dsimp only[muE];go_wp2_with fail;refine⟨rfl,?_,B3.out⟩;show _=ckE (jX op ps fl l);rw[E.out];rfl
   ·have hb:(bM op l != 0)=true:=by simp[hz]
    have HZ:=Hj hz;clear hz;go_wp2_with fail;refine(aT _ _ _ _).mono ?_;rintro r w4 ⟨rfl,e4⟩;subst e4;dsimp only[muE];go_upto_region 5 with fail;clear hb x1
    by_cases h3:op=3
    ·subst h3
     have KG:Hid (∀w',Below w4.heap.size w4 w'→(w'.cell? ⟨w.heap.size,0,none⟩=some (.int .u8 3)∧w'.cell? ⟨w.heap.size,1,none⟩=some (.int .i64 ps)∧w'.cell? ⟨w.heap.size,4,none⟩=some (.int .u64 fl))):=fun w' hw=>by
      obtain⟨x0,x1, -, -,x4, -⟩:=bK (aV hw G3.out);exact⟨x0,x1,x4⟩
     cases hf:decide (fC fl<3) with
     | true=>
      have E:Hid (jX 3 ps fl l=.ok (bM 3 l)):=by
       show jX 3 ps fl l=_;unfold jX;rw[if_neg HZ.out,if_neg (by rw[aAD,hf];simp)]
      refine aL (S:=fun w'=>w'.cell? ⟨w.heap.size,0,none⟩=some (.int .u8 3)∧w'.cell? ⟨w.heap.size,1,none⟩=some (.int .i64 ps)∧w'.cell? ⟨w.heap.size,4,none⟩=some (.int .u64 fl)) _ [(0,true),(1,true),(2,true),(3,true),(4,true),(5,true),(8,true),(9,true),(6,false),(7,true),(10,false)] (by kernel_rfl) (by kernel_rfl) rfl (by kernel_rfl) (by kernel_rfl) (fun _ _ d _ _ h=>by cases d<;>exact h) (KG.out _ (aH (Below.refl _ _))) ?_
      iterate 8
       refine Walk.take (v:=?_) rfl (by rfl) ?_ ?_;rotate_left
       ·(intro w' hSw;(try dsimp only at hSw);go_simp<;>with_reducible rfl)
       try simp only[Act.put,aA,aC,aB]
      refine Walk.act rfl (by rfl) (fun K hK=>?_);go_simp;go_at_call 50;refine(gW _ HF.out _).mono ?_;rintro r w5 ⟨rfl,rfl⟩;rw[hf];dsimp only;have X1:Below w4.heap.size w4 w4.drew:=aH (Below.refl _ _);refine hK.out _ _ (KG.out _ X1) ?_;clear hK K;try simp only[Act.put,aA,aC,aB]
      iterate 1
       refine Walk.take (v:=?_) rfl (by rfl) ?_ ?_;rotate_left
       ·(intro w' hSw;(try dsimp only at hSw);go_simp<;>with_reducible rfl)
       try simp only[Act.put,aA,aC,aB]
      refine Walk.act rfl (by rfl) (fun K hK=>?_);go_simp;go_at_call 20;refine(aT _ _ _ _).mono ?_;rintro r w6 ⟨rfl,rfl⟩;dsimp only[muE];have X2:Below w4.heap.size w4 w4.drew:=X1;refine hK.out _ _ (KG.out _ X2) ?_;clear hK K;try simp only[Act.put,aA,aC,aB]
      refine Walk.done ?_;have B6:=Hj (aG B3.out X2);clear X1 X2 KG hf;go_wp2_with fail;go_ret;refine⟨?_,B6.out⟩;show _=ckE (jX 3 ps fl l);rw[E.out];rfl
     | false=>
      have E:Hid (jX 3 ps fl l=.no 123 ps):=by
       show jX 3 ps fl l=_;unfold jX;rw[if_neg HZ.out,if_pos ⟨rfl,by rw[aAD,hf]⟩]
      refine aL (S:=fun w'=>w'.cell? ⟨w.heap.size,0,none⟩=some (.int .u8 3)∧w'.cell? ⟨w.heap.size,1,none⟩=some (.int .i64 ps)∧w'.cell? ⟨w.heap.size,4,none⟩=some (.int .u64 fl)) _ [(0,true),(1,true),(2,true),(3,true),(4,true),(5,true),(8,true),(9,true),(6,false),(7,true),(10,false)] (by kernel_rfl) (by kernel_rfl) rfl (by kernel_rfl) (by kernel_rfl) (fun _ _ d _ _ h=>by cases d<;>exact h) (KG.out _ (aH (Below.refl _ _))) ?_
      iterate 8
       refine Walk.take (v:=?_) rfl (by rfl) ?_ ?_;rotate_left
       ·(intro w' hSw;(try dsimp only at hSw);go_simp<;>with_reducible rfl)
       try simp only[Act.put,aA,aC,aB]
      refine Walk.act rfl (by rfl) (fun K hK=>?_);go_simp;go_at_call 50;refine(gW _ HF.out _).mono ?_;rintro r w5 ⟨rfl,rfl⟩;rw[hf];dsimp only;have X1:Below w4.heap.size w4 w4.drew:=aH (Below.refl _ _);refine hK.out _ _ (KG.out _ X1) ?_;clear hK K;try simp only[Act.put,aA,aC,aB]
      iterate 1
       refine Walk.take (v:=?_) rfl (by rfl) ?_ ?_;rotate_left
       ·(intro w' hSw;(try dsimp only at hSw);go_simp<;>with_reducible rfl)
       try simp only[Act.put,aA,aC,aB]
      refine Walk.act rfl (by rfl) (fun K hK=>?_);go_simp;go_at_call 20;refine(aT _ _ _ _).mono ?_;rintro r w6 ⟨rfl,rfl⟩;dsimp only[muE];refine⟨rfl,?_,aG B3.out X1⟩;show _=ckE (jX 3 ps fl l);rw[E.out];rfl
    ·have E:Hid (jX op ps fl l=.ok (bM op l)):=by
      show jX op ps fl l=_;unfold jX;rw[if_neg HZ.out,if_neg (fun h=>h3 h.1)]
     have KG:Hid (∀w',Below w4.heap.size w4 w'→(w'.cell? ⟨w.heap.size,0,none⟩=some (.int .u8 op)∧w'.cell? ⟨w.heap.size,1,none⟩=some (.int .i64 ps)∧w'.cell? ⟨w.heap.size,4,none⟩=some (.int .u64 fl))):=fun w' hw=>by
      obtain⟨x0,x1, -, -,x4, -⟩:=bK (aV hw G3.out);exact⟨x0,x1,x4⟩
     have hb3:(op != 3)=true:=by simp[h3]
     refine aL (S:=fun w'=>w'.cell? ⟨w.heap.size,0,none⟩=some (.int .u8 op)∧w'.cell? ⟨w.heap.size,1,none⟩=some (.int .i64 ps)∧w'.cell? ⟨w.heap.size,4,none⟩=some (.int .u64 fl)) _ [(0,true),(1,true),(2,true),(3,true),(4,true),(5,true),(8,true),(9,true),(6,false),(7,true),(10,false)] (by kernel_rfl) (by kernel_rfl) rfl (by kernel_rfl) (by kernel_rfl) (fun _ _ d _ _ h=>by cases d<;>exact h) (KG.out _ (aH (Below.refl _ _))) ?_
     iterate 4
      refine Walk.take (v:=?_) rfl (by rfl) ?_ ?_;rotate_left
      ·(intro w' hSw;(try dsimp only at hSw);go_simp<;>with_reducible rfl)
      try simp only[Act.put,aA,aC,aB]
     iterate 2
      refine Walk.skip rfl (by rfl) ?_;try simp only[Act.put,aA,aC,aB]
     iterate 2
      refine Walk.take (v:=?_) rfl (by rfl) ?_ ?_;rotate_left
      ·(intro w' hSw;(try dsimp only at hSw);go_simp<;>with_reducible rfl)
      try simp only[Act.put,aA,aC,aB]
     refine Walk.pass rfl (by rfl) (KG.out _ (aH (Below.refl _ _))) ?_;try simp only[Act.put,aA,aC,aB]
     iterate 1
      refine Walk.take (v:=?_) rfl (by rfl) ?_ ?_;rotate_left
      ·(intro w' hSw;(try dsimp only at hSw);go_simp<;>with_reducible rfl)
      try simp only[Act.put,aA,aC,aB]
     refine Walk.act rfl (by rfl) (fun K hK=>?_);go_simp;go_at_call 20;refine(aT _ _ _ _).mono ?_;rintro r w6 ⟨rfl,rfl⟩;dsimp only[muE];have X2:Below w4.heap.size w4 w4.drew:=aH (Below.refl _ _);refine hK.out _ _ (KG.out _ X2) ?_;clear hK K;try simp only[Act.put,aA,aC,aB]
     refine Walk.done ?_;have B6:=Hj (aG B3.out X2);clear X2 KG;go_wp2_with fail;go_ret;refine⟨?_,B6.out⟩;show _=ckE (jX op ps fl l);rw[E.out];rfl
theorem aDH (B R M n:Nat)(S:Sc)(hS:S.good)(e:Ex):CkX B R M n S e:=by
 induction e using Ex.ind with
 | H e ih=>
  intro w hC hI hB hw;rw[Ex.ck_eq];exact aFV B R M n S hS e.h e.k ih w hC hI.ok hI.xs hB (by rw[Ex.wt_eq]at hw;omega)
end Go.Proofs.YtkbicfffokegeaaGreatDoor
