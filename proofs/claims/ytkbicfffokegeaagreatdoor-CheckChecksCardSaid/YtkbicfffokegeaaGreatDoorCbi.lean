/-
  Whatever program is handed in, CheckChecks answers true. (part 35 of 38) Conditions: none beside what the card ties.
-/
import Derived.Test.YtkbicfffokegeaaGreatDoorCbh
namespace Go.Proofs.YtkbicfffokegeaaGreatDoor
set_option maxHeartbeats 16000000
open Go.RowKit
set_option maxRecDepth 100000
def tbX (X:Ck Int):Bool:=match X with
 | .ok t=>t != 1
 | .no _ _=>false
theorem oZ (s:Sl)(k:Nat→St)(ih:∀i,i<s.n→RfB (k i).h.ts (k i).t∧RfB (k i).h.es (k i).l):RfB s k:=by
 intro B S sd sl w hs hD hL hX hB hw hll;have HM:Hid (s.n≤1000000):=aF (pS k s.n) hw;have HW:Hid (∀i,i<s.n→(k i).wt≤1000000):=fun i hi=>by have h3:=iD (f:=fun i=>(k i).wt) hi;have h6:(fun i=>(k i).wt) i=(k i).wt:=rfl;omega
 have HX:=Hj fun w1 (hb:Below w.heap.size w w1)=>hX.below hb hB;have HBB:=Hj hB
 have AC:=Hj fun i (hi:i<s.n) w1 (hb:Below w.heap.size w w1)=>aAi B S sd sl hs (k i) w1 (hD.below hb hB) (hL.below hb hB) ((hX.below hb hB).2.2 i hi) (aF hB hb.size) (by
  have h1:=St.wt_eq (k i);have h2:=HW.out i hi;refine⟨by omega,fun j hj=>?_⟩;have h3:=iD (f:=fun j=>((k i).x j).wt) hj;have h4:(fun j=>((k i).x j).wt) j=((k i).x j).wt:=rfl
  omega)
 have EC:=Hj fun i (hi:i<s.n) w1 (hb:Below w.heap.size w w1)=>pB B S sd sl hs (k i).e w1 (hD.below hb hB) (hL.below hb hB) ((hX.below hb hB).2.2 i hi).ex (aF hB hb.size) (by have h1:=St.wt_eq (k i);have h2:=HW.out i hi;omega);have TC:=Hj fun i (hi:i<s.n) w1 (hb:Below w.heap.size w w1)=>(ih i hi).1 B S sd sl w1 hs (hD.below hb hB) (hL.below hb hB) ((hX.below hb hB).2.2 i hi).ts (aF hB hb.size) (by have h1:=St.wt_eq (k i);have h2:=HW.out i hi;omega) hll;have LC:=Hj fun i (hi:i<s.n) w1 (hb:Below w.heap.size w w1)=>(ih i hi).2 B S sd sl w1 hs (hD.below hb hB) (hL.below hb hB) ((hX.below hb hB).2.2 i hi).es (aF hB hb.size) (by have h1:=St.wt_eq (k i);have h2:=HW.out i hi;omega) hll;have OC:=Hj fun i (hi:i<s.n) w1 (hb:Below w.heap.size w w1)=>aCR (k i) (ih i hi).1 B S sd sl w1 hs (hD.below hb hB) (hL.below hb hB) ((hX.below hb hB).2.2 i hi) (aF hB hb.size) (HW.out i hi) hll;obtain⟨Z,hZ⟩:∃Z,cP (fun i=>(k i).ck aU S) s.n=Z:=⟨_,rfl⟩;have HZ:Hid (cP (fun i=>(k i).ck aU S) s.n=Z):=hZ;rw[hZ];have HSO:=Hj hX.1;clear hZ hs hD hL hX hB hw hll ih;obtain⟨ao,n,c⟩:=s;dsimp only at *;have GS1:=Hj (cD w (scO sd sl S.init))
 have B1:=Hj (bS (Below.refl w.heap.size w) (aD _) (scO sd sl S.init));have S1:Hid ((bx w (scO sd sl S.init)).heap.size=w.heap.size+1):=cJ _ _;show Calls Tryz.prog 25 #[.agg #[.slice sd.ao sd.n sd.c,.slice sl.ao sl.n sl.c,.bool S.init],.slice ao n c] w _;go_enter Tryz.func25,Tryz.ntmps25;go_upto_region 1 with fail;rw[tV w sd sl S.init];generalize bx w (scO sd sl S.init)=w1 at *;have GR0:Hid (Blk (w1.alloc (.cells #[.int .i64 0,.int .i64 0] 32)) (w.heap.size+1) 32 (wrA 0 0)):=by rw[←S1.out];exact Blk.new _ _ _
 have GS0:=Hj (aV (aY w1 (.cells #[.int .i64 0,.int .i64 0] 32)) GS1.out);have BZ0:=Hj (aI B1.out (.cells #[.int .i64 0,.int .i64 0] 32));clear GS1 B1 S1;change (Code.region 1 _ _).wp _ _ _ (w1.alloc (.cells #[.int .i64 0,.int .i64 0] 32));generalize w1.alloc (.cells #[.int .i64 0,.int .i64 0] 32)=w3 at *;go_wp2_with fail
 go_loopg [5] n (fun gk i wr=>∃j:Nat,i=.int .i64 (j:Int)∧Hid (gk=n-j∧j≤n)∧Hid (cP (fun i=>(k i).ck aU S) j=.ok ())∧Hid (Below w3.heap.size w3 wr))
 case atStart=>exact⟨0,rfl,⟨rfl,Nat.zero_le _⟩,rfl,Below.refl _ _⟩
 case round=>
  obtain⟨j,rfl,HJ,HL,BJ⟩:=hrel;have GS:=Hj (aV BJ.out GS0.out);have GR:=Hj (GR0.out.below BJ.out GR0.out.lt);have BZ:=Hj (aG BZ0.out BJ.out)
  by_cases hlt:j<n
  ·have z0:(j:Int)<(n:Int):=by omega
   have ovi:IntKind.i64.wrap ((j:Int)+1)=((j+1:Nat):Int):=by have:=HM.out;rw[IntKind.wrap_i64];omega
   obtain⟨a,b,o,rfl,hA,hb,X, -⟩:=(HX.out _ BZ.out).at hlt;have HLT:=Hj hlt;have XX:=Hj (And.intro hb X);have c1:=X.c1;have hlt':=hlt;clear X hb hlt hlt';go_upto_region 5 with fail;have NB6:Hid (Blk (wr.alloc (.cells #[.int .i64 122,.int .i64 (k j).h.ps] 32)) wr.heap.size 32 (wrA 122 (k j).h.ps)):=Blk.new wr _ _;have B6:=Hj (aY wr (.cells #[.int .i64 122,.int .i64 (k j).h.ps] 32));change (Code.region 5 _ _).wp _ _ _ (wr.alloc (.cells #[.int .i64 122,.int .i64 (k j).h.ps] 32));generalize wr.alloc (.cells #[.int .i64 122,.int .i64 (k j).h.ps] 32)=w6 at *;clear c1;have HBR:=Hj (aF HBB.out BZ.out.size);have TOW:Hid (∀w',Fx (On wr.heap.size) w6.heap.size w6 w'→Below w.heap.size w w'):=fun w' h=>cH (aG BZ.out B6.out) h (fun q hq (x:q=wr.heap.size)=>by have:=BZ.out.size;omega);have HGS:Hid (w.heap.size≠wr.heap.size):=by have h1:=(Array.getElem?_eq_some_iff.1 GS.out).1;show _≠_;omega
   have KGA:Hid (∀w',Fx (On wr.heap.size) w6.heap.size w6 w'→(w'.cell? ⟨w.heap.size,0,none⟩=some (.slice sd.ao sd.n sd.c)∧w'.cell? ⟨w.heap.size,1,none⟩=some (.slice sl.ao sl.n sl.c)∧w'.cell? ⟨w.heap.size,2,none⟩=some (.bool S.init)∧w'.cell? ⟨b,o,none⟩=some (.int .u8 (k j).h.kd)∧w'.cell? ⟨b,o+1,none⟩=some (.int .i64 (k j).h.ps)∧w'.cell? ⟨b,o+2,none⟩=some (.string ⟨(k j).h.nm.toArray⟩)∧w'.cell? ⟨b,o+3,none⟩=some (.slice (k j).h.xs.ao (k j).h.xs.n (k j).h.xs.c)∧w'.cell? ⟨b,o+4,none⟩=some (.int .u8 (k j).e.h.op)∧w'.cell? ⟨b,o+5,none⟩=some (.int .i64 (k j).e.h.ps)∧w'.cell? ⟨b,o+6,none⟩=some (.bool (k j).e.h.bo)∧w'.cell? ⟨b,o+7,none⟩=some (.int .i32 (k j).e.h.it)∧w'.cell? ⟨b,o+8,none⟩=some (.int .u64 (k j).e.h.fl)∧w'.cell? ⟨b,o+9,none⟩=some (.string ⟨(k j).e.h.nm.toArray⟩)∧w'.cell? ⟨b,o+10,none⟩=some (.slice (k j).e.h.s.ao (k j).e.h.s.n (k j).e.h.s.c)∧w'.cell? ⟨b,o+11,none⟩=some (.int .i32 (k j).h.lo)∧w'.cell? ⟨b,o+12,none⟩=some (.int .i32 (k j).h.hi)∧w'.cell? ⟨b,o+13,none⟩=some (.slice (k j).h.ts.ao (k j).h.ts.n (k j).h.ts.c)∧w'.cell? ⟨b,o+14,none⟩=some (.slice (k j).h.es.ao (k j).h.es.n (k j).h.es.c))):=fun w' h=>by
    have h1:=aV B6.out GS.out;obtain⟨q0,q1,q2⟩:=cK ((h.block w.heap.size (Array.getElem?_eq_some_iff.1 h1).1 HGS.out).trans h1);have hbw:Below wr.heap.size wr w':=cH B6.out h (fun q hq (x:q=wr.heap.size)=>by omega);have X:=XX.out.2.below XX.out.1 hbw HBR.out;exact⟨q0,q1,q2,X.c0,X.c1,X.c2,X.c3,X.c4,X.c5,X.c6,X.c7,X.c8,X.c9,X.c10,X.c11,X.c12,X.c13,X.c14⟩
   obtain⟨Y,hY⟩:∃Y,(k j).ck aU S=Y:=⟨_,rfl⟩;have HY:=Hj hY;have NZ:Hid Y.nz:=by show Y.nz;rw[←hY];exact St.ck_nz _ _
   have YE:Hid (Y=if(k j).h.kd=1 then lQ S (k j).h (k j).x (k j).e
     else if(k j).h.kd=2 then((k j).e.ck S).bind fun ty=>(dC (ty == 1) 122 (k j).e.h.ps).bind fun _=>(cP (fun i=>((k j).t i).ck aU S) (k j).h.ts.n).bind fun _=>cP (fun i=>((k j).l i).ck aU S) (k j).h.es.n
     else if(k j).h.kd=3 then aBN S (k j)else .no 122 (k j).h.ps):=by show Y=_;rw[←hY];exact St.ck_eq aU (k j) S
   have ACj:=Hj (AC.out j HLT.out);have ECj:=Hj (EC.out j HLT.out);have TCj:=Hj (TC.out j HLT.out);have LCj:=Hj (LC.out j HLT.out);have OCj:=Hj (OC.out j HLT.out);unfold scV at ACj ECj TCj LCj OCj;unfold stv at ACj OCj;unfold EH.v at ECj;have c0:=(KGA.out w6 (Fx.refl _ _ _)).2.2.2.1;clear hY
   go_upto_block 2 with fail
   clear c0
   go_cut [] (fun wx=>Hid (Blk wx wr.heap.size 32 (wrA Y.er Y.pl))∧Hid (Fx (On wr.heap.size) w6.heap.size w6 wx))
   case first=>
    by_cases k1:(k j).h.kd=1
    case pos=>
     have b1:((k j).h.kd == 1)=true:=by simp[k1]
     obtain rfl:Y=lQ S (k j).h (k j).x (k j).e:=by rw[YE.out,if_pos k1]
     have FK:Hid (Fx (On wr.heap.size) w6.heap.size w6 w6):=Fx.refl _ _ _;have NBK:=Hj NB6.out;clear k1 YE HY NZ ECj TCj LCj OCj;go_upto_region 7 with fail;generalize lQ S (k j).h (k j).x (k j).e=Y at *
     have KG:Hid (∀w',Fx (On wr.heap.size) w6.heap.size w6 w'→(w'.cell? ⟨w.heap.size,0,none⟩=some (.slice sd.ao sd.n sd.c)∧w'.cell? ⟨w.heap.size,1,none⟩=some (.slice sl.ao sl.n sl.c)∧w'.cell? ⟨w.heap.size,2,none⟩=some (.bool S.init)∧w'.cell? ⟨b,o,none⟩=some (.int .u8 (k j).h.kd)∧w'.cell? ⟨b,o+1,none⟩=some (.int .i64 (k j).h.ps)∧w'.cell? ⟨b,o+2,none⟩=some (.string ⟨(k j).h.nm.toArray⟩)∧w'.cell? ⟨b,o+3,none⟩=some (.slice (k j).h.xs.ao (k j).h.xs.n (k j).h.xs.c)∧w'.cell? ⟨b,o+4,none⟩=some (.int .u8 (k j).e.h.op)∧w'.cell? ⟨b,o+5,none⟩=some (.int .i64 (k j).e.h.ps)∧w'.cell? ⟨b,o+6,none⟩=some (.bool (k j).e.h.bo)∧w'.cell? ⟨b,o+7,none⟩=some (.int .i32 (k j).e.h.it)∧w'.cell? ⟨b,o+8,none⟩=some (.int .u64 (k j).e.h.fl)∧w'.cell? ⟨b,o+9,none⟩=some (.string ⟨(k j).e.h.nm.toArray⟩)∧w'.cell? ⟨b,o+10,none⟩=some (.slice (k j).e.h.s.ao (k j).e.h.s.n (k j).e.h.s.c)∧w'.cell? ⟨b,o+11,none⟩=some (.int .i32 (k j).h.lo)∧w'.cell? ⟨b,o+12,none⟩=some (.int .i32 (k j).h.hi)∧w'.cell? ⟨b,o+13,none⟩=some (.slice (k j).h.ts.ao (k j).h.ts.n (k j).h.ts.c)∧w'.cell? ⟨b,o+14,none⟩=some (.slice (k j).h.es.ao (k j).h.es.n (k j).h.es.c))):=fun w' h=>KGA.out w' (aJ FK.out h)
     refine bY (S:=fun w'=>w'.cell? ⟨w.heap.size,0,none⟩=some (.slice sd.ao sd.n sd.c)∧w'.cell? ⟨w.heap.size,1,none⟩=some (.slice sl.ao sl.n sl.c)∧w'.cell? ⟨w.heap.size,2,none⟩=some (.bool S.init)∧w'.cell? ⟨b,o,none⟩=some (.int .u8 (k j).h.kd)∧w'.cell? ⟨b,o+1,none⟩=some (.int .i64 (k j).h.ps)∧w'.cell? ⟨b,o+2,none⟩=some (.string ⟨(k j).h.nm.toArray⟩)∧w'.cell? ⟨b,o+3,none⟩=some (.slice (k j).h.xs.ao (k j).h.xs.n (k j).h.xs.c)∧w'.cell? ⟨b,o+4,none⟩=some (.int .u8 (k j).e.h.op)∧w'.cell? ⟨b,o+5,none⟩=some (.int .i64 (k j).e.h.ps)∧w'.cell? ⟨b,o+6,none⟩=some (.bool (k j).e.h.bo)∧w'.cell? ⟨b,o+7,none⟩=some (.int .i32 (k j).e.h.it)∧w'.cell? ⟨b,o+8,none⟩=some (.int .u64 (k j).e.h.fl)∧w'.cell? ⟨b,o+9,none⟩=some (.string ⟨(k j).e.h.nm.toArray⟩)∧w'.cell? ⟨b,o+10,none⟩=some (.slice (k j).e.h.s.ao (k j).e.h.s.n (k j).e.h.s.c)∧w'.cell? ⟨b,o+11,none⟩=some (.int .i32 (k j).h.lo)∧w'.cell? ⟨b,o+12,none⟩=some (.int .i32 (k j).h.hi)∧w'.cell? ⟨b,o+13,none⟩=some (.slice (k j).h.ts.ao (k j).h.ts.n (k j).h.ts.c)∧w'.cell? ⟨b,o+14,none⟩=some (.slice (k j).h.es.ao (k j).h.es.n (k j).h.es.c)) _ (.take 0 (.take 1 (.take 2 (.take 3 (.take 4 (.act 5 (.act 6 .done))))))) (by kernel_rfl) (by kernel_rfl) rfl (by kernel_rfl) (by kernel_rfl) (fun _ _ d _ _ h=>by cases d<;>exact h) (KG.out _ (Fx.of (aH (Below.refl _ _)))) ?_
     iterate 5
      refine aN.take (v:=?_) rfl (by rfl) ?_ ?_;rotate_left
      ·(intro w' hSw;(try dsimp only at hSw);go_simp<;>with_reducible rfl)
      try simp only[Act.put,aA,aC,aB]
     refine aN.act rfl (by rfl) (fun K hK=>?_);go_simp;go_at_call 44;refine(ACj.out _ (TOW.out _ (aZ FK.out (aH (Below.refl _ _))))).mono ?_;rintro r wc ⟨rfl,hbc⟩;dsimp only[unW];have X1:Fx (On wr.heap.size) w6.heap.size w6 wc:=Fx.of (aG (aH (Below.refl _ _)) hbc);have NC:=NBK.out.drew.below hbc NBK.out.drew.lt;refine hK.out _ _ (KG.out _ X1) ?_;clear hK K;try simp only[Act.put,aA,aC,aB]
     refine aN.act rfl (by rfl) (fun K hK=>?_);refine cO (Y).er (Y).pl wr.heap.size _ NC rfl _ _ rfl rfl rfl ?_;have X2:=bI X1 (g:=wr.heap.size) (.inl rfl) (wrA (Y).er (Y).pl);refine hK.out _ _ (KG.out _ X2) ?_;clear hK K;try simp only[Act.put]
     refine aN.done ?_;go_wp2_with fail;go_meet;exact⟨NC.rowS _,X2⟩
    case neg=>
     have b1:=mN k1
     by_cases k2:(k j).h.kd=2
     case neg=>
      have b2:=mN k2
      by_cases k3:(k j).h.kd=3
      case pos=>
       have b3:((k j).h.kd == 3)=true:=by simp[k3]
       obtain rfl:Y=aBN S (k j):=by rw[YE.out,if_neg k1,if_neg k2,if_pos k3]
       have FK:Hid (Fx (On wr.heap.size) w6.heap.size w6 w6):=Fx.refl _ _ _;have NBK:=Hj NB6.out;clear k1 k2 k3 YE HY NZ ECj TCj LCj ACj;go_upto_region 18 with fail;generalize aBN S (k j)=Y at *
       have KG:Hid (∀w',Fx (On wr.heap.size) w6.heap.size w6 w'→(w'.cell? ⟨w.heap.size,0,none⟩=some (.slice sd.ao sd.n sd.c)∧w'.cell? ⟨w.heap.size,1,none⟩=some (.slice sl.ao sl.n sl.c)∧w'.cell? ⟨w.heap.size,2,none⟩=some (.bool S.init)∧w'.cell? ⟨b,o,none⟩=some (.int .u8 (k j).h.kd)∧w'.cell? ⟨b,o+1,none⟩=some (.int .i64 (k j).h.ps)∧w'.cell? ⟨b,o+2,none⟩=some (.string ⟨(k j).h.nm.toArray⟩)∧w'.cell? ⟨b,o+3,none⟩=some (.slice (k j).h.xs.ao (k j).h.xs.n (k j).h.xs.c)∧w'.cell? ⟨b,o+4,none⟩=some (.int .u8 (k j).e.h.op)∧w'.cell? ⟨b,o+5,none⟩=some (.int .i64 (k j).e.h.ps)∧w'.cell? ⟨b,o+6,none⟩=some (.bool (k j).e.h.bo)∧w'.cell? ⟨b,o+7,none⟩=some (.int .i32 (k j).e.h.it)∧w'.cell? ⟨b,o+8,none⟩=some (.int .u64 (k j).e.h.fl)∧w'.cell? ⟨b,o+9,none⟩=some (.string ⟨(k j).e.h.nm.toArray⟩)∧w'.cell? ⟨b,o+10,none⟩=some (.slice (k j).e.h.s.ao (k j).e.h.s.n (k j).e.h.s.c)∧w'.cell? ⟨b,o+11,none⟩=some (.int .i32 (k j).h.lo)∧w'.cell? ⟨b,o+12,none⟩=some (.int .i32 (k j).h.hi)∧w'.cell? ⟨b,o+13,none⟩=some (.slice (k j).h.ts.ao (k j).h.ts.n (k j).h.ts.c)∧w'.cell? ⟨b,o+14,none⟩=some (.slice (k j).h.es.ao (k j).h.es.n (k j).h.es.c))):=fun w' h=>KGA.out w' (aJ FK.out h)
       refine bY (S:=fun w'=>w'.cell? ⟨w.heap.size,0,none⟩=some (.slice sd.ao sd.n sd.c)∧w'.cell? ⟨w.heap.size,1,none⟩=some (.slice sl.ao sl.n sl.c)∧w'.cell? ⟨w.heap.size,2,none⟩=some (.bool S.init)∧w'.cell? ⟨b,o,none⟩=some (.int .u8 (k j).h.kd)∧w'.cell? ⟨b,o+1,none⟩=some (.int .i64 (k j).h.ps)∧w'.cell? ⟨b,o+2,none⟩=some (.string ⟨(k j).h.nm.toArray⟩)∧w'.cell? ⟨b,o+3,none⟩=some (.slice (k j).h.xs.ao (k j).h.xs.n (k j).h.xs.c)∧w'.cell? ⟨b,o+4,none⟩=some (.int .u8 (k j).e.h.op)∧w'.cell? ⟨b,o+5,none⟩=some (.int .i64 (k j).e.h.ps)∧w'.cell? ⟨b,o+6,none⟩=some (.bool (k j).e.h.bo)∧w'.cell? ⟨b,o+7,none⟩=some (.int .i32 (k j).e.h.it)∧w'.cell? ⟨b,o+8,none⟩=some (.int .u64 (k j).e.h.fl)∧w'.cell? ⟨b,o+9,none⟩=some (.string ⟨(k j).e.h.nm.toArray⟩)∧w'.cell? ⟨b,o+10,none⟩=some (.slice (k j).e.h.s.ao (k j).e.h.s.n (k j).e.h.s.c)∧w'.cell? ⟨b,o+11,none⟩=some (.int .i32 (k j).h.lo)∧w'.cell? ⟨b,o+12,none⟩=some (.int .i32 (k j).h.hi)∧w'.cell? ⟨b,o+13,none⟩=some (.slice (k j).h.ts.ao (k j).h.ts.n (k j).h.ts.c)∧w'.cell? ⟨b,o+14,none⟩=some (.slice (k j).h.es.ao (k j).h.es.n (k j).h.es.c)) _ (.take 0 (.take 1 (.take 2 (.take 3 (.take 4 (.act 5 (.act 6 .done))))))) (by kernel_rfl) (by kernel_rfl) rfl (by kernel_rfl) (by kernel_rfl) (fun _ _ d _ _ h=>by cases d<;>exact h) (KG.out _ (Fx.of (aH (Below.refl _ _)))) ?_
       iterate 5
        refine aN.take (v:=?_) rfl (by rfl) ?_ ?_;rotate_left
        ·(intro w' hSw;(try dsimp only at hSw);go_simp<;>with_reducible rfl)
        try simp only[Act.put,aA,aC,aB]
       refine aN.act rfl (by rfl) (fun K hK=>?_);go_simp;go_at_call 46;refine(OCj.out _ (TOW.out _ (aZ FK.out (aH (Below.refl _ _))))).mono ?_;rintro r wc ⟨rfl,hbc⟩;dsimp only[unW];have X1:Fx (On wr.heap.size) w6.heap.size w6 wc:=Fx.of (aG (aH (Below.refl _ _)) hbc);have NC:=NBK.out.drew.below hbc NBK.out.drew.lt;refine hK.out _ _ (KG.out _ X1) ?_;clear hK K;try simp only[Act.put,aA,aC,aB]
       refine aN.act rfl (by rfl) (fun K hK=>?_);refine cO (Y).er (Y).pl wr.heap.size _ NC rfl _ _ rfl rfl rfl ?_;have X2:=bI X1 (g:=wr.heap.size) (.inl rfl) (wrA (Y).er (Y).pl);refine hK.out _ _ (KG.out _ X2) ?_;clear hK K;try simp only[Act.put]
       refine aN.done ?_;go_wp2_with fail;go_meet;exact⟨NC.rowS _,X2⟩
      case neg=>
       have b3:=mN k3;obtain rfl:Y=.no 122 (k j).h.ps:=by rw[YE.out,if_neg k1,if_neg k2,if_neg k3]
       clear k1 k2 k3 YE HY NZ ECj TCj LCj ACj OCj;go_wp2_with fail;go_meet;exact⟨NB6.out,Fx.refl _ _ _⟩
     case pos=>
      have b2:((k j).h.kd == 2)=true:=by simp[k2]
      have Y2:=YE.out;rw[if_neg k1,if_pos k2]at Y2;replace Y2:=Hj Y2;clear k1 k2 YE ACj OCj;have NX:=Hj (Ex.ck_nz S (k j).e);have NT:=Hj (qG (f:=fun i=>((k j).t i).ck aU S) (n:=(k j).h.ts.n) fun i _=>St.ck_nz _ _);generalize (k j).e.ck S=X at *;generalize cP (fun i=>((k j).t i).ck aU S) (k j).h.ts.n=T at *;generalize cP (fun i=>((k j).l i).ck aU S) (k j).h.es.n=L at *;go_upto_region 9 with fail
      go_cut [7,8] (fun t v wx=>∃be:Nat,t=.int .u8 (X.va 0)∧v=.pointer (some ⟨be,0,none⟩)∧Hid (Blk wx be 32 (wrA X.er X.pl))∧Hid (Below w6.heap.size w6 wx)∧Hid (w6.heap.size≤be))
      case first=>
       have KG:Hid (∀w',Below w6.heap.size w6 w'→(w'.cell? ⟨w.heap.size,0,none⟩=some (.slice sd.ao sd.n sd.c)∧w'.cell? ⟨w.heap.size,1,none⟩=some (.slice sl.ao sl.n sl.c)∧w'.cell? ⟨w.heap.size,2,none⟩=some (.bool S.init)∧w'.cell? ⟨b,o,none⟩=some (.int .u8 (k j).h.kd)∧w'.cell? ⟨b,o+1,none⟩=some (.int .i64 (k j).h.ps)∧w'.cell? ⟨b,o+2,none⟩=some (.string ⟨(k j).h.nm.toArray⟩)∧w'.cell? ⟨b,o+3,none⟩=some (.slice (k j).h.xs.ao (k j).h.xs.n (k j).h.xs.c)∧w'.cell? ⟨b,o+4,none⟩=some (.int .u8 (k j).e.h.op)∧w'.cell? ⟨b,o+5,none⟩=some (.int .i64 (k j).e.h.ps)∧w'.cell? ⟨b,o+6,none⟩=some (.bool (k j).e.h.bo)∧w'.cell? ⟨b,o+7,none⟩=some (.int .i32 (k j).e.h.it)∧w'.cell? ⟨b,o+8,none⟩=some (.int .u64 (k j).e.h.fl)∧w'.cell? ⟨b,o+9,none⟩=some (.string ⟨(k j).e.h.nm.toArray⟩)∧w'.cell? ⟨b,o+10,none⟩=some (.slice (k j).e.h.s.ao (k j).e.h.s.n (k j).e.h.s.c)∧w'.cell? ⟨b,o+11,none⟩=some (.int .i32 (k j).h.lo)∧w'.cell? ⟨b,o+12,none⟩=some (.int .i32 (k j).h.hi)∧w'.cell? ⟨b,o+13,none⟩=some (.slice (k j).h.ts.ao (k j).h.ts.n (k j).h.ts.c)∧w'.cell? ⟨b,o+14,none⟩=some (.slice (k j).h.es.ao (k j).h.es.n (k j).h.es.c))):=fun w' h=>KGA.out w' (Fx.of h)
       have IH:Hid (∀w',Below w6.heap.size w6 w'→Calls Tryz.prog 45 #[.agg #[.slice sd.ao sd.n sd.c,.slice sl.ao sl.n sl.c,.bool S.init],.agg #[.int .u8 (k j).e.h.op,.int .i64 (k j).e.h.ps,.bool (k j).e.h.bo,.int .i32 (k j).e.h.it,.int .u64 (k j).e.h.fl,.string ⟨(k j).e.h.nm.toArray⟩,.slice (k j).e.h.s.ao (k j).e.h.s.n (k j).e.h.s.c]] w' fun r w''=>r=xpE X∧Below w'.heap.size w' w''):=fun w' h=>ECj.out w' (TOW.out w' (Fx.of h))
       refine bY (S:=fun w'=>w'.cell? ⟨w.heap.size,0,none⟩=some (.slice sd.ao sd.n sd.c)∧w'.cell? ⟨w.heap.size,1,none⟩=some (.slice sl.ao sl.n sl.c)∧w'.cell? ⟨w.heap.size,2,none⟩=some (.bool S.init)∧w'.cell? ⟨b,o,none⟩=some (.int .u8 (k j).h.kd)∧w'.cell? ⟨b,o+1,none⟩=some (.int .i64 (k j).h.ps)∧w'.cell? ⟨b,o+2,none⟩=some (.string ⟨(k j).h.nm.toArray⟩)∧w'.cell? ⟨b,o+3,none⟩=some (.slice (k j).h.xs.ao (k j).h.xs.n (k j).h.xs.c)∧w'.cell? ⟨b,o+4,none⟩=some (.int .u8 (k j).e.h.op)∧w'.cell? ⟨b,o+5,none⟩=some (.int .i64 (k j).e.h.ps)∧w'.cell? ⟨b,o+6,none⟩=some (.bool (k j).e.h.bo)∧w'.cell? ⟨b,o+7,none⟩=some (.int .i32 (k j).e.h.it)∧w'.cell? ⟨b,o+8,none⟩=some (.int .u64 (k j).e.h.fl)∧w'.cell? ⟨b,o+9,none⟩=some (.string ⟨(k j).e.h.nm.toArray⟩)∧w'.cell? ⟨b,o+10,none⟩=some (.slice (k j).e.h.s.ao (k j).e.h.s.n (k j).e.h.s.c)∧w'.cell? ⟨b,o+11,none⟩=some (.int .i32 (k j).h.lo)∧w'.cell? ⟨b,o+12,none⟩=some (.int .i32 (k j).h.hi)∧w'.cell? ⟨b,o+13,none⟩=some (.slice (k j).h.ts.ao (k j).h.ts.n (k j).h.ts.c)∧w'.cell? ⟨b,o+14,none⟩=some (.slice (k j).h.es.ao (k j).h.es.n (k j).h.es.c)) _ (.take 0 (.take 1 (.take 2 (.take 3 (.take 4 (.take 5 (.two 6 (.take 7 (.take 8 (.take 9 (.act 10 (.take 11 (.act 12 .done)))))) 10 (.act 6 (.take 7 (.take 8 (.take 9 (.take 11 (.act 12 .done))))))))))))) (by kernel_rfl) (by kernel_rfl) rfl (by kernel_rfl) (by kernel_rfl) (fun _ _ d _ _ h=>by cases d<;>exact h) (KG.out _ (aH (Below.refl _ _))) ?_
       iterate 6
        refine aN.take (v:=?_) rfl (by rfl) ?_ ?_;rotate_left
        ·(intro w' hSw;(try dsimp only at hSw);go_simp<;>with_reducible rfl)
        try simp only[Act.put,aA,aC,aB]
       refine⟨bF rfl (by rfl) (fun K hK=>?_),bF rfl (by rfl) (fun K hK=>?_)⟩
       ·go_simp
        go_at_call 45;refine(IH.out _ (by repeat (first|exact Below.refl _ _|refine aH ?_|refine aI ?_ _))).mono ?_;rintro r wc ⟨rfl,hbc⟩;dsimp only[xpE];have X1:Below w6.heap.size w6 wc:=(by refine aG ?_ hbc;repeat (first|exact Below.refl _ _|refine aH ?_|refine aI ?_ _));refine hK.out _ _ (KG.out _ X1) ?_;clear hK K;try simp only[Act.put,aA,aC,aB]
        iterate 3
         refine aN.take (v:=?_) rfl (by rfl) ?_ ?_;rotate_left
         ·(intro w' hSw;(try dsimp only at hSw);go_simp<;>with_reducible rfl)
         try simp only[Act.put,aA,aC,aB]
        refine aN.act rfl (by rfl) (fun K hK=>?_);go_simp;refine hK.out _ _ (KG.out _ (by repeat (first|exact Below.refl _ _|exact X1|refine aH ?_|refine aI ?_ _))) ?_;clear hK K;try simp only[Act.put,aA,aC,aB]
        iterate 1
         refine aN.take (v:=?_) rfl (by rfl) ?_ ?_;rotate_left
         ·(intro w' hSw;(try dsimp only at hSw);go_simp<;>with_reducible rfl)
         try simp only[Act.put,aA,aC,aB]
        refine aN.act rfl (by rfl) (fun K hK=>?_);refine cO (X).er (X).pl wc.heap.size _ (Blk.new wc 32 (wrA 0 0)) rfl _ _ rfl rfl rfl ?_;have X2:=aR (aI X1 (.cells (wrA 0 0) 32 (0,0))) (aD _) X1.size (wrA (X).er (X).pl);refine hK.out _ _ (KG.out _ X2) ?_;clear hK K;try simp only[Act.put]
        refine aN.done ?_;go_wp2_with fail;go_meet;exact⟨_,rfl,rfl,((Blk.new wc 32 (wrA 0 0)).rowS _),X2,X1.size⟩
       ·go_simp
        refine hK.out _ _ (KG.out _ (by repeat (first|exact Below.refl _ _|exact X1|refine aH ?_|refine aI ?_ _))) ?_;clear hK K;try simp only[Act.put,aA,aC,aB]
        refine aN.act rfl (by rfl) (fun K hK=>?_);go_simp;go_at_call 45;refine(IH.out _ (by repeat (first|exact Below.refl _ _|refine aH ?_|refine aI ?_ _))).mono ?_;rintro r wc ⟨rfl,hbc⟩;dsimp only[xpE];have X1:Below w6.heap.size w6 wc:=(by refine aG ?_ hbc;repeat (first|exact Below.refl _ _|refine aH ?_|refine aI ?_ _));have Kq:Blk wc w6.heap.size 32 (wrA 0 0):=(Blk.drew (Blk.new w6 32 (wrA 0 0))).below hbc (Blk.drew (Blk.new w6 32 (wrA 0 0))).lt;refine hK.out _ _ (KG.out _ X1) ?_;clear hK K;try simp only[Act.put,aA,aC,aB]
        iterate 4
         refine aN.take (v:=?_) rfl (by rfl) ?_ ?_;rotate_left
         ·(intro w' hSw;(try dsimp only at hSw);go_simp<;>with_reducible rfl)
         try simp only[Act.put,aA,aC,aB]
        refine aN.act rfl (by rfl) (fun K hK=>?_);refine cO (X).er (X).pl w6.heap.size _ Kq rfl _ _ rfl rfl rfl ?_;have X2:=aR X1 (aD _) (aD _) (wrA (X).er (X).pl);refine hK.out _ _ (KG.out _ X2) ?_;clear hK K;try simp only[Act.put]
        refine aN.done ?_;go_wp2_with fail;go_meet;exact⟨_,rfl,rfl,(Kq.rowS _),X2,(aD _)⟩
      case rest=>
       obtain⟨be,rfl,rfl,NBE,bx7,HG⟩:=hcut;generalize wc=w7 at *;have F7:Hid (Fx (On wr.heap.size) w6.heap.size w6 w7):=Fx.of bx7.out;have NB7:=Hj (NB6.out.below bx7.out NB6.out.lt);have NE7:Hid (be≠wr.heap.size):=by have h1:=HG.out;have h2:=NB6.out.lt;show be≠_;omega
       clear HG bx7 ECj
       go_upto_region 11 with(first|refine zG X.er X.pl be NBE.out rfl _ rfl rfl ?_|refine dR X.er X.pl wr.heap.size _ NB7.out rfl rfl _ _ rfl rfl rfl ?_)
       have K8:Hid (Blk (w7.setRow wr.heap.size (wrA X.er X.pl)) wr.heap.size 32 (wrA X.er X.pl)):=NB7.out.rowS _;have F8:=Hj (aJ F7.out (bI (Fx.refl (On wr.heap.size) _ w7) (g:=wr.heap.size) (.inl rfl) (wrA X.er X.pl)));clear NB7 F7 NBE NE7;generalize w7.setRow wr.heap.size (wrA X.er X.pl)=w8 at *;try simp only[Act.put,aA,aC,aB]
       have n0:w8.cell? ⟨wr.heap.size,0,none⟩=some (.int .i64 X.er):=K8.out.cell 0
       go_cut [53] (fun v wx=>v=.bool (tbX X)∧wx=w8)
       case first=>
        cases X with
        | no c q=>
         have hz:=NX.out c q rfl;have hb:(c == 0)=false:=mN (by omega);dsimp only[Ck.er,Ck.va]at *;clear hz Y2;go_wp2_with fail;go_meet;exact⟨rfl,rfl⟩
        | ok t=>
         dsimp only[Ck.er,Ck.va]at *;clear Y2;go_wp2_with fail;go_meet;exact⟨rfl,rfl⟩
       case rest=>
       obtain⟨rfl,hwx⟩:=hcut;rw[hwx];clear hwx wc n0;obtain⟨W1,hW1⟩:∃W1,(X.bind fun ty=>dC (ty == 1) 122 (k j).e.h.ps)=W1:=⟨_,rfl⟩;have HW1:=Hj hW1
       have Y3:Hid (Y=W1.bind fun _=>T.bind fun _=>L):=by
        show Y=_;rw[Y2.out,←hW1];cases X<;>rfl
       have NW1:Hid W1.nz:=by show W1.nz;rw[←hW1];exact eO NX.out fun _=>uM (by decide)
       clear hW1 Y2
       go_upto_if 53 with fail
       go_cut [53] (fun v wx=>(∃bb:Bool,v=.bool bb)∧Hid (Blk wx wr.heap.size 32 (wrA W1.er W1.pl))∧Hid (Fx (On wr.heap.size) w6.heap.size w6 wx))
       case first=>
        cases X with
        | no c q=>
         obtain rfl:.no c q=W1:=HW1.out;dsimp only[tbX,Ck.va]at *;clear NX NW1 Y3;go_wp2_with fail;go_meet;exact⟨⟨_,rfl⟩,K8.out,F8.out⟩
        | ok t=>
         dsimp only[tbX,Ck.va]at *
         by_cases ht:t=1
         case pos=>
          subst ht;obtain rfl:.ok ()=W1:=HW1.out;clear NX NW1 Y3;go_wp2_with fail;go_meet;exact⟨⟨_,rfl⟩,K8.out,F8.out⟩
         case neg=>
          obtain rfl:.no 122 (k j).e.h.ps=W1:=by rw[←HW1.out];show _=dC (t == 1) _ _;rw[mN ht];rfl
          have hb:(t != 1)=true:=by simp[ht]
          have e5:=(KGA.out w8 F8.out).2.2.2.2.2.2.2.2.1;clear NX NW1 Y3 ht
          go_wp2_with (refine dR 122 (k j).e.h.ps wr.heap.size _ K8.out rfl rfl _ _ rfl rfl rfl ?_)
          go_meet;exact⟨⟨_,rfl⟩,K8.out.rowS _,aJ F8.out (bI (Fx.refl (On wr.heap.size) _ w8) (g:=wr.heap.size) (.inl rfl) _)⟩
       case rest=>
       obtain⟨⟨bb,rfl⟩,NBK,FK⟩:=hcut;generalize wc=w9 at *;clear K8 F8 NX HW1;have n0:w9.cell? ⟨wr.heap.size,0,none⟩=some (.int .i64 W1.er):=NBK.out.cell 0
       go_upto_if 63 with fail
       obtain⟨W2,hW2⟩:∃W2,(W1.bind fun _=>T)=W2:=⟨_,rfl⟩;have HW2:=Hj hW2
       have Y4:Hid (Y=W2.bind fun _=>L):=by
        show Y=_;rw[Y3.out,←hW2];cases W1<;>rfl
       have NW2:Hid W2.nz:=by show W2.nz;rw[←hW2];exact eO NW1.out fun _=>NT.out
       clear hW2 Y3
       go_cut [63] (fun v wx=>(∃bb:Bool,v=.bool bb)∧Hid (Blk wx wr.heap.size 32 (wrA W2.er W2.pl))∧Hid (Fx (On wr.heap.size) w6.heap.size w6 wx))
       case first=>
        cases W1 with
        | no c q=>
         have hz:=NW1.out c q rfl;have hb:(c == 0)=false:=mN (by omega);obtain rfl:.no c q=W2:=HW2.out;dsimp only[Ck.er]at *;clear hz NW1 NW2 Y4;go_wp2_with fail;go_meet;exact⟨⟨_,rfl⟩,NBK.out,FK.out⟩
        | ok u=>
         obtain rfl:T=W2:=HW2.out;dsimp only[Ck.er]at *;clear NW1 NW2 Y4 n0;go_upto_region 14 with fail
         have KG:Hid (∀w',Fx (On wr.heap.size) w9.heap.size w9 w'→(w'.cell? ⟨w.heap.size,0,none⟩=some (.slice sd.ao sd.n sd.c)∧w'.cell? ⟨w.heap.size,1,none⟩=some (.slice sl.ao sl.n sl.c)∧w'.cell? ⟨w.heap.size,2,none⟩=some (.bool S.init)∧w'.cell? ⟨b,o,none⟩=some (.int .u8 (k j).h.kd)∧w'.cell? ⟨b,o+1,none⟩=some (.int .i64 (k j).h.ps)∧w'.cell? ⟨b,o+2,none⟩=some (.string ⟨(k j).h.nm.toArray⟩)∧w'.cell? ⟨b,o+3,none⟩=some (.slice (k j).h.xs.ao (k j).h.xs.n (k j).h.xs.c)∧w'.cell? ⟨b,o+4,none⟩=some (.int .u8 (k j).e.h.op)∧w'.cell? ⟨b,o+5,none⟩=some (.int .i64 (k j).e.h.ps)∧w'.cell? ⟨b,o+6,none⟩=some (.bool (k j).e.h.bo)∧w'.cell? ⟨b,o+7,none⟩=some (.int .i32 (k j).e.h.it)∧w'.cell? ⟨b,o+8,none⟩=some (.int .u64 (k j).e.h.fl)∧w'.cell? ⟨b,o+9,none⟩=some (.string ⟨(k j).e.h.nm.toArray⟩)∧w'.cell? ⟨b,o+10,none⟩=some (.slice (k j).e.h.s.ao (k j).e.h.s.n (k j).e.h.s.c)∧w'.cell? ⟨b,o+11,none⟩=some (.int .i32 (k j).h.lo)∧w'.cell? ⟨b,o+12,none⟩=some (.int .i32 (k j).h.hi)∧w'.cell? ⟨b,o+13,none⟩=some (.slice (k j).h.ts.ao (k j).h.ts.n (k j).h.ts.c)∧w'.cell? ⟨b,o+14,none⟩=some (.slice (k j).h.es.ao (k j).h.es.n (k j).h.es.c))):=fun w' h=>KGA.out w' (aJ FK.out h)
         refine bY (S:=fun w'=>w'.cell? ⟨w.heap.size,0,none⟩=some (.slice sd.ao sd.n sd.c)∧w'.cell? ⟨w.heap.size,1,none⟩=some (.slice sl.ao sl.n sl.c)∧w'.cell? ⟨w.heap.size,2,none⟩=some (.bool S.init)∧w'.cell? ⟨b,o,none⟩=some (.int .u8 (k j).h.kd)∧w'.cell? ⟨b,o+1,none⟩=some (.int .i64 (k j).h.ps)∧w'.cell? ⟨b,o+2,none⟩=some (.string ⟨(k j).h.nm.toArray⟩)∧w'.cell? ⟨b,o+3,none⟩=some (.slice (k j).h.xs.ao (k j).h.xs.n (k j).h.xs.c)∧w'.cell? ⟨b,o+4,none⟩=some (.int .u8 (k j).e.h.op)∧w'.cell? ⟨b,o+5,none⟩=some (.int .i64 (k j).e.h.ps)∧w'.cell? ⟨b,o+6,none⟩=some (.bool (k j).e.h.bo)∧w'.cell? ⟨b,o+7,none⟩=some (.int .i32 (k j).e.h.it)∧w'.cell? ⟨b,o+8,none⟩=some (.int .u64 (k j).e.h.fl)∧w'.cell? ⟨b,o+9,none⟩=some (.string ⟨(k j).e.h.nm.toArray⟩)∧w'.cell? ⟨b,o+10,none⟩=some (.slice (k j).e.h.s.ao (k j).e.h.s.n (k j).e.h.s.c)∧w'.cell? ⟨b,o+11,none⟩=some (.int .i32 (k j).h.lo)∧w'.cell? ⟨b,o+12,none⟩=some (.int .i32 (k j).h.hi)∧w'.cell? ⟨b,o+13,none⟩=some (.slice (k j).h.ts.ao (k j).h.ts.n (k j).h.ts.c)∧w'.cell? ⟨b,o+14,none⟩=some (.slice (k j).h.es.ao (k j).h.es.n (k j).h.es.c)) _ (.take 0 (.take 1 (.take 2 (.take 3 (.take 4 (.take 5 (.act 6 (.act 7 .done)))))))) (by kernel_rfl) (by kernel_rfl) rfl (by kernel_rfl) (by kernel_rfl) (fun _ _ d _ _ h=>by cases d<;>exact h) (KG.out _ (Fx.of (aH (Below.refl _ _)))) ?_
         iterate 6
          refine aN.take (v:=?_) rfl (by rfl) ?_ ?_;rotate_left
          ·(intro w' hSw;(try dsimp only at hSw);go_simp<;>with_reducible rfl)
          try simp only[Act.put,aA,aC,aB]
         refine aN.act rfl (by rfl) (fun K hK=>?_);go_simp;go_at_call 25;refine(TCj.out _ (TOW.out _ (aZ FK.out (aH (Below.refl _ _))))).mono ?_;rintro r wc ⟨rfl,hbc⟩;dsimp only[unW];have X1:Fx (On wr.heap.size) w9.heap.size w9 wc:=Fx.of (aG (aH (Below.refl _ _)) hbc);have NC:=NBK.out.drew.below hbc NBK.out.drew.lt;refine hK.out _ _ (KG.out _ X1) ?_;clear hK K;try simp only[Act.put,aA,aC,aB]
         refine aN.act rfl (by rfl) (fun K hK=>?_);refine cO (T).er (T).pl wr.heap.size _ NC rfl _ _ rfl rfl rfl ?_;have X2:=bI X1 (g:=wr.heap.size) (.inl rfl) (wrA (T).er (T).pl);refine hK.out _ _ (KG.out _ X2) ?_;clear hK K;try simp only[Act.put]
         refine aN.done ?_;go_wp2_with fail;go_meet;exact⟨⟨_,rfl⟩,NC.rowS _,aJ FK.out X2⟩
       case rest=>
       obtain⟨⟨bb2,rfl⟩,NBK2,FK2⟩:=hcut;clear NBK FK n0 HW2 NW1;have NBK:=Hj NBK2.out;have FK:=Hj FK2.out;clear NBK2 FK2;generalize wc=w10 at *;have n0:w10.cell? ⟨wr.heap.size,0,none⟩=some (.int .i64 W2.er):=NBK.out.cell 0
       cases W2 with
       | no c q=>
        have hz:=NW2.out c q rfl;have hb:(c == 0)=false:=mN (by omega);obtain rfl:Y=.no c q:=Y4.out;dsimp only[Ck.er]at *;clear hz NW2 Y4 HY;go_wp2_with fail;go_meet;exact⟨NBK.out,FK.out⟩
       | ok u=>
        obtain rfl:Y=L:=Y4.out;dsimp only[Ck.er]at *;clear NW2 Y4 HY;go_upto_region 16 with fail;clear n0
        have KG:Hid (∀w',Fx (On wr.heap.size) w10.heap.size w10 w'→(w'.cell? ⟨w.heap.size,0,none⟩=some (.slice sd.ao sd.n sd.c)∧w'.cell? ⟨w.heap.size,1,none⟩=some (.slice sl.ao sl.n sl.c)∧w'.cell? ⟨w.heap.size,2,none⟩=some (.bool S.init)∧w'.cell? ⟨b,o,none⟩=some (.int .u8 (k j).h.kd)∧w'.cell? ⟨b,o+1,none⟩=some (.int .i64 (k j).h.ps)∧w'.cell? ⟨b,o+2,none⟩=some (.string ⟨(k j).h.nm.toArray⟩)∧w'.cell? ⟨b,o+3,none⟩=some (.slice (k j).h.xs.ao (k j).h.xs.n (k j).h.xs.c)∧w'.cell? ⟨b,o+4,none⟩=some (.int .u8 (k j).e.h.op)∧w'.cell? ⟨b,o+5,none⟩=some (.int .i64 (k j).e.h.ps)∧w'.cell? ⟨b,o+6,none⟩=some (.bool (k j).e.h.bo)∧w'.cell? ⟨b,o+7,none⟩=some (.int .i32 (k j).e.h.it)∧w'.cell? ⟨b,o+8,none⟩=some (.int .u64 (k j).e.h.fl)∧w'.cell? ⟨b,o+9,none⟩=some (.string ⟨(k j).e.h.nm.toArray⟩)∧w'.cell? ⟨b,o+10,none⟩=some (.slice (k j).e.h.s.ao (k j).e.h.s.n (k j).e.h.s.c)∧w'.cell? ⟨b,o+11,none⟩=some (.int .i32 (k j).h.lo)∧w'.cell? ⟨b,o+12,none⟩=some (.int .i32 (k j).h.hi)∧w'.cell? ⟨b,o+13,none⟩=some (.slice (k j).h.ts.ao (k j).h.ts.n (k j).h.ts.c)∧w'.cell? ⟨b,o+14,none⟩=some (.slice (k j).h.es.ao (k j).h.es.n (k j).h.es.c))):=fun w' h=>KGA.out w' (aJ FK.out h)
        refine bY (S:=fun w'=>w'.cell? ⟨w.heap.size,0,none⟩=some (.slice sd.ao sd.n sd.c)∧w'.cell? ⟨w.heap.size,1,none⟩=some (.slice sl.ao sl.n sl.c)∧w'.cell? ⟨w.heap.size,2,none⟩=some (.bool S.init)∧w'.cell? ⟨b,o,none⟩=some (.int .u8 (k j).h.kd)∧w'.cell? ⟨b,o+1,none⟩=some (.int .i64 (k j).h.ps)∧w'.cell? ⟨b,o+2,none⟩=some (.string ⟨(k j).h.nm.toArray⟩)∧w'.cell? ⟨b,o+3,none⟩=some (.slice (k j).h.xs.ao (k j).h.xs.n (k j).h.xs.c)∧w'.cell? ⟨b,o+4,none⟩=some (.int .u8 (k j).e.h.op)∧w'.cell? ⟨b,o+5,none⟩=some (.int .i64 (k j).e.h.ps)∧w'.cell? ⟨b,o+6,none⟩=some (.bool (k j).e.h.bo)∧w'.cell? ⟨b,o+7,none⟩=some (.int .i32 (k j).e.h.it)∧w'.cell? ⟨b,o+8,none⟩=some (.int .u64 (k j).e.h.fl)∧w'.cell? ⟨b,o+9,none⟩=some (.string ⟨(k j).e.h.nm.toArray⟩)∧w'.cell? ⟨b,o+10,none⟩=some (.slice (k j).e.h.s.ao (k j).e.h.s.n (k j).e.h.s.c)∧w'.cell? ⟨b,o+11,none⟩=some (.int .i32 (k j).h.lo)∧w'.cell? ⟨b,o+12,none⟩=some (.int .i32 (k j).h.hi)∧w'.cell? ⟨b,o+13,none⟩=some (.slice (k j).h.ts.ao (k j).h.ts.n (k j).h.ts.c)∧w'.cell? ⟨b,o+14,none⟩=some (.slice (k j).h.es.ao (k j).h.es.n (k j).h.es.c)) _ (.take 0 (.take 1 (.take 2 (.take 3 (.take 4 (.take 5 (.act 6 (.act 7 .done)))))))) (by kernel_rfl) (by kernel_rfl) rfl (by kernel_rfl) (by kernel_rfl) (fun _ _ d _ _ h=>by cases d<;>exact h) (KG.out _ (Fx.of (aH (Below.refl _ _)))) ?_
        iterate 6
         refine aN.take (v:=?_) rfl (by rfl) ?_ ?_;rotate_left
         ·(intro w' hSw;(try dsimp only at hSw);go_simp<;>with_reducible rfl)
         try simp only[Act.put,aA,aC,aB]
        refine aN.act rfl (by rfl) (fun K hK=>?_);go_simp;go_at_call 25;refine(LCj.out _ (TOW.out _ (aZ FK.out (aH (Below.refl _ _))))).mono ?_;rintro r wc ⟨rfl,hbc⟩;dsimp only[unW];have X1:Fx (On wr.heap.size) w10.heap.size w10 wc:=Fx.of (aG (aH (Below.refl _ _)) hbc);have NC:=NBK.out.drew.below hbc NBK.out.drew.lt;refine hK.out _ _ (KG.out _ X1) ?_;clear hK K;try simp only[Act.put,aA,aC,aB]
        refine aN.act rfl (by rfl) (fun K hK=>?_);refine cO (Y).er (Y).pl wr.heap.size _ NC rfl _ _ rfl rfl rfl ?_;have X2:=bI X1 (g:=wr.heap.size) (.inl rfl) (wrA (Y).er (Y).pl);refine hK.out _ _ (KG.out _ X2) ?_;clear hK K;try simp only[Act.put]
        refine aN.done ?_;go_wp2_with fail;go_meet;exact⟨NC.rowS _,aJ FK.out X2⟩
   case rest=>
    obtain⟨NBY,FY⟩:=hcut;generalize wc=w11 at *;have BY:Hid (Below wr.heap.size wr w11):=cH B6.out FY.out (fun q hq (x:q=wr.heap.size)=>by omega);have GRY:=Hj (GR.out.below BY.out GR.out.lt);have BZY:=Hj (aG BZ.out BY.out);have n0:w11.cell? ⟨wr.heap.size,0,none⟩=some (.int .i64 Y.er):=NBY.out.cell 0;clear KGA TOW ACj ECj TCj LCj OCj YE FY
    cases Y with
    | no c q=>
     have hz:=NZ.out c q rfl;have hb:(c != 0)=true:=by simp;omega
     have E:Hid (Z=.no c q):=by show Z=_;rw[←HZ.out];exact yT HY.out HL.out n HLT.out
     dsimp only[Ck.er]at *;clear hz NZ
     go_wp2_with (first|refine zG c q wr.heap.size NBY.out rfl _ rfl rfl ?_|refine dR c q (w.heap.size+1) _ GRY.out rfl rfl _ _ rfl rfl rfl ?_)
     exact bodyPost_ret (jE rfl _ _ (w.heap.size+1) c q rfl (GRY.out.rowS _)) rfl ⟨gG E.out,aR BZY.out (aD _) (by omega) _⟩
    | ok u=>
     have HL1:Hid (cP (fun i=>(k i).ck aU S) (j+1)=.ok ()):=by show cP _ (j+1)=_;simp only[cP,HL.out];exact HY.out
     have BJ1:=Hj (aG BJ.out BY.out);dsimp only[Ck.er]at *;clear HL HY NZ;go_wp2_with fail
     go_roundg (n-(j+1))
     case measure=>have:=HJ.out;have:=HLT.out;omega
     case rel=>exact⟨j+1,by go_num,⟨rfl,HLT.out⟩,HL1.out,BJ1.out⟩
  ·obtain rfl:j=n:=by have:=HJ.out;omega
   have z0:¬(j:Int)<(j:Int):=by omega
   have E:Hid (Z=.ok ()):=by show Z=_;rw[←HZ.out];exact HL.out
   clear hlt
   go_wp2_with (refine dR 0 0 (w.heap.size+1) _ GR.out rfl rfl _ _ rfl rfl rfl ?_)
   exact bodyPost_ret (jE rfl _ _ (w.heap.size+1) 0 0 rfl (GR.out.rowS _)) rfl ⟨aKH E.out,aR BZ.out (aD _) (by omega) _⟩
theorem aEZ (s:St):RfB s.h.ts s.t∧RfB s.h.es s.l:=by
 induction s using St.ind with
 | H s it il=>exact⟨oZ _ _ fun i hi=>it i hi,oZ _ _ fun i hi=>il i hi⟩
theorem tK (s:Sl)(k:Nat→St):RfB s k:=oZ s k fun i _=>aEZ (k i)
theorem aIw {B:Nat}{w:World}{a:Addr}{n c i:Nat}{k:Nat→De}(h:gF B w ⟨some a,n,c⟩ k)(hi:i≤n):gF B w ⟨some a,i,c⟩ k:=
 ⟨⟨aF hi h.1.1,h.1.2.1,fun e=>by cases e⟩,fun x hx j hj=>h.2.1 x hx j (aE hj hi),fun j hj=>h.2.2 j (aE hj hi)⟩
theorem aMq {nam:List UInt8→Bool}{ran:De→Bool}{d:Nat→De}{n:Nat}:∀ {c:Int},gV nam ran d n=.ok c→0≤c∧c≤96:=by
 induction n with
 | zero=>intro c h;cases h;decide
 | succ n ih=>
  intro c h;simp only[gV]at h
  cases h1:gV nam ran d n with
  | no e p=>rw[h1]at h;cases h
  | ok c1=>
   rw[h1]at h;replace h:deC nam ran d n c1=.ok c:=h;have hc:=ih h1;have hp:0≤(d n).cells:=by unfold De.cells;split<;>omega
   unfold deC at h
   repeat (split at h;cases h)
   injection h with h;omega
theorem aBq (q:Pr)(w:World)(hI:q.In w.heap.size w)(hw:q.wt≤1000000) :
  Calls Tryz.prog 10 #[q.v] w fun r w'=>r=unW (q.ck aU raN)∧Below w.heap.size w w':=by
 have hw1:=hw;unfold Pr.wt at hw1;have HND:Hid (q.ds.n≤1000000):=by have h1:=aAI q.d q.ds.n;show _≤_;omega
 have HNM:Hid (∀i,i<q.ds.n→(q.d i).nm.length≤1000000):=fun i hi=>by
  have h3:=iD (f:=fun i=>(q.d i).wt) hi;have e:(q.d i).wt=1+(q.d i).nm.length+(q.d i).lo.wt+(q.d i).hi.wt:=rfl;have h6:(fun i=>(q.d i).wt) i=(q.d i).wt:=rfl;omega
 have HI:=Hj fun w1 (hb:Below w.heap.size w w1)=>hI.below hb (aD _);have DC:=Hj fun i (hi:i<q.ds.n) (sd:Sl) (c:Int) w1 (hb:Below w.heap.size w w1) (hd:gF w.heap.size w1 sd q.d) (hc:0≤c∧c≤96)=>aCS w.heap.size (q.d i) (q.d i).lo.h (q.d i).hi.h sd ⟨none,0,0⟩ false q.d c w1 ((hI.below hb (aD _)).2.1.2.2 i hi).2.1.ok ((hI.below hb (aD _)).2.1.2.2 i hi).2.2.ok (HNM.out i hi) hd hb.size hc.1 hc.2;have SI:=Hj fun w1 (hb:Below w.heap.size w w1)=>tK q.is q.i w.heap.size ⟨q.ds.n,q.d,[],true⟩ q.ds ⟨none,0,0⟩ w1 rfl (hI.below hb (aD _)).2.1 (nQ.none _ _) (hI.below hb (aD _)).2.2.1 hb.size (by omega) (Nat.zero_le _);have SS:=Hj fun w1 (hb:Below w.heap.size w w1)=>tK q.ss q.s w.heap.size ⟨q.ds.n,q.d,[],false⟩ q.ds ⟨none,0,0⟩ w1 rfl (hI.below hb (aD _)).2.1 (nQ.none _ _) (hI.below hb (aD _)).2.2.2 hb.size (by omega) (Nat.zero_le _);have NI:=Hj (qG (f:=fun i=>(q.i i).ck aU ⟨q.ds.n,q.d,[],true⟩) (n:=q.is.n) fun i _=>St.ck_nz _ _);obtain⟨Z,hZ⟩:∃Z,q.ck aU raN=Z:=⟨_,rfl⟩
 have HZ:Hid (Z=if ¬(1≤q.ticks∧q.ticks≤2147483647)then .no 123 0 else(gV aU raN q.d q.ds.n).bind fun _=>(cP (fun i=>(q.i i).ck aU ⟨q.ds.n,q.d,[],true⟩) q.is.n).bind fun _=>cP (fun i=>(q.s i).ck aU ⟨q.ds.n,q.d,[],false⟩) q.ss.n):=by show Z=_;rw[←hZ];rfl
 rw[hZ];have HDO:=Hj hI.2.1.1;clear hZ hI hw hw1;unfold scV at SI SS;dsimp only at SI SS;generalize cP (fun i=>(q.i i).ck aU ⟨q.ds.n,q.d,[],true⟩) q.is.n=YI at *;generalize cP (fun i=>(q.s i).ck aU ⟨q.ds.n,q.d,[],false⟩) q.ss.n=YS at *;have B0:Hid (Below w.heap.size w ((bx w (pO q)).alloc (.cells #[.int .i64 0,.int .i64 0] 32))):=aI (bS (Below.refl _ _) (aD _) _) _;have GP0:Hid (((bx w (pO q)).alloc (.cells #[.int .i64 0,.int .i64 0] 32)).heap[w.heap.size]? = some (pO q)):=aV (aY _ _) (cD w (pO q))
 have GR0:Hid (Blk ((bx w (pO q)).alloc (.cells #[.int .i64 0,.int .i64 0] 32)) (w.heap.size+1) 32 (wrA 0 0)):=by
  have:=Blk.new (bx w (pO q)) 32 #[.int .i64 0,.int .i64 0];rw[cJ]at this;exact this
 unfold Pr.v;go_enter Tryz.func10,Tryz.ntmps10;go_upto_region 1 with fail;rw[aIJ];change (Code.region 1 _ _).wp _ _ _ ((bx w (pO q)).alloc (.cells #[.int .i64 0,.int .i64 0] 32));generalize (bx w (pO q)).alloc (.cells #[.int .i64 0,.int .i64 0] 32)=w3 at *;obtain⟨a0,a1,a2,a3⟩:=eF GP0.out
 by_cases ht:1≤q.ticks∧q.ticks≤2147483647
 case neg=>
  have E:Hid (Z=.no 123 0):=by show Z=_;rw[HZ.out,if_pos ht]
  clear HZ DC SI SS NI
  by_cases ht1:q.ticks<1
  case pos=>
   go_wp2_with (refine dR 123 0 (w.heap.size+1) _ GR0.out rfl rfl _ _ rfl rfl rfl ?_)
   exact bodyPost_ret (jE rfl _ _ (w.heap.size+1) 123 0 rfl (GR0.out.rowS _)) rfl ⟨gG E.out,aR B0.out (aD _) (by omega) _⟩
  case neg=>
   have ht2:(2147483647:Int)<q.ticks:=by omega
   go_wp2_with (refine dR 123 0 (w.heap.size+1) _ GR0.out rfl rfl _ _ rfl rfl rfl ?_)
   exact bodyPost_ret (jE rfl _ _ (w.heap.size+1) 123 0 rfl (GR0.out.rowS _)) rfl ⟨gG E.out,aR B0.out (aD _) (by omega) _⟩
 case pos=>
  have ht1:¬q.ticks<1:=by omega
  have ht2:¬(2147483647:Int)<q.ticks:=by omega
  have HY:=HZ.out;rw[if_neg (not_not_intro ht)]at HY;replace HY:=Hj HY;clear HZ ht a1 a2 a3;go_wp2_with fail;clear a0 ht1 ht2
  go_loopg [3,4] q.ds.n (fun gk v i wr=>∃(j:Nat) (c:Int),v=.int .i64 c∧i=.int .i64 (j:Int)∧Hid (gk=q.ds.n-j∧j≤q.ds.n)∧Hid (gV aU raN q.d j=.ok c)∧Hid (Below w3.heap.size w3 wr))
  case atStart=>exact⟨0,0,rfl,rfl,⟨rfl,Nat.zero_le _⟩,rfl,Below.refl _ _⟩
  case round=>
   obtain⟨j,c,rfl,rfl,HJ,HL,BJ⟩:=hrel;have GP:=Hj (aV BJ.out GP0.out);have GR:=Hj (GR0.out.below BJ.out GR0.out.lt);have BZ:=Hj (aG B0.out BJ.out);obtain⟨-,a1,a2,a3⟩:=eF GP.out
   by_cases hlt:j<q.ds.n
   ·have z0:(j:Int)<(q.ds.n:Int):=by omega
    have ovi:IntKind.i64.wrap ((j:Int)+1)=((j+1:Nat):Int):=by have:=HND.out;rw[IntKind.wrap_i64];omega
    have DI:=(HI.out _ BZ.out).2.1;obtain⟨a,b,o,ha,hA,hb,h4⟩:=DI.2.1.at DI.1 hlt rfl;have HLT:=Hj hlt;obtain⟨V1,hV1⟩:∃V,dM (q.d j) (q.d j).lo.h (q.d j).hi.h=V:=⟨_,rfl⟩;have L1:=Hj (show(Tryz.prog.info? 44).map (·.size)=some V1.length by rw[←hV1];kernel_rfl)
    have RC:Hid (∀w',Below wr.heap.size wr w'→w'.rangeAt b o V1):=fun w' hb'=>by
     rw[←hV1];intro x v hv;exact(bA hb' BZ.out.size _ hb).trans (h4 x v hv)
    obtain⟨Y,hY⟩:∃Y,deC aU raN q.d j c=Y:=⟨_,rfl⟩;have HYJ:=Hj hY;have NZ:Hid Y.nz:=by show Y.nz;rw[←hY];exact aMQ
    have IH:Hid (∀w',Below wr.heap.size wr w'→Calls Tryz.prog 24 #[.agg V1.toArray,.agg #[.slice (some a) j q.ds.c,.slice none 0 0,.bool false],.int .i64 c] w' fun r w''=>r=dcY Y∧Below w'.heap.size w' w''):=fun w' hb'=>by
     have hbw:=aG BZ.out hb';have hd:=(HI.out _ hbw).2.1;have e:q.ds=⟨some a,q.ds.n,q.ds.c⟩:=by rw[←ha]
     rw[e]at hd;have h:=DC.out j HLT.out ⟨some a,j,q.ds.c⟩ c w' hbw (aIw hd (Nat.le_of_lt HLT.out)) (aMq HL.out);rw[←hY,←hV1,aMp];exact h
    have KG:Hid (∀w',Below wr.heap.size wr w'→(w'.cell? ⟨w.heap.size,1,none⟩=some (.slice (some a) q.ds.n q.ds.c)∧w'.rangeAt b o V1)):=fun w' hb'=>by
     have q1:=(eF (aV hb' GP.out)).2.1;rw[ha]at q1;exact⟨q1,RC.out w' hb'⟩
    have zj:(j:Int)≤(q.ds.n:Int):=by omega
    have zc:(q.ds.n:Int)≤(q.ds.c:Int):=by have:=HDO.out.1;omega
    have hjc:j≤q.ds.c:=by have:=HDO.out.1;omega
    rw[ha]at a1;clear hlt hb h4 hV1 hY DI ha;go_upto_region 7 with fail;clear a1 a2 a3
    go_cut [5,6] (fun t v wx=>∃be:Nat,t=.int .i64 (Y.va 0)∧v=.pointer (some ⟨be,0,none⟩)∧Hid (Blk wx be 32 (wrA Y.er Y.pl))∧Hid (Below wr.heap.size wr wx)∧Hid (wr.heap.size≤be))
    case first=>
     refine bY (S:=fun w'=>w'.cell? ⟨w.heap.size,1,none⟩=some (.slice (some a) q.ds.n q.ds.c)∧w'.rangeAt b o V1) _ (.take 0 (.take 1 (.take 2 (.take 3 (.take 4 (.take 5 (.take 6 (.take 7 (.take 8 (.take 9 (.take 10 (.two 11 (.take 12 (.take 13 (.take 14 (.act 15 (.take 16 (.act 17 .done)))))) 15 (.act 11 (.take 12 (.take 13 (.take 14 (.take 16 (.act 17 .done)))))))))))))))))) (by kernel_rfl) (by kernel_rfl) rfl (by kernel_rfl) (by kernel_rfl) (fun _ _ d _ _ h=>by cases d<;>exact h) (KG.out _ (aH (Below.refl _ _))) ?_
     iterate 4
      refine aN.take (v:=?_) rfl (by rfl) ?_ ?_;rotate_left
      ·(intro w' hSw;(try dsimp only at hSw);go_simp<;>with_reducible rfl)
      try simp only[Act.put,aA,aC,aB]
     refine aN.take (v:=.agg V1.toArray) rfl (by rfl) (fun w' hSw=>oY 44 _ rfl b o rfl V1 _ hSw.2 Tryz.underlying44 rfl L1.out) ?_;try simp only[Act.put,aA,aC,aB]
     iterate 6
      refine aN.take (v:=?_) rfl (by rfl) ?_ ?_;rotate_left
      ·(intro w' hSw;(try dsimp only at hSw);go_simp<;>with_reducible rfl)
      try simp only[Act.put,aA,aC,aB]
     refine⟨bF rfl (by rfl) (fun K hK=>?_),bF rfl (by rfl) (fun K hK=>?_)⟩
     ·go_simp
      go_at_call 24;refine(IH.out _ (by repeat (first|exact Below.refl _ _|refine aH ?_|refine aI ?_ _))).mono ?_;rintro r wc ⟨rfl,hbc⟩;dsimp only[dcY];have X1:Below wr.heap.size wr wc:=(by refine aG ?_ hbc;repeat (first|exact Below.refl _ _|refine aH ?_|refine aI ?_ _));refine hK.out _ _ (KG.out _ X1) ?_;clear hK K;try simp only[Act.put,aA,aC,aB]
      iterate 3
       refine aN.take (v:=?_) rfl (by rfl) ?_ ?_;rotate_left
       ·(intro w' hSw;(try dsimp only at hSw);go_simp<;>with_reducible rfl)
       try simp only[Act.put,aA,aC,aB]
      refine aN.act rfl (by rfl) (fun K hK=>?_);go_simp;refine hK.out _ _ (KG.out _ (by repeat (first|exact Below.refl _ _|exact X1|refine aH ?_|refine aI ?_ _))) ?_;clear hK K;try simp only[Act.put,aA,aC,aB]
      iterate 1
       refine aN.take (v:=?_) rfl (by rfl) ?_ ?_;rotate_left
       ·(intro w' hSw;(try dsimp only at hSw);go_simp<;>with_reducible rfl)
       try simp only[Act.put,aA,aC,aB]
      refine aN.act rfl (by rfl) (fun K hK=>?_);refine cO (Y).er (Y).pl wc.heap.size _ (Blk.new wc 32 (wrA 0 0)) rfl _ _ rfl rfl rfl ?_;have X2:=aR (aI X1 (.cells (wrA 0 0) 32 (0,0))) (aD _) X1.size (wrA (Y).er (Y).pl);refine hK.out _ _ (KG.out _ X2) ?_;clear hK K;try simp only[Act.put]
      refine aN.done ?_;go_wp2_with fail;go_meet;exact⟨_,rfl,rfl,((Blk.new wc 32 (wrA 0 0)).rowS _),X2,X1.size⟩
     ·go_simp
      refine hK.out _ _ (KG.out _ (by repeat (first|exact Below.refl _ _|exact X1|refine aH ?_|refine aI ?_ _))) ?_;clear hK K;try simp only[Act.put,aA,aC,aB]
      refine aN.act rfl (by rfl) (fun K hK=>?_);go_simp;go_at_call 24;refine(IH.out _ (by repeat (first|exact Below.refl _ _|refine aH ?_|refine aI ?_ _))).mono ?_;rintro r wc ⟨rfl,hbc⟩;dsimp only[dcY];have X1:Below wr.heap.size wr wc:=(by refine aG ?_ hbc;repeat (first|exact Below.refl _ _|refine aH ?_|refine aI ?_ _));have Kq:Blk wc wr.heap.size 32 (wrA 0 0):=(Blk.drew (Blk.new wr 32 (wrA 0 0))).below hbc (Blk.drew (Blk.new wr 32 (wrA 0 0))).lt;refine hK.out _ _ (KG.out _ X1) ?_;clear hK K;try simp only[Act.put,aA,aC,aB]
      iterate 4
       refine aN.take (v:=?_) rfl (by rfl) ?_ ?_;rotate_left
       ·(intro w' hSw;(try dsimp only at hSw);go_simp<;>with_reducible rfl)
       try simp only[Act.put,aA,aC,aB]
      refine aN.act rfl (by rfl) (fun K hK=>?_);refine cO (Y).er (Y).pl wr.heap.size _ Kq rfl _ _ rfl rfl rfl ?_;have X2:=aR X1 (aD _) (aD _) (wrA (Y).er (Y).pl);refine hK.out _ _ (KG.out _ X2) ?_;clear hK K;try simp only[Act.put]
      refine aN.done ?_;go_wp2_with fail;go_meet;exact⟨_,rfl,rfl,(Kq.rowS _),X2,(aD _)⟩
    case rest=>
     obtain⟨be,rfl,rfl,NB,bx5,HG⟩:=hcut;generalize wc=w5 at *;have GR5:=Hj (GR.out.below bx5.out GR.out.lt);have BZ5:=Hj (aG BZ.out bx5.out);have BJ5:=Hj (aG BJ.out bx5.out);have n0:w5.cell? ⟨be,0,none⟩=some (.int .i64 Y.er):=NB.out.cell 0;clear KG IH RC bx5 HG
     cases Y with
     | no e pl=>
      have hz:=NZ.out e pl rfl;have hb:(e != 0)=true:=by simp;omega
      have E:Hid (Z=.no e pl):=by show Z=_;rw[HY.out,zP HYJ.out HL.out q.ds.n HLT.out];rfl
      dsimp only[Ck.er,Ck.va]at *;clear hz NZ
      go_wp2_with (first|refine zG e pl be NB.out rfl _ rfl rfl ?_|refine dR e pl (w.heap.size+1) _ GR5.out rfl rfl _ _ rfl rfl rfl ?_)
      exact bodyPost_ret (jE rfl _ _ (w.heap.size+1) e pl rfl (GR5.out.rowS _)) rfl ⟨gG E.out,aR BZ5.out (aD _) (by omega) _⟩
     | ok u=>
      have HL1:Hid (gV aU raN q.d (j+1)=.ok u):=by show gV _ _ _ (j+1)=_;simp only[gV,HL.out];exact HYJ.out
      dsimp only[Ck.er,Ck.va]at *;clear HL HYJ NZ;go_wp2_with fail
      go_roundg (q.ds.n-(j+1))
      case measure=>have:=HJ.out;have:=HLT.out;omega
      case rel=>exact⟨j+1,u,by go_num,by go_num,⟨rfl,HLT.out⟩,HL1.out,BJ5.out⟩
   ·obtain rfl:j=q.ds.n:=by have:=HJ.out;omega
    have z0:¬(q.ds.n:Int)<(q.ds.n:Int):=by omega
    have E1:Hid (Z=YI.bind fun _=>YS):=by show Z=_;rw[HY.out,HL.out];rfl
    clear hlt HY DC;go_wp2_with fail;refine(SI.out _ BZ.out).mono ?_;rintro r w5 ⟨rfl,b5⟩;have GP5:=Hj (aV b5 GP.out);have GR5:=Hj (GR.out.below b5 GR.out.lt);have BZ5:=Hj (aG BZ.out b5);clear SI b5 a1 a2 a3;dsimp only[unW];go_upto_region 12 with fail;change (Code.region 12 _ _).wp _ _ _ (w5.alloc (.cells #[.int .i64 YI.er,.int .i64 YI.pl] 32));have NB:Hid (Blk (w5.alloc (.cells #[.int .i64 YI.er,.int .i64 YI.pl] 32)) w5.heap.size 32 (wrA YI.er YI.pl)):=Blk.new w5 _ _;have b6:=aY w5 (.cells #[.int .i64 YI.er,.int .i64 YI.pl] 32);have GP6:=Hj (aV b6 GP5.out);have GR6:=Hj (GR5.out.below b6 GR5.out.lt);have BZ6:=Hj (aG BZ5.out b6);clear b6 GP5 GR5 BZ5;generalize w5.alloc (.cells #[.int .i64 YI.er,.int .i64 YI.pl] 32)=w6 at *;have n0:w6.cell? ⟨w5.heap.size,0,none⟩=some (.int .i64 YI.er):=NB.out.cell 0
    cases YI with
    | no e pl=>
     have hz:=NI.out e pl rfl;have hb:(e != 0)=true:=by simp;omega
     have E:Hid (Z=.no e pl):=E1.out;dsimp only[Ck.er]at *;clear hz NI SS
     go_wp2_with (first|refine zG e pl w5.heap.size NB.out rfl _ rfl rfl ?_|refine dR e pl (w.heap.size+1) _ GR6.out rfl rfl _ _ rfl rfl rfl ?_)
     exact bodyPost_ret (jE rfl _ _ (w.heap.size+1) e pl rfl (GR6.out.rowS _)) rfl ⟨gG E.out,aR BZ6.out (aD _) (by omega) _⟩
    | ok u=>
     obtain rfl:Z=YS:=E1.out;obtain⟨-,a1,a2,a3⟩:=eF GP6.out;dsimp only[Ck.er]at *;clear NI E1;go_wp2_with fail;refine(SS.out _ BZ6.out).mono ?_;rintro r w7 ⟨rfl,b7⟩;have GR7:=Hj (GR6.out.below b7 GR6.out.lt);have BZ7:=Hj (aG BZ6.out b7);clear b7 SS a1 a2 a3;dsimp only[unW]
     go_wp2_with (refine dR Z.er Z.pl (w.heap.size+1) _ GR7.out rfl rfl _ _ rfl rfl rfl ?_)
     exact bodyPost_ret (jE rfl _ _ (w.heap.size+1) Z.er Z.pl rfl (GR7.out.rowS _)) rfl ⟨rfl,aR BZ7.out (aD _) (by omega) _⟩
end Go.Proofs.YtkbicfffokegeaaGreatDoor
