/-
  Whatever program is handed in, CheckChecks answers true. (part 19 of 38) Conditions: none beside what the card ties.
-/
import Derived.Test.YtkbicfffokegeaaGreatDoorCaq
import Derived.Test.YtkbicfffokegeaaGreatDoorCar
namespace Go.Proofs.YtkbicfffokegeaaGreatDoor
set_option maxHeartbeats 16000000
open Go.RowKit
set_option maxRecDepth 100000
def deX (ps:Int)(is:Bool)(f:Option Nat)(ty:Int)(ra:Bool)(cl c:Int):Ck Int:=
 if is=false then .no 120 ps else if f.isSome=true then .no 121 ps else if ¬(1≤ty∧ty≤3)then .no 122 ps else if ra=false then .no 123 ps else if 96<c+cl then .no 123 ps else .ok (c+cl)
theorem aMp {D:Nat→De}{i:Nat}{c:Int}:deC aU raN D i c=deX (D i).ps (aU (D i).nm) (fd D (D i).nm i) (D i).ty (raF (D i) (D i).lo.h (D i).hi.h) (D i).cells c:=rfl
theorem cY {r:Ck Int}{c p:Int}(h:r=.no c p):Ending.returned (.tuple #[.int .i64 0,.agg #[.int .i64 c,.int .i64 p]])=dcY r:=by rw[h];rfl
theorem qX {r:Ck Int}{c:Int}(h:r=.ok c):Ending.returned (.tuple #[.int .i64 c,.agg #[.int .i64 0,.int .i64 0]])=dcY r:=by rw[h];rfl
def Kp (g:Nat)(w w':World):Prop:=Fx (On g) w.heap.size w w'
theorem kp0 (g:Nat)(w:World):Kp g w w.drew:=Fx.of (aH (Below.refl _ _))
theorem kp1 (g:Nat)(w:World)(cs:Array Value):Kp g w (w.drew.setRow g cs):=bI (X:=On g) (Fx.of (aH (Below.refl _ _))) (.inl rfl) cs
theorem bH {g k:Nat}{w w':World}{o:Obj}(h:Kp g w w')(hk:k≠g)(e:w.heap[k]? = some o):w'.heap[k]? = some o:=(h.block k (Array.getElem?_eq_some_iff.1 e).1 hk).trans e
theorem aCS (B:Nat)(d:De)(a b:EH)(sd sl:Sl)(bb:Bool)(D:Nat→De)(c:Int)(w:World)(ha:a.ok)(hb:b.ok)(hnm:d.nm.length≤1000000)(hD:gF B w sd D)(hB:B≤w.heap.size)(hc0:0≤c)(hc1:c≤96) :
  Calls Tryz.prog 24 #[dcv d a b,scV sd sl bb,.int .i64 c] w fun r w'=>r=dcY (deX d.ps (aU d.nm) (fd D d.nm sd.n) d.ty (raF d a b) d.cells c)∧Below w.heap.size w w':=by
 obtain⟨ps,inp,nm,ty,len,rg,lo,hi⟩:=d;dsimp only at *;have IN:Hid (∀w,Calls Tryz.prog 40 #[.string ⟨nm.toArray⟩] w fun e w'=>e=.returned (.bool (aU nm))∧w=w'):=fun w=>tC ⟨nm.toArray⟩ w (by rw[Lib.size_eq];exact aF hnm (by decide));have GD1:=Hj (cD w (dO ⟨ps,inp,nm,ty,len,rg,lo,hi⟩ a b));have B1:=Hj (bS (Below.refl w.heap.size w) (aD _) (dO ⟨ps,inp,nm,ty,len,rg,lo,hi⟩ a b));have S1:Hid ((bx w (dO ⟨ps,inp,nm,ty,len,rg,lo,hi⟩ a b)).heap.size=w.heap.size+1):=cJ _ _;have EA:=Hj fun w=>yV a ty w ha;have EB:=Hj fun w=>yV b ty w hb;have GC:=Hj fun w=>aIf (enW a ty) (enW b ty) (aBW ha ty) (aBW hb ty) w;have RP:=Hj fun h=>aJw ha hb (t:=ty) h;have HD:=Hj hD;have HBB:=Hj hB;have HC:Hid (0≤c∧c≤96):=⟨hc0,hc1⟩;clear ha hb hnm hD hB hc0 hc1
 show Calls Tryz.prog 24 #[.agg #[.int .i64 ps,.bool inp,.string ⟨nm.toArray⟩,.int .u8 ty,.int .i64 len,.bool rg,.int .u8 a.op,.int .i64 a.ps,.bool a.bo,.int .i32 a.it,.int .u64 a.fl,.string ⟨a.nm.toArray⟩,.slice a.s.ao a.s.n a.s.c,.int .u8 b.op,.int .i64 b.ps,.bool b.bo,.int .i32 b.it,.int .u64 b.fl,.string ⟨b.nm.toArray⟩,.slice b.s.ao b.s.n b.s.c],.agg #[.slice sd.ao sd.n sd.c,.slice sl.ao sl.n sl.c,.bool bb],.int .i64 c] w _;go_enter Tryz.func24,Tryz.ntmps24;go_upto_region 1 with fail;rw[uG w ⟨ps,inp,nm,ty,len,rg,lo,hi⟩ a b];generalize bx w (dO ⟨ps,inp,nm,ty,len,rg,lo,hi⟩ a b)=w1 at *;have GS2:=cD w1 (scO sd sl bb);rw[S1.out]at GS2;have GD2:=Hj (aV (aY w1 (scO sd sl bb)) GD1.out);have B2:=Hj (bS B1.out (aD _) (scO sd sl bb));have S2:Hid ((bx w1 (scO sd sl bb)).heap.size=w.heap.size+1+1):=(cJ _ _).trans (by rw[S1.out]);change Hid ((bx w1 (scO sd sl bb)).heap[w.heap.size]? = _)at GD2;rw[tV w1 sd sl bb];generalize bx w1 (scO sd sl bb)=w2 at *;have GR:Hid (Blk (w2.alloc (.cells #[.int .i64 0,.int .i64 0] 32)) (w.heap.size+1+1) 32 (wrA 0 0)):=by rw[←S2.out];exact Blk.new _ _ _
 have GD:=Hj (aV (aY w2 (.cells #[.int .i64 0,.int .i64 0] 32)) GD2.out);have GS:=Hj (aV (aY w2 (.cells #[.int .i64 0,.int .i64 0] 32)) GS2);have BZ:=Hj (aI B2.out (.cells #[.int .i64 0,.int .i64 0] 32));have HL:Hid (w.heap.size+1+1<(w2.alloc (.cells #[.int .i64 0,.int .i64 0] 32)).heap.size):=by show _<_;rw[World.size_alloc,S2.out];omega
 clear GD1 B1 S1 GS2 GD2 B2 S2;change (Code.region 1 _ _).wp _ _ _ (w2.alloc (.cells #[.int .i64 0,.int .i64 0] 32));generalize w2.alloc (.cells #[.int .i64 0,.int .i64 0] 32)=w3 at *;have c2:=(cA GD.out).c2;dsimp only at c2;go_wp2_with fail;refine(IN.out _).mono ?_;rintro r wx ⟨rfl,rfl⟩
 cases hin:aU nm with
 | false=>
  have E:Hid (deX ps (aU nm) (fd D nm sd.n) ty (raF ⟨ps,inp,nm,ty,len,rg,lo,hi⟩ a b) (De.cells ⟨ps,inp,nm,ty,len,rg,lo,hi⟩) c=.no 120 ps):=by show deX ps (aU nm) (fd D nm sd.n) ty (raF ⟨ps,inp,nm,ty,len,rg,lo,hi⟩ a b) (De.cells ⟨ps,inp,nm,ty,len,rg,lo,hi⟩) c=_;rw[hin];rfl
  clear hin c2 IN EA EB GC RP HD;go_upto_region 3 with fail;have KG:Hid (∀w',Kp (w.heap.size+1+1) w3 w'→(w'.cell? ⟨w.heap.size,0,none⟩=some (.int .i64 ps))):=fun w' hw=>(cA (bH hw (by omega) GD.out)).c0;refine aL (S:=fun w'=>w'.cell? ⟨w.heap.size,0,none⟩=some (.int .i64 ps)) _ [(0,true),(1,true),(2,true),(3,true),(4,false)] (by kernel_rfl) (by kernel_rfl) rfl (by kernel_rfl) (by kernel_rfl) (fun _ _ d _ _ h=>by cases d<;>exact h) (KG.out _ (kp0 _ _)) ?_
  iterate 4
   refine Walk.take (v:=?_) rfl (by rfl) ?_ ?_;rotate_left
   ·(intro w' hSw;(try dsimp only at hSw);go_simp<;>with_reducible rfl)
   try simp only[Act.put,aA,aC,aB]
  refine Walk.act rfl (by rfl) (fun K hK=>?_);refine cO 120 ps (w.heap.size+1+1) _ GR.out.drew rfl _ _ rfl rfl rfl ?_;refine hK.out _ _ (KG.out _ (kp1 _ _ _)) ?_;clear hK K;try simp only[Act.put]
  refine Walk.done ?_;go_wp2_with fail;exact bodyPost_ret (bP rfl _ _ (w.heap.size+1+1) (.int .i64 0) 120 ps rfl rfl (Blk.rowS GR.out.drew _)) rfl ⟨cY E.out,aR (aH BZ.out) (aD _) (by omega) _⟩
 | true=>
  have FN:=Hj (lY B sd sl bb D nm w3 (HD.out.below BZ.out HBB.out) (aF HBB.out BZ.out.size));have HIN:=Hj hin;clear hin IN HD;obtain⟨s0,s1,s2⟩:=cK GS.out;have GSO:=GS;go_upto_region 4 with fail;go_wp2_with fail;refine FN.out.mono ?_;rintro r w4 ⟨rfl,b4⟩;have GD4:=Hj (aV b4 GD.out);have GR4:=Hj (GR.out.below b4 GR.out.lt);have BZ4:=Hj (aG BZ.out b4);have HL4:Hid ((w.heap.size+1+1)<w4.heap.size):=aE GR.out.lt b4.size;clear FN s0 s1 s2 GSO GS GD GR BZ b4 c2;have GD:=Hj GD4.out;have GR:=Hj GR4.out;have BZ:=Hj BZ4.out;clear GD4 GR4 BZ4;clear HL w3;have HL:=Hj HL4.out;clear HL4
  cases hff:fd D nm sd.n with
  | some i=>
   have z0:(0:Int)≤(i:Int):=by omega
   have E:Hid (deX ps (aU nm) (fd D nm sd.n) ty (raF ⟨ps,inp,nm,ty,len,rg,lo,hi⟩ a b) (De.cells ⟨ps,inp,nm,ty,len,rg,lo,hi⟩) c=.no 121 ps):=by show deX ps (aU nm) (fd D nm sd.n) ty (raF ⟨ps,inp,nm,ty,len,rg,lo,hi⟩ a b) (De.cells ⟨ps,inp,nm,ty,len,rg,lo,hi⟩) c=_;rw[HIN.out,hff];rfl
   clear EA EB GC RP hff;dsimp only[ixV];go_upto_region 5 with fail;have KG:Hid (∀w',Kp (w.heap.size+1+1) w4 w'→(w'.cell? ⟨w.heap.size,0,none⟩=some (.int .i64 ps))):=fun w' hw=>(cA (bH hw (by omega) GD.out)).c0;refine aL (S:=fun w'=>w'.cell? ⟨w.heap.size,0,none⟩=some (.int .i64 ps)) _ [(0,true),(1,true),(2,true),(3,true),(4,false)] (by kernel_rfl) (by kernel_rfl) rfl (by kernel_rfl) (by kernel_rfl) (fun _ _ d _ _ h=>by cases d<;>exact h) (KG.out _ (kp0 _ _)) ?_
   iterate 4
    refine Walk.take (v:=?_) rfl (by rfl) ?_ ?_;rotate_left
    ·(intro w' hSw;(try dsimp only at hSw);go_simp<;>with_reducible rfl)
    try simp only[Act.put,aA,aC,aB]
   refine Walk.act rfl (by rfl) (fun K hK=>?_);refine cO 121 ps (w.heap.size+1+1) _ GR.out.drew rfl _ _ rfl rfl rfl ?_;refine hK.out _ _ (KG.out _ (kp1 _ _ _)) ?_;clear hK K;try simp only[Act.put]
   refine Walk.done ?_;go_wp2_with fail;exact bodyPost_ret (bP rfl _ _ (w.heap.size+1+1) (.int .i64 0) 121 ps rfl rfl (Blk.rowS GR.out.drew _)) rfl ⟨cY E.out,aR (aH BZ.out) (aD _) (by omega) _⟩
  | none=>
   have HF:=Hj hff;clear hff;dsimp only[ixV];have c3:=(cA GD.out).c3;dsimp only at c3
   by_cases ht:1≤ty∧ty≤3
   case neg=>
    have E:Hid (deX ps (aU nm) (fd D nm sd.n) ty (raF ⟨ps,inp,nm,ty,len,rg,lo,hi⟩ a b) (De.cells ⟨ps,inp,nm,ty,len,rg,lo,hi⟩) c=.no 122 ps):=by show deX ps (aU nm) (fd D nm sd.n) ty (raF ⟨ps,inp,nm,ty,len,rg,lo,hi⟩ a b) (De.cells ⟨ps,inp,nm,ty,len,rg,lo,hi⟩) c=_;rw[HIN.out,HF.out];unfold deX;rw[if_neg (by decide),if_neg (by decide),if_pos ht]
    have t1:(ty != 1)=true:=by simp;omega
    have t2:(ty != 2)=true:=by simp;omega
    have t3:(ty != 3)=true:=by simp;omega
    clear EA EB GC RP ht;go_upto_region 7 with fail;have KG:Hid (∀w',Kp (w.heap.size+1+1) w4 w'→(w'.cell? ⟨w.heap.size,0,none⟩=some (.int .i64 ps))):=fun w' hw=>(cA (bH hw (by omega) GD.out)).c0;refine aL (S:=fun w'=>w'.cell? ⟨w.heap.size,0,none⟩=some (.int .i64 ps)) _ [(0,true),(1,true),(2,true),(3,true),(4,false)] (by kernel_rfl) (by kernel_rfl) rfl (by kernel_rfl) (by kernel_rfl) (fun _ _ d _ _ h=>by cases d<;>exact h) (KG.out _ (kp0 _ _)) ?_
    iterate 4
     refine Walk.take (v:=?_) rfl (by rfl) ?_ ?_;rotate_left
     ·(intro w' hSw;(try dsimp only at hSw);go_simp<;>with_reducible rfl)
     try simp only[Act.put,aA,aC,aB]
    refine Walk.act rfl (by rfl) (fun K hK=>?_);refine cO 122 ps (w.heap.size+1+1) _ GR.out.drew rfl _ _ rfl rfl rfl ?_;refine hK.out _ _ (KG.out _ (kp1 _ _ _)) ?_;clear hK K;try simp only[Act.put]
    refine Walk.done ?_;go_wp2_with fail;exact bodyPost_ret (bP rfl _ _ (w.heap.size+1+1) (.int .i64 0) 122 ps rfl rfl (Blk.rowS GR.out.drew _)) rfl ⟨cY E.out,aR (aH BZ.out) (aD _) (by omega) _⟩
   case pos=>
    have HT:=Hj ht;have GB:Hid (Blk (w4.alloc (.cells #[.int .i64 123,.int .i64 ps] 32)) w4.heap.size 32 (wrA 123 ps)):=Blk.new _ _ _;have b5:=aY w4 (.cells #[.int .i64 123,.int .i64 ps] 32);have GDn:=Hj (aV b5 GD.out);have GRn:=Hj (GR.out.below b5 GR.out.lt);have BZn:=Hj (aG BZ.out b5);have c0:=(cA GD.out).c0;dsimp only at c0;clear GD GR BZ b5;have GD:=Hj GDn.out;have GR:=Hj GRn.out;have BZ:=Hj BZn.out;clear GDn GRn BZn;obtain(rfl|rfl|rfl):ty=1∨ty=2∨ty=3:=by omega
    case' inl=>
     clear ht;go_upto_region 9 with fail;change (Code.region 9 _ _).wp _ _ _ (w4.alloc (.cells #[.int .i64 123,.int .i64 ps] 32));clear c0 c3;generalize w4.alloc (.cells #[.int .i64 123,.int .i64 ps] 32)=w5 at *;generalize w4.heap.size=gb at *;have DC:=cA GD.out;have c1:=DC.c1;have c3:=DC.c3;have c4:=DC.c4;have c5:=DC.c5;clear DC;dsimp only at c1 c3 c4 c5
     cases inp with
     | false=>
      clear EA EB GC RP
      cases rg with
      | true=>
       have RF:raF ⟨ps,false,nm,1,len,true,lo,hi⟩ a b=false:=by rfl
       have E:Hid (deX ps (aU nm) (fd D nm sd.n) 1 (raF ⟨ps,false,nm,1,len,true,lo,hi⟩ a b) (De.cells ⟨ps,false,nm,1,len,true,lo,hi⟩) c=.no 123 ps):=by show deX ps (aU nm) (fd D nm sd.n) 1 (raF ⟨ps,false,nm,1,len,true,lo,hi⟩ a b) (De.cells ⟨ps,false,nm,1,len,true,lo,hi⟩) c=_;rw[HIN.out,HF.out];unfold deX;rw[if_neg (by decide),if_neg (by decide),if_neg (fun h=>h HT.out),if_pos RF]
       clear RF;go_upto_region 20 with fail
       have KG:Hid (∀w',Kp (w.heap.size+1+1) w5 w'→(w'.cell? ⟨gb,0,none⟩=some (.int .i64 123)∧w'.cell? ⟨gb,1,none⟩=some (.int .i64 ps))):=fun w' hw=>by
        have N:=bH hw (by have:=HL.out;omega) GB.out;exact⟨aK N 0,aK N 1⟩
       refine aL (S:=fun w'=>w'.cell? ⟨gb,0,none⟩=some (.int .i64 123)∧w'.cell? ⟨gb,1,none⟩=some (.int .i64 ps)) _ [(0,true),(1,true),(2,false)] (by kernel_rfl) (by kernel_rfl) rfl (by kernel_rfl) (by kernel_rfl) (fun _ _ d _ _ h=>by cases d<;>exact h) (KG.out _ (kp0 _ _)) ?_
       iterate 2
        refine Walk.take (v:=?_) rfl (by rfl) ?_ ?_;rotate_left
        ·(intro w' hSw;(try dsimp only at hSw);go_simp<;>with_reducible rfl)
        try simp only[Act.put,aA,aC,aB]
       refine Walk.act rfl (by rfl) (fun K hK=>?_);refine cO 123 ps (w.heap.size+1+1) _ GR.out.drew rfl _ _ rfl rfl rfl ?_;refine hK.out _ _ (KG.out _ (kp1 _ _ _)) ?_;clear hK K;try simp only[Act.put]
       refine Walk.done ?_;go_wp2_with fail;exact bodyPost_ret (bP rfl _ _ (w.heap.size+1+1) (.int .i64 0) 123 ps rfl rfl (Blk.rowS GR.out.drew _)) rfl ⟨cY E.out,aR (aH BZ.out) (aD _) (by omega) _⟩
      | false=>
       by_cases l0:len<0
       ·have l1:¬0≤len:=by omega
        have RF:raF ⟨ps,false,nm,1,len,false,lo,hi⟩ a b=false:=by simp[raF,l1]
        have E:Hid (deX ps (aU nm) (fd D nm sd.n) 1 (raF ⟨ps,false,nm,1,len,false,lo,hi⟩ a b) (De.cells ⟨ps,false,nm,1,len,false,lo,hi⟩) c=.no 123 ps):=by show deX ps (aU nm) (fd D nm sd.n) 1 (raF ⟨ps,false,nm,1,len,false,lo,hi⟩ a b) (De.cells ⟨ps,false,nm,1,len,false,lo,hi⟩) c=_;rw[HIN.out,HF.out];unfold deX;rw[if_neg (by decide),if_neg (by decide),if_neg (fun h=>h HT.out),if_pos RF]
        clear RF;go_upto_region 20 with fail
        have KG:Hid (∀w',Kp (w.heap.size+1+1) w5 w'→(w'.cell? ⟨gb,0,none⟩=some (.int .i64 123)∧w'.cell? ⟨gb,1,none⟩=some (.int .i64 ps))):=fun w' hw=>by
         have N:=bH hw (by have:=HL.out;omega) GB.out;exact⟨aK N 0,aK N 1⟩
        refine aL (S:=fun w'=>w'.cell? ⟨gb,0,none⟩=some (.int .i64 123)∧w'.cell? ⟨gb,1,none⟩=some (.int .i64 ps)) _ [(0,true),(1,true),(2,false)] (by kernel_rfl) (by kernel_rfl) rfl (by kernel_rfl) (by kernel_rfl) (fun _ _ d _ _ h=>by cases d<;>exact h) (KG.out _ (kp0 _ _)) ?_
        iterate 2
         refine Walk.take (v:=?_) rfl (by rfl) ?_ ?_;rotate_left
         ·(intro w' hSw;(try dsimp only at hSw);go_simp<;>with_reducible rfl)
         try simp only[Act.put,aA,aC,aB]
        refine Walk.act rfl (by rfl) (fun K hK=>?_);refine cO 123 ps (w.heap.size+1+1) _ GR.out.drew rfl _ _ rfl rfl rfl ?_;refine hK.out _ _ (KG.out _ (kp1 _ _ _)) ?_;clear hK K;try simp only[Act.put]
        refine Walk.done ?_;go_wp2_with fail;exact bodyPost_ret (bP rfl _ _ (w.heap.size+1+1) (.int .i64 0) 123 ps rfl rfl (Blk.rowS GR.out.drew _)) rfl ⟨cY E.out,aR (aH BZ.out) (aD _) (by omega) _⟩
       ·by_cases l2:16<len
        ·have l1:¬len≤16:=by omega
         have RF:raF ⟨ps,false,nm,1,len,false,lo,hi⟩ a b=false:=by simp[raF,l1]
         have E:Hid (deX ps (aU nm) (fd D nm sd.n) 1 (raF ⟨ps,false,nm,1,len,false,lo,hi⟩ a b) (De.cells ⟨ps,false,nm,1,len,false,lo,hi⟩) c=.no 123 ps):=by show deX ps (aU nm) (fd D nm sd.n) 1 (raF ⟨ps,false,nm,1,len,false,lo,hi⟩ a b) (De.cells ⟨ps,false,nm,1,len,false,lo,hi⟩) c=_;rw[HIN.out,HF.out];unfold deX;rw[if_neg (by decide),if_neg (by decide),if_neg (fun h=>h HT.out),if_pos RF]
         clear RF;go_upto_region 20 with fail
         have KG:Hid (∀w',Kp (w.heap.size+1+1) w5 w'→(w'.cell? ⟨gb,0,none⟩=some (.int .i64 123)∧w'.cell? ⟨gb,1,none⟩=some (.int .i64 ps))):=fun w' hw=>by
          have N:=bH hw (by have:=HL.out;omega) GB.out;exact⟨aK N 0,aK N 1⟩
         refine aL (S:=fun w'=>w'.cell? ⟨gb,0,none⟩=some (.int .i64 123)∧w'.cell? ⟨gb,1,none⟩=some (.int .i64 ps)) _ [(0,true),(1,true),(2,false)] (by kernel_rfl) (by kernel_rfl) rfl (by kernel_rfl) (by kernel_rfl) (fun _ _ d _ _ h=>by cases d<;>exact h) (KG.out _ (kp0 _ _)) ?_
         iterate 2
          refine Walk.take (v:=?_) rfl (by rfl) ?_ ?_;rotate_left
          ·(intro w' hSw;(try dsimp only at hSw);go_simp<;>with_reducible rfl)
          try simp only[Act.put,aA,aC,aB]
         refine Walk.act rfl (by rfl) (fun K hK=>?_);refine cO 123 ps (w.heap.size+1+1) _ GR.out.drew rfl _ _ rfl rfl rfl ?_;refine hK.out _ _ (KG.out _ (kp1 _ _ _)) ?_;clear hK K;try simp only[Act.put]
         refine Walk.done ?_;go_wp2_with fail;exact bodyPost_ret (bP rfl _ _ (w.heap.size+1+1) (.int .i64 0) 123 ps rfl rfl (Blk.rowS GR.out.drew _)) rfl ⟨cY E.out,aR (aH BZ.out) (aD _) (by omega) _⟩
        ·have l1:0≤len∧len≤16:=by omega
         by_cases l3:0<len
         ·have l4:0<len:=l3
          have RF:raF ⟨ps,false,nm,1,len,false,lo,hi⟩ a b=true:=by simp[raF,l1]
          have CE:De.cells ⟨ps,false,nm,1,len,false,lo,hi⟩=len:=by simp[De.cells,l3]
          have ov:IntKind.i64.wrap (c+len)=c+len:=by have:=HC.out;rw[IntKind.wrap_i64];omega
          have E0:Hid (deX ps (aU nm) (fd D nm sd.n) 1 (raF ⟨ps,false,nm,1,len,false,lo,hi⟩ a b) (De.cells ⟨ps,false,nm,1,len,false,lo,hi⟩) c=if 96<c+len then .no 123 ps else .ok (c+len)):=by
           show deX ps (aU nm) (fd D nm sd.n) 1 (raF ⟨ps,false,nm,1,len,false,lo,hi⟩ a b) (De.cells ⟨ps,false,nm,1,len,false,lo,hi⟩) c=_;rw[CE];rw[HIN.out,HF.out];unfold deX;rw[if_neg (by decide),if_neg (by decide),if_neg (fun h=>h HT.out),if_neg (by rw[RF];decide)]
          clear RF CE
          by_cases hc:96<c+len
          ·have E:Hid (deX ps (aU nm) (fd D nm sd.n) 1 (raF ⟨ps,false,nm,1,len,false,lo,hi⟩ a b) (De.cells ⟨ps,false,nm,1,len,false,lo,hi⟩) c=.no 123 ps):=by rw[if_pos hc]at E0;exact E0
           clear E0;go_upto_region 24 with fail
           have KG:Hid (∀w',Kp (w.heap.size+1+1) w5 w'→(w'.cell? ⟨gb,0,none⟩=some (.int .i64 123)∧w'.cell? ⟨gb,1,none⟩=some (.int .i64 ps))):=fun w' hw=>by
            have N:=bH hw (by have:=HL.out;omega) GB.out;exact⟨aK N 0,aK N 1⟩
           refine aL (S:=fun w'=>w'.cell? ⟨gb,0,none⟩=some (.int .i64 123)∧w'.cell? ⟨gb,1,none⟩=some (.int .i64 ps)) _ [(0,true),(1,true),(2,false)] (by kernel_rfl) (by kernel_rfl) rfl (by kernel_rfl) (by kernel_rfl) (fun _ _ d _ _ h=>by cases d<;>exact h) (KG.out _ (kp0 _ _)) ?_
           iterate 2
            refine Walk.take (v:=?_) rfl (by rfl) ?_ ?_;rotate_left
            ·(intro w' hSw;(try dsimp only at hSw);go_simp<;>with_reducible rfl)
            try simp only[Act.put,aA,aC,aB]
           refine Walk.act rfl (by rfl) (fun K hK=>?_);refine cO 123 ps (w.heap.size+1+1) _ GR.out.drew rfl _ _ rfl rfl rfl ?_;refine hK.out _ _ (KG.out _ (kp1 _ _ _)) ?_;clear hK K;try simp only[Act.put]
           refine Walk.done ?_;go_wp2_with fail;exact bodyPost_ret (bP rfl _ _ (w.heap.size+1+1) (.int .i64 0) 123 ps rfl rfl (Blk.rowS GR.out.drew _)) rfl ⟨cY E.out,aR (aH BZ.out) (aD _) (by omega) _⟩
          ·have E:Hid (deX ps (aU nm) (fd D nm sd.n) 1 (raF ⟨ps,false,nm,1,len,false,lo,hi⟩ a b) (De.cells ⟨ps,false,nm,1,len,false,lo,hi⟩) c=.ok (c+len)):=by rw[if_neg hc]at E0;exact E0
           clear E0;have r0:w5.cell? ⟨w.heap.size+1+1,0,none⟩=some (.int .i64 0):=GR.out.cell 0;have r1:w5.cell? ⟨w.heap.size+1+1,1,none⟩=some (.int .i64 0):=GR.out.cell 1;have z0:=GR.out.frozen 0;have z1:=GR.out.frozen 1;go_wp2_with fail;exact bodyPost_ret (bP rfl _ _ (w.heap.size+1+1) (.int .i64 (c+len)) 0 0 rfl rfl ((GR.out.set_ 0 (.int .i64 0)).set_ 1 (.int .i64 0))) rfl ⟨qX E.out,Below.setCell (Below.setCell BZ.out (p:=⟨(w.heap.size+1+1),0,none⟩) (by show w.heap.size≤w.heap.size+1+1;omega) _) (p:=⟨(w.heap.size+1+1),1,none⟩) (by show w.heap.size≤w.heap.size+1+1;omega) _⟩
         ·have l4:¬0<len:=l3
          have RF:raF ⟨ps,false,nm,1,len,false,lo,hi⟩ a b=true:=by simp[raF,l1]
          have CE:De.cells ⟨ps,false,nm,1,len,false,lo,hi⟩=1:=by simp[De.cells,l3]
          have ov:IntKind.i64.wrap (c+1)=c+1:=by have:=HC.out;rw[IntKind.wrap_i64];omega
          have E0:Hid (deX ps (aU nm) (fd D nm sd.n) 1 (raF ⟨ps,false,nm,1,len,false,lo,hi⟩ a b) (De.cells ⟨ps,false,nm,1,len,false,lo,hi⟩) c=if 96<c+1 then .no 123 ps else .ok (c+1)):=by
           show deX ps (aU nm) (fd D nm sd.n) 1 (raF ⟨ps,false,nm,1,len,false,lo,hi⟩ a b) (De.cells ⟨ps,false,nm,1,len,false,lo,hi⟩) c=_;rw[CE];rw[HIN.out,HF.out];unfold deX;rw[if_neg (by decide),if_neg (by decide),if_neg (fun h=>h HT.out),if_neg (by rw[RF];decide)]
          clear RF CE
          by_cases hc:96<c+1
          ·have E:Hid (deX ps (aU nm) (fd D nm sd.n) 1 (raF ⟨ps,false,nm,1,len,false,lo,hi⟩ a b) (De.cells ⟨ps,false,nm,1,len,false,lo,hi⟩) c=.no 123 ps):=by rw[if_pos hc]at E0;exact E0
           clear E0;go_upto_region 24 with fail
           have KG:Hid (∀w',Kp (w.heap.size+1+1) w5 w'→(w'.cell? ⟨gb,0,none⟩=some (.int .i64 123)∧w'.cell? ⟨gb,1,none⟩=some (.int .i64 ps))):=fun w' hw=>by
            have N:=bH hw (by have:=HL.out;omega) GB.out;exact⟨aK N 0,aK N 1⟩
           refine aL (S:=fun w'=>w'.cell? ⟨gb,0,none⟩=some (.int .i64 123)∧w'.cell? ⟨gb,1,none⟩=some (.int .i64 ps)) _ [(0,true),(1,true),(2,false)] (by kernel_rfl) (by kernel_rfl) rfl (by kernel_rfl) (by kernel_rfl) (fun _ _ d _ _ h=>by cases d<;>exact h) (KG.out _ (kp0 _ _)) ?_
           iterate 2
            refine Walk.take (v:=?_) rfl (by rfl) ?_ ?_;rotate_left
            ·(intro w' hSw;(try dsimp only at hSw);go_simp<;>with_reducible rfl)
            try simp only[Act.put,aA,aC,aB]
           refine Walk.act rfl (by rfl) (fun K hK=>?_);refine cO 123 ps (w.heap.size+1+1) _ GR.out.drew rfl _ _ rfl rfl rfl ?_;refine hK.out _ _ (KG.out _ (kp1 _ _ _)) ?_;clear hK K;try simp only[Act.put]
           refine Walk.done ?_;go_wp2_with fail;exact bodyPost_ret (bP rfl _ _ (w.heap.size+1+1) (.int .i64 0) 123 ps rfl rfl (Blk.rowS GR.out.drew _)) rfl ⟨cY E.out,aR (aH BZ.out) (aD _) (by omega) _⟩
          ·have E:Hid (deX ps (aU nm) (fd D nm sd.n) 1 (raF ⟨ps,false,nm,1,len,false,lo,hi⟩ a b) (De.cells ⟨ps,false,nm,1,len,false,lo,hi⟩) c=.ok (c+1)):=by rw[if_neg hc]at E0;exact E0
           clear E0;have r0:w5.cell? ⟨w.heap.size+1+1,0,none⟩=some (.int .i64 0):=GR.out.cell 0;have r1:w5.cell? ⟨w.heap.size+1+1,1,none⟩=some (.int .i64 0):=GR.out.cell 1;have z0:=GR.out.frozen 0;have z1:=GR.out.frozen 1;go_wp2_with fail;exact bodyPost_ret (bP rfl _ _ (w.heap.size+1+1) (.int .i64 (c+1)) 0 0 rfl rfl ((GR.out.set_ 0 (.int .i64 0)).set_ 1 (.int .i64 0))) rfl ⟨qX E.out,Below.setCell (Below.setCell BZ.out (p:=⟨(w.heap.size+1+1),0,none⟩) (by show w.heap.size≤w.heap.size+1+1;omega) _) (p:=⟨(w.heap.size+1+1),1,none⟩) (by show w.heap.size≤w.heap.size+1+1;omega) _⟩
     | true=>
      by_cases l0:len=0
      case neg=>
       have l1:(len != 0)=true:=by simp[l0]
       clear EA EB GC RP;have RF:raF ⟨ps,true,nm,1,len,rg,lo,hi⟩ a b=false:=by simp[raF,l0]
       have E:Hid (deX ps (aU nm) (fd D nm sd.n) 1 (raF ⟨ps,true,nm,1,len,rg,lo,hi⟩ a b) (De.cells ⟨ps,true,nm,1,len,rg,lo,hi⟩) c=.no 123 ps):=by show deX ps (aU nm) (fd D nm sd.n) 1 (raF ⟨ps,true,nm,1,len,rg,lo,hi⟩ a b) (De.cells ⟨ps,true,nm,1,len,rg,lo,hi⟩) c=_;rw[HIN.out,HF.out];unfold deX;rw[if_neg (by decide),if_neg (by decide),if_neg (fun h=>h HT.out),if_pos RF]
       clear RF;go_upto_region 12 with fail
       have KG:Hid (∀w',Kp (w.heap.size+1+1) w5 w'→(w'.cell? ⟨gb,0,none⟩=some (.int .i64 123)∧w'.cell? ⟨gb,1,none⟩=some (.int .i64 ps))):=fun w' hw=>by
        have N:=bH hw (by have:=HL.out;omega) GB.out;exact⟨aK N 0,aK N 1⟩
       refine aL (S:=fun w'=>w'.cell? ⟨gb,0,none⟩=some (.int .i64 123)∧w'.cell? ⟨gb,1,none⟩=some (.int .i64 ps)) _ [(0,true),(1,true),(2,false)] (by kernel_rfl) (by kernel_rfl) rfl (by kernel_rfl) (by kernel_rfl) (fun _ _ d _ _ h=>by cases d<;>exact h) (KG.out _ (kp0 _ _)) ?_
       iterate 2
        refine Walk.take (v:=?_) rfl (by rfl) ?_ ?_;rotate_left
        ·(intro w' hSw;(try dsimp only at hSw);go_simp<;>with_reducible rfl)
        try simp only[Act.put,aA,aC,aB]
       refine Walk.act rfl (by rfl) (fun K hK=>?_);refine cO 123 ps (w.heap.size+1+1) _ GR.out.drew rfl _ _ rfl rfl rfl ?_;refine hK.out _ _ (KG.out _ (kp1 _ _ _)) ?_;clear hK K;try simp only[Act.put]
       refine Walk.done ?_;go_wp2_with fail;exact bodyPost_ret (bP rfl _ _ (w.heap.size+1+1) (.int .i64 0) 123 ps rfl rfl (Blk.rowS GR.out.drew _)) rfl ⟨cY E.out,aR (aH BZ.out) (aD _) (by omega) _⟩
      case pos=>
       subst l0
       cases rg with
       | true=>
        clear EA EB GC RP;have RF:raF ⟨ps,true,nm,1,0,true,lo,hi⟩ a b=false:=by rfl
        have E:Hid (deX ps (aU nm) (fd D nm sd.n) 1 (raF ⟨ps,true,nm,1,0,true,lo,hi⟩ a b) (De.cells ⟨ps,true,nm,1,0,true,lo,hi⟩) c=.no 123 ps):=by show deX ps (aU nm) (fd D nm sd.n) 1 (raF ⟨ps,true,nm,1,0,true,lo,hi⟩ a b) (De.cells ⟨ps,true,nm,1,0,true,lo,hi⟩) c=_;rw[HIN.out,HF.out];unfold deX;rw[if_neg (by decide),if_neg (by decide),if_neg (fun h=>h HT.out),if_pos RF]
        clear RF;go_upto_region 12 with fail
        have KG:Hid (∀w',Kp (w.heap.size+1+1) w5 w'→(w'.cell? ⟨gb,0,none⟩=some (.int .i64 123)∧w'.cell? ⟨gb,1,none⟩=some (.int .i64 ps))):=fun w' hw=>by
         have N:=bH hw (by have:=HL.out;omega) GB.out;exact⟨aK N 0,aK N 1⟩
        refine aL (S:=fun w'=>w'.cell? ⟨gb,0,none⟩=some (.int .i64 123)∧w'.cell? ⟨gb,1,none⟩=some (.int .i64 ps)) _ [(0,true),(1,true),(2,false)] (by kernel_rfl) (by kernel_rfl) rfl (by kernel_rfl) (by kernel_rfl) (fun _ _ d _ _ h=>by cases d<;>exact h) (KG.out _ (kp0 _ _)) ?_
        iterate 2
         refine Walk.take (v:=?_) rfl (by rfl) ?_ ?_;rotate_left
         ·(intro w' hSw;(try dsimp only at hSw);go_simp<;>with_reducible rfl)
         try simp only[Act.put,aA,aC,aB]
        refine Walk.act rfl (by rfl) (fun K hK=>?_);refine cO 123 ps (w.heap.size+1+1) _ GR.out.drew rfl _ _ rfl rfl rfl ?_;refine hK.out _ _ (KG.out _ (kp1 _ _ _)) ?_;clear hK K;try simp only[Act.put]
        refine Walk.done ?_;go_wp2_with fail;exact bodyPost_ret (bP rfl _ _ (w.heap.size+1+1) (.int .i64 0) 123 ps rfl rfl (Blk.rowS GR.out.drew _)) rfl ⟨cY E.out,aR (aH BZ.out) (aD _) (by omega) _⟩
       | false=>
        clear EA EB GC RP;have RF:raF ⟨ps,true,nm,1,0,false,lo,hi⟩ a b=true:=by rfl
        have CE:De.cells ⟨ps,true,nm,1,0,false,lo,hi⟩=1:=by rfl
        have ov:IntKind.i64.wrap (c+1)=c+1:=by have:=HC.out;rw[IntKind.wrap_i64];omega
        have E0:Hid (deX ps (aU nm) (fd D nm sd.n) 1 (raF ⟨ps,true,nm,1,0,false,lo,hi⟩ a b) (De.cells ⟨ps,true,nm,1,0,false,lo,hi⟩) c=if 96<c+1 then .no 123 ps else .ok (c+1)):=by
         show deX ps (aU nm) (fd D nm sd.n) 1 (raF ⟨ps,true,nm,1,0,false,lo,hi⟩ a b) (De.cells ⟨ps,true,nm,1,0,false,lo,hi⟩) c=_;rw[CE];rw[HIN.out,HF.out];unfold deX;rw[if_neg (by decide),if_neg (by decide),if_neg (fun h=>h HT.out),if_neg (by rw[RF];decide)]
        clear RF CE
        by_cases hc:96<c+1
        ·have E:Hid (deX ps (aU nm) (fd D nm sd.n) 1 (raF ⟨ps,true,nm,1,0,false,lo,hi⟩ a b) (De.cells ⟨ps,true,nm,1,0,false,lo,hi⟩) c=.no 123 ps):=by rw[if_pos hc]at E0;exact E0
         clear E0;go_upto_region 24 with fail
         have KG:Hid (∀w',Kp (w.heap.size+1+1) w5 w'→(w'.cell? ⟨gb,0,none⟩=some (.int .i64 123)∧w'.cell? ⟨gb,1,none⟩=some (.int .i64 ps))):=fun w' hw=>by
          have N:=bH hw (by have:=HL.out;omega) GB.out;exact⟨aK N 0,aK N 1⟩
         refine aL (S:=fun w'=>w'.cell? ⟨gb,0,none⟩=some (.int .i64 123)∧w'.cell? ⟨gb,1,none⟩=some (.int .i64 ps)) _ [(0,true),(1,true),(2,false)] (by kernel_rfl) (by kernel_rfl) rfl (by kernel_rfl) (by kernel_rfl) (fun _ _ d _ _ h=>by cases d<;>exact h) (KG.out _ (kp0 _ _)) ?_
         iterate 2
          refine Walk.take (v:=?_) rfl (by rfl) ?_ ?_;rotate_left
          ·(intro w' hSw;(try dsimp only at hSw);go_simp<;>with_reducible rfl)
          try simp only[Act.put,aA,aC,aB]
         refine Walk.act rfl (by rfl) (fun K hK=>?_);refine cO 123 ps (w.heap.size+1+1) _ GR.out.drew rfl _ _ rfl rfl rfl ?_;refine hK.out _ _ (KG.out _ (kp1 _ _ _)) ?_;clear hK K;try simp only[Act.put]
         refine Walk.done ?_;go_wp2_with fail;exact bodyPost_ret (bP rfl _ _ (w.heap.size+1+1) (.int .i64 0) 123 ps rfl rfl (Blk.rowS GR.out.drew _)) rfl ⟨cY E.out,aR (aH BZ.out) (aD _) (by omega) _⟩
        ·have E:Hid (deX ps (aU nm) (fd D nm sd.n) 1 (raF ⟨ps,true,nm,1,0,false,lo,hi⟩ a b) (De.cells ⟨ps,true,nm,1,0,false,lo,hi⟩) c=.ok (c+1)):=by rw[if_neg hc]at E0;exact E0
         clear E0;have r0:w5.cell? ⟨w.heap.size+1+1,0,none⟩=some (.int .i64 0):=GR.out.cell 0;have r1:w5.cell? ⟨w.heap.size+1+1,1,none⟩=some (.int .i64 0):=GR.out.cell 1;have z0:=GR.out.frozen 0;have z1:=GR.out.frozen 1;go_wp2_with fail;exact bodyPost_ret (bP rfl _ _ (w.heap.size+1+1) (.int .i64 (c+1)) 0 0 rfl rfl ((GR.out.set_ 0 (.int .i64 0)).set_ 1 (.int .i64 0))) rfl ⟨qX E.out,Below.setCell (Below.setCell BZ.out (p:=⟨(w.heap.size+1+1),0,none⟩) (by show w.heap.size≤w.heap.size+1+1;omega) _) (p:=⟨(w.heap.size+1+1),1,none⟩) (by show w.heap.size≤w.heap.size+1+1;omega) _⟩
    case' inr.inl=>
     clear ht;go_upto_region 9 with fail;change (Code.region 9 _ _).wp _ _ _ (w4.alloc (.cells #[.int .i64 123,.int .i64 ps] 32));clear c0 c3;generalize w4.alloc (.cells #[.int .i64 123,.int .i64 ps] 32)=w5 at *;generalize w4.heap.size=gb at *;have DC:=cA GD.out;have c1:=DC.c1;have c3:=DC.c3;have c4:=DC.c4;have c5:=DC.c5;clear DC;dsimp only at c1 c3 c4 c5
     cases inp with
     | false=>
      clear EA EB GC RP
      cases rg with
      | true=>
       have RF:raF ⟨ps,false,nm,2,len,true,lo,hi⟩ a b=false:=by rfl
       have E:Hid (deX ps (aU nm) (fd D nm sd.n) 2 (raF ⟨ps,false,nm,2,len,true,lo,hi⟩ a b) (De.cells ⟨ps,false,nm,2,len,true,lo,hi⟩) c=.no 123 ps):=by show deX ps (aU nm) (fd D nm sd.n) 2 (raF ⟨ps,false,nm,2,len,true,lo,hi⟩ a b) (De.cells ⟨ps,false,nm,2,len,true,lo,hi⟩) c=_;rw[HIN.out,HF.out];unfold deX;rw[if_neg (by decide),if_neg (by decide),if_neg (fun h=>h HT.out),if_pos RF]
       clear RF;go_upto_region 20 with fail
       have KG:Hid (∀w',Kp (w.heap.size+1+1) w5 w'→(w'.cell? ⟨gb,0,none⟩=some (.int .i64 123)∧w'.cell? ⟨gb,1,none⟩=some (.int .i64 ps))):=fun w' hw=>by
        have N:=bH hw (by have:=HL.out;omega) GB.out;exact⟨aK N 0,aK N 1⟩
       refine aL (S:=fun w'=>w'.cell? ⟨gb,0,none⟩=some (.int .i64 123)∧w'.cell? ⟨gb,1,none⟩=some (.int .i64 ps)) _ [(0,true),(1,true),(2,false)] (by kernel_rfl) (by kernel_rfl) rfl (by kernel_rfl) (by kernel_rfl) (fun _ _ d _ _ h=>by cases d<;>exact h) (KG.out _ (kp0 _ _)) ?_
       iterate 2
        refine Walk.take (v:=?_) rfl (by rfl) ?_ ?_;rotate_left
        ·(intro w' hSw;(try dsimp only at hSw);go_simp<;>with_reducible rfl)
        try simp only[Act.put,aA,aC,aB]
       refine Walk.act rfl (by rfl) (fun K hK=>?_);refine cO 123 ps (w.heap.size+1+1) _ GR.out.drew rfl _ _ rfl rfl rfl ?_;refine hK.out _ _ (KG.out _ (kp1 _ _ _)) ?_;clear hK K;try simp only[Act.put]
       refine Walk.done ?_;go_wp2_with fail;exact bodyPost_ret (bP rfl _ _ (w.heap.size+1+1) (.int .i64 0) 123 ps rfl rfl (Blk.rowS GR.out.drew _)) rfl ⟨cY E.out,aR (aH BZ.out) (aD _) (by omega) _⟩
      | false=>
       by_cases l0:len<0
       ·have l1:¬0≤len:=by omega
        have RF:raF ⟨ps,false,nm,2,len,false,lo,hi⟩ a b=false:=by simp[raF,l1]
        have E:Hid (deX ps (aU nm) (fd D nm sd.n) 2 (raF ⟨ps,false,nm,2,len,false,lo,hi⟩ a b) (De.cells ⟨ps,false,nm,2,len,false,lo,hi⟩) c=.no 123 ps):=by show deX ps (aU nm) (fd D nm sd.n) 2 (raF ⟨ps,false,nm,2,len,false,lo,hi⟩ a b) (De.cells ⟨ps,false,nm,2,len,false,lo,hi⟩) c=_;rw[HIN.out,HF.out];unfold deX;rw[if_neg (by decide),if_neg (by decide),if_neg (fun h=>h HT.out),if_pos RF]
        clear RF;go_upto_region 20 with fail
        have KG:Hid (∀w',Kp (w.heap.size+1+1) w5 w'→(w'.cell? ⟨gb,0,none⟩=some (.int .i64 123)∧w'.cell? ⟨gb,1,none⟩=some (.int .i64 ps))):=fun w' hw=>by
         have N:=bH hw (by have:=HL.out;omega) GB.out;exact⟨aK N 0,aK N 1⟩
        refine aL (S:=fun w'=>w'.cell? ⟨gb,0,none⟩=some (.int .i64 123)∧w'.cell? ⟨gb,1,none⟩=some (.int .i64 ps)) _ [(0,true),(1,true),(2,false)] (by kernel_rfl) (by kernel_rfl) rfl (by kernel_rfl) (by kernel_rfl) (fun _ _ d _ _ h=>by cases d<;>exact h) (KG.out _ (kp0 _ _)) ?_
        iterate 2
         refine Walk.take (v:=?_) rfl (by rfl) ?_ ?_;rotate_left
         ·(intro w' hSw;(try dsimp only at hSw);go_simp<;>with_reducible rfl)
         try simp only[Act.put,aA,aC,aB]
        refine Walk.act rfl (by rfl) (fun K hK=>?_);refine cO 123 ps (w.heap.size+1+1) _ GR.out.drew rfl _ _ rfl rfl rfl ?_;refine hK.out _ _ (KG.out _ (kp1 _ _ _)) ?_;clear hK K;try simp only[Act.put]
        refine Walk.done ?_;go_wp2_with fail;exact bodyPost_ret (bP rfl _ _ (w.heap.size+1+1) (.int .i64 0) 123 ps rfl rfl (Blk.rowS GR.out.drew _)) rfl ⟨cY E.out,aR (aH BZ.out) (aD _) (by omega) _⟩
       ·by_cases l2:16<len
        ·have l1:¬len≤16:=by omega
         have RF:raF ⟨ps,false,nm,2,len,false,lo,hi⟩ a b=false:=by simp[raF,l1]
         have E:Hid (deX ps (aU nm) (fd D nm sd.n) 2 (raF ⟨ps,false,nm,2,len,false,lo,hi⟩ a b) (De.cells ⟨ps,false,nm,2,len,false,lo,hi⟩) c=.no 123 ps):=by show deX ps (aU nm) (fd D nm sd.n) 2 (raF ⟨ps,false,nm,2,len,false,lo,hi⟩ a b) (De.cells ⟨ps,false,nm,2,len,false,lo,hi⟩) c=_;rw[HIN.out,HF.out];unfold deX;rw[if_neg (by decide),if_neg (by decide),if_neg (fun h=>h HT.out),if_pos RF]
         clear RF;go_upto_region 20 with fail
         have KG:Hid (∀w',Kp (w.heap.size+1+1) w5 w'→(w'.cell? ⟨gb,0,none⟩=some (.int .i64 123)∧w'.cell? ⟨gb,1,none⟩=some (.int .i64 ps))):=fun w' hw=>by
          have N:=bH hw (by have:=HL.out;omega) GB.out;exact⟨aK N 0,aK N 1⟩
         refine aL (S:=fun w'=>w'.cell? ⟨gb,0,none⟩=some (.int .i64 123)∧w'.cell? ⟨gb,1,none⟩=some (.int .i64 ps)) _ [(0,true),(1,true),(2,false)] (by kernel_rfl) (by kernel_rfl) rfl (by kernel_rfl) (by kernel_rfl) (fun _ _ d _ _ h=>by cases d<;>exact h) (KG.out _ (kp0 _ _)) ?_
         iterate 2
          refine Walk.take (v:=?_) rfl (by rfl) ?_ ?_;rotate_left
          ·(intro w' hSw;(try dsimp only at hSw);go_simp<;>with_reducible rfl)
          try simp only[Act.put,aA,aC,aB]
         refine Walk.act rfl (by rfl) (fun K hK=>?_);refine cO 123 ps (w.heap.size+1+1) _ GR.out.drew rfl _ _ rfl rfl rfl ?_;refine hK.out _ _ (KG.out _ (kp1 _ _ _)) ?_;clear hK K;try simp only[Act.put]
         refine Walk.done ?_;go_wp2_with fail;exact bodyPost_ret (bP rfl _ _ (w.heap.size+1+1) (.int .i64 0) 123 ps rfl rfl (Blk.rowS GR.out.drew _)) rfl ⟨cY E.out,aR (aH BZ.out) (aD _) (by omega) _⟩
        ·have l1:0≤len∧len≤16:=by omega
         by_cases l3:0<len
         ·have l4:0<len:=l3
          have RF:raF ⟨ps,false,nm,2,len,false,lo,hi⟩ a b=true:=by simp[raF,l1]
          have CE:De.cells ⟨ps,false,nm,2,len,false,lo,hi⟩=len:=by simp[De.cells,l3]
          have ov:IntKind.i64.wrap (c+len)=c+len:=by have:=HC.out;rw[IntKind.wrap_i64];omega
          have E0:Hid (deX ps (aU nm) (fd D nm sd.n) 2 (raF ⟨ps,false,nm,2,len,false,lo,hi⟩ a b) (De.cells ⟨ps,false,nm,2,len,false,lo,hi⟩) c=if 96<c+len then .no 123 ps else .ok (c+len)):=by
           show deX ps (aU nm) (fd D nm sd.n) 2 (raF ⟨ps,false,nm,2,len,false,lo,hi⟩ a b) (De.cells ⟨ps,false,nm,2,len,false,lo,hi⟩) c=_;rw[CE];rw[HIN.out,HF.out];unfold deX;rw[if_neg (by decide),if_neg (by decide),if_neg (fun h=>h HT.out),if_neg (by rw[RF];decide)]
          clear RF CE
          by_cases hc:96<c+len
          ·have E:Hid (deX ps (aU nm) (fd D nm sd.n) 2 (raF ⟨ps,false,nm,2,len,false,lo,hi⟩ a b) (De.cells ⟨ps,false,nm,2,len,false,lo,hi⟩) c=.no 123 ps):=by rw[if_pos hc]at E0;exact E0
           clear E0;go_upto_region 24 with fail
           have KG:Hid (∀w',Kp (w.heap.size+1+1) w5 w'→(w'.cell? ⟨gb,0,none⟩=some (.int .i64 123)∧w'.cell? ⟨gb,1,none⟩=some (.int .i64 ps))):=fun w' hw=>by
            have N:=bH hw (by have:=HL.out;omega) GB.out;exact⟨aK N 0,aK N 1⟩
           refine aL (S:=fun w'=>w'.cell? ⟨gb,0,none⟩=some (.int .i64 123)∧w'.cell? ⟨gb,1,none⟩=some (.int .i64 ps)) _ [(0,true),(1,true),(2,false)] (by kernel_rfl) (by kernel_rfl) rfl (by kernel_rfl) (by kernel_rfl) (fun _ _ d _ _ h=>by cases d<;>exact h) (KG.out _ (kp0 _ _)) ?_
           iterate 2
            refine Walk.take (v:=?_) rfl (by rfl) ?_ ?_;rotate_left
            ·(intro w' hSw;(try dsimp only at hSw);go_simp<;>with_reducible rfl)
            try simp only[Act.put,aA,aC,aB]
           refine Walk.act rfl (by rfl) (fun K hK=>?_);refine cO 123 ps (w.heap.size+1+1) _ GR.out.drew rfl _ _ rfl rfl rfl ?_;refine hK.out _ _ (KG.out _ (kp1 _ _ _)) ?_;clear hK K;try simp only[Act.put]
           refine Walk.done ?_;go_wp2_with fail;exact bodyPost_ret (bP rfl _ _ (w.heap.size+1+1) (.int .i64 0) 123 ps rfl rfl (Blk.rowS GR.out.drew _)) rfl ⟨cY E.out,aR (aH BZ.out) (aD _) (by omega) _⟩
          ·have E:Hid (deX ps (aU nm) (fd D nm sd.n) 2 (raF ⟨ps,false,nm,2,len,false,lo,hi⟩ a b) (De.cells ⟨ps,false,nm,2,len,false,lo,hi⟩) c=.ok (c+len)):=by rw[if_neg hc]at E0;exact E0
           clear E0;have r0:w5.cell? ⟨w.heap.size+1+1,0,none⟩=some (.int .i64 0):=GR.out.cell 0;have r1:w5.cell? ⟨w.heap.size+1+1,1,none⟩=some (.int .i64 0):=GR.out.cell 1;have z0:=GR.out.frozen 0;have z1:=GR.out.frozen 1;go_wp2_with fail;exact bodyPost_ret (bP rfl _ _ (w.heap.size+1+1) (.int .i64 (c+len)) 0 0 rfl rfl ((GR.out.set_ 0 (.int .i64 0)).set_ 1 (.int .i64 0))) rfl ⟨qX E.out,Below.setCell (Below.setCell BZ.out (p:=⟨(w.heap.size+1+1),0,none⟩) (by show w.heap.size≤w.heap.size+1+1;omega) _) (p:=⟨(w.heap.size+1+1),1,none⟩) (by show w.heap.size≤w.heap.size+1+1;omega) _⟩
         ·have l4:¬0<len:=l3
          have RF:raF ⟨ps,false,nm,2,len,false,lo,hi⟩ a b=true:=by simp[raF,l1]
          have CE:De.cells ⟨ps,false,nm,2,len,false,lo,hi⟩=1:=by simp[De.cells,l3]
          have ov:IntKind.i64.wrap (c+1)=c+1:=by have:=HC.out;rw[IntKind.wrap_i64];omega
          have E0:Hid (deX ps (aU nm) (fd D nm sd.n) 2 (raF ⟨ps,false,nm,2,len,false,lo,hi⟩ a b) (De.cells ⟨ps,false,nm,2,len,false,lo,hi⟩) c=if 96<c+1 then .no 123 ps else .ok (c+1)):=by
           show deX ps (aU nm) (fd D nm sd.n) 2 (raF ⟨ps,false,nm,2,len,false,lo,hi⟩ a b) (De.cells ⟨ps,false,nm,2,len,false,lo,hi⟩) c=_;rw[CE];rw[HIN.out,HF.out];unfold deX;rw[if_neg (by decide),if_neg (by decide),if_neg (fun h=>h HT.out),if_neg (by rw[RF];decide)]
          clear RF CE
          by_cases hc:96<c+1
          ·have E:Hid (deX ps (aU nm) (fd D nm sd.n) 2 (raF ⟨ps,false,nm,2,len,false,lo,hi⟩ a b) (De.cells ⟨ps,false,nm,2,len,false,lo,hi⟩) c=.no 123 ps):=by rw[if_pos hc]at E0;exact E0
           clear E0;go_upto_region 24 with fail
           have KG:Hid (∀w',Kp (w.heap.size+1+1) w5 w'→(w'.cell? ⟨gb,0,none⟩=some (.int .i64 123)∧w'.cell? ⟨gb,1,none⟩=some (.int .i64 ps))):=fun w' hw=>by
            have N:=bH hw (by have:=HL.out;omega) GB.out;exact⟨aK N 0,aK N 1⟩
           refine aL (S:=fun w'=>w'.cell? ⟨gb,0,none⟩=some (.int .i64 123)∧w'.cell? ⟨gb,1,none⟩=some (.int .i64 ps)) _ [(0,true),(1,true),(2,false)] (by kernel_rfl) (by kernel_rfl) rfl (by kernel_rfl) (by kernel_rfl) (fun _ _ d _ _ h=>by cases d<;>exact h) (KG.out _ (kp0 _ _)) ?_
           iterate 2
            refine Walk.take (v:=?_) rfl (by rfl) ?_ ?_;rotate_left
            ·(intro w' hSw;(try dsimp only at hSw);go_simp<;>with_reducible rfl)
            try simp only[Act.put,aA,aC,aB]
           refine Walk.act rfl (by rfl) (fun K hK=>?_);refine cO 123 ps (w.heap.size+1+1) _ GR.out.drew rfl _ _ rfl rfl rfl ?_;refine hK.out _ _ (KG.out _ (kp1 _ _ _)) ?_;clear hK K;try simp only[Act.put]
           refine Walk.done ?_;go_wp2_with fail;exact bodyPost_ret (bP rfl _ _ (w.heap.size+1+1) (.int .i64 0) 123 ps rfl rfl (Blk.rowS GR.out.drew _)) rfl ⟨cY E.out,aR (aH BZ.out) (aD _) (by omega) _⟩
          ·have E:Hid (deX ps (aU nm) (fd D nm sd.n) 2 (raF ⟨ps,false,nm,2,len,false,lo,hi⟩ a b) (De.cells ⟨ps,false,nm,2,len,false,lo,hi⟩) c=.ok (c+1)):=by rw[if_neg hc]at E0;exact E0
           clear E0;have r0:w5.cell? ⟨w.heap.size+1+1,0,none⟩=some (.int .i64 0):=GR.out.cell 0;have r1:w5.cell? ⟨w.heap.size+1+1,1,none⟩=some (.int .i64 0):=GR.out.cell 1;have z0:=GR.out.frozen 0;have z1:=GR.out.frozen 1;go_wp2_with fail;exact bodyPost_ret (bP rfl _ _ (w.heap.size+1+1) (.int .i64 (c+1)) 0 0 rfl rfl ((GR.out.set_ 0 (.int .i64 0)).set_ 1 (.int .i64 0))) rfl ⟨qX E.out,Below.setCell (Below.setCell BZ.out (p:=⟨(w.heap.size+1+1),0,none⟩) (by show w.heap.size≤w.heap.size+1+1;omega) _) (p:=⟨(w.heap.size+1+1),1,none⟩) (by show w.heap.size≤w.heap.size+1+1;omega) _⟩
     | true=>
      by_cases l0:len=0
      case neg=>
       have l1:(len != 0)=true:=by simp[l0]
       clear EA EB GC RP;have RF:raF ⟨ps,true,nm,2,len,rg,lo,hi⟩ a b=false:=by simp[raF,l0]
       have E:Hid (deX ps (aU nm) (fd D nm sd.n) 2 (raF ⟨ps,true,nm,2,len,rg,lo,hi⟩ a b) (De.cells ⟨ps,true,nm,2,len,rg,lo,hi⟩) c=.no 123 ps):=by show deX ps (aU nm) (fd D nm sd.n) 2 (raF ⟨ps,true,nm,2,len,rg,lo,hi⟩ a b) (De.cells ⟨ps,true,nm,2,len,rg,lo,hi⟩) c=_;rw[HIN.out,HF.out];unfold deX;rw[if_neg (by decide),if_neg (by decide),if_neg (fun h=>h HT.out),if_pos RF]
       clear RF;go_upto_region 12 with fail
       have KG:Hid (∀w',Kp (w.heap.size+1+1) w5 w'→(w'.cell? ⟨gb,0,none⟩=some (.int .i64 123)∧w'.cell? ⟨gb,1,none⟩=some (.int .i64 ps))):=fun w' hw=>by
        have N:=bH hw (by have:=HL.out;omega) GB.out;exact⟨aK N 0,aK N 1⟩
       refine aL (S:=fun w'=>w'.cell? ⟨gb,0,none⟩=some (.int .i64 123)∧w'.cell? ⟨gb,1,none⟩=some (.int .i64 ps)) _ [(0,true),(1,true),(2,false)] (by kernel_rfl) (by kernel_rfl) rfl (by kernel_rfl) (by kernel_rfl) (fun _ _ d _ _ h=>by cases d<;>exact h) (KG.out _ (kp0 _ _)) ?_
       iterate 2
        refine Walk.take (v:=?_) rfl (by rfl) ?_ ?_;rotate_left
        ·(intro w' hSw;(try dsimp only at hSw);go_simp<;>with_reducible rfl)
        try simp only[Act.put,aA,aC,aB]
       refine Walk.act rfl (by rfl) (fun K hK=>?_);refine cO 123 ps (w.heap.size+1+1) _ GR.out.drew rfl _ _ rfl rfl rfl ?_;refine hK.out _ _ (KG.out _ (kp1 _ _ _)) ?_;clear hK K;try simp only[Act.put]
       refine Walk.done ?_;go_wp2_with fail;exact bodyPost_ret (bP rfl _ _ (w.heap.size+1+1) (.int .i64 0) 123 ps rfl rfl (Blk.rowS GR.out.drew _)) rfl ⟨cY E.out,aR (aH BZ.out) (aD _) (by omega) _⟩
      case pos=>
       subst l0
       cases rg with
       | false=>
        clear EA EB GC RP;have RF:raF ⟨ps,true,nm,2,0,false,lo,hi⟩ a b=false:=by rfl
        have E:Hid (deX ps (aU nm) (fd D nm sd.n) 2 (raF ⟨ps,true,nm,2,0,false,lo,hi⟩ a b) (De.cells ⟨ps,true,nm,2,0,false,lo,hi⟩) c=.no 123 ps):=by show deX ps (aU nm) (fd D nm sd.n) 2 (raF ⟨ps,true,nm,2,0,false,lo,hi⟩ a b) (De.cells ⟨ps,true,nm,2,0,false,lo,hi⟩) c=_;rw[HIN.out,HF.out];unfold deX;rw[if_neg (by decide),if_neg (by decide),if_neg (fun h=>h HT.out),if_pos RF]
        clear RF;go_upto_region 12 with fail
        have KG:Hid (∀w',Kp (w.heap.size+1+1) w5 w'→(w'.cell? ⟨gb,0,none⟩=some (.int .i64 123)∧w'.cell? ⟨gb,1,none⟩=some (.int .i64 ps))):=fun w' hw=>by
         have N:=bH hw (by have:=HL.out;omega) GB.out;exact⟨aK N 0,aK N 1⟩
        refine aL (S:=fun w'=>w'.cell? ⟨gb,0,none⟩=some (.int .i64 123)∧w'.cell? ⟨gb,1,none⟩=some (.int .i64 ps)) _ [(0,true),(1,true),(2,false)] (by kernel_rfl) (by kernel_rfl) rfl (by kernel_rfl) (by kernel_rfl) (fun _ _ d _ _ h=>by cases d<;>exact h) (KG.out _ (kp0 _ _)) ?_
        iterate 2
         refine Walk.take (v:=?_) rfl (by rfl) ?_ ?_;rotate_left
         ·(intro w' hSw;(try dsimp only at hSw);go_simp<;>with_reducible rfl)
         try simp only[Act.put,aA,aC,aB]
        refine Walk.act rfl (by rfl) (fun K hK=>?_);refine cO 123 ps (w.heap.size+1+1) _ GR.out.drew rfl _ _ rfl rfl rfl ?_;refine hK.out _ _ (KG.out _ (kp1 _ _ _)) ?_;clear hK K;try simp only[Act.put]
        refine Walk.done ?_;go_wp2_with fail;exact bodyPost_ret (bP rfl _ _ (w.heap.size+1+1) (.int .i64 0) 123 ps rfl rfl (Blk.rowS GR.out.drew _)) rfl ⟨cY E.out,aR (aH BZ.out) (aD _) (by omega) _⟩
       | true=>
        have RPE:=Hj (RP.out (.inl rfl));clear RP;obtain⟨c6,c7,c8,c9,c10,c11,c12,c13,c14,c15,c16,c17,c18,c19⟩:=xB GD.out;go_wp2_with fail;refine(EA.out _).mono ?_;rintro r w6 ⟨rfl,b6⟩;clear EA c1 c3 c4 c5 c6 c7 c8 c9 c10 c11 c12 c13 c14 c15 c16 c17 c18 c19;have GDn:=Hj (aV b6 GD.out);have GRn:=Hj (GR.out.below b6 GR.out.lt);have GBn:=Hj (GB.out.below b6 GB.out.lt);have BZn:=Hj (aG BZ.out b6);clear GD GR GB BZ b6;have GD:=Hj GDn.out;have GR:=Hj GRn.out;have GB:=Hj GBn.out;have BZ:=Hj BZn.out;clear GDn GRn GBn BZn;obtain⟨c6,c7,c8,c9,c10,c11,c12,c13,c14,c15,c16,c17,c18,c19⟩:=xB GD.out;have c3:=(cA GD.out).c3;dsimp only at c3;go_wp2_with fail;refine(EB.out _).mono ?_;rintro r w7 ⟨rfl,b7⟩;clear EB c3 c6 c7 c8 c9 c10 c11 c12 c13 c14 c15 c16 c17 c18 c19;have GDn:=Hj (aV b7 GD.out);have GRn:=Hj (GR.out.below b7 GR.out.lt);have GBn:=Hj (GB.out.below b7 GB.out.lt);have BZn:=Hj (aG BZ.out b7);clear GD GR GB BZ b7;have GD:=Hj GDn.out;have GR:=Hj GRn.out;have GB:=Hj GBn.out;have BZ:=Hj BZn.out;clear GDn GRn GBn BZn;clear w6;go_wp2_with fail;refine(GC.out _).mono ?_;rintro r w8 ⟨rfl,e8⟩;subst e8;clear GC;generalize enB a 2=xa at *;generalize enB b 2=xb at *;generalize qT (enW a 2) (enW b 2)=fc at *
        cases xa with
        | false=>
         have RF:raF ⟨ps,true,nm,2,0,true,lo,hi⟩ a b=false:=by simp[raF,RPE.out]
         have E:Hid (deX ps (aU nm) (fd D nm sd.n) 2 (raF ⟨ps,true,nm,2,0,true,lo,hi⟩ a b) (De.cells ⟨ps,true,nm,2,0,true,lo,hi⟩) c=.no 123 ps):=by show deX ps (aU nm) (fd D nm sd.n) 2 (raF ⟨ps,true,nm,2,0,true,lo,hi⟩ a b) (De.cells ⟨ps,true,nm,2,0,true,lo,hi⟩) c=_;rw[HIN.out,HF.out];unfold deX;rw[if_neg (by decide),if_neg (by decide),if_neg (fun h=>h HT.out),if_pos RF]
         clear RF;go_upto_region 18 with fail
         have KG:Hid (∀w',Kp (w.heap.size+1+1) w7 w'→(w'.cell? ⟨gb,0,none⟩=some (.int .i64 123)∧w'.cell? ⟨gb,1,none⟩=some (.int .i64 ps))):=fun w' hw=>by
          have N:=bH hw (by have:=HL.out;omega) GB.out;exact⟨aK N 0,aK N 1⟩
         refine aL (S:=fun w'=>w'.cell? ⟨gb,0,none⟩=some (.int .i64 123)∧w'.cell? ⟨gb,1,none⟩=some (.int .i64 ps)) _ [(0,true),(1,true),(2,false)] (by kernel_rfl) (by kernel_rfl) rfl (by kernel_rfl) (by kernel_rfl) (fun _ _ d _ _ h=>by cases d<;>exact h) (KG.out _ (kp0 _ _)) ?_
         iterate 2
          refine Walk.take (v:=?_) rfl (by rfl) ?_ ?_;rotate_left
          ·(intro w' hSw;(try dsimp only at hSw);go_simp<;>with_reducible rfl)
          try simp only[Act.put,aA,aC,aB]
         refine Walk.act rfl (by rfl) (fun K hK=>?_);refine cO 123 ps (w.heap.size+1+1) _ GR.out.drew rfl _ _ rfl rfl rfl ?_;refine hK.out _ _ (KG.out _ (kp1 _ _ _)) ?_;clear hK K;try simp only[Act.put]
         refine Walk.done ?_;go_wp2_with fail;exact bodyPost_ret (bP rfl _ _ (w.heap.size+1+1) (.int .i64 0) 123 ps rfl rfl (Blk.rowS GR.out.drew _)) rfl ⟨cY E.out,aR (aH BZ.out) (aD _) (by omega) _⟩
        | true=>
         cases xb with
         | false=>
          have RF:raF ⟨ps,true,nm,2,0,true,lo,hi⟩ a b=false:=by simp[raF,RPE.out]
          have E:Hid (deX ps (aU nm) (fd D nm sd.n) 2 (raF ⟨ps,true,nm,2,0,true,lo,hi⟩ a b) (De.cells ⟨ps,true,nm,2,0,true,lo,hi⟩) c=.no 123 ps):=by show deX ps (aU nm) (fd D nm sd.n) 2 (raF ⟨ps,true,nm,2,0,true,lo,hi⟩ a b) (De.cells ⟨ps,true,nm,2,0,true,lo,hi⟩) c=_;rw[HIN.out,HF.out];unfold deX;rw[if_neg (by decide),if_neg (by decide),if_neg (fun h=>h HT.out),if_pos RF]
          clear RF;go_upto_region 18 with fail
          have KG:Hid (∀w',Kp (w.heap.size+1+1) w7 w'→(w'.cell? ⟨gb,0,none⟩=some (.int .i64 123)∧w'.cell? ⟨gb,1,none⟩=some (.int .i64 ps))):=fun w' hw=>by
           have N:=bH hw (by have:=HL.out;omega) GB.out;exact⟨aK N 0,aK N 1⟩
          refine aL (S:=fun w'=>w'.cell? ⟨gb,0,none⟩=some (.int .i64 123)∧w'.cell? ⟨gb,1,none⟩=some (.int .i64 ps)) _ [(0,true),(1,true),(2,false)] (by kernel_rfl) (by kernel_rfl) rfl (by kernel_rfl) (by kernel_rfl) (fun _ _ d _ _ h=>by cases d<;>exact h) (KG.out _ (kp0 _ _)) ?_
          iterate 2
           refine Walk.take (v:=?_) rfl (by rfl) ?_ ?_;rotate_left
           ·(intro w' hSw;(try dsimp only at hSw);go_simp<;>with_reducible rfl)
           try simp only[Act.put,aA,aC,aB]
          refine Walk.act rfl (by rfl) (fun K hK=>?_);refine cO 123 ps (w.heap.size+1+1) _ GR.out.drew rfl _ _ rfl rfl rfl ?_;refine hK.out _ _ (KG.out _ (kp1 _ _ _)) ?_;clear hK K;try simp only[Act.put]
          refine Walk.done ?_;go_wp2_with fail;exact bodyPost_ret (bP rfl _ _ (w.heap.size+1+1) (.int .i64 0) 123 ps rfl rfl (Blk.rowS GR.out.drew _)) rfl ⟨cY E.out,aR (aH BZ.out) (aD _) (by omega) _⟩
         | true=>
          by_cases hg:0<fc
          case pos=>
           have RF:raF ⟨ps,true,nm,2,0,true,lo,hi⟩ a b=false:=by simp[raF,RPE.out,hg]
           have E:Hid (deX ps (aU nm) (fd D nm sd.n) 2 (raF ⟨ps,true,nm,2,0,true,lo,hi⟩ a b) (De.cells ⟨ps,true,nm,2,0,true,lo,hi⟩) c=.no 123 ps):=by show deX ps (aU nm) (fd D nm sd.n) 2 (raF ⟨ps,true,nm,2,0,true,lo,hi⟩ a b) (De.cells ⟨ps,true,nm,2,0,true,lo,hi⟩) c=_;rw[HIN.out,HF.out];unfold deX;rw[if_neg (by decide),if_neg (by decide),if_neg (fun h=>h HT.out),if_pos RF]
           clear RF;go_upto_region 18 with fail
           have KG:Hid (∀w',Kp (w.heap.size+1+1) w7 w'→(w'.cell? ⟨gb,0,none⟩=some (.int .i64 123)∧w'.cell? ⟨gb,1,none⟩=some (.int .i64 ps))):=fun w' hw=>by
            have N:=bH hw (by have:=HL.out;omega) GB.out;exact⟨aK N 0,aK N 1⟩
           refine aL (S:=fun w'=>w'.cell? ⟨gb,0,none⟩=some (.int .i64 123)∧w'.cell? ⟨gb,1,none⟩=some (.int .i64 ps)) _ [(0,true),(1,true),(2,false)] (by kernel_rfl) (by kernel_rfl) rfl (by kernel_rfl) (by kernel_rfl) (fun _ _ d _ _ h=>by cases d<;>exact h) (KG.out _ (kp0 _ _)) ?_
           iterate 2
            refine Walk.take (v:=?_) rfl (by rfl) ?_ ?_;rotate_left
            ·(intro w' hSw;(try dsimp only at hSw);go_simp<;>with_reducible rfl)
            try simp only[Act.put,aA,aC,aB]
           refine Walk.act rfl (by rfl) (fun K hK=>?_);refine cO 123 ps (w.heap.size+1+1) _ GR.out.drew rfl _ _ rfl rfl rfl ?_;refine hK.out _ _ (KG.out _ (kp1 _ _ _)) ?_;clear hK K;try simp only[Act.put]
           refine Walk.done ?_;go_wp2_with fail;exact bodyPost_ret (bP rfl _ _ (w.heap.size+1+1) (.int .i64 0) 123 ps rfl rfl (Blk.rowS GR.out.drew _)) rfl ⟨cY E.out,aR (aH BZ.out) (aD _) (by omega) _⟩
          case neg=>
           have RF:raF ⟨ps,true,nm,2,0,true,lo,hi⟩ a b=true:=by simp[raF,RPE.out,hg,gB]
           have CE:De.cells ⟨ps,true,nm,2,0,true,lo,hi⟩=1:=by rfl
           have ov:IntKind.i64.wrap (c+1)=c+1:=by have:=HC.out;rw[IntKind.wrap_i64];omega
           have E0:Hid (deX ps (aU nm) (fd D nm sd.n) 2 (raF ⟨ps,true,nm,2,0,true,lo,hi⟩ a b) (De.cells ⟨ps,true,nm,2,0,true,lo,hi⟩) c=if 96<c+1 then .no 123 ps else .ok (c+1)):=by
            show deX ps (aU nm) (fd D nm sd.n) 2 (raF ⟨ps,true,nm,2,0,true,lo,hi⟩ a b) (De.cells ⟨ps,true,nm,2,0,true,lo,hi⟩) c=_;rw[CE];rw[HIN.out,HF.out];unfold deX;rw[if_neg (by decide),if_neg (by decide),if_neg (fun h=>h HT.out),if_neg (by rw[RF];decide)]
           clear RF CE
           by_cases hc:96<c+1
           ·have E:Hid (deX ps (aU nm) (fd D nm sd.n) 2 (raF ⟨ps,true,nm,2,0,true,lo,hi⟩ a b) (De.cells ⟨ps,true,nm,2,0,true,lo,hi⟩) c=.no 123 ps):=by rw[if_pos hc]at E0;exact E0
            clear E0;go_upto_region 24 with fail
            have KG:Hid (∀w',Kp (w.heap.size+1+1) w7 w'→(w'.cell? ⟨gb,0,none⟩=some (.int .i64 123)∧w'.cell? ⟨gb,1,none⟩=some (.int .i64 ps))):=fun w' hw=>by
             have N:=bH hw (by have:=HL.out;omega) GB.out;exact⟨aK N 0,aK N 1⟩
            refine aL (S:=fun w'=>w'.cell? ⟨gb,0,none⟩=some (.int .i64 123)∧w'.cell? ⟨gb,1,none⟩=some (.int .i64 ps)) _ [(0,true),(1,true),(2,false)] (by kernel_rfl) (by kernel_rfl) rfl (by kernel_rfl) (by kernel_rfl) (fun _ _ d _ _ h=>by cases d<;>exact h) (KG.out _ (kp0 _ _)) ?_
            iterate 2
             refine Walk.take (v:=?_) rfl (by rfl) ?_ ?_;rotate_left
             ·(intro w' hSw;(try dsimp only at hSw);go_simp<;>with_reducible rfl)
             try simp only[Act.put,aA,aC,aB]
            refine Walk.act rfl (by rfl) (fun K hK=>?_);refine cO 123 ps (w.heap.size+1+1) _ GR.out.drew rfl _ _ rfl rfl rfl ?_;refine hK.out _ _ (KG.out _ (kp1 _ _ _)) ?_;clear hK K;try simp only[Act.put]
            refine Walk.done ?_;go_wp2_with fail;exact bodyPost_ret (bP rfl _ _ (w.heap.size+1+1) (.int .i64 0) 123 ps rfl rfl (Blk.rowS GR.out.drew _)) rfl ⟨cY E.out,aR (aH BZ.out) (aD _) (by omega) _⟩
           ·have E:Hid (deX ps (aU nm) (fd D nm sd.n) 2 (raF ⟨ps,true,nm,2,0,true,lo,hi⟩ a b) (De.cells ⟨ps,true,nm,2,0,true,lo,hi⟩) c=.ok (c+1)):=by rw[if_neg hc]at E0;exact E0
            clear E0;have r0:w7.cell? ⟨w.heap.size+1+1,0,none⟩=some (.int .i64 0):=GR.out.cell 0;have r1:w7.cell? ⟨w.heap.size+1+1,1,none⟩=some (.int .i64 0):=GR.out.cell 1;have z0:=GR.out.frozen 0;have z1:=GR.out.frozen 1;go_wp2_with fail;exact bodyPost_ret (bP rfl _ _ (w.heap.size+1+1) (.int .i64 (c+1)) 0 0 rfl rfl ((GR.out.set_ 0 (.int .i64 0)).set_ 1 (.int .i64 0))) rfl ⟨qX E.out,Below.setCell (Below.setCell BZ.out (p:=⟨(w.heap.size+1+1),0,none⟩) (by show w.heap.size≤w.heap.size+1+1;omega) _) (p:=⟨(w.heap.size+1+1),1,none⟩) (by show w.heap.size≤w.heap.size+1+1;omega) _⟩
    case' inr.inr=>
     clear ht;go_upto_region 9 with fail;change (Code.region 9 _ _).wp _ _ _ (w4.alloc (.cells #[.int .i64 123,.int .i64 ps] 32));clear c0 c3;generalize w4.alloc (.cells #[.int .i64 123,.int .i64 ps] 32)=w5 at *;generalize w4.heap.size=gb at *;have DC:=cA GD.out;have c1:=DC.c1;have c3:=DC.c3;have c4:=DC.c4;have c5:=DC.c5;clear DC;dsimp only at c1 c3 c4 c5
     cases inp with
     | false=>
      clear EA EB GC RP
      cases rg with
      | true=>
       have RF:raF ⟨ps,false,nm,3,len,true,lo,hi⟩ a b=false:=by rfl
       have E:Hid (deX ps (aU nm) (fd D nm sd.n) 3 (raF ⟨ps,false,nm,3,len,true,lo,hi⟩ a b) (De.cells ⟨ps,false,nm,3,len,true,lo,hi⟩) c=.no 123 ps):=by show deX ps (aU nm) (fd D nm sd.n) 3 (raF ⟨ps,false,nm,3,len,true,lo,hi⟩ a b) (De.cells ⟨ps,false,nm,3,len,true,lo,hi⟩) c=_;rw[HIN.out,HF.out];unfold deX;rw[if_neg (by decide),if_neg (by decide),if_neg (fun h=>h HT.out),if_pos RF]
       clear RF;go_upto_region 20 with fail
       have KG:Hid (∀w',Kp (w.heap.size+1+1) w5 w'→(w'.cell? ⟨gb,0,none⟩=some (.int .i64 123)∧w'.cell? ⟨gb,1,none⟩=some (.int .i64 ps))):=fun w' hw=>by
        have N:=bH hw (by have:=HL.out;omega) GB.out;exact⟨aK N 0,aK N 1⟩
       refine aL (S:=fun w'=>w'.cell? ⟨gb,0,none⟩=some (.int .i64 123)∧w'.cell? ⟨gb,1,none⟩=some (.int .i64 ps)) _ [(0,true),(1,true),(2,false)] (by kernel_rfl) (by kernel_rfl) rfl (by kernel_rfl) (by kernel_rfl) (fun _ _ d _ _ h=>by cases d<;>exact h) (KG.out _ (kp0 _ _)) ?_
       iterate 2
        refine Walk.take (v:=?_) rfl (by rfl) ?_ ?_;rotate_left
        ·(intro w' hSw;(try dsimp only at hSw);go_simp<;>with_reducible rfl)
        try simp only[Act.put,aA,aC,aB]
       refine Walk.act rfl (by rfl) (fun K hK=>?_);refine cO 123 ps (w.heap.size+1+1) _ GR.out.drew rfl _ _ rfl rfl rfl ?_;refine hK.out _ _ (KG.out _ (kp1 _ _ _)) ?_;clear hK K;try simp only[Act.put]
       refine Walk.done ?_;go_wp2_with fail;exact bodyPost_ret (bP rfl _ _ (w.heap.size+1+1) (.int .i64 0) 123 ps rfl rfl (Blk.rowS GR.out.drew _)) rfl ⟨cY E.out,aR (aH BZ.out) (aD _) (by omega) _⟩
      | false=>
       by_cases l0:len<0
       ·have l1:¬0≤len:=by omega
        have RF:raF ⟨ps,false,nm,3,len,false,lo,hi⟩ a b=false:=by simp[raF,l1]
        have E:Hid (deX ps (aU nm) (fd D nm sd.n) 3 (raF ⟨ps,false,nm,3,len,false,lo,hi⟩ a b) (De.cells ⟨ps,false,nm,3,len,false,lo,hi⟩) c=.no 123 ps):=by show deX ps (aU nm) (fd D nm sd.n) 3 (raF ⟨ps,false,nm,3,len,false,lo,hi⟩ a b) (De.cells ⟨ps,false,nm,3,len,false,lo,hi⟩) c=_;rw[HIN.out,HF.out];unfold deX;rw[if_neg (by decide),if_neg (by decide),if_neg (fun h=>h HT.out),if_pos RF]
        clear RF;go_upto_region 20 with fail
        have KG:Hid (∀w',Kp (w.heap.size+1+1) w5 w'→(w'.cell? ⟨gb,0,none⟩=some (.int .i64 123)∧w'.cell? ⟨gb,1,none⟩=some (.int .i64 ps))):=fun w' hw=>by
         have N:=bH hw (by have:=HL.out;omega) GB.out;exact⟨aK N 0,aK N 1⟩
        refine aL (S:=fun w'=>w'.cell? ⟨gb,0,none⟩=some (.int .i64 123)∧w'.cell? ⟨gb,1,none⟩=some (.int .i64 ps)) _ [(0,true),(1,true),(2,false)] (by kernel_rfl) (by kernel_rfl) rfl (by kernel_rfl) (by kernel_rfl) (fun _ _ d _ _ h=>by cases d<;>exact h) (KG.out _ (kp0 _ _)) ?_
        iterate 2
         refine Walk.take (v:=?_) rfl (by rfl) ?_ ?_;rotate_left
         ·(intro w' hSw;(try dsimp only at hSw);go_simp<;>with_reducible rfl)
         try simp only[Act.put,aA,aC,aB]
        refine Walk.act rfl (by rfl) (fun K hK=>?_);refine cO 123 ps (w.heap.size+1+1) _ GR.out.drew rfl _ _ rfl rfl rfl ?_;refine hK.out _ _ (KG.out _ (kp1 _ _ _)) ?_;clear hK K;try simp only[Act.put]
        refine Walk.done ?_;go_wp2_with fail;exact bodyPost_ret (bP rfl _ _ (w.heap.size+1+1) (.int .i64 0) 123 ps rfl rfl (Blk.rowS GR.out.drew _)) rfl ⟨cY E.out,aR (aH BZ.out) (aD _) (by omega) _⟩
       ·by_cases l2:16<len
        ·have l1:¬len≤16:=by omega
         have RF:raF ⟨ps,false,nm,3,len,false,lo,hi⟩ a b=false:=by simp[raF,l1]
         have E:Hid (deX ps (aU nm) (fd D nm sd.n) 3 (raF ⟨ps,false,nm,3,len,false,lo,hi⟩ a b) (De.cells ⟨ps,false,nm,3,len,false,lo,hi⟩) c=.no 123 ps):=by show deX ps (aU nm) (fd D nm sd.n) 3 (raF ⟨ps,false,nm,3,len,false,lo,hi⟩ a b) (De.cells ⟨ps,false,nm,3,len,false,lo,hi⟩) c=_;rw[HIN.out,HF.out];unfold deX;rw[if_neg (by decide),if_neg (by decide),if_neg (fun h=>h HT.out),if_pos RF]
         clear RF;go_upto_region 20 with fail
         have KG:Hid (∀w',Kp (w.heap.size+1+1) w5 w'→(w'.cell? ⟨gb,0,none⟩=some (.int .i64 123)∧w'.cell? ⟨gb,1,none⟩=some (.int .i64 ps))):=fun w' hw=>by
          have N:=bH hw (by have:=HL.out;omega) GB.out;exact⟨aK N 0,aK N 1⟩
         refine aL (S:=fun w'=>w'.cell? ⟨gb,0,none⟩=some (.int .i64 123)∧w'.cell? ⟨gb,1,none⟩=some (.int .i64 ps)) _ [(0,true),(1,true),(2,false)] (by kernel_rfl) (by kernel_rfl) rfl (by kernel_rfl) (by kernel_rfl) (fun _ _ d _ _ h=>by cases d<;>exact h) (KG.out _ (kp0 _ _)) ?_
         iterate 2
          refine Walk.take (v:=?_) rfl (by rfl) ?_ ?_;rotate_left
          ·(intro w' hSw;(try dsimp only at hSw);go_simp<;>with_reducible rfl)
          try simp only[Act.put,aA,aC,aB]
         refine Walk.act rfl (by rfl) (fun K hK=>?_);refine cO 123 ps (w.heap.size+1+1) _ GR.out.drew rfl _ _ rfl rfl rfl ?_;refine hK.out _ _ (KG.out _ (kp1 _ _ _)) ?_;clear hK K;try simp only[Act.put]
         refine Walk.done ?_;go_wp2_with fail;exact bodyPost_ret (bP rfl _ _ (w.heap.size+1+1) (.int .i64 0) 123 ps rfl rfl (Blk.rowS GR.out.drew _)) rfl ⟨cY E.out,aR (aH BZ.out) (aD _) (by omega) _⟩
        ·have l1:0≤len∧len≤16:=by omega
         by_cases l3:0<len
         ·have l4:0<len:=l3
          have RF:raF ⟨ps,false,nm,3,len,false,lo,hi⟩ a b=true:=by simp[raF,l1]
          have CE:De.cells ⟨ps,false,nm,3,len,false,lo,hi⟩=len:=by simp[De.cells,l3]
          have ov:IntKind.i64.wrap (c+len)=c+len:=by have:=HC.out;rw[IntKind.wrap_i64];omega
          have E0:Hid (deX ps (aU nm) (fd D nm sd.n) 3 (raF ⟨ps,false,nm,3,len,false,lo,hi⟩ a b) (De.cells ⟨ps,false,nm,3,len,false,lo,hi⟩) c=if 96<c+len then .no 123 ps else .ok (c+len)):=by
           show deX ps (aU nm) (fd D nm sd.n) 3 (raF ⟨ps,false,nm,3,len,false,lo,hi⟩ a b) (De.cells ⟨ps,false,nm,3,len,false,lo,hi⟩) c=_;rw[CE];rw[HIN.out,HF.out];unfold deX;rw[if_neg (by decide),if_neg (by decide),if_neg (fun h=>h HT.out),if_neg (by rw[RF];decide)]
          clear RF CE
          by_cases hc:96<c+len
          ·have E:Hid (deX ps (aU nm) (fd D nm sd.n) 3 (raF ⟨ps,false,nm,3,len,false,lo,hi⟩ a b) (De.cells ⟨ps,false,nm,3,len,false,lo,hi⟩) c=.no 123 ps):=by rw[if_pos hc]at E0;exact E0
           clear E0;go_upto_region 24 with fail
           have KG:Hid (∀w',Kp (w.heap.size+1+1) w5 w'→(w'.cell? ⟨gb,0,none⟩=some (.int .i64 123)∧w'.cell? ⟨gb,1,none⟩=some (.int .i64 ps))):=fun w' hw=>by
            have N:=bH hw (by have:=HL.out;omega) GB.out;exact⟨aK N 0,aK N 1⟩
           refine aL (S:=fun w'=>w'.cell? ⟨gb,0,none⟩=some (.int .i64 123)∧w'.cell? ⟨gb,1,none⟩=some (.int .i64 ps)) _ [(0,true),(1,true),(2,false)] (by kernel_rfl) (by kernel_rfl) rfl (by kernel_rfl) (by kernel_rfl) (fun _ _ d _ _ h=>by cases d<;>exact h) (KG.out _ (kp0 _ _)) ?_
           iterate 2
            refine Walk.take (v:=?_) rfl (by rfl) ?_ ?_;rotate_left
            ·(intro w' hSw;(try dsimp only at hSw);go_simp<;>with_reducible rfl)
            try simp only[Act.put,aA,aC,aB]
           refine Walk.act rfl (by rfl) (fun K hK=>?_);refine cO 123 ps (w.heap.size+1+1) _ GR.out.drew rfl _ _ rfl rfl rfl ?_;refine hK.out _ _ (KG.out _ (kp1 _ _ _)) ?_;clear hK K;try simp only[Act.put]
           refine Walk.done ?_;go_wp2_with fail;exact bodyPost_ret (bP rfl _ _ (w.heap.size+1+1) (.int .i64 0) 123 ps rfl rfl (Blk.rowS GR.out.drew _)) rfl ⟨cY E.out,aR (aH BZ.out) (aD _) (by omega) _⟩
          ·have E:Hid (deX ps (aU nm) (fd D nm sd.n) 3 (raF ⟨ps,false,nm,3,len,false,lo,hi⟩ a b) (De.cells ⟨ps,false,nm,3,len,false,lo,hi⟩) c=.ok (c+len)):=by rw[if_neg hc]at E0;exact E0
           clear E0;have r0:w5.cell? ⟨w.heap.size+1+1,0,none⟩=some (.int .i64 0):=GR.out.cell 0;have r1:w5.cell? ⟨w.heap.size+1+1,1,none⟩=some (.int .i64 0):=GR.out.cell 1;have z0:=GR.out.frozen 0;have z1:=GR.out.frozen 1;go_wp2_with fail;exact bodyPost_ret (bP rfl _ _ (w.heap.size+1+1) (.int .i64 (c+len)) 0 0 rfl rfl ((GR.out.set_ 0 (.int .i64 0)).set_ 1 (.int .i64 0))) rfl ⟨qX E.out,Below.setCell (Below.setCell BZ.out (p:=⟨(w.heap.size+1+1),0,none⟩) (by show w.heap.size≤w.heap.size+1+1;omega) _) (p:=⟨(w.heap.size+1+1),1,none⟩) (by show w.heap.size≤w.heap.size+1+1;omega) _⟩
         ·have l4:¬0<len:=l3
          have RF:raF ⟨ps,false,nm,3,len,false,lo,hi⟩ a b=true:=by simp[raF,l1]
          have CE:De.cells ⟨ps,false,nm,3,len,false,lo,hi⟩=1:=by simp[De.cells,l3]
          have ov:IntKind.i64.wrap (c+1)=c+1:=by have:=HC.out;rw[IntKind.wrap_i64];omega
          have E0:Hid (deX ps (aU nm) (fd D nm sd.n) 3 (raF ⟨ps,false,nm,3,len,false,lo,hi⟩ a b) (De.cells ⟨ps,false,nm,3,len,false,lo,hi⟩) c=if 96<c+1 then .no 123 ps else .ok (c+1)):=by
           show deX ps (aU nm) (fd D nm sd.n) 3 (raF ⟨ps,false,nm,3,len,false,lo,hi⟩ a b) (De.cells ⟨ps,false,nm,3,len,false,lo,hi⟩) c=_;rw[CE];rw[HIN.out,HF.out];unfold deX;rw[if_neg (by decide),if_neg (by decide),if_neg (fun h=>h HT.out),if_neg (by rw[RF];decide)]
          clear RF CE
          by_cases hc:96<c+1
          ·have E:Hid (deX ps (aU nm) (fd D nm sd.n) 3 (raF ⟨ps,false,nm,3,len,false,lo,hi⟩ a b) (De.cells ⟨ps,false,nm,3,len,false,lo,hi⟩) c=.no 123 ps):=by rw[if_pos hc]at E0;exact E0
           clear E0;go_upto_region 24 with fail
           have KG:Hid (∀w',Kp (w.heap.size+1+1) w5 w'→(w'.cell? ⟨gb,0,none⟩=some (.int .i64 123)∧w'.cell? ⟨gb,1,none⟩=some (.int .i64 ps))):=fun w' hw=>by
            have N:=bH hw (by have:=HL.out;omega) GB.out;exact⟨aK N 0,aK N 1⟩
           refine aL (S:=fun w'=>w'.cell? ⟨gb,0,none⟩=some (.int .i64 123)∧w'.cell? ⟨gb,1,none⟩=some (.int .i64 ps)) _ [(0,true),(1,true),(2,false)] (by kernel_rfl) (by kernel_rfl) rfl (by kernel_rfl) (by kernel_rfl) (fun _ _ d _ _ h=>by cases d<;>exact h) (KG.out _ (kp0 _ _)) ?_
           iterate 2
            refine Walk.take (v:=?_) rfl (by rfl) ?_ ?_;rotate_left
            ·(intro w' hSw;(try dsimp only at hSw);go_simp<;>with_reducible rfl)
            try simp only[Act.put,aA,aC,aB]
           refine Walk.act rfl (by rfl) (fun K hK=>?_);refine cO 123 ps (w.heap.size+1+1) _ GR.out.drew rfl _ _ rfl rfl rfl ?_;refine hK.out _ _ (KG.out _ (kp1 _ _ _)) ?_;clear hK K;try simp only[Act.put]
           refine Walk.done ?_;go_wp2_with fail;exact bodyPost_ret (bP rfl _ _ (w.heap.size+1+1) (.int .i64 0) 123 ps rfl rfl (Blk.rowS GR.out.drew _)) rfl ⟨cY E.out,aR (aH BZ.out) (aD _) (by omega) _⟩
          ·have E:Hid (deX ps (aU nm) (fd D nm sd.n) 3 (raF ⟨ps,false,nm,3,len,false,lo,hi⟩ a b) (De.cells ⟨ps,false,nm,3,len,false,lo,hi⟩) c=.ok (c+1)):=by rw[if_neg hc]at E0;exact E0
           clear E0;have r0:w5.cell? ⟨w.heap.size+1+1,0,none⟩=some (.int .i64 0):=GR.out.cell 0;have r1:w5.cell? ⟨w.heap.size+1+1,1,none⟩=some (.int .i64 0):=GR.out.cell 1;have z0:=GR.out.frozen 0;have z1:=GR.out.frozen 1;go_wp2_with fail;exact bodyPost_ret (bP rfl _ _ (w.heap.size+1+1) (.int .i64 (c+1)) 0 0 rfl rfl ((GR.out.set_ 0 (.int .i64 0)).set_ 1 (.int .i64 0))) rfl ⟨qX E.out,Below.setCell (Below.setCell BZ.out (p:=⟨(w.heap.size+1+1),0,none⟩) (by show w.heap.size≤w.heap.size+1+1;omega) _) (p:=⟨(w.heap.size+1+1),1,none⟩) (by show w.heap.size≤w.heap.size+1+1;omega) _⟩
     | true=>
      by_cases l0:len=0
      case neg=>
       have l1:(len != 0)=true:=by simp[l0]
       clear EA EB GC RP;have RF:raF ⟨ps,true,nm,3,len,rg,lo,hi⟩ a b=false:=by simp[raF,l0]
       have E:Hid (deX ps (aU nm) (fd D nm sd.n) 3 (raF ⟨ps,true,nm,3,len,rg,lo,hi⟩ a b) (De.cells ⟨ps,true,nm,3,len,rg,lo,hi⟩) c=.no 123 ps):=by show deX ps (aU nm) (fd D nm sd.n) 3 (raF ⟨ps,true,nm,3,len,rg,lo,hi⟩ a b) (De.cells ⟨ps,true,nm,3,len,rg,lo,hi⟩) c=_;rw[HIN.out,HF.out];unfold deX;rw[if_neg (by decide),if_neg (by decide),if_neg (fun h=>h HT.out),if_pos RF]
       clear RF;go_upto_region 12 with fail
       have KG:Hid (∀w',Kp (w.heap.size+1+1) w5 w'→(w'.cell? ⟨gb,0,none⟩=some (.int .i64 123)∧w'.cell? ⟨gb,1,none⟩=some (.int .i64 ps))):=fun w' hw=>by
        have N:=bH hw (by have:=HL.out;omega) GB.out;exact⟨aK N 0,aK N 1⟩
       refine aL (S:=fun w'=>w'.cell? ⟨gb,0,none⟩=some (.int .i64 123)∧w'.cell? ⟨gb,1,none⟩=some (.int .i64 ps)) _ [(0,true),(1,true),(2,false)] (by kernel_rfl) (by kernel_rfl) rfl (by kernel_rfl) (by kernel_rfl) (fun _ _ d _ _ h=>by cases d<;>exact h) (KG.out _ (kp0 _ _)) ?_
       iterate 2
        refine Walk.take (v:=?_) rfl (by rfl) ?_ ?_;rotate_left
        ·(intro w' hSw;(try dsimp only at hSw);go_simp<;>with_reducible rfl)
        try simp only[Act.put,aA,aC,aB]
       refine Walk.act rfl (by rfl) (fun K hK=>?_);refine cO 123 ps (w.heap.size+1+1) _ GR.out.drew rfl _ _ rfl rfl rfl ?_;refine hK.out _ _ (KG.out _ (kp1 _ _ _)) ?_;clear hK K;try simp only[Act.put]
       refine Walk.done ?_;go_wp2_with fail;exact bodyPost_ret (bP rfl _ _ (w.heap.size+1+1) (.int .i64 0) 123 ps rfl rfl (Blk.rowS GR.out.drew _)) rfl ⟨cY E.out,aR (aH BZ.out) (aD _) (by omega) _⟩
      case pos=>
       subst l0
       cases rg with
       | false=>
        clear EA EB GC RP;have RF:raF ⟨ps,true,nm,3,0,false,lo,hi⟩ a b=false:=by rfl
        have E:Hid (deX ps (aU nm) (fd D nm sd.n) 3 (raF ⟨ps,true,nm,3,0,false,lo,hi⟩ a b) (De.cells ⟨ps,true,nm,3,0,false,lo,hi⟩) c=.no 123 ps):=by show deX ps (aU nm) (fd D nm sd.n) 3 (raF ⟨ps,true,nm,3,0,false,lo,hi⟩ a b) (De.cells ⟨ps,true,nm,3,0,false,lo,hi⟩) c=_;rw[HIN.out,HF.out];unfold deX;rw[if_neg (by decide),if_neg (by decide),if_neg (fun h=>h HT.out),if_pos RF]
        clear RF;go_upto_region 12 with fail
        have KG:Hid (∀w',Kp (w.heap.size+1+1) w5 w'→(w'.cell? ⟨gb,0,none⟩=some (.int .i64 123)∧w'.cell? ⟨gb,1,none⟩=some (.int .i64 ps))):=fun w' hw=>by
         have N:=bH hw (by have:=HL.out;omega) GB.out;exact⟨aK N 0,aK N 1⟩
        refine aL (S:=fun w'=>w'.cell? ⟨gb,0,none⟩=some (.int .i64 123)∧w'.cell? ⟨gb,1,none⟩=some (.int .i64 ps)) _ [(0,true),(1,true),(2,false)] (by kernel_rfl) (by kernel_rfl) rfl (by kernel_rfl) (by kernel_rfl) (fun _ _ d _ _ h=>by cases d<;>exact h) (KG.out _ (kp0 _ _)) ?_
        iterate 2
         refine Walk.take (v:=?_) rfl (by rfl) ?_ ?_;rotate_left
         ·(intro w' hSw;(try dsimp only at hSw);go_simp<;>with_reducible rfl)
         try simp only[Act.put,aA,aC,aB]
        refine Walk.act rfl (by rfl) (fun K hK=>?_);refine cO 123 ps (w.heap.size+1+1) _ GR.out.drew rfl _ _ rfl rfl rfl ?_;refine hK.out _ _ (KG.out _ (kp1 _ _ _)) ?_;clear hK K;try simp only[Act.put]
        refine Walk.done ?_;go_wp2_with fail;exact bodyPost_ret (bP rfl _ _ (w.heap.size+1+1) (.int .i64 0) 123 ps rfl rfl (Blk.rowS GR.out.drew _)) rfl ⟨cY E.out,aR (aH BZ.out) (aD _) (by omega) _⟩
       | true=>
        have RPE:=Hj (RP.out (.inr rfl));clear RP;obtain⟨c6,c7,c8,c9,c10,c11,c12,c13,c14,c15,c16,c17,c18,c19⟩:=xB GD.out;go_wp2_with fail;refine(EA.out _).mono ?_;rintro r w6 ⟨rfl,b6⟩;clear EA c1 c3 c4 c5 c6 c7 c8 c9 c10 c11 c12 c13 c14 c15 c16 c17 c18 c19;have GDn:=Hj (aV b6 GD.out);have GRn:=Hj (GR.out.below b6 GR.out.lt);have GBn:=Hj (GB.out.below b6 GB.out.lt);have BZn:=Hj (aG BZ.out b6);clear GD GR GB BZ b6;have GD:=Hj GDn.out;have GR:=Hj GRn.out;have GB:=Hj GBn.out;have BZ:=Hj BZn.out;clear GDn GRn GBn BZn;obtain⟨c6,c7,c8,c9,c10,c11,c12,c13,c14,c15,c16,c17,c18,c19⟩:=xB GD.out;have c3:=(cA GD.out).c3;dsimp only at c3;go_wp2_with fail;refine(EB.out _).mono ?_;rintro r w7 ⟨rfl,b7⟩;clear EB c3 c6 c7 c8 c9 c10 c11 c12 c13 c14 c15 c16 c17 c18 c19;have GDn:=Hj (aV b7 GD.out);have GRn:=Hj (GR.out.below b7 GR.out.lt);have GBn:=Hj (GB.out.below b7 GB.out.lt);have BZn:=Hj (aG BZ.out b7);clear GD GR GB BZ b7;have GD:=Hj GDn.out;have GR:=Hj GRn.out;have GB:=Hj GBn.out;have BZ:=Hj BZn.out;clear GDn GRn GBn BZn;clear w6;go_wp2_with fail;refine(GC.out _).mono ?_;rintro r w8 ⟨rfl,e8⟩;subst e8;clear GC;generalize enB a 3=xa at *;generalize enB b 3=xb at *;generalize qT (enW a 3) (enW b 3)=fc at *
        cases xa with
        | false=>
         have RF:raF ⟨ps,true,nm,3,0,true,lo,hi⟩ a b=false:=by simp[raF,RPE.out]
         have E:Hid (deX ps (aU nm) (fd D nm sd.n) 3 (raF ⟨ps,true,nm,3,0,true,lo,hi⟩ a b) (De.cells ⟨ps,true,nm,3,0,true,lo,hi⟩) c=.no 123 ps):=by show deX ps (aU nm) (fd D nm sd.n) 3 (raF ⟨ps,true,nm,3,0,true,lo,hi⟩ a b) (De.cells ⟨ps,true,nm,3,0,true,lo,hi⟩) c=_;rw[HIN.out,HF.out];unfold deX;rw[if_neg (by decide),if_neg (by decide),if_neg (fun h=>h HT.out),if_pos RF]
         clear RF;go_upto_region 18 with fail
         have KG:Hid (∀w',Kp (w.heap.size+1+1) w7 w'→(w'.cell? ⟨gb,0,none⟩=some (.int .i64 123)∧w'.cell? ⟨gb,1,none⟩=some (.int .i64 ps))):=fun w' hw=>by
          have N:=bH hw (by have:=HL.out;omega) GB.out;exact⟨aK N 0,aK N 1⟩
         refine aL (S:=fun w'=>w'.cell? ⟨gb,0,none⟩=some (.int .i64 123)∧w'.cell? ⟨gb,1,none⟩=some (.int .i64 ps)) _ [(0,true),(1,true),(2,false)] (by kernel_rfl) (by kernel_rfl) rfl (by kernel_rfl) (by kernel_rfl) (fun _ _ d _ _ h=>by cases d<;>exact h) (KG.out _ (kp0 _ _)) ?_
         iterate 2
          refine Walk.take (v:=?_) rfl (by rfl) ?_ ?_;rotate_left
          ·(intro w' hSw;(try dsimp only at hSw);go_simp<;>with_reducible rfl)
          try simp only[Act.put,aA,aC,aB]
         refine Walk.act rfl (by rfl) (fun K hK=>?_);refine cO 123 ps (w.heap.size+1+1) _ GR.out.drew rfl _ _ rfl rfl rfl ?_;refine hK.out _ _ (KG.out _ (kp1 _ _ _)) ?_;clear hK K;try simp only[Act.put]
         refine Walk.done ?_;go_wp2_with fail;exact bodyPost_ret (bP rfl _ _ (w.heap.size+1+1) (.int .i64 0) 123 ps rfl rfl (Blk.rowS GR.out.drew _)) rfl ⟨cY E.out,aR (aH BZ.out) (aD _) (by omega) _⟩
        | true=>
         cases xb with
         | false=>
          have RF:raF ⟨ps,true,nm,3,0,true,lo,hi⟩ a b=false:=by simp[raF,RPE.out]
          have E:Hid (deX ps (aU nm) (fd D nm sd.n) 3 (raF ⟨ps,true,nm,3,0,true,lo,hi⟩ a b) (De.cells ⟨ps,true,nm,3,0,true,lo,hi⟩) c=.no 123 ps):=by show deX ps (aU nm) (fd D nm sd.n) 3 (raF ⟨ps,true,nm,3,0,true,lo,hi⟩ a b) (De.cells ⟨ps,true,nm,3,0,true,lo,hi⟩) c=_;rw[HIN.out,HF.out];unfold deX;rw[if_neg (by decide),if_neg (by decide),if_neg (fun h=>h HT.out),if_pos RF]
          clear RF;go_upto_region 18 with fail
          have KG:Hid (∀w',Kp (w.heap.size+1+1) w7 w'→(w'.cell? ⟨gb,0,none⟩=some (.int .i64 123)∧w'.cell? ⟨gb,1,none⟩=some (.int .i64 ps))):=fun w' hw=>by
           have N:=bH hw (by have:=HL.out;omega) GB.out;exact⟨aK N 0,aK N 1⟩
          refine aL (S:=fun w'=>w'.cell? ⟨gb,0,none⟩=some (.int .i64 123)∧w'.cell? ⟨gb,1,none⟩=some (.int .i64 ps)) _ [(0,true),(1,true),(2,false)] (by kernel_rfl) (by kernel_rfl) rfl (by kernel_rfl) (by kernel_rfl) (fun _ _ d _ _ h=>by cases d<;>exact h) (KG.out _ (kp0 _ _)) ?_
          iterate 2
           refine Walk.take (v:=?_) rfl (by rfl) ?_ ?_;rotate_left
           ·(intro w' hSw;(try dsimp only at hSw);go_simp<;>with_reducible rfl)
           try simp only[Act.put,aA,aC,aB]
          refine Walk.act rfl (by rfl) (fun K hK=>?_);refine cO 123 ps (w.heap.size+1+1) _ GR.out.drew rfl _ _ rfl rfl rfl ?_;refine hK.out _ _ (KG.out _ (kp1 _ _ _)) ?_;clear hK K;try simp only[Act.put]
          refine Walk.done ?_;go_wp2_with fail;exact bodyPost_ret (bP rfl _ _ (w.heap.size+1+1) (.int .i64 0) 123 ps rfl rfl (Blk.rowS GR.out.drew _)) rfl ⟨cY E.out,aR (aH BZ.out) (aD _) (by omega) _⟩
         | true=>
          by_cases hg:0<fc
          case pos=>
           have RF:raF ⟨ps,true,nm,3,0,true,lo,hi⟩ a b=false:=by simp[raF,RPE.out,hg]
           have E:Hid (deX ps (aU nm) (fd D nm sd.n) 3 (raF ⟨ps,true,nm,3,0,true,lo,hi⟩ a b) (De.cells ⟨ps,true,nm,3,0,true,lo,hi⟩) c=.no 123 ps):=by show deX ps (aU nm) (fd D nm sd.n) 3 (raF ⟨ps,true,nm,3,0,true,lo,hi⟩ a b) (De.cells ⟨ps,true,nm,3,0,true,lo,hi⟩) c=_;rw[HIN.out,HF.out];unfold deX;rw[if_neg (by decide),if_neg (by decide),if_neg (fun h=>h HT.out),if_pos RF]
           clear RF;go_upto_region 18 with fail
           have KG:Hid (∀w',Kp (w.heap.size+1+1) w7 w'→(w'.cell? ⟨gb,0,none⟩=some (.int .i64 123)∧w'.cell? ⟨gb,1,none⟩=some (.int .i64 ps))):=fun w' hw=>by
            have N:=bH hw (by have:=HL.out;omega) GB.out;exact⟨aK N 0,aK N 1⟩
           refine aL (S:=fun w'=>w'.cell? ⟨gb,0,none⟩=some (.int .i64 123)∧w'.cell? ⟨gb,1,none⟩=some (.int .i64 ps)) _ [(0,true),(1,true),(2,false)] (by kernel_rfl) (by kernel_rfl) rfl (by kernel_rfl) (by kernel_rfl) (fun _ _ d _ _ h=>by cases d<;>exact h) (KG.out _ (kp0 _ _)) ?_
           iterate 2
            refine Walk.take (v:=?_) rfl (by rfl) ?_ ?_;rotate_left
            ·(intro w' hSw;(try dsimp only at hSw);go_simp<;>with_reducible rfl)
            try simp only[Act.put,aA,aC,aB]
           refine Walk.act rfl (by rfl) (fun K hK=>?_);refine cO 123 ps (w.heap.size+1+1) _ GR.out.drew rfl _ _ rfl rfl rfl ?_;refine hK.out _ _ (KG.out _ (kp1 _ _ _)) ?_;clear hK K;try simp only[Act.put]
           refine Walk.done ?_;go_wp2_with fail;exact bodyPost_ret (bP rfl _ _ (w.heap.size+1+1) (.int .i64 0) 123 ps rfl rfl (Blk.rowS GR.out.drew _)) rfl ⟨cY E.out,aR (aH BZ.out) (aD _) (by omega) _⟩
          case neg=>
           have RF:raF ⟨ps,true,nm,3,0,true,lo,hi⟩ a b=true:=by simp[raF,RPE.out,hg,gB]
           have CE:De.cells ⟨ps,true,nm,3,0,true,lo,hi⟩=1:=by rfl
           have ov:IntKind.i64.wrap (c+1)=c+1:=by have:=HC.out;rw[IntKind.wrap_i64];omega
           have E0:Hid (deX ps (aU nm) (fd D nm sd.n) 3 (raF ⟨ps,true,nm,3,0,true,lo,hi⟩ a b) (De.cells ⟨ps,true,nm,3,0,true,lo,hi⟩) c=if 96<c+1 then .no 123 ps else .ok (c+1)):=by
            show deX ps (aU nm) (fd D nm sd.n) 3 (raF ⟨ps,true,nm,3,0,true,lo,hi⟩ a b) (De.cells ⟨ps,true,nm,3,0,true,lo,hi⟩) c=_;rw[CE];rw[HIN.out,HF.out];unfold deX;rw[if_neg (by decide),if_neg (by decide),if_neg (fun h=>h HT.out),if_neg (by rw[RF];decide)]
           clear RF CE
           by_cases hc:96<c+1
           ·have E:Hid (deX ps (aU nm) (fd D nm sd.n) 3 (raF ⟨ps,true,nm,3,0,true,lo,hi⟩ a b) (De.cells ⟨ps,true,nm,3,0,true,lo,hi⟩) c=.no 123 ps):=by rw[if_pos hc]at E0;exact E0
            clear E0;go_upto_region 24 with fail
            have KG:Hid (∀w',Kp (w.heap.size+1+1) w7 w'→(w'.cell? ⟨gb,0,none⟩=some (.int .i64 123)∧w'.cell? ⟨gb,1,none⟩=some (.int .i64 ps))):=fun w' hw=>by
             have N:=bH hw (by have:=HL.out;omega) GB.out;exact⟨aK N 0,aK N 1⟩
            refine aL (S:=fun w'=>w'.cell? ⟨gb,0,none⟩=some (.int .i64 123)∧w'.cell? ⟨gb,1,none⟩=some (.int .i64 ps)) _ [(0,true),(1,true),(2,false)] (by kernel_rfl) (by kernel_rfl) rfl (by kernel_rfl) (by kernel_rfl) (fun _ _ d _ _ h=>by cases d<;>exact h) (KG.out _ (kp0 _ _)) ?_
            iterate 2
             refine Walk.take (v:=?_) rfl (by rfl) ?_ ?_;rotate_left
             ·(intro w' hSw;(try dsimp only at hSw);go_simp<;>with_reducible rfl)
             try simp only[Act.put,aA,aC,aB]
            refine Walk.act rfl (by rfl) (fun K hK=>?_);refine cO 123 ps (w.heap.size+1+1) _ GR.out.drew rfl _ _ rfl rfl rfl ?_;refine hK.out _ _ (KG.out _ (kp1 _ _ _)) ?_;clear hK K;try simp only[Act.put]
            refine Walk.done ?_;go_wp2_with fail;exact bodyPost_ret (bP rfl _ _ (w.heap.size+1+1) (.int .i64 0) 123 ps rfl rfl (Blk.rowS GR.out.drew _)) rfl ⟨cY E.out,aR (aH BZ.out) (aD _) (by omega) _⟩
           ·have E:Hid (deX ps (aU nm) (fd D nm sd.n) 3 (raF ⟨ps,true,nm,3,0,true,lo,hi⟩ a b) (De.cells ⟨ps,true,nm,3,0,true,lo,hi⟩) c=.ok (c+1)):=by rw[if_neg hc]at E0;exact E0
            clear E0;have r0:w7.cell? ⟨w.heap.size+1+1,0,none⟩=some (.int .i64 0):=GR.out.cell 0;have r1:w7.cell? ⟨w.heap.size+1+1,1,none⟩=some (.int .i64 0):=GR.out.cell 1;have z0:=GR.out.frozen 0;have z1:=GR.out.frozen 1;go_wp2_with fail;exact bodyPost_ret (bP rfl _ _ (w.heap.size+1+1) (.int .i64 (c+1)) 0 0 rfl rfl ((GR.out.set_ 0 (.int .i64 0)).set_ 1 (.int .i64 0))) rfl ⟨qX E.out,Below.setCell (Below.setCell BZ.out (p:=⟨(w.heap.size+1+1),0,none⟩) (by show w.heap.size≤w.heap.size+1+1;omega) _) (p:=⟨(w.heap.size+1+1),1,none⟩) (by show w.heap.size≤w.heap.size+1+1;omega) _⟩
end Go.Proofs.YtkbicfffokegeaaGreatDoor
