/-
  Whatever program is handed in, CheckChecks answers true. (part 22 of 38) Conditions: none beside what the card ties.
-/
import Derived.Test.YtkbicfffokegeaaGreatDoorCau
namespace Go.Proofs.YtkbicfffokegeaaGreatDoor
set_option maxHeartbeats 16000000
open Go.RowKit
set_option maxRecDepth 100000
def unE (r:Ck Unit):Ending:=match r with
 | .ok _=>.returned (.tuple #[])
 | .no c p=>.panicked (wV c p)
theorem mJ (B R M n:Nat)(S:Sc)(hS:S.good)(e:Ex)(t:Int)(w:World)(hC:Ckr R M n S w)(hI:e.In B w)(hB:B≤w.heap.size)(hw:e.wt≤1000000) :
  Calls Tryz.prog 60 #[.pointer (some ⟨R,0,none⟩),e.h.v,.int .u8 t] w fun r w'=>r=unE ((e.ck S).bind fun u=>dC (u == t) 122 e.h.ps)∧Below w.heap.size w w':=by
 have BX:=bS (Below.refl w.heap.size w) (aD _) (xO e.h);have X:=Hj fun w' (hb:Below (bx w (xO e.h)).heap.size (bx w (xO e.h)) w')=>aDH B R M n S hS e w' ((Ckf.bel hC BX).bel hb) ((hI.below BX hB).below hb (aF hB BX.size)) (aF (aF hB BX.size) hb.size) hw;have G:=Hj (cD w (xO e.h));have B1:=Hj BX;clear BX hC hI hB hw hS;generalize e.ck S=Z at *;generalize e.h=h at *;obtain⟨op,ps,bo,it,fl,nm,⟨sa,sn,sc⟩⟩:=h;dsimp only;show Calls Tryz.prog 60 #[.pointer (some ⟨R,0,none⟩),.agg #[.int .u8 op,.int .i64 ps,.bool bo,.int .i32 it,.int .u64 fl,.string ⟨nm.toArray⟩,.slice sa sn sc],.int .u8 t] w _;go_enter Tryz.func60,Tryz.ntmps60;go_upto_region 1 with fail;rw[kY w ⟨op,ps,bo,it,fl,nm,⟨sa,sn,sc⟩⟩];generalize bx w (xO ⟨op,ps,bo,it,fl,nm,⟨sa,sn,sc⟩⟩)=w1 at *
 have KG:Hid (∀w',Below w1.heap.size w1 w'→(w'.cell? ⟨w.heap.size,0,none⟩=some (.int .u8 op)∧w'.cell? ⟨w.heap.size,1,none⟩=some (.int .i64 ps)∧w'.cell? ⟨w.heap.size,2,none⟩=some (.bool bo)∧w'.cell? ⟨w.heap.size,3,none⟩=some (.int .i32 it)∧w'.cell? ⟨w.heap.size,4,none⟩=some (.int .u64 fl)∧w'.cell? ⟨w.heap.size,5,none⟩=some (.string ⟨nm.toArray⟩)∧w'.cell? ⟨w.heap.size,6,none⟩=some (.slice sa sn sc))):=fun w' hw=>bK (aV hw G.out)
 cases Z with
 | no c p=>
  refine aL (S:=fun w'=>w'.cell? ⟨w.heap.size,0,none⟩=some (.int .u8 op)∧w'.cell? ⟨w.heap.size,1,none⟩=some (.int .i64 ps)∧w'.cell? ⟨w.heap.size,2,none⟩=some (.bool bo)∧w'.cell? ⟨w.heap.size,3,none⟩=some (.int .i32 it)∧w'.cell? ⟨w.heap.size,4,none⟩=some (.int .u64 fl)∧w'.cell? ⟨w.heap.size,5,none⟩=some (.string ⟨nm.toArray⟩)∧w'.cell? ⟨w.heap.size,6,none⟩=some (.slice sa sn sc)) _ [(0,true),(1,true),(3,true),(5,true),(6,true),(2,false),(4,true),(7,false)] (by kernel_rfl) (by kernel_rfl) rfl (by kernel_rfl) (by kernel_rfl) (fun _ _ d _ _ h=>by cases d<;>exact h) (KG.out _ (aH (Below.refl _ _))) ?_
  iterate 5
   refine Walk.take (v:=?_) rfl (by rfl) ?_ ?_;rotate_left
   ·(intro w' hSw;(try dsimp only at hSw);go_simp<;>with_reducible rfl)
   try simp only[Act.put,aA,aC,aB]
  refine Walk.act rfl (by rfl) (fun K hK=>?_);go_simp;go_at_call 30;refine(X.out _ (aH (Below.refl _ _))).mono ?_;rintro r w2 ⟨rfl,b2⟩;dsimp only[ckE];exact⟨rfl,rfl,aG B1.out (aG (aH (Below.refl _ _)) b2)⟩
 | ok u=>
  by_cases hu:u=t
  ·have hb:(u == t)=true:=by simp[hu]
   have E:Hid ((Ck.ok u).bind (fun u=>dC (u == t) 122 ps)=.ok ()):=by show dC (u == t) 122 ps=_;rw[hb];rfl
   clear hu;refine aL (S:=fun w'=>w'.cell? ⟨w.heap.size,0,none⟩=some (.int .u8 op)∧w'.cell? ⟨w.heap.size,1,none⟩=some (.int .i64 ps)∧w'.cell? ⟨w.heap.size,2,none⟩=some (.bool bo)∧w'.cell? ⟨w.heap.size,3,none⟩=some (.int .i32 it)∧w'.cell? ⟨w.heap.size,4,none⟩=some (.int .u64 fl)∧w'.cell? ⟨w.heap.size,5,none⟩=some (.string ⟨nm.toArray⟩)∧w'.cell? ⟨w.heap.size,6,none⟩=some (.slice sa sn sc)) _ [(0,true),(1,true),(3,true),(5,true),(6,true),(2,false),(4,true),(7,false)] (by kernel_rfl) (by kernel_rfl) rfl (by kernel_rfl) (by kernel_rfl) (fun _ _ d _ _ h=>by cases d<;>exact h) (KG.out _ (aH (Below.refl _ _))) ?_
   iterate 5
    refine Walk.take (v:=?_) rfl (by rfl) ?_ ?_;rotate_left
    ·(intro w' hSw;(try dsimp only at hSw);go_simp<;>with_reducible rfl)
    try simp only[Act.put,aA,aC,aB]
   refine Walk.act rfl (by rfl) (fun K hK=>?_);go_simp;go_at_call 30;refine(X.out _ (aH (Below.refl _ _))).mono ?_;rintro r w2 ⟨rfl,b2⟩;dsimp only[ckE];have X1:Below w1.heap.size w1 w2:=aG (aH (Below.refl _ _)) b2;refine hK.out _ _ (KG.out _ X1) ?_;clear hK K;try simp only[Act.put,aA,aC,aB]
   iterate 1
    refine Walk.take (v:=?_) rfl (by rfl) ?_ ?_;rotate_left
    ·(intro w' hSw;(try dsimp only at hSw);go_simp<;>with_reducible rfl)
    try simp only[Act.put,aA,aC,aB]
   refine Walk.act rfl (by rfl) (fun K hK=>?_);go_simp;go_at_call 20;refine(aT _ _ _ _).mono ?_;rintro r w3 ⟨rfl,e3⟩;dsimp only[muE];have X2:Below w1.heap.size w1 w3:=e3 ▸ X1;refine hK.out _ _ (KG.out _ X2) ?_;clear hK K;try simp only[Act.put,aA,aC,aB]
   refine Walk.done ?_;have B3:=Hj (aG B1.out X2);clear X1 X2 b2 e3 KG X;refine bodyPost_end (results_none rfl _ _ _) rfl ⟨?_,B3.out⟩;rw[E.out];rfl
  ·have hb:(u == t)=false:=by simp[hu]
   have E:Hid ((Ck.ok u).bind (fun u=>dC (u == t) 122 ps)=.no 122 ps):=by show dC (u == t) 122 ps=_;rw[hb];rfl
   clear hu;refine aL (S:=fun w'=>w'.cell? ⟨w.heap.size,0,none⟩=some (.int .u8 op)∧w'.cell? ⟨w.heap.size,1,none⟩=some (.int .i64 ps)∧w'.cell? ⟨w.heap.size,2,none⟩=some (.bool bo)∧w'.cell? ⟨w.heap.size,3,none⟩=some (.int .i32 it)∧w'.cell? ⟨w.heap.size,4,none⟩=some (.int .u64 fl)∧w'.cell? ⟨w.heap.size,5,none⟩=some (.string ⟨nm.toArray⟩)∧w'.cell? ⟨w.heap.size,6,none⟩=some (.slice sa sn sc)) _ [(0,true),(1,true),(3,true),(5,true),(6,true),(2,false),(4,true),(7,false)] (by kernel_rfl) (by kernel_rfl) rfl (by kernel_rfl) (by kernel_rfl) (fun _ _ d _ _ h=>by cases d<;>exact h) (KG.out _ (aH (Below.refl _ _))) ?_
   iterate 5
    refine Walk.take (v:=?_) rfl (by rfl) ?_ ?_;rotate_left
    ·(intro w' hSw;(try dsimp only at hSw);go_simp<;>with_reducible rfl)
    try simp only[Act.put,aA,aC,aB]
   refine Walk.act rfl (by rfl) (fun K hK=>?_);go_simp;go_at_call 30;refine(X.out _ (aH (Below.refl _ _))).mono ?_;rintro r w2 ⟨rfl,b2⟩;dsimp only[ckE];have X1:Below w1.heap.size w1 w2:=aG (aH (Below.refl _ _)) b2;refine hK.out _ _ (KG.out _ X1) ?_;clear hK K;try simp only[Act.put,aA,aC,aB]
   iterate 1
    refine Walk.take (v:=?_) rfl (by rfl) ?_ ?_;rotate_left
    ·(intro w' hSw;(try dsimp only at hSw);go_simp<;>with_reducible rfl)
    try simp only[Act.put,aA,aC,aB]
   refine Walk.act rfl (by rfl) (fun K hK=>?_);go_simp;go_at_call 20;refine(aT _ _ _ _).mono ?_;rintro r w3 ⟨rfl,e3⟩;dsimp only[muE];refine⟨rfl,?_,aG B1.out (e3 ▸ X1)⟩;rw[E.out];rfl
theorem aDN {a:Addr}{sz b o:Nat}(h:a.add (0*sz)=⟨b,o,none⟩):a=⟨b,o,none⟩:=by
 rw[Nat.zero_mul]at h;obtain⟨b',o',x⟩:=a
 cases x with
 | none=>simpa [Addr.add] using h
 | some x=>simp[Addr.add]at h
def aAQ (m:Option Mn)(p:Int)(n:Nat)(x:Ck Unit)(e:Int→Ck Unit):Ck Unit:=match m with
 | none=>.no 120 p
 | some m=>if m.us≠0 then .no 124 p else if(n:Int)=(if m.ar then 1 else 0) then(if m.ar then x else .ok ()).bind fun _=>e m.ty else .no 125 p
theorem aKz {S:Sc}(hS:S.good)(h:SH)(x:Nat→Ex)(e:Ex) :
  lQ S h x e=aAQ (mnS S h.nm) h.ps h.xs.n (((x 0).ck S).bind fun t=>dC (t == 2) 122 (x 0).h.ps) (fun ty=>(e.ck S).bind fun t=>dC (t == ty) 122 e.h.ps):=by
 unfold lQ mnS
 by_cases c:h.nm∈S.loops
 ·rw[if_pos c,if_pos c];rfl
 ·rw[if_neg c,if_neg c]
  cases hf:S.find h.nm with
  | none=>rfl
  | some i=>
   have hl:=hS i (zM hf).1;simp only[Option.map_some,aAQ]
   cases hi:(S.d i).inp with
   | true=>simp[kB,hi]
   | false=>
    have e0:(kB (S.d i)).us=0:=by simp[kB,hi]
    have et:(kB (S.d i)).ty=(S.d i).ty:=rfl;rw[e0,et]
    by_cases g:0<(S.d i).len
    ·have g2:(kB (S.d i)).ar=true:=by simp[kB];omega
     rw[g2]
     by_cases k:h.xs.n=1
     ·simp[g,k]
     ·have k2:¬(h.xs.n:Int)=1:=by omega
      simp[g,k,k2]
    ·have g2:(kB (S.d i)).ar=false:=by simp[kB];omega
     rw[g2]
     by_cases k:h.xs.n=0
     ·simp[g,k]
     ·simp[g,k]
theorem aAM (B R M n:Nat)(S:Sc)(hS:S.good)(s:St)(w:World)(hC:Ckr R M n S w)(hI:s.In B w)(hB:B≤w.heap.size)(hw:sm (fun i=>(s.x i).wt) s.h.xs.n≤1000000∧s.e.wt≤1000000) :
  Calls Tryz.prog 59 #[.pointer (some ⟨R,0,none⟩),stv s.h s.e.h] w fun r w'=>r=unE (lQ S s.h s.x s.e)∧Below w.heap.size w w':=by
 rw[aKz hS];obtain⟨hw,hw2⟩:=hw;have BX:=bS (Below.refl w.heap.size w) (aD _) (sO s.h s.e.h);have HC1:Ckr R M n S (bx w (sO s.h s.e.h)):=Ckf.bel hC BX;have hnm:s.h.nm.length≤maxLen:=hI.ok.nm;have F:=Hj (xK R M n _ _ _ s.h.nm s.h.ps _ HC1 hnm)
 have EX:Hid (∀w',Ckr R M n S w'→Below w.heap.size w w'→Calls Tryz.prog 60 #[.pointer (some ⟨R,0,none⟩),s.e.h.v,.int .u8 ((mnS S s.h.nm).getD ⟨0,0,false⟩).ty] w' fun r w''=>r=unE ((s.e.ck S).bind fun t=>dC (t == ((mnS S s.h.nm).getD ⟨0,0,false⟩).ty) 122 s.e.h.ps)∧Below w'.heap.size w' w''):=fun w' hc hb=>
  mJ B R M n S hS s.e _ w' hc (hI.ex.below hb hB) (aF hB hb.size) (by omega)
 have XI:Hid (∀w',Below w.heap.size w w'→gE B w' s.h.xs s.x):=fun w' hb=>hI.xs.below hb hB
 have IX1:Hid (∀w',0<s.h.xs.n→Ckr R M n S w'→Below w.heap.size w w'→Calls Tryz.prog 60 #[.pointer (some ⟨R,0,none⟩),(s.x 0).h.v,.int .u8 2] w' fun r w''=>r=unE (((s.x 0).ck S).bind fun t=>dC (t == 2) 122 (s.x 0).h.ps)∧Below w'.heap.size w' w''):=fun w' h0 hc hb=>
  mJ B R M n S hS (s.x 0) 2 w' hc (hI.xs.below hb hB |>.2.2 0 h0) (aF hB hb.size) (by have:=iD (f:=fun i=>(s.x i).wt) h0;omega)
 have HC:=Hj HC1;have G:=Hj (cD w (sO s.h s.e.h));have B1:=Hj BX;clear BX HC1 hC hI hB hw hw2 hS hnm;generalize (((s.x 0).ck S).bind fun t=>dC (t == 2) 122 (s.x 0).h.ps)=Y at *;generalize (s.e.ck S).bind=Z0 at *;obtain⟨Z,hZ⟩:∃Z:Int→Ck Unit,∀ty,(Z0 fun t=>dC (t == ty) 122 s.e.h.ps)=Z ty:=⟨_,fun _=>rfl⟩;simp only[hZ]at EX ⊢;clear hZ Z0;generalize mnS S s.h.nm=m at *;generalize s.x=x at *;generalize s.e.h=e at *;generalize s.h=h at *;show Calls Tryz.prog 59 #[.pointer (some ⟨R,0,none⟩),.agg #[.int .u8 h.kd,.int .i64 h.ps,.string ⟨h.nm.toArray⟩,.slice h.xs.ao h.xs.n h.xs.c,.int .u8 e.op,.int .i64 e.ps,.bool e.bo,.int .i32 e.it,.int .u64 e.fl,.string ⟨e.nm.toArray⟩,.slice e.s.ao e.s.n e.s.c,.int .i32 h.lo,.int .i32 h.hi,.slice h.ts.ao h.ts.n h.ts.c,.slice h.es.ao h.es.n h.es.c]] w _;go_enter Tryz.func59,Tryz.ntmps59;go_upto_region 1 with fail;rw[aCj w h e];have D:=bX G.out;have x1:=D.c1;have x2:=D.c2;clear D;generalize bx w (sO h e)=w1 at *;go_wp2_with fail;refine F.out.mono ?_;rintro r w2 ⟨rfl,b2⟩;have B2:=Hj (aG B1.out b2);have BB2:=Hj b2;clear b2 F x1 x2
 cases m with
 | none=>
  dsimp only[fnE];go_wp2_with fail;exact⟨rfl,rfl,B2.out⟩
 | some m=>
  obtain⟨us,ty,ar⟩:=m;dsimp only[fnE,mnV];dsimp only[Option.getD_some]at EX;have BA:=aY w2 (.cells #[.int .i64 us,.int .u8 ty,.bool ar] 96);have N3:Hid (Blk (w2.alloc (.cells #[.int .i64 us,.int .u8 ty,.bool ar] 96)) w2.heap.size 96 #[.int .i64 us,.int .u8 ty,.bool ar]):=Blk.new _ _ _;have B3:=Hj (aG B2.out BA);have BB3:=Hj (aG BB2.out BA);have G3:=Hj (aV BB3.out G.out);have HC3:Hid (Ckr R M n S (w2.alloc (.cells #[.int .i64 us,.int .u8 ty,.bool ar] 96))):=HC.out.bel BB3.out;clear BA B2 BB2 BB3 G HC B1;go_upto_region 2 with fail;change (Code.region 2 _ _).wp _ _ _ (w2.alloc (.cells #[.int .i64 us,.int .u8 ty,.bool ar] 96));generalize w2.alloc (.cells #[.int .i64 us,.int .u8 ty,.bool ar] 96)=w3 at *;generalize w2.heap.size=g2 at *;have n0:w3.cell? ⟨g2,0,none⟩=some (.int .i64 us):=N3.out.cell 0;have x1:=(bX G3.out).c1
  by_cases hu:us=0
  ·subst hu
   go_wp2_with fail;refine(aT _ _ _ _).mono ?_;rintro r w4 ⟨rfl,e4⟩;rw[e4];clear e4 w4;dsimp only[muE];clear n0 x1
   cases ar with
   | false=>
    have E:Hid (aAQ (some ⟨0,ty,false⟩) h.ps h.xs.n Y Z=if h.xs.n=0 then Z ty else .no 125 h.ps):=by
     show aAQ _ _ _ _ _=_;unfold aAQ
     by_cases c:h.xs.n=0
     ·simp[c,Ck.bind]
     ·simp[c]
    have IX:Hid (∀w,Calls Tryz.prog 73 #[.agg #[.int .i64 0,.int .u8 ty,.bool false]] w fun e w'=>e=.returned (.int .i64 0)∧Below w.heap.size w w'):=fun w=>iO ⟨0,ty,false⟩ w
    have KG:Hid (∀w',Below w3.heap.size w3 w'→(w'.cell? ⟨w.heap.size,3,none⟩=some (.slice h.xs.ao h.xs.n h.xs.c)∧w'.cell? ⟨w.heap.size,1,none⟩=some (.int .i64 h.ps)∧w'.cell? ⟨g2,0,none⟩=some (.int .i64 0)∧w'.cell? ⟨g2,1,none⟩=some (.int .u8 ty)∧w'.cell? ⟨g2,2,none⟩=some (.bool false))):=fun w' hw=>by
     have D:=bX (aV hw G3.out);have N5:=N3.out.below hw N3.out.lt;exact⟨D.c3,D.c1,N5.cell 0,N5.cell 1,N5.cell 2⟩
    by_cases hn:h.xs.n=0
    ·have hb:((h.xs.n:Int) == 0)=true:=by simp[hn]
     have HN:=Hj hn;rw[if_pos hn]at E;clear hn;go_upto_region 3 with fail;refine aL (S:=fun w'=>w'.cell? ⟨w.heap.size,3,none⟩=some (.slice h.xs.ao h.xs.n h.xs.c)∧w'.cell? ⟨w.heap.size,1,none⟩=some (.int .i64 h.ps)∧w'.cell? ⟨g2,0,none⟩=some (.int .i64 0)∧w'.cell? ⟨g2,1,none⟩=some (.int .u8 ty)∧w'.cell? ⟨g2,2,none⟩=some (.bool false)) _ [(0,true),(1,true),(2,true),(3,true),(6,true),(7,true),(4,false),(5,true),(8,false)] (by kernel_rfl) (by kernel_rfl) rfl (by kernel_rfl) (by kernel_rfl) (fun _ _ d _ _ h=>by cases d<;>exact h) (KG.out _ (aH (Below.refl _ _))) ?_
     iterate 6
      refine Walk.take (v:=?_) rfl (by rfl) ?_ ?_;rotate_left
      ·(intro w' hSw;(try dsimp only at hSw);go_simp<;>with_reducible rfl)
      try simp only[Act.put,aA,aC,aB]
     refine Walk.act rfl (by rfl) (fun K hK=>?_);go_simp;go_at_call 73;refine(IX.out _).mono ?_;rintro r w5 ⟨rfl,b5⟩;have X1:Below w3.heap.size w3 w5:=aG (aH (Below.refl _ _)) b5;refine hK.out _ _ (KG.out _ X1) ?_;clear hK K;try simp only[Act.put,aA,aC,aB]
     iterate 1
      refine Walk.take (v:=?_) rfl (by rfl) ?_ ?_;rotate_left
      ·(intro w' hSw;(try dsimp only at hSw);go_simp<;>with_reducible rfl)
      try simp only[Act.put,aA,aC,aB]
     refine Walk.act rfl (by rfl) (fun K hK=>?_);go_simp;go_at_call 20;refine(aT _ _ _ _).mono ?_;rintro r w6 ⟨rfl,e6⟩;dsimp only[muE];have X2:Below w3.heap.size w3 w6:=e6 ▸ X1;refine hK.out _ _ (KG.out _ X2) ?_;clear hK K;try simp only[Act.put,aA,aC,aB]
     refine Walk.done ?_;have B6:=Hj (aG B3.out X2);have N6:=Hj (N3.out.below X2 N3.out.lt);have G6:=Hj (aV X2 G3.out);have HC6:Hid (Ckr R M n S w6):=HC3.out.bel X2;clear KG X1 X2 b5 e6 IX G3 N3 HC3 B3 hb;have D:=bX G6.out;have q3:=D.c3;rw[HN.out]at q3;have d4:=D.c4;have d5:=D.c5;have d6:=D.c6;have d7:=D.c7;have d8:=D.c8;have d9:=D.c9;have d10:=D.c10;have n1:w6.cell? ⟨g2,1,none⟩=some (.int .u8 ty):=N6.out.cell 1;have C9:=Hj (EX.out w6 HC6.out B6.out);clear D;go_wp2_with fail;refine wp_loop_rounds 1 ?_;rw[rounds_succ];go_wp2_with fail;refine C9.out.mono ?_;rintro r w9 ⟨rfl,b9⟩;have B9:=Hj (aG B6.out b9);clear C9 b9;generalize hzz:Z ty=zz at *
     cases zz with
     | ok u=>
      dsimp only[unE];go_wp2_with fail;refine bodyPost_end (results_none rfl _ _ _) rfl ⟨?_,B9.out⟩;rw[E.out];rfl
     | no c p=>
      dsimp only[unE];go_wp2_with fail;refine⟨rfl,?_,B9.out⟩;rw[E.out];rfl
    ·have hb:((h.xs.n:Int) == 0)=false:=by simp;omega
     rw[if_neg hn]at E;clear hn;go_upto_region 3 with fail;refine aL (S:=fun w'=>w'.cell? ⟨w.heap.size,3,none⟩=some (.slice h.xs.ao h.xs.n h.xs.c)∧w'.cell? ⟨w.heap.size,1,none⟩=some (.int .i64 h.ps)∧w'.cell? ⟨g2,0,none⟩=some (.int .i64 0)∧w'.cell? ⟨g2,1,none⟩=some (.int .u8 ty)∧w'.cell? ⟨g2,2,none⟩=some (.bool false)) _ [(0,true),(1,true),(2,true),(3,true),(6,true),(7,true),(4,false),(5,true),(8,false)] (by kernel_rfl) (by kernel_rfl) rfl (by kernel_rfl) (by kernel_rfl) (fun _ _ d _ _ h=>by cases d<;>exact h) (KG.out _ (aH (Below.refl _ _))) ?_
     iterate 6
      refine Walk.take (v:=?_) rfl (by rfl) ?_ ?_;rotate_left
      ·(intro w' hSw;(try dsimp only at hSw);go_simp<;>with_reducible rfl)
      try simp only[Act.put,aA,aC,aB]
     refine Walk.act rfl (by rfl) (fun K hK=>?_);go_simp;go_at_call 73;refine(IX.out _).mono ?_;rintro r w5 ⟨rfl,b5⟩;have X1:Below w3.heap.size w3 w5:=aG (aH (Below.refl _ _)) b5;refine hK.out _ _ (KG.out _ X1) ?_;clear hK K;try simp only[Act.put,aA,aC,aB]
     iterate 1
      refine Walk.take (v:=?_) rfl (by rfl) ?_ ?_;rotate_left
      ·(intro w' hSw;(try dsimp only at hSw);go_simp<;>with_reducible rfl)
      try simp only[Act.put,aA,aC,aB]
     refine Walk.act rfl (by rfl) (fun K hK=>?_);go_simp;go_at_call 20;refine(aT _ _ _ _).mono ?_;rintro r w6 ⟨rfl,e6⟩;dsimp only[muE];refine⟨rfl,?_,aG B3.out (e6 ▸ X1)⟩;rw[E.out];rfl
   | true=>
    have E:Hid (aAQ (some ⟨0,ty,true⟩) h.ps h.xs.n Y Z=if h.xs.n=1 then Y.bind fun _=>Z ty else .no 125 h.ps):=by
     show aAQ _ _ _ _ _=_;unfold aAQ
     by_cases c:h.xs.n=1
     ·simp[c]
     ·have c2:¬(h.xs.n:Int)=1:=by omega
      simp[c,c2]
    have IX:Hid (∀w,Calls Tryz.prog 73 #[.agg #[.int .i64 0,.int .u8 ty,.bool true]] w fun e w'=>e=.returned (.int .i64 1)∧Below w.heap.size w w'):=fun w=>iO ⟨0,ty,true⟩ w
    have KG:Hid (∀w',Below w3.heap.size w3 w'→(w'.cell? ⟨w.heap.size,3,none⟩=some (.slice h.xs.ao h.xs.n h.xs.c)∧w'.cell? ⟨w.heap.size,1,none⟩=some (.int .i64 h.ps)∧w'.cell? ⟨g2,0,none⟩=some (.int .i64 0)∧w'.cell? ⟨g2,1,none⟩=some (.int .u8 ty)∧w'.cell? ⟨g2,2,none⟩=some (.bool true))):=fun w' hw=>by
     have D:=bX (aV hw G3.out);have N5:=N3.out.below hw N3.out.lt;exact⟨D.c3,D.c1,N5.cell 0,N5.cell 1,N5.cell 2⟩
    by_cases hn:h.xs.n=1
    ·have hb:((h.xs.n:Int) == 1)=true:=by simp[hn]
     have HN:=Hj hn;rw[if_pos hn]at E;clear hn;go_upto_region 3 with fail;refine aL (S:=fun w'=>w'.cell? ⟨w.heap.size,3,none⟩=some (.slice h.xs.ao h.xs.n h.xs.c)∧w'.cell? ⟨w.heap.size,1,none⟩=some (.int .i64 h.ps)∧w'.cell? ⟨g2,0,none⟩=some (.int .i64 0)∧w'.cell? ⟨g2,1,none⟩=some (.int .u8 ty)∧w'.cell? ⟨g2,2,none⟩=some (.bool true)) _ [(0,true),(1,true),(2,true),(3,true),(6,true),(7,true),(4,false),(5,true),(8,false)] (by kernel_rfl) (by kernel_rfl) rfl (by kernel_rfl) (by kernel_rfl) (fun _ _ d _ _ h=>by cases d<;>exact h) (KG.out _ (aH (Below.refl _ _))) ?_
     iterate 6
      refine Walk.take (v:=?_) rfl (by rfl) ?_ ?_;rotate_left
      ·(intro w' hSw;(try dsimp only at hSw);go_simp<;>with_reducible rfl)
      try simp only[Act.put,aA,aC,aB]
     refine Walk.act rfl (by rfl) (fun K hK=>?_);go_simp;go_at_call 73;refine(IX.out _).mono ?_;rintro r w5 ⟨rfl,b5⟩;have X1:Below w3.heap.size w3 w5:=aG (aH (Below.refl _ _)) b5;refine hK.out _ _ (KG.out _ X1) ?_;clear hK K;try simp only[Act.put,aA,aC,aB]
     iterate 1
      refine Walk.take (v:=?_) rfl (by rfl) ?_ ?_;rotate_left
      ·(intro w' hSw;(try dsimp only at hSw);go_simp<;>with_reducible rfl)
      try simp only[Act.put,aA,aC,aB]
     refine Walk.act rfl (by rfl) (fun K hK=>?_);go_simp;go_at_call 20;refine(aT _ _ _ _).mono ?_;rintro r w6 ⟨rfl,e6⟩;dsimp only[muE];have X2:Below w3.heap.size w3 w6:=e6 ▸ X1;refine hK.out _ _ (KG.out _ X2) ?_;clear hK K;try simp only[Act.put,aA,aC,aB]
     refine Walk.done ?_;have B6:=Hj (aG B3.out X2);have N6:=Hj (N3.out.below X2 N3.out.lt);have G6:=Hj (aV X2 G3.out);have HC6:Hid (Ckr R M n S w6):=HC3.out.bel X2;clear KG X1 X2 b5 e6 IX G3 N3 HC3 B3 hb;have D:=bX G6.out;have q3:=D.c3;rw[HN.out]at q3;obtain⟨a,b,o,ha,hA,hlt,X, -⟩:=(XI.out w6 B6.out).at (i:=0) (by rw[HN.out];exact Nat.lt_succ_self 0);rw[ha]at q3;obtain rfl:=aDN hA;have x0:=X.c0;have x1:=X.c1;have x2:=X.c2;have x3:=X.c3;have x4:=X.c4;have x5:=X.c5;have x6:=X.c6;have BX:=bS (Below.refl w6.heap.size w6) (aD _) (xO (x 0).h);have C7:=Hj (IX1.out (bx w6 (xO (x 0).h)) (by rw[HN.out];exact Nat.lt_succ_self 0) (HC6.out.bel BX) (aG B6.out BX));have B7:=Hj (aG B6.out BX);have N7:=Hj (N6.out.below BX N6.out.lt);have G7:=Hj (aV BX G6.out);have HC7:Hid (Ckr R M n S (bx w6 (xO (x 0).h))):=HC6.out.bel BX;clear D X hA hlt BX B6 N6 G6 HC6;go_wp2_with fail;refine wp_loop_rounds 2 ?_;rw[rounds_succ];go_wp2_with fail;refine C7.out.mono ?_;rintro r w8 ⟨rfl,b8⟩;have B8:=Hj (aG B7.out b8);have N8:=Hj (N7.out.below b8 N7.out.lt);have G8:=Hj (aV b8 G7.out);have HC8:Hid (Ckr R M n S w8):=HC7.out.bel b8;clear C7 b8 N7 G7 HC7 B7 x0 x1 x2 x3 x4 x5 x6 q3 IX1 XI
     cases Y with
     | no c p=>
      dsimp only[unE];go_wp2_with fail;refine⟨rfl,?_,B8.out⟩;rw[E.out];rfl
     | ok u=>
      have D:=bX G8.out;have d4:=D.c4;have d5:=D.c5;have d6:=D.c6;have d7:=D.c7;have d8:=D.c8;have d9:=D.c9;have d10:=D.c10;have n1:w8.cell? ⟨g2,1,none⟩=some (.int .u8 ty):=N8.out.cell 1;have C9:=Hj (EX.out w8 HC8.out B8.out);clear D;dsimp only[unE];go_wp2_with fail;rw[rounds_succ];go_wp2_with fail;refine C9.out.mono ?_;rintro r w9 ⟨rfl,b9⟩;have B9:=Hj (aG B8.out b9);clear C9 b9;generalize hzz:Z ty=zz at *
      cases zz with
      | ok u=>
       dsimp only[unE];go_wp2_with fail;refine bodyPost_end (results_none rfl _ _ _) rfl ⟨?_,B9.out⟩;rw[E.out];rfl
      | no c p=>
       dsimp only[unE];go_wp2_with fail;refine⟨rfl,?_,B9.out⟩;rw[E.out];rfl
    ·have hb:((h.xs.n:Int) == 1)=false:=by simp;omega
     rw[if_neg hn]at E;clear hn;go_upto_region 3 with fail;refine aL (S:=fun w'=>w'.cell? ⟨w.heap.size,3,none⟩=some (.slice h.xs.ao h.xs.n h.xs.c)∧w'.cell? ⟨w.heap.size,1,none⟩=some (.int .i64 h.ps)∧w'.cell? ⟨g2,0,none⟩=some (.int .i64 0)∧w'.cell? ⟨g2,1,none⟩=some (.int .u8 ty)∧w'.cell? ⟨g2,2,none⟩=some (.bool true)) _ [(0,true),(1,true),(2,true),(3,true),(6,true),(7,true),(4,false),(5,true),(8,false)] (by kernel_rfl) (by kernel_rfl) rfl (by kernel_rfl) (by kernel_rfl) (fun _ _ d _ _ h=>by cases d<;>exact h) (KG.out _ (aH (Below.refl _ _))) ?_
     iterate 6
      refine Walk.take (v:=?_) rfl (by rfl) ?_ ?_;rotate_left
      ·(intro w' hSw;(try dsimp only at hSw);go_simp<;>with_reducible rfl)
      try simp only[Act.put,aA,aC,aB]
     refine Walk.act rfl (by rfl) (fun K hK=>?_);go_simp;go_at_call 73;refine(IX.out _).mono ?_;rintro r w5 ⟨rfl,b5⟩;have X1:Below w3.heap.size w3 w5:=aG (aH (Below.refl _ _)) b5;refine hK.out _ _ (KG.out _ X1) ?_;clear hK K;try simp only[Act.put,aA,aC,aB]
     iterate 1
      refine Walk.take (v:=?_) rfl (by rfl) ?_ ?_;rotate_left
      ·(intro w' hSw;(try dsimp only at hSw);go_simp<;>with_reducible rfl)
      try simp only[Act.put,aA,aC,aB]
     refine Walk.act rfl (by rfl) (fun K hK=>?_);go_simp;go_at_call 20;refine(aT _ _ _ _).mono ?_;rintro r w6 ⟨rfl,e6⟩;dsimp only[muE];refine⟨rfl,?_,aG B3.out (e6 ▸ X1)⟩;rw[E.out];rfl
  ·have hb:(us == 0)=false:=by simp[hu]
   have E:Hid (aAQ (some ⟨us,ty,ar⟩) h.ps h.xs.n Y Z=.no 124 h.ps):=if_pos hu;clear hu;go_wp2_with fail;refine(aT _ _ _ _).mono ?_;rintro r w4 ⟨rfl,e4⟩;subst e4;dsimp only[muE];go_wp2_with fail;refine⟨rfl,?_,B3.out⟩;rw[E.out];rfl
theorem aFa (op t u:Int)(g' c:Nat)(w:World)(h0:w.cell? ⟨g',0,none⟩=some (.int .u8 t))(h1:w.cell? ⟨g',1,none⟩=some (.int .u8 u)):Calls Tryz.prog 71 #[.int .u8 op,.slice (some ⟨g',0,.none⟩) 2 c] w fun e w'=>e=.returned (.int .u8 (bM op [t,u]))∧w'=w:=by
 by_cases q:u=t
 ·subst q
  by_cases t2:u=2
  ·subst t2
   by_cases k:op=5∨op=6∨op=7∨op=8∨op=9∨op=10∨op=11∨op=12∨op=13∨op=14∨op=15∨op=16
   ·rcases k with rfl|rfl|rfl|rfl|rfl|rfl|rfl|rfl|rfl|rfl|rfl|rfl
    all_goals
     go_enter Tryz.func71,Tryz.ntmps71;go_wp2_with fail;go_ret;exact⟨rfl,rfl⟩
   ·have e:bM op [2,2]=0:=by
     have h1:¬(5≤op∧op≤8):=by omega
     have h2:¬(op=9∨op=10∨op=13∨op=14):=by omega
     have h3:¬(op=11∨op=12):=by omega
     have h4:¬(op=15∨op=16):=by omega
     simp[bM,h1,h2,h3,h4]
    rw[e];obtain⟨b1,b2,b3,b4⟩:¬op=9∧¬op=10∧¬op=13∧¬op=14:=by omega
    obtain⟨d1,d2,d3,d4⟩:¬op=11∧¬op=12∧¬op=15∧¬op=16:=by omega
    have y1:(op == 11)=false:=by simp[d1]
    have y2:(op == 12)=false:=by simp[d2]
    have y3:(op == 15)=false:=by simp[d3]
    have y4:(op == 16)=false:=by simp[d4]
    have y5:(op == 9)=false:=by simp[b1]
    have y6:(op == 10)=false:=by simp[b2]
    have y7:(op == 13)=false:=by simp[b3]
    have y8:(op == 14)=false:=by simp[b4]
    by_cases g:5≤op
    ·have g2:¬op≤8:=by omega
     clear e k;go_enter Tryz.func71,Tryz.ntmps71;go_wp2_with fail;go_ret;exact⟨rfl,rfl⟩
    ·clear e k
     go_enter Tryz.func71,Tryz.ntmps71;go_wp2_with fail;go_ret;exact⟨rfl,rfl⟩
  ·by_cases t3:u=3
   ·subst t3
    clear t2
    by_cases k:op=5∨op=6∨op=7∨op=8∨op=9∨op=10∨op=11∨op=12∨op=13∨op=14∨op=15∨op=16
    ·rcases k with rfl|rfl|rfl|rfl|rfl|rfl|rfl|rfl|rfl|rfl|rfl|rfl
     all_goals
      go_enter Tryz.func71,Tryz.ntmps71;go_wp2_with fail;go_ret;exact⟨rfl,rfl⟩
    ·have e:bM op [3,3]=0:=by
      have h1:¬(5≤op∧op≤8):=by omega
      have h2:¬(op=9∨op=10∨op=13∨op=14):=by omega
      have h3:¬(op=11∨op=12):=by omega
      have h4:¬(op=15∨op=16):=by omega
      simp[bM,h1,h2,h3,h4]
     rw[e];obtain⟨b1,b2,b3,b4⟩:¬op=9∧¬op=10∧¬op=13∧¬op=14:=by omega
     obtain⟨d1,d2,d3,d4⟩:¬op=11∧¬op=12∧¬op=15∧¬op=16:=by omega
     have y1:(op == 11)=false:=by simp[d1]
     have y2:(op == 12)=false:=by simp[d2]
     have y3:(op == 15)=false:=by simp[d3]
     have y4:(op == 16)=false:=by simp[d4]
     have y5:(op == 9)=false:=by simp[b1]
     have y6:(op == 10)=false:=by simp[b2]
     have y7:(op == 13)=false:=by simp[b3]
     have y8:(op == 14)=false:=by simp[b4]
     by_cases g:5≤op
     ·have g2:¬op≤8:=by omega
      clear e k;go_enter Tryz.func71,Tryz.ntmps71;go_wp2_with fail;go_ret;exact⟨rfl,rfl⟩
     ·clear e k
      go_enter Tryz.func71,Tryz.ntmps71;go_wp2_with fail;go_ret;exact⟨rfl,rfl⟩
   ·have hb3:(u == 3)=false:=by simp[t3]
    have hb2:(u == 2)=false:=by simp[t2]
    by_cases t1:u=1
    ·subst t1
     clear t2 t3 hb2 hb3
     by_cases k:op=5∨op=6∨op=7∨op=8∨op=9∨op=10∨op=11∨op=12∨op=13∨op=14∨op=15∨op=16
     ·rcases k with rfl|rfl|rfl|rfl|rfl|rfl|rfl|rfl|rfl|rfl|rfl|rfl
      all_goals
       go_enter Tryz.func71,Tryz.ntmps71;go_wp2_with fail;go_ret;exact⟨rfl,rfl⟩
     ·have e:bM op [1,1]=0:=by
       have h1:¬(5≤op∧op≤8):=by omega
       have h2:¬(op=9∨op=10∨op=13∨op=14):=by omega
       have h3:¬(op=11∨op=12):=by omega
       have h4:¬(op=15∨op=16):=by omega
       simp[bM,h1,h2,h3,h4]
      rw[e];obtain⟨b1,b2,b3,b4⟩:¬op=9∧¬op=10∧¬op=13∧¬op=14:=by omega
      obtain⟨d1,d2,d3,d4⟩:¬op=11∧¬op=12∧¬op=15∧¬op=16:=by omega
      have y1:(op == 11)=false:=by simp[d1]
      have y2:(op == 12)=false:=by simp[d2]
      have y3:(op == 15)=false:=by simp[d3]
      have y4:(op == 16)=false:=by simp[d4]
      have y5:(op == 9)=false:=by simp[b1]
      have y6:(op == 10)=false:=by simp[b2]
      have y7:(op == 13)=false:=by simp[b3]
      have y8:(op == 14)=false:=by simp[b4]
      by_cases g:5≤op
      ·have g2:¬op≤8:=by omega
       clear e k;go_enter Tryz.func71,Tryz.ntmps71;go_wp2_with fail;go_ret;exact⟨rfl,rfl⟩
      ·clear e k
       go_enter Tryz.func71,Tryz.ntmps71;go_wp2_with fail;go_ret;exact⟨rfl,rfl⟩
    ·have hb1:(u == 1)=false:=by simp[t1]
     by_cases k:op=5∨op=6∨op=7∨op=8∨op=9∨op=10∨op=11∨op=12∨op=13∨op=14∨op=15∨op=16
     ·rcases k with rfl|rfl|rfl|rfl|rfl|rfl|rfl|rfl|rfl|rfl|rfl|rfl
      ·have e:bM 5 [u,u]=0:=by simp[bM,gB,t1,t2,t3]
       rw[e];go_enter Tryz.func71,Tryz.ntmps71;go_wp2_with fail;go_ret;exact⟨rfl,rfl⟩
      ·have e:bM 6 [u,u]=0:=by simp[bM,gB,t1,t2,t3]
       rw[e];go_enter Tryz.func71,Tryz.ntmps71;go_wp2_with fail;go_ret;exact⟨rfl,rfl⟩
      ·have e:bM 7 [u,u]=0:=by simp[bM,gB,t1,t2,t3]
       rw[e];go_enter Tryz.func71,Tryz.ntmps71;go_wp2_with fail;go_ret;exact⟨rfl,rfl⟩
      ·have e:bM 8 [u,u]=0:=by simp[bM,gB,t1,t2,t3]
       rw[e];go_enter Tryz.func71,Tryz.ntmps71;go_wp2_with fail;go_ret;exact⟨rfl,rfl⟩
      ·have e:bM 9 [u,u]=0:=by simp[bM,gB,t1,t2,t3]
       rw[e];go_enter Tryz.func71,Tryz.ntmps71;go_wp2_with fail;go_ret;exact⟨rfl,rfl⟩
      ·have e:bM 10 [u,u]=0:=by simp[bM,gB,t1,t2,t3]
       rw[e];go_enter Tryz.func71,Tryz.ntmps71;go_wp2_with fail;go_ret;exact⟨rfl,rfl⟩
      ·have e:bM 11 [u,u]=1:=by simp[bM,gB]
       rw[e];go_enter Tryz.func71,Tryz.ntmps71;go_wp2_with fail;go_ret;exact⟨rfl,rfl⟩
      ·have e:bM 12 [u,u]=1:=by simp[bM,gB]
       rw[e];go_enter Tryz.func71,Tryz.ntmps71;go_wp2_with fail;go_ret;exact⟨rfl,rfl⟩
      ·have e:bM 13 [u,u]=0:=by simp[bM,gB,t1,t2,t3]
       rw[e];go_enter Tryz.func71,Tryz.ntmps71;go_wp2_with fail;go_ret;exact⟨rfl,rfl⟩
      ·have e:bM 14 [u,u]=0:=by simp[bM,gB,t1,t2,t3]
       rw[e];go_enter Tryz.func71,Tryz.ntmps71;go_wp2_with fail;go_ret;exact⟨rfl,rfl⟩
      ·have e:bM 15 [u,u]=0:=by simp[bM,gB,t1,t2,t3]
       rw[e];go_enter Tryz.func71,Tryz.ntmps71;go_wp2_with fail;go_ret;exact⟨rfl,rfl⟩
      ·have e:bM 16 [u,u]=0:=by simp[bM,gB,t1,t2,t3]
       rw[e];go_enter Tryz.func71,Tryz.ntmps71;go_wp2_with fail;go_ret;exact⟨rfl,rfl⟩
     ·have e:bM op [u,u]=0:=by
       have h1:¬(5≤op∧op≤8):=by omega
       have h2:¬(op=9∨op=10∨op=13∨op=14):=by omega
       have h3:¬(op=11∨op=12):=by omega
       have h4:¬(op=15∨op=16):=by omega
       simp[bM,h1,h2,h3,h4]
      rw[e];obtain⟨b1,b2,b3,b4⟩:¬op=9∧¬op=10∧¬op=13∧¬op=14:=by omega
      obtain⟨d1,d2,d3,d4⟩:¬op=11∧¬op=12∧¬op=15∧¬op=16:=by omega
      have y1:(op == 11)=false:=by simp[d1]
      have y2:(op == 12)=false:=by simp[d2]
      have y3:(op == 15)=false:=by simp[d3]
      have y4:(op == 16)=false:=by simp[d4]
      have y5:(op == 9)=false:=by simp[b1]
      have y6:(op == 10)=false:=by simp[b2]
      have y7:(op == 13)=false:=by simp[b3]
      have y8:(op == 14)=false:=by simp[b4]
      by_cases g:5≤op
      ·have g2:¬op≤8:=by omega
       clear e k;go_enter Tryz.func71,Tryz.ntmps71;go_wp2_with fail;go_ret;exact⟨rfl,rfl⟩
      ·clear e k
       go_enter Tryz.func71,Tryz.ntmps71;go_wp2_with fail;go_ret;exact⟨rfl,rfl⟩
 ·have q2:¬t=u:=fun h=>q h.symm
  have e:bM op [t,u]=0:=by simp[bM,q]
  rw[e];clear e;have hq:(u != t)=true:=by simp[q]
  by_cases t2:t=2
  ·subst t2
   go_enter Tryz.func71,Tryz.ntmps71;go_wp2_with fail;go_ret;exact⟨rfl,rfl⟩
  ·have hb2:(t == 2)=false:=by simp[t2]
   go_enter Tryz.func71,Tryz.ntmps71;go_wp2_with fail;go_ret;exact⟨rfl,rfl⟩
theorem aCQ (op t:Int)(n:Nat)(hn:3≤n)(g' c:Nat)(w:World)(h0:w.cell? ⟨g',0,none⟩=some (.int .u8 t)):Calls Tryz.prog 71 #[.int .u8 op,.slice (some ⟨g',0,.none⟩) n c] w fun e w'=>e=.returned (.int .u8 0)∧w'=w:=by
 have n0:¬(n:Int)=0:=by omega
 have n1:¬(n:Int)=1:=by omega
 have n2:¬(n:Int)=2:=by omega
 have k0:¬n=0:=by omega
 have k3:0<n:=by omega
 have k2:(0:Int)<(n:Int):=by omega
 by_cases t2:t=2
 ·subst t2
  go_enter Tryz.func71,Tryz.ntmps71;go_wp2_with fail;go_ret;exact⟨rfl,rfl⟩
 ·have hb2:(t == 2)=false:=by simp[t2]
  go_enter Tryz.func71,Tryz.ntmps71;go_wp2_with fail;go_ret;exact⟨rfl,rfl⟩
theorem aAh (op:Int)(l:List Int)(v:Value)(B:Nat)(w:World)(h:w.ownsRow B 36 1 v l.length (l.map (Value.int .u8))) :
  Calls Tryz.prog 71 #[.int .u8 op,v] w fun e w'=>e=.returned (.int .u8 (bM op l))∧w'=w:=by
 match l,h with
 | [],h=>
  obtain⟨A,c,rfl⟩:=nW h;exact aFc op A c w
 | [t],h=>
  obtain⟨g,cp,rfl, -⟩:=nU h (by simp);exact aFb op t g cp w (kH h (j:=0) (t:=t) rfl)
 | [t,u],h=>
  obtain⟨g,cp,rfl, -⟩:=nU h (by simp);exact aFa op t u g cp w (kH h (j:=0) (t:=t) rfl) (kH h (j:=1) (t:=u) rfl)
 | t::u::v::r,h=>
  obtain⟨g,cp,rfl, -⟩:=nU h (by simp);exact aCQ op t _ (by simp) g cp w (kH h (j:=0) (t:=t) rfl)
end Go.Proofs.YtkbicfffokegeaaGreatDoor
