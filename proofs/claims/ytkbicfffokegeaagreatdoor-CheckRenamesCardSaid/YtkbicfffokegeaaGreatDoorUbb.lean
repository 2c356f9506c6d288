/-
  Layer 12's checks answer true, whatever program is handed in. (part 28 of 35) Conditions: none beside what the card ties.
-/
import Derived.Test.YtkbicfffokegeaaGreatDoorUba
import Derived.Test.YtkbicfffokegeaaGreatDoorUao
namespace Go.Proofs.YtkbicfffokegeaaGreatDoor
set_option maxHeartbeats 16000000
open Go.RowKit
set_option maxRecDepth 100000
def unE (r:Ck Unit):Ending:=match r with
 | .ok _=>.returned (.tuple #[])
 | .no c p=>.panicked (fl12 c p)
theorem ccexpect_any (B R M n:Nat)(S:Sc)(hS:S.good)(e:Ex)(t:Int)(w:World)(hC:Ckr R M n S w)(hI:e.In B w)(hB:B≤w.heap.size)(hw:e.wt≤1000000) :
  Calls Tryz.prog 60 #[.pointer (some ⟨R,0,none⟩),e.h.v,.int .u8 t] w fun r w'=>r=unE ((e.ck S).bind fun u=>wantC (u == t) 122 e.h.ps)∧Below w.heap.size w w':=by
 have BX:=bx_bel (Below.refl w.heap.size w) (Nat.le_refl _) (xO e.h);have X:=Hj fun w' (hb:Below (bx w (xO e.h)).heap.size (bx w (xO e.h)) w')=>ccexpr_any B R M n S hS e w' ((Ckf.bel hC BX).bel hb) ((hI.below BX hB).below hb (Nat.le_trans hB BX.size)) (Nat.le_trans (Nat.le_trans hB BX.size) hb.size) hw;have G:=Hj (bx_new w (xO e.h));have B1:=Hj BX;clear BX hC hI hB hw hS;generalize e.ck S=Z at *;generalize e.h=h at *;obtain⟨op,ps,bo,it,fl,nm,⟨sa,sn,sc⟩⟩:=h;dsimp only;show Calls Tryz.prog 60 #[.pointer (some ⟨R,0,none⟩),.agg #[.int .u8 op,.int .i64 ps,.bool bo,.int .i32 it,.int .u64 fl,.string ⟨nm.toArray⟩,.slice sa sn sc],.int .u8 t] w _;go_enter Tryz.func60,Tryz.ntmps60;go_upto_region 1 with fail;rw[bx_x w ⟨op,ps,bo,it,fl,nm,⟨sa,sn,sc⟩⟩];generalize bx w (xO ⟨op,ps,bo,it,fl,nm,⟨sa,sn,sc⟩⟩)=w1 at *
 have KG:Hid (∀w',Below w1.heap.size w1 w'→(w'.cell? ⟨w.heap.size,0,none⟩=some (.int .u8 op)∧w'.cell? ⟨w.heap.size,1,none⟩=some (.int .i64 ps)∧w'.cell? ⟨w.heap.size,2,none⟩=some (.bool bo)∧w'.cell? ⟨w.heap.size,3,none⟩=some (.int .i32 it)∧w'.cell? ⟨w.heap.size,4,none⟩=some (.int .u64 fl)∧w'.cell? ⟨w.heap.size,5,none⟩=some (.string ⟨nm.toArray⟩)∧w'.cell? ⟨w.heap.size,6,none⟩=some (.slice sa sn sc))):=fun w' hw=>x_cells (keptO hw G.out)
 cases Z with
 | no c p=>
  refine region_plan (S:=fun w'=>w'.cell? ⟨w.heap.size,0,none⟩=some (.int .u8 op)∧w'.cell? ⟨w.heap.size,1,none⟩=some (.int .i64 ps)∧w'.cell? ⟨w.heap.size,2,none⟩=some (.bool bo)∧w'.cell? ⟨w.heap.size,3,none⟩=some (.int .i32 it)∧w'.cell? ⟨w.heap.size,4,none⟩=some (.int .u64 fl)∧w'.cell? ⟨w.heap.size,5,none⟩=some (.string ⟨nm.toArray⟩)∧w'.cell? ⟨w.heap.size,6,none⟩=some (.slice sa sn sc)) _ [(0,true),(1,true),(3,true),(5,true),(6,true),(2,false),(4,true),(7,false)] (by kernel_rfl) (by kernel_rfl) rfl (by kernel_rfl) (by kernel_rfl) (fun _ _ d _ _ h=>by cases d<;>exact h) (KG.out _ (bel_drew (Below.refl _ _))) ?_
  iterate 5
   refine Walk.take (v:=?_) rfl (by rfl) ?_ ?_;rotate_left
   ·(intro w' hSw;(try dsimp only at hSw);go_simp<;>with_reducible rfl)
   try simp only[Act.put,List.setIfInBounds_toArray,List.set_cons_zero,List.set_cons_succ]
  refine Walk.act rfl (by rfl) (fun K hK=>?_);go_simp;go_at_call 30;refine(X.out _ (bel_drew (Below.refl _ _))).mono ?_;rintro r w2 ⟨rfl,b2⟩;dsimp only[ckE];exact⟨rfl,rfl,bel_trans B1.out (bel_trans (bel_drew (Below.refl _ _)) b2)⟩
 | ok u=>
  by_cases hu:u=t
  ·have hb:(u == t)=true:=by simp[hu]
   have E:Hid ((Ck.ok u).bind (fun u=>wantC (u == t) 122 ps)=.ok ()):=by show wantC (u == t) 122 ps=_;rw[hb];rfl
   clear hu;refine region_plan (S:=fun w'=>w'.cell? ⟨w.heap.size,0,none⟩=some (.int .u8 op)∧w'.cell? ⟨w.heap.size,1,none⟩=some (.int .i64 ps)∧w'.cell? ⟨w.heap.size,2,none⟩=some (.bool bo)∧w'.cell? ⟨w.heap.size,3,none⟩=some (.int .i32 it)∧w'.cell? ⟨w.heap.size,4,none⟩=some (.int .u64 fl)∧w'.cell? ⟨w.heap.size,5,none⟩=some (.string ⟨nm.toArray⟩)∧w'.cell? ⟨w.heap.size,6,none⟩=some (.slice sa sn sc)) _ [(0,true),(1,true),(3,true),(5,true),(6,true),(2,false),(4,true),(7,false)] (by kernel_rfl) (by kernel_rfl) rfl (by kernel_rfl) (by kernel_rfl) (fun _ _ d _ _ h=>by cases d<;>exact h) (KG.out _ (bel_drew (Below.refl _ _))) ?_
   iterate 5
    refine Walk.take (v:=?_) rfl (by rfl) ?_ ?_;rotate_left
    ·(intro w' hSw;(try dsimp only at hSw);go_simp<;>with_reducible rfl)
    try simp only[Act.put,List.setIfInBounds_toArray,List.set_cons_zero,List.set_cons_succ]
   refine Walk.act rfl (by rfl) (fun K hK=>?_);go_simp;go_at_call 30;refine(X.out _ (bel_drew (Below.refl _ _))).mono ?_;rintro r w2 ⟨rfl,b2⟩;dsimp only[ckE];have X1:Below w1.heap.size w1 w2:=bel_trans (bel_drew (Below.refl _ _)) b2;refine hK.out _ _ (KG.out _ X1) ?_;clear hK K;try simp only[Act.put,List.setIfInBounds_toArray,List.set_cons_zero,List.set_cons_succ]
   iterate 1
    refine Walk.take (v:=?_) rfl (by rfl) ?_ ?_;rotate_left
    ·(intro w' hSw;(try dsimp only at hSw);go_simp<;>with_reducible rfl)
    try simp only[Act.put,List.setIfInBounds_toArray,List.set_cons_zero,List.set_cons_succ]
   refine Walk.act rfl (by rfl) (fun K hK=>?_);go_simp;go_at_call 20;refine(ccmust_any _ _ _ _).mono ?_;rintro r w3 ⟨rfl,e3⟩;dsimp only[muE];have X2:Below w1.heap.size w1 w3:=e3 ▸ X1;refine hK.out _ _ (KG.out _ X2) ?_;clear hK K;try simp only[Act.put,List.setIfInBounds_toArray,List.set_cons_zero,List.set_cons_succ]
   refine Walk.done ?_;have B3:=Hj (bel_trans B1.out X2);clear X1 X2 b2 e3 KG X;refine bodyPost_end (results_none rfl _ _ _) rfl ⟨?_,B3.out⟩;rw[E.out];rfl
  ·have hb:(u == t)=false:=by simp[hu]
   have E:Hid ((Ck.ok u).bind (fun u=>wantC (u == t) 122 ps)=.no 122 ps):=by show wantC (u == t) 122 ps=_;rw[hb];rfl
   clear hu;refine region_plan (S:=fun w'=>w'.cell? ⟨w.heap.size,0,none⟩=some (.int .u8 op)∧w'.cell? ⟨w.heap.size,1,none⟩=some (.int .i64 ps)∧w'.cell? ⟨w.heap.size,2,none⟩=some (.bool bo)∧w'.cell? ⟨w.heap.size,3,none⟩=some (.int .i32 it)∧w'.cell? ⟨w.heap.size,4,none⟩=some (.int .u64 fl)∧w'.cell? ⟨w.heap.size,5,none⟩=some (.string ⟨nm.toArray⟩)∧w'.cell? ⟨w.heap.size,6,none⟩=some (.slice sa sn sc)) _ [(0,true),(1,true),(3,true),(5,true),(6,true),(2,false),(4,true),(7,false)] (by kernel_rfl) (by kernel_rfl) rfl (by kernel_rfl) (by kernel_rfl) (fun _ _ d _ _ h=>by cases d<;>exact h) (KG.out _ (bel_drew (Below.refl _ _))) ?_
   iterate 5
    refine Walk.take (v:=?_) rfl (by rfl) ?_ ?_;rotate_left
    ·(intro w' hSw;(try dsimp only at hSw);go_simp<;>with_reducible rfl)
    try simp only[Act.put,List.setIfInBounds_toArray,List.set_cons_zero,List.set_cons_succ]
   refine Walk.act rfl (by rfl) (fun K hK=>?_);go_simp;go_at_call 30;refine(X.out _ (bel_drew (Below.refl _ _))).mono ?_;rintro r w2 ⟨rfl,b2⟩;dsimp only[ckE];have X1:Below w1.heap.size w1 w2:=bel_trans (bel_drew (Below.refl _ _)) b2;refine hK.out _ _ (KG.out _ X1) ?_;clear hK K;try simp only[Act.put,List.setIfInBounds_toArray,List.set_cons_zero,List.set_cons_succ]
   iterate 1
    refine Walk.take (v:=?_) rfl (by rfl) ?_ ?_;rotate_left
    ·(intro w' hSw;(try dsimp only at hSw);go_simp<;>with_reducible rfl)
    try simp only[Act.put,List.setIfInBounds_toArray,List.set_cons_zero,List.set_cons_succ]
   refine Walk.act rfl (by rfl) (fun K hK=>?_);go_simp;go_at_call 20;refine(ccmust_any _ _ _ _).mono ?_;rintro r w3 ⟨rfl,e3⟩;dsimp only[muE];refine⟨rfl,?_,bel_trans B1.out (e3 ▸ X1)⟩;rw[E.out];rfl
theorem addR12 {a:Addr}{sz b o:Nat}(h:a.add (0*sz)=⟨b,o,none⟩):a=⟨b,o,none⟩:=by
 rw[Nat.zero_mul]at h;obtain⟨b',o',x⟩:=a
 cases x with
 | none=>simpa [Addr.add] using h
 | some x=>simp[Addr.add]at h
def asgM (m:Option Mn)(p:Int)(n:Nat)(x:Ck Unit)(e:Int→Ck Unit):Ck Unit:=match m with
 | none=>.no 120 p
 | some m=>if m.us≠0 then .no 124 p else if(n:Int)=(if m.ar then 1 else 0) then(if m.ar then x else .ok ()).bind fun _=>e m.ty else .no 125 p
theorem asgM_is {S:Sc}(hS:S.good)(h:SH)(x:Nat→Ex)(e:Ex) :
  asgC S h x e=asgM (mnS S h.nm) h.ps h.xs.n (((x 0).ck S).bind fun t=>wantC (t == 2) 122 (x 0).h.ps) (fun ty=>(e.ck S).bind fun t=>wantC (t == ty) 122 e.h.ps):=by
 unfold asgC mnS
 by_cases c:h.nm∈S.loops
 ·rw[if_pos c,if_pos c];rfl
 ·rw[if_neg c,if_neg c]
  cases hf:S.find h.nm with
  | none=>rfl
  | some i=>
   have hl:=hS i (fd_lt hf).1;simp only[Option.map_some,asgM]
   cases hi:(S.d i).inp with
   | true=>simp[mnOf,hi]
   | false=>
    have e0:(mnOf (S.d i)).us=0:=by simp[mnOf,hi]
    have et:(mnOf (S.d i)).ty=(S.d i).ty:=rfl;rw[e0,et]
    by_cases g:0<(S.d i).len
    ·have g2:(mnOf (S.d i)).ar=true:=by simp[mnOf];omega
     rw[g2]
     by_cases k:h.xs.n=1
     ·simp[g,k]
     ·have k2:¬(h.xs.n:Int)=1:=by omega
      simp[g,k,k2]
    ·have g2:(mnOf (S.d i)).ar=false:=by simp[mnOf];omega
     rw[g2]
     by_cases k:h.xs.n=0
     ·simp[g,k]
     ·simp[g,k]
theorem ccassign_any (B R M n:Nat)(S:Sc)(hS:S.good)(s:St)(w:World)(hC:Ckr R M n S w)(hI:s.In B w)(hB:B≤w.heap.size)(hw:sm (fun i=>(s.x i).wt) s.h.xs.n≤1000000∧s.e.wt≤1000000) :
  Calls Tryz.prog 59 #[.pointer (some ⟨R,0,none⟩),stv s.h s.e.h] w fun r w'=>r=unE (asgC S s.h s.x s.e)∧Below w.heap.size w w':=by
 rw[asgM_is hS];obtain⟨hw,hw2⟩:=hw;have BX:=bx_bel (Below.refl w.heap.size w) (Nat.le_refl _) (sO s.h s.e.h);have HC1:Ckr R M n S (bx w (sO s.h s.e.h)):=Ckf.bel hC BX;have hnm:s.h.nm.length≤maxLen:=hI.ok.nm;have F:=Hj (ccfind_any R M n _ _ _ s.h.nm s.h.ps _ HC1 hnm)
 have EX:Hid (∀w',Ckr R M n S w'→Below w.heap.size w w'→Calls Tryz.prog 60 #[.pointer (some ⟨R,0,none⟩),s.e.h.v,.int .u8 ((mnS S s.h.nm).getD ⟨0,0,false⟩).ty] w' fun r w''=>r=unE ((s.e.ck S).bind fun t=>wantC (t == ((mnS S s.h.nm).getD ⟨0,0,false⟩).ty) 122 s.e.h.ps)∧Below w'.heap.size w' w''):=fun w' hc hb=>
  ccexpect_any B R M n S hS s.e _ w' hc (hI.ex.below hb hB) (Nat.le_trans hB hb.size) (by omega)
 have XI:Hid (∀w',Below w.heap.size w w'→XsIn B w' s.h.xs s.x):=fun w' hb=>hI.xs.below hb hB
 have IX1:Hid (∀w',0<s.h.xs.n→Ckr R M n S w'→Below w.heap.size w w'→Calls Tryz.prog 60 #[.pointer (some ⟨R,0,none⟩),(s.x 0).h.v,.int .u8 2] w' fun r w''=>r=unE (((s.x 0).ck S).bind fun t=>wantC (t == 2) 122 (s.x 0).h.ps)∧Below w'.heap.size w' w''):=fun w' h0 hc hb=>
  ccexpect_any B R M n S hS (s.x 0) 2 w' hc (hI.xs.below hb hB |>.2.2 0 h0) (Nat.le_trans hB hb.size) (by have:=sm_one (f:=fun i=>(s.x i).wt) h0;omega)
 have HC:=Hj HC1;have G:=Hj (bx_new w (sO s.h s.e.h));have B1:=Hj BX;clear BX HC1 hC hI hB hw hw2 hS hnm;generalize (((s.x 0).ck S).bind fun t=>wantC (t == 2) 122 (s.x 0).h.ps)=Y at *;generalize (s.e.ck S).bind=Z0 at *;obtain⟨Z,hZ⟩:∃Z:Int→Ck Unit,∀ty,(Z0 fun t=>wantC (t == ty) 122 s.e.h.ps)=Z ty:=⟨_,fun _=>rfl⟩;simp only[hZ]at EX ⊢;clear hZ Z0;generalize mnS S s.h.nm=m at *;generalize s.x=x at *;generalize s.e.h=e at *;generalize s.h=h at *;show Calls Tryz.prog 59 #[.pointer (some ⟨R,0,none⟩),.agg #[.int .u8 h.kd,.int .i64 h.ps,.string ⟨h.nm.toArray⟩,.slice h.xs.ao h.xs.n h.xs.c,.int .u8 e.op,.int .i64 e.ps,.bool e.bo,.int .i32 e.it,.int .u64 e.fl,.string ⟨e.nm.toArray⟩,.slice e.s.ao e.s.n e.s.c,.int .i32 h.lo,.int .i32 h.hi,.slice h.ts.ao h.ts.n h.ts.c,.slice h.es.ao h.es.n h.es.c]] w _;go_enter Tryz.func59,Tryz.ntmps59;go_upto_region 1 with fail;rw[bx_s w h e];have D:=s_cells G.out;have x1:=D.c1;have x2:=D.c2;clear D;generalize bx w (sO h e)=w1 at *;go_wp2_with fail;refine F.out.mono ?_;rintro r w2 ⟨rfl,b2⟩;have B2:=Hj (bel_trans B1.out b2);have BB2:=Hj b2;clear b2 F x1 x2
 cases m with
 | none=>
  dsimp only[fnE];go_wp2_with fail;exact⟨rfl,rfl,B2.out⟩
 | some m=>
  obtain⟨us,ty,ar⟩:=m;dsimp only[fnE,mnV];dsimp only[Option.getD_some]at EX;have BA:=bel_one w2 (.cells #[.int .i64 us,.int .u8 ty,.bool ar] 96);have N3:Hid (Blk (w2.alloc (.cells #[.int .i64 us,.int .u8 ty,.bool ar] 96)) w2.heap.size 96 #[.int .i64 us,.int .u8 ty,.bool ar]):=Blk.new _ _ _;have B3:=Hj (bel_trans B2.out BA);have BB3:=Hj (bel_trans BB2.out BA);have G3:=Hj (keptO BB3.out G.out);have HC3:Hid (Ckr R M n S (w2.alloc (.cells #[.int .i64 us,.int .u8 ty,.bool ar] 96))):=HC.out.bel BB3.out;clear BA B2 BB2 BB3 G HC B1;go_upto_region 2 with fail;change (Code.region 2 _ _).wp _ _ _ (w2.alloc (.cells #[.int .i64 us,.int .u8 ty,.bool ar] 96));generalize w2.alloc (.cells #[.int .i64 us,.int .u8 ty,.bool ar] 96)=w3 at *;generalize w2.heap.size=g2 at *;have n0:w3.cell? ⟨g2,0,none⟩=some (.int .i64 us):=N3.out.cell 0;have x1:=(s_cells G3.out).c1
  by_cases hu:us=0
  ·subst hu
   go_wp2_with fail;refine(ccmust_any _ _ _ _).mono ?_;rintro r w4 ⟨rfl,e4⟩;rw[e4];clear e4 w4;dsimp only[muE];clear n0 x1
   cases ar with
   | false=>
    have E:Hid (asgM (some ⟨0,ty,false⟩) h.ps h.xs.n Y Z=if h.xs.n=0 then Z ty else .no 125 h.ps):=by
     show asgM _ _ _ _ _=_;unfold asgM
     by_cases c:h.xs.n=0
     ·simp[c,Ck.bind]
     ·simp[c]
    have IX:Hid (∀w,Calls Tryz.prog 73 #[.agg #[.int .i64 0,.int .u8 ty,.bool false]] w fun e w'=>e=.returned (.int .i64 0)∧Below w.heap.size w w'):=fun w=>ccindexes_any ⟨0,ty,false⟩ w
    have KG:Hid (∀w',Below w3.heap.size w3 w'→(w'.cell? ⟨w.heap.size,3,none⟩=some (.slice h.xs.ao h.xs.n h.xs.c)∧w'.cell? ⟨w.heap.size,1,none⟩=some (.int .i64 h.ps)∧w'.cell? ⟨g2,0,none⟩=some (.int .i64 0)∧w'.cell? ⟨g2,1,none⟩=some (.int .u8 ty)∧w'.cell? ⟨g2,2,none⟩=some (.bool false))):=fun w' hw=>by
     have D:=s_cells (keptO hw G3.out);have N5:=N3.out.below hw N3.out.lt;exact⟨D.c3,D.c1,N5.cell 0,N5.cell 1,N5.cell 2⟩
    by_cases hn:h.xs.n=0
    ·have hb:((h.xs.n:Int) == 0)=true:=by simp[hn]
     have HN:=Hj hn;rw[if_pos hn]at E;clear hn;go_upto_region 3 with fail;refine region_plan (S:=fun w'=>w'.cell? ⟨w.heap.size,3,none⟩=some (.slice h.xs.ao h.xs.n h.xs.c)∧w'.cell? ⟨w.heap.size,1,none⟩=some (.int .i64 h.ps)∧w'.cell? ⟨g2,0,none⟩=some (.int .i64 0)∧w'.cell? ⟨g2,1,none⟩=some (.int .u8 ty)∧w'.cell? ⟨g2,2,none⟩=some (.bool false)) _ [(0,true),(1,true),(2,true),(3,true),(6,true),(7,true),(4,false),(5,true),(8,false)] (by kernel_rfl) (by kernel_rfl) rfl (by kernel_rfl) (by kernel_rfl) (fun _ _ d _ _ h=>by cases d<;>exact h) (KG.out _ (bel_drew (Below.refl _ _))) ?_
     iterate 6
      refine Walk.take (v:=?_) rfl (by rfl) ?_ ?_;rotate_left
      ·(intro w' hSw;(try dsimp only at hSw);go_simp<;>with_reducible rfl)
      try simp only[Act.put,List.setIfInBounds_toArray,List.set_cons_zero,List.set_cons_succ]
     refine Walk.act rfl (by rfl) (fun K hK=>?_);go_simp;go_at_call 73;refine(IX.out _).mono ?_;rintro r w5 ⟨rfl,b5⟩;have X1:Below w3.heap.size w3 w5:=bel_trans (bel_drew (Below.refl _ _)) b5;refine hK.out _ _ (KG.out _ X1) ?_;clear hK K;try simp only[Act.put,List.setIfInBounds_toArray,List.set_cons_zero,List.set_cons_succ]
     iterate 1
      refine Walk.take (v:=?_) rfl (by rfl) ?_ ?_;rotate_left
      ·(intro w' hSw;(try dsimp only at hSw);go_simp<;>with_reducible rfl)
      try simp only[Act.put,List.setIfInBounds_toArray,List.set_cons_zero,List.set_cons_succ]
     refine Walk.act rfl (by rfl) (fun K hK=>?_);go_simp;go_at_call 20;refine(ccmust_any _ _ _ _).mono ?_;rintro r w6 ⟨rfl,e6⟩;dsimp only[muE];have X2:Below w3.heap.size w3 w6:=e6 ▸ X1;refine hK.out _ _ (KG.out _ X2) ?_;clear hK K;try simp only[Act.put,List.setIfInBounds_toArray,List.set_cons_zero,List.set_cons_succ]
     refine Walk.done ?_;have B6:=Hj (bel_trans B3.out X2);have N6:=Hj (N3.out.below X2 N3.out.lt);have G6:=Hj (keptO X2 G3.out);have HC6:Hid (Ckr R M n S w6):=HC3.out.bel X2;clear KG X1 X2 b5 e6 IX G3 N3 HC3 B3 hb;have D:=s_cells G6.out;have q3:=D.c3;rw[HN.out]at q3;have d4:=D.c4;have d5:=D.c5;have d6:=D.c6;have d7:=D.c7;have d8:=D.c8;have d9:=D.c9;have d10:=D.c10;have n1:w6.cell? ⟨g2,1,none⟩=some (.int .u8 ty):=N6.out.cell 1;have C9:=Hj (EX.out w6 HC6.out B6.out);clear D;go_wp2_with fail;refine wp_loop_rounds 1 ?_;rw[rounds_succ];go_wp2_with fail;refine C9.out.mono ?_;rintro r w9 ⟨rfl,b9⟩;have B9:=Hj (bel_trans B6.out b9);clear C9 b9;generalize hzz:Z ty=zz at *
     cases zz with
     | ok u=>
      dsimp only[unE];go_wp2_with fail;refine bodyPost_end (results_none rfl _ _ _) rfl ⟨?_,B9.out⟩;rw[E.out];rfl
     | no c p=>
      dsimp only[unE];go_wp2_with fail;refine⟨rfl,?_,B9.out⟩;rw[E.out];rfl
    ·have hb:((h.xs.n:Int) == 0)=false:=by simp;omega
     rw[if_neg hn]at E;clear hn;go_upto_region 3 with fail;refine region_plan (S:=fun w'=>w'.cell? ⟨w.heap.size,3,none⟩=some (.slice h.xs.ao h.xs.n h.xs.c)∧w'.cell? ⟨w.heap.size,1,none⟩=some (.int .i64 h.ps)∧w'.cell? ⟨g2,0,none⟩=some (.int .i64 0)∧w'.cell? ⟨g2,1,none⟩=some (.int .u8 ty)∧w'.cell? ⟨g2,2,none⟩=some (.bool false)) _ [(0,true),(1,true),(2,true),(3,true),(6,true),(7,true),(4,false),(5,true),(8,false)] (by kernel_rfl) (by kernel_rfl) rfl (by kernel_rfl) (by kernel_rfl) (fun _ _ d _ _ h=>by cases d<;>exact h) (KG.out _ (bel_drew (Below.refl _ _))) ?_
     iterate 6
      refine Walk.take (v:=?_) rfl (by rfl) ?_ ?_;rotate_left
      ·(intro w' hSw;(try dsimp only at hSw);go_simp<;>with_reducible rfl)
      try simp only[Act.put,List.setIfInBounds_toArray,List.set_cons_zero,List.set_cons_succ]
     refine Walk.act rfl (by rfl) (fun K hK=>?_);go_simp;go_at_call 73;refine(IX.out _).mono ?_;rintro r w5 ⟨rfl,b5⟩;have X1:Below w3.heap.size w3 w5:=bel_trans (bel_drew (Below.refl _ _)) b5;refine hK.out _ _ (KG.out _ X1) ?_;clear hK K;try simp only[Act.put,List.setIfInBounds_toArray,List.set_cons_zero,List.set_cons_succ]
     iterate 1
      refine Walk.take (v:=?_) rfl (by rfl) ?_ ?_;rotate_left
      ·(intro w' hSw;(try dsimp only at hSw);go_simp<;>with_reducible rfl)
      try simp only[Act.put,List.setIfInBounds_toArray,List.set_cons_zero,List.set_cons_succ]
     refine Walk.act rfl (by rfl) (fun K hK=>?_);go_simp;go_at_call 20;refine(ccmust_any _ _ _ _).mono ?_;rintro r w6 ⟨rfl,e6⟩;dsimp only[muE];refine⟨rfl,?_,bel_trans B3.out (e6 ▸ X1)⟩;rw[E.out];rfl
   | true=>
    have E:Hid (asgM (some ⟨0,ty,true⟩) h.ps h.xs.n Y Z=if h.xs.n=1 then Y.bind fun _=>Z ty else .no 125 h.ps):=by
     show asgM _ _ _ _ _=_;unfold asgM
     by_cases c:h.xs.n=1
     ·simp[c]
     ·have c2:¬(h.xs.n:Int)=1:=by omega
      simp[c,c2]
    have IX:Hid (∀w,Calls Tryz.prog 73 #[.agg #[.int .i64 0,.int .u8 ty,.bool true]] w fun e w'=>e=.returned (.int .i64 1)∧Below w.heap.size w w'):=fun w=>ccindexes_any ⟨0,ty,true⟩ w
    have KG:Hid (∀w',Below w3.heap.size w3 w'→(w'.cell? ⟨w.heap.size,3,none⟩=some (.slice h.xs.ao h.xs.n h.xs.c)∧w'.cell? ⟨w.heap.size,1,none⟩=some (.int .i64 h.ps)∧w'.cell? ⟨g2,0,none⟩=some (.int .i64 0)∧w'.cell? ⟨g2,1,none⟩=some (.int .u8 ty)∧w'.cell? ⟨g2,2,none⟩=some (.bool true))):=fun w' hw=>by
     have D:=s_cells (keptO hw G3.out);have N5:=N3.out.below hw N3.out.lt;exact⟨D.c3,D.c1,N5.cell 0,N5.cell 1,N5.cell 2⟩
    by_cases hn:h.xs.n=1
    ·have hb:((h.xs.n:Int) == 1)=true:=by simp[hn]
     have HN:=Hj hn;rw[if_pos hn]at E;clear hn;go_upto_region 3 with fail;refine region_plan (S:=fun w'=>w'.cell? ⟨w.heap.size,3,none⟩=some (.slice h.xs.ao h.xs.n h.xs.c)∧w'.cell? ⟨w.heap.size,1,none⟩=some (.int .i64 h.ps)∧w'.cell? ⟨g2,0,none⟩=some (.int .i64 0)∧w'.cell? ⟨g2,1,none⟩=some (.int .u8 ty)∧w'.cell? ⟨g2,2,none⟩=some (.bool true)) _ [(0,true),(1,true),(2,true),(3,true),(6,true),(7,true),(4,false),(5,true),(8,false)] (by kernel_rfl) (by kernel_rfl) rfl (by kernel_rfl) (by kernel_rfl) (fun _ _ d _ _ h=>by cases d<;>exact h) (KG.out _ (bel_drew (Below.refl _ _))) ?_
     iterate 6
      refine Walk.take (v:=?_) rfl (by rfl) ?_ ?_;rotate_left
      ·(intro w' hSw;(try dsimp only at hSw);go_simp<;>with_reducible rfl)
      try simp only[Act.put,List.setIfInBounds_toArray,List.set_cons_zero,List.set_cons_succ]
     refine Walk.act rfl (by rfl) (fun K hK=>?_);go_simp;go_at_call 73;refine(IX.out _).mono ?_;rintro r w5 ⟨rfl,b5⟩;have X1:Below w3.heap.size w3 w5:=bel_trans (bel_drew (Below.refl _ _)) b5;refine hK.out _ _ (KG.out _ X1) ?_;clear hK K;try simp only[Act.put,List.setIfInBounds_toArray,List.set_cons_zero,List.set_cons_succ]
     iterate 1
      refine Walk.take (v:=?_) rfl (by rfl) ?_ ?_;rotate_left
      ·(intro w' hSw;(try dsimp only at hSw);go_simp<;>with_reducible rfl)
      try simp only[Act.put,List.setIfInBounds_toArray,List.set_cons_zero,List.set_cons_succ]
     refine Walk.act rfl (by rfl) (fun K hK=>?_);go_simp;go_at_call 20;refine(ccmust_any _ _ _ _).mono ?_;rintro r w6 ⟨rfl,e6⟩;dsimp only[muE];have X2:Below w3.heap.size w3 w6:=e6 ▸ X1;refine hK.out _ _ (KG.out _ X2) ?_;clear hK K;try simp only[Act.put,List.setIfInBounds_toArray,List.set_cons_zero,List.set_cons_succ]
     refine Walk.done ?_;have B6:=Hj (bel_trans B3.out X2);have N6:=Hj (N3.out.below X2 N3.out.lt);have G6:=Hj (keptO X2 G3.out);have HC6:Hid (Ckr R M n S w6):=HC3.out.bel X2;clear KG X1 X2 b5 e6 IX G3 N3 HC3 B3 hb;have D:=s_cells G6.out;have q3:=D.c3;rw[HN.out]at q3;obtain⟨a,b,o,ha,hA,hlt,X, -⟩:=(XI.out w6 B6.out).at (i:=0) (by rw[HN.out];exact Nat.lt_succ_self 0);rw[ha]at q3;obtain rfl:=addR12 hA;have x0:=X.c0;have x1:=X.c1;have x2:=X.c2;have x3:=X.c3;have x4:=X.c4;have x5:=X.c5;have x6:=X.c6;have BX:=bx_bel (Below.refl w6.heap.size w6) (Nat.le_refl _) (xO (x 0).h);have C7:=Hj (IX1.out (bx w6 (xO (x 0).h)) (by rw[HN.out];exact Nat.lt_succ_self 0) (HC6.out.bel BX) (bel_trans B6.out BX));have B7:=Hj (bel_trans B6.out BX);have N7:=Hj (N6.out.below BX N6.out.lt);have G7:=Hj (keptO BX G6.out);have HC7:Hid (Ckr R M n S (bx w6 (xO (x 0).h))):=HC6.out.bel BX;clear D X hA hlt BX B6 N6 G6 HC6;go_wp2_with fail;refine wp_loop_rounds 2 ?_;rw[rounds_succ];go_wp2_with fail;refine C7.out.mono ?_;rintro r w8 ⟨rfl,b8⟩;have B8:=Hj (bel_trans B7.out b8);have N8:=Hj (N7.out.below b8 N7.out.lt);have G8:=Hj (keptO b8 G7.out);have HC8:Hid (Ckr R M n S w8):=HC7.out.bel b8;clear C7 b8 N7 G7 HC7 B7 x0 x1 x2 x3 x4 x5 x6 q3 IX1 XI
     cases Y with
     | no c p=>
      dsimp only[unE];go_wp2_with fail;refine⟨rfl,?_,B8.out⟩;rw[E.out];rfl
     | ok u=>
      have D:=s_cells G8.out;have d4:=D.c4;have d5:=D.c5;have d6:=D.c6;have d7:=D.c7;have d8:=D.c8;have d9:=D.c9;have d10:=D.c10;have n1:w8.cell? ⟨g2,1,none⟩=some (.int .u8 ty):=N8.out.cell 1;have C9:=Hj (EX.out w8 HC8.out B8.out);clear D;dsimp only[unE];go_wp2_with fail;rw[rounds_succ];go_wp2_with fail;refine C9.out.mono ?_;rintro r w9 ⟨rfl,b9⟩;have B9:=Hj (bel_trans B8.out b9);clear C9 b9;generalize hzz:Z ty=zz at *
      cases zz with
      | ok u=>
       dsimp only[unE];go_wp2_with fail;refine bodyPost_end (results_none rfl _ _ _) rfl ⟨?_,B9.out⟩;rw[E.out];rfl
      | no c p=>
       dsimp only[unE];go_wp2_with fail;refine⟨rfl,?_,B9.out⟩;rw[E.out];rfl
    ·have hb:((h.xs.n:Int) == 1)=false:=by simp;omega
     rw[if_neg hn]at E;clear hn;go_upto_region 3 with fail;refine region_plan (S:=fun w'=>w'.cell? ⟨w.heap.size,3,none⟩=some (.slice h.xs.ao h.xs.n h.xs.c)∧w'.cell? ⟨w.heap.size,1,none⟩=some (.int .i64 h.ps)∧w'.cell? ⟨g2,0,none⟩=some (.int .i64 0)∧w'.cell? ⟨g2,1,none⟩=some (.int .u8 ty)∧w'.cell? ⟨g2,2,none⟩=some (.bool true)) _ [(0,true),(1,true),(2,true),(3,true),(6,true),(7,true),(4,false),(5,true),(8,false)] (by kernel_rfl) (by kernel_rfl) rfl (by kernel_rfl) (by kernel_rfl) (fun _ _ d _ _ h=>by cases d<;>exact h) (KG.out _ (bel_drew (Below.refl _ _))) ?_
     iterate 6
      refine Walk.take (v:=?_) rfl (by rfl) ?_ ?_;rotate_left
      ·(intro w' hSw;(try dsimp only at hSw);go_simp<;>with_reducible rfl)
      try simp only[Act.put,List.setIfInBounds_toArray,List.set_cons_zero,List.set_cons_succ]
     refine Walk.act rfl (by rfl) (fun K hK=>?_);go_simp;go_at_call 73;refine(IX.out _).mono ?_;rintro r w5 ⟨rfl,b5⟩;have X1:Below w3.heap.size w3 w5:=bel_trans (bel_drew (Below.refl _ _)) b5;refine hK.out _ _ (KG.out _ X1) ?_;clear hK K;try simp only[Act.put,List.setIfInBounds_toArray,List.set_cons_zero,List.set_cons_succ]
     iterate 1
      refine Walk.take (v:=?_) rfl (by rfl) ?_ ?_;rotate_left
      ·(intro w' hSw;(try dsimp only at hSw);go_simp<;>with_reducible rfl)
      try simp only[Act.put,List.setIfInBounds_toArray,List.set_cons_zero,List.set_cons_succ]
     refine Walk.act rfl (by rfl) (fun K hK=>?_);go_simp;go_at_call 20;refine(ccmust_any _ _ _ _).mono ?_;rintro r w6 ⟨rfl,e6⟩;dsimp only[muE];refine⟨rfl,?_,bel_trans B3.out (e6 ▸ X1)⟩;rw[E.out];rfl
  ·have hb:(us == 0)=false:=by simp[hu]
   have E:Hid (asgM (some ⟨us,ty,ar⟩) h.ps h.xs.n Y Z=.no 124 h.ps):=if_pos hu;clear hu;go_wp2_with fail;refine(ccmust_any _ _ _ _).mono ?_;rintro r w4 ⟨rfl,e4⟩;subst e4;dsimp only[muE];go_wp2_with fail;refine⟨rfl,?_,B3.out⟩;rw[E.out];rfl
def RM12 (R M:Nat):Nat→Prop:=fun k=>k=R∨k=M
theorem stv_eq12 (h:SH)(e:EH):stv h e=.agg (stvs h e).toArray:=rfl
theorem sO_eq12 (h:SH)(e:EH):sO h e=.cells (stvs h e).toArray 48 (0,0):=rfl
theorem sO_range12 {w:World}{k:Nat}{h:SH}{e:EH}(g:w.heap[k]? = some (sO h e)):w.rangeAt k 0 (stvs h e):=by
 intro j v hv;rw[Nat.zero_add,cell_obj g j,←Array.getElem?_toList];exact hv
theorem stvs_one12 (h:SH)(e:EH):((stvs h e).toArray.all (·.oneCell'))=true:=by simp[stvs,Value.oneCell']
def CkSt (w0:World)(R M:Nat)(s:St):Prop:=∀(S:Sc) (n:Nat) (w:World),S.good→n≤1000000+S.loops.length→Below w0.heap.size w0 w→Ckr R M n S w →
 Calls Tryz.prog 39 #[.pointer (some ⟨R,0,none⟩),stv s.h s.e.h] w fun r w'=>r=unE (s.ck isnV S)∧Fx (RM12 R M) w.heap.size w w'∧(s.ck isnV S=.ok ()→Ckr R M n S w')
theorem below_rm {w0 w w':World}{R M:Nat}(hb:Below w0.heap.size w0 w)(hf:Fx (RM12 R M) w.heap.size w w')(hR:w0.heap.size≤R)(hM:w0.heap.size≤M):Below w0.heap.size w0 w':=
 hb.trans ((hf.mono hb.size (fun _ _ x=>x)).bel (fun k hk (x:k=R∨k=M)=>by omega))
theorem ccblock_of (w0:World)(R M:Nat)(hR:w0.heap.size≤R)(hM:w0.heap.size≤M)(sl:Sl)(k:Nat→St)(ih:∀i,i<sl.n→CkSt w0 R M (k i))(hI:SsIn w0.heap.size w0 sl k)(hn:sl.n≤1000000)
  (S:Sc) (n:Nat) (w:World) (hS:S.good) (hnn:n≤1000000+S.loops.length) (hb:Below w0.heap.size w0 w) (hC:Ckr R M n S w) :
  Calls Tryz.prog 23 #[.pointer (some ⟨R,0,none⟩),.slice sl.ao sl.n sl.c] w fun r w'=>r=unE (seqC (fun i=>(k i).ck isnV S) sl.n)∧Fx (RM12 R M) w.heap.size w w'∧(seqC (fun i=>(k i).ck isnV S) sl.n=.ok ()→Ckr R M n S w'):=by
 have IH:=Hj ih;have HI:=Hj hI;have HM:=Hj hn;have HS:=Hj hS;have HN:=Hj hnn;have HB:=Hj hb;have HC:=Hj hC;have HRM:=Hj (And.intro hR hM);clear ih hI hn hS hnn hb hC hR hM;obtain⟨ao,m,c⟩:=sl;dsimp only at *;go_enter Tryz.func23,Tryz.ntmps23;go_wp2_with fail
 go_loopg [8] m (fun gk i wr=>∃j:Nat,i=.int .i64 (j:Int)∧Hid (gk=m-j∧j≤m)∧Hid (seqC (fun i=>(k i).ck isnV S) j=.ok ())∧Hid (Ckr R M n S wr)∧Hid (Fx (RM12 R M) w.heap.size w wr))
 case atStart=>exact⟨0,rfl,⟨rfl,Nat.zero_le _⟩,rfl,HC.out,Fx.refl _ _ _⟩
 case round=>
  obtain⟨j,rfl,HJ,HL,HCr,HF⟩:=hrel;have BW:=Hj (below_rm HB.out HF.out HRM.out.1 HRM.out.2)
  by_cases hlt:j<m
  ·have z0:(j:Int)<(m:Int):=by omega
   have ovi:IntKind.i64.wrap ((j:Int)+1)=((j+1:Nat):Int):=by have:=HM.out;rw[IntKind.wrap_i64];omega
   obtain⟨a,b,o,rfl,hA,hb1,h4⟩:=(HI.out.below BW.out (Nat.le_refl _)).2.1.at HI.out.1 hlt rfl;have RC:=Hj (show wr.rangeAt b o (stvs (k j).h (k j).e.h)from h4);have BX:=Hj (bx_bel (Below.refl wr.heap.size wr) (Nat.le_refl _) (sO (k j).h (k j).e.h));have RA:=Hj (sO_range12 (bx_new wr (sO (k j).h (k j).e.h)));have C1:=Hj (IH.out j hlt S n (bx wr (sO (k j).h (k j).e.h)) HS.out HN.out (BW.out.trans (BX.out.mono BW.out.size)) (HCr.out.bel BX.out));have HLT:=Hj hlt;rw[stv_eq12]at C1;have O1:=Hj (stvs_one12 (k j).h (k j).e.h);rw[sO_eq12]at C1 BX RA;obtain⟨V1,hV1⟩:∃V,stvs (k j).h (k j).e.h=V:=⟨_,rfl⟩;have L1:=Hj (show(Tryz.prog.info? 48).map (·.size)=some V1.length∧V1.length=15 by rw[←hV1];exact⟨by kernel_rfl,rfl⟩);rw[hV1]at C1 BX RA RC O1;clear hb1 hlt hV1 h4 HCr
   go_upto_region 3 with(first
    | refine wpList_load_mid rfl 48 _ rfl b o rfl V1 _ RC.out Tryz.underlying48 rfl L1.out.1 ?_
    | refine store_bx rfl 48 _ _ rfl wr _ V1.toArray rfl rfl (by rw[List.size_toArray];exact L1.out.1) (by have h:V1.toArray.size=15:=(by rw[List.size_toArray];exact L1.out.2);rw[h];rfl) O1.out ?_)
   clear RC O1;generalize bx wr (.cells V1.toArray 48 (0,0))=wb at *
   go_wp2_with (refine wpList_load_mid rfl 48 _ rfl wr.heap.size 0 rfl V1 _ RA.out Tryz.underlying48 rfl L1.out.1 ?_)
   refine C1.out.mono ?_;rintro r w4 ⟨rfl,hf4,hck⟩;have F4:=Hj (fx_trans HF.out (fx_trans (Fx.of BX.out) hf4));have HCK:=Hj hck;clear RA L1 C1 hf4 hck BX HF BW
   cases hc:(k j).ck isnV S with
   | no c p=>
    have E:Hid (seqC (fun i=>(k i).ck isnV S) m=.no c p):=seqC_stop hc HL.out m HLT.out;clear hc;dsimp only[unE];go_wp2_with fail;refine⟨rfl,?_,F4.out,fun h=>?_⟩
    ·rw[E.out];rfl
    ·rw[E.out]at h;cases h
   | ok u=>
    have NXT:Hid (seqC (fun i=>(k i).ck isnV S) (j+1)=.ok ()):=by show seqC _ (j+1)=_;simp only[seqC,HL.out,Ck.bind,hc]
    have CK:=Hj (HCK.out hc);clear hc HCK;dsimp only[unE];go_wp2_with fail
    go_roundg (m-(j+1))
    case measure=>have:=HJ.out;have:=HLT.out;omega
    case rel=>exact⟨j+1,by go_num,⟨rfl,HLT.out⟩,NXT.out,CK.out,F4.out⟩
  ·obtain rfl:j=m:=by have:=HJ.out;omega
   have z0:¬(j:Int)<(j:Int):=by omega
   clear hlt;go_wp2_with fail;refine bodyPost_end (results_none rfl _ _ _) rfl ⟨?_,HF.out,fun _=>HCr.out⟩;rw[HL.out];rfl
theorem Ckf.put {R M n:Nat}{f:List UInt8→Option Mn}{st:Bool}{lp:Int}{w:World}(h:Ckf R M n f st lp w)(hn:n<maxLen){x:List UInt8}(hx:x.length≤maxLen)(m:Mn) :
  ∃w',(Instr.mapUpdate 65 (.map (some M)) (.string ⟨x.toArray⟩) (mnV m)).run Tryz.prog w=.ok () w'∧Ckf R M (n+1) (fun y=>if y=x then some m else f y) st lp w'∧Fx (On M) w.heap.size w w':=by
 obtain⟨w4,h4,h5,h6⟩:=h.mp.put hn hx m;exact⟨w4,h4,⟨(fx_turned (B:=w.heap.size) h6).blk h.blk h.blk.lt (fun x=>h.ne x),h5,h.ne⟩,fx_turned h6⟩
theorem Ckf.del {R M n:Nat}{f:List UInt8→Option Mn}{st:Bool}{lp:Int}{w:World}(h:Ckf R M (n+1) f st lp w){x:List UInt8}(hx:x.length≤maxLen)(hf:(f x).isSome=true)(ty:TypeId) :
  ∃w',(Builtin.delete_ #[65,9] ty #[.map (some M),.string ⟨x.toArray⟩]).run Tryz.prog w=.ok (.tuple #[]) w'∧Ckf R M n (fun y=>if y=x then none else f y) st lp w'∧Fx (On M) w.heap.size w w':=by
 obtain⟨w4,h4,h5,h6⟩:=h.mp.del hx hf ty;exact⟨w4,h4,⟨(fx_turned (B:=w.heap.size) h6).blk h.blk h.blk.lt (fun x=>h.ne x),h5,h.ne⟩,fx_turned h6⟩
theorem Ckf.lp {R M n:Nat}{f:List UInt8→Option Mn}{st:Bool}{lp:Int}{w:World}(h:Ckf R M n f st lp w)(lq:Int) :
  Ckf R M n f st lq (w.setCell ⟨R,2,none⟩ (.int .i64 lq))∧Fx (On R) w.heap.size w (w.setCell ⟨R,2,none⟩ (.int .i64 lq)):=
 ⟨⟨h.blk.set_ 2 (.int .i64 lq),h.mp.blk (Below.heap_setCell _ _ _ _ (by show M≠R;exact fun e=>h.ne e.symm)),h.ne⟩,fx_set (X:=On R) (Fx.refl _ _ _) (p:=⟨R,2,none⟩) (.inl rfl) _⟩
theorem mnS_inner (S:Sc)(x:List UInt8):mnS (S.inner x)=fun y=>if y=x then some ⟨2,2,false⟩else mnS S y:=by
 funext y
 unfold mnS Sc.inner
 by_cases e:y=x
 ·subst e;simp
 ·simp only[List.mem_append,List.mem_singleton,e,or_false,if_false]
  rfl
theorem mnS_none (S:Sc)(x:List UInt8):(mnS S x).isSome=true↔(S.find x).isSome=true∨x∈S.loops:=by
 unfold mnS
 by_cases e:x∈S.loops
 ·simp[e]
 ·simp[e]
theorem mnS_back {S:Sc}{x:List UInt8}(h:¬(mnS S x).isSome=true):(fun y=>if y=x then none else mnS (S.inner x) y)=mnS S:=by
 rw[mnS_inner]
 funext y
 by_cases e:y=x
 ·subst e
  rw[if_pos rfl]
  cases hm:mnS S y with
  | none=>rfl
  | some m=>rw[hm]at h;exact absurd rfl h
 ·rw[if_neg e]
  dsimp only;rw[if_neg e]
theorem wpList_del12 {ops:Array Oper}{rest:List Oper}{o:Oper}{a:Act}{w:World}{Q:Exit→Act→World→Prop}(hg:o.guard=none)(m x:Operand)(ty:TypeId)(ht:o.type=ty)(hop:o.op=Op.call { callee:=Callee.builtin Builtin.delete,args:=#[m,x],argTypes:=#[65,9] })
  (M:Nat) (key:Value) (hm:a.eval m=.map (some M)) (hx:a.eval x=key) (w':World) (hrun:(Builtin.delete_ #[65,9] ty #[.map (some M),key]).run Tryz.prog w=.ok (.tuple #[]) w')
  (hK:wpList Tryz.prog ops Q rest (a.put o.dst (.tuple #[])) w'):wpList Tryz.prog ops Q (o::rest) a w:=by
 refine wpList_plain hg fun K' hK'=>?_;unfold Oper.wp
 simp[execOp,hop,resolve,invoke,builtin,hm,hx,ht,hrun,Result.andThen]
 exact hK' _ _ hK
theorem unE_no {r:Ck Unit}{c p:Int}(h:r=.no c p):Ending.panicked (fl12 c p)=unE r:=by rw[h];rfl
theorem unE_ok {r:Ck Unit}(h:r=.ok ()):Ending.returned (.tuple #[])=unE r:=by rw[h];rfl
theorem no_ok {r:Ck Unit}{c p:Int}{P:Prop}(h:r=.no c p)(k:r=.ok ()):P:=by rw[h]at k;cases k
theorem rmM {R M:Nat}{w w':World}(h:Fx (On M) w.heap.size w w'):Fx (RM12 R M) w.heap.size w w':=h.mono (Nat.le_refl _) fun _ _ x=>.inr x
theorem rmR {R M:Nat}{w w':World}(h:Fx (On R) w.heap.size w w'):Fx (RM12 R M) w.heap.size w w':=h.mono (Nat.le_refl _) fun _ _ x=>.inl x
theorem rm_obj {R M k:Nat}{w w':World}{o:Obj}(h:Fx (RM12 R M) w.heap.size w w')(hk:k<w.heap.size)(h1:k≠R)(h2:k≠M)(g:w.heap[k]? = some o):w'.heap[k]? = some o:=
 (h.block k hk (fun x=>x.elim h1 h2)).trans g
def loC (S:Sc)(s:St):Ck Unit:=
 if isnV s.h.nm=false then .no 120 s.h.ps
 else if(S.find s.h.nm).isSome=true∨s.h.nm∈S.loops then .no 121 s.h.ps
 else if 16≤s.h.hi-s.h.lo∨2≤S.loops.length then .no 123 s.h.ps
 else seqC (fun i=>(s.t i).ck isnV (S.inner s.h.nm)) s.h.ts.n
theorem ccloop_of (w0:World)(R M:Nat)(hE:Env9 w0)(hR:w0.heap.size≤R)(hM:w0.heap.size≤M)(s:St)(ih:∀i,i<s.h.ts.n→CkSt w0 R M (s.t i))(hI:s.In w0.heap.size w0)(hw:s.wt≤1000000)
  (S:Sc) (n:Nat) (w:World) (hS:S.good) (hnn:n≤1000000+S.loops.length) (hb:Below w0.heap.size w0 w) (hC:Ckr R M n S w) :
  Calls Tryz.prog 61 #[.pointer (some ⟨R,0,none⟩),stv s.h s.e.h] w fun r w'=>r=unE (loC S s)∧Fx (RM12 R M) w.heap.size w w'∧(loC S s=.ok ()→Ckr R M n S w'):=by
 rw[St.wt_eq]at hw;have hnm:s.h.nm.length≤1000000:=by omega
 have hts:s.h.ts.n≤1000000:=by
  have:∀m,m≤sm (fun i=>(s.t i).wt) m:=by
   intro m
   induction m with
   | zero=>exact Nat.le_refl _
   | succ m im=>
    have:1≤(s.t m).wt:=by rw[St.wt_eq];omega
    show m+1≤sm (fun i=>(s.t i).wt) m+(s.t m).wt;omega
  have:=this s.h.ts.n;omega
 have hok:=hI.ok
 have BL:Hid (∀(n':Nat) (w':World),n'≤1000000+(S.loops.length+1)→Below w0.heap.size w0 w'→Ckr R M n' (S.inner s.h.nm) w'→Calls Tryz.prog 23 #[.pointer (some ⟨R,0,none⟩),.slice s.h.ts.ao s.h.ts.n s.h.ts.c] w' fun r w''=>r=unE (seqC (fun i=>(s.t i).ck isnV (S.inner s.h.nm)) s.h.ts.n)∧Fx (RM12 R M) w'.heap.size w' w''∧(seqC (fun i=>(s.t i).ck isnV (S.inner s.h.nm)) s.h.ts.n=.ok ()→Ckr R M n' (S.inner s.h.nm) w'')):=fun n' w' h1 h2 h3=>
  ccblock_of w0 R M hR hM s.h.ts s.t ih hI.ts hts (S.inner s.h.nm) n' w' hS (by show n'≤1000000+(S.loops++[s.h.nm]).length;simp;omega) h2 h3
 have BX:=bx_bel (Below.refl w.heap.size w) (Nat.le_refl _) (sO s.h s.e.h)
 have EN:Hid (∀w',Below (bx w (sO s.h s.e.h)).heap.size (bx w (sO s.h s.e.h)) w'→Calls Tryz.prog 15 #[.string ⟨s.h.nm.toArray⟩] w' fun r w''=>r=.returned (.bool (isnV s.h.nm))∧Below w'.heap.size w' w''):=fun w' h=>
  xIsName_any ⟨s.h.nm.toArray⟩ w' (by rw[Lib.size_eq];exact Nat.le_trans hnm (by decide)) (((hE.below hb).below BX).below h)
 have HC1:Hid (Ckr R M n S (bx w (sO s.h s.e.h))):=Ckf.bel hC BX;have G:=Hj (bx_new w (sO s.h s.e.h));have B1:=Hj BX;have HB:=Hj hb;have HNN:=Hj hnn;have HRL:Hid (R<w.heap.size∧M<w.heap.size):=⟨hC.blk.lt,hC.mp.lt⟩;have HRM:=Hj (And.intro hR hM);have HNM:=Hj hnm;have hlo:=hok.lo0;have hlo1:=hok.lo1;have hhi:=hok.hi0;have hhi1:=hok.hi1;have HSZ:Hid ((bx w (sO s.h s.e.h)).heap.size=w.heap.size+1):=bx_size _ _;unfold loC;generalize seqC (fun i=>(s.t i).ck isnV (S.inner s.h.nm)) s.h.ts.n=Y at *;clear hok hI hE ih hw hts hnm hS hnn hb hC hR hM BX;generalize s.e.h=e at *;generalize s.h=h at *;obtain⟨LC,hLC⟩:∃LC,LC=(if isnV h.nm=false then Ck.no 120 h.ps else if(S.find h.nm).isSome=true∨h.nm∈S.loops then .no 121 h.ps else if 16≤h.hi - h.lo∨2≤S.loops.length then .no 123 h.ps else Y):=⟨_,rfl⟩;rw[←hLC];have HLC:=Hj hLC;clear hLC;show Calls Tryz.prog 61 #[.pointer (some ⟨R,0,none⟩),.agg #[.int .u8 h.kd,.int .i64 h.ps,.string ⟨h.nm.toArray⟩,.slice h.xs.ao h.xs.n h.xs.c,.int .u8 e.op,.int .i64 e.ps,.bool e.bo,.int .i32 e.it,.int .u64 e.fl,.string ⟨e.nm.toArray⟩,.slice e.s.ao e.s.n e.s.c,.int .i32 h.lo,.int .i32 h.hi,.slice h.ts.ao h.ts.n h.ts.c,.slice h.es.ao h.es.n h.es.c]] w _;go_enter Tryz.func61,Tryz.ntmps61
 go_upto_region 1 with fail;rw[bx_s w h e];generalize bx w (sO h e)=w1 at *
 have KG:Hid (∀w',Below w1.heap.size w1 w'→(w'.cell? ⟨w.heap.size,2,none⟩=some (.string ⟨h.nm.toArray⟩)∧w'.cell? ⟨w.heap.size,1,none⟩=some (.int .i64 h.ps))):=fun w' hw=>by
  have D:=s_cells (keptO hw G.out);exact⟨D.c2,D.c1⟩
 cases hin:isnV h.nm with
 | false=>
  have E:Hid (LC=.no 120 h.ps):=by show LC=_;rw[HLC.out,if_pos hin]
  rw[hin]at EN;clear hin HLC BL;refine region_plan (S:=fun w'=>w'.cell? ⟨w.heap.size,2,none⟩=some (.string ⟨h.nm.toArray⟩)∧w'.cell? ⟨w.heap.size,1,none⟩=some (.int .i64 h.ps)) _ [(0,true),(1,true),(3,true),(4,true),(2,false),(5,false)] (by kernel_rfl) (by kernel_rfl) rfl (by kernel_rfl) (by kernel_rfl) (fun _ _ d _ _ h=>by cases d<;>exact h) (KG.out _ (bel_drew (Below.refl _ _))) ?_
  iterate 4
   refine Walk.take (v:=?_) rfl (by rfl) ?_ ?_;rotate_left
   ·(intro w' hSw;(try dsimp only at hSw);go_simp<;>with_reducible rfl)
   try simp only[Act.put,List.setIfInBounds_toArray,List.set_cons_zero,List.set_cons_succ]
  refine Walk.act rfl (by rfl) (fun K hK=>?_);go_simp;go_at_call 15;refine(EN.out _ (bel_drew (Below.refl _ _))).mono ?_;rintro r v1 ⟨rfl,b1⟩;dsimp only;have X1:Below w1.heap.size w1 v1:=bel_trans (bel_drew (Below.refl _ _)) b1;refine hK.out _ _ (KG.out _ X1) ?_;clear hK K;try simp only[Act.put,List.setIfInBounds_toArray,List.set_cons_zero,List.set_cons_succ]
  refine Walk.act rfl (by rfl) (fun K hK=>?_);go_simp;go_at_call 20;refine(ccmust_any _ _ _ _).mono ?_;rintro r v2 ⟨rfl,e2⟩;dsimp only[muE];exact⟨rfl,unE_no E.out,Fx.of (bel_trans B1.out (e2 ▸ X1)),fun k=>no_ok E.out k⟩
 | true=>
  have HI1:=Hj hin;rw[hin]at EN;clear hin;refine region_plan (S:=fun w'=>w'.cell? ⟨w.heap.size,2,none⟩=some (.string ⟨h.nm.toArray⟩)∧w'.cell? ⟨w.heap.size,1,none⟩=some (.int .i64 h.ps)) _ [(0,true),(1,true),(3,true),(4,true),(2,false),(5,false)] (by kernel_rfl) (by kernel_rfl) rfl (by kernel_rfl) (by kernel_rfl) (fun _ _ d _ _ h=>by cases d<;>exact h) (KG.out _ (bel_drew (Below.refl _ _))) ?_
  iterate 4
   refine Walk.take (v:=?_) rfl (by rfl) ?_ ?_;rotate_left
   ·(intro w' hSw;(try dsimp only at hSw);go_simp<;>with_reducible rfl)
   try simp only[Act.put,List.setIfInBounds_toArray,List.set_cons_zero,List.set_cons_succ]
  refine Walk.act rfl (by rfl) (fun K hK=>?_);go_simp;go_at_call 15;refine(EN.out _ (bel_drew (Below.refl _ _))).mono ?_;rintro r v1 ⟨rfl,b1⟩;dsimp only;have X1:Below w1.heap.size w1 v1:=bel_trans (bel_drew (Below.refl _ _)) b1;refine hK.out _ _ (KG.out _ X1) ?_;clear hK K;try simp only[Act.put,List.setIfInBounds_toArray,List.set_cons_zero,List.set_cons_succ]
  refine Walk.act rfl (by rfl) (fun K hK=>?_);go_simp;go_at_call 20;refine(ccmust_any _ _ _ _).mono ?_;rintro r v2 ⟨rfl,e2⟩;dsimp only[muE];have X2:Below w1.heap.size w1 v2:=e2 ▸ X1;refine hK.out _ _ (KG.out _ X2) ?_;clear hK K;try simp only[Act.put,List.setIfInBounds_toArray,List.set_cons_zero,List.set_cons_succ]
  refine Walk.done ?_;have B2:=Hj (bel_trans B1.out X2);have G2:=Hj (keptO X2 G.out);have HC2:Hid (Ckr R M n S v2):=HC1.out.bel X2;clear KG X1 X2 b1 e2 EN B1 G HC1;go_upto_region 2 with fail;generalize v2=w2 at *;have KN:Hid (∀w',Below w2.heap.size w2 w'→Calls Tryz.prog 28 #[.pointer (some ⟨R,0,none⟩),.string ⟨h.nm.toArray⟩] w' fun r w''=>r=.returned (.bool (mnS S h.nm).isSome)∧Below w'.heap.size w' w''):=fun w' hb=>ccknows_any R M n _ _ _ h.nm w' (HC2.out.bel hb) (Nat.le_trans HNM.out (by decide))
  have KG:Hid (∀w',Below w2.heap.size w2 w'→(w'.cell? ⟨w.heap.size,2,none⟩=some (.string ⟨h.nm.toArray⟩)∧w'.cell? ⟨w.heap.size,1,none⟩=some (.int .i64 h.ps))):=fun w' hw=>by
   have D:=s_cells (keptO hw G2.out);exact⟨D.c2,D.c1⟩
  cases hk:(mnS S h.nm).isSome with
  | true=>
   have E:Hid (LC=.no 121 h.ps):=by show LC=_;rw[HLC.out,if_neg (by rw[HI1.out];simp),if_pos ((mnS_none S h.nm).1 hk)]
   rw[hk]at KN;clear hk HLC BL;refine region_plan (S:=fun w'=>w'.cell? ⟨w.heap.size,2,none⟩=some (.string ⟨h.nm.toArray⟩)∧w'.cell? ⟨w.heap.size,1,none⟩=some (.int .i64 h.ps)) _ [(0,true),(1,true),(2,true),(5,true),(6,true),(3,false),(4,true),(7,false)] (by kernel_rfl) (by kernel_rfl) rfl (by kernel_rfl) (by kernel_rfl) (fun _ _ d _ _ h=>by cases d<;>exact h) (KG.out _ (bel_drew (Below.refl _ _))) ?_
   iterate 5
    refine Walk.take (v:=?_) rfl (by rfl) ?_ ?_;rotate_left
    ·(intro w' hSw;(try dsimp only at hSw);go_simp<;>with_reducible rfl)
    try simp only[Act.put,List.setIfInBounds_toArray,List.set_cons_zero,List.set_cons_succ]
   refine Walk.act rfl (by rfl) (fun K hK=>?_);go_simp;go_at_call 28;refine(KN.out _ (bel_drew (Below.refl _ _))).mono ?_;rintro r v1 ⟨rfl,b1⟩;dsimp only;have X1:Below w2.heap.size w2 v1:=bel_trans (bel_drew (Below.refl _ _)) b1;refine hK.out _ _ (KG.out _ X1) ?_;clear hK K;try simp only[Act.put,List.setIfInBounds_toArray,List.set_cons_zero,List.set_cons_succ]
   iterate 1
    refine Walk.take (v:=?_) rfl (by rfl) ?_ ?_;rotate_left
    ·(intro w' hSw;(try dsimp only at hSw);go_simp<;>with_reducible rfl)
    try simp only[Act.put,List.setIfInBounds_toArray,List.set_cons_zero,List.set_cons_succ]
   refine Walk.act rfl (by rfl) (fun K hK=>?_);go_simp;go_at_call 20;refine(ccmust_any _ _ _ _).mono ?_;rintro r v2 ⟨rfl,e2⟩;dsimp only[muE];exact⟨rfl,unE_no E.out,Fx.of (bel_trans B2.out (e2 ▸ X1)),fun k=>no_ok E.out k⟩
  | false=>
   have HK1:Hid (¬(mnS S h.nm).isSome=true):=by show ¬_;rw[hk];simp
   rw[hk]at KN;clear hk;refine region_plan (S:=fun w'=>w'.cell? ⟨w.heap.size,2,none⟩=some (.string ⟨h.nm.toArray⟩)∧w'.cell? ⟨w.heap.size,1,none⟩=some (.int .i64 h.ps)) _ [(0,true),(1,true),(2,true),(5,true),(6,true),(3,false),(4,true),(7,false)] (by kernel_rfl) (by kernel_rfl) rfl (by kernel_rfl) (by kernel_rfl) (fun _ _ d _ _ h=>by cases d<;>exact h) (KG.out _ (bel_drew (Below.refl _ _))) ?_
   iterate 5
    refine Walk.take (v:=?_) rfl (by rfl) ?_ ?_;rotate_left
    ·(intro w' hSw;(try dsimp only at hSw);go_simp<;>with_reducible rfl)
    try simp only[Act.put,List.setIfInBounds_toArray,List.set_cons_zero,List.set_cons_succ]
   refine Walk.act rfl (by rfl) (fun K hK=>?_);go_simp;go_at_call 28;refine(KN.out _ (bel_drew (Below.refl _ _))).mono ?_;rintro r v1 ⟨rfl,b1⟩;dsimp only;have X1:Below w2.heap.size w2 v1:=bel_trans (bel_drew (Below.refl _ _)) b1;refine hK.out _ _ (KG.out _ X1) ?_;clear hK K;try simp only[Act.put,List.setIfInBounds_toArray,List.set_cons_zero,List.set_cons_succ]
   iterate 1
    refine Walk.take (v:=?_) rfl (by rfl) ?_ ?_;rotate_left
    ·(intro w' hSw;(try dsimp only at hSw);go_simp<;>with_reducible rfl)
    try simp only[Act.put,List.setIfInBounds_toArray,List.set_cons_zero,List.set_cons_succ]
   refine Walk.act rfl (by rfl) (fun K hK=>?_);go_simp;go_at_call 20;refine(ccmust_any _ _ _ _).mono ?_;rintro r v2 ⟨rfl,e2⟩;dsimp only[muE];have X2:Below w2.heap.size w2 v2:=e2 ▸ X1;refine hK.out _ _ (KG.out _ X2) ?_;clear hK K;try simp only[Act.put,List.setIfInBounds_toArray,List.set_cons_zero,List.set_cons_succ]
   refine Walk.done ?_;have B3:=Hj (bel_trans B2.out X2);have G3:=Hj (keptO X2 G2.out);have HC3:Hid (Ckr R M n S v2):=HC2.out.bel X2;clear KG X1 X2 b1 e2 KN B2 G2 HC2;go_upto_region 3 with fail;generalize v2=w3 at *;have HGK:Hid (w.heap.size<w3.heap.size∧w.heap.size≠R∧w.heap.size≠M):=by have:=HRL.out;exact⟨(Array.getElem?_eq_some_iff.1 G3.out).1,by omega,by omega⟩
   have D:=s_cells G3.out;have c1:=D.c1;have c11:=D.c11;have c12:=D.c12;have o1:IntKind.i64.wrap h.hi=h.hi:=by rw[IntKind.wrap_i64];omega
   have o2:IntKind.i64.wrap h.lo=h.lo:=by rw[IntKind.wrap_i64];omega
   have o3:IntKind.i64.wrap (h.hi-h.lo)=h.hi-h.lo:=by rw[IntKind.wrap_i64];omega
   clear D hlo hlo1 hhi hhi1
   by_cases hd:h.hi-h.lo<16
   ·go_wp2_with fail
    refine(ccmust_any _ _ _ _).mono ?_;rintro r w4 ⟨rfl,e4⟩;rw[e4];clear e4 w4;dsimp only[muE];have HD:=Hj hd;clear c11 c12 o1 o2 o3 hd;go_upto_region 4 with fail;have r2:w3.cell? ⟨R,2,none⟩=some (.int .i64 (S.loops.length:Int)):=HC3.out.blk.cell 2
    by_cases hl:S.loops.length<2
    ·have z0:(S.loops.length:Int)<2:=by omega
     have E:Hid (LC=Y):=by
      show LC=Y;rw[HLC.out,if_neg (by rw[HI1.out];simp),if_neg (fun h=>HK1.out ((mnS_none S _).2 h)),if_neg (by have:=HD.out;omega)]
     have HL:=Hj hl;clear hl HLC
     go_still_tail 7,(by kernel_rfl)
     change wpList _ _ _ _ _ w3.drew;have B4:=Hj (bel_drew B3.out);have G4:Hid (w3.drew.heap[w.heap.size]? = some (sO h e)):=G3.out;have HC4:Hid (Ckr R M n S w3.drew):=HC3.out.bel (bel_drew (Below.refl _ w3));have HGK4:Hid (w.heap.size<w3.drew.heap.size∧w.heap.size≠R∧w.heap.size≠M):=HGK.out;clear r2 c1 B3 G3 HC3 HGK z0;generalize w3.drew=w4 at *;go_wp2_with fail;refine(ccmust_any _ _ _ _).mono ?_;rintro r w5 ⟨rfl,e5⟩;rw[e5];clear e5 w5;dsimp only[muE];have r0:w4.cell? ⟨R,0,none⟩=some (.map (some M)):=HC4.out.blk.cell 0;have c2:=(s_cells G4.out).c2;go_upto_region 5 with fail
     go_still_tail 7,(by kernel_rfl)
     change wpList _ _ _ _ _ w4.drew;obtain⟨w6,hr,hck,hfx⟩:=Ckf.put (HC4.out.bel (bel_drew (Below.refl _ w4))) (by have:=HNN.out;have:=HL.out;unfold maxLen;omega) (Nat.le_trans HNM.out (by decide)) ⟨2,2,false⟩;rw[←mnS_inner]at hck;have hr':(Instr.mapUpdate 65 (.map (some M)) (.string ⟨h.nm.toArray⟩) (.agg #[.int .i64 2,.int .u8 2,.bool false])).run Tryz.prog w4.drew=.ok () w6:=hr;have F6:Hid (Fx (RM12 R M) w.heap.size w w6):=fx_trans (Fx.of (bel_drew B4.out)) (rmM hfx);have G6:Hid (w6.heap[w.heap.size]? = some (sO h e)):=rm_obj (R:=R) (M:=M) (rmM hfx) HGK4.out.1 HGK4.out.2.1 HGK4.out.2.2 G4.out;have HC6:=Hj hck;have HG6:Hid (w.heap.size<w6.heap.size):=Nat.lt_of_lt_of_le HGK4.out.1 hfx.size;have d2:w6.cell? ⟨R,2,none⟩=some (.int .i64 (S.loops.length:Int)):=hck.blk.cell 2;have f2:=hck.blk.frozen 2;have o4:IntKind.i64.wrap ((S.loops.length:Int)+1)=(S.loops.length:Int)+1:=by have:=HL.out;rw[IntKind.wrap_i64];omega
     clear hr hck hfx r0 c2 B4 G4 HC4;generalize w4.drew=w5 at *;go_upto_region 7 with fail;obtain⟨hc7,hf7⟩:=HC6.out.lp ((S.loops.length:Int)+1);have F7:=Hj (fx_trans F6.out (rmR (M:=M) hf7));have G7:Hid ((w6.setCell ⟨R,2,none⟩ (.int .i64 ((S.loops.length:Int)+1))).heap[w.heap.size]? = some (sO h e)):=rm_obj (R:=R) (M:=M) (rmR hf7) HG6.out HGK4.out.2.1 HGK4.out.2.2 G6.out
     have HC7:Hid (Ckr R M (n+1) (S.inner h.nm) (w6.setCell ⟨R,2,none⟩ (.int .i64 ((S.loops.length:Int)+1)))):=by
      show Ckf _ _ _ _ _ _ _;have e1:((S.inner h.nm).loops.length:Int)=(S.loops.length:Int)+1:=by show(((S.loops++[h.nm]).length:Nat):Int)=_;simp
      rw[e1];exact hc7
     have HG7:Hid (w.heap.size<(w6.setCell ⟨R,2,none⟩ (.int .i64 ((S.loops.length:Int)+1))).heap.size):=Nat.lt_of_lt_of_le HG6.out hf7.size;clear hc7 hf7 d2 f2 o4 hr' F6 G6 HC6 HG6;generalize w6.setCell ⟨R,2,none⟩ (.int .i64 ((S.loops.length:Int)+1))=w7 at *;have C8:=Hj (BL.out (n+1) w7 (by have:=HNN.out;omega) (below_rm HB.out F7.out HRM.out.1 HRM.out.2) HC7.out);have c13:=(s_cells G7.out).c13;clear BL;go_wp2_with fail;refine C8.out.mono ?_;rintro r w8 ⟨rfl,hf8,hck8⟩;have F8:=Hj (fx_trans F7.out hf8);have G8:Hid (w8.heap[w.heap.size]? = some (sO h e)):=rm_obj hf8 HG7.out HGK4.out.2.1 HGK4.out.2.2 G7.out;have HG8:Hid (w.heap.size<w8.heap.size):=Nat.lt_of_lt_of_le HG7.out hf8.size;have CK8:=Hj hck8;clear C8 c13 hf8 hck8 F7 G7 HG7 HC7
     cases Y with
     | no c p=>
      dsimp only[unE];go_wp2_with fail;exact⟨rfl,unE_no E.out,F8.out,fun k=>no_ok E.out k⟩
     | ok u=>
      have HC8:Hid (Ckf R M (n+1) (mnS (S.inner h.nm)) S.init ((S.loops.length:Int)+1) w8):=by
       have:=CK8.out rfl;have e1:((S.inner h.nm).loops.length:Int)=(S.loops.length:Int)+1:=by show(((S.loops++[h.nm]).length:Nat):Int)=_;simp
       unfold Ckr at this;rw[e1]at this;exact this
      clear CK8;dsimp only[unE];have d2:w8.cell? ⟨R,2,none⟩=some (.int .i64 ((S.loops.length:Int)+1)):=HC8.out.blk.cell 2;have f2:=HC8.out.blk.frozen 2;have o5:wrap64 (S.loops.length:Int)=(S.loops.length:Int):=by have:=HL.out;unfold wrap64;omega
      go_upto_region 9 with fail;obtain⟨hc9,hf9⟩:=HC8.out.lp (S.loops.length:Int);have F9:=Hj (fx_trans F8.out (rmR (M:=M) hf9));have G9:Hid ((w8.setCell ⟨R,2,none⟩ (.int .i64 (S.loops.length:Int))).heap[w.heap.size]? = some (sO h e)):=rm_obj (R:=R) (M:=M) (rmR hf9) HG8.out HGK4.out.2.1 HGK4.out.2.2 G8.out;have HC9:=Hj hc9;clear hc9 hf9 d2 f2 o5 F8 G8 HG8 HC8;generalize w8.setCell ⟨R,2,none⟩ (.int .i64 (S.loops.length:Int))=w9 at *;have r0:w9.cell? ⟨R,0,none⟩=some (.map (some M)):=HC9.out.blk.cell 0;have c2:=(s_cells G9.out).c2
      go_still_tail 6,(by kernel_rfl)
      change wpList _ _ _ _ _ w9.drew;obtain⟨w11,hr,hck,hfx⟩:=Ckf.del (HC9.out.bel (bel_drew (Below.refl _ w9))) (Nat.le_trans HNM.out (by decide)) (by rw[mnS_inner];simp) 0;have HKm:=mnS_back HK1.out;rw[HKm]at hck;refine wpList_del12 rfl _ _ 0 rfl rfl M _ rfl rfl w11 hr ?_;have F11:Hid (Fx (RM12 R M) w.heap.size w w11):=fx_trans (fx_trans F9.out (Fx.of (bel_drew (Below.refl _ w9)))) (rmM hfx);clear hr hfx r0 c2 HKm;go_wp2_with fail;refine bodyPost_end (results_none rfl _ _ _) rfl ⟨unE_ok E.out,F11.out,fun _=>hck⟩
    ·have z0:¬(S.loops.length:Int)<2:=by omega
     have E:Hid (LC=.no 123 h.ps):=by
      show LC=_;rw[HLC.out,if_neg (by rw[HI1.out];simp),if_neg (fun h=>HK1.out ((mnS_none S _).2 h)),if_pos (by omega)]
     clear hl HLC BL
     go_still_tail 7,(by kernel_rfl)
     change wpList _ _ _ _ _ w3.drew;have B4:=Hj (bel_drew B3.out);generalize w3.drew=w4 at *;go_wp2_with fail;refine(ccmust_any _ _ _ _).mono ?_;rintro r w5 ⟨rfl,e5⟩;rw[e5];clear e5 w5;dsimp only[muE];go_wp2_with fail;exact⟨rfl,unE_no E.out,Fx.of B4.out,fun k=>no_ok E.out k⟩
   ·have E:Hid (LC=.no 123 h.ps):=by
     show LC=_;rw[HLC.out,if_neg (by rw[HI1.out];simp),if_neg (fun h=>HK1.out ((mnS_none S _).2 h)),if_pos (by omega)]
    clear HLC BL;go_wp2_with fail;refine(ccmust_any _ _ _ _).mono ?_;rintro r w4 ⟨rfl,e4⟩;rw[e4];clear e4 w4;dsimp only[muE];go_wp2_with fail;exact⟨rfl,unE_no E.out,Fx.of B3.out,fun k=>no_ok E.out k⟩
end Go.Proofs.YtkbicfffokegeaaGreatDoor
