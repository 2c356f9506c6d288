/-
  ParseParses: a source's tree, or what is wrong with it, is the reference's. (part 28 of 38) Conditions: none beside what the card ties.
-/
import Derived.Test.YthmlhkllbichgaaGreatDoorVba
namespace Go.Proofs.YthmlhkllbichgaaGreatDoor
set_option maxHeartbeats 16000000
open Go.RowKit
set_option maxRecDepth 100000
def St.pe:St→St→Prop
 | .no,r=>(0:Int)=r.h.ps∧0=r.h.xs.n∧Ex.no.pe r.e∧0=r.h.ts.n∧0=r.h.es.n
 | .mk h x e t l,r=>h.ps=r.h.ps∧h.xs.n=r.h.xs.n∧e.pe r.e∧(h.ts.n=r.h.ts.n∧∀i,i<h.ts.n→(t i).pe (r.t i))∧(h.es.n=r.h.es.n∧∀i,i<h.es.n→(l i).pe (r.l i))∧∀i,i<h.xs.n→(x i).pe (r.x i)
structure Spe (s r:St):Prop where
 ps:s.h.ps=r.h.ps
 xn:s.h.xs.n=r.h.xs.n
 ex:s.e.pe r.e
 tn:s.h.ts.n=r.h.ts.n
 ts:∀i,i<s.h.ts.n→(s.t i).pe (r.t i)
 en:s.h.es.n=r.h.es.n
 es:∀i,i<s.h.es.n→(s.l i).pe (r.l i)
 xs:∀i,i<s.h.xs.n→(s.x i).pe (r.x i)
theorem St.pe_hd {s r:St}(h:s.pe r):Spe s r:=by
 cases s with
 | no=>exact⟨h.1,h.2.1,h.2.2.1,h.2.2.2.1,fun i hi=>absurd hi (Nat.not_lt_zero i),h.2.2.2.2,fun i hi=>absurd hi (Nat.not_lt_zero i),fun i hi=>absurd hi (Nat.not_lt_zero i)⟩
 | mk=>exact⟨h.1,h.2.1,h.2.2.1,h.2.2.2.1.1,h.2.2.2.1.2,h.2.2.2.2.1.1,h.2.2.2.2.1.2,h.2.2.2.2.2⟩
theorem St.pe_of {s r:St}(h:Spe s r):s.pe r:=by
 cases s with
 | no=>exact⟨h.ps,h.xn,h.ex,h.tn,h.en⟩
 | mk=>exact⟨h.ps,h.xn,h.ex,⟨h.tn,h.ts⟩,⟨h.en,h.es⟩,h.xs⟩
theorem spe_eqv {s:St}:∀ {r a:St},s.eqv a→r.eqv a→s.pe r:=by
 induction s using St.ind with
 | H s it il=>
  intro r a h g;obtain⟨h1,h2,h3,⟨h4,h5⟩,h6,h7⟩:=St.eqv_hd h;obtain⟨g1,g2,g3,⟨g4,g5⟩,g6,g7⟩:=St.eqv_hd g;simp only[hsS,Bool.and_eq_true,decide_eq_true_eq,beq_iff_eq]at h1 g1;have tn:s.h.ts.n=r.h.ts.n:=h1.1.2.trans g1.1.2.symm;have en:s.h.es.n=r.h.es.n:=h1.2.trans g1.2.symm;exact St.pe_of ⟨h2.symm.trans g2,h4.trans g4.symm,pe_eqv h3 g3,tn,fun i hi=>it i hi (h6 i hi) (g6 i (by omega)),en,fun i hi=>il i hi (h7 i hi) (g7 i (by omega)),fun i hi=>pe_eqv (h5 i hi) (g5 i (by omega))⟩
def AtS (B:Nat)(s:Sl)(k:Nat→St)(s':Sl)(k':Nat→St):Prop:=
 ∀(w:World),SsIn B w s k→SsIn B w s' k'→B≤w.heap.size→Calls Tryz.prog 38 #[.slice s.ao s.n s.c,.slice s'.ao s'.n s'.c] w fun r w'=>r=.returned (.bool true)∧Below w.heap.size w w'
theorem sameStmts_of (B:Nat)(s:Sl)(k:Nat→St)(s':Sl)(k':Nat→St)(hn:s.n=s'.n)(hp:∀i,i<s.n→(k i).pe (k' i))
  (ih:∀i,i<s.n→AtS B (k i).h.ts (k i).t (k' i).h.ts (k' i).t∧AtS B (k i).h.es (k i).l (k' i).h.es (k' i).l):AtS B s k s' k':=by
 intro w hX hX' hB;have HI:=Hj hX;have HI':=Hj hX';have IH:=Hj ih;have HP:=Hj hp;have HB:=Hj hB;have hc:=hX.1;have hmx:s.n≤maxLen:=Nat.le_trans hc.1 hc.2.1;unfold maxLen at hmx;have HM:=Hj hmx;obtain⟨ao,n,c⟩:=s;obtain⟨ao',n',c'⟩:=s';dsimp only at *;subst hn;clear hX hX' hB hc hmx ih hp;go_enter Tryz.func38,Tryz.ntmps38;go_wp2_with fail
 go_loopg [5] n (fun gk i wr=>∃j:Nat,i=.int .i64 (j:Int)∧Hid (gk=n-j∧j≤n)∧Hid (Below w.heap.size w wr))
 case atStart=>exact⟨0,rfl,⟨rfl,Nat.zero_le _⟩,Below.refl _ _⟩
 case round=>
  obtain⟨j,rfl,HJ,BEL⟩:=hrel
  by_cases hlt:j<n
  ·have z0:(j:Int)<(n:Int):=by omega
   have ovi:IntKind.i64.wrap ((j:Int)+1)=((j+1:Nat):Int):=by have:=HM.out;rw[IntKind.wrap_i64];omega
   have HLT:=Hj hlt;obtain⟨a,b,o,rfl,hA,hb,X,I⟩:=SsIn.at (HI.out.below BEL.out HB.out) (i:=j) hlt;obtain⟨a',b',o',rfl,hA',hb',X',I'⟩:=SsIn.at (HI'.out.below BEL.out HB.out) (i:=j) hlt;have hbw:b<wr.heap.size:=Nat.lt_of_lt_of_le hb (Nat.le_trans HB.out BEL.out.size);have hbw':b'<wr.heap.size:=Nat.lt_of_lt_of_le hb' (Nat.le_trans HB.out BEL.out.size);have SP:=Hj (St.pe_hd (HP.out j hlt));have II:=Hj I;have II':=Hj I';have SIH:=Hj (IH.out j hlt);have BB:Hid (B≤wr.heap.size):=Nat.le_trans HB.out BEL.out.size
   have HK:Hid (∀w',Below wr.heap.size wr w'→(w'.cell? ⟨b,o+1,none⟩=some (.int .i64 (k j).h.ps)∧w'.cell? ⟨b,o+3,none⟩=some (.slice (k j).h.xs.ao (k j).h.xs.n (k j).h.xs.c)∧w'.cell? ⟨b,o+4,none⟩=some (.int .u8 (k j).e.h.op)∧w'.cell? ⟨b,o+5,none⟩=some (.int .i64 (k j).e.h.ps)∧w'.cell? ⟨b,o+6,none⟩=some (.bool (k j).e.h.bo)∧w'.cell? ⟨b,o+7,none⟩=some (.int .i32 (k j).e.h.it)∧w'.cell? ⟨b,o+8,none⟩=some (.int .u64 (k j).e.h.fl)∧w'.cell? ⟨b,o+9,none⟩=some (.string ⟨(k j).e.h.nm.toArray⟩)∧w'.cell? ⟨b,o+10,none⟩=some (.slice (k j).e.h.s.ao (k j).e.h.s.n (k j).e.h.s.c)∧w'.cell? ⟨b,o+13,none⟩=some (.slice (k j).h.ts.ao (k j).h.ts.n (k j).h.ts.c)∧w'.cell? ⟨b,o+14,none⟩=some (.slice (k j).h.es.ao (k j).h.es.n (k j).h.es.c)∧w'.cell? ⟨b',o'+1,none⟩=some (.int .i64 (k j).h.ps)∧w'.cell? ⟨b',o'+3,none⟩=some (.slice (k' j).h.xs.ao (k j).h.xs.n (k' j).h.xs.c)∧w'.cell? ⟨b',o'+4,none⟩=some (.int .u8 (k' j).e.h.op)∧w'.cell? ⟨b',o'+5,none⟩=some (.int .i64 (k' j).e.h.ps)∧w'.cell? ⟨b',o'+6,none⟩=some (.bool (k' j).e.h.bo)∧w'.cell? ⟨b',o'+7,none⟩=some (.int .i32 (k' j).e.h.it)∧w'.cell? ⟨b',o'+8,none⟩=some (.int .u64 (k' j).e.h.fl)∧w'.cell? ⟨b',o'+9,none⟩=some (.string ⟨(k' j).e.h.nm.toArray⟩)∧w'.cell? ⟨b',o'+10,none⟩=some (.slice (k' j).e.h.s.ao (k' j).e.h.s.n (k' j).e.h.s.c)∧w'.cell? ⟨b',o'+13,none⟩=some (.slice (k' j).h.ts.ao (k' j).h.ts.n (k' j).h.ts.c)∧w'.cell? ⟨b',o'+14,none⟩=some (.slice (k' j).h.es.ao (k' j).h.es.n (k' j).h.es.c))):=fun w' hb2=>by
    have Y:=X.below hbw hb2 (Nat.le_refl _);have Y':=X'.below hbw' hb2 (Nat.le_refl _);have h1:=SP.out.ps;have h3:=SP.out.xn;rw[h1,h3];have y1:=Y.c1;have y3:=Y.c3;rw[h1]at y1;rw[h3]at y3;exact⟨y1,y3,Y.c4,Y.c5,Y.c6,Y.c7,Y.c8,Y.c9,Y.c10,Y.c13,Y.c14,Y'.c1,Y'.c3,Y'.c4,Y'.c5,Y'.c6,Y'.c7,Y'.c8,Y'.c9,Y'.c10,Y'.c13,Y'.c14⟩
   clear X X' hb hb' hbw hbw' I I' hlt
   as_aux_lemma=>
    go_upto_region 6 with fail
    refine region_plan (S:=fun w'=>w'.cell? ⟨b,o+1,none⟩=some (.int .i64 (k j).h.ps)∧w'.cell? ⟨b,o+3,none⟩=some (.slice (k j).h.xs.ao (k j).h.xs.n (k j).h.xs.c)∧w'.cell? ⟨b,o+4,none⟩=some (.int .u8 (k j).e.h.op)∧w'.cell? ⟨b,o+5,none⟩=some (.int .i64 (k j).e.h.ps)∧w'.cell? ⟨b,o+6,none⟩=some (.bool (k j).e.h.bo)∧w'.cell? ⟨b,o+7,none⟩=some (.int .i32 (k j).e.h.it)∧w'.cell? ⟨b,o+8,none⟩=some (.int .u64 (k j).e.h.fl)∧w'.cell? ⟨b,o+9,none⟩=some (.string ⟨(k j).e.h.nm.toArray⟩)∧w'.cell? ⟨b,o+10,none⟩=some (.slice (k j).e.h.s.ao (k j).e.h.s.n (k j).e.h.s.c)∧w'.cell? ⟨b,o+13,none⟩=some (.slice (k j).h.ts.ao (k j).h.ts.n (k j).h.ts.c)∧w'.cell? ⟨b,o+14,none⟩=some (.slice (k j).h.es.ao (k j).h.es.n (k j).h.es.c)∧w'.cell? ⟨b',o'+1,none⟩=some (.int .i64 (k j).h.ps)∧w'.cell? ⟨b',o'+3,none⟩=some (.slice (k' j).h.xs.ao (k j).h.xs.n (k' j).h.xs.c)∧w'.cell? ⟨b',o'+4,none⟩=some (.int .u8 (k' j).e.h.op)∧w'.cell? ⟨b',o'+5,none⟩=some (.int .i64 (k' j).e.h.ps)∧w'.cell? ⟨b',o'+6,none⟩=some (.bool (k' j).e.h.bo)∧w'.cell? ⟨b',o'+7,none⟩=some (.int .i32 (k' j).e.h.it)∧w'.cell? ⟨b',o'+8,none⟩=some (.int .u64 (k' j).e.h.fl)∧w'.cell? ⟨b',o'+9,none⟩=some (.string ⟨(k' j).e.h.nm.toArray⟩)∧w'.cell? ⟨b',o'+10,none⟩=some (.slice (k' j).e.h.s.ao (k' j).e.h.s.n (k' j).e.h.s.c)∧w'.cell? ⟨b',o'+13,none⟩=some (.slice (k' j).h.ts.ao (k' j).h.ts.n (k' j).h.ts.c)∧w'.cell? ⟨b',o'+14,none⟩=some (.slice (k' j).h.es.ao (k' j).h.es.n (k' j).h.es.c)) _ [(0,true),(1,true),(2,true),(3,true),(4,true),(5,true),(6,true),(7,true),(8,true),(9,true),(10,true),(11,true),(12,true),(13,true),(14,true),(15,true),(16,true),(17,true),(18,true),(19,true),(20,true),(21,true),(22,true),(23,true),(24,true),(25,true),(26,true),(27,true),(28,true),(29,true),(30,true),(31,true),(32,true),(33,true),(34,true),(35,true),(36,true),(37,false),(38,true),(39,true),(40,true),(41,true),(42,true),(43,true),(44,true),(45,true),(46,true),(47,true),(48,true),(49,true),(50,true),(51,false),(52,true),(53,true),(54,true),(55,true),(56,true),(57,true),(58,true),(59,true),(60,true),(61,true),(62,true),(63,true),(64,true),(65,false),(66,true),(67,true)] (by kernel_rfl) (by kernel_rfl) rfl (by kernel_rfl) (by kernel_rfl) (fun _ _ d _ _ h=>by cases d<;>exact h) (HK.out _ (bel_drew (Below.refl _ _))) ?_
    iterate 37
     refine Walk.take (v:=?_) rfl (by rfl) ?_ ?_;rotate_left
     ·(intro w' hSw;(try dsimp only at hSw);go_simp<;>with_reducible rfl)
     try simp only[Act.put,List.setIfInBounds_toArray,List.set_cons_zero,List.set_cons_succ]
    refine Walk.act rfl (by rfl) (fun K hK=>?_);go_simp;go_at_call 16;refine(sameAt_any B (k j).e (k' j).e SP.out.ex _ (II.out.ex.below (bel_drew (Below.refl wr.heap.size wr)) BB.out) (II'.out.ex.below (bel_drew (Below.refl wr.heap.size wr)) BB.out) (Nat.le_trans BB.out (bel_drew (Below.refl wr.heap.size wr)).size)).mono ?_;rintro e y1 ⟨rfl,h1⟩;have X1:Below wr.heap.size wr y1:=bel_trans (bel_drew (Below.refl wr.heap.size wr)) h1;clear h1;refine hK.out _ _ (HK.out _ X1) ?_;clear hK K;try simp only[Act.put,List.setIfInBounds_toArray,List.set_cons_zero,List.set_cons_succ]
    iterate 13
     refine Walk.take (v:=?_) rfl (by rfl) ?_ ?_;rotate_left
     ·(intro w' hSw;(try dsimp only at hSw);go_simp<;>with_reducible rfl)
     try simp only[Act.put,List.setIfInBounds_toArray,List.set_cons_zero,List.set_cons_succ]
    refine Walk.act rfl (by rfl) (fun K hK=>?_);go_simp;go_at_call 38;refine(SIH.out.1 _ (II.out.ts.below X1 BB.out) (II'.out.ts.below X1 BB.out) (Nat.le_trans BB.out X1.size)).mono ?_;rintro e y2 ⟨rfl,h2⟩;have X2:Below wr.heap.size wr y2:=bel_trans X1 h2;clear h2;refine hK.out _ _ (HK.out _ X2) ?_;clear hK K;try simp only[Act.put,List.setIfInBounds_toArray,List.set_cons_zero,List.set_cons_succ]
    iterate 13
     refine Walk.take (v:=?_) rfl (by rfl) ?_ ?_;rotate_left
     ·(intro w' hSw;(try dsimp only at hSw);go_simp<;>with_reducible rfl)
     try simp only[Act.put,List.setIfInBounds_toArray,List.set_cons_zero,List.set_cons_succ]
    refine Walk.act rfl (by rfl) (fun K hK=>?_);go_simp;go_at_call 38;refine(SIH.out.2 _ (II.out.es.below X2 BB.out) (II'.out.es.below X2 BB.out) (Nat.le_trans BB.out X2.size)).mono ?_;rintro e y3 ⟨rfl,h3⟩;have X3:Below wr.heap.size wr y3:=bel_trans X2 h3;clear h3;refine hK.out _ _ (HK.out _ X3) ?_;clear hK K;try simp only[Act.put,List.setIfInBounds_toArray,List.set_cons_zero,List.set_cons_succ]
    iterate 2
     refine Walk.take (v:=?_) rfl (by rfl) ?_ ?_;rotate_left
     ·(intro w' hSw;(try dsimp only at hSw);go_simp<;>with_reducible rfl)
     try simp only[Act.put,List.setIfInBounds_toArray,List.set_cons_zero,List.set_cons_succ]
    refine Walk.done ?_;have X4:=Hj X3;have BB3:Hid (B≤y3.heap.size):=Nat.le_trans BB.out X3.size;clear X1 X2 X3
    as_aux_lemma=>
     by_cases hz:(k j).h.xs.n=0
     ·have z1:¬(0:Int)<((k j).h.xs.n:Int):=by omega
      go_upto_region 8 with fail
      have HK8:Hid (∀w',Below y3.heap.size y3 w'→(w'.cell? ⟨b,o+1,none⟩=some (.int .i64 (k j).h.ps)∧w'.cell? ⟨b,o+3,none⟩=some (.slice (k j).h.xs.ao (k j).h.xs.n (k j).h.xs.c)∧w'.cell? ⟨b,o+4,none⟩=some (.int .u8 (k j).e.h.op)∧w'.cell? ⟨b,o+5,none⟩=some (.int .i64 (k j).e.h.ps)∧w'.cell? ⟨b,o+6,none⟩=some (.bool (k j).e.h.bo)∧w'.cell? ⟨b,o+7,none⟩=some (.int .i32 (k j).e.h.it)∧w'.cell? ⟨b,o+8,none⟩=some (.int .u64 (k j).e.h.fl)∧w'.cell? ⟨b,o+9,none⟩=some (.string ⟨(k j).e.h.nm.toArray⟩)∧w'.cell? ⟨b,o+10,none⟩=some (.slice (k j).e.h.s.ao (k j).e.h.s.n (k j).e.h.s.c)∧w'.cell? ⟨b,o+13,none⟩=some (.slice (k j).h.ts.ao (k j).h.ts.n (k j).h.ts.c)∧w'.cell? ⟨b,o+14,none⟩=some (.slice (k j).h.es.ao (k j).h.es.n (k j).h.es.c)∧w'.cell? ⟨b',o'+1,none⟩=some (.int .i64 (k j).h.ps)∧w'.cell? ⟨b',o'+3,none⟩=some (.slice (k' j).h.xs.ao (k j).h.xs.n (k' j).h.xs.c)∧w'.cell? ⟨b',o'+4,none⟩=some (.int .u8 (k' j).e.h.op)∧w'.cell? ⟨b',o'+5,none⟩=some (.int .i64 (k' j).e.h.ps)∧w'.cell? ⟨b',o'+6,none⟩=some (.bool (k' j).e.h.bo)∧w'.cell? ⟨b',o'+7,none⟩=some (.int .i32 (k' j).e.h.it)∧w'.cell? ⟨b',o'+8,none⟩=some (.int .u64 (k' j).e.h.fl)∧w'.cell? ⟨b',o'+9,none⟩=some (.string ⟨(k' j).e.h.nm.toArray⟩)∧w'.cell? ⟨b',o'+10,none⟩=some (.slice (k' j).e.h.s.ao (k' j).e.h.s.n (k' j).e.h.s.c)∧w'.cell? ⟨b',o'+13,none⟩=some (.slice (k' j).h.ts.ao (k' j).h.ts.n (k' j).h.ts.c)∧w'.cell? ⟨b',o'+14,none⟩=some (.slice (k' j).h.es.ao (k' j).h.es.n (k' j).h.es.c))):=fun w' hb2=>HK.out w' (bel_trans X4.out hb2)
      refine region_plan (S:=fun w'=>w'.cell? ⟨b,o+1,none⟩=some (.int .i64 (k j).h.ps)∧w'.cell? ⟨b,o+3,none⟩=some (.slice (k j).h.xs.ao (k j).h.xs.n (k j).h.xs.c)∧w'.cell? ⟨b,o+4,none⟩=some (.int .u8 (k j).e.h.op)∧w'.cell? ⟨b,o+5,none⟩=some (.int .i64 (k j).e.h.ps)∧w'.cell? ⟨b,o+6,none⟩=some (.bool (k j).e.h.bo)∧w'.cell? ⟨b,o+7,none⟩=some (.int .i32 (k j).e.h.it)∧w'.cell? ⟨b,o+8,none⟩=some (.int .u64 (k j).e.h.fl)∧w'.cell? ⟨b,o+9,none⟩=some (.string ⟨(k j).e.h.nm.toArray⟩)∧w'.cell? ⟨b,o+10,none⟩=some (.slice (k j).e.h.s.ao (k j).e.h.s.n (k j).e.h.s.c)∧w'.cell? ⟨b,o+13,none⟩=some (.slice (k j).h.ts.ao (k j).h.ts.n (k j).h.ts.c)∧w'.cell? ⟨b,o+14,none⟩=some (.slice (k j).h.es.ao (k j).h.es.n (k j).h.es.c)∧w'.cell? ⟨b',o'+1,none⟩=some (.int .i64 (k j).h.ps)∧w'.cell? ⟨b',o'+3,none⟩=some (.slice (k' j).h.xs.ao (k j).h.xs.n (k' j).h.xs.c)∧w'.cell? ⟨b',o'+4,none⟩=some (.int .u8 (k' j).e.h.op)∧w'.cell? ⟨b',o'+5,none⟩=some (.int .i64 (k' j).e.h.ps)∧w'.cell? ⟨b',o'+6,none⟩=some (.bool (k' j).e.h.bo)∧w'.cell? ⟨b',o'+7,none⟩=some (.int .i32 (k' j).e.h.it)∧w'.cell? ⟨b',o'+8,none⟩=some (.int .u64 (k' j).e.h.fl)∧w'.cell? ⟨b',o'+9,none⟩=some (.string ⟨(k' j).e.h.nm.toArray⟩)∧w'.cell? ⟨b',o'+10,none⟩=some (.slice (k' j).e.h.s.ao (k' j).e.h.s.n (k' j).e.h.s.c)∧w'.cell? ⟨b',o'+13,none⟩=some (.slice (k' j).h.ts.ao (k' j).h.ts.n (k' j).h.ts.c)∧w'.cell? ⟨b',o'+14,none⟩=some (.slice (k' j).h.es.ao (k' j).h.es.n (k' j).h.es.c)) _ [(0,true),(1,true),(2,true),(3,true),(4,true),(5,true),(6,true),(7,true),(8,true),(9,true),(10,true),(11,true),(12,true),(13,true),(14,true),(15,true),(16,true),(17,true),(18,true),(19,true),(20,true),(21,true),(22,false),(23,true),(24,true)] (by kernel_rfl) (by kernel_rfl) rfl (by kernel_rfl) (by kernel_rfl) (fun _ _ d _ _ h=>by cases d<;>exact h) (HK8.out _ (bel_drew (Below.refl _ _))) ?_
      iterate 8
       refine Walk.take (v:=?_) rfl (by rfl) ?_ ?_;rotate_left
       ·(intro w' hSw;(try dsimp only at hSw);go_simp<;>with_reducible rfl)
       try simp only[Act.put,List.setIfInBounds_toArray,List.set_cons_zero,List.set_cons_succ]
      iterate 14
       refine Walk.skip rfl (by rfl) ?_;try simp only[Act.put,List.setIfInBounds_toArray,List.set_cons_zero,List.set_cons_succ]
      refine Walk.pass rfl (by rfl) (HK8.out _ (bel_drew (Below.refl _ _))) ?_;try simp only[Act.put,List.setIfInBounds_toArray,List.set_cons_zero,List.set_cons_succ]
      refine Walk.skip rfl (by rfl) ?_;try simp only[Act.put,List.setIfInBounds_toArray,List.set_cons_zero,List.set_cons_succ]
      iterate 1
       refine Walk.take (v:=?_) rfl (by rfl) ?_ ?_;rotate_left
       ·(intro w' hSw;(try dsimp only at hSw);go_simp<;>with_reducible rfl)
       try simp only[Act.put,List.setIfInBounds_toArray,List.set_cons_zero,List.set_cons_succ]
      refine Walk.done ?_;go_wp2_with fail
      go_roundg (n-(j+1))
      case measure=>have:=HJ.out;have:=HLT.out;omega
      case rel=>exact⟨j+1,by go_num,⟨rfl,HLT.out⟩,bel_trans BEL.out (bel_trans X4.out (bel_drew (Below.refl y3.heap.size y3)))⟩
     ·have z1:(0:Int)<((k j).h.xs.n:Int):=by omega
      obtain⟨a2,b2,o2,ha2,hA2,hb2,X,I⟩:=XsIn.at (II.out.xs.below X4.out BB.out) (i:=0) (by omega);obtain⟨a2',b2',o2',ha2',hA2',hb2',X',I'⟩:=XsIn.at (II'.out.xs.below X4.out BB.out) (i:=0) (by have:=SP.out.xn;omega);have hbz:b2<y3.heap.size:=Nat.lt_of_lt_of_le hb2 (Nat.le_trans BB.out X4.out.size);have hbz':b2'<y3.heap.size:=Nat.lt_of_lt_of_le hb2' (Nat.le_trans BB.out X4.out.size)
      have HK8:Hid (∀w',Below y3.heap.size y3 w'→(w'.cell? ⟨b,o+3,none⟩=some (.slice (some a2) (k j).h.xs.n (k j).h.xs.c)∧w'.cell? ⟨b',o'+3,none⟩=some (.slice (some a2') (k j).h.xs.n (k' j).h.xs.c)∧w'.cell? ⟨b2,o2,none⟩=some (.int .u8 ((k j).x 0).h.op)∧w'.cell? ⟨b2,o2+1,none⟩=some (.int .i64 ((k j).x 0).h.ps)∧w'.cell? ⟨b2,o2+2,none⟩=some (.bool ((k j).x 0).h.bo)∧w'.cell? ⟨b2,o2+3,none⟩=some (.int .i32 ((k j).x 0).h.it)∧w'.cell? ⟨b2,o2+4,none⟩=some (.int .u64 ((k j).x 0).h.fl)∧w'.cell? ⟨b2,o2+5,none⟩=some (.string ⟨((k j).x 0).h.nm.toArray⟩)∧w'.cell? ⟨b2,o2+6,none⟩=some (.slice ((k j).x 0).h.s.ao ((k j).x 0).h.s.n ((k j).x 0).h.s.c)∧w'.cell? ⟨b2',o2',none⟩=some (.int .u8 ((k' j).x 0).h.op)∧w'.cell? ⟨b2',o2'+1,none⟩=some (.int .i64 ((k' j).x 0).h.ps)∧w'.cell? ⟨b2',o2'+2,none⟩=some (.bool ((k' j).x 0).h.bo)∧w'.cell? ⟨b2',o2'+3,none⟩=some (.int .i32 ((k' j).x 0).h.it)∧w'.cell? ⟨b2',o2'+4,none⟩=some (.int .u64 ((k' j).x 0).h.fl)∧w'.cell? ⟨b2',o2'+5,none⟩=some (.string ⟨((k' j).x 0).h.nm.toArray⟩)∧w'.cell? ⟨b2',o2'+6,none⟩=some (.slice ((k' j).x 0).h.s.ao ((k' j).x 0).h.s.n ((k' j).x 0).h.s.c))):=fun w' hbw=>by
       have Y:=X.below hbz hbw (Nat.le_refl _);have Y':=X'.below hbz' hbw (Nat.le_refl _);obtain⟨-,g3, -, -, -, -, -, -, -, -, -, -,g3', -⟩:=HK.out w' (bel_trans X4.out hbw);rw[ha2]at g3;rw[ha2']at g3';exact⟨g3,g3',Y.c0,Y.c1,Y.c2,Y.c3,Y.c4,Y.c5,Y.c6,Y'.c0,Y'.c1,Y'.c2,Y'.c3,Y'.c4,Y'.c5,Y'.c6⟩
      have IX:=Hj I;have IX':=Hj I';have PX:=Hj (SP.out.xs 0 (by omega));rw[Nat.zero_mul]at hA2 hA2';obtain rfl:a2=⟨b2,o2,none⟩:=by rw[←hA2];simp[Addr.add]
      obtain rfl:a2'=⟨b2',o2',none⟩:=by rw[←hA2'];simp[Addr.add]
      have z2:0<(k j).h.xs.n:=by omega
      clear X X' I I' hb2 hb2' ha2 ha2' hA2 hA2' hbz hbz';go_upto_region 8 with fail
      refine region_plan (S:=fun w'=>w'.cell? ⟨b,o+3,none⟩=some (.slice (some ⟨b2,o2,none⟩) (k j).h.xs.n (k j).h.xs.c)∧w'.cell? ⟨b',o'+3,none⟩=some (.slice (some ⟨b2',o2',none⟩) (k j).h.xs.n (k' j).h.xs.c)∧w'.cell? ⟨b2,o2,none⟩=some (.int .u8 ((k j).x 0).h.op)∧w'.cell? ⟨b2,o2+1,none⟩=some (.int .i64 ((k j).x 0).h.ps)∧w'.cell? ⟨b2,o2+2,none⟩=some (.bool ((k j).x 0).h.bo)∧w'.cell? ⟨b2,o2+3,none⟩=some (.int .i32 ((k j).x 0).h.it)∧w'.cell? ⟨b2,o2+4,none⟩=some (.int .u64 ((k j).x 0).h.fl)∧w'.cell? ⟨b2,o2+5,none⟩=some (.string ⟨((k j).x 0).h.nm.toArray⟩)∧w'.cell? ⟨b2,o2+6,none⟩=some (.slice ((k j).x 0).h.s.ao ((k j).x 0).h.s.n ((k j).x 0).h.s.c)∧w'.cell? ⟨b2',o2',none⟩=some (.int .u8 ((k' j).x 0).h.op)∧w'.cell? ⟨b2',o2'+1,none⟩=some (.int .i64 ((k' j).x 0).h.ps)∧w'.cell? ⟨b2',o2'+2,none⟩=some (.bool ((k' j).x 0).h.bo)∧w'.cell? ⟨b2',o2'+3,none⟩=some (.int .i32 ((k' j).x 0).h.it)∧w'.cell? ⟨b2',o2'+4,none⟩=some (.int .u64 ((k' j).x 0).h.fl)∧w'.cell? ⟨b2',o2'+5,none⟩=some (.string ⟨((k' j).x 0).h.nm.toArray⟩)∧w'.cell? ⟨b2',o2'+6,none⟩=some (.slice ((k' j).x 0).h.s.ao ((k' j).x 0).h.s.n ((k' j).x 0).h.s.c)) _ [(0,true),(1,true),(2,true),(3,true),(4,true),(5,true),(6,true),(7,true),(8,true),(9,true),(10,true),(11,true),(12,true),(13,true),(14,true),(15,true),(16,true),(17,true),(18,true),(19,true),(20,true),(21,true),(22,false),(23,true),(24,true)] (by kernel_rfl) (by kernel_rfl) rfl (by kernel_rfl) (by kernel_rfl) (fun _ _ d _ _ h=>by cases d<;>exact h) (HK8.out _ (bel_drew (Below.refl _ _))) ?_
      iterate 22
       refine Walk.take (v:=?_) rfl (by rfl) ?_ ?_;rotate_left
       ·(intro w' hSw;(try dsimp only at hSw);go_simp<;>with_reducible rfl)
       try simp only[Act.put,List.setIfInBounds_toArray,List.set_cons_zero,List.set_cons_succ]
      refine Walk.act rfl (by rfl) (fun K hK=>?_);go_simp;go_at_call 16;refine(sameAt_any B ((k j).x 0) ((k' j).x 0) PX.out _ (IX.out.below (bel_drew (Below.refl y3.heap.size y3)) BB3.out) (IX'.out.below (bel_drew (Below.refl y3.heap.size y3)) BB3.out) (Nat.le_trans BB3.out (bel_drew (Below.refl y3.heap.size y3)).size)).mono ?_;rintro e y4 ⟨rfl,h4⟩;have X5:Below y3.heap.size y3 y4:=bel_trans (bel_drew (Below.refl y3.heap.size y3)) h4;clear h4;refine hK.out _ _ (HK8.out _ X5) ?_;clear hK K;try simp only[Act.put,List.setIfInBounds_toArray,List.set_cons_zero,List.set_cons_succ]
      iterate 2
       refine Walk.take (v:=?_) rfl (by rfl) ?_ ?_;rotate_left
       ·(intro w' hSw;(try dsimp only at hSw);go_simp<;>with_reducible rfl)
       try simp only[Act.put,List.setIfInBounds_toArray,List.set_cons_zero,List.set_cons_succ]
      refine Walk.done ?_;go_wp2_with fail
      go_roundg (n-(j+1))
      case measure=>have:=HJ.out;have:=HLT.out;omega
      case rel=>exact⟨j+1,by go_num,⟨rfl,HLT.out⟩,bel_trans BEL.out (bel_trans X4.out X5)⟩
  ·obtain rfl:j=n:=by have:=HJ.out;omega
   have z0:¬(j:Int)<(j:Int):=by omega
   clear hlt;go_wp2_with fail;go_ret;exact⟨rfl,BEL.out⟩
theorem sameStmts_e (B:Nat)(s:St):∀s':St,s.pe s'→AtS B s.h.ts s.t s'.h.ts s'.t∧AtS B s.h.es s.l s'.h.es s'.l:=by
 induction s using St.ind with
 | H s it il=>exact fun s' hp=>⟨sameStmts_of B _ _ _ _ (St.pe_hd hp).tn (St.pe_hd hp).ts fun i hi=>it i hi _ ((St.pe_hd hp).ts i hi),sameStmts_of B _ _ _ _ (St.pe_hd hp).en (St.pe_hd hp).es fun i hi=>il i hi _ ((St.pe_hd hp).es i hi)⟩
theorem sameStmts_any (B:Nat)(s:Sl)(k:Nat→St)(s':Sl)(k':Nat→St)(hn:s.n=s'.n)(hp:∀i,i<s.n→(k i).pe (k' i)):AtS B s k s' k':=sameStmts_of B s k s' k' hn hp fun i hi=>sameStmts_e B (k i) _ (hp i hi)
def De.pe (a b:De):Prop:=a.ps=b.ps∧a.lo.h.ps=b.lo.h.ps∧a.hi.h.ps=b.hi.h.ps
def Pr.pe (p q:Pr):Prop:=(p.ds.n=q.ds.n∧∀i,i<p.ds.n→(p.d i).pe (q.d i))∧(p.is.n=q.is.n∧∀i,i<p.is.n→(p.i i).pe (q.i i))∧(p.ss.n=q.ss.n∧∀i,i<p.ss.n→(p.s i).pe (q.s i))
theorem dpe_eqv {a b d:De}(h:a.eqv d)(g:b.eqv d):a.pe b:=⟨h.1.1.trans g.1.1.symm,(Ex.pe_hd (pe_eqv h.2.1 g.2.1)).1,(Ex.pe_hd (pe_eqv h.2.2 g.2.2)).1⟩
theorem ppe_eqv {p q r:Pr}(h:p.eqv r)(g:q.eqv r):p.pe q:=by
 obtain⟨-,⟨h1,h2⟩,⟨h3,h4⟩,h5,h6⟩:=h;obtain⟨-,⟨g1,g2⟩,⟨g3,g4⟩,g5,g6⟩:=g;exact⟨⟨h1.trans g1.symm,fun i hi=>dpe_eqv (h2 i hi) (g2 i (by omega))⟩,⟨h3.trans g3.symm,fun i hi=>spe_eqv (h4 i hi) (g4 i (by omega))⟩,h5.trans g5.symm,fun i hi=>spe_eqv (h6 i hi) (g6 i (by omega))⟩
theorem samePlaces_any (B:Nat)(p q:Pr)(hpe:p.pe q)(w:World)(hp:p.In B w)(hq:q.In B w)(hB:B≤w.heap.size):Calls Tryz.prog 12 #[p.v,q.v] w fun r w'=>r=.returned (.bool true)∧Below w.heap.size w w':=by
 obtain⟨tk,⟨ao,n,c⟩,k,is,ki,ss,ks⟩:=p;obtain⟨tk',⟨ao',n',c'⟩,k',is',ki',ss',ks'⟩:=q;obtain⟨⟨hn,hd⟩,⟨hin,hi⟩,hsn,hs⟩:=hpe;dsimp only at hn hd hin hi hsn hs;subst hn;have HD:=Hj hd;have SI:=Hj (sameStmts_any B is ki is' ki' hin hi);have SS:=Hj (sameStmts_any B ss ks ss' ks' hsn hs);have HI:Hid (DsIn B w ⟨ao,n,c⟩ k):=hp.2.1;have HJ':Hid (DsIn B w ⟨ao',n,c'⟩ k'):=hq.2.1;have I1:Hid (SsIn B w is ki):=hp.2.2.1;have I2:Hid (SsIn B w ss ks):=hp.2.2.2;have J1:Hid (SsIn B w is' ki'):=hq.2.2.1;have J2:Hid (SsIn B w ss' ks'):=hq.2.2.2;have HB:=Hj hB;have hmx:n≤maxLen:=Nat.le_trans hp.2.1.1.1 hp.2.1.1.2.1;unfold maxLen at hmx;have HM:=Hj hmx;clear hp hq hB hmx hd hin hi hsn hs;obtain⟨g0,g1,b2,z2⟩:=two_boxes w (pO ⟨tk,⟨ao,n,c⟩,k,is,ki,ss,ks⟩) (pO ⟨tk',⟨ao',n,c'⟩,k',is',ki',ss',ks'⟩);obtain⟨c0,c1, -, -⟩:=p_cells g0;obtain⟨d0,d1, -, -⟩:=p_cells g1;dsimp only at c0 c1 d0 d1;have hz:(bx w (pO ⟨tk,⟨ao,n,c⟩,k,is,ki,ss,ks⟩)).heap.size=w.heap.size+1:=bx_size _ _;have G:=Hj (And.intro g0 g1);have B2:=Hj b2;clear g0 g1 b2 z2;show Calls Tryz.prog 12 #[.agg #[.int .i64 tk,.slice ao n c,.slice is.ao is.n is.c,.slice ss.ao ss.n ss.c],.agg #[.int .i64 tk',.slice ao' n c',.slice is'.ao is'.n is'.c,.slice ss'.ao ss'.n ss'.c]] w _
 go_enter Tryz.func12,Tryz.ntmps12;go_upto_region 1 with fail;rw[bx_p w ⟨tk,⟨ao,n,c⟩,k,is,ki,ss,ks⟩,bx_p _ ⟨tk',⟨ao',n,c'⟩,k',is',ki',ss',ks'⟩];generalize bx (bx w (pO ⟨tk,⟨ao,n,c⟩,k,is,ki,ss,ks⟩)) (pO ⟨tk',⟨ao',n,c'⟩,k',is',ki',ss',ks'⟩)=W at *;go_wp2_with fail
 go_loopg [5] n (fun gk i wr=>∃j:Nat,i=.int .i64 (j:Int)∧Hid (gk=n-j∧j≤n)∧Hid (Below W.heap.size W wr))
 case atStart=>exact⟨0,rfl,⟨rfl,Nat.zero_le _⟩,Below.refl _ _⟩
 case round=>
  obtain⟨j,rfl,HJ,BW⟩:=hrel;have GW:=Hj (And.intro (kept_obj BW.out G.out.1) (kept_obj BW.out G.out.2));have BEL:Hid (Below w.heap.size w wr):=B2.out.trans (BW.out.mono B2.out.size);have BB:Hid (B≤wr.heap.size):=Nat.le_trans HB.out BEL.out.size;obtain⟨-,c1,c2,c3⟩:=p_cells GW.out.1;obtain⟨-,d1,d2,d3⟩:=p_cells GW.out.2;dsimp only at c1 c2 c3 d1 d2 d3;clear c0 d0 hz
  by_cases hlt:j<n
  ·have z0:(j:Int)<(n:Int):=by omega
   have ovi:IntKind.i64.wrap ((j:Int)+1)=((j+1:Nat):Int):=by have:=HM.out;rw[IntKind.wrap_i64];omega
   have HLT:=Hj hlt;obtain⟨a,b,o,rfl,hA,hb,X,I⟩:=DsIn.at (HI.out.below BEL.out HB.out) (i:=j) hlt;obtain⟨a',b',o',rfl,hA',hb',X',I'⟩:=DsIn.at (HJ'.out.below BEL.out HB.out) (i:=j) hlt;have hbw:b<wr.heap.size:=Nat.lt_of_lt_of_le hb BB.out;have hbw':b'<wr.heap.size:=Nat.lt_of_lt_of_le hb' BB.out;have HDE:=Hj (HD.out j hlt)
   have HK:Hid (∀w',Below wr.heap.size wr w'→(w'.cell? ⟨w.heap.size,1,none⟩=some (.slice (some a) n c)∧w'.cell? ⟨w.heap.size+1,1,none⟩=some (.slice (some a') n c')∧w'.cell? ⟨b,o,none⟩=some (.int .i64 (k j).ps)∧w'.cell? ⟨b,o+7,none⟩=some (.int .i64 (k j).lo.h.ps)∧w'.cell? ⟨b,o+14,none⟩=some (.int .i64 (k j).hi.h.ps)∧w'.cell? ⟨b',o',none⟩=some (.int .i64 (k j).ps)∧w'.cell? ⟨b',o'+7,none⟩=some (.int .i64 (k j).lo.h.ps)∧w'.cell? ⟨b',o'+14,none⟩=some (.int .i64 (k j).hi.h.ps))):=fun w' hb2=>by
    have Y:=X.below hbw hb2 (Nat.le_refl _);have Y':=X'.below hbw' hb2 (Nat.le_refl _);have e1:=(p_cells (kept_obj hb2 GW.out.1)).2.1;have e2:=(p_cells (kept_obj hb2 GW.out.2)).2.1;obtain⟨q1,q2,q3⟩:=HDE.out;have y0:=Y'.c0;have y7:=Y'.c7;have y14:=Y'.c14;rw[←q1]at y0;rw[←q2]at y7;rw[←q3]at y14;exact⟨e1,e2,Y.c0,Y.c7,Y.c14,y0,y7,y14⟩
   clear X X' I I' hb hb' hbw hbw' hlt c2 c3 d2 d3
   as_aux_lemma=>
    go_upto_region 6 with fail;clear c1 d1;refine region_plan (S:=fun w'=>w'.cell? ⟨w.heap.size,1,none⟩=some (.slice (some a) n c)∧w'.cell? ⟨w.heap.size+1,1,none⟩=some (.slice (some a') n c')∧w'.cell? ⟨b,o,none⟩=some (.int .i64 (k j).ps)∧w'.cell? ⟨b,o+7,none⟩=some (.int .i64 (k j).lo.h.ps)∧w'.cell? ⟨b,o+14,none⟩=some (.int .i64 (k j).hi.h.ps)∧w'.cell? ⟨b',o',none⟩=some (.int .i64 (k j).ps)∧w'.cell? ⟨b',o'+7,none⟩=some (.int .i64 (k j).lo.h.ps)∧w'.cell? ⟨b',o'+14,none⟩=some (.int .i64 (k j).hi.h.ps)) _ [(0,true),(1,true),(2,true),(3,true),(4,true),(5,true),(6,true),(7,true),(8,true),(9,true),(10,true),(11,true),(12,true),(13,true),(14,true),(15,true),(16,true),(17,true),(18,true),(19,true),(20,true),(21,true),(22,true),(23,true),(24,true),(25,true),(26,true),(27,true),(28,true),(29,true),(30,true),(31,true),(32,true),(33,true),(34,true),(35,true),(36,true),(37,true),(38,true),(39,true),(40,true),(41,true),(42,true),(43,true),(44,true),(45,true),(46,true)] (by kernel_rfl) (by kernel_rfl) rfl (by kernel_rfl) (by kernel_rfl) (fun _ _ d _ _ h=>by cases d<;>exact h) (HK.out _ (bel_drew (Below.refl _ _))) ?_
    iterate 47
     refine Walk.take (v:=?_) rfl (by rfl) ?_ ?_;rotate_left
     ·(intro w' hSw;(try dsimp only at hSw);go_simp<;>with_reducible rfl)
     try simp only[Act.put,List.setIfInBounds_toArray,List.set_cons_zero,List.set_cons_succ]
    refine Walk.done ?_;go_wp2_with fail
    go_roundg (n-(j+1))
    case measure=>have:=HJ.out;have:=HLT.out;omega
    case rel=>exact⟨j+1,by go_num,⟨rfl,HLT.out⟩,bel_trans BW.out (bel_drew (Below.refl wr.heap.size wr))⟩
  ·as_aux_lemma=>
    obtain rfl:j=n:=by have:=HJ.out;omega
    have z0:¬(j:Int)<(j:Int):=by omega
    have C1:=Hj (SI.out wr (I1.out.below BEL.out HB.out) (J1.out.below BEL.out HB.out) BB.out);clear hlt;go_wp2_with fail;refine C1.out.mono ?_;rintro r w1 ⟨rfl,hb1⟩;have B4:=Hj (BEL.out.trans (hb1.mono BEL.out.size));obtain⟨-, -, -,c3⟩:=p_cells (kept_obj hb1 GW.out.1);obtain⟨-, -, -,d3⟩:=p_cells (kept_obj hb1 GW.out.2);dsimp only at c3 d3;clear hb1 C1 c1 d1 c2 d2;have C2:=Hj (SS.out w1 (I2.out.below B4.out HB.out) (J2.out.below B4.out HB.out) (Nat.le_trans HB.out B4.out.size));go_wp2_with fail;refine C2.out.mono ?_;rintro r w2 ⟨rfl,hb2⟩;have B5:=Hj (B4.out.trans (hb2.mono B4.out.size));clear hb2;go_wp2_with fail;go_ret;exact⟨rfl,B5.out⟩
end Go.Proofs.YthmlhkllbichgaaGreatDoor
