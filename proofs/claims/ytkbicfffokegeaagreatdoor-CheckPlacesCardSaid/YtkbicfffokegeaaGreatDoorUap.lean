/-
  Layer 12's checks answer true, whatever program is handed in. (part 16 of 35) Conditions: none beside what the card ties.
-/
import Derived.Laws.Tables
import Derived.Laws.CopyOwn
import Derived.Test.YtkbicfffokegeaaGreatDoorUam
import Derived.Test.YtkbicfffokegeaaGreatDoorUao
import Derived.Test.YtkbicfffokegeaaGreatDoorUad
import Derived.StillTailTactics
namespace Go.Proofs.YtkbicfffokegeaaGreatDoor
set_option maxHeartbeats 16000000
open Go.RowKit
set_option maxRecDepth 100000
structure Fx (X:Nat→Prop) (B:Nat) (w w':World):Prop where
 os:w'.os=w.os
 tape:w'.tape=w.tape
 output:w'.output=w.output
 size:w.heap.size≤w'.heap.size
 block:∀k,k<B→¬X k→w'.heap[k]? = w.heap[k]?
theorem Fx.refl (X:Nat→Prop)(B:Nat)(w:World):Fx X B w w:=⟨rfl,rfl,rfl,Nat.le_refl _,fun _ _ _=>rfl⟩
theorem Fx.trans {X:Nat→Prop}{B:Nat}{a b c:World}(h:Fx X B a b)(k:Fx X B b c):Fx X B a c:=
 ⟨k.os.trans h.os,k.tape.trans h.tape,k.output.trans h.output,Nat.le_trans h.size k.size,fun i hi hx=>(k.block i hi hx).trans (h.block i hi hx)⟩
theorem Fx.mono {X Y:Nat→Prop}{B C:Nat}{w w':World}(h:Fx X B w w')(hB:C≤B)(hX:∀k,k<C→X k→Y k):Fx Y C w w':=
 ⟨h.os,h.tape,h.output,h.size,fun k hk hx=>h.block k (by omega) fun x=>hx (hX k hk x)⟩
theorem Fx.of {X:Nat→Prop}{B:Nat}{w w':World}(h:Below B w w'):Fx X B w w':=⟨h.os,h.tape,h.output,h.size,fun k hk _=>h.block k hk⟩
theorem Fx.bel {X:Nat→Prop}{B:Nat}{w w':World}(h:Fx X B w w')(hX:∀k,k<B→¬X k):Below B w w':=⟨h.os,h.tape,h.output,h.size,fun k hk=>h.block k hk (hX k hk)⟩
theorem Fx.alloc {X:Nat→Prop}{B:Nat}{a w:World}(h:Fx X B a w)(hB:B≤w.heap.size)(o:Obj):Fx X B a (w.alloc o):=
 h.trans (Fx.of ((Below.refl B w).alloc hB o))
theorem Fx.set {X:Nat→Prop}{B:Nat}{a w:World}(h:Fx X B a w){p:Addr}(hp:X p.block∨B≤p.block)(u:Value):Fx X B a (w.setCell p u):=by
 have e:=(Below.refl 0 w).setCell (p:=p) (Nat.zero_le _) u;refine h.trans ⟨e.os,e.tape,e.output,e.size,fun k hk hx=>Below.heap_setCell _ _ _ _ ?_⟩;rintro rfl;rcases hp with hp|hp
 ·exact hx hp
 ·omega
theorem Fx.then {X:Nat→Prop}{B:Nat}{a b c:World}(h:Fx X B a b)(hB:B≤a.heap.size)(k:Fx X b.heap.size b c):Fx X B a c:=
 h.trans (k.mono (Nat.le_trans hB h.size) fun _ _ x=>x)
theorem Fx.blk {X:Nat→Prop}{B g:Nat}{w w':World}{t:TypeId}{cs:Array Value}(h:Fx X B w w')(b:Blk w g t cs)(hg:g<B)(hx:¬X g):Blk w' g t cs:=(h.block g hg hx).trans b
theorem fx_alloc {X:Nat→Prop}{a w:World}(h:Fx X a.heap.size a w)(o:Obj):Fx X a.heap.size a (w.alloc o):=h.alloc h.size o
theorem fx_set {X:Nat→Prop}{a w:World}(h:Fx X a.heap.size a w){p:Addr}(hp:X p.block∨a.heap.size≤p.block)(u:Value):Fx X a.heap.size a (w.setCell p u):=h.set hp u
theorem fx_trans {X:Nat→Prop}{a b c:World}(h:Fx X a.heap.size a b)(k:Fx X b.heap.size b c):Fx X a.heap.size a c:=h.then (Nat.le_refl _) k
theorem fx_bel {X:Nat→Prop}{a b c:World}(h:Fx X a.heap.size a b)(k:Below b.heap.size b c):Fx X a.heap.size a c:=fx_trans h (Fx.of k)
def On (R:Nat):Nat→Prop:=fun k=>k=R
def Rdr (R d:Nat)(s:PS)(w:World):Prop:=∃T o c,T<R∧Blk w R 129 #[.slice (some ⟨T,o,none⟩) s.ts.length c,.int .i64 (d:Int),.int .i64 (s.ns:Int),.int .i64 (s.nx:Int)] ∧
 w.rangeAt T o (tksC s.ts)∧s.ts.length≤c∧c≤maxLen∧Good s.ts∧s.ns≤200∧s.nx≤2000∧d≤24
theorem Rdr.lt {R d:Nat}{s:PS}{w:World}(h:Rdr R d s w):R<w.heap.size:=by
 obtain⟨T,o,c,h1,h2, -⟩:=h;exact h2.lt
theorem Rdr.good {R d:Nat}{s:PS}{w:World}(h:Rdr R d s w):Good s.ts:=by
 obtain⟨T,o,c, -, -, -, -, -,h, -⟩:=h;exact h
theorem Rdr.deep {R d:Nat}{s:PS}{w:World}(h:Rdr R d s w):d≤24:=by
 obtain⟨T,o,c, -, -, -, -, -, -, -, -,h⟩:=h;exact h
theorem rangeAt_blk {w w':World}{T o:Nat}{l:List Value}(h:w.rangeAt T o l)(e:w'.heap[T]? = w.heap[T]?):w'.rangeAt T o l:=fun j v hv=>by
 have:=h j v hv;unfold World.cell? at this ⊢;dsimp only at this ⊢;rw[e];exact this
theorem Rdr.fx {R d:Nat}{s:PS}{w w':World}{X:Nat→Prop}{B:Nat}(h:Rdr R d s w)(hf:Fx X B w w')(hR:R<B)(hX:∀k,k≤R→¬X k):Rdr R d s w':=by
 obtain⟨T,o,c,h1,h2,h3,h4⟩:=h;exact⟨T,o,c,h1,hf.blk h2 hR (hX R (Nat.le_refl _)),rangeAt_blk h3 (hf.block T (by omega) (hX T (by omega))),h4⟩
theorem Rdr.below {R d:Nat}{s:PS}{w w':World}{B:Nat}(h:Rdr R d s w)(hb:Below B w w')(hR:R<B):Rdr R d s w':=h.fx (Fx.of (X:=fun _=>False) hb) hR fun _ _ x=>x
theorem Rdr.alloc {R d:Nat}{s:PS}{w:World}(h:Rdr R d s w)(o:Obj):Rdr R d s (w.alloc o):=h.below ((Below.refl w.heap.size w).alloc (Nat.le_refl _) o) h.lt
theorem Rdr.set {R d:Nat}{s:PS}{w:World}(h:Rdr R d s w){p:Addr}(hp:R<p.block)(u:Value):Rdr R d s (w.setCell p u):=
 h.below ((Below.refl (R+1) w).setCell (p:=p) hp u) (Nat.lt_succ_self _)
def Tk.v (t:Tk):Value:=.agg #[.int .u8 t.kd,.int .i64 t.ps,.string ⟨t.tx.toArray⟩,.int .i32 t.nn,.int .u64 t.ff]
structure RdC (R d T o c:Nat) (s:PS) (w:World):Prop where
 tr:T<R
 blk:Blk w R 129 #[.slice (some ⟨T,o,none⟩) s.ts.length c,.int .i64 (d:Int),.int .i64 (s.ns:Int),.int .i64 (s.nx:Int)]
 c0:w.cell? ⟨T,o,none⟩=some (.int .u8 s.hd.kd)
 c1:w.cell? ⟨T,o+1,none⟩=some (.int .i64 s.hd.ps)
 c2:w.cell? ⟨T,o+2,none⟩=some (.string ⟨s.hd.tx.toArray⟩)
 c3:w.cell? ⟨T,o+3,none⟩=some (.int .i32 s.hd.nn)
 c4:w.cell? ⟨T,o+4,none⟩=some (.int .u64 s.hd.ff)
 row:w.rangeAt T o (tksC s.ts)
 lc:s.ts.length≤c
 cm:c≤maxLen
 good:Good s.ts
 ns:s.ns≤200
 nx:s.nx≤2000
 dp:d≤24
theorem Rdr.rc {R d:Nat}{s:PS}{w:World}(h:Rdr R d s w):∃T o c,RdC R d T o c s w:=by
 obtain⟨T,o,c,h1,h2,h3,h4,h5,h6,h7,h8,h9⟩:=h
 have g:∀j v,(tkCs s.hd)[j]? = some v→w.cell? ⟨T,o+j,none⟩=some v:=by
  intro j v hv;refine h3 j v ?_
  obtain⟨t,r,e⟩:∃t r,s.ts=t::r:=by
   cases e:s.ts with
   | nil=>rw[e]at h6;exact h6.elim
   | cons t r=>exact⟨t,r,rfl⟩
  have e2:s.hd=t:=by unfold PS.hd;rw[e];rfl
  rw[e2]at hv;rw[e];show(tkCs t++tksC r)[j]? = some v;rw[List.getElem?_append_left (List.getElem?_eq_some_iff.1 hv).1];exact hv
 exact⟨T,o,c,h1,h2,g 0 _ rfl,g 1 _ rfl,g 2 _ rfl,g 3 _ rfl,g 4 _ rfl,h3,h4,h5,h6,h7,h8,h9⟩
theorem RdC.tk {R d T o c:Nat}{s:PS}{w w':World}(h:RdC R d T o c s w)(hk:s.hd.kd≠0)(hb:Blk w' R 129 #[.slice (some ⟨T,o+5,none⟩) (s.ts.length-1) (c-1),.int .i64 (d:Int),.int .i64 (s.ns:Int),.int .i64 (s.nx:Int)])
  (hT:w'.heap[T]? = w.heap[T]?):Rdr R d s.tk w':=by
 have hl:=tk_len h.good;have hlc:=h.lc;have e:s.tk.ts.length=s.ts.length-1:=by omega
 refine⟨T,o+5,c-1,h.tr,by rw[e];exact hb,?_,by omega,by have:=h.cm;omega,h.good.tail hk,h.ns,h.nx,h.dp⟩;refine rangeAt_blk (w:=w) (fun j v hv=>?_) hT
 have:=h.row (5+j) v (by
  obtain⟨t,r,e⟩:∃t r,s.ts=t::r:=by
   cases e:s.ts with
   | nil=>have:=h.good;rw[e]at this;exact this.elim
   | cons t r=>exact⟨t,r,rfl⟩
  have e2:s.tk.ts=r:=by unfold PS.tk;rw[e];rfl
  rw[e2]at hv;rw[e];show(tkCs t++tksC r)[5+j]? = some v;rw[List.getElem?_append_right (by simp[tkCs])]
  simpa [tkCs] using hv)
 rw[←Nat.add_assoc]at this;exact this
theorem RdC.nums {R d T o c:Nat}{s:PS}{w w':World}(h:RdC R d T o c s w){d' ns' nx':Nat}(hb:Blk w' R 129 #[.slice (some ⟨T,o,none⟩) s.ts.length c,.int .i64 (d':Int),.int .i64 (ns':Int),.int .i64 (nx':Int)])
  (hT:w'.heap[T]? = w.heap[T]?) (h1:ns'≤200) (h2:nx'≤2000) (h3:d'≤24):Rdr R d' ⟨s.ts,ns',nx'⟩ w':=
 ⟨T,o,c,h.tr,hb,rangeAt_blk h.row hT,h.lc,h.cm,h.good,h1,h2,h3⟩
theorem RdC.fx {R d T o c:Nat}{s:PS}{w w':World}{X:Nat→Prop}{B:Nat}(h:RdC R d T o c s w)(hf:Fx X B w w')(hR:R<B)(hX:∀k,k≤R→¬X k):RdC R d T o c s w':=by
 have e:=hf.block T (Nat.lt_trans h.tr hR) (hX T (Nat.le_of_lt h.tr));have g:∀j,w'.cell? ⟨T,j,none⟩=w.cell? ⟨T,j,none⟩:=fun j=>World.cell?_of_block (w:=w) e;exact⟨h.tr,hf.blk h.blk hR (hX R (Nat.le_refl _)),(g _).trans h.c0,(g _).trans h.c1,(g _).trans h.c2,(g _).trans h.c3,(g _).trans h.c4,rangeAt_blk h.row e,h.lc,h.cm,h.good,h.ns,h.nx,h.dp⟩
theorem RdC.below {R d T o c:Nat}{s:PS}{w w':World}{B:Nat}(h:RdC R d T o c s w)(hb:Below B w w')(hR:R<B):RdC R d T o c s w':=h.fx (Fx.of (X:=fun _=>False) hb) hR fun _ _ x=>x
def flP (c p:Int):List PanicEntry:=[{ v:=.iface 106 (.agg #[.int .i64 c,.int .i64 p]),recovered:=false }]
def PO {α:Type}(R d:Nat)(w:World)(r:Rs α)(V:α→Value→World→Prop)(e:Ending)(w':World):Prop:=
 match r with
 | .ok a s=>∃v,e=.returned v∧V a v w'∧Rdr R d s w'∧Fx (On R) w.heap.size w w'
 | .no c p=>e=.panicked (flP c p)∧Fx (On R) w.heap.size w w'
def V0 {α:Type}(_:α)(v:Value)(_:World):Prop:=v=.tuple #[]
open Classical in
noncomputable def up (D:Nat→Prop) (w:World):World:={ w with heap:=w.heap.mapIdx fun i o=>if D i then o else .cells #[] 0 (0,0) }
theorem up_heap (D:Nat→Prop)(w:World)(k:Nat)(h:D k):(up D w).heap[k]? = w.heap[k]?:=by
 simp only[up,Array.getElem?_mapIdx,if_pos h];cases w.heap[k]?<;>rfl
theorem up_not (D:Nat→Prop)(w:World)(k:Nat)(h:¬D k):(up D w).heap[k]? = (w.heap[k]?).map fun _=>.cells #[] 0 (0,0):=by
 simp only[up,Array.getElem?_mapIdx,if_neg h]
theorem up_cell {D:Nat→Prop}{w:World}{p:Addr}{v:Value}:(up D w).cell? p=some v↔D p.block∧w.cell? p=some v:=by
 unfold World.cell?
 by_cases h:D p.block
 ·rw[up_heap D w _ h]
  exact⟨fun g=>⟨h,g⟩,fun g=>g.2⟩
 ·rw[up_not D w _ h]
  refine⟨fun g=>?_,fun g=>absurd g.1 h⟩
  cases hq:w.heap[p.block]? with
  | none=>rw[hq]at g;cases g
  | some o=>rw[hq]at g;simp at g
def Stay (B:Nat)(w w':World):Prop:=∀(p:Addr) (v:Value),p.block<B→w.cell? p=some v→w'.cell? p=some v
theorem Rw.stay {w w':World}{B B':Nat}{s:Sl}{sz:Nat}{cs:Nat→List Value}(h:Rw w B s sz cs)(hb:Stay B w w')(hB:B≤B'):Rw w' B' s sz cs:=by
 intro a ha i hi;obtain⟨h1,h2⟩:=h a ha i hi;refine⟨by omega,fun j v hv=>hb _ _ ?_ (h2 j v hv)⟩;unfold Addr.add
 split<;>exact h1
theorem Ex.In.stay {B B':Nat}{w w':World}(hb:Stay B w w')(hB:B≤B'){e:Ex}:e.In B w→e.In B' w':=by
 induction e with
 | no=>exact fun _=>trivial
 | mk h k ih=>exact fun⟨h1,h2,h3⟩=>⟨h1,h2.stay hb hB,fun i hi=>ih i (h3 i hi)⟩
theorem XsIn.stay {B B':Nat}{w w':World}{s:Sl}{k:Nat→Ex}(h:XsIn B w s k)(hb:Stay B w w')(hB:B≤B'):XsIn B' w' s k:=
 ⟨h.1,h.2.1.stay hb hB,fun i hi=>(h.2.2 i hi).stay hb hB⟩
theorem St.In.stay {B B':Nat}{w w':World}(hb:Stay B w w')(hB:B≤B'){s:St}:s.In B w→s.In B' w':=by
 induction s with
 | no=>exact fun _=>trivial
 | mk h x e t l it il=>exact fun⟨h1,h2,h3,h4,h5,h6,h7⟩=>⟨h1,h2.stay hb hB,h3.stay hb hB,h4.stay hb hB,fun i hi=>it i (h5 i hi),h6.stay hb hB,fun i hi=>il i (h7 i hi)⟩
theorem SsIn.stay {B B':Nat}{w w':World}{s:Sl}{k:Nat→St}(h:SsIn B w s k)(hb:Stay B w w')(hB:B≤B'):SsIn B' w' s k:=
 ⟨h.1,h.2.1.stay hb hB,fun i hi=>(h.2.2 i hi).stay hb hB⟩
theorem De.In.stay {B B':Nat}{w w':World}{d:De}(h:d.In B w)(hb:Stay B w w')(hB:B≤B'):d.In B' w':=⟨h.1,h.2.1.stay hb hB,h.2.2.stay hb hB⟩
theorem DsIn.stay {B B':Nat}{w w':World}{s:Sl}{k:Nat→De}(h:DsIn B w s k)(hb:Stay B w w')(hB:B≤B'):DsIn B' w' s k:=
 ⟨h.1,h.2.1.stay hb hB,fun i hi=>(h.2.2 i hi).stay hb hB⟩
theorem stay_up (D:Nat→Prop)(w:World):Stay w.heap.size (up D w) w:=fun _ _ _ h=>(up_cell.1 h).2
theorem stay_imp {D D':Nat→Prop}{B:Nat}(h:∀k,k<B→D k→D' k)(w:World):Stay B (up D w) (up D' w):=fun _ _ hp g=>up_cell.2 ⟨h _ hp (up_cell.1 g).1,(up_cell.1 g).2⟩
theorem stay_fx {X D:Nat→Prop}{w w':World}(h:Fx X w.heap.size w w')(hX:∀k,X k→¬D k):Stay w.heap.size (up D w) (up D w'):=fun p v hp g=>by
 obtain⟨g1,g2⟩:=up_cell.1 g;refine up_cell.2 ⟨g1,?_⟩;rw[←g2];exact World.cell?_of_block (w:=w) (h.block p.block hp fun x=>hX _ x g1)
def Fro (L:Nat):Nat→Prop:=fun k=>L≤k
def XO (D:Nat→Prop)(e:Ex)(w:World):Prop:=e.In w.heap.size (up D w)
theorem XO.fx {X D:Nat→Prop}{e:Ex}{w w':World}(h:XO D e w)(hf:Fx X w.heap.size w w')(hX:∀k,X k→¬D k):XO D e w':=Ex.In.stay (stay_fx hf hX) hf.size h
theorem XO.imp {D D':Nat→Prop}{e:Ex}{w:World}(h:XO D e w)(hD:∀k,k<w.heap.size→D k→D' k):XO D' e w:=Ex.In.stay (stay_imp hD w) (Nat.le_refl _) h
def Ex.eqv:Ex→Ex→Prop
 | .no,f=>hdS zeroH f.h=true∧f.h.ps=0
 | .mk h k,f=>hdS h f.h=true∧f.h.ps=h.ps∧∀i,i<h.s.n→(k i).eqv (f.k i)
theorem Ex.eqv_iff (e f:Ex):e.eqv f↔hdS e.h f.h=true∧f.h.ps=e.h.ps∧∀i,i<e.h.s.n→(e.k i).eqv (f.k i):=by
 cases e with
 | no=>exact⟨fun h=>⟨h.1,h.2,fun i hi=>absurd hi (Nat.not_lt_zero i)⟩,fun h=>⟨h.1,h.2.1⟩⟩
 | mk h k=>exact Iff.rfl
theorem hdS_refl (h:EH):hdS h h=true:=by simp[hdS]
theorem Ex.eqv_refl (e:Ex):e.eqv e:=by
 induction e using Ex.ind with
 | H e ih=>exact(Ex.eqv_iff e e).2 ⟨hdS_refl _,rfl,ih⟩
theorem Ex.eqv_same {e:Ex}:∀ {f:Ex},e.eqv f→e.same f=true:=by
 induction e using Ex.ind with
 | H e ih=>
  intro f h;obtain⟨h1,h2,h3⟩:=(Ex.eqv_iff e f).1 h;rw[Ex.same_hd,Bool.and_eq_true];exact⟨h1,al_iff.2 fun i hi=>ih i hi (h3 i hi)⟩
def VD (D:Nat→Prop)(e:Ex)(v:Value)(w:World):Prop:=∃e':Ex,v=e'.h.v∧XO D e' w∧e'.eqv e
def VX (L:Nat)(e:Ex)(v:Value)(w:World):Prop:=∃e':Ex,v=e'.h.v∧XO (Fro L) e' w∧e'.eqv e
theorem fx_row {X:Nat→Prop}{a w:World}(h:Fx X a.heap.size a w){g:Nat}(hp:X g∨a.heap.size≤g)(cs:Array Value):Fx X a.heap.size a (w.setRow g cs):=by
 have e:=below_setRow (Below.refl 0 w) (Nat.zero_le g) cs;refine h.trans ⟨e.os,e.tape,e.output,e.size,fun k hk hx=>setRow_other w g k cs ?_⟩;rintro rfl;rcases hp with hp|hp
 ·exact hx hp
 ·omega
theorem Rdr.row {R d:Nat}{s:PS}{w:World}(h:Rdr R d s w){g:Nat}(hp:R<g)(cs:Array Value):Rdr R d s (w.setRow g cs):=
 h.below (below_setRow (Below.refl (R+1) w) hp cs) (Nat.lt_succ_self _)
theorem Blk.rowS {w:World}{g:Nat}{t:TypeId}{old:Array Value}(h:Blk w g t old)(cs:Array Value):Blk (w.setRow g cs) g t cs:=setRow_heap w g old cs t (0,0) h
theorem XO.row {D:Nat→Prop}{e:Ex}{w:World}(h:XO D e w){g:Nat}(hg:¬D g)(cs:Array Value):XO D e (w.setRow g cs):=h.fx (X:=On g) (fx_row (X:=On g) (Fx.refl _ _ _) (g:=g) (.inl rfl) cs) (fun k (x:k=g)=>by rw[x];exact hg)
theorem Blk.off {w:World}{g k:Nat}{t:TypeId}{old:Array Value}(h:Blk w k t old)(hk:k≠g)(cs:Array Value):Blk (w.setRow g cs) k t old:=(setRow_other w g k cs hk).trans h
theorem row_size (w:World)(g:Nat)(cs:Array Value):(w.setRow g cs).heap.size=w.heap.size:=by simp[World.setRow]
def Tk.vs (t:Tk):Array Value:=#[.int .u8 t.kd,.int .i64 t.ps,.string ⟨t.tx.toArray⟩,.int .i32 t.nn,.int .u64 t.ff]
def EH.va (h:EH):Array Value:=#[.int .u8 h.op,.int .i64 h.ps,.bool h.bo,.int .i32 h.it,.int .u64 h.fl,.string ⟨h.nm.toArray⟩,.slice h.s.ao h.s.n h.s.c]
def zX:Obj:=.cells #[.int .u8 0,.int .i64 0,.bool false,.int .i32 0,.int .u64 0,.string ⟨#[]⟩,.slice none 0 0] 42
section
variable {ops:Array Oper} {rest:List Oper} {o:Oper} {a:Act} {w:World} {Q:Exit→Act→World→Prop}
theorem st_tok (t:Tk)(g:Nat)(old:Array Value)(hg:Blk w g 133 old)(hold:old.size=5)(hgd:o.guard=none)(x y:Operand)(ho:o.op=.store 133 x y)(hx:a.eval x=.pointer (some ⟨g,0,none⟩))(hy:a.eval y=t.v)
  (h:wpList Tryz.prog ops Q rest (a.put o.dst undef) (w.setRow g t.vs)):wpList Tryz.prog ops Q (o::rest) a w:=
 wpList_store_row hgd 133 x y ho g t.vs hx hy 133 old hg (by kernel_rfl) hold (by simp[Tk.vs,Value.oneCell']) h
theorem st_ex (e:EH)(g:Nat)(old:Array Value)(hg:Blk w g 42 old)(hold:old.size=7)(hgd:o.guard=none)(x y:Operand)(ho:o.op=.store 42 x y)(hx:a.eval x=.pointer (some ⟨g,0,none⟩))(hy:a.eval y=e.v)
  (h:wpList Tryz.prog ops Q rest (a.put o.dst undef) (w.setRow g e.va)):wpList Tryz.prog ops Q (o::rest) a w:=
 wpList_store_row hgd 42 x y ho g e.va hx hy 42 old hg (by kernel_rfl) hold (by simp[EH.va,Value.oneCell']) h
theorem ld_ex (e:EH)(g:Nat)(hg:Blk w g 42 e.va)(hgd:o.guard=none)(x:Operand)(ho:o.op=.load 42 x)(hx:a.eval x=.pointer (some ⟨g,0,none⟩))
  (h:wpList Tryz.prog ops Q rest (a.put o.dst (.agg #[.int .u8 e.op,.int .i64 e.ps,.bool e.bo,.int .i32 e.it,.int .u64 e.fl,.string ⟨e.nm.toArray⟩,.slice e.s.ao e.s.n e.s.c])) w):wpList Tryz.prog ops Q (o::rest) a w:=
 wpList_load_row hgd 42 x ho g hx 42 e.va (0,0) _ hg Tryz.underlying42 rfl (by kernel_rfl) h
end
theorem rs_tok {fn:Func}{p:Tmp}(h:fn.results=#[.cell p 133])(tmps:Array Value)(w:World)(g:Nat)(t:Tk)(hp:tmps.getD p undef=.pointer (some ⟨g,0,none⟩))(hg:Blk w g 133 t.vs):(results fn tmps).run Tryz.prog w=.ok t.v w:=
 results_cell_row h tmps w g 133 t.vs (0,0) _ hp hg Tryz.underlying133 rfl (by kernel_rfl)
theorem rs_ex {fn:Func}{p:Tmp}(h:fn.results=#[.cell p 42])(tmps:Array Value)(w:World)(g:Nat)(e:EH)(hp:tmps.getD p undef=.pointer (some ⟨g,0,none⟩))(hg:Blk w g 42 e.va):(results fn tmps).run Tryz.prog w=.ok e.v w:=
 results_cell_row h tmps w g 42 e.va (0,0) _ hp hg Tryz.underlying42 rfl (by kernel_rfl)
theorem bx_ex (w:World)(e:EH):Blk (bx w (xO e)) w.heap.size 42 e.va:=bx_new w (xO e)
def Runs (n:Nat):Prop:=∀(args:Array Value) (w:World),(callFunc n args).run Tryz.prog w=.ok (.enter n args) w
def Reads (R d n:Nat)(p:PS→Rs Ex):Prop:=∀(s:PS) (w:World),Rdr R d s w→Calls Tryz.prog n #[.pointer (some ⟨R,0,none⟩)] w (PO R d w (p s) (VX w.heap.size))
theorem whole_ok {e a:Ex}{s s':PS}(h:whole e s=.ok a s'):a=e:=by
 unfold whole at h
 split at h
 ·cases h
 ·cases h;rfl
theorem XO.bel {D:Nat→Prop}{e:Ex}{w w':World}(h:XO D e w)(hb:Below w.heap.size w w'):XO D e w':=h.fx (X:=fun _=>False) (Fx.of hb) (fun _ x=>x.elim)
theorem bel_one (w:World)(o:Obj):Below w.heap.size w (w.alloc o):=(Below.refl _ _).alloc (Nat.le_refl _) o
theorem on_not {R:Nat}{D:Nat→Prop}(h:¬D R):∀k,On R k→¬D k:=fun k (x:k=R)=>by rw[x];exact h
theorem on_fro {R L:Nat}(h:R<L):∀k,On R k→¬Fro L k:=on_not (fun x:L≤R=>by omega)
theorem on_ne {R g:Nat}(h:R<g):¬On R g:=fun x=>by unfold On at x;omega
theorem eh_ok {op ps it fl:Int}{bo:Bool}{nm:List UInt8}{s:Sl}(ho0:0≤op)(ho1:op≤255)(hp0:0≤ps)(hp1:ps≤16384)(hi0:-2147483648≤it)(hi1:it≤2147483647)(hf0:0≤fl)(hf1:fl<18446744073709551616)(hn:nm.length≤16384)(hs:s.ok) :
  (⟨op,ps,bo,it,fl,nm,s⟩:EH).ok:=
 ⟨ho0,ho1,by dsimp only;omega,by dsimp only;omega,hi0,hi1,⟨hf0,hf1⟩,Nat.le_trans hn (by unfold maxLen;decide),hs⟩
theorem sl_ok (a:Addr)(n:Nat)(h:n≤1000000):(⟨some a,n,n⟩:Sl).ok:=⟨Nat.le_refl _,Nat.le_trans h (by unfold maxLen;decide),fun e=>by cases e⟩
theorem sl_no:(⟨none,0,0⟩:Sl).ok:=⟨Nat.le_refl _,Nat.zero_le _,fun _=>rfl⟩
theorem two_in {D:Nat→Prop}{w:World}{e f:Ex}{op ps:Int}(h1:XO D e w)(h2:XO D f w)(hL:D w.heap.size)(ho0:0≤op)(ho1:op≤255)(hp0:0≤ps)(hp1:ps≤16384)
  {w':World} {t:TypeId} (hw:w'=w.alloc (.cells (e.h.vs++f.h.vs).toArray t)) :
  XO D (.mk ⟨op,ps,false,0,0,[],⟨some ⟨w.heap.size,0,none⟩,2,2⟩⟩ (fun i=>if i=0 then e else f)) w':=by
 subst hw;have k:∀x:Ex,XO D x w→XO D x (w.alloc (.cells (e.h.vs++f.h.vs).toArray t)):=fun x hx=>hx.fx (X:=fun _=>False) (Fx.of ((Below.refl _ _).alloc (Nat.le_refl _) _)) (fun _ h=>h.elim);refine⟨eh_ok ho0 ho1 hp0 hp1 (by decide) (by decide) (by decide) (by decide) (Nat.zero_le _) (sl_ok _ _ (by decide)),?_,?_⟩
 ·intro a ha i hi
  cases ha;have hi:i<2:=hi;refine⟨by rw[World.size_alloc];exact Nat.lt_succ_self _,fun j v hv=>?_⟩;have hb:=Blk.new w t (e.h.vs++f.h.vs).toArray
  have hj:j<7:=by
   have:=(List.getElem?_eq_some_iff.1 hv).1
   simpa [EH.vs] using this
  rw[up_cell,Addr.add_mid];refine⟨hL,?_⟩;rw[Nat.zero_add,hb.cell];simp only[List.getElem?_toArray];rcases(show i=0∨i=1 by omega)with rfl|rfl
  ·simp only[if_pos]at hv
   rw[List.getElem?_append_left (by simp[EH.vs];omega)]
   simpa using hv
  ·rw[List.getElem?_append_right (by simp[EH.vs])]
   simpa [EH.vs] using hv
 ·intro i hi
  dsimp only;split
  ·exact k e h1
  ·exact k f h2
theorem one_in {D:Nat→Prop}{w:World}{e:Ex}{op ps:Int}{nm:List UInt8}(h1:XO D e w)(hL:D w.heap.size)(ho0:0≤op)(ho1:op≤255)(hp0:0≤ps)(hp1:ps≤16384)(hn:nm.length≤16384)
  {w':World} {t:TypeId} (hw:w'=w.alloc (.cells e.h.vs.toArray t)) :
  XO D (.mk ⟨op,ps,false,0,0,nm,⟨some ⟨w.heap.size,0,none⟩,1,1⟩⟩ (fun _=>e)) w':=by
 subst hw;have k:XO D e (w.alloc (.cells e.h.vs.toArray t)):=h1.fx (X:=fun _=>False) (Fx.of ((Below.refl _ _).alloc (Nat.le_refl _) _)) (fun _ h=>h.elim);refine⟨eh_ok ho0 ho1 hp0 hp1 (by decide) (by decide) (by decide) (by decide) hn (sl_ok _ _ (by decide)),?_,fun i hi=>k⟩;intro a ha i hi;cases ha;have hi:i<1:=hi;refine⟨by rw[World.size_alloc];exact Nat.lt_succ_self _,fun j v hv=>?_⟩;have hb:=Blk.new w t e.h.vs.toArray
 have hj:j<7:=by
  have:=(List.getElem?_eq_some_iff.1 hv).1
  simpa [EH.vs] using this
 rw[up_cell,Addr.add_mid];refine⟨hL,?_⟩;rw[Nat.zero_add,hb.cell];simp only[List.getElem?_toArray];obtain rfl:i=0:=by omega
 simpa using hv
theorem two_eqv {e f a b:Ex}{op ps:Int}{A:Option Addr}{c:Nat}(h1:e.eqv a)(h2:f.eqv b):(Ex.mk ⟨op,ps,false,0,0,[],⟨A,2,c⟩⟩ (fun i=>if i=0 then e else f)).eqv (opX op ps [a,b]):=by
 refine⟨by simp[hdS,opX,Ex.h],rfl,fun i hi=>?_⟩;have hi:i<2:=hi;rcases(show i=0∨i=1 by omega)with rfl|rfl
 ·exact h1
 ·exact h2
theorem one_eqv {e a:Ex}{op ps:Int}{A:Option Addr}{c:Nat}(h1:e.eqv a):(Ex.mk ⟨op,ps,false,0,0,[],⟨A,1,c⟩⟩ (fun _=>e)).eqv (opX op ps [a]):=by
 refine⟨by simp[hdS,opX,Ex.h],rfl,fun i hi=>?_⟩;have hi:i<1:=hi;obtain rfl:i=0:=by omega
 exact h1
theorem ppfail_any (c p:Int)(w:World):Calls Tryz.prog 80 #[.int .i64 c,.int .i64 p] w fun e w'=>e=.panicked (flP c p)∧w'=w:=by
 go_enter Tryz.func80,Tryz.ntmps80;go_wp2_with fail;exact⟨rfl,rfl,rfl⟩
theorem ppnext_any (R d:Nat)(s:PS)(w:World)(h:Rdr R d s w):Calls Tryz.prog 99 #[.pointer (some ⟨R,0,none⟩)] w fun e w'=>e=.returned s.hd.v∧Below w.heap.size w w':=by
 obtain⟨T,o,c,C⟩:=h.rc;have hp:=C.good.pos;have r0:w.cell? ⟨R,0,none⟩=some (.slice (some ⟨T,o,none⟩) s.ts.length c):=C.blk.cell 0;have lR:=C.blk.lt;have lT:T<w.heap.size:=Nat.lt_trans C.tr C.blk.lt;have c0:=C.c0;have c1:=C.c1;have c2:=C.c2;have c3:=C.c3;have c4:=C.c4;have ht:s.hd.v=.agg #[.int .u8 s.hd.kd,.int .i64 s.hd.ps,.string ⟨s.hd.tx.toArray⟩,.int .i32 s.hd.nn,.int .u64 s.hd.ff]:=rfl;generalize s.ts.length=n at *;have hn:¬n=0:=by omega
 clear C h;go_enter Tryz.func99,Tryz.ntmps99;go_wp2_with fail;exact bodyPost_ret (v:=s.hd.v) (by rw[ht];simp[results,Tryz.results99,go_sem]) rfl ⟨rfl,(Below.refl _ _).alloc (Nat.le_refl _) _⟩
theorem pptake_any (R d:Nat)(s:PS)(w:World)(h:Rdr R d s w)(hk:s.hd.kd≠0) :
  Calls Tryz.prog 100 #[.pointer (some ⟨R,0,none⟩)] w fun e w'=>e=.returned s.hd.v∧Rdr R d s.tk w'∧Fx (On R) w.heap.size w w':=by
 obtain⟨T,o,c,C⟩:=h.rc;have hg:=C.good.tail hk;have hl:=tk_len C.good;have hp:0<s.tk.ts.length:=hg.pos;have r0:w.cell? ⟨R,0,none⟩=some (.slice (some ⟨T,o,none⟩) s.ts.length c):=C.blk.cell 0;have f0:w.frozen? ⟨R,0,none⟩=false:=C.blk.frozen 0;have lR:=C.blk.lt;have nT:=C.tr;have lT:T<w.heap.size:=Nat.lt_trans C.tr C.blk.lt;have lc:=C.lc;have cm:=C.cm;have c0:=C.c0;have c1:=C.c1;have c2:=C.c2;have c3:=C.c3;have c4:=C.c4;have ht:s.hd.v=.agg #[.int .u8 s.hd.kd,.int .i64 s.hd.ps,.string ⟨s.hd.tx.toArray⟩,.int .i32 s.hd.nn,.int .u64 s.hd.ff]:=rfl;have CC:=Hj C;have HL:=Hj hl;have HP:Hid (0<s.tk.ts.length):=hp;unfold maxLen at cm;generalize hN:s.ts.length=n at *;have HN:=Hj hN;clear hN;have hn:¬n=0:=by omega
 have hn1:1≤n:=by omega
 have hc:¬c=1:=by omega
 clear C h hp hl hg;go_enter Tryz.func100,Tryz.ntmps100;go_wp2_with fail;refine bodyPost_ret (v:=s.hd.v) (by rw[ht];simp[results,Tryz.results100,go_sem]) rfl ⟨rfl,?_,?_⟩
 ·have b:=CC.out.blk.set_ 0 (.slice (some ⟨T,o+5,none⟩) (n-1) (c-1))
  rw[←HN.out]at b;refine CC.out.tk hk (by rw[←HN.out];exact(b.alloc _).alloc _) ?_;rw[Below.heap_alloc _ _ _ (by rw[World.size_alloc,World.size_setCell];omega),Below.heap_alloc _ _ _ (by rw[World.size_setCell];omega),Below.heap_setCell _ _ _ _ (by simp;omega)]
 ·exact fx_alloc (fx_alloc (fx_set (X:=On R) (Fx.refl _ _ _) (p:=⟨R,0,none⟩) (.inl rfl) _) _) _
theorem tkv_kd (t:Tk)(w:World):(Instr.field 133 t.v 0).run Tryz.prog w=.ok (.int .u8 t.kd) w:=by kernel_rfl
theorem tkv_ps (t:Tk)(w:World):(Instr.field 133 t.v 1).run Tryz.prog w=.ok (.int .i64 t.ps) w:=by kernel_rfl
theorem tkv_tx (t:Tk)(w:World):(Instr.field 133 t.v 2).run Tryz.prog w=.ok (.string ⟨t.tx.toArray⟩) w:=by kernel_rfl
theorem tkv_nn (t:Tk)(w:World):(Instr.field 133 t.v 3).run Tryz.prog w=.ok (.int .i32 t.nn) w:=by kernel_rfl
theorem tkv_ff (t:Tk)(w:World):(Instr.field 133 t.v 4).run Tryz.prog w=.ok (.int .u64 t.ff) w:=by kernel_rfl
theorem ppsees_any (R d:Nat)(s:PS)(x:List UInt8)(w:World)(h:Rdr R d s w) :
  Calls Tryz.prog 101 #[.pointer (some ⟨R,0,none⟩),.string ⟨x.toArray⟩] w fun e w'=>e=.returned (.bool (s.hd.tx == x))∧Below w.heap.size w w':=by
 have ft:=fun w=>tkv_tx s.hd w;go_enter Tryz.func101,Tryz.ntmps101;go_wp2_with fail;refine(ppnext_any R d s w h).mono ?_;rintro e w1 ⟨rfl,hb⟩;go_wp2_with fail;go_ret;exact⟨rfl,hb⟩
theorem pprefuse_any (R d:Nat)(s:PS)(w:World)(h:Rdr R d s w) :
  Calls Tryz.prog 98 #[.pointer (some ⟨R,0,none⟩)] w fun e w'=>e=.panicked (flP 110 s.hd.ps)∧Below w.heap.size w w':=by
 have ft:=fun w=>tkv_ps s.hd w;go_enter Tryz.func98,Tryz.ntmps98;go_wp2_with fail;refine(ppnext_any R d s w h).mono ?_;rintro e w1 ⟨rfl,hb⟩;go_wp2_with fail;refine(ppfail_any _ _ _).mono ?_;rintro e w2 ⟨rfl,rfl⟩;go_wp2_with fail;exact⟨rfl,rfl,hb⟩
theorem beq_yes {a b:List UInt8}(h:a=b):(a == b)=true:=by simp[h]
theorem beq_no {a b:List UInt8}(h:¬a=b):(a == b)=false:=by simp[h]
def acS (s:PS)(x:List UInt8):PS:=if s.hd.tx=x then s.tk else s
theorem ppaccept_any (R d:Nat)(s:PS)(x:List UInt8)(hx:x≠[])(w:World)(h:Rdr R d s w) :
  Calls Tryz.prog 97 #[.pointer (some ⟨R,0,none⟩),.string ⟨x.toArray⟩] w fun e w'=>e=.returned (.bool (s.hd.tx == x))∧Rdr R d (acS s x) w'∧Fx (On R) w.heap.size w w':=by
 have HS:=Hj (ppsees_any R d s x w h)
 by_cases c:s.hd.tx=x
 ·have e1:=beq_yes c
  have e2:acS s x=s.tk:=if_pos c;have hk:s.hd.kd≠0:=h.good.kd (by rw[←PS.hd,c];exact hx);rw[e1]at HS ⊢;rw[e2];clear e1 e2;go_enter Tryz.func97,Tryz.ntmps97;go_wp2_with fail;refine HS.out.mono ?_;rintro e w1 ⟨rfl,hb⟩;have h1:=h.below hb h.lt;clear HS h;go_wp2_with fail;refine(pptake_any R d s w1 h1 hk).mono ?_;rintro e w2 ⟨rfl,hr,hf⟩;have F:=fx_trans (Fx.of hb) hf;clear hf hb h1;go_wp2_with fail;go_ret;exact⟨rfl,hr,F⟩
 ·have e1:=beq_no c
  have e2:acS s x=s:=if_neg c;rw[e1]at HS ⊢;rw[e2];clear e1 e2;go_enter Tryz.func97,Tryz.ntmps97;go_wp2_with fail;refine HS.out.mono ?_;rintro e w1 ⟨rfl,hb⟩;have h1:=h.below hb h.lt;clear HS h;go_wp2_with fail;go_ret;exact⟨rfl,h1,Fx.of hb⟩
theorem ppexpect_any (R d:Nat)(s:PS)(x:List UInt8)(hx:x≠[])(w:World)(h:Rdr R d s w) :
  Calls Tryz.prog 81 #[.pointer (some ⟨R,0,none⟩),.string ⟨x.toArray⟩] w (PO R d w (expT x s) V0):=by
 have HS:=Hj (ppaccept_any R d s x hx w h)
 by_cases c:s.hd.tx=x
 ·have e1:=beq_yes c
  have e2:acS s x=s.tk:=if_pos c;have e3:expT x s=.ok () s.tk:=if_pos c;rw[e1,e2]at HS;rw[e3];clear e1 e2 e3 h;go_enter Tryz.func81,Tryz.ntmps81;go_wp2_with fail;refine HS.out.mono ?_;rintro e w1 ⟨rfl,hr,hf⟩;clear HS;go_wp2_with fail
  go_end0
  exact⟨_,rfl,rfl,hr,hf⟩
 ·have e1:=beq_no c
  have e2:acS s x=s:=if_neg c;have e3:expT x s=.no 110 s.hd.ps:=if_neg c;rw[e1,e2]at HS;rw[e3];clear e1 e2 e3 h;go_enter Tryz.func81,Tryz.ntmps81;go_wp2_with fail;refine HS.out.mono ?_;rintro e w1 ⟨rfl,hr,hf⟩;clear HS;go_wp2_with fail;refine(pprefuse_any R d s w1 hr).mono ?_;rintro e w2 ⟨rfl,hb⟩;have F:=fx_bel hf hb;clear hf hb hr;go_wp2_with fail;exact⟨rfl,rfl,F⟩
theorem pptakeKind_any (R d:Nat)(s:PS)(k:Int)(hk:k≠0)(w:World)(h:Rdr R d s w) :
  Calls Tryz.prog 82 #[.pointer (some ⟨R,0,none⟩),.int .u8 k] w (PO R d w (kindT k s) fun t v _=>v=t.v):=by
 have ft:=fun w=>tkv_kd s.hd w
 by_cases c:s.hd.kd=k
 ·have e3:kindT k s=.ok s.hd s.tk:=if_pos c
  have hk':s.hd.kd≠0:=by rw[c];exact hk
  rw[e3];clear e3 hk;subst c;have B:Hid (Blk (w.alloc (.cells #[.int .u8 0,.int .i64 0,.string ⟨#[]⟩,.int .i32 0,.int .u64 0] 133)) w.heap.size 133 #[.int .u8 0,.int .i64 0,.string ⟨#[]⟩,.int .i32 0,.int .u64 0]):=Blk.new _ _ _;have HR:=Hj h.lt;go_enter Tryz.func82,Tryz.ntmps82;go_wp2_with fail;refine(ppnext_any R d s _ (h.alloc _)).mono ?_;rintro e w1 ⟨rfl,hb⟩;have h1:=(h.alloc _).below hb (h.alloc _).lt;have F:=fx_bel (X:=On R) (fx_alloc (Fx.refl _ _ w) _) hb;have b1:=B.out.below hb B.out.lt;have H1:=Hj h1;clear h hb B;go_wp2_with fail;refine(pptake_any R d s _ H1.out hk').mono ?_;rintro e w2 ⟨rfl,h2,hf⟩;have hRs:R<w.heap.size:=HR.out;have B2:=Hj (hf.blk b1 b1.lt (fun x=>by unfold On at x;omega));have F2:=Hj (fx_trans F hf);have H2:=Hj h2;clear F hf h1 h2 b1
  go_wp2_with (refine st_tok s.hd w.heap.size _ B2.out rfl rfl _ _ rfl rfl rfl ?_)
  exact bodyPost_ret (rs_tok rfl _ _ w.heap.size s.hd rfl (B2.out.rowS _)) rfl ⟨_,rfl,rfl,H2.out.row hRs _,fx_row F2.out (.inr (Nat.le_refl _)) _⟩
 ·have e3:kindT k s=.no 110 s.hd.ps:=if_neg c
  rw[e3];clear e3;go_enter Tryz.func82,Tryz.ntmps82;go_wp2_with fail;refine(ppnext_any R d s _ (h.alloc _)).mono ?_;rintro e w1 ⟨rfl,hb⟩;have h1:=(h.alloc _).below hb (h.alloc _).lt;have F:=fx_bel (X:=On R) (fx_alloc (Fx.refl _ _ w) _) hb;clear h hb;go_wp2_with fail;refine(pprefuse_any R d s _ h1).mono ?_;rintro e w2 ⟨rfl,hf⟩;have F2:=fx_bel F hf;clear F hf h1;go_wp2_with fail;exact⟨rfl,rfl,F2⟩
theorem ppcount_any (R j n:Nat)(m p:Int)(w:World)(hc:w.cell? ⟨R,j,none⟩=some (.int .i64 (n:Int)))(hz:w.frozen? ⟨R,j,none⟩=false)(hn:(n:Int)<1000000) :
  Calls Tryz.prog 102 #[.pointer (some ⟨R,j,none⟩),.int .i64 m,.int .i64 p] w fun e w'=>if(n:Int)=m then e=.panicked (flP 112 p)∧w'=w else e=.returned (.tuple #[])∧w'=w.setCell ⟨R,j,none⟩ (.int .i64 ((n:Int)+1)):=by
 by_cases c:(n:Int)=m
 ·simp only[if_pos c]
  go_enter Tryz.func102,Tryz.ntmps102;go_wp2_with fail;refine(ppfail_any _ _ _).mono ?_;rintro e w2 ⟨rfl,rfl⟩;go_wp2_with fail;exact⟨rfl,rfl,rfl⟩
 ·simp only[if_neg c]
  have ov:IntKind.i64.wrap ((n:Int)+1)=(n:Int)+1:=by rw[IntKind.wrap_i64];omega
  clear hn;go_enter Tryz.func102,Tryz.ntmps102;go_wp2_with fail;exact bodyPost_end (results_none rfl _ _ _) rfl ⟨rfl,rfl⟩
theorem ppcomplete_any (R d:Nat)(s:PS)(e:EH)(w:World)(h:Rdr R d s w)(e0:Ex)(he:e0.h.ps=e.ps) :
  Calls Tryz.prog 228 #[.pointer (some ⟨R,0,none⟩),e.v] w (PO R d w (whole e0 s) fun _ v _=>v=e.v):=by
 obtain⟨T,o,c,C⟩:=h.rc;have CC:=Hj C;have r3:w.cell? ⟨R,3,none⟩=some (.int .i64 (s.nx:Int)):=C.blk.cell 3;have f3:w.frozen? ⟨R,3,none⟩=false:=C.blk.frozen 3;have lR:=C.blk.lt;have nx:=C.nx;clear C h;show Calls Tryz.prog 228 #[.pointer (some ⟨R,0,none⟩),.agg #[.int .u8 e.op,.int .i64 e.ps,.bool e.bo,.int .i32 e.it,.int .u64 e.fl,.string ⟨e.nm.toArray⟩,.slice e.s.ao e.s.n e.s.c]] w _;go_enter Tryz.func228,Tryz.ntmps228;have OB:Hid (Blk (bx w (xO e)) w.heap.size 42 e.va):=bx_ex w e;have KC:=Hj (ppcount_any R 3 s.nx 2000 e.ps);go_upto_region 1 with fail;rw[bx_x];have z1:(bx w (xO e)).heap.size=w.heap.size+1:=bx_size _ _;have F0:Below w.heap.size w (bx w (xO e)):=bx_bel (Below.refl _ _) (Nat.le_refl _) _;generalize bx w (xO e)=wx at *;have OB2:=Hj (OB.out.alloc zX);have NB:Hid (Blk (wx.alloc zX) (w.heap.size+1) 42 zeroH.va):=by rw[←z1];exact Blk.new _ _ _
 have F1:=bel_drew (bel_alloc F0 zX);have e1:(wx.alloc zX).cell? ⟨w.heap.size,1,none⟩=some (.int .i64 e.ps):=OB2.out.cell 1;clear F0 OB z1;change (Code.region 1 _ _).wp _ _ _ (wx.alloc zX);generalize wx.alloc zX=wy at *
 go_still_tail 5,(by kernel_rfl)
 have HC:Hid (RdC R d T o c s wy.drew):=CC.out.below F1 lR;have F2:=Hj F1;have OB3:Hid (Blk wy.drew w.heap.size 42 e.va):=OB2.out;have NB3:Hid (Blk wy.drew (w.heap.size+1) 42 zeroH.va):=NB.out;clear OB2 NB e1 F1;change wpList _ _ _ _ _ wy.drew;generalize wy.drew=wz at *;have KK:=KC.out wz (HC.out.blk.cell 3) (HC.out.blk.frozen 3) (by omega)
 by_cases c:s.nx=2000
 ·have e3:whole e0 s=.no 112 e.ps:=by rw[←he];exact if_pos c
  simp only[if_pos (show(s.nx:Int)=2000 by omega)]at KK;have KK2:=Hj KK;have E3:=Hj e3;clear KC KK e3 he;go_wp2_with fail;refine KK2.out.mono ?_;rintro r w2 ⟨rfl,rfl⟩;clear KK2;go_wp2_with fail;refine⟨rfl,?_⟩;rw[E3.out];exact⟨rfl,Fx.of F2.out⟩
 ·have e3:whole e0 s=.ok e0 ⟨s.ts,s.ns,s.nx+1⟩:=if_neg c
  simp only[if_neg (show ¬(s.nx:Int)=2000 by omega)]at KK;have KK2:=Hj KK;have E3:=Hj e3;clear KC KK e3 he;have HL:=Hj lR;have HN:Hid (s.nx+1≤2000):=by show s.nx+1≤2000;omega
  clear lR nx;go_wp2_with fail;refine KK2.out.mono ?_;rintro r w2 ⟨rfl,rfl⟩;clear KK2;have b1:=HC.out.blk.set_ 3 (.int .i64 ((s.nx:Int)+1));have hr:Hid (Rdr R d ⟨s.ts,s.ns,s.nx+1⟩ (wz.setCell ⟨R,3,none⟩ (.int .i64 ((s.nx:Int)+1)))):=HC.out.nums b1 (Below.heap_setCell _ _ _ _ (Nat.ne_of_lt HC.out.tr)) HC.out.ns HN.out HC.out.dp;have OB4:=Hj (OB3.out.far (p:=⟨R,3,none⟩) (Nat.ne_of_gt HL.out) (.int .i64 ((s.nx:Int)+1)));have NB4:=Hj (NB3.out.far (p:=⟨R,3,none⟩) (Nat.ne_of_gt (Nat.lt_succ_of_lt HL.out)) (.int .i64 ((s.nx:Int)+1)));have F3:=Hj (fx_set (X:=On R) (Fx.of F2.out) (p:=⟨R,3,none⟩) (.inl rfl) (.int .i64 ((s.nx:Int)+1)));clear b1 OB3 NB3 HC F2;generalize wz.setCell _ _=wu at *
  go_wp2_with (first
   | refine ld_ex e w.heap.size OB4.out rfl _ rfl rfl ?_
   | refine st_ex e (w.heap.size+1) _ NB4.out rfl rfl _ _ rfl rfl rfl ?_)
  refine bodyPost_ret (rs_ex rfl _ _ (w.heap.size+1) e rfl (NB4.out.rowS _)) rfl ?_;rw[E3.out];exact⟨_,rfl,rfl,hr.out.row (Nat.lt_succ_of_lt HL.out) _,fx_row F3.out (.inr (Nat.le_succ _)) _⟩
theorem pporSign_any (x:List UInt8)(w:World):Calls Tryz.prog 179 #[.string ⟨x.toArray⟩] w fun e w'=>e=.returned (.int .u8 (sgO 0 x))∧w'=w:=by
 go_enter Tryz.func179,Tryz.ntmps179;go_wp2_with fail
 all_goals
  go_ret;refine⟨?_,rfl⟩;simp only[beq_iff_eq,beq_eq_false_iff_ne,ne_eq]at *
  first
   | (subst_vars;rfl)
   | (unfold sgO;simp only[*];rfl)
theorem ppandSign_any (x:List UInt8)(w:World):Calls Tryz.prog 207 #[.string ⟨x.toArray⟩] w fun e w'=>e=.returned (.int .u8 (sgO 1 x))∧w'=w:=by
 go_enter Tryz.func207,Tryz.ntmps207;go_wp2_with fail
 all_goals
  go_ret;refine⟨?_,rfl⟩;simp only[beq_iff_eq,beq_eq_false_iff_ne,ne_eq]at *
  first
   | (subst_vars;rfl)
   | (unfold sgO;simp only[*];rfl)
theorem ppcmpSign_any (x:List UInt8)(w:World):Calls Tryz.prog 230 #[.string ⟨x.toArray⟩] w fun e w'=>e=.returned (.int .u8 (sgO 2 x))∧w'=w:=by
 go_enter Tryz.func230,Tryz.ntmps230;go_wp2_with fail
 all_goals
  go_ret;refine⟨?_,rfl⟩;simp only[beq_iff_eq,beq_eq_false_iff_ne,ne_eq]at *
  first
   | (subst_vars;rfl)
   | (unfold sgO;simp only[*];rfl)
theorem ppsumSign_any (x:List UInt8)(w:World):Calls Tryz.prog 245 #[.string ⟨x.toArray⟩] w fun e w'=>e=.returned (.int .u8 (sgO 3 x))∧w'=w:=by
 go_enter Tryz.func245,Tryz.ntmps245;go_wp2_with fail
 all_goals
  go_ret;refine⟨?_,rfl⟩;simp only[beq_iff_eq,beq_eq_false_iff_ne,ne_eq]at *
  first
   | (subst_vars;rfl)
   | (unfold sgO;simp only[*];rfl)
theorem ppprodSign_any (x:List UInt8)(w:World):Calls Tryz.prog 257 #[.string ⟨x.toArray⟩] w fun e w'=>e=.returned (.int .u8 (sgO 4 x))∧w'=w:=by
 go_enter Tryz.func257,Tryz.ntmps257;go_wp2_with fail
 all_goals
  go_ret;refine⟨?_,rfl⟩;simp only[beq_iff_eq,beq_eq_false_iff_ne,ne_eq]at *
  first
   | (subst_vars;rfl)
   | (unfold sgO;simp only[*];rfl)
theorem ppunarySign_any (x:List UInt8)(w:World):Calls Tryz.prog 267 #[.string ⟨x.toArray⟩] w fun e w'=>e=.returned (.int .u8 (unT x))∧w'=w:=by
 go_enter Tryz.func267,Tryz.ntmps267;go_wp2_with fail
 all_goals
  go_ret;refine⟨?_,rfl⟩;simp only[beq_iff_eq,beq_eq_false_iff_ne,ne_eq]at *
  first
   | (subst_vars;rfl)
   | (unfold unT;simp only[*];rfl)
theorem ppatomOp_any (t:Tk)(w:World):Calls Tryz.prog 277 #[t.v] w fun e w'=>e=.returned (.int .u8 (atT t))∧Below w.heap.size w w':=by
 show Calls Tryz.prog 277 #[.agg #[.int .u8 t.kd,.int .i64 t.ps,.string ⟨t.tx.toArray⟩,.int .i32 t.nn,.int .u64 t.ff]] w _;go_enter Tryz.func277,Tryz.ntmps277;go_wp2_with fail
 all_goals
  go_ret;refine⟨?_,(Below.refl _ _).alloc (Nat.le_refl _) _⟩;simp only[beq_iff_eq,beq_eq_false_iff_ne,ne_eq]at *;unfold atT;simp only[*]
  first|contradiction|rfl|(simp;done)
def Dbin (D:Nat→Prop)(w:World):Nat→Prop:=fun k=>D k∧k≠w.heap.size∧k≠w.heap.size+1
theorem ppbinary_of (R d n l:Nat)(p:PS→Rs Ex)(hp:Reads R d n p)(hn:Runs n)(s:PS)(e1 e:Ex)(w:World)(D:Nat→Prop)(hL:¬D R)(hLw:∀k,w.heap.size≤k→D k)(h:Rdr R d s w)(hk:s.hd.kd≠0)(hx:XO D e1 w)(he:e1.eqv e)
  (ho:0≤sgO l s.hd.tx∧sgO l s.hd.tx≤255) :
  Calls Tryz.prog 205 #[.pointer (some ⟨R,0,none⟩),.int .u8 (sgO l s.hd.tx),e1.h.v,.func (.func n) #[.pointer (some ⟨R,0,none⟩)] #[]] w (PO R d w (binr l p e s) (VD D)):=by
 have ft:=fun w=>tkv_ps s.hd w;have hcf:=hn #[.pointer (some ⟨R,0,none⟩)];clear hn;have hd:=h.good.hd;have P0:0≤s.hd.ps:=hd.ps0;have P1:s.hd.ps≤16384:=hd.ps1;have LR:=h.lt;have BL:Below w.heap.size w ((bx w (xO e1.h)).alloc zX):=bel_alloc (bx_bel (Below.refl _ _) (Nat.le_refl _) _) _;have HR:=Hj (h.below BL h.lt);have OB:Hid (Blk ((bx w (xO e1.h)).alloc zX) w.heap.size 42 e1.h.va):=(bx_ex w e1.h).alloc zX;have NB:Hid (Blk ((bx w (xO e1.h)).alloc zX) (w.heap.size+1) 42 zeroH.va):=by have:=Blk.new (bx w (xO e1.h)) 42 zeroH.va;rw[bx_size]at this;exact this
 have D1:¬Dbin D w R:=fun x=>hL x.1;have HX:=Hj ((hx.imp (D':=Dbin D w) (fun k hk x=>⟨x,by omega,by omega⟩)).bel BL);have HSZ:Hid (w.heap.size+2≤((bx w (xO e1.h)).alloc zX).heap.size):=by show w.heap.size+2≤_;rw[World.size_alloc,bx_size];exact Nat.le_refl _
 have HD:=Hj D1;clear D1;have HF:Hid (Fx (On R) w.heap.size w ((bx w (xO e1.h)).alloc zX)):=Fx.of BL;have HG:=Hj (And.intro h.good hk);have HO:=Hj (And.intro ho (And.intro P0 P1));have HLL:=Hj (And.intro hL (And.intro hLw LR));have HS:=Hj hd;clear BL h hx hd ho P0 P1 LR hk hL hLw;show Calls Tryz.prog 205 #[.pointer (some ⟨R,0,none⟩),.int .u8 (sgO l s.hd.tx),.agg #[.int .u8 e1.h.op,.int .i64 e1.h.ps,.bool e1.h.bo,.int .i32 e1.h.it,.int .u64 e1.h.fl,.string ⟨e1.h.nm.toArray⟩,.slice e1.h.s.ao e1.h.s.n e1.h.s.c],.func (.func n) #[.pointer (some ⟨R,0,none⟩)] #[]] w _;generalize hop:sgO l s.hd.tx=op at *;have HOP:=Hj hop;clear hop;go_enter Tryz.func205,Tryz.ntmps205;go_upto_region 1 with fail;rw[bx_x];change (Code.region 1 _ _).wp _ _ _ ((bx w (xO e1.h)).alloc zX);generalize (bx w (xO e1.h)).alloc zX=wy at *;go_wp2_with fail;refine(pptake_any R d s wy HR.out HG.out.2).mono ?_;rintro r w1 ⟨rfl,h1,f1⟩;have HR1:=Hj h1;have OB1:=Hj (f1.blk OB.out OB.out.lt (on_ne HLL.out.2.2));have NB1:=Hj (f1.blk NB.out NB.out.lt (on_ne (Nat.lt_succ_of_lt HLL.out.2.2)));have HX1:=Hj (HX.out.fx f1 (on_not HD.out));have HS1:=Hj (Nat.le_trans HSZ.out f1.size);have HF1:=Hj (fx_trans HF.out f1);clear HR OB NB HX HF f1 h1 HSZ
 go_wp2_with fail;refine(hp s.tk w1 HR1.out).mono ?_;intro r w2 hpo
 cases hres:p s.tk with
 | no c q=>
  rw[hres]at hpo;obtain⟨rfl,f2⟩:=hpo;have HF2:=Hj (fx_trans HF1.out f2);have E:Hid (binr l p e s=.no c q):=by show _=_;unfold binr;rw[hres];rfl
  clear f2 hres;go_wp2_with fail;refine⟨rfl,?_⟩;rw[E.out];exact⟨rfl,HF2.out⟩
 | ok b s2=>
  rw[hres]at hpo;obtain⟨v,rfl,⟨b',rfl,xb,eb⟩,h2,f2⟩:=hpo;have E:Hid (binr l p e s=whole (opX op s.hd.ps [e,b]) s2):=by show _=_;unfold binr;rw[hres,HOP.out];rfl
  have hs1:=HS1.out;have hs2:=f2.size;have BLb:=bx_bel (Below.refl w2.heap.size w2) (Nat.le_refl _) (xO b'.h);have HXb:=Hj ((xb.imp (D':=Dbin D w) (fun k _ (x:w1.heap.size≤k)=>⟨HLL.out.2.1 k (by omega),by omega,by omega⟩)).bel BLb);have HS3:Hid (w.heap.size+2≤(bx w2 (xO b'.h)).heap.size):=by show w.heap.size+2≤_;rw[bx_size];omega
  have BB:Hid (Blk (bx w2 (xO b'.h)) w2.heap.size 42 b'.h.va):=bx_ex w2 b'.h;have HR2:=Hj (h2.below BLb h2.lt);have o1:=f2.blk OB1.out OB1.out.lt (on_ne HLL.out.2.2);have n1:=f2.blk NB1.out NB1.out.lt (on_ne (Nat.lt_succ_of_lt HLL.out.2.2));have OB2:=Hj (o1.below BLb o1.lt);have NB2:=Hj (n1.below BLb n1.lt);have HX2:=Hj ((HX1.out.fx f2 (on_not HD.out)).bel BLb);have HF2:=Hj (fx_bel (fx_trans HF1.out f2) BLb);have EB:=Hj eb;clear hres HR1 OB1 NB1 HX1 HF1 o1 n1 xb eb h2 f2 BLb hs1 hs2 HS1;unfold EH.v;go_upto_region 3 with fail;rw[bx_x];generalize w2.heap.size=g at *;generalize bx w2 (xO b'.h)=w3 at *
  go_wp2_with (first
   | refine ld_ex e1.h w.heap.size OB2.out rfl _ rfl rfl ?_
   | refine ld_ex b'.h g BB.out rfl _ rfl rfl ?_)
  have BL4:=bel_one w3 (.cells (e1.h.vs++b'.h.vs).toArray 42);have HX4:=Hj (two_in (op:=op) (ps:=s.hd.ps) HX2.out HXb.out ⟨HLL.out.2.1 _ HF2.out.size,Nat.ne_of_gt (Nat.lt_of_lt_of_le (by omega) HS3.out),Nat.ne_of_gt (Nat.lt_of_lt_of_le (by omega) HS3.out)⟩ HO.out.1.1 HO.out.1.2 HO.out.2.1 HO.out.2.2 (t:=42) rfl);have HR4:=Hj (HR2.out.below BL4 HR2.out.lt);have NB4:=Hj (NB2.out.below BL4 NB2.out.lt);have HF4:=Hj (fx_bel HF2.out BL4);clear BL4 HX2 HXb HR2 OB2 NB2 HF2 BB;change Calls _ _ _ (w3.alloc (.cells (e1.h.vs++b'.h.vs).toArray 42)) _;generalize w3.alloc (.cells (e1.h.vs++b'.h.vs).toArray 42)=w4 at *;generalize w3.heap.size=k at *;refine(ppcomplete_any R d s2 ⟨op,s.hd.ps,false,0,0,[],⟨some ⟨k,0,none⟩,2,2⟩⟩ w4 HR4.out (opX op s.hd.ps [e,b]) rfl).mono ?_;intro r w5 hpo
  cases hres:whole (opX op s.hd.ps [e,b]) s2 with
  | no c q=>
   rw[hres]at hpo;obtain⟨rfl,f5⟩:=hpo;have HF5:=Hj (fx_trans HF4.out f5);have E5:=Hj (E.out.trans hres);clear f5 hres;go_wp2_with fail;refine⟨rfl,?_⟩;rw[E5.out];exact⟨rfl,HF5.out⟩
  | ok a s5=>
   rw[hres]at hpo;obtain⟨v,rfl,rfl,h5,f5⟩:=hpo;have E5:=Hj (E.out.trans hres);have ha:=whole_ok hres;subst ha;have HF5:=Hj (fx_trans HF4.out f5);have HR5:=Hj h5;have NB5:=Hj (f5.blk NB4.out NB4.out.lt (on_ne (Nat.lt_succ_of_lt HLL.out.2.2)));have HX5:=Hj (HX4.out.fx f5 (on_not HD.out));clear f5 hres h5 HX4 HR4 NB4 HF4 E
   go_wp2_with (refine st_ex ⟨op,s.hd.ps,false,0,0,[],⟨some ⟨k,0,none⟩,2,2⟩⟩ (w.heap.size+1) _ NB5.out rfl rfl _ _ rfl rfl rfl ?_)
   refine bodyPost_ret (rs_ex rfl _ _ (w.heap.size+1) ⟨op,s.hd.ps,false,0,0,[],⟨some ⟨k,0,none⟩,2,2⟩⟩ rfl (NB5.out.rowS _)) rfl ?_;rw[E5.out];exact⟨_,rfl,⟨_,rfl,(HX5.out.row (fun x=>x.2.2 rfl) _).imp (fun k _ x=>x.1),two_eqv he EB.out⟩,HR5.out.row (Nat.lt_succ_of_lt HLL.out.2.2) _,fx_row HF5.out (.inr (Nat.le_succ _)) _⟩
theorem ppchain_of (R d n m l:Nat)(p:PS→Rs Ex)(hp:Reads R d n p)(hn:Runs n)(hm:∀(x:List UInt8) (w:World),Calls Tryz.prog m #[.string ⟨x.toArray⟩] w fun e w'=>e=.returned (.int .u8 (sgO l x))∧w'=w)(hrm:Runs m)(hrd:Rdx p)
  (ho:∀x,0≤sgO l x∧sgO l x≤255) (s:PS) (w:World) (h:Rdr R d s w) :
  Calls Tryz.prog 177 #[.pointer (some ⟨R,0,none⟩),.func (.func n) #[.pointer (some ⟨R,0,none⟩)] #[],.func (.func m) #[] #[]] w (PO R d w ((p s).bind fun e s'=>chain l p (s'.ts.length+1) e s') (VX w.heap.size)):=by
 have ft:=fun t w=>tkv_tx t w;have hcn:=hn #[.pointer (some ⟨R,0,none⟩)];have hcm:=fun(x:List UInt8)=>hrm #[.string ⟨x.toArray⟩];have HPn:=Hj hn;clear hn hrm;have BL:=bel_one w zX;have HR:=Hj (h.alloc zX);have NB:Hid (Blk (w.alloc zX) w.heap.size 42 zeroH.va):=Blk.new _ _ _;have HLT:=Hj h.lt;have HF:Hid (Fx (On R) w.heap.size w (w.alloc zX)):=Fx.of BL;have HSZ:Hid (w.heap.size+1≤(w.alloc zX).heap.size):=by show w.heap.size+1≤_;rw[World.size_alloc];exact Nat.le_refl _
 have HGD:=Hj h.good;clear BL h;generalize hZ:(p s).bind (fun e s'=>chain l p (s'.ts.length+1) e s')=Z;have HZ:=Hj hZ;clear hZ;go_enter Tryz.func177,Tryz.ntmps177;go_upto_region 1 with fail;change (Code.region 1 _ _).wp _ _ _ (w.alloc zX);generalize w.alloc zX=wx at *;go_wp2_with fail;refine(hp s wx HR.out).mono ?_;intro r w1 hpo
 cases hres:p s with
 | no c q=>
  rw[hres]at hpo;obtain⟨rfl,f1⟩:=hpo;have HF1:=Hj (fx_trans HF.out f1);have E:Hid (Z=.no c q):=by show Z=_;rw[←HZ.out,hres];rfl
  clear f1 hres;go_wp2_with fail;refine⟨rfl,?_⟩;rw[E.out];exact⟨rfl,HF1.out⟩
 | ok e0 s0=>
  rw[hres]at hpo;obtain⟨v,rfl,⟨b,rfl,xb,eb⟩,h1,f1⟩:=hpo;have hlf:=(hrd s HGD.out) e0 s0 hres;have E:Hid (chain l p (s0.ts.length+1) e0 s0=Z):=by show _=Z;rw[←HZ.out,hres];rfl
  have BLb:=bx_bel (Below.refl w1.heap.size w1) (Nat.le_refl _) (xO b.h);have hs1:=f1.size;have hs0:=HSZ.out;have HX1:=Hj ((xb.imp (D':=fun k=>w.heap.size<k∧k≠w1.heap.size) (fun k hk (x:wx.heap.size≤k)=>⟨by omega,by omega⟩)).bel BLb);have HG1:Hid (w.heap.size<w1.heap.size):=by show w.heap.size<w1.heap.size;omega
  have BB:Hid (Blk (bx w1 (xO b.h)) w1.heap.size 42 b.h.va):=bx_ex w1 b.h;have HR1:=Hj (h1.below BLb h1.lt);have n1:=f1.blk NB.out NB.out.lt (on_ne HLT.out);have NB1:=Hj (n1.below BLb n1.lt);have HF1:=Hj (fx_bel (fx_trans HF.out f1) BLb);have EB:=Hj eb;have HSZ1:Hid (w1.heap.size<(bx w1 (xO b.h)).heap.size):=by show w1.heap.size<_;rw[bx_size];exact Nat.lt_succ_self _
  clear hres xb h1 f1 BLb hs1 hs0 HSZ HR NB HF eb n1 hlf HGD HZ;unfold EH.v;go_wp2_with fail;rw[bx_x];generalize w1.heap.size=g at *;generalize bx w1 (xO b.h)=w2 at *
  go_loopg [8] s0.ts.length (fun gk _ wr=>∃(e e':Ex) (s:PS) (f:Nat),Hid (gk=s.ts.length)∧Hid (Blk wr g 42 e'.h.va)∧Hid (XO (fun k=>w.heap.size<k∧k≠g) e' wr)∧Hid (e'.eqv e)∧Hid (Rdr R d s wr)∧Hid (Fx (On R) w.heap.size w wr)∧Hid (Blk wr w.heap.size 42 zeroH.va)∧Hid (s.ts.length<f)∧Hid (chain l p f e s=Z))
  case atStart=>exact⟨e0,b,s0,s0.ts.length+1,rfl,BB,HX1,EB,HR1,HF1,NB1,Nat.lt_succ_self _,E⟩
  case round=>
   clear BB HX1 EB HR1 HF1 NB1 E HSZ1;obtain⟨e,e',s,f,HGK,BB,HX,EB,HR,HF,NB,HFL,HZ⟩:=hrel;obtain⟨f,rfl⟩:∃f',f=f'+1:=⟨f - 1,by have:=HFL.out;omega⟩;have NX:=Hj (ppnext_any R d s wr HR.out)
   by_cases c:sgO l s.hd.tx=0
   ·have E:Hid (Z=.ok e s):=by show Z=_;rw[←HZ.out,chain,if_pos c]
    clear HZ;go_wp2_with fail;refine NX.out.mono ?_;rintro r w3 ⟨rfl,hb⟩;have BB2:=Hj (BB.out.below hb BB.out.lt);have NB2:=Hj (NB.out.below hb NB.out.lt);have HX2:=Hj (HX.out.bel hb);have HR2:=Hj (HR.out.below hb HR.out.lt);have HF2:=Hj (fx_bel HF.out hb);clear BB NB HX HR HF NX hb;go_wp2_with fail;refine(hm s.hd.tx w3).mono ?_;rintro r w4 ⟨rfl,rfl⟩;rw[c]
    go_wp2_with (first
     | refine ld_ex e'.h g BB2.out rfl _ rfl rfl ?_
     | refine st_ex e'.h w.heap.size _ NB2.out rfl rfl _ _ rfl rfl rfl ?_)
    refine bodyPost_ret (rs_ex rfl _ _ w.heap.size e'.h rfl (NB2.out.rowS _)) rfl ?_;rw[E.out];exact⟨_,rfl,⟨e',rfl,(HX2.out.row (fun x=>Nat.lt_irrefl _ x.1) _).imp (fun k _ x=>Nat.le_of_lt x.1),EB.out⟩,HR2.out.row HLT.out _,fx_row HF2.out (.inr (Nat.le_refl _)) _⟩
   ·have E:Hid ((binr l p e s).bind (fun e' s'=>chain l p f e' s')=Z):=by show _=Z;rw[←HZ.out,chain,if_neg c]
    have hk:s.hd.kd≠0:=HR.out.good.kd (sgO_ne c);have HK:=Hj hk;have HLF:=Hj (lf_bin (e:=e) hrd HR.out.good c);have c2:(sgO l s.hd.tx == 0)=false:=by simp[c]
    have BI:=Hj fun w D hL hLw h hx=>ppbinary_of R d n l p hp HPn.out s e' e w D hL hLw h hk hx EB.out (ho _);have HM:=Hj (hm s.hd.tx);have HPO:=Hj HR.out.good.pos;clear HZ hk c;generalize sgO l s.hd.tx=op at *;go_wp2_with fail;refine NX.out.mono ?_;rintro r w3 ⟨rfl,hb⟩;have BB2:=Hj (BB.out.below hb BB.out.lt);have NB2:=Hj (NB.out.below hb NB.out.lt);have HX2:=Hj (HX.out.bel hb);have HR2:=Hj (HR.out.below hb HR.out.lt);have HF2:=Hj (fx_bel HF.out hb);clear BB NB HX HR HF NX hb;go_wp2_with fail;refine(HM.out w3).mono ?_;rintro r w4 ⟨rfl,rfl⟩
    go_wp2_with (refine ld_ex e'.h g BB2.out rfl _ rfl rfl ?_)
    refine(BI.out w4 (fun k=>w.heap.size<k∧k≠g) (fun x=>Nat.lt_asymm x.1 HLT.out) (fun k hk=>⟨Nat.lt_of_lt_of_le (Nat.lt_trans HG1.out BB2.out.lt) hk,Nat.ne_of_gt (Nat.lt_of_lt_of_le BB2.out.lt hk)⟩) HR2.out HX2.out).mono ?_;intro r w5 hpo
    cases hres:binr l p e s with
    | no c q=>
     rw[hres]at hpo;obtain⟨rfl,f5⟩:=hpo;have HF5:=Hj (fx_trans HF2.out f5);have E5:Hid (Z=.no c q):=by show Z=_;rw[←E.out,hres];rfl
     clear f5 hres;go_wp2_with fail;refine⟨rfl,?_⟩;rw[E5.out];exact⟨rfl,HF5.out⟩
    | ok e2 s2=>
     rw[hres]at hpo;obtain⟨v,rfl,⟨b2,rfl,xb,eb⟩,h5,f5⟩:=hpo;have E5:Hid (chain l p f e2 s2=Z):=by show _=Z;rw[←E.out,hres];rfl
     have HL5:=Hj (HLF.out _ _ hres);have HF5:=Hj (fx_trans HF2.out f5);have HRg:Hid (R<g):=Nat.lt_trans HLT.out HG1.out;have BB5:=Hj (f5.blk BB2.out BB2.out.lt (on_ne HRg.out));have NB5:=Hj (f5.blk NB2.out NB2.out.lt (on_ne HLT.out));have HX5:=Hj xb;have HR5:=Hj h5;have EB5:=Hj eb;clear f5 hres xb h5 eb BB2 NB2 HF2 HR2 HX2 E HLF
     go_wp2_with (refine st_ex b2.h g _ BB5.out rfl rfl _ _ rfl rfl rfl ?_)
     go_roundg s2.ts.length
     case measure=>have:=HPO.out;have:=HL5.out.2.1;have:=HGK.out;omega
     case rel=>exact⟨e2,b2,s2,f,rfl,BB5.out.rowS _,HX5.out.row (fun x=>x.2 rfl) _,EB5,HR5.out.row HRg.out _,fx_row HF5.out (.inr (Nat.le_of_lt HG1.out)) _,NB5.out.off (Nat.ne_of_lt HG1.out) _,(by show s2.ts.length<f;have:=HPO.out;have:=HL5.out.2.1;have:=HFL.out;omega),E5⟩
theorem sgO_bd (l:Nat)(x:List UInt8):0≤sgO l x∧sgO l x≤255:=by
 unfold sgO
 (repeat' split)<;>decide
theorem runs_of {n:Nat}{fn:Func}{c:Code}(hf:Tryz.prog.funcs[n]? = some fn)(hname:(fn.name == "runtime.NumGoroutine")=false)(hb:fn.body=some c):Runs n:=fun args w=>by
 have h1:fn.name ≠ "runtime.NumGoroutine":=by simpa using hname
 simp[callFunc,hf,h1,hb]
end Go.Proofs.YtkbicfffokegeaaGreatDoor
