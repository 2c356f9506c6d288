/-
  Whatever program and statement are handed in, CheckMore answers true. (part 14 of 30) Conditions: none beside what the card ties.
-/
import Derived.Laws.Tables
import Derived.Laws.CopyOwn
import Derived.Test.YtkbicfffokegeaaGreatDoorMak
import Derived.Test.YtkbicfffokegeaaGreatDoorMam
import Derived.Test.YtkbicfffokegeaaGreatDoorMab
import Derived.Maps.OwnSet
import Derived.Test.YtkbicfffokegeaaGreatDoorMac
import Derived.StillTailTactics
import Derived.Test.YtkbicfffokegeaaGreatDoorMag
namespace Go.Proofs.YtkbicfffokegeaaGreatDoor
set_option maxHeartbeats 16000000
open Go.RowKit
set_option maxRecDepth 100000
structure Fx (X:Nat→Prop) (B:Nat) (w w':World):Prop where
 os:w'.os=w.os
 tape:w'.tape=w.tape
 output:w'.output=w.output
 size:w.heap.size≤w'.heap.size
 block:∀k,k<B→¬X k→w'.heap[k]? = w.heap[k]?
theorem Fx.refl (X:Nat→Prop)(B:Nat)(w:World):Fx X B w w:=⟨rfl,rfl,rfl,Nat.le_refl _,fun _ _ _=>rfl⟩
theorem Fx.trans {X:Nat→Prop}{B:Nat}{a b c:World}(h:Fx X B a b)(k:Fx X B b c):Fx X B a c:=
 ⟨k.os.trans h.os,k.tape.trans h.tape,k.output.trans h.output,Nat.le_trans h.size k.size,fun i hi hx=>(k.block i hi hx).trans (h.block i hi hx)⟩
theorem Fx.mono {X Y:Nat→Prop}{B C:Nat}{w w':World}(h:Fx X B w w')(hB:C≤B)(hX:∀k,k<C→X k→Y k):Fx Y C w w':=
 ⟨h.os,h.tape,h.output,h.size,fun k hk hx=>h.block k (by omega) fun x=>hx (hX k hk x)⟩
theorem Fx.of {X:Nat→Prop}{B:Nat}{w w':World}(h:Below B w w'):Fx X B w w':=⟨h.os,h.tape,h.output,h.size,fun k hk _=>h.block k hk⟩
theorem Fx.bel {X:Nat→Prop}{B:Nat}{w w':World}(h:Fx X B w w')(hX:∀k,k<B→¬X k):Below B w w':=⟨h.os,h.tape,h.output,h.size,fun k hk=>h.block k hk (hX k hk)⟩
theorem Fx.alloc {X:Nat→Prop}{B:Nat}{a w:World}(h:Fx X B a w)(hB:B≤w.heap.size)(o:Obj):Fx X B a (w.alloc o):=
 h.trans (Fx.of ((Below.refl B w).alloc hB o))
theorem Fx.set {X:Nat→Prop}{B:Nat}{a w:World}(h:Fx X B a w){p:Addr}(hp:X p.block∨B≤p.block)(u:Value):Fx X B a (w.setCell p u):=by
 have e:=(Below.refl 0 w).setCell (p:=p) (Nat.zero_le _) u;refine h.trans ⟨e.os,e.tape,e.output,e.size,fun k hk hx=>Below.heap_setCell _ _ _ _ ?_⟩;rintro rfl;rcases hp with hp|hp
 ·exact hx hp
 ·omega
theorem Fx.then {X:Nat→Prop}{B:Nat}{a b c:World}(h:Fx X B a b)(hB:B≤a.heap.size)(k:Fx X b.heap.size b c):Fx X B a c:=
 h.trans (k.mono (Nat.le_trans hB h.size) fun _ _ x=>x)
theorem Fx.blk {X:Nat→Prop}{B g:Nat}{w w':World}{t:TypeId}{cs:Array Value}(h:Fx X B w w')(b:Blk w g t cs)(hg:g<B)(hx:¬X g):Blk w' g t cs:=(h.block g hg hx).trans b
theorem fx_alloc {X:Nat→Prop}{a w:World}(h:Fx X a.heap.size a w)(o:Obj):Fx X a.heap.size a (w.alloc o):=h.alloc h.size o
theorem fx_set {X:Nat→Prop}{a w:World}(h:Fx X a.heap.size a w){p:Addr}(hp:X p.block∨a.heap.size≤p.block)(u:Value):Fx X a.heap.size a (w.setCell p u):=h.set hp u
theorem fx_trans {X:Nat→Prop}{a b c:World}(h:Fx X a.heap.size a b)(k:Fx X b.heap.size b c):Fx X a.heap.size a c:=h.then (Nat.le_refl _) k
theorem fx_bel {X:Nat→Prop}{a b c:World}(h:Fx X a.heap.size a b)(k:Below b.heap.size b c):Fx X a.heap.size a c:=fx_trans h (Fx.of k)
def On (R:Nat):Nat→Prop:=fun k=>k=R
def Rdr (R d:Nat)(s:PS)(w:World):Prop:=∃T o c,T<R∧Blk w R 129 #[.slice (some ⟨T,o,none⟩) s.ts.length c,.int .i64 (d:Int),.int .i64 (s.ns:Int),.int .i64 (s.nx:Int)] ∧
 w.rangeAt T o (tksC s.ts)∧s.ts.length≤c∧c≤maxLen∧Good s.ts∧s.ns≤200∧s.nx≤2000∧d≤24
theorem Rdr.lt {R d:Nat}{s:PS}{w:World}(h:Rdr R d s w):R<w.heap.size:=by
 obtain⟨T,o,c,h1,h2, -⟩:=h;exact h2.lt
theorem Rdr.good {R d:Nat}{s:PS}{w:World}(h:Rdr R d s w):Good s.ts:=by
 obtain⟨T,o,c, -, -, -, -, -,h, -⟩:=h;exact h
theorem Rdr.deep {R d:Nat}{s:PS}{w:World}(h:Rdr R d s w):d≤24:=by
 obtain⟨T,o,c, -, -, -, -, -, -, -, -,h⟩:=h;exact h
theorem rangeAt_blk {w w':World}{T o:Nat}{l:List Value}(h:w.rangeAt T o l)(e:w'.heap[T]? = w.heap[T]?):w'.rangeAt T o l:=fun j v hv=>by
 have:=h j v hv;unfold World.cell? at this ⊢;dsimp only at this ⊢;rw[e];exact this
theorem Rdr.fx {R d:Nat}{s:PS}{w w':World}{X:Nat→Prop}{B:Nat}(h:Rdr R d s w)(hf:Fx X B w w')(hR:R<B)(hX:∀k,k≤R→¬X k):Rdr R d s w':=by
 obtain⟨T,o,c,h1,h2,h3,h4⟩:=h;exact⟨T,o,c,h1,hf.blk h2 hR (hX R (Nat.le_refl _)),rangeAt_blk h3 (hf.block T (by omega) (hX T (by omega))),h4⟩
theorem Rdr.below {R d:Nat}{s:PS}{w w':World}{B:Nat}(h:Rdr R d s w)(hb:Below B w w')(hR:R<B):Rdr R d s w':=h.fx (Fx.of (X:=fun _=>False) hb) hR fun _ _ x=>x
theorem Rdr.alloc {R d:Nat}{s:PS}{w:World}(h:Rdr R d s w)(o:Obj):Rdr R d s (w.alloc o):=h.below ((Below.refl w.heap.size w).alloc (Nat.le_refl _) o) h.lt
theorem Rdr.set {R d:Nat}{s:PS}{w:World}(h:Rdr R d s w){p:Addr}(hp:R<p.block)(u:Value):Rdr R d s (w.setCell p u):=
 h.below ((Below.refl (R+1) w).setCell (p:=p) hp u) (Nat.lt_succ_self _)
def Tk.v (t:Tk):Value:=.agg #[.int .u8 t.kd,.int .i64 t.ps,.string ⟨t.tx.toArray⟩,.int .i32 t.nn,.int .u64 t.ff]
structure RdC (R d T o c:Nat) (s:PS) (w:World):Prop where
 tr:T<R
 blk:Blk w R 129 #[.slice (some ⟨T,o,none⟩) s.ts.length c,.int .i64 (d:Int),.int .i64 (s.ns:Int),.int .i64 (s.nx:Int)]
 c0:w.cell? ⟨T,o,none⟩=some (.int .u8 s.hd.kd)
 c1:w.cell? ⟨T,o+1,none⟩=some (.int .i64 s.hd.ps)
 c2:w.cell? ⟨T,o+2,none⟩=some (.string ⟨s.hd.tx.toArray⟩)
 c3:w.cell? ⟨T,o+3,none⟩=some (.int .i32 s.hd.nn)
 c4:w.cell? ⟨T,o+4,none⟩=some (.int .u64 s.hd.ff)
 row:w.rangeAt T o (tksC s.ts)
 lc:s.ts.length≤c
 cm:c≤maxLen
 good:Good s.ts
 ns:s.ns≤200
 nx:s.nx≤2000
 dp:d≤24
theorem Rdr.rc {R d:Nat}{s:PS}{w:World}(h:Rdr R d s w):∃T o c,RdC R d T o c s w:=by
 obtain⟨T,o,c,h1,h2,h3,h4,h5,h6,h7,h8,h9⟩:=h
 have g:∀j v,(tkCs s.hd)[j]? = some v→w.cell? ⟨T,o+j,none⟩=some v:=by
  intro j v hv;refine h3 j v ?_
  obtain⟨t,r,e⟩:∃t r,s.ts=t::r:=by
   cases e:s.ts with
   | nil=>rw[e]at h6;exact h6.elim
   | cons t r=>exact⟨t,r,rfl⟩
  have e2:s.hd=t:=by unfold PS.hd;rw[e];rfl
  rw[e2]at hv;rw[e];show(tkCs t++tksC r)[j]? = some v;rw[List.getElem?_append_left (List.getElem?_eq_some_iff.1 hv).1];exact hv
 exact⟨T,o,c,h1,h2,g 0 _ rfl,g 1 _ rfl,g 2 _ rfl,g 3 _ rfl,g 4 _ rfl,h3,h4,h5,h6,h7,h8,h9⟩
theorem RdC.tk {R d T o c:Nat}{s:PS}{w w':World}(h:RdC R d T o c s w)(hk:s.hd.kd≠0)(hb:Blk w' R 129 #[.slice (some ⟨T,o+5,none⟩) (s.ts.length-1) (c-1),.int .i64 (d:Int),.int .i64 (s.ns:Int),.int .i64 (s.nx:Int)])
  (hT:w'.heap[T]? = w.heap[T]?):Rdr R d s.tk w':=by
 have hl:=tk_len h.good;have hlc:=h.lc;have e:s.tk.ts.length=s.ts.length-1:=by omega
 refine⟨T,o+5,c-1,h.tr,by rw[e];exact hb,?_,by omega,by have:=h.cm;omega,h.good.tail hk,h.ns,h.nx,h.dp⟩;refine rangeAt_blk (w:=w) (fun j v hv=>?_) hT
 have:=h.row (5+j) v (by
  obtain⟨t,r,e⟩:∃t r,s.ts=t::r:=by
   cases e:s.ts with
   | nil=>have:=h.good;rw[e]at this;exact this.elim
   | cons t r=>exact⟨t,r,rfl⟩
  have e2:s.tk.ts=r:=by unfold PS.tk;rw[e];rfl
  rw[e2]at hv;rw[e];show(tkCs t++tksC r)[5+j]? = some v;rw[List.getElem?_append_right (by simp[tkCs])]
  simpa [tkCs] using hv)
 rw[←Nat.add_assoc]at this;exact this
theorem RdC.nums {R d T o c:Nat}{s:PS}{w w':World}(h:RdC R d T o c s w){d' ns' nx':Nat}(hb:Blk w' R 129 #[.slice (some ⟨T,o,none⟩) s.ts.length c,.int .i64 (d':Int),.int .i64 (ns':Int),.int .i64 (nx':Int)])
  (hT:w'.heap[T]? = w.heap[T]?) (h1:ns'≤200) (h2:nx'≤2000) (h3:d'≤24):Rdr R d' ⟨s.ts,ns',nx'⟩ w':=
 ⟨T,o,c,h.tr,hb,rangeAt_blk h.row hT,h.lc,h.cm,h.good,h1,h2,h3⟩
theorem RdC.fx {R d T o c:Nat}{s:PS}{w w':World}{X:Nat→Prop}{B:Nat}(h:RdC R d T o c s w)(hf:Fx X B w w')(hR:R<B)(hX:∀k,k≤R→¬X k):RdC R d T o c s w':=by
 have e:=hf.block T (Nat.lt_trans h.tr hR) (hX T (Nat.le_of_lt h.tr));have g:∀j,w'.cell? ⟨T,j,none⟩=w.cell? ⟨T,j,none⟩:=fun j=>World.cell?_of_block (w:=w) e;exact⟨h.tr,hf.blk h.blk hR (hX R (Nat.le_refl _)),(g _).trans h.c0,(g _).trans h.c1,(g _).trans h.c2,(g _).trans h.c3,(g _).trans h.c4,rangeAt_blk h.row e,h.lc,h.cm,h.good,h.ns,h.nx,h.dp⟩
theorem RdC.below {R d T o c:Nat}{s:PS}{w w':World}{B:Nat}(h:RdC R d T o c s w)(hb:Below B w w')(hR:R<B):RdC R d T o c s w':=h.fx (Fx.of (X:=fun _=>False) hb) hR fun _ _ x=>x
def flP (c p:Int):List PanicEntry:=[{ v:=.iface 106 (.agg #[.int .i64 c,.int .i64 p]),recovered:=false }]
def PO {α:Type}(R d:Nat)(w:World)(r:Rs α)(V:α→Value→World→Prop)(e:Ending)(w':World):Prop:=
 match r with
 | .ok a s=>∃v,e=.returned v∧V a v w'∧Rdr R d s w'∧Fx (On R) w.heap.size w w'
 | .no c p=>e=.panicked (flP c p)∧Fx (On R) w.heap.size w w'
def V0 {α:Type}(_:α)(v:Value)(_:World):Prop:=v=.tuple #[]
open Classical in
noncomputable def up (D:Nat→Prop) (w:World):World:={ w with heap:=w.heap.mapIdx fun i o=>if D i then o else .cells #[] 0 (0,0) }
theorem up_heap (D:Nat→Prop)(w:World)(k:Nat)(h:D k):(up D w).heap[k]? = w.heap[k]?:=by
 simp only[up,Array.getElem?_mapIdx,if_pos h];cases w.heap[k]?<;>rfl
theorem up_not (D:Nat→Prop)(w:World)(k:Nat)(h:¬D k):(up D w).heap[k]? = (w.heap[k]?).map fun _=>.cells #[] 0 (0,0):=by
 simp only[up,Array.getElem?_mapIdx,if_neg h]
theorem up_cell {D:Nat→Prop}{w:World}{p:Addr}{v:Value}:(up D w).cell? p=some v↔D p.block∧w.cell? p=some v:=by
 unfold World.cell?
 by_cases h:D p.block
 ·rw[up_heap D w _ h]
  exact⟨fun g=>⟨h,g⟩,fun g=>g.2⟩
 ·rw[up_not D w _ h]
  refine⟨fun g=>?_,fun g=>absurd g.1 h⟩
  cases hq:w.heap[p.block]? with
  | none=>rw[hq]at g;cases g
  | some o=>rw[hq]at g;simp at g
def Stay (B:Nat)(w w':World):Prop:=∀(p:Addr) (v:Value),p.block<B→w.cell? p=some v→w'.cell? p=some v
theorem Rw.stay {w w':World}{B B':Nat}{s:Sl}{sz:Nat}{cs:Nat→List Value}(h:Rw w B s sz cs)(hb:Stay B w w')(hB:B≤B'):Rw w' B' s sz cs:=by
 intro a ha i hi;obtain⟨h1,h2⟩:=h a ha i hi;refine⟨by omega,fun j v hv=>hb _ _ ?_ (h2 j v hv)⟩;unfold Addr.add
 split<;>exact h1
theorem Ex.In.stay {B B':Nat}{w w':World}(hb:Stay B w w')(hB:B≤B'){e:Ex}:e.In B w→e.In B' w':=by
 induction e with
 | no=>exact fun _=>trivial
 | mk h k ih=>exact fun⟨h1,h2,h3⟩=>⟨h1,h2.stay hb hB,fun i hi=>ih i (h3 i hi)⟩
theorem XsIn.stay {B B':Nat}{w w':World}{s:Sl}{k:Nat→Ex}(h:XsIn B w s k)(hb:Stay B w w')(hB:B≤B'):XsIn B' w' s k:=
 ⟨h.1,h.2.1.stay hb hB,fun i hi=>(h.2.2 i hi).stay hb hB⟩
theorem St.In.stay {B B':Nat}{w w':World}(hb:Stay B w w')(hB:B≤B'){s:St}:s.In B w→s.In B' w':=by
 induction s with
 | no=>exact fun _=>trivial
 | mk h x e t l it il=>exact fun⟨h1,h2,h3,h4,h5,h6,h7⟩=>⟨h1,h2.stay hb hB,h3.stay hb hB,h4.stay hb hB,fun i hi=>it i (h5 i hi),h6.stay hb hB,fun i hi=>il i (h7 i hi)⟩
theorem SsIn.stay {B B':Nat}{w w':World}{s:Sl}{k:Nat→St}(h:SsIn B w s k)(hb:Stay B w w')(hB:B≤B'):SsIn B' w' s k:=
 ⟨h.1,h.2.1.stay hb hB,fun i hi=>(h.2.2 i hi).stay hb hB⟩
theorem De.In.stay {B B':Nat}{w w':World}{d:De}(h:d.In B w)(hb:Stay B w w')(hB:B≤B'):d.In B' w':=⟨h.1,h.2.1.stay hb hB,h.2.2.stay hb hB⟩
theorem DsIn.stay {B B':Nat}{w w':World}{s:Sl}{k:Nat→De}(h:DsIn B w s k)(hb:Stay B w w')(hB:B≤B'):DsIn B' w' s k:=
 ⟨h.1,h.2.1.stay hb hB,fun i hi=>(h.2.2 i hi).stay hb hB⟩
theorem stay_up (D:Nat→Prop)(w:World):Stay w.heap.size (up D w) w:=fun _ _ _ h=>(up_cell.1 h).2
theorem stay_imp {D D':Nat→Prop}{B:Nat}(h:∀k,k<B→D k→D' k)(w:World):Stay B (up D w) (up D' w):=fun _ _ hp g=>up_cell.2 ⟨h _ hp (up_cell.1 g).1,(up_cell.1 g).2⟩
theorem stay_fx {X D:Nat→Prop}{w w':World}(h:Fx X w.heap.size w w')(hX:∀k,X k→¬D k):Stay w.heap.size (up D w) (up D w'):=fun p v hp g=>by
 obtain⟨g1,g2⟩:=up_cell.1 g;refine up_cell.2 ⟨g1,?_⟩;rw[←g2];exact World.cell?_of_block (w:=w) (h.block p.block hp fun x=>hX _ x g1)
def Fro (L:Nat):Nat→Prop:=fun k=>L≤k
def XO (D:Nat→Prop)(e:Ex)(w:World):Prop:=e.In w.heap.size (up D w)
theorem XO.fx {X D:Nat→Prop}{e:Ex}{w w':World}(h:XO D e w)(hf:Fx X w.heap.size w w')(hX:∀k,X k→¬D k):XO D e w':=Ex.In.stay (stay_fx hf hX) hf.size h
theorem XO.imp {D D':Nat→Prop}{e:Ex}{w:World}(h:XO D e w)(hD:∀k,k<w.heap.size→D k→D' k):XO D' e w:=Ex.In.stay (stay_imp hD w) (Nat.le_refl _) h
def Ex.eqv:Ex→Ex→Prop
 | .no,f=>hdS zeroH f.h=true∧f.h.ps=0
 | .mk h k,f=>hdS h f.h=true∧f.h.ps=h.ps∧∀i,i<h.s.n→(k i).eqv (f.k i)
theorem Ex.eqv_iff (e f:Ex):e.eqv f↔hdS e.h f.h=true∧f.h.ps=e.h.ps∧∀i,i<e.h.s.n→(e.k i).eqv (f.k i):=by
 cases e with
 | no=>exact⟨fun h=>⟨h.1,h.2,fun i hi=>absurd hi (Nat.not_lt_zero i)⟩,fun h=>⟨h.1,h.2.1⟩⟩
 | mk h k=>exact Iff.rfl
theorem hdS_refl (h:EH):hdS h h=true:=by simp[hdS]
theorem Ex.eqv_refl (e:Ex):e.eqv e:=by
 induction e using Ex.ind with
 | H e ih=>exact(Ex.eqv_iff e e).2 ⟨hdS_refl _,rfl,ih⟩
theorem Ex.eqv_same {e:Ex}:∀ {f:Ex},e.eqv f→e.same f=true:=by
 induction e using Ex.ind with
 | H e ih=>
  intro f h;obtain⟨h1,h2,h3⟩:=(Ex.eqv_iff e f).1 h;rw[Ex.same_hd,Bool.and_eq_true];exact⟨h1,al_iff.2 fun i hi=>ih i hi (h3 i hi)⟩
def VD (D:Nat→Prop)(e:Ex)(v:Value)(w:World):Prop:=∃e':Ex,v=e'.h.v∧XO D e' w∧e'.eqv e
def VX (L:Nat)(e:Ex)(v:Value)(w:World):Prop:=∃e':Ex,v=e'.h.v∧XO (Fro L) e' w∧e'.eqv e
theorem fx_row {X:Nat→Prop}{a w:World}(h:Fx X a.heap.size a w){g:Nat}(hp:X g∨a.heap.size≤g)(cs:Array Value):Fx X a.heap.size a (w.setRow g cs):=by
 have e:=below_setRow (Below.refl 0 w) (Nat.zero_le g) cs;refine h.trans ⟨e.os,e.tape,e.output,e.size,fun k hk hx=>setRow_other w g k cs ?_⟩;rintro rfl;rcases hp with hp|hp
 ·exact hx hp
 ·omega
theorem Rdr.row {R d:Nat}{s:PS}{w:World}(h:Rdr R d s w){g:Nat}(hp:R<g)(cs:Array Value):Rdr R d s (w.setRow g cs):=
 h.below (below_setRow (Below.refl (R+1) w) hp cs) (Nat.lt_succ_self _)
theorem Blk.rowS {w:World}{g:Nat}{t:TypeId}{old:Array Value}(h:Blk w g t old)(cs:Array Value):Blk (w.setRow g cs) g t cs:=setRow_heap w g old cs t (0,0) h
theorem XO.row {D:Nat→Prop}{e:Ex}{w:World}(h:XO D e w){g:Nat}(hg:¬D g)(cs:Array Value):XO D e (w.setRow g cs):=h.fx (X:=On g) (fx_row (X:=On g) (Fx.refl _ _ _) (g:=g) (.inl rfl) cs) (fun k (x:k=g)=>by rw[x];exact hg)
theorem Blk.off {w:World}{g k:Nat}{t:TypeId}{old:Array Value}(h:Blk w k t old)(hk:k≠g)(cs:Array Value):Blk (w.setRow g cs) k t old:=(setRow_other w g k cs hk).trans h
theorem row_size (w:World)(g:Nat)(cs:Array Value):(w.setRow g cs).heap.size=w.heap.size:=by simp[World.setRow]
def Tk.vs (t:Tk):Array Value:=#[.int .u8 t.kd,.int .i64 t.ps,.string ⟨t.tx.toArray⟩,.int .i32 t.nn,.int .u64 t.ff]
def EH.va (h:EH):Array Value:=#[.int .u8 h.op,.int .i64 h.ps,.bool h.bo,.int .i32 h.it,.int .u64 h.fl,.string ⟨h.nm.toArray⟩,.slice h.s.ao h.s.n h.s.c]
def zX:Obj:=.cells #[.int .u8 0,.int .i64 0,.bool false,.int .i32 0,.int .u64 0,.string ⟨#[]⟩,.slice none 0 0] 42
section
variable {ops:Array Oper} {rest:List Oper} {o:Oper} {a:Act} {w:World} {Q:Exit→Act→World→Prop}
theorem st_tok (t:Tk)(g:Nat)(old:Array Value)(hg:Blk w g 133 old)(hold:old.size=5)(hgd:o.guard=none)(x y:Operand)(ho:o.op=.store 133 x y)(hx:a.eval x=.pointer (some ⟨g,0,none⟩))(hy:a.eval y=t.v)
  (h:wpList Tryz.prog ops Q rest (a.put o.dst undef) (w.setRow g t.vs)):wpList Tryz.prog ops Q (o::rest) a w:=
 wpList_store_row hgd 133 x y ho g t.vs hx hy 133 old hg (by kernel_rfl) hold (by simp[Tk.vs,Value.oneCell']) h
theorem st_ex (e:EH)(g:Nat)(old:Array Value)(hg:Blk w g 42 old)(hold:old.size=7)(hgd:o.guard=none)(x y:Operand)(ho:o.op=.store 42 x y)(hx:a.eval x=.pointer (some ⟨g,0,none⟩))(hy:a.eval y=e.v)
  (h:wpList Tryz.prog ops Q rest (a.put o.dst undef) (w.setRow g e.va)):wpList Tryz.prog ops Q (o::rest) a w:=
 wpList_store_row hgd 42 x y ho g e.va hx hy 42 old hg (by kernel_rfl) hold (by simp[EH.va,Value.oneCell']) h
theorem ld_ex (e:EH)(g:Nat)(hg:Blk w g 42 e.va)(hgd:o.guard=none)(x:Operand)(ho:o.op=.load 42 x)(hx:a.eval x=.pointer (some ⟨g,0,none⟩))
  (h:wpList Tryz.prog ops Q rest (a.put o.dst (.agg #[.int .u8 e.op,.int .i64 e.ps,.bool e.bo,.int .i32 e.it,.int .u64 e.fl,.string ⟨e.nm.toArray⟩,.slice e.s.ao e.s.n e.s.c])) w):wpList Tryz.prog ops Q (o::rest) a w:=
 wpList_load_row hgd 42 x ho g hx 42 e.va (0,0) _ hg Tryz.underlying42 rfl (by kernel_rfl) h
end
theorem rs_tok {fn:Func}{p:Tmp}(h:fn.results=#[.cell p 133])(tmps:Array Value)(w:World)(g:Nat)(t:Tk)(hp:tmps.getD p undef=.pointer (some ⟨g,0,none⟩))(hg:Blk w g 133 t.vs):(results fn tmps).run Tryz.prog w=.ok t.v w:=
 results_cell_row h tmps w g 133 t.vs (0,0) _ hp hg Tryz.underlying133 rfl (by kernel_rfl)
theorem rs_ex {fn:Func}{p:Tmp}(h:fn.results=#[.cell p 42])(tmps:Array Value)(w:World)(g:Nat)(e:EH)(hp:tmps.getD p undef=.pointer (some ⟨g,0,none⟩))(hg:Blk w g 42 e.va):(results fn tmps).run Tryz.prog w=.ok e.v w:=
 results_cell_row h tmps w g 42 e.va (0,0) _ hp hg Tryz.underlying42 rfl (by kernel_rfl)
theorem bx_ex (w:World)(e:EH):Blk (bx w (xO e)) w.heap.size 42 e.va:=bx_new w (xO e)
def Runs (n:Nat):Prop:=∀(args:Array Value) (w:World),(callFunc n args).run Tryz.prog w=.ok (.enter n args) w
def Reads (R d n:Nat)(p:PS→Rs Ex):Prop:=∀(s:PS) (w:World),Rdr R d s w→Calls Tryz.prog n #[.pointer (some ⟨R,0,none⟩)] w (PO R d w (p s) (VX w.heap.size))
theorem whole_ok {e a:Ex}{s s':PS}(h:whole e s=.ok a s'):a=e:=by
 unfold whole at h
 split at h
 ·cases h
 ·cases h;rfl
theorem XO.bel {D:Nat→Prop}{e:Ex}{w w':World}(h:XO D e w)(hb:Below w.heap.size w w'):XO D e w':=h.fx (X:=fun _=>False) (Fx.of hb) (fun _ x=>x.elim)
theorem bel_one (w:World)(o:Obj):Below w.heap.size w (w.alloc o):=(Below.refl _ _).alloc (Nat.le_refl _) o
theorem on_not {R:Nat}{D:Nat→Prop}(h:¬D R):∀k,On R k→¬D k:=fun k (x:k=R)=>by rw[x];exact h
theorem on_ne {R g:Nat}(h:R<g):¬On R g:=fun x=>by unfold On at x;omega
theorem eh_ok {op ps it fl:Int}{bo:Bool}{nm:List UInt8}{s:Sl}(ho0:0≤op)(ho1:op≤255)(hp0:0≤ps)(hp1:ps≤16384)(hi0:-2147483648≤it)(hi1:it≤2147483647)(hf0:0≤fl)(hf1:fl<18446744073709551616)(hn:nm.length≤16384)(hs:s.ok) :
  (⟨op,ps,bo,it,fl,nm,s⟩:EH).ok:=
 ⟨ho0,ho1,by dsimp only;omega,by dsimp only;omega,hi0,hi1,⟨hf0,hf1⟩,Nat.le_trans hn (by unfold maxLen;decide),hs⟩
theorem sl_ok (a:Addr)(n:Nat)(h:n≤1000000):(⟨some a,n,n⟩:Sl).ok:=⟨Nat.le_refl _,Nat.le_trans h (by unfold maxLen;decide),fun e=>by cases e⟩
theorem sl_no:(⟨none,0,0⟩:Sl).ok:=⟨Nat.le_refl _,Nat.zero_le _,fun _=>rfl⟩
theorem two_in {D:Nat→Prop}{w:World}{e f:Ex}{op ps:Int}(h1:XO D e w)(h2:XO D f w)(hL:D w.heap.size)(ho0:0≤op)(ho1:op≤255)(hp0:0≤ps)(hp1:ps≤16384)
  {w':World} {t:TypeId} (hw:w'=w.alloc (.cells (e.h.vs++f.h.vs).toArray t)) :
  XO D (.mk ⟨op,ps,false,0,0,[],⟨some ⟨w.heap.size,0,none⟩,2,2⟩⟩ (fun i=>if i=0 then e else f)) w':=by
 subst hw;have k:∀x:Ex,XO D x w→XO D x (w.alloc (.cells (e.h.vs++f.h.vs).toArray t)):=fun x hx=>hx.fx (X:=fun _=>False) (Fx.of ((Below.refl _ _).alloc (Nat.le_refl _) _)) (fun _ h=>h.elim);refine⟨eh_ok ho0 ho1 hp0 hp1 (by decide) (by decide) (by decide) (by decide) (Nat.zero_le _) (sl_ok _ _ (by decide)),?_,?_⟩
 ·intro a ha i hi
  cases ha;have hi:i<2:=hi;refine⟨by rw[World.size_alloc];exact Nat.lt_succ_self _,fun j v hv=>?_⟩;have hb:=Blk.new w t (e.h.vs++f.h.vs).toArray
  have hj:j<7:=by
   have:=(List.getElem?_eq_some_iff.1 hv).1
   simpa [EH.vs] using this
  rw[up_cell,Addr.add_mid];refine⟨hL,?_⟩;rw[Nat.zero_add,hb.cell];simp only[List.getElem?_toArray];rcases(show i=0∨i=1 by omega)with rfl|rfl
  ·simp only[if_pos]at hv
   rw[List.getElem?_append_left (by simp[EH.vs];omega)]
   simpa using hv
  ·rw[List.getElem?_append_right (by simp[EH.vs])]
   simpa [EH.vs] using hv
 ·intro i hi
  dsimp only;split
  ·exact k e h1
  ·exact k f h2
theorem one_in {D:Nat→Prop}{w:World}{e:Ex}{op ps:Int}{nm:List UInt8}(h1:XO D e w)(hL:D w.heap.size)(ho0:0≤op)(ho1:op≤255)(hp0:0≤ps)(hp1:ps≤16384)(hn:nm.length≤16384)
  {w':World} {t:TypeId} (hw:w'=w.alloc (.cells e.h.vs.toArray t)) :
  XO D (.mk ⟨op,ps,false,0,0,nm,⟨some ⟨w.heap.size,0,none⟩,1,1⟩⟩ (fun _=>e)) w':=by
 subst hw;have k:XO D e (w.alloc (.cells e.h.vs.toArray t)):=h1.fx (X:=fun _=>False) (Fx.of ((Below.refl _ _).alloc (Nat.le_refl _) _)) (fun _ h=>h.elim);refine⟨eh_ok ho0 ho1 hp0 hp1 (by decide) (by decide) (by decide) (by decide) hn (sl_ok _ _ (by decide)),?_,fun i hi=>k⟩;intro a ha i hi;cases ha;have hi:i<1:=hi;refine⟨by rw[World.size_alloc];exact Nat.lt_succ_self _,fun j v hv=>?_⟩;have hb:=Blk.new w t e.h.vs.toArray
 have hj:j<7:=by
  have:=(List.getElem?_eq_some_iff.1 hv).1
  simpa [EH.vs] using this
 rw[up_cell,Addr.add_mid];refine⟨hL,?_⟩;rw[Nat.zero_add,hb.cell];simp only[List.getElem?_toArray];obtain rfl:i=0:=by omega
 simpa using hv
theorem two_eqv {e f a b:Ex}{op ps:Int}{A:Option Addr}{c:Nat}(h1:e.eqv a)(h2:f.eqv b):(Ex.mk ⟨op,ps,false,0,0,[],⟨A,2,c⟩⟩ (fun i=>if i=0 then e else f)).eqv (opX op ps [a,b]):=by
 refine⟨by simp[hdS,opX,Ex.h],rfl,fun i hi=>?_⟩;have hi:i<2:=hi;rcases(show i=0∨i=1 by omega)with rfl|rfl
 ·exact h1
 ·exact h2
theorem one_eqv {e a:Ex}{op ps:Int}{A:Option Addr}{c:Nat}(h1:e.eqv a):(Ex.mk ⟨op,ps,false,0,0,[],⟨A,1,c⟩⟩ (fun _=>e)).eqv (opX op ps [a]):=by
 refine⟨by simp[hdS,opX,Ex.h],rfl,fun i hi=>?_⟩;have hi:i<1:=hi;obtain rfl:i=0:=by omega
 exact h1
end Go.Proofs.YtkbicfffokegeaaGreatDoor
namespace Go.Proofs.YtkbicfffokegeaaGreatDoor
set_option maxHeartbeats 16000000
open Go.RowKit Go.Maps
set_option maxRecDepth 100000
structure Mn where
 us:Int
 ty:Int
 ar:Bool
def mnV (m:Mn):Value:=.agg #[.int .i64 m.us,.int .u8 m.ty,.bool m.ar]
def mnD (m:Mn):DataW Unit:=.agg [.lit (.int .i64 m.us),.lit (.int .u8 m.ty),.lit (.bool m.ar)]
def mnR:Value→Option (DataW Unit×List MemPlace)
 | .agg ⟨[.int .i64 u,.int .u8 t,.bool b]⟩=>some (mnD ⟨u,t,b⟩,[])
 | _=>none
theorem mnR_mk (m:Mn):mnR (mnV m)=some (mnD m,[]):=rfl
theorem mnR_inv {v:Value}{z:DataW Unit×List MemPlace}(h:mnR v=some z):∃m,v=mnV m∧z=(mnD m,[]):=by
 unfold mnR at h
 split at h
 ·cases h;exact⟨_,rfl,rfl⟩
 ·cases h
theorem mnD_inj {a b:Mn}(h:mnD a=mnD b):a=b:=by
 obtain⟨a1,a2,a3⟩:=a;obtain⟨b1,b2,b3⟩:=b
 simp[mnD]at h
 simp[h]
theorem nmLaw:Keyed Tryz.prog 9:=string_keyed Tryz.underlying9
theorem nmKey {x:List UInt8}(h:x.length≤maxLen):keyOf Tryz.prog 9 (.string ⟨x.toArray⟩)=some (.string x):=by
 rw[Go.WideMaps.keyOf_string_mk Tryz.underlying9 (by rw[Lib.size_eq];exact h)]
theorem nmLit (x:List UInt8):WideAt.IsKeyLit (.string x):=trivial
def Mp (w:World)(M n:Nat)(f:List UInt8→Option Mn):Prop:=
 ∃D,w.ownsMap Tryz.prog 9 mnR M n D∧∀x,Maps.has D (.string x)=(f x).isSome∧∀m,f x=some m→∀z,D.atKey (.string x) z=mnD m
theorem Mp.lt {w:World}{M n:Nat}{f:List UInt8→Option Mn}(h:Mp w M n f):M<w.heap.size:=by obtain⟨D,h, -⟩:=h;exact h.lt
theorem Mp.blk {w w':World}{M n:Nat}{f:List UInt8→Option Mn}(h:Mp w M n f)(e:w'.heap[M]? = w.heap[M]?):Mp w' M n f:=by
 obtain⟨D,⟨es,ck,hb,r⟩,h2⟩:=h;exact⟨D,⟨es,ck,e.trans hb,r⟩,h2⟩
theorem Mp.made (w:World):Mp (w.alloc (.map #[] 0)) w.heap.size 0 fun _=>none:=
 ⟨_,World.ownsMap_made w Tryz.prog 9 mnR,fun x=>⟨rfl,fun m h=>by cases h⟩⟩
theorem Mp.mono {w:World}{M n n':Nat}{f:List UInt8→Option Mn}(h:Mp w M n f)(hn:n≤n'):Mp w M n' f:=by
 obtain⟨D,h,h2⟩:=h;exact⟨D,h.mono hn,h2⟩
theorem owns_tight {w:World}{M n:Nat}{D:DataW Unit}(h:w.ownsMap Tryz.prog 9 mnR M n D):w.ownsMap Tryz.prog 9 mnR M (Maps.size D) D:=by
 obtain⟨es,ck,hb,F,hs,rfl⟩:=h;exact⟨es,ck,hb,F,by simp[Maps.size,length_sorted],rfl⟩
theorem zeroMn (w:World):(zeroValue 96).run Tryz.prog w=.ok (mnV ⟨0,0,false⟩) w:=by kernel_rfl
theorem Mp.look {w:World}{M n:Nat}{f:List UInt8→Option Mn}(h:Mp w M n f){x:List UInt8}(hx:x.length≤maxLen) :
  (Instr.lookup 65 (.map (some M)) (.string ⟨x.toArray⟩) true).run Tryz.prog w=.ok (.tuple #[mnV ((f x).getD ⟨0,0,false⟩),.bool (f x).isSome]) w:=by
 obtain⟨D,h,h2⟩:=h;obtain⟨v,ps,hr,hv⟩:=h.look_ok nmLaw Tryz.underlying65 (zeroMn w) (mnR_mk _) (nmKey hx);rw[hr,(h2 x).1];obtain⟨m,rfl,hz⟩:=mnR_inv hv;injection hz with hz
 cases hf:f x with
 | some k=>
  rw[(h2 x).2 k hf]at hz;rw[mnD_inj hz];rfl
 | none=>
  have h0:=(h2 x).1;rw[hf]at h0;rw[atKey_of_not_has h0]at hz;rw[←mnD_inj hz];rfl
theorem Mp.get {w:World}{M n:Nat}{f:List UInt8→Option Mn}(h:Mp w M n f){x:List UInt8}(hx:x.length≤maxLen){m:Mn}(hf:f x=some m) :
  (Instr.lookup 65 (.map (some M)) (.string ⟨x.toArray⟩) false).run Tryz.prog w=.ok (mnV m) w:=by
 obtain⟨D,h,h2⟩:=h;obtain⟨v,ps,hr,hv⟩:=h.lookup nmLaw Tryz.underlying65 (zeroMn w) (mnR_mk _) (nmKey hx);rw[hr];obtain⟨k,rfl,hz⟩:=mnR_inv hv;injection hz with hz;rw[(h2 x).2 m hf]at hz;rw[mnD_inj hz]
theorem fx_turned {w w':World}{M B:Nat}(h:w.mapTurned w' M):Fx (fun k=>k=M) B w w':=by
 have g:=h.grown;refine⟨g.os,g.tape,g.output,g.size,fun k hk hx=>?_⟩;rcases Nat.lt_or_ge k w.heap.size with hl|hl
 ·exact g.block k hl (fun e=>hx (Option.some.inj e))
 ·obtain⟨es,ck,es',ck',hb,rfl⟩:=h
  rw[Array.getElem?_eq_none hl,Array.getElem?_eq_none (by simpa [Go.ChangeMaps.setBlock] using hl)]
theorem Mp.put {w:World}{M n:Nat}{f:List UInt8→Option Mn}(h:Mp w M n f)(hn:n<maxLen){x:List UInt8}(hx:x.length≤maxLen)(m:Mn) :
  ∃w',(Instr.mapUpdate 65 (.map (some M)) (.string ⟨x.toArray⟩) (mnV m)).run Tryz.prog w=.ok () w'∧Mp w' M (n+1) (fun y=>if y=x then some m else f y)∧w.mapTurned w' M:=by
 obtain⟨D,h,h2⟩:=h;obtain⟨w',hr,h',ht⟩:=h.store nmLaw Tryz.underlying65 hn (nmKey hx) (mnR_mk m);refine⟨w',hr,⟨_,h',fun y=>?_⟩,ht⟩
 by_cases e:y=x
 ·subst e
  dsimp only;rw[if_pos rfl];refine⟨has_put_same h.isMap (nmLit y) _,fun k hk z=>?_⟩;cases hk;exact atKey_put_same h.isMap (nmLit y) _ _
 ·dsimp only
  rw[if_neg e];have ne:Lit.string y≠Lit.string x:=fun h=>e (by injection h);exact⟨(has_put_other ne _).trans (h2 y).1,fun k hk z=>(atKey_put_other ne _ z).trans ((h2 y).2 k hk z)⟩
theorem Mp.del {w:World}{M n:Nat}{f:List UInt8→Option Mn}(h:Mp w M (n+1) f){x:List UInt8}(hx:x.length≤maxLen)(hf:(f x).isSome=true)(ty:TypeId) :
  ∃w',(Builtin.delete_ #[65,9] ty #[.map (some M),.string ⟨x.toArray⟩]).run Tryz.prog w=.ok (.tuple #[]) w'∧Mp w' M n (fun y=>if y=x then none else f y)∧w.mapTurned w' M:=by
 obtain⟨D,h,h2⟩:=h;obtain⟨w',hr,h',ht⟩:=h.drop nmLaw Tryz.underlying65 (nmKey hx) ty;have hs:=size_del (k:=.string x) (h.tidy nmLaw);rw[(h2 x).1,hf]at hs;have hle:=h.size_le;refine⟨w',hr,⟨_,(owns_tight h').mono (by simp at hs;omega),fun y=>?_⟩,ht⟩
 by_cases e:y=x
 ·subst e
  dsimp only;rw[if_pos rfl];exact⟨has_del_same,fun k hk=>by cases hk⟩
 ·dsimp only
  rw[if_neg e];have ne:Lit.string y≠Lit.string x:=fun h=>e (by injection h);exact⟨(has_del_other ne).trans (h2 y).1,fun k hk z=>(atKey_del_other ne z).trans ((h2 y).2 k hk z)⟩
end Go.Proofs.YtkbicfffokegeaaGreatDoor
namespace Go.Proofs.YtkbicfffokegeaaGreatDoor
set_option maxHeartbeats 16000000
open Go.RowKit
set_option maxRecDepth 100000
def fl12 (c p:Int):List PanicEntry:=[{ v:=.iface 59 (.agg #[.int .i64 c,.int .i64 p]),recovered:=false }]
theorem ccfail_any (c p:Int)(w:World):Calls Tryz.prog 36 #[.int .i64 c,.int .i64 p] w fun e w'=>e=.panicked (fl12 c p)∧w'=w:=by
 go_enter Tryz.func36,Tryz.ntmps36;go_wp2_with fail;exact⟨rfl,rfl,rfl⟩
def muE:Bool→Int→Int→Ending
 | true,_,_=>.returned (.tuple #[])
 | false,c,p=>.panicked (fl12 c p)
theorem ccmust_any (b:Bool)(c p:Int)(w:World):Calls Tryz.prog 20 #[.bool b,.int .i64 c,.int .i64 p] w fun e w'=>e=muE b c p∧w'=w:=by
 go_enter Tryz.func20,Tryz.ntmps20
 cases b with
 | true=>
  go_wp2_with fail;exact bodyPost_end (results_none rfl _ _ _) rfl ⟨rfl,rfl⟩
 | false=>
  go_wp2_with fail;refine(ccfail_any _ _ _).mono ?_;rintro r w1 ⟨rfl,rfl⟩;go_wp2_with fail;exact⟨rfl,rfl,rfl⟩
theorem ccisNumeric_any (t:Int)(w:World):Calls Tryz.prog 57 #[.int .u8 t] w fun e w'=>e=.returned (.bool (numT t))∧w'=w:=by
 by_cases c:t=2
 ·subst c
  go_enter Tryz.func57,Tryz.ntmps57;go_wp2_with fail;go_ret;exact⟨rfl,rfl⟩
 ·go_enter Tryz.func57,Tryz.ntmps57
  go_wp2_with fail;go_ret;exact⟨rfl,rfl⟩
theorem isT_eq (t:Int):(t == 1 || numT t)=decide (1≤t∧t≤3):=by
 unfold numT
 by_cases c:t=1
 ·subst c;rfl
 ·by_cases c2:t=2
  ·subst c2;rfl
  ·by_cases c3:t=3
   ·subst c3;rfl
   ·rw[decide_eq_false (by omega)]
    simp[c,c2,c3]
theorem ccisType_any (t:Int)(w:World):Calls Tryz.prog 37 #[.int .u8 t] w fun e w'=>e=.returned (.bool (decide (1≤t∧t≤3)))∧w'=w:=by
 rw[←isT_eq];have N:=Hj (ccisNumeric_any t w)
 by_cases c:t=1
 ·subst c
  clear N;go_enter Tryz.func37,Tryz.ntmps37;go_wp2_with fail;go_ret;exact⟨rfl,rfl⟩
 ·generalize numT t=n at *
  go_enter Tryz.func37,Tryz.ntmps37;go_wp2_with fail;refine N.out.mono ?_;rintro r w1 ⟨rfl,rfl⟩;clear N;go_wp2_with fail;go_ret;exact⟨rfl,rfl⟩
theorem ccliteral_any (op:Int)(w:World):Calls Tryz.prog 74 #[.int .u8 op] w fun e w'=>e=.returned (.int .u8 (resT op []))∧w'=w:=by
 by_cases c1:op=1
 ·subst c1
  go_enter Tryz.func74,Tryz.ntmps74;go_wp2_with fail;go_ret;exact⟨rfl,rfl⟩
 ·by_cases c2:op=2
  ·subst c2
   go_enter Tryz.func74,Tryz.ntmps74;go_wp2_with fail;go_ret;exact⟨rfl,rfl⟩
  ·by_cases c3:op=3
   ·subst c3
    go_enter Tryz.func74,Tryz.ntmps74;go_wp2_with fail;go_ret;exact⟨rfl,rfl⟩
   ·have e:resT op []=0:=by simp[resT,c1,c2,c3]
    rw[e];clear e;go_enter Tryz.func74,Tryz.ntmps74;go_wp2_with fail;go_ret;exact⟨rfl,rfl⟩
theorem ccunary_any (op t:Int)(w:World):Calls Tryz.prog 75 #[.int .u8 op,.int .u8 t] w fun e w'=>e=.returned (.int .u8 (resT op [t]))∧w'=w:=by
 by_cases k:op=17∨op=21
 ·have e:resT op [t]=if numT t=true then t else 0:=by
   rcases k with rfl|rfl<;>simp[resT]
  rw[e];clear e;have N:=Hj (ccisNumeric_any t w);generalize numT t=n at *;rcases k with rfl|rfl
  all_goals
   go_enter Tryz.func75,Tryz.ntmps75;go_wp2_with fail;refine N.out.mono ?_;rintro r w1 ⟨rfl,rfl⟩;clear N;cases n
   all_goals
    go_wp2_with fail;go_ret;exact⟨rfl,rfl⟩
 ·have k1:¬op=17:=fun h=>k (.inl h)
  have k2:¬op=21:=fun h=>k (.inr h);clear k
  by_cases c:op=18
  ·subst c
   by_cases d:t=1
   ·subst d
    go_enter Tryz.func75,Tryz.ntmps75;go_wp2_with fail;go_ret;exact⟨rfl,rfl⟩
   ·have e:resT 18 [t]=0:=by simp[resT,d]
    rw[e];clear e k1 k2;go_enter Tryz.func75,Tryz.ntmps75;go_wp2_with fail;go_ret;exact⟨rfl,rfl⟩
  ·by_cases c2:op=19
   ·subst c2
    by_cases d:t=3
    ·subst d
     go_enter Tryz.func75,Tryz.ntmps75;go_wp2_with fail;go_ret;exact⟨rfl,rfl⟩
    ·have e:resT 19 [t]=0:=by simp[resT,d]
     rw[e];clear e k1 k2 c;go_enter Tryz.func75,Tryz.ntmps75;go_wp2_with fail;go_ret;exact⟨rfl,rfl⟩
   ·by_cases c3:op=20
    ·subst c3
     by_cases d:t=2
     ·subst d
      go_enter Tryz.func75,Tryz.ntmps75;go_wp2_with fail;go_ret;exact⟨rfl,rfl⟩
     ·have e:resT 20 [t]=0:=by simp[resT,d]
      rw[e];clear e k1 k2 c c2;go_enter Tryz.func75,Tryz.ntmps75;go_wp2_with fail;go_ret;exact⟨rfl,rfl⟩
    ·have e:resT op [t]=0:=by simp[resT,k1,k2,c,c2,c3]
     rw[e];clear e;go_enter Tryz.func75,Tryz.ntmps75;go_wp2_with fail;go_ret;exact⟨rfl,rfl⟩
theorem ccbinary_any (op t:Int)(w:World):Calls Tryz.prog 76 #[.int .u8 op,.int .u8 t] w fun e w'=>e=.returned (.int .u8 (resT op [t,t]))∧w'=w:=by
 have N:=Hj (ccisNumeric_any t w)
 by_cases k:op=5∨op=6∨op=7∨op=8
 ·have e:resT op [t,t]=if numT t=true then t else 0:=by
   rcases k with rfl|rfl|rfl|rfl<;>simp[resT]
  rw[e];clear e;generalize numT t=n at *;rcases k with rfl|rfl|rfl|rfl
  all_goals
   go_enter Tryz.func76,Tryz.ntmps76;go_wp2_with fail;refine N.out.mono ?_;rintro r w1 ⟨rfl,rfl⟩;clear N;cases n
   all_goals
    go_wp2_with fail;go_ret;exact⟨rfl,rfl⟩
 ·by_cases k2:op=9∨op=10∨op=13∨op=14
  ·have e:resT op [t,t]=if numT t=true then 1 else 0:=by
    rcases k2 with rfl|rfl|rfl|rfl<;>simp[resT]
   rw[e];clear e k;generalize numT t=n at *;rcases k2 with rfl|rfl|rfl|rfl
   all_goals
    go_enter Tryz.func76,Tryz.ntmps76;go_wp2_with fail;refine N.out.mono ?_;rintro r w1 ⟨rfl,rfl⟩;clear N;cases n
    all_goals
     go_wp2_with fail;go_ret;exact⟨rfl,rfl⟩
  ·clear N
   by_cases k3:op=11∨op=12
   ·have e:resT op [t,t]=1:=by
     rcases k3 with rfl|rfl<;>simp[resT]
    rw[e];clear e k k2;rcases k3 with rfl|rfl
    all_goals
     go_enter Tryz.func76,Tryz.ntmps76;go_wp2_with fail;go_ret;exact⟨rfl,rfl⟩
   ·by_cases k4:op=15∨op=16
    ·by_cases d:t=1
     ·subst d
      clear k k2 k3;rcases k4 with rfl|rfl
      all_goals
       go_enter Tryz.func76,Tryz.ntmps76;go_wp2_with fail;go_ret;exact⟨rfl,rfl⟩
     ·have e:resT op [t,t]=0:=by
       rcases k4 with rfl|rfl<;>simp[resT,d]
      rw[e];clear e k k2 k3;rcases k4 with rfl|rfl
      all_goals
       go_enter Tryz.func76,Tryz.ntmps76;go_wp2_with fail;go_ret;exact⟨rfl,rfl⟩
    ·have e:resT op [t,t]=0:=by
      have h1:¬(5≤op∧op≤8):=by omega
      simp[resT,h1,k2,k3,k4]
     rw[e];obtain⟨a1,a2,a3,a4⟩:¬op=5∧¬op=6∧¬op=7∧¬op=8:=by omega
     obtain⟨b1,b2,b3,b4⟩:¬op=9∧¬op=10∧¬op=13∧¬op=14:=by omega
     obtain⟨d1,d2,d3,d4⟩:¬op=11∧¬op=12∧¬op=15∧¬op=16:=by omega
     clear e k k2 k3 k4;go_enter Tryz.func76,Tryz.ntmps76;go_wp2_with fail;go_ret;exact⟨rfl,rfl⟩
theorem ccisFinite_any (f:Int)(hf:Word f)(w:World):Calls Tryz.prog 50 #[.int .u64 f] w fun e w'=>e=.returned (.bool (decide (fC f<3)))∧w'=w:=by
 go_enter Tryz.func50,Tryz.ntmps50;go_wp2_with fail;refine(class_any f hf w).mono ?_;rintro r w1 ⟨rfl,rfl⟩;go_wp2_with fail;go_ret;exact⟨rfl,rfl⟩
theorem ty_cell {w:World}{B g c n:Nat}{l:List Int}(h:w.ownsRow B 36 1 (.slice (some ⟨g,0,none⟩) n c) n (l.map (Value.int .u8))){j:Nat}{t:Int}(hj:l[j]? = some t):w.cell? ⟨g,j,none⟩=some (.int .u8 t):=by
 have:=h.cells (g:=g) rfl j (.int .u8 t) (by rw[List.getElem?_map,hj];rfl);unfold Addr.add at this
 split at this
 ·rename_i h0;subst h0;exact this
 ·simpa using this
theorem keptO {w w':World}{k:Nat}{o:Obj}(hb:Below w.heap.size w w')(h:w.heap[k]? = some o):w'.heap[k]? = some o:=(hb.block k (Array.getElem?_eq_some_iff.1 h).1).trans h
theorem own_f12 {w:World}{B n z:Nat}{t:TypeId}{v:Value}{xs:List Value}(h:w.ownsRow B t z v n xs):∃A cp,v=.slice A n cp:=by
 rcases h.2 with⟨e,e2⟩|⟨g,cap,cur,e,hb,_⟩
 ·subst e2;exact⟨none,0,e⟩
 ·exact⟨some ⟨g,0,none⟩,cap,e⟩
theorem own_s12 {w:World}{B n z:Nat}{t:TypeId}{v:Value}{xs:List Value}(h:w.ownsRow B t z v n xs)(hn:0<n):∃g cap,v=.slice (some ⟨g,0,none⟩) n cap∧B≤g:=by
 rcases h.2 with⟨_,e⟩|⟨g,cap,cur,e,hb,_⟩
 ·omega
 ·exact⟨g,cap,e,hb⟩
structure Ckf (R M n:Nat) (f:List UInt8→Option Mn) (st:Bool) (lp:Int) (w:World):Prop where
 blk:Blk w R 67 #[.map (some M),.bool st,.int .i64 lp]
 mp:Mp w M n f
 ne:R≠M
theorem Ckf.fx {R M n:Nat}{f:List UInt8→Option Mn}{st:Bool}{lp:Int}{w w':World}{X:Nat→Prop}{B:Nat}(h:Ckf R M n f st lp w)(hf:Fx X B w w')(hR:R<B)(hM:M<B)(xR:¬X R)(xM:¬X M):Ckf R M n f st lp w':=
 ⟨hf.blk h.blk hR xR,h.mp.blk (hf.block M hM xM),h.ne⟩
theorem Ckf.bel {R M n:Nat}{f:List UInt8→Option Mn}{st:Bool}{lp:Int}{w w':World}(h:Ckf R M n f st lp w)(hb:Below w.heap.size w w'):Ckf R M n f st lp w':=
 h.fx (X:=fun _=>False) (Fx.of hb) h.blk.lt h.mp.lt (fun x=>x) (fun x=>x)
theorem Ckf.alloc {R M n:Nat}{f:List UInt8→Option Mn}{st:Bool}{lp:Int}{w:World}(h:Ckf R M n f st lp w)(o:Obj):Ckf R M n f st lp (w.alloc o):=h.bel (bel_one w o)
def mnOf (d:De):Mn:=⟨if d.inp then 1 else 0,d.ty,decide (d.len≠0)⟩
theorem ccindexes_any (m:Mn)(w:World):Calls Tryz.prog 73 #[mnV m] w fun e w'=>e=.returned (.int .i64 (if m.ar then 1 else 0))∧Below w.heap.size w w':=by
 obtain⟨u,t,a⟩:=m;have BL:=bel_one w (.cells #[.int .i64 u,.int .u8 t,.bool a] 96);cases a
 all_goals
  show Calls Tryz.prog 73 #[.agg #[.int .i64 u,.int .u8 t,.bool _]] w _;go_enter Tryz.func73,Tryz.ntmps73;go_wp2_with fail;go_ret;exact⟨rfl,BL⟩
theorem ccknows_any (R M n:Nat)(f:List UInt8→Option Mn)(st:Bool)(lp:Int)(x:List UInt8)(w:World)(h:Ckf R M n f st lp w)(hx:x.length≤maxLen) :
  Calls Tryz.prog 28 #[.pointer (some ⟨R,0,none⟩),.string ⟨x.toArray⟩] w fun e w'=>e=.returned (.bool (f x).isSome)∧Below w.heap.size w w':=by
 have L:=h.mp.look hx;have c0:w.cell? ⟨R,0,none⟩=some (.map (some M)):=h.blk.cell 0;generalize (f x).isSome=b at *;generalize (f x).getD ⟨0,0,false⟩=m at *;obtain⟨u,t,a⟩:=m;change _=Result.ok (Value.tuple #[.agg #[.int .i64 u,.int .u8 t,.bool a],.bool b]) w at L;have BL:=bel_one w (.cells #[.int .i64 u,.int .u8 t,.bool a] 96);clear h hx;go_enter Tryz.func28,Tryz.ntmps28;go_wp2_with fail;go_ret;exact⟨rfl,BL⟩
def fnE (m:Option Mn)(p:Int):Ending:=match m with
 | some m=>.returned (mnV m)
 | none=>.panicked (fl12 120 p)
theorem ccfind_any (R M n:Nat)(f:List UInt8→Option Mn)(st:Bool)(lp:Int)(x:List UInt8)(p:Int)(w:World)(h:Ckf R M n f st lp w)(hx:x.length≤maxLen) :
  Calls Tryz.prog 72 #[.pointer (some ⟨R,0,none⟩),.string ⟨x.toArray⟩,.int .i64 p] w fun e w'=>e=fnE (f x) p∧Below w.heap.size w w':=by
 have h1:=h.alloc (.cells #[.int .i64 0,.int .u8 0,.bool false] 96);have K:=Hj (ccknows_any R M n f st lp x _ h1 hx);have B1:=Hj (bel_one w (.cells #[.int .i64 0,.int .u8 0,.bool false] 96));have NB:Hid (Blk (w.alloc (.cells #[.int .i64 0,.int .u8 0,.bool false] 96)) w.heap.size 96 #[.int .i64 0,.int .u8 0,.bool false]):=Blk.new _ _ _;have H1:=Hj h1;have HX:=Hj hx;have HL:Hid (R<w.heap.size):=h.blk.lt;clear h h1 hx;go_enter Tryz.func72,Tryz.ntmps72;go_upto_region 1 with fail;change (Code.region 1 _ _).wp _ _ _ (w.alloc (.cells #[.int .i64 0,.int .u8 0,.bool false] 96));generalize w.alloc (.cells #[.int .i64 0,.int .u8 0,.bool false] 96)=w1 at *;go_wp2_with fail;refine K.out.mono ?_;rintro r w2 ⟨rfl,b2⟩;have B2:=Hj (bel_trans B1.out b2);have NB2:=Hj (NB.out.below b2 NB.out.lt);have H2:=Hj (H1.out.bel b2);clear K B1 NB H1 b2
 cases hf:f x with
 | none=>
  have HF:=Hj hf;clear hf;simp only[Option.isSome_none];go_wp2_with fail;refine(ccmust_any _ _ _ _).mono ?_;rintro r w3 ⟨rfl,rfl⟩;dsimp only[muE];go_wp2_with fail;refine⟨rfl,?_,B2.out⟩;rw[HF.out];rfl
 | some m=>
  have L:=H2.out.mp.get HX.out hf;have c0:w2.cell? ⟨R,0,none⟩=some (.map (some M)):=H2.out.blk.cell 0;have HF:=Hj hf;clear hf;simp only[Option.isSome_some];obtain⟨u,t,a⟩:=m;change _=Result.ok (Value.agg #[.int .i64 u,.int .u8 t,.bool a]) w2 at L;go_wp2_with fail;refine(ccmust_any _ _ _ _).mono ?_;rintro r w3 ⟨rfl,e3⟩;subst e3;dsimp only[muE];have n0:w3.cell? ⟨w.heap.size,0,none⟩=some (.int .i64 0):=NB2.out.cell 0;have n1:w3.cell? ⟨w.heap.size,1,none⟩=some (.int .u8 0):=NB2.out.cell 1;have n2:w3.cell? ⟨w.heap.size,2,none⟩=some (.bool false):=NB2.out.cell 2;have z0:=NB2.out.frozen 0;have z1:=NB2.out.frozen 1;have z2:=NB2.out.frozen 2;go_wp2_with fail;have K:=((NB2.out.set_ 0 (.int .i64 u)).set_ 1 (.int .u8 t)).set_ 2 (.bool a);refine bodyPost_ret (results_cell_row rfl _ _ w.heap.size 96 _ (0,0) _ rfl K Tryz.underlying96 rfl (by kernel_rfl)) rfl ⟨by rw[HF.out];rfl,?_⟩;exact Below.setCell (Below.setCell (Below.setCell B2.out (p:=⟨w.heap.size,0,none⟩) (Nat.le_refl _) _) (p:=⟨w.heap.size,1,none⟩) (Nat.le_refl _) _) (p:=⟨w.heap.size,2,none⟩) (Nat.le_refl _) _
theorem dec_ne (x:Int):(x != 0)=decide (x≠0):=by
 by_cases h:x=0
 ·subst h;rfl
 ·simp[h]
theorem ccdeclare_any (R M n:Nat)(f:List UInt8→Option Mn)(st:Bool)(lp:Int)(d:De)(a b:EH)(w:World)(h:Ckf R M n f st lp w)(hnm:d.nm.length≤maxLen)(hn:n<maxLen) :
  Calls Tryz.prog 29 #[.pointer (some ⟨R,0,none⟩),dcv d a b] w fun r w'=>r=.returned (.tuple #[])∧Ckf R M (n+1) (fun y=>if y=d.nm then some (mnOf d)else f y) st lp w'∧Fx (On M) w.heap.size w w':=by
 have G:=bx_new w (dO d a b);have BL:=bx_bel (Below.refl w.heap.size w) (Nat.le_refl _) (dO d a b);have X:=d_cells G;have c1:=X.c1;have c2:=X.c2;have c3:=X.c3;have c4:=X.c4;have HSZ:Hid ((bx w (dO d a b)).heap.size=w.heap.size+1):=bx_size _ _;have H1:=Hj (h.bel BL);have B1:=Hj BL;have G1:=Hj G;have HN:=Hj hn;have HNM:=Hj hnm;have HRL:Hid (R<w.heap.size∧M<w.heap.size):=⟨h.blk.lt,h.mp.lt⟩;clear X G BL h hn hnm
 have Q:Hid (∀(us:Int) (ar:Bool) (hm:(⟨us,d.ty,ar⟩:Mn)=mnOf d) (w1 w3:World),Ckf R M n f st lp w3→Below w.heap.size w w3→∃w4,(Instr.mapUpdate 65 (.map (some M)) (.string ⟨d.nm.toArray⟩) (.agg #[.int .i64 us,.int .u8 d.ty,.bool ar])).run Tryz.prog w3=.ok () w4 ∧
   Ckf R M (n+1) (fun y=>if y=d.nm then some (mnOf d)else f y) st lp w4∧Fx (On M) w.heap.size w w4):=by
  intro us ar hm w1 w3 h3 hb;obtain⟨w4,h4,h5,h6⟩:=h3.mp.put HN.out HNM.out ⟨us,d.ty,ar⟩;refine⟨w4,h4,⟨?_,?_,h3.ne⟩,(Fx.of hb).trans (fx_turned h6)⟩
  ·exact(fx_turned (B:=w3.heap.size) h6).blk h3.blk h3.blk.lt (fun x=>h3.ne x)
  ·rw[←hm];exact h5
 clear HN HNM;have e4:Hid ((d.len != 0)=decide (d.len≠0)):=dec_ne _;show Calls Tryz.prog 29 #[.pointer (some ⟨R,0,none⟩),.agg #[.int .i64 d.ps,.bool d.inp,.string ⟨d.nm.toArray⟩,.int .u8 d.ty,.int .i64 d.len,.bool d.rg,.int .u8 a.op,.int .i64 a.ps,.bool a.bo,.int .i32 a.it,.int .u64 a.fl,.string ⟨a.nm.toArray⟩,.slice a.s.ao a.s.n a.s.c,.int .u8 b.op,.int .i64 b.ps,.bool b.bo,.int .i32 b.it,.int .u64 b.fl,.string ⟨b.nm.toArray⟩,.slice b.s.ao b.s.n b.s.c]] w _;go_enter Tryz.func29,Tryz.ntmps29;go_upto_region 1 with fail;rw[bx_d];generalize bx w (dO d a b)=w1 at *;go_upto_region 2 with fail;obtain⟨ar,har⟩:∃ar,decide (d.len≠0)=ar:=⟨_,rfl⟩;rw[dec_ne,har];clear e4;have hmn:Hid (∀us,us=(if d.inp then(1:Int)else 0)→(⟨us,d.ty,ar⟩:Mn)=mnOf d):=fun us h=>by rw[h,←har];rfl
 clear har;have N2:Hid (Blk (w1.alloc (.cells #[.int .i64 0,.int .u8 d.ty,.bool ar] 96)) w1.heap.size 96 #[.int .i64 0,.int .u8 d.ty,.bool ar]):=Blk.new _ _ _;have B2:=Hj (bel_alloc B1.out (.cells #[.int .i64 0,.int .u8 d.ty,.bool ar] 96));have H2:=Hj (H1.out.alloc (.cells #[.int .i64 0,.int .u8 d.ty,.bool ar] 96));have G2:=Hj (keptO (bel_one w1 (.cells #[.int .i64 0,.int .u8 d.ty,.bool ar] 96)) G1.out);have HG:Hid (w.heap.size<w1.heap.size∧R<w1.heap.size∧M<w1.heap.size):=by have:=HSZ.out;have:=HRL.out;exact⟨by omega,by omega,by omega⟩
 clear H1 B1 G1 HSZ c2 c3 c4 c1;have c1:=(d_cells G2.out).c1;generalize w1.alloc (.cells #[.int .i64 0,.int .u8 d.ty,.bool ar] 96)=w2 at *;generalize w1.heap.size=g at *
 cases hi:d.inp with
 | false=>
  rw[hi]at c1;have N3:=N2;have B3:=B2;have H3:=H2;have G3:=G2;clear N2 B2 H2 G2;have HI:=Hj hi;clear hi;go_upto_region 4 with fail;have hi:=HI.out;clear c1 HI;have x0:w2.cell? ⟨R,0,none⟩=some (.map (some M)):=H3.out.blk.cell 0;have x1:=(d_cells G3.out).c2;have x2:=N3.out.cell 0;have x3:=N3.out.cell 1;have x4:=N3.out.cell 2
  simp at x2 x3 x4
  go_still_tail 7,(by kernel_rfl)
  obtain⟨w4,hr,hck,hfx⟩:=Q.out 0 ar (hmn.out _ (by rw[hi];rfl)) w1 w2.drew (H3.out.bel (bel_drew (Below.refl _ _))) (bel_drew B3.out);clear hi;change wpList _ _ _ _ _ w2.drew;generalize w2.drew=wz at *;go_wp2_with fail;exact bodyPost_end (results_none rfl _ _ _) rfl ⟨rfl,hck,hfx⟩
 | true=>
  rw[hi]at c1;have HI:=Hj hi;clear hi;have n0:w2.cell? ⟨g,0,none⟩=some (.int .i64 0):=N2.out.cell 0;have z0:=N2.out.frozen 0;go_upto_region 4 with fail;have hi:=HI.out;have N3:=Hj (N2.out.set_ 0 (.int .i64 1));have B3:=Hj (Below.setCell B2.out (p:=⟨g,0,none⟩) (Nat.le_of_lt HG.out.1) (.int .i64 1));have H3:Hid (Ckf R M n f st lp (w2.setCell ⟨g,0,none⟩ (.int .i64 1))):=H2.out.fx (X:=On g) (B:=w2.heap.size) (fx_set (X:=On g) (Fx.refl _ _ _) (p:=⟨g,0,none⟩) (.inl rfl) _) H2.out.blk.lt H2.out.mp.lt (fun(e:R=g)=>by have:=HG.out;omega) (fun(e:M=g)=>by have:=HG.out;omega);have G3:Hid ((w2.setCell ⟨g,0,none⟩ (.int .i64 1)).heap[w.heap.size]? = some (dO d a b)):=(Below.heap_setCell _ _ _ _ (by show _≠g;have:=HG.out;omega)).trans G2.out;clear c1 HI N2 B2 H2 G2 n0 z0;generalize w2.setCell ⟨g,0,none⟩ (.int .i64 1)=w3 at *;have x0:w3.cell? ⟨R,0,none⟩=some (.map (some M)):=H3.out.blk.cell 0;have x1:=(d_cells G3.out).c2;have x2:=N3.out.cell 0;have x3:=N3.out.cell 1;have x4:=N3.out.cell 2
  simp at x2 x3 x4
  go_still_tail 7,(by kernel_rfl)
  obtain⟨w4,hr,hck,hfx⟩:=Q.out 1 ar (hmn.out _ (by rw[hi];rfl)) w1 w3.drew (H3.out.bel (bel_drew (Below.refl _ _))) (bel_drew B3.out);clear hi;change wpList _ _ _ _ _ w3.drew;generalize w3.drew=wz at *;go_wp2_with fail;exact bodyPost_end (results_none rfl _ _ _) rfl ⟨rfl,hck,hfx⟩
end Go.Proofs.YtkbicfffokegeaaGreatDoor
