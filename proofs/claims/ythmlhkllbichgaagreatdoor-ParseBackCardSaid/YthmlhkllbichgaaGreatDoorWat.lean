/-
  ParseBack holds, tied to the program's text. (part 20 of 41) Conditions: none beside what the card ties.
-/
import Derived.Laws.Tables
import Derived.Laws.CopyOwn
import Derived.Test.YthmlhkllbichgaaGreatDoorWap
import Derived.Test.YthmlhkllbichgaaGreatDoorWas
import Derived.Test.YthmlhkllbichgaaGreatDoorWao
import Derived.StillTailTactics
namespace Go.Proofs.YthmlhkllbichgaaGreatDoor
set_option maxHeartbeats 16000000
open Go.RowKit
set_option maxRecDepth 100000
structure Fx (X:Nat→Prop) (B:Nat) (w w':World):Prop where
 os:w'.os=w.os
 tape:w'.tape=w.tape
 output:w'.output=w.output
 size:w.heap.size≤w'.heap.size
 block:∀k,k<B→¬X k→w'.heap[k]? = w.heap[k]?
theorem Fx.refl (X:Nat→Prop)(B:Nat)(w:World):Fx X B w w:=⟨rfl,rfl,rfl,Nat.le_refl _,fun _ _ _=>rfl⟩
theorem Fx.trans {X:Nat→Prop}{B:Nat}{a b c:World}(h:Fx X B a b)(k:Fx X B b c):Fx X B a c:=
 ⟨k.os.trans h.os,k.tape.trans h.tape,k.output.trans h.output,Nat.le_trans h.size k.size,fun i hi hx=>(k.block i hi hx).trans (h.block i hi hx)⟩
theorem Fx.mono {X Y:Nat→Prop}{B C:Nat}{w w':World}(h:Fx X B w w')(hB:C≤B)(hX:∀k,k<C→X k→Y k):Fx Y C w w':=
 ⟨h.os,h.tape,h.output,h.size,fun k hk hx=>h.block k (by omega) fun x=>hx (hX k hk x)⟩
theorem Fx.of {X:Nat→Prop}{B:Nat}{w w':World}(h:Below B w w'):Fx X B w w':=⟨h.os,h.tape,h.output,h.size,fun k hk _=>h.block k hk⟩
theorem Fx.bel {X:Nat→Prop}{B:Nat}{w w':World}(h:Fx X B w w')(hX:∀k,k<B→¬X k):Below B w w':=⟨h.os,h.tape,h.output,h.size,fun k hk=>h.block k hk (hX k hk)⟩
theorem Fx.alloc {X:Nat→Prop}{B:Nat}{a w:World}(h:Fx X B a w)(hB:B≤w.heap.size)(o:Obj):Fx X B a (w.alloc o):=
 h.trans (Fx.of ((Below.refl B w).alloc hB o))
theorem Fx.set {X:Nat→Prop}{B:Nat}{a w:World}(h:Fx X B a w){p:Addr}(hp:X p.block∨B≤p.block)(u:Value):Fx X B a (w.setCell p u):=by
 have e:=(Below.refl 0 w).setCell (p:=p) (Nat.zero_le _) u
 refine h.trans ⟨e.os,e.tape,e.output,e.size,fun k hk hx=>Below.heap_setCell _ _ _ _ ?_⟩
 rintro rfl
 rcases hp with hp|hp
 ·exact hx hp
 ·omega
theorem Fx.then {X:Nat→Prop}{B:Nat}{a b c:World}(h:Fx X B a b)(hB:B≤a.heap.size)(k:Fx X b.heap.size b c):Fx X B a c:=
 h.trans (k.mono (Nat.le_trans hB h.size) fun _ _ x=>x)
theorem Fx.blk {X:Nat→Prop}{B g:Nat}{w w':World}{t:TypeId}{cs:Array Value}(h:Fx X B w w')(b:Blk w g t cs)(hg:g<B)(hx:¬X g):Blk w' g t cs:=(h.block g hg hx).trans b
theorem fx_alloc {X:Nat→Prop}{a w:World}(h:Fx X a.heap.size a w)(o:Obj):Fx X a.heap.size a (w.alloc o):=h.alloc h.size o
theorem fx_set {X:Nat→Prop}{a w:World}(h:Fx X a.heap.size a w){p:Addr}(hp:X p.block∨a.heap.size≤p.block)(u:Value):Fx X a.heap.size a (w.setCell p u):=h.set hp u
theorem fx_trans {X:Nat→Prop}{a b c:World}(h:Fx X a.heap.size a b)(k:Fx X b.heap.size b c):Fx X a.heap.size a c:=h.then (Nat.le_refl _) k
theorem fx_bel {X:Nat→Prop}{a b c:World}(h:Fx X a.heap.size a b)(k:Below b.heap.size b c):Fx X a.heap.size a c:=fx_trans h (Fx.of k)
def On (R:Nat):Nat→Prop:=fun k=>k=R
def Rdr (R d:Nat)(s:PS)(w:World):Prop:=∃T o c,T<R∧Blk w R 110 #[.slice (some ⟨T,o,none⟩) s.ts.length c,.int .i64 (d:Int),.int .i64 (s.ns:Int),.int .i64 (s.nx:Int)] ∧
 w.rangeAt T o (tksC s.ts)∧s.ts.length≤c∧c≤maxLen∧Good s.ts∧s.ns≤200∧s.nx≤2000∧d≤24
theorem Rdr.lt {R d:Nat}{s:PS}{w:World}(h:Rdr R d s w):R<w.heap.size:=by
 obtain⟨T,o,c,h1,h2, -⟩:=h
 exact h2.lt
theorem Rdr.good {R d:Nat}{s:PS}{w:World}(h:Rdr R d s w):Good s.ts:=by
 obtain⟨T,o,c, -, -, -, -, -,h, -⟩:=h
 exact h
theorem Rdr.deep {R d:Nat}{s:PS}{w:World}(h:Rdr R d s w):d≤24:=by
 obtain⟨T,o,c, -, -, -, -, -, -, -, -,h⟩:=h
 exact h
theorem rangeAt_blk {w w':World}{T o:Nat}{l:List Value}(h:w.rangeAt T o l)(e:w'.heap[T]? = w.heap[T]?):w'.rangeAt T o l:=fun j v hv=>by
 have:=h j v hv
 unfold World.cell? at this ⊢
 dsimp only at this ⊢
 rw[e]
 exact this
theorem Rdr.fx {R d:Nat}{s:PS}{w w':World}{X:Nat→Prop}{B:Nat}(h:Rdr R d s w)(hf:Fx X B w w')(hR:R<B)(hX:∀k,k≤R→¬X k):Rdr R d s w':=by
 obtain⟨T,o,c,h1,h2,h3,h4⟩:=h
 exact⟨T,o,c,h1,hf.blk h2 hR (hX R (Nat.le_refl _)),rangeAt_blk h3 (hf.block T (by omega) (hX T (by omega))),h4⟩
theorem Rdr.below {R d:Nat}{s:PS}{w w':World}{B:Nat}(h:Rdr R d s w)(hb:Below B w w')(hR:R<B):Rdr R d s w':=h.fx (Fx.of (X:=fun _=>False) hb) hR fun _ _ x=>x
theorem Rdr.alloc {R d:Nat}{s:PS}{w:World}(h:Rdr R d s w)(o:Obj):Rdr R d s (w.alloc o):=h.below ((Below.refl w.heap.size w).alloc (Nat.le_refl _) o) h.lt
theorem Rdr.set {R d:Nat}{s:PS}{w:World}(h:Rdr R d s w){p:Addr}(hp:R<p.block)(u:Value):Rdr R d s (w.setCell p u):=
 h.below ((Below.refl (R+1) w).setCell (p:=p) hp u) (Nat.lt_succ_self _)
def Tk.v (t:Tk):Value:=.agg #[.int .u8 t.kd,.int .i64 t.ps,.string ⟨t.tx.toArray⟩,.int .i32 t.nn,.int .u64 t.ff]
structure RdC (R d T o c:Nat) (s:PS) (w:World):Prop where
 tr:T<R
 blk:Blk w R 110 #[.slice (some ⟨T,o,none⟩) s.ts.length c,.int .i64 (d:Int),.int .i64 (s.ns:Int),.int .i64 (s.nx:Int)]
 c0:w.cell? ⟨T,o,none⟩=some (.int .u8 s.hd.kd)
 c1:w.cell? ⟨T,o+1,none⟩=some (.int .i64 s.hd.ps)
 c2:w.cell? ⟨T,o+2,none⟩=some (.string ⟨s.hd.tx.toArray⟩)
 c3:w.cell? ⟨T,o+3,none⟩=some (.int .i32 s.hd.nn)
 c4:w.cell? ⟨T,o+4,none⟩=some (.int .u64 s.hd.ff)
 row:w.rangeAt T o (tksC s.ts)
 lc:s.ts.length≤c
 cm:c≤maxLen
 good:Good s.ts
 ns:s.ns≤200
 nx:s.nx≤2000
 dp:d≤24
theorem Rdr.rc {R d:Nat}{s:PS}{w:World}(h:Rdr R d s w):∃T o c,RdC R d T o c s w:=by
 obtain⟨T,o,c,h1,h2,h3,h4,h5,h6,h7,h8,h9⟩:=h
 have g:∀j v,(tkCs s.hd)[j]? = some v→w.cell? ⟨T,o+j,none⟩=some v:=by
  intro j v hv
  refine h3 j v ?_
  obtain⟨t,r,e⟩:∃t r,s.ts=t::r:=by
   cases e:s.ts with
   | nil=>rw[e]at h6;exact h6.elim
   | cons t r=>exact⟨t,r,rfl⟩
  have e2:s.hd=t:=by unfold PS.hd;rw[e];rfl
  rw[e2]at hv
  rw[e]
  show(tkCs t++tksC r)[j]? = some v
  rw[List.getElem?_append_left (List.getElem?_eq_some_iff.1 hv).1]
  exact hv
 exact⟨T,o,c,h1,h2,g 0 _ rfl,g 1 _ rfl,g 2 _ rfl,g 3 _ rfl,g 4 _ rfl,h3,h4,h5,h6,h7,h8,h9⟩
theorem RdC.tk {R d T o c:Nat}{s:PS}{w w':World}(h:RdC R d T o c s w)(hk:s.hd.kd≠0)(hb:Blk w' R 110 #[.slice (some ⟨T,o+5,none⟩) (s.ts.length-1) (c-1),.int .i64 (d:Int),.int .i64 (s.ns:Int),.int .i64 (s.nx:Int)])
  (hT:w'.heap[T]? = w.heap[T]?):Rdr R d s.tk w':=by
 have hl:=tk_len h.good
 have hlc:=h.lc
 have e:s.tk.ts.length=s.ts.length-1:=by omega
 refine⟨T,o+5,c-1,h.tr,by rw[e];exact hb,?_,by omega,by have:=h.cm;omega,h.good.tail hk,h.ns,h.nx,h.dp⟩
 refine rangeAt_blk (w:=w) (fun j v hv=>?_) hT
 have:=h.row (5+j) v (by
  obtain⟨t,r,e⟩:∃t r,s.ts=t::r:=by
   cases e:s.ts with
   | nil=>have:=h.good;rw[e]at this;exact this.elim
   | cons t r=>exact⟨t,r,rfl⟩
  have e2:s.tk.ts=r:=by unfold PS.tk;rw[e];rfl
  rw[e2]at hv
  rw[e]
  show(tkCs t++tksC r)[5+j]? = some v
  rw[List.getElem?_append_right (by simp[tkCs])]
  simpa [tkCs] using hv)
 rw[←Nat.add_assoc]at this
 exact this
theorem RdC.nums {R d T o c:Nat}{s:PS}{w w':World}(h:RdC R d T o c s w){d' ns' nx':Nat}(hb:Blk w' R 110 #[.slice (some ⟨T,o,none⟩) s.ts.length c,.int .i64 (d':Int),.int .i64 (ns':Int),.int .i64 (nx':Int)])
  (hT:w'.heap[T]? = w.heap[T]?) (h1:ns'≤200) (h2:nx'≤2000) (h3:d'≤24):Rdr R d' ⟨s.ts,ns',nx'⟩ w':=
 ⟨T,o,c,h.tr,hb,rangeAt_blk h.row hT,h.lc,h.cm,h.good,h1,h2,h3⟩
theorem RdC.fx {R d T o c:Nat}{s:PS}{w w':World}{X:Nat→Prop}{B:Nat}(h:RdC R d T o c s w)(hf:Fx X B w w')(hR:R<B)(hX:∀k,k≤R→¬X k):RdC R d T o c s w':=by
 have e:=hf.block T (Nat.lt_trans h.tr hR) (hX T (Nat.le_of_lt h.tr))
 have g:∀j,w'.cell? ⟨T,j,none⟩=w.cell? ⟨T,j,none⟩:=fun j=>World.cell?_of_block (w:=w) e
 exact⟨h.tr,hf.blk h.blk hR (hX R (Nat.le_refl _)),(g _).trans h.c0,(g _).trans h.c1,(g _).trans h.c2,(g _).trans h.c3,(g _).trans h.c4,rangeAt_blk h.row e,h.lc,h.cm,h.good,h.ns,h.nx,h.dp⟩
theorem RdC.below {R d T o c:Nat}{s:PS}{w w':World}{B:Nat}(h:RdC R d T o c s w)(hb:Below B w w')(hR:R<B):RdC R d T o c s w':=h.fx (Fx.of (X:=fun _=>False) hb) hR fun _ _ x=>x
def flP (c p:Int):List PanicEntry:=[{ v:=.iface 66 (.agg #[.int .i64 c,.int .i64 p]),recovered:=false }]
def PO {α:Type}(R d:Nat)(w:World)(r:Rs α)(V:α→Value→World→Prop)(e:Ending)(w':World):Prop:=
 match r with
 | .ok a s=>∃v,e=.returned v∧V a v w'∧Rdr R d s w'∧Fx (On R) w.heap.size w w'
 | .no c p=>e=.panicked (flP c p)∧Fx (On R) w.heap.size w w'
def V0 {α:Type}(_:α)(v:Value)(_:World):Prop:=v=.tuple #[]
open Classical in
noncomputable def up (D:Nat→Prop) (w:World):World:={ w with heap:=w.heap.mapIdx fun i o=>if D i then o else .cells #[] 0 (0,0) }
theorem up_heap (D:Nat→Prop)(w:World)(k:Nat)(h:D k):(up D w).heap[k]? = w.heap[k]?:=by
 simp only[up,Array.getElem?_mapIdx,if_pos h]
 cases w.heap[k]?<;>rfl
theorem up_not (D:Nat→Prop)(w:World)(k:Nat)(h:¬D k):(up D w).heap[k]? = (w.heap[k]?).map fun _=>.cells #[] 0 (0,0):=by
 simp only[up,Array.getElem?_mapIdx,if_neg h]
theorem up_cell {D:Nat→Prop}{w:World}{p:Addr}{v:Value}:(up D w).cell? p=some v↔D p.block∧w.cell? p=some v:=by
 unfold World.cell?
 by_cases h:D p.block
 ·rw[up_heap D w _ h]
  exact⟨fun g=>⟨h,g⟩,fun g=>g.2⟩
 ·rw[up_not D w _ h]
  refine⟨fun g=>?_,fun g=>absurd g.1 h⟩
  cases hq:w.heap[p.block]? with
  | none=>rw[hq]at g;cases g
  | some o=>rw[hq]at g;simp at g
def Stay (B:Nat)(w w':World):Prop:=∀(p:Addr) (v:Value),p.block<B→w.cell? p=some v→w'.cell? p=some v
theorem Rw.stay {w w':World}{B B':Nat}{s:Sl}{sz:Nat}{cs:Nat→List Value}(h:Rw w B s sz cs)(hb:Stay B w w')(hB:B≤B'):Rw w' B' s sz cs:=by
 intro a ha i hi
 obtain⟨h1,h2⟩:=h a ha i hi
 refine⟨by omega,fun j v hv=>hb _ _ ?_ (h2 j v hv)⟩
 unfold Addr.add
 split<;>exact h1
theorem Ex.In.stay {B B':Nat}{w w':World}(hb:Stay B w w')(hB:B≤B'){e:Ex}:e.In B w→e.In B' w':=by
 induction e with
 | no=>exact fun _=>trivial
 | mk h k ih=>exact fun⟨h1,h2,h3⟩=>⟨h1,h2.stay hb hB,fun i hi=>ih i (h3 i hi)⟩
theorem XsIn.stay {B B':Nat}{w w':World}{s:Sl}{k:Nat→Ex}(h:XsIn B w s k)(hb:Stay B w w')(hB:B≤B'):XsIn B' w' s k:=
 ⟨h.1,h.2.1.stay hb hB,fun i hi=>(h.2.2 i hi).stay hb hB⟩
theorem St.In.stay {B B':Nat}{w w':World}(hb:Stay B w w')(hB:B≤B'){s:St}:s.In B w→s.In B' w':=by
 induction s with
 | no=>exact fun _=>trivial
 | mk h x e t l it il=>exact fun⟨h1,h2,h3,h4,h5,h6,h7⟩=>⟨h1,h2.stay hb hB,h3.stay hb hB,h4.stay hb hB,fun i hi=>it i (h5 i hi),h6.stay hb hB,fun i hi=>il i (h7 i hi)⟩
theorem SsIn.stay {B B':Nat}{w w':World}{s:Sl}{k:Nat→St}(h:SsIn B w s k)(hb:Stay B w w')(hB:B≤B'):SsIn B' w' s k:=
 ⟨h.1,h.2.1.stay hb hB,fun i hi=>(h.2.2 i hi).stay hb hB⟩
theorem De.In.stay {B B':Nat}{w w':World}{d:De}(h:d.In B w)(hb:Stay B w w')(hB:B≤B'):d.In B' w':=⟨h.1,h.2.1.stay hb hB,h.2.2.stay hb hB⟩
theorem DsIn.stay {B B':Nat}{w w':World}{s:Sl}{k:Nat→De}(h:DsIn B w s k)(hb:Stay B w w')(hB:B≤B'):DsIn B' w' s k:=
 ⟨h.1,h.2.1.stay hb hB,fun i hi=>(h.2.2 i hi).stay hb hB⟩
theorem stay_up (D:Nat→Prop)(w:World):Stay w.heap.size (up D w) w:=fun _ _ _ h=>(up_cell.1 h).2
theorem stay_imp {D D':Nat→Prop}{B:Nat}(h:∀k,k<B→D k→D' k)(w:World):Stay B (up D w) (up D' w):=fun _ _ hp g=>up_cell.2 ⟨h _ hp (up_cell.1 g).1,(up_cell.1 g).2⟩
theorem stay_fx {X D:Nat→Prop}{w w':World}(h:Fx X w.heap.size w w')(hX:∀k,X k→¬D k):Stay w.heap.size (up D w) (up D w'):=fun p v hp g=>by
 obtain⟨g1,g2⟩:=up_cell.1 g
 refine up_cell.2 ⟨g1,?_⟩
 rw[←g2]
 exact World.cell?_of_block (w:=w) (h.block p.block hp fun x=>hX _ x g1)
def Fro (L:Nat):Nat→Prop:=fun k=>L≤k
def XO (D:Nat→Prop)(e:Ex)(w:World):Prop:=e.In w.heap.size (up D w)
theorem XO.fx {X D:Nat→Prop}{e:Ex}{w w':World}(h:XO D e w)(hf:Fx X w.heap.size w w')(hX:∀k,X k→¬D k):XO D e w':=Ex.In.stay (stay_fx hf hX) hf.size h
theorem XO.imp {D D':Nat→Prop}{e:Ex}{w:World}(h:XO D e w)(hD:∀k,k<w.heap.size→D k→D' k):XO D' e w:=Ex.In.stay (stay_imp hD w) (Nat.le_refl _) h
theorem XO.out {D:Nat→Prop}{e:Ex}{w:World}(h:XO D e w):e.In w.heap.size w:=Ex.In.stay (stay_up D w) (Nat.le_refl _) h
def Ex.eqv:Ex→Ex→Prop
 | .no,f=>hdS zeroH f.h=true∧f.h.ps=0
 | .mk h k,f=>hdS h f.h=true∧f.h.ps=h.ps∧∀i,i<h.s.n→(k i).eqv (f.k i)
theorem Ex.eqv_iff (e f:Ex):e.eqv f↔hdS e.h f.h=true∧f.h.ps=e.h.ps∧∀i,i<e.h.s.n→(e.k i).eqv (f.k i):=by
 cases e with
 | no=>exact⟨fun h=>⟨h.1,h.2,fun i hi=>absurd hi (Nat.not_lt_zero i)⟩,fun h=>⟨h.1,h.2.1⟩⟩
 | mk h k=>exact Iff.rfl
theorem hdS_refl (h:EH):hdS h h=true:=by simp[hdS]
theorem Ex.eqv_refl (e:Ex):e.eqv e:=by
 induction e using Ex.ind with
 | H e ih=>exact(Ex.eqv_iff e e).2 ⟨hdS_refl _,rfl,ih⟩
theorem Ex.eqv_same {e:Ex}:∀ {f:Ex},e.eqv f→e.same f=true:=by
 induction e using Ex.ind with
 | H e ih=>
  intro f h
  obtain⟨h1,h2,h3⟩:=(Ex.eqv_iff e f).1 h
  rw[Ex.same_hd,Bool.and_eq_true]
  exact⟨h1,al_iff.2 fun i hi=>ih i hi (h3 i hi)⟩
def VD (D:Nat→Prop)(e:Ex)(v:Value)(w:World):Prop:=∃e':Ex,v=e'.h.v∧XO D e' w∧e'.eqv e
def VX (L:Nat)(e:Ex)(v:Value)(w:World):Prop:=∃e':Ex,v=e'.h.v∧XO (Fro L) e' w∧e'.eqv e
theorem fx_row {X:Nat→Prop}{a w:World}(h:Fx X a.heap.size a w){g:Nat}(hp:X g∨a.heap.size≤g)(cs:Array Value):Fx X a.heap.size a (w.setRow g cs):=by
 have e:=below_setRow (Below.refl 0 w) (Nat.zero_le g) cs
 refine h.trans ⟨e.os,e.tape,e.output,e.size,fun k hk hx=>setRow_other w g k cs ?_⟩
 rintro rfl
 rcases hp with hp|hp
 ·exact hx hp
 ·omega
theorem Rdr.row {R d:Nat}{s:PS}{w:World}(h:Rdr R d s w){g:Nat}(hp:R<g)(cs:Array Value):Rdr R d s (w.setRow g cs):=
 h.below (below_setRow (Below.refl (R+1) w) hp cs) (Nat.lt_succ_self _)
theorem Blk.rowS {w:World}{g:Nat}{t:TypeId}{old:Array Value}(h:Blk w g t old)(cs:Array Value):Blk (w.setRow g cs) g t cs:=setRow_heap w g old cs t (0,0) h
theorem XO.row {D:Nat→Prop}{e:Ex}{w:World}(h:XO D e w){g:Nat}(hg:¬D g)(cs:Array Value):XO D e (w.setRow g cs):=h.fx (X:=On g) (fx_row (X:=On g) (Fx.refl _ _ _) (g:=g) (.inl rfl) cs) (fun k (x:k=g)=>by rw[x];exact hg)
theorem Blk.off {w:World}{g k:Nat}{t:TypeId}{old:Array Value}(h:Blk w k t old)(hk:k≠g)(cs:Array Value):Blk (w.setRow g cs) k t old:=(setRow_other w g k cs hk).trans h
theorem row_size (w:World)(g:Nat)(cs:Array Value):(w.setRow g cs).heap.size=w.heap.size:=by simp[World.setRow]
def Tk.vs (t:Tk):Array Value:=#[.int .u8 t.kd,.int .i64 t.ps,.string ⟨t.tx.toArray⟩,.int .i32 t.nn,.int .u64 t.ff]
def EH.va (h:EH):Array Value:=#[.int .u8 h.op,.int .i64 h.ps,.bool h.bo,.int .i32 h.it,.int .u64 h.fl,.string ⟨h.nm.toArray⟩,.slice h.s.ao h.s.n h.s.c]
def zX:Obj:=.cells #[.int .u8 0,.int .i64 0,.bool false,.int .i32 0,.int .u64 0,.string ⟨#[]⟩,.slice none 0 0] 41
section
variable {ops:Array Oper} {rest:List Oper} {o:Oper} {a:Act} {w:World} {Q:Exit→Act→World→Prop}
theorem st_tok (t:Tk)(g:Nat)(old:Array Value)(hg:Blk w g 62 old)(hold:old.size=5)(hgd:o.guard=none)(x y:Operand)(ho:o.op=.store 62 x y)(hx:a.eval x=.pointer (some ⟨g,0,none⟩))(hy:a.eval y=t.v)
  (h:wpList Tryz.prog ops Q rest (a.put o.dst undef) (w.setRow g t.vs)):wpList Tryz.prog ops Q (o::rest) a w:=
 wpList_store_row hgd 62 x y ho g t.vs hx hy 62 old hg (by kernel_rfl) hold (by simp[Tk.vs,Value.oneCell']) h
theorem st_ex (e:EH)(g:Nat)(old:Array Value)(hg:Blk w g 41 old)(hold:old.size=7)(hgd:o.guard=none)(x y:Operand)(ho:o.op=.store 41 x y)(hx:a.eval x=.pointer (some ⟨g,0,none⟩))(hy:a.eval y=e.v)
  (h:wpList Tryz.prog ops Q rest (a.put o.dst undef) (w.setRow g e.va)):wpList Tryz.prog ops Q (o::rest) a w:=
 wpList_store_row hgd 41 x y ho g e.va hx hy 41 old hg (by kernel_rfl) hold (by simp[EH.va,Value.oneCell']) h
theorem ld_ex (e:EH)(g:Nat)(hg:Blk w g 41 e.va)(hgd:o.guard=none)(x:Operand)(ho:o.op=.load 41 x)(hx:a.eval x=.pointer (some ⟨g,0,none⟩))
  (h:wpList Tryz.prog ops Q rest (a.put o.dst (.agg #[.int .u8 e.op,.int .i64 e.ps,.bool e.bo,.int .i32 e.it,.int .u64 e.fl,.string ⟨e.nm.toArray⟩,.slice e.s.ao e.s.n e.s.c])) w):wpList Tryz.prog ops Q (o::rest) a w:=
 wpList_load_row hgd 41 x ho g hx 41 e.va (0,0) _ hg Tryz.underlying41 rfl (by kernel_rfl) h
end
theorem rs_tok {fn:Func}{p:Tmp}(h:fn.results=#[.cell p 62])(tmps:Array Value)(w:World)(g:Nat)(t:Tk)(hp:tmps.getD p undef=.pointer (some ⟨g,0,none⟩))(hg:Blk w g 62 t.vs):(results fn tmps).run Tryz.prog w=.ok t.v w:=
 results_cell_row h tmps w g 62 t.vs (0,0) _ hp hg Tryz.underlying62 rfl (by kernel_rfl)
theorem rs_ex {fn:Func}{p:Tmp}(h:fn.results=#[.cell p 41])(tmps:Array Value)(w:World)(g:Nat)(e:EH)(hp:tmps.getD p undef=.pointer (some ⟨g,0,none⟩))(hg:Blk w g 41 e.va):(results fn tmps).run Tryz.prog w=.ok e.v w:=
 results_cell_row h tmps w g 41 e.va (0,0) _ hp hg Tryz.underlying41 rfl (by kernel_rfl)
theorem bx_ex (w:World)(e:EH):Blk (bx w (xO e)) w.heap.size 41 e.va:=bx_new w (xO e)
def Runs (n:Nat):Prop:=∀(args:Array Value) (w:World),(callFunc n args).run Tryz.prog w=.ok (.enter n args) w
def Reads (R d n:Nat)(p:PS→Rs Ex):Prop:=∀(s:PS) (w:World),Rdr R d s w→Calls Tryz.prog n #[.pointer (some ⟨R,0,none⟩)] w (PO R d w (p s) (VX w.heap.size))
theorem whole_ok {e a:Ex}{s s':PS}(h:whole e s=.ok a s'):a=e:=by
 unfold whole at h
 split at h
 ·cases h
 ·cases h;rfl
theorem XO.bel {D:Nat→Prop}{e:Ex}{w w':World}(h:XO D e w)(hb:Below w.heap.size w w'):XO D e w':=h.fx (X:=fun _=>False) (Fx.of hb) (fun _ x=>x.elim)
theorem bel_one (w:World)(o:Obj):Below w.heap.size w (w.alloc o):=(Below.refl _ _).alloc (Nat.le_refl _) o
theorem on_not {R:Nat}{D:Nat→Prop}(h:¬D R):∀k,On R k→¬D k:=fun k (x:k=R)=>by rw[x];exact h
theorem on_ne {R g:Nat}(h:R<g):¬On R g:=fun x=>by unfold On at x;omega
theorem eh_ok {op ps it fl:Int}{bo:Bool}{nm:List UInt8}{s:Sl}(ho0:0≤op)(ho1:op≤255)(hp0:0≤ps)(hp1:ps≤16384)(hi0:-2147483648≤it)(hi1:it≤2147483647)(hf0:0≤fl)(hf1:fl<18446744073709551616)(hn:nm.length≤16384)(hs:s.ok) :
  (⟨op,ps,bo,it,fl,nm,s⟩:EH).ok:=
 ⟨ho0,ho1,by dsimp only;omega,by dsimp only;omega,hi0,hi1,⟨hf0,hf1⟩,Nat.le_trans hn (by unfold maxLen;decide),hs⟩
theorem sl_ok (a:Addr)(n:Nat)(h:n≤1000000):(⟨some a,n,n⟩:Sl).ok:=⟨Nat.le_refl _,Nat.le_trans h (by unfold maxLen;decide),fun e=>by cases e⟩
theorem sl_no:(⟨none,0,0⟩:Sl).ok:=⟨Nat.le_refl _,Nat.zero_le _,fun _=>rfl⟩
theorem two_in {D:Nat→Prop}{w:World}{e f:Ex}{op ps:Int}(h1:XO D e w)(h2:XO D f w)(hL:D w.heap.size)(ho0:0≤op)(ho1:op≤255)(hp0:0≤ps)(hp1:ps≤16384)
  {w':World} {t:TypeId} (hw:w'=w.alloc (.cells (e.h.vs++f.h.vs).toArray t)) :
  XO D (.mk ⟨op,ps,false,0,0,[],⟨some ⟨w.heap.size,0,none⟩,2,2⟩⟩ (fun i=>if i=0 then e else f)) w':=by
 subst hw
 have k:∀x:Ex,XO D x w→XO D x (w.alloc (.cells (e.h.vs++f.h.vs).toArray t)):=fun x hx=>hx.fx (X:=fun _=>False) (Fx.of ((Below.refl _ _).alloc (Nat.le_refl _) _)) (fun _ h=>h.elim)
 refine⟨eh_ok ho0 ho1 hp0 hp1 (by decide) (by decide) (by decide) (by decide) (Nat.zero_le _) (sl_ok _ _ (by decide)),?_,?_⟩
 ·intro a ha i hi
  cases ha
  have hi:i<2:=hi
  refine⟨by rw[World.size_alloc];exact Nat.lt_succ_self _,fun j v hv=>?_⟩
  have hb:=Blk.new w t (e.h.vs++f.h.vs).toArray
  have hj:j<7:=by
   have:=(List.getElem?_eq_some_iff.1 hv).1
   simpa [EH.vs] using this
  rw[up_cell,Addr.add_mid]
  refine⟨hL,?_⟩
  rw[Nat.zero_add,hb.cell]
  simp only[List.getElem?_toArray]
  rcases(show i=0∨i=1 by omega)with rfl|rfl
  ·simp only[if_pos]at hv
   rw[List.getElem?_append_left (by simp[EH.vs];omega)]
   simpa using hv
  ·rw[List.getElem?_append_right (by simp[EH.vs])]
   simpa [EH.vs] using hv
 ·intro i hi
  dsimp only
  split
  ·exact k e h1
  ·exact k f h2
theorem one_in {D:Nat→Prop}{w:World}{e:Ex}{op ps:Int}{nm:List UInt8}(h1:XO D e w)(hL:D w.heap.size)(ho0:0≤op)(ho1:op≤255)(hp0:0≤ps)(hp1:ps≤16384)(hn:nm.length≤16384)
  {w':World} {t:TypeId} (hw:w'=w.alloc (.cells e.h.vs.toArray t)) :
  XO D (.mk ⟨op,ps,false,0,0,nm,⟨some ⟨w.heap.size,0,none⟩,1,1⟩⟩ (fun _=>e)) w':=by
 subst hw
 have k:XO D e (w.alloc (.cells e.h.vs.toArray t)):=h1.fx (X:=fun _=>False) (Fx.of ((Below.refl _ _).alloc (Nat.le_refl _) _)) (fun _ h=>h.elim)
 refine⟨eh_ok ho0 ho1 hp0 hp1 (by decide) (by decide) (by decide) (by decide) hn (sl_ok _ _ (by decide)),?_,fun i hi=>k⟩
 intro a ha i hi
 cases ha
 have hi:i<1:=hi
 refine⟨by rw[World.size_alloc];exact Nat.lt_succ_self _,fun j v hv=>?_⟩
 have hb:=Blk.new w t e.h.vs.toArray
 have hj:j<7:=by
  have:=(List.getElem?_eq_some_iff.1 hv).1
  simpa [EH.vs] using this
 rw[up_cell,Addr.add_mid]
 refine⟨hL,?_⟩
 rw[Nat.zero_add,hb.cell]
 simp only[List.getElem?_toArray]
 obtain rfl:i=0:=by omega
 simpa using hv
theorem two_eqv {e f a b:Ex}{op ps:Int}{A:Option Addr}{c:Nat}(h1:e.eqv a)(h2:f.eqv b):(Ex.mk ⟨op,ps,false,0,0,[],⟨A,2,c⟩⟩ (fun i=>if i=0 then e else f)).eqv (opX op ps [a,b]):=by
 refine⟨by simp[hdS,opX,Ex.h],rfl,fun i hi=>?_⟩
 have hi:i<2:=hi
 rcases(show i=0∨i=1 by omega)with rfl|rfl
 ·exact h1
 ·exact h2
theorem one_eqv {e a:Ex}{op ps:Int}{A:Option Addr}{c:Nat}(h1:e.eqv a):(Ex.mk ⟨op,ps,false,0,0,[],⟨A,1,c⟩⟩ (fun _=>e)).eqv (opX op ps [a]):=by
 refine⟨by simp[hdS,opX,Ex.h],rfl,fun i hi=>?_⟩
 have hi:i<1:=hi
 obtain rfl:i=0:=by omega
 exact h1
theorem ppfail_any (c p:Int)(w:World):Calls Tryz.prog 61 #[.int .i64 c,.int .i64 p] w fun e w'=>e=.panicked (flP c p)∧w'=w:=by
 go_enter Tryz.func61,Tryz.ntmps61
 go_wp2_with fail
 exact⟨rfl,rfl,rfl⟩
theorem ppnext_any (R d:Nat)(s:PS)(w:World)(h:Rdr R d s w):Calls Tryz.prog 107 #[.pointer (some ⟨R,0,none⟩)] w fun e w'=>e=.returned s.hd.v∧Below w.heap.size w w':=by
 obtain⟨T,o,c,C⟩:=h.rc
 have hp:=C.good.pos
 have r0:w.cell? ⟨R,0,none⟩=some (.slice (some ⟨T,o,none⟩) s.ts.length c):=C.blk.cell 0
 have lR:=C.blk.lt
 have lT:T<w.heap.size:=Nat.lt_trans C.tr C.blk.lt
 have c0:=C.c0;have c1:=C.c1;have c2:=C.c2;have c3:=C.c3;have c4:=C.c4
 have ht:s.hd.v=.agg #[.int .u8 s.hd.kd,.int .i64 s.hd.ps,.string ⟨s.hd.tx.toArray⟩,.int .i32 s.hd.nn,.int .u64 s.hd.ff]:=rfl
 generalize s.ts.length=n at *
 have hn:¬n=0:=by omega
 clear C h
 go_enter Tryz.func107,Tryz.ntmps107
 go_wp2_with fail
 exact bodyPost_ret (v:=s.hd.v) (by rw[ht];simp[results,Tryz.results107,go_sem]) rfl ⟨rfl,(Below.refl _ _).alloc (Nat.le_refl _) _⟩
theorem pptake_any (R d:Nat)(s:PS)(w:World)(h:Rdr R d s w)(hk:s.hd.kd≠0) :
  Calls Tryz.prog 108 #[.pointer (some ⟨R,0,none⟩)] w fun e w'=>e=.returned s.hd.v∧Rdr R d s.tk w'∧Fx (On R) w.heap.size w w':=by
 obtain⟨T,o,c,C⟩:=h.rc
 have hg:=C.good.tail hk
 have hl:=tk_len C.good
 have hp:0<s.tk.ts.length:=hg.pos
 have r0:w.cell? ⟨R,0,none⟩=some (.slice (some ⟨T,o,none⟩) s.ts.length c):=C.blk.cell 0
 have f0:w.frozen? ⟨R,0,none⟩=false:=C.blk.frozen 0
 have lR:=C.blk.lt
 have nT:=C.tr
 have lT:T<w.heap.size:=Nat.lt_trans C.tr C.blk.lt
 have lc:=C.lc
 have cm:=C.cm
 have c0:=C.c0;have c1:=C.c1;have c2:=C.c2;have c3:=C.c3;have c4:=C.c4
 have ht:s.hd.v=.agg #[.int .u8 s.hd.kd,.int .i64 s.hd.ps,.string ⟨s.hd.tx.toArray⟩,.int .i32 s.hd.nn,.int .u64 s.hd.ff]:=rfl
 have CC:=Hj C
 have HL:=Hj hl
 have HP:Hid (0<s.tk.ts.length):=hp
 unfold maxLen at cm
 generalize hN:s.ts.length=n at *
 have HN:=Hj hN
 clear hN
 have hn:¬n=0:=by omega
 have hn1:1≤n:=by omega
 have hc:¬c=1:=by omega
 clear C h hp hl hg
 go_enter Tryz.func108,Tryz.ntmps108
 go_wp2_with fail
 refine bodyPost_ret (v:=s.hd.v) (by rw[ht];simp[results,Tryz.results108,go_sem]) rfl ⟨rfl,?_,?_⟩
 ·have b:=CC.out.blk.set_ 0 (.slice (some ⟨T,o+5,none⟩) (n-1) (c-1))
  rw[←HN.out]at b
  refine CC.out.tk hk (by rw[←HN.out];exact(b.alloc _).alloc _) ?_
  rw[Below.heap_alloc _ _ _ (by rw[World.size_alloc,World.size_setCell];omega),Below.heap_alloc _ _ _ (by rw[World.size_setCell];omega),Below.heap_setCell _ _ _ _ (by simp;omega)]
 ·exact fx_alloc (fx_alloc (fx_set (X:=On R) (Fx.refl _ _ _) (p:=⟨R,0,none⟩) (.inl rfl) _) _) _
theorem tkv_kd (t:Tk)(w:World):(Instr.field 62 t.v 0).run Tryz.prog w=.ok (.int .u8 t.kd) w:=by kernel_rfl
theorem tkv_ps (t:Tk)(w:World):(Instr.field 62 t.v 1).run Tryz.prog w=.ok (.int .i64 t.ps) w:=by kernel_rfl
theorem tkv_tx (t:Tk)(w:World):(Instr.field 62 t.v 2).run Tryz.prog w=.ok (.string ⟨t.tx.toArray⟩) w:=by kernel_rfl
theorem tkv_nn (t:Tk)(w:World):(Instr.field 62 t.v 3).run Tryz.prog w=.ok (.int .i32 t.nn) w:=by kernel_rfl
theorem tkv_ff (t:Tk)(w:World):(Instr.field 62 t.v 4).run Tryz.prog w=.ok (.int .u64 t.ff) w:=by kernel_rfl
theorem ppsees_any (R d:Nat)(s:PS)(x:List UInt8)(w:World)(h:Rdr R d s w) :
  Calls Tryz.prog 109 #[.pointer (some ⟨R,0,none⟩),.string ⟨x.toArray⟩] w fun e w'=>e=.returned (.bool (s.hd.tx == x))∧Below w.heap.size w w':=by
 have ft:=fun w=>tkv_tx s.hd w
 go_enter Tryz.func109,Tryz.ntmps109
 go_wp2_with fail
 refine(ppnext_any R d s w h).mono ?_
 rintro e w1 ⟨rfl,hb⟩
 go_wp2_with fail
 go_ret
 exact⟨rfl,hb⟩
theorem pprefuse_any (R d:Nat)(s:PS)(w:World)(h:Rdr R d s w) :
  Calls Tryz.prog 106 #[.pointer (some ⟨R,0,none⟩)] w fun e w'=>e=.panicked (flP 110 s.hd.ps)∧Below w.heap.size w w':=by
 have ft:=fun w=>tkv_ps s.hd w
 go_enter Tryz.func106,Tryz.ntmps106
 go_wp2_with fail
 refine(ppnext_any R d s w h).mono ?_
 rintro e w1 ⟨rfl,hb⟩
 go_wp2_with fail
 refine(ppfail_any _ _ _).mono ?_
 rintro e w2 ⟨rfl,rfl⟩
 go_wp2_with fail
 exact⟨rfl,rfl,hb⟩
theorem beq_yes {a b:List UInt8}(h:a=b):(a == b)=true:=by simp[h]
theorem beq_no {a b:List UInt8}(h:¬a=b):(a == b)=false:=by simp[h]
def acS (s:PS)(x:List UInt8):PS:=if s.hd.tx=x then s.tk else s
theorem ppaccept_any (R d:Nat)(s:PS)(x:List UInt8)(hx:x≠[])(w:World)(h:Rdr R d s w) :
  Calls Tryz.prog 105 #[.pointer (some ⟨R,0,none⟩),.string ⟨x.toArray⟩] w fun e w'=>e=.returned (.bool (s.hd.tx == x))∧Rdr R d (acS s x) w'∧Fx (On R) w.heap.size w w':=by
 have HS:=Hj (ppsees_any R d s x w h)
 by_cases c:s.hd.tx=x
 ·have e1:=beq_yes c
  have e2:acS s x=s.tk:=if_pos c
  have hk:s.hd.kd≠0:=h.good.kd (by rw[←PS.hd,c];exact hx)
  rw[e1]at HS ⊢
  rw[e2]
  clear e1 e2
  go_enter Tryz.func105,Tryz.ntmps105
  go_wp2_with fail
  refine HS.out.mono ?_
  rintro e w1 ⟨rfl,hb⟩
  have h1:=h.below hb h.lt
  clear HS h
  go_wp2_with fail
  refine(pptake_any R d s w1 h1 hk).mono ?_
  rintro e w2 ⟨rfl,hr,hf⟩
  have F:=fx_trans (Fx.of hb) hf
  clear hf hb h1
  go_wp2_with fail
  go_ret
  exact⟨rfl,hr,F⟩
 ·have e1:=beq_no c
  have e2:acS s x=s:=if_neg c
  rw[e1]at HS ⊢
  rw[e2]
  clear e1 e2
  go_enter Tryz.func105,Tryz.ntmps105
  go_wp2_with fail
  refine HS.out.mono ?_
  rintro e w1 ⟨rfl,hb⟩
  have h1:=h.below hb h.lt
  clear HS h
  go_wp2_with fail
  go_ret
  exact⟨rfl,h1,Fx.of hb⟩
theorem ppexpect_any (R d:Nat)(s:PS)(x:List UInt8)(hx:x≠[])(w:World)(h:Rdr R d s w) :
  Calls Tryz.prog 62 #[.pointer (some ⟨R,0,none⟩),.string ⟨x.toArray⟩] w (PO R d w (expT x s) V0):=by
 have HS:=Hj (ppaccept_any R d s x hx w h)
 by_cases c:s.hd.tx=x
 ·have e1:=beq_yes c
  have e2:acS s x=s.tk:=if_pos c
  have e3:expT x s=.ok () s.tk:=if_pos c
  rw[e1,e2]at HS
  rw[e3]
  clear e1 e2 e3 h
  go_enter Tryz.func62,Tryz.ntmps62
  go_wp2_with fail
  refine HS.out.mono ?_
  rintro e w1 ⟨rfl,hr,hf⟩
  clear HS
  go_wp2_with fail
  go_end0
  exact⟨_,rfl,rfl,hr,hf⟩
 ·have e1:=beq_no c
  have e2:acS s x=s:=if_neg c
  have e3:expT x s=.no 110 s.hd.ps:=if_neg c
  rw[e1,e2]at HS
  rw[e3]
  clear e1 e2 e3 h
  go_enter Tryz.func62,Tryz.ntmps62
  go_wp2_with fail
  refine HS.out.mono ?_
  rintro e w1 ⟨rfl,hr,hf⟩
  clear HS
  go_wp2_with fail
  refine(pprefuse_any R d s w1 hr).mono ?_
  rintro e w2 ⟨rfl,hb⟩
  have F:=fx_bel hf hb
  clear hf hb hr
  go_wp2_with fail
  exact⟨rfl,rfl,F⟩
theorem pptakeKind_any (R d:Nat)(s:PS)(k:Int)(hk:k≠0)(w:World)(h:Rdr R d s w) :
  Calls Tryz.prog 63 #[.pointer (some ⟨R,0,none⟩),.int .u8 k] w (PO R d w (kindT k s) fun t v _=>v=t.v):=by
 have ft:=fun w=>tkv_kd s.hd w
 by_cases c:s.hd.kd=k
 ·have e3:kindT k s=.ok s.hd s.tk:=if_pos c
  have hk':s.hd.kd≠0:=by rw[c];exact hk
  rw[e3]
  clear e3 hk
  subst c
  have B:Hid (Blk (w.alloc (.cells #[.int .u8 0,.int .i64 0,.string ⟨#[]⟩,.int .i32 0,.int .u64 0] 62)) w.heap.size 62 #[.int .u8 0,.int .i64 0,.string ⟨#[]⟩,.int .i32 0,.int .u64 0]):=Blk.new _ _ _
  have HR:=Hj h.lt
  go_enter Tryz.func63,Tryz.ntmps63
  go_wp2_with fail
  refine(ppnext_any R d s _ (h.alloc _)).mono ?_
  rintro e w1 ⟨rfl,hb⟩
  have h1:=(h.alloc _).below hb (h.alloc _).lt
  have F:=fx_bel (X:=On R) (fx_alloc (Fx.refl _ _ w) _) hb
  have b1:=B.out.below hb B.out.lt
  have H1:=Hj h1
  clear h hb B
  go_wp2_with fail
  refine(pptake_any R d s _ H1.out hk').mono ?_
  rintro e w2 ⟨rfl,h2,hf⟩
  have hRs:R<w.heap.size:=HR.out
  have B2:=Hj (hf.blk b1 b1.lt (fun x=>by unfold On at x;omega))
  have F2:=Hj (fx_trans F hf)
  have H2:=Hj h2
  clear F hf h1 h2 b1
  go_wp2_with (refine st_tok s.hd w.heap.size _ B2.out rfl rfl _ _ rfl rfl rfl ?_)
  exact bodyPost_ret (rs_tok rfl _ _ w.heap.size s.hd rfl (B2.out.rowS _)) rfl ⟨_,rfl,rfl,H2.out.row hRs _,fx_row F2.out (.inr (Nat.le_refl _)) _⟩
 ·have e3:kindT k s=.no 110 s.hd.ps:=if_neg c
  rw[e3]
  clear e3
  go_enter Tryz.func63,Tryz.ntmps63
  go_wp2_with fail
  refine(ppnext_any R d s _ (h.alloc _)).mono ?_
  rintro e w1 ⟨rfl,hb⟩
  have h1:=(h.alloc _).below hb (h.alloc _).lt
  have F:=fx_bel (X:=On R) (fx_alloc (Fx.refl _ _ w) _) hb
  clear h hb
  go_wp2_with fail
  refine(pprefuse_any R d s _ h1).mono ?_
  rintro e w2 ⟨rfl,hf⟩
  have F2:=fx_bel F hf
  clear F hf h1
  go_wp2_with fail
  exact⟨rfl,rfl,F2⟩
theorem ppcount_any (R j n:Nat)(m p:Int)(w:World)(hc:w.cell? ⟨R,j,none⟩=some (.int .i64 (n:Int)))(hz:w.frozen? ⟨R,j,none⟩=false)(hn:(n:Int)<1000000) :
  Calls Tryz.prog 110 #[.pointer (some ⟨R,j,none⟩),.int .i64 m,.int .i64 p] w fun e w'=>if(n:Int)=m then e=.panicked (flP 112 p)∧w'=w else e=.returned (.tuple #[])∧w'=w.setCell ⟨R,j,none⟩ (.int .i64 ((n:Int)+1)):=by
 by_cases c:(n:Int)=m
 ·simp only[if_pos c]
  go_enter Tryz.func110,Tryz.ntmps110
  go_wp2_with fail
  refine(ppfail_any _ _ _).mono ?_
  rintro e w2 ⟨rfl,rfl⟩
  go_wp2_with fail
  exact⟨rfl,rfl,rfl⟩
 ·simp only[if_neg c]
  have ov:IntKind.i64.wrap ((n:Int)+1)=(n:Int)+1:=by rw[IntKind.wrap_i64];omega
  clear hn
  go_enter Tryz.func110,Tryz.ntmps110
  go_wp2_with fail
  exact bodyPost_end (results_none rfl _ _ _) rfl ⟨rfl,rfl⟩
theorem ppcomplete_any (R d:Nat)(s:PS)(e:EH)(w:World)(h:Rdr R d s w)(e0:Ex)(he:e0.h.ps=e.ps) :
  Calls Tryz.prog 186 #[.pointer (some ⟨R,0,none⟩),e.v] w (PO R d w (whole e0 s) fun _ v _=>v=e.v):=by
 obtain⟨T,o,c,C⟩:=h.rc
 have CC:=Hj C
 have r3:w.cell? ⟨R,3,none⟩=some (.int .i64 (s.nx:Int)):=C.blk.cell 3
 have f3:w.frozen? ⟨R,3,none⟩=false:=C.blk.frozen 3
 have lR:=C.blk.lt
 have nx:=C.nx
 clear C h
 show Calls Tryz.prog 186 #[.pointer (some ⟨R,0,none⟩),.agg #[.int .u8 e.op,.int .i64 e.ps,.bool e.bo,.int .i32 e.it,.int .u64 e.fl,.string ⟨e.nm.toArray⟩,.slice e.s.ao e.s.n e.s.c]] w _
 go_enter Tryz.func186,Tryz.ntmps186
 have OB:Hid (Blk (bx w (xO e)) w.heap.size 41 e.va):=bx_ex w e
 have KC:=Hj (ppcount_any R 3 s.nx 2000 e.ps)
 go_upto_region 1 with fail
 rw[bx_x]
 have z1:(bx w (xO e)).heap.size=w.heap.size+1:=bx_size _ _
 have F0:Below w.heap.size w (bx w (xO e)):=bx_bel (Below.refl _ _) (Nat.le_refl _) _
 generalize bx w (xO e)=wx at *
 have OB2:=Hj (OB.out.alloc zX)
 have NB:Hid (Blk (wx.alloc zX) (w.heap.size+1) 41 zeroH.va):=by rw[←z1];exact Blk.new _ _ _
 have F1:=bel_drew (bel_alloc F0 zX)
 have e1:(wx.alloc zX).cell? ⟨w.heap.size,1,none⟩=some (.int .i64 e.ps):=OB2.out.cell 1
 clear F0 OB z1
 change (Code.region 1 _ _).wp _ _ _ (wx.alloc zX)
 generalize wx.alloc zX=wy at *
 go_still_tail 5,(by kernel_rfl)
 have HC:Hid (RdC R d T o c s wy.drew):=CC.out.below F1 lR
 have F2:=Hj F1
 have OB3:Hid (Blk wy.drew w.heap.size 41 e.va):=OB2.out
 have NB3:Hid (Blk wy.drew (w.heap.size+1) 41 zeroH.va):=NB.out
 clear OB2 NB e1 F1
 change wpList _ _ _ _ _ wy.drew
 generalize wy.drew=wz at *
 have KK:=KC.out wz (HC.out.blk.cell 3) (HC.out.blk.frozen 3) (by omega)
 by_cases c:s.nx=2000
 ·have e3:whole e0 s=.no 112 e.ps:=by rw[←he];exact if_pos c
  simp only[if_pos (show(s.nx:Int)=2000 by omega)]at KK
  have KK2:=Hj KK
  have E3:=Hj e3
  clear KC KK e3 he
  go_wp2_with fail
  refine KK2.out.mono ?_
  rintro r w2 ⟨rfl,rfl⟩
  clear KK2
  go_wp2_with fail
  refine⟨rfl,?_⟩
  rw[E3.out]
  exact⟨rfl,Fx.of F2.out⟩
 ·have e3:whole e0 s=.ok e0 ⟨s.ts,s.ns,s.nx+1⟩:=if_neg c
  simp only[if_neg (show ¬(s.nx:Int)=2000 by omega)]at KK
  have KK2:=Hj KK
  have E3:=Hj e3
  clear KC KK e3 he
  have HL:=Hj lR
  have HN:Hid (s.nx+1≤2000):=by show s.nx+1≤2000;omega
  clear lR nx
  go_wp2_with fail
  refine KK2.out.mono ?_
  rintro r w2 ⟨rfl,rfl⟩
  clear KK2
  have b1:=HC.out.blk.set_ 3 (.int .i64 ((s.nx:Int)+1))
  have hr:Hid (Rdr R d ⟨s.ts,s.ns,s.nx+1⟩ (wz.setCell ⟨R,3,none⟩ (.int .i64 ((s.nx:Int)+1)))):=HC.out.nums b1 (Below.heap_setCell _ _ _ _ (Nat.ne_of_lt HC.out.tr)) HC.out.ns HN.out HC.out.dp
  have OB4:=Hj (OB3.out.far (p:=⟨R,3,none⟩) (Nat.ne_of_gt HL.out) (.int .i64 ((s.nx:Int)+1)))
  have NB4:=Hj (NB3.out.far (p:=⟨R,3,none⟩) (Nat.ne_of_gt (Nat.lt_succ_of_lt HL.out)) (.int .i64 ((s.nx:Int)+1)))
  have F3:=Hj (fx_set (X:=On R) (Fx.of F2.out) (p:=⟨R,3,none⟩) (.inl rfl) (.int .i64 ((s.nx:Int)+1)))
  clear b1 OB3 NB3 HC F2
  generalize wz.setCell _ _=wu at *
  go_wp2_with (first
   | refine ld_ex e w.heap.size OB4.out rfl _ rfl rfl ?_
   | refine st_ex e (w.heap.size+1) _ NB4.out rfl rfl _ _ rfl rfl rfl ?_)
  refine bodyPost_ret (rs_ex rfl _ _ (w.heap.size+1) e rfl (NB4.out.rowS _)) rfl ?_
  rw[E3.out]
  exact⟨_,rfl,rfl,hr.out.row (Nat.lt_succ_of_lt HL.out) _,fx_row F3.out (.inr (Nat.le_succ _)) _⟩
end Go.Proofs.YthmlhkllbichgaaGreatDoor
