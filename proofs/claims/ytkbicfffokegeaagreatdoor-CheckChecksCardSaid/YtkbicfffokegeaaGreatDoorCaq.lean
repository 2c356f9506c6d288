/-
  Whatever program is handed in, CheckChecks answers true. (part 17 of 38) Conditions: none beside what the card ties.
-/
import Derived.Test.YtkbicfffokegeaaGreatDoorCap
namespace Go.Proofs.YtkbicfffokegeaaGreatDoor
set_option maxHeartbeats 16000000
open Go.RowKit
set_option maxRecDepth 100000
structure Fx (X:Nat→Prop) (B:Nat) (w w':World):Prop where
 os:w'.os=w.os
 tape:w'.tape=w.tape
 output:w'.output=w.output
 size:w.heap.size≤w'.heap.size
 block:∀k,k<B→¬X k→w'.heap[k]? = w.heap[k]?
theorem Fx.refl (X:Nat→Prop)(B:Nat)(w:World):Fx X B w w:=⟨rfl,rfl,rfl,aD _,fun _ _ _=>rfl⟩
theorem Fx.trans {X:Nat→Prop}{B:Nat}{a b c:World}(h:Fx X B a b)(k:Fx X B b c):Fx X B a c:=
 ⟨k.os.trans h.os,k.tape.trans h.tape,k.output.trans h.output,aF h.size k.size,fun i hi hx=>(k.block i hi hx).trans (h.block i hi hx)⟩
theorem Fx.mono {X Y:Nat→Prop}{B C:Nat}{w w':World}(h:Fx X B w w')(hB:C≤B)(hX:∀k,k<C→X k→Y k):Fx Y C w w':=
 ⟨h.os,h.tape,h.output,h.size,fun k hk hx=>h.block k (by omega) fun x=>hx (hX k hk x)⟩
theorem Fx.of {X:Nat→Prop}{B:Nat}{w w':World}(h:Below B w w'):Fx X B w w':=⟨h.os,h.tape,h.output,h.size,fun k hk _=>h.block k hk⟩
theorem Fx.bel {X:Nat→Prop}{B:Nat}{w w':World}(h:Fx X B w w')(hX:∀k,k<B→¬X k):Below B w w':=⟨h.os,h.tape,h.output,h.size,fun k hk=>h.block k hk (hX k hk)⟩
theorem Fx.alloc {X:Nat→Prop}{B:Nat}{a w:World}(h:Fx X B a w)(hB:B≤w.heap.size)(o:Obj):Fx X B a (w.alloc o):=
 h.trans (Fx.of ((Below.refl B w).alloc hB o))
theorem Fx.set {X:Nat→Prop}{B:Nat}{a w:World}(h:Fx X B a w){p:Addr}(hp:X p.block∨B≤p.block)(u:Value):Fx X B a (w.setCell p u):=by
 have e:=(Below.refl 0 w).setCell (p:=p) (Nat.zero_le _) u;refine h.trans ⟨e.os,e.tape,e.output,e.size,fun k hk hx=>Below.heap_setCell _ _ _ _ ?_⟩;rintro rfl;rcases hp with hp|hp
 ·exact hx hp
 ·omega
theorem Fx.then {X:Nat→Prop}{B:Nat}{a b c:World}(h:Fx X B a b)(hB:B≤a.heap.size)(k:Fx X b.heap.size b c):Fx X B a c:=
 h.trans (k.mono (aF hB h.size) fun _ _ x=>x)
theorem Fx.blk {X:Nat→Prop}{B g:Nat}{w w':World}{t:TypeId}{cs:Array Value}(h:Fx X B w w')(b:Blk w g t cs)(hg:g<B)(hx:¬X g):Blk w' g t cs:=(h.block g hg hx).trans b
theorem lL {X:Nat→Prop}{a w:World}(h:Fx X a.heap.size a w)(o:Obj):Fx X a.heap.size a (w.alloc o):=h.alloc h.size o
theorem bJ {X:Nat→Prop}{a w:World}(h:Fx X a.heap.size a w){p:Addr}(hp:X p.block∨a.heap.size≤p.block)(u:Value):Fx X a.heap.size a (w.setCell p u):=h.set hp u
theorem aJ {X:Nat→Prop}{a b c:World}(h:Fx X a.heap.size a b)(k:Fx X b.heap.size b c):Fx X a.heap.size a c:=h.then (aD _) k
theorem aZ {X:Nat→Prop}{a b c:World}(h:Fx X a.heap.size a b)(k:Below b.heap.size b c):Fx X a.heap.size a c:=aJ h (Fx.of k)
def On (R:Nat):Nat→Prop:=fun k=>k=R
def Rdr (R d:Nat)(s:PS)(w:World):Prop:=∃T o c,T<R∧Blk w R 129 #[.slice (some ⟨T,o,none⟩) s.ts.length c,.int .i64 (d:Int),.int .i64 (s.ns:Int),.int .i64 (s.nx:Int)] ∧
 w.rangeAt T o (rM s.ts)∧s.ts.length≤c∧c≤maxLen∧cM s.ts∧s.ns≤200∧s.nx≤2000∧d≤24
theorem Rdr.lt {R d:Nat}{s:PS}{w:World}(h:Rdr R d s w):R<w.heap.size:=by
 obtain⟨T,o,c,h1,h2, -⟩:=h;exact h2.lt
theorem Rdr.good {R d:Nat}{s:PS}{w:World}(h:Rdr R d s w):cM s.ts:=by
 obtain⟨T,o,c, -, -, -, -, -,h, -⟩:=h;exact h
theorem Rdr.deep {R d:Nat}{s:PS}{w:World}(h:Rdr R d s w):d≤24:=by
 obtain⟨T,o,c, -, -, -, -, -, -, -, -,h⟩:=h;exact h
theorem iS {w w':World}{T o:Nat}{l:List Value}(h:w.rangeAt T o l)(e:w'.heap[T]? = w.heap[T]?):w'.rangeAt T o l:=fun j v hv=>by
 have:=h j v hv;unfold World.cell? at this ⊢;dsimp only at this ⊢;rw[e];exact this
theorem Rdr.fx {R d:Nat}{s:PS}{w w':World}{X:Nat→Prop}{B:Nat}(h:Rdr R d s w)(hf:Fx X B w w')(hR:R<B)(hX:∀k,k≤R→¬X k):Rdr R d s w':=by
 obtain⟨T,o,c,h1,h2,h3,h4⟩:=h;exact⟨T,o,c,h1,hf.blk h2 hR (hX R (aD _)),iS h3 (hf.block T (by omega) (hX T (by omega))),h4⟩
theorem Rdr.below {R d:Nat}{s:PS}{w w':World}{B:Nat}(h:Rdr R d s w)(hb:Below B w w')(hR:R<B):Rdr R d s w':=h.fx (Fx.of (X:=fun _=>False) hb) hR fun _ _ x=>x
theorem Rdr.alloc {R d:Nat}{s:PS}{w:World}(h:Rdr R d s w)(o:Obj):Rdr R d s (w.alloc o):=h.below ((Below.refl w.heap.size w).alloc (aD _) o) h.lt
theorem Rdr.set {R d:Nat}{s:PS}{w:World}(h:Rdr R d s w){p:Addr}(hp:R<p.block)(u:Value):Rdr R d s (w.setCell p u):=
 h.below ((Below.refl (R+1) w).setCell (p:=p) hp u) (Nat.lt_succ_self _)
def Tk.v (t:Tk):Value:=.agg #[.int .u8 t.kd,.int .i64 t.ps,.string ⟨t.tx.toArray⟩,.int .i32 t.nn,.int .u64 t.ff]
structure RdC (R d T o c:Nat) (s:PS) (w:World):Prop where
 tr:T<R
 blk:Blk w R 129 #[.slice (some ⟨T,o,none⟩) s.ts.length c,.int .i64 (d:Int),.int .i64 (s.ns:Int),.int .i64 (s.nx:Int)]
 c0:w.cell? ⟨T,o,none⟩=some (.int .u8 s.hd.kd)
 c1:w.cell? ⟨T,o+1,none⟩=some (.int .i64 s.hd.ps)
 c2:w.cell? ⟨T,o+2,none⟩=some (.string ⟨s.hd.tx.toArray⟩)
 c3:w.cell? ⟨T,o+3,none⟩=some (.int .i32 s.hd.nn)
 c4:w.cell? ⟨T,o+4,none⟩=some (.int .u64 s.hd.ff)
 row:w.rangeAt T o (rM s.ts)
 lc:s.ts.length≤c
 cm:c≤maxLen
 good:cM s.ts
 ns:s.ns≤200
 nx:s.nx≤2000
 dp:d≤24
theorem Rdr.rc {R d:Nat}{s:PS}{w:World}(h:Rdr R d s w):∃T o c,RdC R d T o c s w:=by
 obtain⟨T,o,c,h1,h2,h3,h4,h5,h6,h7,h8,h9⟩:=h
 have g:∀j v,(aAd s.hd)[j]? = some v→w.cell? ⟨T,o+j,none⟩=some v:=by
  intro j v hv;refine h3 j v ?_
  obtain⟨t,r,e⟩:∃t r,s.ts=t::r:=by
   cases e:s.ts with
   | nil=>rw[e]at h6;exact h6.elim
   | cons t r=>exact⟨t,r,rfl⟩
  have e2:s.hd=t:=by unfold PS.hd;rw[e];rfl
  rw[e2]at hv;rw[e];show(aAd t++rM r)[j]? = some v;rw[List.getElem?_append_left (List.getElem?_eq_some_iff.1 hv).1];exact hv
 exact⟨T,o,c,h1,h2,g 0 _ rfl,g 1 _ rfl,g 2 _ rfl,g 3 _ rfl,g 4 _ rfl,h3,h4,h5,h6,h7,h8,h9⟩
theorem RdC.tk {R d T o c:Nat}{s:PS}{w w':World}(h:RdC R d T o c s w)(hk:s.hd.kd≠0)(hb:Blk w' R 129 #[.slice (some ⟨T,o+5,none⟩) (s.ts.length-1) (c-1),.int .i64 (d:Int),.int .i64 (s.ns:Int),.int .i64 (s.nx:Int)])
  (hT:w'.heap[T]? = w.heap[T]?):Rdr R d s.tk w':=by
 have hl:=dY h.good;have hlc:=h.lc;have e:s.tk.ts.length=s.ts.length-1:=by omega
 refine⟨T,o+5,c-1,h.tr,by rw[e];exact hb,?_,by omega,by have:=h.cm;omega,h.good.tail hk,h.ns,h.nx,h.dp⟩;refine iS (w:=w) (fun j v hv=>?_) hT
 have:=h.row (5+j) v (by
  obtain⟨t,r,e⟩:∃t r,s.ts=t::r:=by
   cases e:s.ts with
   | nil=>have:=h.good;rw[e]at this;exact this.elim
   | cons t r=>exact⟨t,r,rfl⟩
  have e2:s.tk.ts=r:=by unfold PS.tk;rw[e];rfl
  rw[e2]at hv;rw[e];show(aAd t++rM r)[5+j]? = some v;rw[List.getElem?_append_right (by simp[aAd])]
  simpa [aAd] using hv)
 rw[←Nat.add_assoc]at this;exact this
theorem RdC.nums {R d T o c:Nat}{s:PS}{w w':World}(h:RdC R d T o c s w){d' ns' nx':Nat}(hb:Blk w' R 129 #[.slice (some ⟨T,o,none⟩) s.ts.length c,.int .i64 (d':Int),.int .i64 (ns':Int),.int .i64 (nx':Int)])
  (hT:w'.heap[T]? = w.heap[T]?) (h1:ns'≤200) (h2:nx'≤2000) (h3:d'≤24):Rdr R d' ⟨s.ts,ns',nx'⟩ w':=
 ⟨T,o,c,h.tr,hb,iS h.row hT,h.lc,h.cm,h.good,h1,h2,h3⟩
theorem RdC.fx {R d T o c:Nat}{s:PS}{w w':World}{X:Nat→Prop}{B:Nat}(h:RdC R d T o c s w)(hf:Fx X B w w')(hR:R<B)(hX:∀k,k≤R→¬X k):RdC R d T o c s w':=by
 have e:=hf.block T (Nat.lt_trans h.tr hR) (hX T (Nat.le_of_lt h.tr));have g:∀j,w'.cell? ⟨T,j,none⟩=w.cell? ⟨T,j,none⟩:=fun j=>World.cell?_of_block (w:=w) e;exact⟨h.tr,hf.blk h.blk hR (hX R (aD _)),(g _).trans h.c0,(g _).trans h.c1,(g _).trans h.c2,(g _).trans h.c3,(g _).trans h.c4,iS h.row e,h.lc,h.cm,h.good,h.ns,h.nx,h.dp⟩
theorem RdC.below {R d T o c:Nat}{s:PS}{w w':World}{B:Nat}(h:RdC R d T o c s w)(hb:Below B w w')(hR:R<B):RdC R d T o c s w':=h.fx (Fx.of (X:=fun _=>False) hb) hR fun _ _ x=>x
def flP (c p:Int):List PanicEntry:=[{ v:=.iface 106 (.agg #[.int .i64 c,.int .i64 p]),recovered:=false }]
def PO {α:Type}(R d:Nat)(w:World)(r:Rs α)(V:α→Value→World→Prop)(e:Ending)(w':World):Prop:=
 match r with
 | .ok a s=>∃v,e=.returned v∧V a v w'∧Rdr R d s w'∧Fx (On R) w.heap.size w w'
 | .no c p=>e=.panicked (flP c p)∧Fx (On R) w.heap.size w w'
def V0 {α:Type}(_:α)(v:Value)(_:World):Prop:=v=.tuple #[]
open Classical in
noncomputable def up (D:Nat→Prop) (w:World):World:={ w with heap:=w.heap.mapIdx fun i o=>if D i then o else .cells #[] 0 (0,0) }
theorem aIZ (D:Nat→Prop)(w:World)(k:Nat)(h:D k):(up D w).heap[k]? = w.heap[k]?:=by
 simp only[up,Array.getElem?_mapIdx,if_pos h];cases w.heap[k]?<;>rfl
theorem aLf (D:Nat→Prop)(w:World)(k:Nat)(h:¬D k):(up D w).heap[k]? = (w.heap[k]?).map fun _=>.cells #[] 0 (0,0):=by
 simp only[up,Array.getElem?_mapIdx,if_neg h]
theorem gM {D:Nat→Prop}{w:World}{p:Addr}{v:Value}:(up D w).cell? p=some v↔D p.block∧w.cell? p=some v:=by
 unfold World.cell?
 by_cases h:D p.block
 ·rw[aIZ D w _ h]
  exact⟨fun g=>⟨h,g⟩,fun g=>g.2⟩
 ·rw[aLf D w _ h]
  refine⟨fun g=>?_,fun g=>absurd g.1 h⟩
  cases hq:w.heap[p.block]? with
  | none=>rw[hq]at g;cases g
  | some o=>rw[hq]at g;simp at g
def yJ (B:Nat)(w w':World):Prop:=∀(p:Addr) (v:Value),p.block<B→w.cell? p=some v→w'.cell? p=some v
theorem Rw.stay {w w':World}{B B':Nat}{s:Sl}{sz:Nat}{cs:Nat→List Value}(h:Rw w B s sz cs)(hb:yJ B w w')(hB:B≤B'):Rw w' B' s sz cs:=by
 intro a ha i hi;obtain⟨h1,h2⟩:=h a ha i hi;refine⟨by omega,fun j v hv=>hb _ _ ?_ (h2 j v hv)⟩;unfold Addr.add
 split<;>exact h1
theorem Ex.In.stay {B B':Nat}{w w':World}(hb:yJ B w w')(hB:B≤B'){e:Ex}:e.In B w→e.In B' w':=by
 induction e with
 | no=>exact fun _=>trivial
 | mk h k ih=>exact fun⟨h1,h2,h3⟩=>⟨h1,h2.stay hb hB,fun i hi=>ih i (h3 i hi)⟩
theorem gE.stay {B B':Nat}{w w':World}{s:Sl}{k:Nat→Ex}(h:gE B w s k)(hb:yJ B w w')(hB:B≤B'):gE B' w' s k:=
 ⟨h.1,h.2.1.stay hb hB,fun i hi=>(h.2.2 i hi).stay hb hB⟩
theorem St.In.stay {B B':Nat}{w w':World}(hb:yJ B w w')(hB:B≤B'){s:St}:s.In B w→s.In B' w':=by
 induction s with
 | no=>exact fun _=>trivial
 | mk h x e t l it il=>exact fun⟨h1,h2,h3,h4,h5,h6,h7⟩=>⟨h1,h2.stay hb hB,h3.stay hb hB,h4.stay hb hB,fun i hi=>it i (h5 i hi),h6.stay hb hB,fun i hi=>il i (h7 i hi)⟩
theorem gL.stay {B B':Nat}{w w':World}{s:Sl}{k:Nat→St}(h:gL B w s k)(hb:yJ B w w')(hB:B≤B'):gL B' w' s k:=
 ⟨h.1,h.2.1.stay hb hB,fun i hi=>(h.2.2 i hi).stay hb hB⟩
theorem De.In.stay {B B':Nat}{w w':World}{d:De}(h:d.In B w)(hb:yJ B w w')(hB:B≤B'):d.In B' w':=⟨h.1,h.2.1.stay hb hB,h.2.2.stay hb hB⟩
theorem gF.stay {B B':Nat}{w w':World}{s:Sl}{k:Nat→De}(h:gF B w s k)(hb:yJ B w w')(hB:B≤B'):gF B' w' s k:=
 ⟨h.1,h.2.1.stay hb hB,fun i hi=>(h.2.2 i hi).stay hb hB⟩
theorem aAf (D:Nat→Prop)(w:World):yJ w.heap.size (up D w) w:=fun _ _ _ h=>(gM.1 h).2
theorem gP {D D':Nat→Prop}{B:Nat}(h:∀k,k<B→D k→D' k)(w:World):yJ B (up D w) (up D' w):=fun _ _ hp g=>gM.2 ⟨h _ hp (gM.1 g).1,(gM.1 g).2⟩
theorem jD {X D:Nat→Prop}{w w':World}(h:Fx X w.heap.size w w')(hX:∀k,X k→¬D k):yJ w.heap.size (up D w) (up D w'):=fun p v hp g=>by
 obtain⟨g1,g2⟩:=gM.1 g;refine gM.2 ⟨g1,?_⟩;rw[←g2];exact World.cell?_of_block (w:=w) (h.block p.block hp fun x=>hX _ x g1)
def Fro (L:Nat):Nat→Prop:=fun k=>L≤k
def XO (D:Nat→Prop)(e:Ex)(w:World):Prop:=e.In w.heap.size (up D w)
theorem XO.fx {X D:Nat→Prop}{e:Ex}{w w':World}(h:XO D e w)(hf:Fx X w.heap.size w w')(hX:∀k,X k→¬D k):XO D e w':=Ex.In.stay (jD hf hX) hf.size h
theorem XO.imp {D D':Nat→Prop}{e:Ex}{w:World}(h:XO D e w)(hD:∀k,k<w.heap.size→D k→D' k):XO D' e w:=Ex.In.stay (gP hD w) (aD _) h
def Ex.eqv:Ex→Ex→Prop
 | .no,f=>hdS aP f.h=true∧f.h.ps=0
 | .mk h k,f=>hdS h f.h=true∧f.h.ps=h.ps∧∀i,i<h.s.n→(k i).eqv (f.k i)
theorem Ex.eqv_iff (e f:Ex):e.eqv f↔hdS e.h f.h=true∧f.h.ps=e.h.ps∧∀i,i<e.h.s.n→(e.k i).eqv (f.k i):=by
 cases e with
 | no=>exact⟨fun h=>⟨h.1,h.2,fun i hi=>absurd hi (Nat.not_lt_zero i)⟩,fun h=>⟨h.1,h.2.1⟩⟩
 | mk h k=>exact Iff.rfl
theorem aHZ (h:EH):hdS h h=true:=by simp[hdS]
theorem Ex.eqv_refl (e:Ex):e.eqv e:=by
 induction e using Ex.ind with
 | H e ih=>exact(Ex.eqv_iff e e).2 ⟨aHZ _,rfl,ih⟩
theorem Ex.eqv_same {e:Ex}:∀ {f:Ex},e.eqv f→e.same f=true:=by
 induction e using Ex.ind with
 | H e ih=>
  intro f h;obtain⟨h1,h2,h3⟩:=(Ex.eqv_iff e f).1 h;rw[Ex.same_hd,Bool.and_eq_true];exact⟨h1,sZ.2 fun i hi=>ih i hi (h3 i hi)⟩
def VD (D:Nat→Prop)(e:Ex)(v:Value)(w:World):Prop:=∃e':Ex,v=e'.h.v∧XO D e' w∧e'.eqv e
def VX (L:Nat)(e:Ex)(v:Value)(w:World):Prop:=∃e':Ex,v=e'.h.v∧XO (Fro L) e' w∧e'.eqv e
theorem bI {X:Nat→Prop}{a w:World}(h:Fx X a.heap.size a w){g:Nat}(hp:X g∨a.heap.size≤g)(cs:Array Value):Fx X a.heap.size a (w.setRow g cs):=by
 have e:=below_setRow (Below.refl 0 w) (Nat.zero_le g) cs;refine h.trans ⟨e.os,e.tape,e.output,e.size,fun k hk hx=>setRow_other w g k cs ?_⟩;rintro rfl;rcases hp with hp|hp
 ·exact hx hp
 ·omega
theorem Rdr.row {R d:Nat}{s:PS}{w:World}(h:Rdr R d s w){g:Nat}(hp:R<g)(cs:Array Value):Rdr R d s (w.setRow g cs):=
 h.below (below_setRow (Below.refl (R+1) w) hp cs) (Nat.lt_succ_self _)
theorem Blk.rowS {w:World}{g:Nat}{t:TypeId}{old:Array Value}(h:Blk w g t old)(cs:Array Value):Blk (w.setRow g cs) g t cs:=setRow_heap w g old cs t (0,0) h
theorem XO.row {D:Nat→Prop}{e:Ex}{w:World}(h:XO D e w){g:Nat}(hg:¬D g)(cs:Array Value):XO D e (w.setRow g cs):=h.fx (X:=On g) (bI (X:=On g) (Fx.refl _ _ _) (g:=g) (.inl rfl) cs) (fun k (x:k=g)=>by rw[x];exact hg)
theorem Blk.off {w:World}{g k:Nat}{t:TypeId}{old:Array Value}(h:Blk w k t old)(hk:k≠g)(cs:Array Value):Blk (w.setRow g cs) k t old:=(setRow_other w g k cs hk).trans h
theorem aGN (w:World)(g:Nat)(cs:Array Value):(w.setRow g cs).heap.size=w.heap.size:=by simp[World.setRow]
def Tk.vs (t:Tk):Array Value:=#[.int .u8 t.kd,.int .i64 t.ps,.string ⟨t.tx.toArray⟩,.int .i32 t.nn,.int .u64 t.ff]
def EH.va (h:EH):Array Value:=#[.int .u8 h.op,.int .i64 h.ps,.bool h.bo,.int .i32 h.it,.int .u64 h.fl,.string ⟨h.nm.toArray⟩,.slice h.s.ao h.s.n h.s.c]
def zX:Obj:=.cells #[.int .u8 0,.int .i64 0,.bool false,.int .i32 0,.int .u64 0,.string ⟨#[]⟩,.slice none 0 0] 42
section
variable {ops:Array Oper} {rest:List Oper} {o:Oper} {a:Act} {w:World} {Q:Exit→Act→World→Prop}
theorem aLq (t:Tk)(g:Nat)(old:Array Value)(hg:Blk w g 133 old)(hold:old.size=5)(hgd:o.guard=none)(x y:Operand)(ho:o.op=.store 133 x y)(hx:a.eval x=.pointer (some ⟨g,0,none⟩))(hy:a.eval y=t.v)
  (h:wpList Tryz.prog ops Q rest (a.put o.dst undef) (w.setRow g t.vs)):wpList Tryz.prog ops Q (o::rest) a w:=
 wpList_store_row hgd 133 x y ho g t.vs hx hy 133 old hg (by kernel_rfl) hold (by simp[Tk.vs,Value.oneCell']) h
theorem eL (e:EH)(g:Nat)(old:Array Value)(hg:Blk w g 42 old)(hold:old.size=7)(hgd:o.guard=none)(x y:Operand)(ho:o.op=.store 42 x y)(hx:a.eval x=.pointer (some ⟨g,0,none⟩))(hy:a.eval y=e.v)
  (h:wpList Tryz.prog ops Q rest (a.put o.dst undef) (w.setRow g e.va)):wpList Tryz.prog ops Q (o::rest) a w:=
 wpList_store_row hgd 42 x y ho g e.va hx hy 42 old hg (by kernel_rfl) hold (by simp[EH.va,Value.oneCell']) h
theorem jV (e:EH)(g:Nat)(hg:Blk w g 42 e.va)(hgd:o.guard=none)(x:Operand)(ho:o.op=.load 42 x)(hx:a.eval x=.pointer (some ⟨g,0,none⟩))
  (h:wpList Tryz.prog ops Q rest (a.put o.dst (.agg #[.int .u8 e.op,.int .i64 e.ps,.bool e.bo,.int .i32 e.it,.int .u64 e.fl,.string ⟨e.nm.toArray⟩,.slice e.s.ao e.s.n e.s.c])) w):wpList Tryz.prog ops Q (o::rest) a w:=
 wpList_load_row hgd 42 x ho g hx 42 e.va (0,0) _ hg Tryz.underlying42 rfl (by kernel_rfl) h
end
theorem aLw {fn:Func}{p:Tmp}(h:fn.results=#[.cell p 133])(tmps:Array Value)(w:World)(g:Nat)(t:Tk)(hp:tmps.getD p undef=.pointer (some ⟨g,0,none⟩))(hg:Blk w g 133 t.vs):(results fn tmps).run Tryz.prog w=.ok t.v w:=
 results_cell_row h tmps w g 133 t.vs (0,0) _ hp hg Tryz.underlying133 rfl (by kernel_rfl)
theorem fQ {fn:Func}{p:Tmp}(h:fn.results=#[.cell p 42])(tmps:Array Value)(w:World)(g:Nat)(e:EH)(hp:tmps.getD p undef=.pointer (some ⟨g,0,none⟩))(hg:Blk w g 42 e.va):(results fn tmps).run Tryz.prog w=.ok e.v w:=
 results_cell_row h tmps w g 42 e.va (0,0) _ hp hg Tryz.underlying42 rfl (by kernel_rfl)
theorem zQ (w:World)(e:EH):Blk (bx w (xO e)) w.heap.size 42 e.va:=cD w (xO e)
def jH (n:Nat):Prop:=∀(args:Array Value) (w:World),(callFunc n args).run Tryz.prog w=.ok (.enter n args) w
def dP (R d n:Nat)(p:PS→Rs Ex):Prop:=∀(s:PS) (w:World),Rdr R d s w→Calls Tryz.prog n #[.pointer (some ⟨R,0,none⟩)] w (PO R d w (p s) (VX w.heap.size))
theorem jO {e a:Ex}{s s':PS}(h:dU e s=.ok a s'):a=e:=by
 unfold dU at h
 split at h
 ·cases h
 ·cases h;rfl
theorem XO.bel {D:Nat→Prop}{e:Ex}{w w':World}(h:XO D e w)(hb:Below w.heap.size w w'):XO D e w':=h.fx (X:=fun _=>False) (Fx.of hb) (fun _ x=>x.elim)
theorem aY (w:World)(o:Obj):Below w.heap.size w (w.alloc o):=(Below.refl _ _).alloc (aD _) o
theorem aQ {R:Nat}{D:Nat→Prop}(h:¬D R):∀k,On R k→¬D k:=fun k (x:k=R)=>by rw[x];exact h
theorem aO {R g:Nat}(h:R<g):¬On R g:=fun x=>by unfold On at x;omega
theorem tS {op ps it fl:Int}{bo:Bool}{nm:List UInt8}{s:Sl}(ho0:0≤op)(ho1:op≤255)(hp0:0≤ps)(hp1:ps≤16384)(hi0:-2147483648≤it)(hi1:it≤2147483647)(hf0:0≤fl)(hf1:fl<18446744073709551616)(hn:nm.length≤16384)(hs:s.ok) :
  (⟨op,ps,bo,it,fl,nm,s⟩:EH).ok:=
 ⟨ho0,ho1,by dsimp only;omega,by dsimp only;omega,hi0,hi1,⟨hf0,hf1⟩,aF hn (by unfold maxLen;decide),hs⟩
theorem aGt (a:Addr)(n:Nat)(h:n≤1000000):(⟨some a,n,n⟩:Sl).ok:=⟨aD _,aF h (by unfold maxLen;decide),fun e=>by cases e⟩
theorem iQ:(⟨none,0,0⟩:Sl).ok:=⟨aD _,Nat.zero_le _,fun _=>rfl⟩
theorem aLj {D:Nat→Prop}{w:World}{e f:Ex}{op ps:Int}(h1:XO D e w)(h2:XO D f w)(hL:D w.heap.size)(ho0:0≤op)(ho1:op≤255)(hp0:0≤ps)(hp1:ps≤16384)
  {w':World} {t:TypeId} (hw:w'=w.alloc (.cells (e.h.vs++f.h.vs).toArray t)) :
  XO D (.mk ⟨op,ps,false,0,0,[],⟨some ⟨w.heap.size,0,none⟩,2,2⟩⟩ (fun i=>if i=0 then e else f)) w':=by
 subst hw;have k:∀x:Ex,XO D x w→XO D x (w.alloc (.cells (e.h.vs++f.h.vs).toArray t)):=fun x hx=>hx.fx (X:=fun _=>False) (Fx.of ((Below.refl _ _).alloc (aD _) _)) (fun _ h=>h.elim);refine⟨tS ho0 ho1 hp0 hp1 (by decide) (by decide) (by decide) (by decide) (Nat.zero_le _) (aGt _ _ (by decide)),?_,?_⟩
 ·intro a ha i hi
  cases ha;have hi:i<2:=hi;refine⟨by rw[World.size_alloc];exact Nat.lt_succ_self _,fun j v hv=>?_⟩;have hb:=Blk.new w t (e.h.vs++f.h.vs).toArray
  have hj:j<7:=by
   have:=(List.getElem?_eq_some_iff.1 hv).1
   simpa [EH.vs] using this
  rw[gM,Addr.add_mid];refine⟨hL,?_⟩;rw[Nat.zero_add,hb.cell];simp only[List.getElem?_toArray];rcases(show i=0∨i=1 by omega)with rfl|rfl
  ·simp only[if_pos]at hv
   rw[List.getElem?_append_left (by simp[EH.vs];omega)]
   simpa using hv
  ·rw[List.getElem?_append_right (by simp[EH.vs])]
   simpa [EH.vs] using hv
 ·intro i hi
  dsimp only;split
  ·exact k e h1
  ·exact k f h2
theorem aDg {D:Nat→Prop}{w:World}{e:Ex}{op ps:Int}{nm:List UInt8}(h1:XO D e w)(hL:D w.heap.size)(ho0:0≤op)(ho1:op≤255)(hp0:0≤ps)(hp1:ps≤16384)(hn:nm.length≤16384)
  {w':World} {t:TypeId} (hw:w'=w.alloc (.cells e.h.vs.toArray t)) :
  XO D (.mk ⟨op,ps,false,0,0,nm,⟨some ⟨w.heap.size,0,none⟩,1,1⟩⟩ (fun _=>e)) w':=by
 subst hw;have k:XO D e (w.alloc (.cells e.h.vs.toArray t)):=h1.fx (X:=fun _=>False) (Fx.of ((Below.refl _ _).alloc (aD _) _)) (fun _ h=>h.elim);refine⟨tS ho0 ho1 hp0 hp1 (by decide) (by decide) (by decide) (by decide) hn (aGt _ _ (by decide)),?_,fun i hi=>k⟩;intro a ha i hi;cases ha;have hi:i<1:=hi;refine⟨by rw[World.size_alloc];exact Nat.lt_succ_self _,fun j v hv=>?_⟩;have hb:=Blk.new w t e.h.vs.toArray
 have hj:j<7:=by
  have:=(List.getElem?_eq_some_iff.1 hv).1
  simpa [EH.vs] using this
 rw[gM,Addr.add_mid];refine⟨hL,?_⟩;rw[Nat.zero_add,hb.cell];simp only[List.getElem?_toArray];obtain rfl:i=0:=by omega
 simpa using hv
theorem aJb {e f a b:Ex}{op ps:Int}{A:Option Addr}{c:Nat}(h1:e.eqv a)(h2:f.eqv b):(Ex.mk ⟨op,ps,false,0,0,[],⟨A,2,c⟩⟩ (fun i=>if i=0 then e else f)).eqv (opX op ps [a,b]):=by
 refine⟨by simp[hdS,opX,Ex.h],rfl,fun i hi=>?_⟩;have hi:i<2:=hi;rcases(show i=0∨i=1 by omega)with rfl|rfl
 ·exact h1
 ·exact h2
theorem aEg {e a:Ex}{op ps:Int}{A:Option Addr}{c:Nat}(h1:e.eqv a):(Ex.mk ⟨op,ps,false,0,0,[],⟨A,1,c⟩⟩ (fun _=>e)).eqv (opX op ps [a]):=by
 refine⟨by simp[hdS,opX,Ex.h],rfl,fun i hi=>?_⟩;have hi:i<1:=hi;obtain rfl:i=0:=by omega
 exact h1
def wrA (c p:Int):Array Value:=#[.int .i64 c,.int .i64 p]
def dcY (r:Ck Int):Ending:=.returned (.tuple #[.int .i64 (r.va 0),.agg #[.int .i64 r.er,.int .i64 r.pl]])
def xpE (r:Ck Int):Ending:=.returned (.tuple #[.int .u8 (r.va 0),.agg #[.int .i64 r.er,.int .i64 r.pl]])
def unW (r:Ck Unit):Ending:=.returned (.agg #[.int .i64 r.er,.int .i64 r.pl])
theorem bP {fn:Func}{p q:Tmp}(h:fn.results=#[.tmp p,.cell q 32])(tmps:Array Value)(w:World)(g:Nat)(v:Value)(c e:Int)(hp:tmps.getD p undef=v)(hq:tmps.getD q undef=.pointer (some ⟨g,0,none⟩))
  (hg:Blk w g 32 (wrA c e)):(results fn tmps).run Tryz.prog w=.ok (.tuple #[v,.agg #[.int .i64 c,.int .i64 e]]) w:=by
 have hp':tmps[p]?.getD undef=v:=by simpa using hp
 have hq':tmps[q]?.getD undef=.pointer (some ⟨g,0,none⟩):=by simpa using hq
 have hl:=run_loadVar_row (P:=Tryz.prog) w g 32 32 (wrA c e) (0,0) _ hg Tryz.underlying32 rfl (by kernel_rfl)
 simp[results,h,hp',hq',asAddr,hl,wrA]
theorem jE {fn:Func}{q:Tmp}(h:fn.results=#[.cell q 32])(tmps:Array Value)(w:World)(g:Nat)(c e:Int)(hq:tmps.getD q undef=.pointer (some ⟨g,0,none⟩))
  (hg:Blk w g 32 (wrA c e)):(results fn tmps).run Tryz.prog w=.ok (.agg #[.int .i64 c,.int .i64 e]) w:=
 results_cell_row h tmps w g 32 (wrA c e) (0,0) _ hq hg Tryz.underlying32 rfl (by kernel_rfl)
section
variable {o:Oper} {a:Act} {w:World} {K:Act→World→Prop} {Q:Exit→Act→World→Prop}
theorem cO (c p:Int)(g:Nat)(old:Array Value)(hg:Blk w g 32 old)(hold:old.size=2)(x y:Operand)(ho:o.op=.store 32 x y)(hx:a.eval x=.pointer (some ⟨g,0,none⟩))(hy:a.eval y=.agg #[.int .i64 c,.int .i64 p])
  (h:K (a.put o.dst undef) (w.setRow g (wrA c p))):o.wp Tryz.prog a w K Q:=
 wp_store_row 32 x y ho g (wrA c p) hx hy 32 old hg (by kernel_rfl) hold (by simp[wrA,Value.oneCell']) h
end
theorem aR {B g:Nat}{a w:World}(h:Below B a w)(hB:B≤a.heap.size)(hg:B≤g)(cs:Array Value):Below B a (w.setRow g cs):=
 ((Fx.of (X:=fun _=>False) h).trans (((bI (X:=On g) (Fx.refl _ _ w) (g:=g) (.inl rfl) cs).mono (aF hB h.size) (fun k hk (x:k=g)=>by omega)))).bel (fun _ _ x=>x)
theorem yV (e:EH)(t:Int)(w:World)(hok:e.ok):Calls Tryz.prog 42 #[e.v,.int .u8 t] w fun r w'=>r=.returned (.tuple #[.int .u64 (enW e t),.bool (enB e t)])∧Below w.heap.size w w':=by
 have h0:=hok.it0;have h1:=hok.it1;have hfl:=hok.fl;obtain⟨op,ps,bo,it,fl,nm,s⟩:=e;dsimp only at h0 h1 hfl;clear hok;have H:=Hj fun w=>aFy it 0 (by omega) (by omega) w;have ov:IntKind.i64.wrap it=it:=by rw[IntKind.wrap_i64];omega
 have FN:=Hj fun w=>tR fl hfl w;clear h0 h1 hfl;have G:=cD w (xO ⟨op,ps,bo,it,fl,nm,s⟩);have BL:=bS (Below.refl w.heap.size w) (aD _) (xO ⟨op,ps,bo,it,fl,nm,s⟩);have C:=bK G;dsimp only at C;obtain⟨c0, -, -,c3,c4, -⟩:=C;have B1:=Hj BL
 have KG:Hid (∀w',Below (bx w (xO ⟨op,ps,bo,it,fl,nm,s⟩)).heap.size (bx w (xO ⟨op,ps,bo,it,fl,nm,s⟩)) w'→(w'.cell? ⟨w.heap.size,4,none⟩=some (.int .u64 fl)∧w'.cell? ⟨w.heap.size,0,none⟩=some (.int .u8 op))):=fun w' hw=>by
  obtain⟨x0, -, -, -,x4, -⟩:=bK (aV hw G);exact⟨x4,x0⟩
 clear BL G
 by_cases k:op=2∧(t=2∨t=3)
 ·have e1:enW ⟨op,ps,bo,it,fl,nm,s⟩ t=fiF 0 it:=if_pos k
  have e2:enB ⟨op,ps,bo,it,fl,nm,s⟩ t=true:=by unfold enB;rw[decide_eq_true k];rfl
  rw[e1,e2];clear e1 e2 KG FN;generalize fiF 0 it=ff at *;generalize fiG 0 it=gg at *;obtain⟨rfl,k2⟩:=k;rcases k2 with rfl|rfl
  all_goals
   show Calls Tryz.prog 42 #[.agg #[.int .u8 2,.int .i64 ps,.bool bo,.int .i32 it,.int .u64 fl,.string ⟨nm.toArray⟩,.slice s.ao s.n s.c],_] w _;go_enter Tryz.func42,Tryz.ntmps42;go_upto_region 1 with fail;rw[kY w ⟨2,ps,bo,it,fl,nm,s⟩];generalize bx w (xO ⟨2,ps,bo,it,fl,nm,s⟩)=w1 at *;go_wp2_with fail;refine(H.out _).mono ?_;rintro r w2 ⟨rfl,b2⟩;have B2:=Hj (aG B1.out b2);clear b2 c0 c3 c4;go_wp2_with fail
   go_ret2
   exact⟨rfl,B2.out⟩
 ·have e1:enW ⟨op,ps,bo,it,fl,nm,s⟩ t=fl:=if_neg k
  have e2:enB ⟨op,ps,bo,it,fl,nm,s⟩ t=(decide (op=3) && decide (t=3) && decide (fC fl<3)):=by unfold enB;rw[decide_eq_false k];rfl
  rw[e1,e2];clear e1 e2 H ov c3;generalize decide (fC fl<3)=fb at *
  by_cases k3:op=3
  ·subst k3
   by_cases t3:t=3
   ·subst t3
    clear k;show Calls Tryz.prog 42 #[.agg #[.int .u8 3,.int .i64 ps,.bool bo,.int .i32 it,.int .u64 fl,.string ⟨nm.toArray⟩,.slice s.ao s.n s.c],.int .u8 3] w _;go_enter Tryz.func42,Tryz.ntmps42;go_upto_region 1 with fail;rw[kY w ⟨3,ps,bo,it,fl,nm,s⟩];generalize bx w (xO ⟨3,ps,bo,it,fl,nm,s⟩)=w1 at *;go_upto_region 4 with fail;refine aL (S:=fun w'=>w'.cell? ⟨w.heap.size,4,none⟩=some (.int .u64 fl)∧w'.cell? ⟨w.heap.size,0,none⟩=some (.int .u8 3)) _ [(0,true),(1,true),(2,true),(3,true),(4,true),(5,true),(6,true),(7,true),(8,true),(9,true),(10,true),(11,true),(12,false),(13,true),(14,true),(15,true)] (by kernel_rfl) (by kernel_rfl) rfl (by kernel_rfl) (by kernel_rfl) (fun _ _ d _ _ h=>by cases d<;>exact h) (KG.out _ (aH (Below.refl _ _))) ?_
    iterate 12
     refine Walk.take (v:=?_) rfl (by rfl) ?_ ?_;rotate_left
     ·(intro w' hSw;(try dsimp only at hSw);go_simp<;>with_reducible rfl)
     try simp only[Act.put,aA,aC,aB]
    refine Walk.act rfl (by rfl) (fun K hK=>?_);go_simp;go_at_call 66;refine(FN.out _).mono ?_;rintro r w2 ⟨rfl,e2⟩;subst e2;dsimp only;have X1:Below w1.heap.size w1 w1.drew:=aH (Below.refl _ _);refine hK.out _ _ (KG.out _ X1) ?_;clear hK K;try simp only[Act.put,aA,aC,aB]
    iterate 3
     refine Walk.take (v:=?_) rfl (by rfl) ?_ ?_;rotate_left
     ·(intro w' hSw;(try dsimp only at hSw);go_simp<;>with_reducible rfl)
     try simp only[Act.put,aA,aC,aB]
    refine Walk.done ?_;have B2:=Hj (aG B1.out X1);go_wp2_with fail
    go_ret2
    exact⟨rfl,B2.out⟩
   ·have hb:(t == 3)=false:=by simp[t3]
    have e3:decide (t=3)=false:=by simp[t3]
    rw[e3];clear k e3;show Calls Tryz.prog 42 #[.agg #[.int .u8 3,.int .i64 ps,.bool bo,.int .i32 it,.int .u64 fl,.string ⟨nm.toArray⟩,.slice s.ao s.n s.c],.int .u8 t] w _;go_enter Tryz.func42,Tryz.ntmps42;go_upto_region 1 with fail;rw[kY w ⟨3,ps,bo,it,fl,nm,s⟩];generalize bx w (xO ⟨3,ps,bo,it,fl,nm,s⟩)=w1 at *;go_upto_region 4 with fail;refine aL (S:=fun w'=>w'.cell? ⟨w.heap.size,4,none⟩=some (.int .u64 fl)∧w'.cell? ⟨w.heap.size,0,none⟩=some (.int .u8 3)) _ [(0,true),(1,true),(2,true),(3,true),(4,true),(5,true),(6,true),(7,true),(8,true),(9,true),(10,true),(11,true),(12,false),(13,true),(14,true),(15,true)] (by kernel_rfl) (by kernel_rfl) rfl (by kernel_rfl) (by kernel_rfl) (fun _ _ d _ _ h=>by cases d<;>exact h) (KG.out _ (aH (Below.refl _ _))) ?_
    iterate 10
     refine Walk.take (v:=?_) rfl (by rfl) ?_ ?_;rotate_left
     ·(intro w' hSw;(try dsimp only at hSw);go_simp<;>with_reducible rfl)
     try simp only[Act.put,aA,aC,aB]
    iterate 2
     refine Walk.skip rfl (by rfl) ?_;try simp only[Act.put,aA,aC,aB]
    refine Walk.pass rfl (by rfl) (KG.out _ (aH (Below.refl _ _))) ?_;try simp only[Act.put,aA,aC,aB]
    iterate 3
     refine Walk.take (v:=?_) rfl (by rfl) ?_ ?_;rotate_left
     ·(intro w' hSw;(try dsimp only at hSw);go_simp<;>with_reducible rfl)
     try simp only[Act.put,aA,aC,aB]
    refine Walk.done ?_;have B2:=Hj (aH B1.out);go_wp2_with fail
    go_ret2
    exact⟨rfl,B2.out⟩
  ·have e3:decide (op=3)=false:=by simp[k3]
   have hb:(op == 3)=false:=by simp[k3]
   rw[e3];clear e3
   by_cases k2:op=2
   ·subst k2
    have t2:(t == 2)=false:=by simp;exact fun h=>k ⟨rfl,.inl h⟩
    have t3:(t == 3)=false:=by simp;exact fun h=>k ⟨rfl,.inr h⟩
    clear k k3 hb;show Calls Tryz.prog 42 #[.agg #[.int .u8 2,.int .i64 ps,.bool bo,.int .i32 it,.int .u64 fl,.string ⟨nm.toArray⟩,.slice s.ao s.n s.c],.int .u8 t] w _;go_enter Tryz.func42,Tryz.ntmps42;go_upto_region 1 with fail;rw[kY w ⟨2,ps,bo,it,fl,nm,s⟩];generalize bx w (xO ⟨2,ps,bo,it,fl,nm,s⟩)=w1 at *;go_upto_region 4 with fail;refine aL (S:=fun w'=>w'.cell? ⟨w.heap.size,4,none⟩=some (.int .u64 fl)∧w'.cell? ⟨w.heap.size,0,none⟩=some (.int .u8 2)) _ [(0,true),(1,true),(2,true),(3,true),(4,true),(5,true),(6,true),(7,true),(8,true),(9,true),(10,true),(11,true),(12,false),(13,true),(14,true),(15,true)] (by kernel_rfl) (by kernel_rfl) rfl (by kernel_rfl) (by kernel_rfl) (fun _ _ d _ _ h=>by cases d<;>exact h) (KG.out _ (aH (Below.refl _ _))) ?_
    iterate 6
     refine Walk.take (v:=?_) rfl (by rfl) ?_ ?_;rotate_left
     ·(intro w' hSw;(try dsimp only at hSw);go_simp<;>with_reducible rfl)
     try simp only[Act.put,aA,aC,aB]
    iterate 2
     refine Walk.skip rfl (by rfl) ?_;try simp only[Act.put,aA,aC,aB]
    iterate 2
     refine Walk.take (v:=?_) rfl (by rfl) ?_ ?_;rotate_left
     ·(intro w' hSw;(try dsimp only at hSw);go_simp<;>with_reducible rfl)
     try simp only[Act.put,aA,aC,aB]
    iterate 2
     refine Walk.skip rfl (by rfl) ?_;try simp only[Act.put,aA,aC,aB]
    refine Walk.pass rfl (by rfl) (KG.out _ (aH (Below.refl _ _))) ?_;try simp only[Act.put,aA,aC,aB]
    iterate 3
     refine Walk.take (v:=?_) rfl (by rfl) ?_ ?_;rotate_left
     ·(intro w' hSw;(try dsimp only at hSw);go_simp<;>with_reducible rfl)
     try simp only[Act.put,aA,aC,aB]
    refine Walk.done ?_;have B2:=Hj (aH B1.out);go_wp2_with fail
    go_ret2
    exact⟨rfl,B2.out⟩
   ·have hb2:(op == 2)=false:=by simp[k2]
    clear k;show Calls Tryz.prog 42 #[.agg #[.int .u8 op,.int .i64 ps,.bool bo,.int .i32 it,.int .u64 fl,.string ⟨nm.toArray⟩,.slice s.ao s.n s.c],.int .u8 t] w _;go_enter Tryz.func42,Tryz.ntmps42;go_upto_region 1 with fail;rw[kY w ⟨op,ps,bo,it,fl,nm,s⟩];generalize bx w (xO ⟨op,ps,bo,it,fl,nm,s⟩)=w1 at *;go_upto_region 4 with fail;refine aL (S:=fun w'=>w'.cell? ⟨w.heap.size,4,none⟩=some (.int .u64 fl)∧w'.cell? ⟨w.heap.size,0,none⟩=some (.int .u8 op)) _ [(0,true),(1,true),(2,true),(3,true),(4,true),(5,true),(6,true),(7,true),(8,true),(9,true),(10,true),(11,true),(12,false),(13,true),(14,true),(15,true)] (by kernel_rfl) (by kernel_rfl) rfl (by kernel_rfl) (by kernel_rfl) (fun _ _ d _ _ h=>by cases d<;>exact h) (KG.out _ (aH (Below.refl _ _))) ?_
    iterate 6
     refine Walk.take (v:=?_) rfl (by rfl) ?_ ?_;rotate_left
     ·(intro w' hSw;(try dsimp only at hSw);go_simp<;>with_reducible rfl)
     try simp only[Act.put,aA,aC,aB]
    iterate 2
     refine Walk.skip rfl (by rfl) ?_;try simp only[Act.put,aA,aC,aB]
    iterate 2
     refine Walk.take (v:=?_) rfl (by rfl) ?_ ?_;rotate_left
     ·(intro w' hSw;(try dsimp only at hSw);go_simp<;>with_reducible rfl)
     try simp only[Act.put,aA,aC,aB]
    iterate 2
     refine Walk.skip rfl (by rfl) ?_;try simp only[Act.put,aA,aC,aB]
    refine Walk.pass rfl (by rfl) (KG.out _ (aH (Below.refl _ _))) ?_;try simp only[Act.put,aA,aC,aB]
    iterate 3
     refine Walk.take (v:=?_) rfl (by rfl) ?_ ?_;rotate_left
     ·(intro w' hSw;(try dsimp only at hSw);go_simp<;>with_reducible rfl)
     try simp only[Act.put,aA,aC,aB]
    refine Walk.done ?_;have B2:=Hj (aH B1.out);go_wp2_with fail
    go_ret2
    exact⟨rfl,B2.out⟩
theorem nN (e:EH)(w:World)(hok:e.ok):Calls Tryz.prog 86 #[e.v] w fun r w'=>r=.returned (.int .u64 (enV e))∧Below w.heap.size w w':=by
 have h0:=hok.it0;have h1:=hok.it1;obtain⟨op,ps,bo,it,fl,nm,s⟩:=e;dsimp only at h0 h1;clear hok;have H:=Hj fun w=>aES it 0 (by omega) (by omega) w;have ov:IntKind.i64.wrap it=it:=by rw[IntKind.wrap_i64];omega
 clear h0 h1;unfold enV;dsimp only;generalize fiF 0 it=ff at *;generalize fiG 0 it=gg at *;have G:=cD w (xO ⟨op,ps,bo,it,fl,nm,s⟩);have BL:=bS (Below.refl w.heap.size w) (aD _) (xO ⟨op,ps,bo,it,fl,nm,s⟩);have C:=bK G;dsimp only at C;obtain⟨c0, -, -,c3,c4, -⟩:=C;have B1:=Hj BL;clear BL G
 by_cases k:op=2
 ·subst k
  rw[if_pos rfl];show Calls Tryz.prog 86 #[.agg #[.int .u8 2,.int .i64 ps,.bool bo,.int .i32 it,.int .u64 fl,.string ⟨nm.toArray⟩,.slice s.ao s.n s.c]] w _;go_enter Tryz.func86,Tryz.ntmps86;go_upto_region 1 with fail;rw[kY w ⟨2,ps,bo,it,fl,nm,s⟩];generalize bx w (xO ⟨2,ps,bo,it,fl,nm,s⟩)=w1 at *;go_wp2_with fail;refine(H.out _).mono ?_;rintro r w2 ⟨rfl,b2⟩;have B2:=Hj (aG B1.out b2);clear b2 c0 c3 c4;go_wp2_with fail;go_ret;exact⟨rfl,B2.out⟩
 ·rw[if_neg k]
  by_cases k3:op=3
  ·subst k3
   rw[if_pos rfl];clear k;show Calls Tryz.prog 86 #[.agg #[.int .u8 3,.int .i64 ps,.bool bo,.int .i32 it,.int .u64 fl,.string ⟨nm.toArray⟩,.slice s.ao s.n s.c]] w _;go_enter Tryz.func86,Tryz.ntmps86;go_upto_region 1 with fail;rw[kY w ⟨3,ps,bo,it,fl,nm,s⟩];generalize bx w (xO ⟨3,ps,bo,it,fl,nm,s⟩)=w1 at *;go_wp2_with fail;go_ret;exact⟨rfl,B1.out⟩
  ·rw[if_neg k3]
   show Calls Tryz.prog 86 #[.agg #[.int .u8 op,.int .i64 ps,.bool bo,.int .i32 it,.int .u64 fl,.string ⟨nm.toArray⟩,.slice s.ao s.n s.c]] w _;go_enter Tryz.func86,Tryz.ntmps86;go_upto_region 1 with fail;rw[kY w ⟨op,ps,bo,it,fl,nm,s⟩];generalize bx w (xO ⟨op,ps,bo,it,fl,nm,s⟩)=w1 at *;go_wp2_with fail;refine(aJA _).mono ?_;rintro r w2 ⟨rfl,rfl⟩;go_wp2_with fail;go_ret;exact⟨rfl,B1.out⟩
theorem xB {w:World}{k:Nat}{d:De}{a b:EH}(g:w.heap[k]? = some (dO d a b)):w.cell? ⟨k,6,none⟩=some (.int .u8 a.op)∧w.cell? ⟨k,7,none⟩=some (.int .i64 a.ps)∧w.cell? ⟨k,8,none⟩=some (.bool a.bo)∧w.cell? ⟨k,9,none⟩=some (.int .i32 a.it)∧w.cell? ⟨k,10,none⟩=some (.int .u64 a.fl)∧w.cell? ⟨k,11,none⟩=some (.string ⟨a.nm.toArray⟩)∧w.cell? ⟨k,12,none⟩=some (.slice a.s.ao a.s.n a.s.c)∧w.cell? ⟨k,13,none⟩=some (.int .u8 b.op)∧w.cell? ⟨k,14,none⟩=some (.int .i64 b.ps)∧w.cell? ⟨k,15,none⟩=some (.bool b.bo)∧w.cell? ⟨k,16,none⟩=some (.int .i32 b.it)∧w.cell? ⟨k,17,none⟩=some (.int .u64 b.fl)∧w.cell? ⟨k,18,none⟩=some (.string ⟨b.nm.toArray⟩)∧w.cell? ⟨k,19,none⟩=some (.slice b.s.ao b.s.n b.s.c):=by
 have X:=cA g;exact⟨X.c6,X.c7,X.c8,X.c9,X.c10,X.c11,X.c12,X.c13,X.c14,X.c15,X.c16,X.c17,X.c18,X.c19⟩
theorem xJ (d:De)(a b:EH)(w:World)(ha:a.ok)(hb:b.ok):Calls Tryz.prog 58 #[dcv d a b] w fun r w'=>r=.returned (.bool (raP d.ty a b))∧Below w.heap.size w w':=by
 have FA:=Hj fun w=>nN a w ha;have FB:=Hj fun w=>nN b w hb;have WA:=Hj (aBX ha);have WB:=Hj (aBX hb);have G:=cD w (dO d a b);have B1:=Hj (bS (Below.refl w.heap.size w) (aD _) (dO d a b));have X:=cA G;have c3:=X.c3;have c6:=X.c6;have c9:=X.c9;have c13:=X.c13;have c16:=X.c16;have G1:=Hj G;have HSZ:Hid ((bx w (dO d a b)).heap.size=w.heap.size+1):=cJ _ _;clear X G ha hb
 by_cases k:d.ty=2
 ·rw[k]at c3
  by_cases h1:a.op=2
  ·rw[h1]at c6
   by_cases h2:b.op=2
   ·rw[h2]at c13
    have E:raP d.ty a b=decide (a.it≤b.it):=by simp[raP,k,h1,h2]
    rw[E];clear E FA FB WA WB G1 HSZ;clear k h1 h2;show Calls Tryz.prog 58 #[.agg #[.int .i64 d.ps,.bool d.inp,.string ⟨d.nm.toArray⟩,.int .u8 d.ty,.int .i64 d.len,.bool d.rg,.int .u8 a.op,.int .i64 a.ps,.bool a.bo,.int .i32 a.it,.int .u64 a.fl,.string ⟨a.nm.toArray⟩,.slice a.s.ao a.s.n a.s.c,.int .u8 b.op,.int .i64 b.ps,.bool b.bo,.int .i32 b.it,.int .u64 b.fl,.string ⟨b.nm.toArray⟩,.slice b.s.ao b.s.n b.s.c]] w _;go_enter Tryz.func58,Tryz.ntmps58;go_upto_region 1 with fail;rw[uG];generalize bx w (dO d a b)=w1 at *;go_wp2_with fail;go_ret;exact⟨rfl,B1.out⟩
   ·have E:raP d.ty a b=false:=by simp[raP,k,h2]
    rw[E];clear E FA FB WA WB G1 HSZ;clear k h1;show Calls Tryz.prog 58 #[.agg #[.int .i64 d.ps,.bool d.inp,.string ⟨d.nm.toArray⟩,.int .u8 d.ty,.int .i64 d.len,.bool d.rg,.int .u8 a.op,.int .i64 a.ps,.bool a.bo,.int .i32 a.it,.int .u64 a.fl,.string ⟨a.nm.toArray⟩,.slice a.s.ao a.s.n a.s.c,.int .u8 b.op,.int .i64 b.ps,.bool b.bo,.int .i32 b.it,.int .u64 b.fl,.string ⟨b.nm.toArray⟩,.slice b.s.ao b.s.n b.s.c]] w _;go_enter Tryz.func58,Tryz.ntmps58;go_upto_region 1 with fail;rw[uG];generalize bx w (dO d a b)=w1 at *;go_wp2_with fail;go_ret;exact⟨rfl,B1.out⟩
  ·have E:raP d.ty a b=false:=by simp[raP,k,h1]
   rw[E];clear E FA FB WA WB G1 HSZ;clear k;show Calls Tryz.prog 58 #[.agg #[.int .i64 d.ps,.bool d.inp,.string ⟨d.nm.toArray⟩,.int .u8 d.ty,.int .i64 d.len,.bool d.rg,.int .u8 a.op,.int .i64 a.ps,.bool a.bo,.int .i32 a.it,.int .u64 a.fl,.string ⟨a.nm.toArray⟩,.slice a.s.ao a.s.n a.s.c,.int .u8 b.op,.int .i64 b.ps,.bool b.bo,.int .i32 b.it,.int .u64 b.fl,.string ⟨b.nm.toArray⟩,.slice b.s.ao b.s.n b.s.c]] w _;go_enter Tryz.func58,Tryz.ntmps58;go_upto_region 1 with fail;rw[uG];generalize bx w (dO d a b)=w1 at *;go_wp2_with fail;go_ret;exact⟨rfl,B1.out⟩
 ·have E:raP d.ty a b=(decide (fC (enV a)<3) && decide (fC (enV b)<3) && !fLt (enV b) (enV a)):=if_neg k
  rw[E];have IA:=Hj fun w=>gW (enV a) WA.out w;have IB:=Hj fun w=>gW (enV b) WB.out w;have IL:=Hj fun w=>aHM _ _ WB.out WA.out w;clear E c6 c9 c13 c16 WA WB;generalize fLt (enV b) (enV a)=fl at *;generalize decide (fC (enV a)<3)=fa at *;generalize decide (fC (enV b)<3)=fb at *;generalize enV a=va at *;generalize enV b=vb at *;show Calls Tryz.prog 58 #[.agg #[.int .i64 d.ps,.bool d.inp,.string ⟨d.nm.toArray⟩,.int .u8 d.ty,.int .i64 d.len,.bool d.rg,.int .u8 a.op,.int .i64 a.ps,.bool a.bo,.int .i32 a.it,.int .u64 a.fl,.string ⟨a.nm.toArray⟩,.slice a.s.ao a.s.n a.s.c,.int .u8 b.op,.int .i64 b.ps,.bool b.bo,.int .i32 b.it,.int .u64 b.fl,.string ⟨b.nm.toArray⟩,.slice b.s.ao b.s.n b.s.c]] w _;go_enter Tryz.func58,Tryz.ntmps58;go_upto_region 1 with fail;rw[uG];generalize bx w (dO d a b)=w1 at *
  have HK:Hid (∀w',Below w1.heap.size w1 w'→(w'.cell? ⟨w.heap.size,6,none⟩=some (.int .u8 a.op)∧w'.cell? ⟨w.heap.size,7,none⟩=some (.int .i64 a.ps)∧w'.cell? ⟨w.heap.size,8,none⟩=some (.bool a.bo)∧w'.cell? ⟨w.heap.size,9,none⟩=some (.int .i32 a.it)∧w'.cell? ⟨w.heap.size,10,none⟩=some (.int .u64 a.fl)∧w'.cell? ⟨w.heap.size,11,none⟩=some (.string ⟨a.nm.toArray⟩)∧w'.cell? ⟨w.heap.size,12,none⟩=some (.slice a.s.ao a.s.n a.s.c)∧w'.cell? ⟨w.heap.size,13,none⟩=some (.int .u8 b.op)∧w'.cell? ⟨w.heap.size,14,none⟩=some (.int .i64 b.ps)∧w'.cell? ⟨w.heap.size,15,none⟩=some (.bool b.bo)∧w'.cell? ⟨w.heap.size,16,none⟩=some (.int .i32 b.it)∧w'.cell? ⟨w.heap.size,17,none⟩=some (.int .u64 b.fl)∧w'.cell? ⟨w.heap.size,18,none⟩=some (.string ⟨b.nm.toArray⟩)∧w'.cell? ⟨w.heap.size,19,none⟩=some (.slice b.s.ao b.s.n b.s.c))):=fun w' hw=>xB (aV hw G1.out);go_upto_region 3 with fail
  refine aL (S:=fun w'=>w'.cell? ⟨w.heap.size,6,none⟩=some (.int .u8 a.op)∧w'.cell? ⟨w.heap.size,7,none⟩=some (.int .i64 a.ps)∧w'.cell? ⟨w.heap.size,8,none⟩=some (.bool a.bo)∧w'.cell? ⟨w.heap.size,9,none⟩=some (.int .i32 a.it)∧w'.cell? ⟨w.heap.size,10,none⟩=some (.int .u64 a.fl)∧w'.cell? ⟨w.heap.size,11,none⟩=some (.string ⟨a.nm.toArray⟩)∧w'.cell? ⟨w.heap.size,12,none⟩=some (.slice a.s.ao a.s.n a.s.c)∧w'.cell? ⟨w.heap.size,13,none⟩=some (.int .u8 b.op)∧w'.cell? ⟨w.heap.size,14,none⟩=some (.int .i64 b.ps)∧w'.cell? ⟨w.heap.size,15,none⟩=some (.bool b.bo)∧w'.cell? ⟨w.heap.size,16,none⟩=some (.int .i32 b.it)∧w'.cell? ⟨w.heap.size,17,none⟩=some (.int .u64 b.fl)∧w'.cell? ⟨w.heap.size,18,none⟩=some (.string ⟨b.nm.toArray⟩)∧w'.cell? ⟨w.heap.size,19,none⟩=some (.slice b.s.ao b.s.n b.s.c)) _ [(0,true),(1,true),(3,true),(4,true),(2,false),(5,false),(6,true),(7,true)] (by kernel_rfl) (by kernel_rfl) rfl (by kernel_rfl) (by kernel_rfl) (fun _ _ d _ _ h=>by cases d<;>exact h) (HK.out _ (aH (Below.refl _ _))) ?_
  iterate 4
   refine Walk.take (v:=?_) rfl (by rfl) ?_ ?_;rotate_left
   ·(intro w' hSw;(try dsimp only at hSw);go_simp<;>with_reducible rfl)
   try simp only[Act.put,aA,aC,aB]
  refine Walk.act rfl (by rfl) (fun K hK=>?_);go_simp;go_at_call 86;refine(FA.out _).mono ?_;rintro r w2 ⟨rfl,b2⟩;have X1:Below w1.heap.size w1 w2:=aG (aH (Below.refl _ _)) b2;refine hK.out _ _ (HK.out _ X1) ?_;clear hK K;try simp only[Act.put,aA,aC,aB]
  refine Walk.act rfl (by rfl) (fun K hK=>?_);go_simp;go_at_call 86;refine(FB.out _).mono ?_;rintro r w3 ⟨rfl,b3⟩;have X2:Below w1.heap.size w1 w3:=aG X1 b3;refine hK.out _ _ (HK.out _ X2) ?_;clear hK K;try simp only[Act.put,aA,aC,aB]
  iterate 2
   refine Walk.take (v:=?_) rfl (by rfl) ?_ ?_;rotate_left
   ·(intro w' hSw;(try dsimp only at hSw);go_simp<;>with_reducible rfl)
   try simp only[Act.put,aA,aC,aB]
  refine Walk.done ?_;have B3:=Hj (aG B1.out X2);clear HK X1 X2 b2 b3 FA FB c3 G1 HSZ;go_wp2_with fail;refine(IA.out _).mono ?_;rintro r w4 ⟨rfl,rfl⟩
  cases fa with
  | false=>
   go_wp2_with fail;go_ret;exact⟨rfl,B3.out⟩
  | true=>
   go_wp2_with fail;refine(IB.out _).mono ?_;rintro r w4 ⟨rfl,rfl⟩
   cases fb with
   | false=>
    go_wp2_with fail;go_ret;exact⟨rfl,B3.out⟩
   | true=>
    go_wp2_with fail;refine(IL.out _).mono ?_;rintro r w4 ⟨rfl,rfl⟩;go_wp2_with fail;go_ret;exact⟨rfl,B3.out⟩
theorem rI {P:Program}{ops:Array Oper}{rest:List Oper}{op:Oper}{a:Act}{w:World}{Q:Exit→Act→World→Prop}(hw:Region.wanted op (yielded ops a.tmps)=true)(ty:TypeId)(x:Operand)(ho:op.op=.load ty x)
  (b o:Nat) (hx:a.eval x=.pointer (some ⟨b,o,none⟩)) (cs:List Value) (d:TypeDesc) (hc:w.rangeAt b o cs)
  (hu:P.underlying ty=some d) (hd:d.isRow=true) (hi:(P.info? ty).map (·.size)=some cs.length)
  (h:wpList P ops Q rest (a.put op.dst (.agg cs.toArray)) w):wpList P ops Q (op::rest) a w:=
 wpList_step fun K hK=>by
  rw[if_pos hw];exact wp_load_mid ty x ho b o hx cs d hc hu hd hi (hK _ _ h)
def raF (d:De)(a b:EH):Bool:=
 if d.inp then decide (d.len=0) && (d.rg == gB d.ty) && (!d.rg || raP d.ty a b)
 else !d.rg && decide (0≤d.len) && decide (d.len≤16)
theorem yG (d:De)(a b:EH)(w:World)(ha:a.ok)(hb:b.ok):Calls Tryz.prog 38 #[dcv d a b] w fun r w'=>r=.returned (.bool (raF d a b))∧Below w.heap.size w w':=by
 have HR:=Hj fun w=>xJ d a b w ha hb;have NU:=Hj fun w=>fW d.ty w;have G:=cD w (dO d a b);have B1:=Hj (bS (Below.refl w.heap.size w) (aD _) (dO d a b));have X:=cA G;have c1:=X.c1;have c3:=X.c3;have c4:=X.c4;have c5:=X.c5;have G1:=Hj G;clear X G ha hb;rw[aDE]at HR;obtain⟨V1,hV1⟩:∃V,dM d a b=V:=⟨_,rfl⟩;have L1:=Hj (show(Tryz.prog.info? 44).map (·.size)=some V1.length∧V1.length=20 by rw[←hV1];exact⟨by kernel_rfl,rfl⟩);rw[hV1]at HR;have HV1:=Hj hV1;clear hV1;unfold raF;generalize raP d.ty a b=rr at *
 cases hi:d.inp with
 | false=>
  rw[hi]at c1;clear hi HR NU
  cases hr:d.rg with
  | true=>
   rw[hr]at c5;clear hr;show Calls Tryz.prog 38 #[.agg #[.int .i64 d.ps,.bool d.inp,.string ⟨d.nm.toArray⟩,.int .u8 d.ty,.int .i64 d.len,.bool d.rg,.int .u8 a.op,.int .i64 a.ps,.bool a.bo,.int .i32 a.it,.int .u64 a.fl,.string ⟨a.nm.toArray⟩,.slice a.s.ao a.s.n a.s.c,.int .u8 b.op,.int .i64 b.ps,.bool b.bo,.int .i32 b.it,.int .u64 b.fl,.string ⟨b.nm.toArray⟩,.slice b.s.ao b.s.n b.s.c]] w _;go_enter Tryz.func38,Tryz.ntmps38;go_upto_region 1 with fail;rw[uG];generalize bx w (dO d a b)=w1 at *;go_wp2_with fail;go_ret;exact⟨rfl,B1.out⟩
  | false=>
   rw[hr]at c5;clear hr
   by_cases h0:0≤d.len
   ·show Calls Tryz.prog 38 #[.agg #[.int .i64 d.ps,.bool d.inp,.string ⟨d.nm.toArray⟩,.int .u8 d.ty,.int .i64 d.len,.bool d.rg,.int .u8 a.op,.int .i64 a.ps,.bool a.bo,.int .i32 a.it,.int .u64 a.fl,.string ⟨a.nm.toArray⟩,.slice a.s.ao a.s.n a.s.c,.int .u8 b.op,.int .i64 b.ps,.bool b.bo,.int .i32 b.it,.int .u64 b.fl,.string ⟨b.nm.toArray⟩,.slice b.s.ao b.s.n b.s.c]] w _
    go_enter Tryz.func38,Tryz.ntmps38;go_upto_region 1 with fail;rw[uG];generalize bx w (dO d a b)=w1 at *;go_wp2_with fail;go_ret;exact⟨by simp,B1.out⟩
   ·show Calls Tryz.prog 38 #[.agg #[.int .i64 d.ps,.bool d.inp,.string ⟨d.nm.toArray⟩,.int .u8 d.ty,.int .i64 d.len,.bool d.rg,.int .u8 a.op,.int .i64 a.ps,.bool a.bo,.int .i32 a.it,.int .u64 a.fl,.string ⟨a.nm.toArray⟩,.slice a.s.ao a.s.n a.s.c,.int .u8 b.op,.int .i64 b.ps,.bool b.bo,.int .i32 b.it,.int .u64 b.fl,.string ⟨b.nm.toArray⟩,.slice b.s.ao b.s.n b.s.c]] w _
    go_enter Tryz.func38,Tryz.ntmps38;go_upto_region 1 with fail;rw[uG];generalize bx w (dO d a b)=w1 at *;go_wp2_with fail;go_ret;refine⟨?_,B1.out⟩;have h1:decide (0≤d.len)=false:=decide_eq_false (by omega);rw[h1];rfl
 | true=>
  rw[hi]at c1;clear hi
  by_cases h0:d.len=0
  ·rw[h0]at c4
   have E0:decide (d.len=0)=true:=decide_eq_true h0;rw[E0];clear h0 E0;generalize gB d.ty=nt at *
   cases hr:d.rg with
   | false=>
    rw[hr]at c5;have HR5:=Hj hr;clear hr HR;show Calls Tryz.prog 38 #[.agg #[.int .i64 d.ps,.bool d.inp,.string ⟨d.nm.toArray⟩,.int .u8 d.ty,.int .i64 d.len,.bool d.rg,.int .u8 a.op,.int .i64 a.ps,.bool a.bo,.int .i32 a.it,.int .u64 a.fl,.string ⟨a.nm.toArray⟩,.slice a.s.ao a.s.n a.s.c,.int .u8 b.op,.int .i64 b.ps,.bool b.bo,.int .i32 b.it,.int .u64 b.fl,.string ⟨b.nm.toArray⟩,.slice b.s.ao b.s.n b.s.c]] w _;go_enter Tryz.func38,Tryz.ntmps38;go_upto_region 1 with fail;rw[uG];generalize bx w (dO d a b)=w1 at *;go_upto_region 4 with fail
    have HK:Hid (∀w',Below w1.heap.size w1 w'→(w'.cell? ⟨w.heap.size,3,none⟩=some (.int .u8 d.ty)∧w'.cell? ⟨w.heap.size,5,none⟩=some (.bool false))):=fun w' hw=>by
     have X:=cA (aV hw G1.out);exact⟨X.c3,by rw[X.c5,HR5.out]⟩
    refine aL (S:=fun w'=>w'.cell? ⟨w.heap.size,3,none⟩=some (.int .u8 d.ty)∧w'.cell? ⟨w.heap.size,5,none⟩=some (.bool false)) _ [(0,true),(1,true),(2,true),(3,true),(4,false),(5,true),(6,true)] (by kernel_rfl) (by kernel_rfl) rfl (by kernel_rfl) (by kernel_rfl) (fun _ _ d _ _ h=>by cases d<;>exact h) (HK.out _ (aH (Below.refl _ _))) ?_
    iterate 4
     refine Walk.take (v:=?_) rfl (by rfl) ?_ ?_;rotate_left
     ·(intro w' hSw;(try dsimp only at hSw);go_simp<;>with_reducible rfl)
     try simp only[Act.put,aA,aC,aB]
    refine Walk.act rfl (by rfl) (fun K hK=>?_);go_simp;go_at_call 57;refine(NU.out _).mono ?_;rintro r w2 ⟨rfl,e2⟩;have X1:Below w1.heap.size w1 w2:=e2 ▸ aH (Below.refl _ _);refine hK.out _ _ (HK.out _ X1) ?_;clear hK K;try simp only[Act.put,aA,aC,aB]
    iterate 2
     refine Walk.take (v:=?_) rfl (by rfl) ?_ ?_;rotate_left
     ·(intro w' hSw;(try dsimp only at hSw);go_simp<;>with_reducible rfl)
     try simp only[Act.put,aA,aC,aB]
    refine Walk.done ?_;have hw1:=(aV X1 G1.out);have B2:=Hj (aG B1.out X1);have d5:=(cA hw1).c5;rw[HR5.out]at d5;clear c1 c3 c4 c5 HK e2 X1 hw1 B1
    cases nt with
    | false=>
     go_wp2_with fail;go_ret;exact⟨rfl,B2.out⟩
    | true=>
     go_wp2_with fail;go_ret;exact⟨rfl,B2.out⟩
   | true=>
    rw[hr]at c5;have HR5:=Hj hr;clear hr;show Calls Tryz.prog 38 #[.agg #[.int .i64 d.ps,.bool d.inp,.string ⟨d.nm.toArray⟩,.int .u8 d.ty,.int .i64 d.len,.bool d.rg,.int .u8 a.op,.int .i64 a.ps,.bool a.bo,.int .i32 a.it,.int .u64 a.fl,.string ⟨a.nm.toArray⟩,.slice a.s.ao a.s.n a.s.c,.int .u8 b.op,.int .i64 b.ps,.bool b.bo,.int .i32 b.it,.int .u64 b.fl,.string ⟨b.nm.toArray⟩,.slice b.s.ao b.s.n b.s.c]] w _;go_enter Tryz.func38,Tryz.ntmps38;go_upto_region 1 with fail;rw[uG];generalize bx w (dO d a b)=w1 at *;go_upto_region 4 with fail
    have HK:Hid (∀w',Below w1.heap.size w1 w'→(w'.cell? ⟨w.heap.size,3,none⟩=some (.int .u8 d.ty)∧w'.cell? ⟨w.heap.size,5,none⟩=some (.bool true))):=fun w' hw=>by
     have X:=cA (aV hw G1.out);exact⟨X.c3,by rw[X.c5,HR5.out]⟩
    refine aL (S:=fun w'=>w'.cell? ⟨w.heap.size,3,none⟩=some (.int .u8 d.ty)∧w'.cell? ⟨w.heap.size,5,none⟩=some (.bool true)) _ [(0,true),(1,true),(2,true),(3,true),(4,false),(5,true),(6,true)] (by kernel_rfl) (by kernel_rfl) rfl (by kernel_rfl) (by kernel_rfl) (fun _ _ d _ _ h=>by cases d<;>exact h) (HK.out _ (aH (Below.refl _ _))) ?_
    iterate 4
     refine Walk.take (v:=?_) rfl (by rfl) ?_ ?_;rotate_left
     ·(intro w' hSw;(try dsimp only at hSw);go_simp<;>with_reducible rfl)
     try simp only[Act.put,aA,aC,aB]
    refine Walk.act rfl (by rfl) (fun K hK=>?_);go_simp;go_at_call 57;refine(NU.out _).mono ?_;rintro r w2 ⟨rfl,e2⟩;have X1:Below w1.heap.size w1 w2:=e2 ▸ aH (Below.refl _ _);refine hK.out _ _ (HK.out _ X1) ?_;clear hK K;try simp only[Act.put,aA,aC,aB]
    iterate 2
     refine Walk.take (v:=?_) rfl (by rfl) ?_ ?_;rotate_left
     ·(intro w' hSw;(try dsimp only at hSw);go_simp<;>with_reducible rfl)
     try simp only[Act.put,aA,aC,aB]
    refine Walk.done ?_;have hw1:=(aV X1 G1.out);have B2:=Hj (aG B1.out X1);have d5:=(cA hw1).c5;rw[HR5.out]at d5;have RA:=Hj (xC hw1);rw[HV1.out]at RA;clear c1 c3 c4 c5 HK e2 X1 hw1 B1
    cases nt with
    | false=>
     go_wp2_with fail;go_ret;exact⟨rfl,B2.out⟩
    | true=>
     go_wp2_with (refine rI (by rfl) 44 _ rfl w.heap.size 0 rfl V1 _ RA.out Tryz.underlying44 rfl L1.out.1 ?_)
     refine(HR.out _).mono ?_;rintro r w3 ⟨rfl,b3⟩;have B3:=Hj (aG B2.out b3);clear b3 B2;go_wp2_with fail;go_ret;exact⟨rfl,B3.out⟩
  ·have E0:decide (d.len=0)=false:=decide_eq_false h0
   rw[E0];clear E0 HR NU;show Calls Tryz.prog 38 #[.agg #[.int .i64 d.ps,.bool d.inp,.string ⟨d.nm.toArray⟩,.int .u8 d.ty,.int .i64 d.len,.bool d.rg,.int .u8 a.op,.int .i64 a.ps,.bool a.bo,.int .i32 a.it,.int .u64 a.fl,.string ⟨a.nm.toArray⟩,.slice a.s.ao a.s.n a.s.c,.int .u8 b.op,.int .i64 b.ps,.bool b.bo,.int .i32 b.it,.int .u64 b.fl,.string ⟨b.nm.toArray⟩,.slice b.s.ao b.s.n b.s.c]] w _;go_enter Tryz.func38,Tryz.ntmps38;go_upto_region 1 with fail;rw[uG];generalize bx w (dO d a b)=w1 at *;go_wp2_with fail;go_ret;exact⟨rfl,B1.out⟩
end Go.Proofs.YtkbicfffokegeaaGreatDoor
