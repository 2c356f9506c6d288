/-
  Whatever program is handed in, CheckChecks answers true. (part 20 of 38) Conditions: none beside what the card ties.
-/
import Derived.Test.YtkbicfffokegeaaGreatDoorCaq
namespace Go.Proofs.YtkbicfffokegeaaGreatDoor
set_option maxHeartbeats 16000000
open Go.RowKit Go.Maps
set_option maxRecDepth 100000
structure Mn where
 us:Int
 ty:Int
 ar:Bool
def mnV (m:Mn):Value:=.agg #[.int .i64 m.us,.int .u8 m.ty,.bool m.ar]
def mnD (m:Mn):DataW Unit:=.agg [.lit (.int .i64 m.us),.lit (.int .u8 m.ty),.lit (.bool m.ar)]
def mnR:Value→Option (DataW Unit×List MemPlace)
 | .agg ⟨[.int .i64 u,.int .u8 t,.bool b]⟩=>some (mnD ⟨u,t,b⟩,[])
 | _=>none
theorem aDm (m:Mn):mnR (mnV m)=some (mnD m,[]):=rfl
theorem aEq {v:Value}{z:DataW Unit×List MemPlace}(h:mnR v=some z):∃m,v=mnV m∧z=(mnD m,[]):=by
 unfold mnR at h
 split at h
 ·cases h;exact⟨_,rfl,rfl⟩
 ·cases h
theorem aAt {a b:Mn}(h:mnD a=mnD b):a=b:=by
 obtain⟨a1,a2,a3⟩:=a;obtain⟨b1,b2,b3⟩:=b
 simp[mnD]at h
 simp[h]
theorem aBJ:Keyed Tryz.prog 9:=string_keyed Tryz.underlying9
theorem aEk {x:List UInt8}(h:x.length≤maxLen):keyOf Tryz.prog 9 (.string ⟨x.toArray⟩)=some (.string x):=by
 rw[Go.WideMaps.keyOf_string_mk Tryz.underlying9 (by rw[Lib.size_eq];exact h)]
theorem aKR (x:List UInt8):WideAt.IsKeyLit (.string x):=trivial
def Mp (w:World)(M n:Nat)(f:List UInt8→Option Mn):Prop:=
 ∃D,w.ownsMap Tryz.prog 9 mnR M n D∧∀x,Maps.has D (.string x)=(f x).isSome∧∀m,f x=some m→∀z,D.atKey (.string x) z=mnD m
theorem Mp.lt {w:World}{M n:Nat}{f:List UInt8→Option Mn}(h:Mp w M n f):M<w.heap.size:=by obtain⟨D,h, -⟩:=h;exact h.lt
theorem Mp.blk {w w':World}{M n:Nat}{f:List UInt8→Option Mn}(h:Mp w M n f)(e:w'.heap[M]? = w.heap[M]?):Mp w' M n f:=by
 obtain⟨D,⟨es,ck,hb,r⟩,h2⟩:=h;exact⟨D,⟨es,ck,e.trans hb,r⟩,h2⟩
theorem Mp.made (w:World):Mp (w.alloc (.map #[] 0)) w.heap.size 0 fun _=>none:=
 ⟨_,World.ownsMap_made w Tryz.prog 9 mnR,fun x=>⟨rfl,fun m h=>by cases h⟩⟩
theorem aDe {w:World}{M n:Nat}{D:DataW Unit}(h:w.ownsMap Tryz.prog 9 mnR M n D):w.ownsMap Tryz.prog 9 mnR M (Maps.size D) D:=by
 obtain⟨es,ck,hb,F,hs,rfl⟩:=h;exact⟨es,ck,hb,F,by simp[Maps.size,length_sorted],rfl⟩
theorem aGa (w:World):(zeroValue 96).run Tryz.prog w=.ok (mnV ⟨0,0,false⟩) w:=by kernel_rfl
theorem Mp.look {w:World}{M n:Nat}{f:List UInt8→Option Mn}(h:Mp w M n f){x:List UInt8}(hx:x.length≤maxLen) :
  (Instr.lookup 65 (.map (some M)) (.string ⟨x.toArray⟩) true).run Tryz.prog w=.ok (.tuple #[mnV ((f x).getD ⟨0,0,false⟩),.bool (f x).isSome]) w:=by
 obtain⟨D,h,h2⟩:=h;obtain⟨v,ps,hr,hv⟩:=h.look_ok aBJ Tryz.underlying65 (aGa w) (aDm _) (aEk hx);rw[hr,(h2 x).1];obtain⟨m,rfl,hz⟩:=aEq hv;injection hz with hz
 cases hf:f x with
 | some k=>
  rw[(h2 x).2 k hf]at hz;rw[aAt hz];rfl
 | none=>
  have h0:=(h2 x).1;rw[hf]at h0;rw[atKey_of_not_has h0]at hz;rw[←aAt hz];rfl
theorem Mp.get {w:World}{M n:Nat}{f:List UInt8→Option Mn}(h:Mp w M n f){x:List UInt8}(hx:x.length≤maxLen){m:Mn}(hf:f x=some m) :
  (Instr.lookup 65 (.map (some M)) (.string ⟨x.toArray⟩) false).run Tryz.prog w=.ok (mnV m) w:=by
 obtain⟨D,h,h2⟩:=h;obtain⟨v,ps,hr,hv⟩:=h.lookup aBJ Tryz.underlying65 (aGa w) (aDm _) (aEk hx);rw[hr];obtain⟨k,rfl,hz⟩:=aEq hv;injection hz with hz;rw[(h2 x).2 m hf]at hz;rw[aAt hz]
theorem jM {w w':World}{M B:Nat}(h:w.mapTurned w' M):Fx (fun k=>k=M) B w w':=by
 have g:=h.grown;refine⟨g.os,g.tape,g.output,g.size,fun k hk hx=>?_⟩;rcases Nat.lt_or_ge k w.heap.size with hl|hl
 ·exact g.block k hl (fun e=>hx (Option.some.inj e))
 ·obtain⟨es,ck,es',ck',hb,rfl⟩:=h
  rw[Array.getElem?_eq_none hl,Array.getElem?_eq_none (by simpa [Go.ChangeMaps.setBlock] using hl)]
theorem Mp.put {w:World}{M n:Nat}{f:List UInt8→Option Mn}(h:Mp w M n f)(hn:n<maxLen){x:List UInt8}(hx:x.length≤maxLen)(m:Mn) :
  ∃w',(Instr.mapUpdate 65 (.map (some M)) (.string ⟨x.toArray⟩) (mnV m)).run Tryz.prog w=.ok () w'∧Mp w' M (n+1) (fun y=>if y=x then some m else f y)∧w.mapTurned w' M:=by
 obtain⟨D,h,h2⟩:=h;obtain⟨w',hr,h',ht⟩:=h.store aBJ Tryz.underlying65 hn (aEk hx) (aDm m);refine⟨w',hr,⟨_,h',fun y=>?_⟩,ht⟩
 by_cases e:y=x
 ·subst e
  dsimp only;rw[if_pos rfl];refine⟨has_put_same h.isMap (aKR y) _,fun k hk z=>?_⟩;cases hk;exact atKey_put_same h.isMap (aKR y) _ _
 ·dsimp only
  rw[if_neg e];have ne:Lit.string y≠Lit.string x:=fun h=>e (by injection h);exact⟨(has_put_other ne _).trans (h2 y).1,fun k hk z=>(atKey_put_other ne _ z).trans ((h2 y).2 k hk z)⟩
theorem Mp.del {w:World}{M n:Nat}{f:List UInt8→Option Mn}(h:Mp w M (n+1) f){x:List UInt8}(hx:x.length≤maxLen)(hf:(f x).isSome=true)(ty:TypeId) :
  ∃w',(Builtin.delete_ #[65,9] ty #[.map (some M),.string ⟨x.toArray⟩]).run Tryz.prog w=.ok (.tuple #[]) w'∧Mp w' M n (fun y=>if y=x then none else f y)∧w.mapTurned w' M:=by
 obtain⟨D,h,h2⟩:=h;obtain⟨w',hr,h',ht⟩:=h.drop aBJ Tryz.underlying65 (aEk hx) ty;have hs:=size_del (k:=.string x) (h.tidy aBJ);rw[(h2 x).1,hf]at hs;have hle:=h.size_le;refine⟨w',hr,⟨_,(aDe h').mono (by simp at hs;omega),fun y=>?_⟩,ht⟩
 by_cases e:y=x
 ·subst e
  dsimp only;rw[if_pos rfl];exact⟨has_del_same,fun k hk=>by cases hk⟩
 ·dsimp only
  rw[if_neg e];have ne:Lit.string y≠Lit.string x:=fun h=>e (by injection h);exact⟨(has_del_other ne).trans (h2 y).1,fun k hk z=>(atKey_del_other ne z).trans ((h2 y).2 k hk z)⟩
end Go.Proofs.YtkbicfffokegeaaGreatDoor
namespace Go.Proofs.YtkbicfffokegeaaGreatDoor
set_option maxHeartbeats 16000000
open Go.RowKit
set_option maxRecDepth 100000
structure Ckf (R M n:Nat) (f:List UInt8→Option Mn) (st:Bool) (lp:Int) (w:World):Prop where
 blk:Blk w R 67 #[.map (some M),.bool st,.int .i64 lp]
 mp:Mp w M n f
 ne:R≠M
theorem Ckf.fx {R M n:Nat}{f:List UInt8→Option Mn}{st:Bool}{lp:Int}{w w':World}{X:Nat→Prop}{B:Nat}(h:Ckf R M n f st lp w)(hf:Fx X B w w')(hR:R<B)(hM:M<B)(xR:¬X R)(xM:¬X M):Ckf R M n f st lp w':=
 ⟨hf.blk h.blk hR xR,h.mp.blk (hf.block M hM xM),h.ne⟩
theorem Ckf.bel {R M n:Nat}{f:List UInt8→Option Mn}{st:Bool}{lp:Int}{w w':World}(h:Ckf R M n f st lp w)(hb:Below w.heap.size w w'):Ckf R M n f st lp w':=
 h.fx (X:=fun _=>False) (Fx.of hb) h.blk.lt h.mp.lt (fun x=>x) (fun x=>x)
theorem Ckf.alloc {R M n:Nat}{f:List UInt8→Option Mn}{st:Bool}{lp:Int}{w:World}(h:Ckf R M n f st lp w)(o:Obj):Ckf R M n f st lp (w.alloc o):=h.bel (aY w o)
def kB (d:De):Mn:=⟨if d.inp then 1 else 0,d.ty,decide (d.len≠0)⟩
theorem iO (m:Mn)(w:World):Calls Tryz.prog 73 #[mnV m] w fun e w'=>e=.returned (.int .i64 (if m.ar then 1 else 0))∧Below w.heap.size w w':=by
 obtain⟨u,t,a⟩:=m;have BL:=aY w (.cells #[.int .i64 u,.int .u8 t,.bool a] 96);cases a
 all_goals
  show Calls Tryz.prog 73 #[.agg #[.int .i64 u,.int .u8 t,.bool _]] w _;go_enter Tryz.func73,Tryz.ntmps73;go_wp2_with fail;go_ret;exact⟨rfl,BL⟩
theorem nM (R M n:Nat)(f:List UInt8→Option Mn)(st:Bool)(lp:Int)(x:List UInt8)(w:World)(h:Ckf R M n f st lp w)(hx:x.length≤maxLen) :
  Calls Tryz.prog 28 #[.pointer (some ⟨R,0,none⟩),.string ⟨x.toArray⟩] w fun e w'=>e=.returned (.bool (f x).isSome)∧Below w.heap.size w w':=by
 have L:=h.mp.look hx;have c0:w.cell? ⟨R,0,none⟩=some (.map (some M)):=h.blk.cell 0;generalize (f x).isSome=b at *;generalize (f x).getD ⟨0,0,false⟩=m at *;obtain⟨u,t,a⟩:=m;change _=Result.ok (Value.tuple #[.agg #[.int .i64 u,.int .u8 t,.bool a],.bool b]) w at L;have BL:=aY w (.cells #[.int .i64 u,.int .u8 t,.bool a] 96);clear h hx;go_enter Tryz.func28,Tryz.ntmps28;go_wp2_with fail;go_ret;exact⟨rfl,BL⟩
def fnE (m:Option Mn)(p:Int):Ending:=match m with
 | some m=>.returned (mnV m)
 | none=>.panicked (wV 120 p)
theorem xK (R M n:Nat)(f:List UInt8→Option Mn)(st:Bool)(lp:Int)(x:List UInt8)(p:Int)(w:World)(h:Ckf R M n f st lp w)(hx:x.length≤maxLen) :
  Calls Tryz.prog 72 #[.pointer (some ⟨R,0,none⟩),.string ⟨x.toArray⟩,.int .i64 p] w fun e w'=>e=fnE (f x) p∧Below w.heap.size w w':=by
 have h1:=h.alloc (.cells #[.int .i64 0,.int .u8 0,.bool false] 96);have K:=Hj (nM R M n f st lp x _ h1 hx);have B1:=Hj (aY w (.cells #[.int .i64 0,.int .u8 0,.bool false] 96));have NB:Hid (Blk (w.alloc (.cells #[.int .i64 0,.int .u8 0,.bool false] 96)) w.heap.size 96 #[.int .i64 0,.int .u8 0,.bool false]):=Blk.new _ _ _;have H1:=Hj h1;have HX:=Hj hx;have HL:Hid (R<w.heap.size):=h.blk.lt;clear h h1 hx;go_enter Tryz.func72,Tryz.ntmps72;go_upto_region 1 with fail;change (Code.region 1 _ _).wp _ _ _ (w.alloc (.cells #[.int .i64 0,.int .u8 0,.bool false] 96));generalize w.alloc (.cells #[.int .i64 0,.int .u8 0,.bool false] 96)=w1 at *;go_wp2_with fail;refine K.out.mono ?_;rintro r w2 ⟨rfl,b2⟩;have B2:=Hj (aG B1.out b2);have NB2:=Hj (NB.out.below b2 NB.out.lt);have H2:=Hj (H1.out.bel b2);clear K B1 NB H1 b2
 cases hf:f x with
 | none=>
  have HF:=Hj hf;clear hf;simp only[Option.isSome_none];go_wp2_with fail;refine(aT _ _ _ _).mono ?_;rintro r w3 ⟨rfl,rfl⟩;dsimp only[muE];go_wp2_with fail;refine⟨rfl,?_,B2.out⟩;rw[HF.out];rfl
 | some m=>
  have L:=H2.out.mp.get HX.out hf;have c0:w2.cell? ⟨R,0,none⟩=some (.map (some M)):=H2.out.blk.cell 0;have HF:=Hj hf;clear hf;simp only[Option.isSome_some];obtain⟨u,t,a⟩:=m;change _=Result.ok (Value.agg #[.int .i64 u,.int .u8 t,.bool a]) w2 at L;go_wp2_with fail;refine(aT _ _ _ _).mono ?_;rintro r w3 ⟨rfl,e3⟩;subst e3;dsimp only[muE];have n0:w3.cell? ⟨w.heap.size,0,none⟩=some (.int .i64 0):=NB2.out.cell 0;have n1:w3.cell? ⟨w.heap.size,1,none⟩=some (.int .u8 0):=NB2.out.cell 1;have n2:w3.cell? ⟨w.heap.size,2,none⟩=some (.bool false):=NB2.out.cell 2;have z0:=NB2.out.frozen 0;have z1:=NB2.out.frozen 1;have z2:=NB2.out.frozen 2;go_wp2_with fail;have K:=((NB2.out.set_ 0 (.int .i64 u)).set_ 1 (.int .u8 t)).set_ 2 (.bool a);refine bodyPost_ret (results_cell_row rfl _ _ w.heap.size 96 _ (0,0) _ rfl K Tryz.underlying96 rfl (by kernel_rfl)) rfl ⟨by rw[HF.out];rfl,?_⟩;exact Below.setCell (Below.setCell (Below.setCell B2.out (p:=⟨w.heap.size,0,none⟩) (aD _) _) (p:=⟨w.heap.size,1,none⟩) (aD _) _) (p:=⟨w.heap.size,2,none⟩) (aD _) _
theorem aIA (x:Int):(x != 0)=decide (x≠0):=by
 by_cases h:x=0
 ·subst h;rfl
 ·simp[h]
theorem yH (R M n:Nat)(f:List UInt8→Option Mn)(st:Bool)(lp:Int)(d:De)(a b:EH)(w:World)(h:Ckf R M n f st lp w)(hnm:d.nm.length≤maxLen)(hn:n<maxLen) :
  Calls Tryz.prog 29 #[.pointer (some ⟨R,0,none⟩),dcv d a b] w fun r w'=>r=.returned (.tuple #[])∧Ckf R M (n+1) (fun y=>if y=d.nm then some (kB d)else f y) st lp w'∧Fx (On M) w.heap.size w w':=by
 have G:=cD w (dO d a b);have BL:=bS (Below.refl w.heap.size w) (aD _) (dO d a b);have X:=cA G;have c1:=X.c1;have c2:=X.c2;have c3:=X.c3;have c4:=X.c4;have HSZ:Hid ((bx w (dO d a b)).heap.size=w.heap.size+1):=cJ _ _;have H1:=Hj (h.bel BL);have B1:=Hj BL;have G1:=Hj G;have HN:=Hj hn;have HNM:=Hj hnm;have HRL:Hid (R<w.heap.size∧M<w.heap.size):=⟨h.blk.lt,h.mp.lt⟩;clear X G BL h hn hnm
 have Q:Hid (∀(us:Int) (ar:Bool) (hm:(⟨us,d.ty,ar⟩:Mn)=kB d) (w1 w3:World),Ckf R M n f st lp w3→Below w.heap.size w w3→∃w4,(Instr.mapUpdate 65 (.map (some M)) (.string ⟨d.nm.toArray⟩) (.agg #[.int .i64 us,.int .u8 d.ty,.bool ar])).run Tryz.prog w3=.ok () w4 ∧
   Ckf R M (n+1) (fun y=>if y=d.nm then some (kB d)else f y) st lp w4∧Fx (On M) w.heap.size w w4):=by
  intro us ar hm w1 w3 h3 hb;obtain⟨w4,h4,h5,h6⟩:=h3.mp.put HN.out HNM.out ⟨us,d.ty,ar⟩;refine⟨w4,h4,⟨?_,?_,h3.ne⟩,(Fx.of hb).trans (jM h6)⟩
  ·exact(jM (B:=w3.heap.size) h6).blk h3.blk h3.blk.lt (fun x=>h3.ne x)
  ·rw[←hm];exact h5
 clear HN HNM;have e4:Hid ((d.len != 0)=decide (d.len≠0)):=aIA _;show Calls Tryz.prog 29 #[.pointer (some ⟨R,0,none⟩),.agg #[.int .i64 d.ps,.bool d.inp,.string ⟨d.nm.toArray⟩,.int .u8 d.ty,.int .i64 d.len,.bool d.rg,.int .u8 a.op,.int .i64 a.ps,.bool a.bo,.int .i32 a.it,.int .u64 a.fl,.string ⟨a.nm.toArray⟩,.slice a.s.ao a.s.n a.s.c,.int .u8 b.op,.int .i64 b.ps,.bool b.bo,.int .i32 b.it,.int .u64 b.fl,.string ⟨b.nm.toArray⟩,.slice b.s.ao b.s.n b.s.c]] w _;go_enter Tryz.func29,Tryz.ntmps29;go_upto_region 1 with fail;rw[uG];generalize bx w (dO d a b)=w1 at *;go_upto_region 2 with fail;obtain⟨ar,har⟩:∃ar,decide (d.len≠0)=ar:=⟨_,rfl⟩;rw[aIA,har];clear e4;have hmn:Hid (∀us,us=(if d.inp then(1:Int)else 0)→(⟨us,d.ty,ar⟩:Mn)=kB d):=fun us h=>by rw[h,←har];rfl
 clear har;have N2:Hid (Blk (w1.alloc (.cells #[.int .i64 0,.int .u8 d.ty,.bool ar] 96)) w1.heap.size 96 #[.int .i64 0,.int .u8 d.ty,.bool ar]):=Blk.new _ _ _;have B2:=Hj (aI B1.out (.cells #[.int .i64 0,.int .u8 d.ty,.bool ar] 96));have H2:=Hj (H1.out.alloc (.cells #[.int .i64 0,.int .u8 d.ty,.bool ar] 96));have G2:=Hj (aV (aY w1 (.cells #[.int .i64 0,.int .u8 d.ty,.bool ar] 96)) G1.out);have HG:Hid (w.heap.size<w1.heap.size∧R<w1.heap.size∧M<w1.heap.size):=by have:=HSZ.out;have:=HRL.out;exact⟨by omega,by omega,by omega⟩
 clear H1 B1 G1 HSZ c2 c3 c4 c1;have c1:=(cA G2.out).c1;generalize w1.alloc (.cells #[.int .i64 0,.int .u8 d.ty,.bool ar] 96)=w2 at *;generalize w1.heap.size=g at *
 cases hi:d.inp with
 | false=>
  rw[hi]at c1;have N3:=N2;have B3:=B2;have H3:=H2;have G3:=G2;clear N2 B2 H2 G2;have HI:=Hj hi;clear hi;go_upto_region 4 with fail;have hi:=HI.out;clear c1 HI;have x0:w2.cell? ⟨R,0,none⟩=some (.map (some M)):=H3.out.blk.cell 0;have x1:=(cA G3.out).c2;have x2:=N3.out.cell 0;have x3:=N3.out.cell 1;have x4:=N3.out.cell 2
  simp at x2 x3 x4
  go_still_tail 7,(by kernel_rfl)
  obtain⟨w4,hr,hck,hfx⟩:=Q.out 0 ar (hmn.out _ (by rw[hi];rfl)) w1 w2.drew (H3.out.bel (aH (Below.refl _ _))) (aH B3.out);clear hi;change wpList _ _ _ _ _ w2.drew;generalize w2.drew=wz at *;go_wp2_with fail;exact bodyPost_end (results_none rfl _ _ _) rfl ⟨rfl,hck,hfx⟩
 | true=>
  rw[hi]at c1;have HI:=Hj hi;clear hi;have n0:w2.cell? ⟨g,0,none⟩=some (.int .i64 0):=N2.out.cell 0;have z0:=N2.out.frozen 0;go_upto_region 4 with fail;have hi:=HI.out;have N3:=Hj (N2.out.set_ 0 (.int .i64 1));have B3:=Hj (Below.setCell B2.out (p:=⟨g,0,none⟩) (Nat.le_of_lt HG.out.1) (.int .i64 1));have H3:Hid (Ckf R M n f st lp (w2.setCell ⟨g,0,none⟩ (.int .i64 1))):=H2.out.fx (X:=On g) (B:=w2.heap.size) (bJ (X:=On g) (Fx.refl _ _ _) (p:=⟨g,0,none⟩) (.inl rfl) _) H2.out.blk.lt H2.out.mp.lt (fun(e:R=g)=>by have:=HG.out;omega) (fun(e:M=g)=>by have:=HG.out;omega);have G3:Hid ((w2.setCell ⟨g,0,none⟩ (.int .i64 1)).heap[w.heap.size]? = some (dO d a b)):=(Below.heap_setCell _ _ _ _ (by show _≠g;have:=HG.out;omega)).trans G2.out;clear c1 HI N2 B2 H2 G2 n0 z0;generalize w2.setCell ⟨g,0,none⟩ (.int .i64 1)=w3 at *;have x0:w3.cell? ⟨R,0,none⟩=some (.map (some M)):=H3.out.blk.cell 0;have x1:=(cA G3.out).c2;have x2:=N3.out.cell 0;have x3:=N3.out.cell 1;have x4:=N3.out.cell 2
  simp at x2 x3 x4
  go_still_tail 7,(by kernel_rfl)
  obtain⟨w4,hr,hck,hfx⟩:=Q.out 1 ar (hmn.out _ (by rw[hi];rfl)) w1 w3.drew (H3.out.bel (aH (Below.refl _ _))) (aH B3.out);clear hi;change wpList _ _ _ _ _ w3.drew;generalize w3.drew=wz at *;go_wp2_with fail;exact bodyPost_end (results_none rfl _ _ _) rfl ⟨rfl,hck,hfx⟩
def mnS (S:Sc)(x:List UInt8):Option Mn:=if x∈S.loops then some ⟨2,2,false⟩ else(S.find x).map fun i=>kB (S.d i)
def Sc.good (S:Sc):Prop:=∀i,i<S.n→0≤(S.d i).len
def Ckr (R M n:Nat)(S:Sc)(w:World):Prop:=Ckf R M n (mnS S) S.init (S.loops.length:Int) w
def ckE (r:Ck Int):Ending:=match r with
 | .ok t=>.returned (.int .u8 t)
 | .no c p=>.panicked (wV c p)
def nmC (m:Option Mn)(st:Bool)(p:Int)(n:Nat)(a:Ck Int):Ck Int:=match m with
 | none=>.no 120 p
 | some m=>if m.us=1∧st=true then .no 124 p else if(n:Int)=(if m.ar then 1 else 0) then(if m.ar then a.bind fun u=>if u=2 then .ok m.ty else .no 122 p else .ok m.ty)else .no 125 p
theorem aLT {S:Sc}(h:S.good)(x:List UInt8)(p:Int)(n:Nat)(a:Ck Int):((S.look x p).bind fun tl=>mP tl.1 tl.2 n p a)=nmC (mnS S x) S.init p n a:=by
 unfold Sc.look mnS
 by_cases c:x∈S.loops
 ·rw[if_pos c,if_pos c]
  by_cases d:n=0
  ·subst d;rfl
  ·simp[Ck.bind,mP,nmC,d]
 ·rw[if_neg c,if_neg c]
  cases hf:S.find x with
  | none=>rfl
  | some i=>
   have hl:=h i (zM hf).1;simp only[Option.map_some]
   by_cases e:S.init=true∧(S.d i).inp=true
   ·rw[if_pos e]
    simp[Ck.bind,nmC,kB,e.1,e.2]
   ·have e2:¬((kB (S.d i)).us=1∧S.init=true):=by
     rintro⟨h1,h2⟩;refine e ⟨h2,?_⟩;unfold kB at h1
     cases hi:(S.d i).inp with
     | true=>rfl
     | false=>rw[hi]at h1;simp at h1
    rw[if_neg e];show mP _ _ _ _ _=_;unfold nmC mP;dsimp only;rw[if_neg e2]
    by_cases g:0<(S.d i).len
    ·have g2:(kB (S.d i)).ar=true:=by simp[kB];omega
     rw[if_pos g,g2]
     by_cases k:n=1
     ·subst k;rfl
     ·have k2:¬(n:Int)=1:=by omega
      simp[k,k2]
    ·have g2:(kB (S.d i)).ar=false:=by simp[kB];omega
     rw[if_neg g,g2]
     by_cases k:n=0
     ·subst k;rfl
     ·simp[k]
theorem aAJ (op:Int)(l:List Int)(v:Value)(B:Nat)(w:World)(h:w.ownsRow B 36 1 v l.length (l.map (Value.int .u8))) :
  Calls Tryz.prog 48 #[.int .u8 op,v] w fun e w'=>e=.returned (.int .u8 (bM op l))∧Below w.heap.size w w':=by
 obtain⟨A,c,rfl⟩:=nW h
 match l,h with
 | [],h=>
  clear h;go_enter Tryz.func48,Tryz.ntmps48;go_wp2_with fail;refine(yF op w).mono ?_;rintro r w1 ⟨rfl,rfl⟩;go_wp2_with fail;go_ret;exact⟨rfl,Below.refl _ _⟩
 | [t],h=>
  obtain⟨g,cp,e, -⟩:=nU h (by simp);injection e with e1 e2 e3;subst e1;have c0:=kH h (j:=0) (t:=t) rfl;clear h;go_enter Tryz.func48,Tryz.ntmps48;go_wp2_with fail;refine(aCg op t w).mono ?_;rintro r w1 ⟨rfl,rfl⟩;go_wp2_with fail;go_ret;exact⟨rfl,Below.refl _ _⟩
 | [t,u],h=>
  obtain⟨g,cp,e, -⟩:=nU h (by simp);injection e with e1 e2 e3;subst e1;have c0:=kH h (j:=0) (t:=t) rfl;have c1:=kH h (j:=1) (t:=u) rfl;clear h;have BD:=aH (Below.refl w.heap.size w)
  by_cases k:u=t
  ·subst k
   go_enter Tryz.func48,Tryz.ntmps48;go_upto_region 5 with fail
   go_still (by kernel_rfl)
   have c0':w.drew.cell? ⟨g,0,none⟩=some (.int .u8 u):=c0;clear c0 c1;go_wp2_with fail;refine(aAL op u _).mono ?_;rintro r w2 ⟨rfl,rfl⟩;go_wp2_with fail;go_ret;exact⟨rfl,BD⟩
  ·have k2:¬t=u:=fun h=>k h.symm
   have e:bM op [t,u]=0:=by simp[bM,k]
   rw[e];clear e;go_enter Tryz.func48,Tryz.ntmps48;go_upto_region 5 with fail
   go_still (by kernel_rfl)
   clear c0 c1;go_wp2_with fail;go_ret;exact⟨rfl,BD⟩
 | t::u::v::r,h=>
  have e:bM op (t::u::v::r)=0:=rfl;rw[e];clear e h;have BD:=aH (Below.refl w.heap.size w);generalize hn:(t::u::v::r).length=n;have n0:¬(n:Int)=0:=by rw[←hn];simp only[List.length_cons];omega
  have n1:¬(n:Int)=1:=by rw[←hn];simp only[List.length_cons];omega
  have n2:¬(n:Int)=2:=by rw[←hn];simp only[List.length_cons];omega
  clear hn;go_enter Tryz.func48,Tryz.ntmps48;go_upto_region 5 with fail
  go_still (by kernel_rfl)
  go_wp2_with fail;go_ret;exact⟨rfl,BD⟩
def CkX (B R M n:Nat)(S:Sc)(e:Ex):Prop:=∀w:World,Ckr R M n S w→e.In B w→B≤w.heap.size→e.wt≤1000000→Calls Tryz.prog 30 #[.pointer (some ⟨R,0,none⟩),e.h.v] w fun r w'=>r=ckE (e.ck S)∧Below w.heap.size w w'
def tyR (n:Nat)(r:Ck (List Int))(B:Nat)(e:Ending)(w':World):Prop:=match r with
 | .ok l=>∃v,e=.returned v∧w'.ownsRow B 36 1 v n (l.map (Value.int .u8))
 | .no c p=>e=.panicked (wV c p)
theorem aGd (k:Nat→Ex)(n:Nat):n≤sm (fun i=>(k i).wt) n:=by
 induction n with
 | zero=>exact aD _
 | succ n ih=>
  have:1≤(k n).wt:=by rw[Ex.wt_eq];omega
  show n+1≤sm (fun i=>(k i).wt) n+(k n).wt;omega
theorem aDU:(Tryz.prog.info? 36).map (fun i=>(i.zero,i.size,i.bytes))=some (some (.int .u8 0),1,1):=by kernel_rfl
theorem aDT {w:World}{B n:Nat}{v:Value}{l:List Int}{t:Int}(h:w.ownsRow B 36 1 v (n+1) (l.map (Value.int .u8)++[.int .u8 t])):w.ownsRow B 36 1 v (n+1) ((l++[t]).map (Value.int .u8)):=by
 rw[List.map_append];exact h
theorem pL (B R M n:Nat)(S:Sc)(s:Sl)(k:Nat→Ex)(ih:∀i,i<s.n→CkX B R M n S (k i))(w:World)(h:Ckr R M n S w)(hX:gE B w s k)(hB:B≤w.heap.size)(hw:sm (fun i=>(k i).wt) s.n≤1000000) :
  Calls Tryz.prog 49 #[.pointer (some ⟨R,0,none⟩),.slice s.ao s.n s.c] w fun r w'=>tyR s.n (cks (fun i=>(k i).ck S) s.n) w.heap.size r w'∧Below w.heap.size w w':=by
 obtain⟨i0,hi,hz0,hz1,hz2⟩:=info_parts aDU;have HI0:=Hj (And.intro hi (And.intro hz0 (And.intro hz1 hz2)));have HX:=Hj hX;have IH:=Hj ih;have HB:=Hj hB;have HC:=Hj h;have hmx:s.n≤1000000:=aF (aGd k s.n) hw;have HM:=Hj hmx;have HW:Hid (∀i,i<s.n→(k i).wt≤1000000):=fun i hi=>by have:=iD (f:=fun i=>(k i).wt) hi;omega
 clear hi hz0 hz1 hz2 hX ih hB h hmx hw;obtain⟨ao,m,c⟩:=s;dsimp only at *;go_enter Tryz.func49,Tryz.ntmps49;go_wp2_with fail
 go_loopg [5,10] m (fun gk v i wr=>∃(j:Nat) (A:Option Addr) (cp:Nat) (l:List Int),i=.int .i64 (j:Int)∧v=.slice A j cp∧Hid (gk=m-j∧j≤m)∧Hid (cks (fun i=>(k i).ck S) j=.ok l)∧Hid (wr.ownsRow w.heap.size 36 1 (.slice A j cp) j (l.map (Value.int .u8)))∧Hid (Below w.heap.size w wr))
 case atStart=>exact⟨0,none,0,[],rfl,rfl,⟨rfl,Nat.zero_le _⟩,rfl,World.ownsRow_nil _ _ _ _,Below.refl _ _⟩
 case round=>
  obtain⟨j,A,cp,l,rfl,rfl,HJ,HL,OW,BEL⟩:=hrel
  by_cases hlt:j<m
  ·have z0:(j:Int)<(m:Int):=by omega
   have ovi:IntKind.i64.wrap ((j:Int)+1)=((j+1:Nat):Int):=by have:=HM.out;rw[IntKind.wrap_i64];omega
   obtain⟨a,b,o,rfl,hA,hb,X,I⟩:=gE.at (HX.out.below BEL.out HB.out) (i:=j) hlt;have d0:=X.c0;have d1:=X.c1;have d2:=X.c2;have d3:=X.c3;have d4:=X.c4;have d5:=X.c5;have d6:=X.c6;have BX:=bS (Below.refl wr.heap.size wr) (aD _) (xO (k j).h);have C:=Hj (IH.out j hlt (bx wr (xO (k j).h)) ((HC.out.bel BEL.out).bel BX) (I.below BX (aF HB.out BEL.out.size)) (aF (aF HB.out BEL.out.size) BX.size) (HW.out j hlt));have GX:=bK (cD wr (xO (k j).h));have OB:=Hj (OW.out.alloc (xO (k j).h));have BB:=Hj (BEL.out.trans (BX.mono BEL.out.size));have HLT:=Hj hlt;have NXT:Hid (cks (fun i=>(k i).ck S) (j+1)=((k j).ck S).bind fun t=>.ok (l++[t])):=by show cks _ (j+1)=_;simp only[cks,HL.out];rfl
   clear X I hb hlt BX OW;go_upto_region 5 with fail;rw[kY wr (k j).h];have OB':Hid ((bx wr (xO (k j).h)).ownsRow w.heap.size 36 1 (.slice A j cp) j (l.map (Value.int .u8))):=OB;obtain⟨x0,x1,x2,x3,x4,x5,x6⟩:=GX;clear OB d0 d1 d2 d3 d4 d5 d6;have HWS:Hid ((bx wr (xO (k j).h)).heap.size=wr.heap.size+1):=cJ _ _;generalize bx wr (xO (k j).h)=wb at *;go_wp2_with fail;refine C.out.mono ?_;rintro r w1 ⟨rfl,b1⟩;have O1:=Hj (aFp OB'.out b1);have B1:=Hj (aG BB.out b1);clear C b1 OB' BB x0 x1 x2 x3 x4 x5 x6 HWS
   cases hc:(k j).ck S with
   | no c p=>
    have E:Hid (cks (fun i=>(k i).ck S) m=.no c p):=aCf hc HL.out m HLT.out;clear hc;dsimp only[ckE];go_wp2_with fail;refine⟨rfl,?_,B1.out⟩;rw[E.out];rfl
   | ok t=>
    rw[hc]at NXT;clear hc;dsimp only[ckE]
    go_wp2_with (at_builtin;refine wpList_append_own _ rfl _ _ 99 rfl w.heap.size 36 i0 (.int .u8 0) 1 1 Tryz.underlying99 HI0.out.1 HI0.out.2.1 HI0.out.2.2.1 HI0.out.2.2.2 rfl (by decide) _ j _ rfl (O1.out.alloc _) ⟨w1.heap.size,0,none⟩ 1 1 [_] rfl rfl (cell_one_new _ _ _) ?c2 ?c3 ?c4 ?c5 ?_)
    case c2=>intro u hu;simp at hu;subst hu;rfl
    case c3=>have:=HM.out;have:=HLT.out;unfold maxLen;omega
    case c4=>have:=HM.out;have:=HLT.out;omega
    case c5=>have:=B1.out.size;simp;omega
    intro v' w2 own' hgrow hnil;clear hnil;have B2:=Hj (lI B1.out O1.out hgrow);have own2:=aDT own';obtain⟨A',cp',rfl⟩:=nW own2;have OW2:=Hj own2;clear own' hgrow own2 O1 B1;go_wp2_with fail
    go_roundg (m-(j+1))
    case measure=>have:=HJ.out;have:=HLT.out;omega
    case rel=>exact⟨j+1,A',cp',l++[t],by go_num,by go_num,⟨rfl,HLT.out⟩,NXT.out,OW2.out,B2.out⟩
  ·obtain rfl:j=m:=by have:=HJ.out;omega
   have z0:¬(j:Int)<(j:Int):=by omega
   clear hlt;go_wp2_with fail;go_ret;refine⟨?_,BEL.out⟩;rw[HL.out];exact⟨_,rfl,OW.out⟩
end Go.Proofs.YtkbicfffokegeaaGreatDoor
