/-
  ParseParses: a source's tree, or what is wrong with it, is the reference's. (part 27 of 38) Conditions: none beside what the card ties.
-/
import Derived.Test.YthmlhkllbichgaaGreatDoorVaz
import Derived.Test.YthmlhkllbichgaaGreatDoorVac
namespace Go.Proofs.YthmlhkllbichgaaGreatDoor
set_option maxHeartbeats 16000000
open Go.RowKit
set_option maxRecDepth 100000
theorem noEx_v (L:Nat)(w:World):VX L .no zeroH.v w:=⟨.no,rfl,trivial,Ex.eqv_refl _⟩
theorem st_exW {ops:Array Oper}{rest:List Oper}{o:Oper}{a:Act}{w:World}{Q:Exit→Act→World→Prop}(e:EH)(g:Nat){old:Array Value}(hg:Blk w g 41 old)(hgd:o.guard=none)(x y:Operand)(ho:o.op=.store 41 x y)(hx:a.eval x=.pointer (some ⟨g,0,none⟩))(hy:a.eval y=e.v)(hold:old.size=7)
  (hw:∀w',Hid (Blk w' g 41 e.va)→Hid (Wr1 g w w')→wpList Tryz.prog ops Q rest (a.put o.dst undef) w'):wpList Tryz.prog ops Q (o::rest) a w:=
 st_ex e g old hg hold hgd x y ho hx hy (hw _ (hg.rowS _) (wr1_row w g _))
theorem ppExpr_top (s:ByteArray)(w:World)(hE:Env9 w):Calls Tryz.prog 13 #[.string s] w (PTop w (rsX s.data.toList) Ex.no (VX w.heap.size)):=by
 have hmf:∀(fn:Fn) (first cap:Array Value) (w:World),(Instr.makeFunc fn first cap).run Tryz.prog w=.ok (.func fn first cap) w:=fun _ _ _ _=>rfl;have BL:Below w.heap.size w (((w.alloc zX).alloc (.cells #[.int .i64 0] 24)).alloc (.cells #[.int .i64 0] 3)):=bel_alloc (bel_alloc (bel_one w _) _) _;have k0:Blk (((w.alloc zX).alloc (.cells #[.int .i64 0] 24)).alloc (.cells #[.int .i64 0] 3)) w.heap.size 41 zeroH.va:=((Blk.new w _ _).alloc _).alloc _
 have k1:Blk (((w.alloc zX).alloc (.cells #[.int .i64 0] 24)).alloc (.cells #[.int .i64 0] 3)) (w.heap.size+1) 24 #[.int .i64 0]:=by
  have:=(Blk.new (w.alloc zX) 24 #[.int .i64 0]).alloc (.cells #[.int .i64 0] 3);rw[World.size_alloc]at this;exact this
 have k2:Blk (((w.alloc zX).alloc (.cells #[.int .i64 0] 24)).alloc (.cells #[.int .i64 0] 3)) (w.heap.size+1+1) 3 #[.int .i64 0]:=by
  have:=Blk.new ((w.alloc zX).alloc (.cells #[.int .i64 0] 24)) 3 #[.int .i64 0];rw[World.size_alloc,World.size_alloc]at this;exact this
 have HBL:=Hj BL;have HN:=Hj (ppnewReader_any s _ (hE.below BL));have B0:=Hj k0;have B1:=Hj k1;have B2:=Hj k2;have HNE:Hid (w.heap.size≠w.heap.size+1∧w.heap.size≠w.heap.size+1+1∧w.heap.size+1≠w.heap.size+1+1):=(by show _∧_∧_;omega);have HLE:Hid (w.heap.size≤w.heap.size+1∧w.heap.size≤w.heap.size+1+1):=(by show _∧_;omega);have HRS:Hid (rsX s.data.toList=if(lexV s.data.toList).2.1=0 then oneX 24 ⟨(lexV s.data.toList).1,0,0⟩else .no (lexV s.data.toList).2.1 ((lexV s.data.toList).2.2:Nat)):=rfl;clear BL k0 k1 k2 hE;generalize rsX s.data.toList=Z at *;generalize lexV s.data.toList=L at *
 go_enter_defers Tryz.func13,Tryz.ntmps13
 go_upto_region 2 with fail;change (Code.region 2 _ _).wp _ _ _ (((w.alloc zX).alloc (.cells #[.int .i64 0] 24)).alloc (.cells #[.int .i64 0] 3));generalize ((w.alloc zX).alloc (.cells #[.int .i64 0] 24)).alloc (.cells #[.int .i64 0] 3)=w0 at *;generalize w.heap.size+1+1=b2 at *;generalize w.heap.size+1=b1 at *;go_wp2_with fail;refine HN.out.mono ?_;intro e w1 hpn;unfold PN at hpn;clear HN
 by_cases c:L.2.1=0
 ·rw[if_pos c]at hpn
  obtain⟨R,rfl,hR,rd,hb⟩:=hpn;have B0_1:=Hj (B0.out.below hb B0.out.lt);have B1_1:=Hj (B1.out.below hb B1.out.lt);have B2_1:=Hj (B2.out.below hb B2.out.lt);have HB1:=Hj (bel_trans HBL.out hb);have HR0:Hid (w.heap.size≠R∧b1≠R∧b2≠R∧w.heap.size≤R):=(by show _∧_∧_∧_;have:=B0.out.lt;have:=B1.out.lt;have:=B2.out.lt;omega);have HZ:Hid (Z=oneX 24 ⟨L.1,0,0⟩):=by show Z=_;rw[HRS.out,if_pos c]
  have HRD:=Hj rd;clear hb c HRS HBL B0 B1 B2 rd hR;go_wp2_with fail;refine(ppsingle_any R _ w1 HRD.out).mono ?_;intro e w2 hpo
  cases hres:oneX 24 ⟨L.1,0,0⟩ with
  | no c q=>
   rw[hres]at hpo;obtain⟨rfl,f⟩:=hpo;have E:Hid (Z=.no c q):=by show Z=_;rw[HZ.out,hres]
   have B0_2:=Hj (f.blk B0_1.out B0_1.out.lt HR0.out.1);have B1_2:=Hj (f.blk B1_1.out B1_1.out.lt HR0.out.2.1);have B2_2:=Hj (f.blk B2_1.out B2_1.out.lt HR0.out.2.2.1);have HB2:=Hj (fx_bel_of HB1.out f (fun k hk (x:k=R)=>by have:=HR0.out.2.2.2;omega));clear f hres HZ HRD B0_1 B1_1 B2_1 HB1;go_wp2_with fail;refine leaves_cons (f:=39) (args:=#[.pointer (some ⟨b1,0,none⟩),.pointer (some ⟨b2,0,none⟩)]) (by simp) (by simp[go_sem]) ?_;refine(px_panicking b1 b2 0 0 c q [] w2 B1_2.out B2_2.out HNE.out.2.2).mono ?_;rintro e u' w3 ⟨rfl,rfl,k1,k2,f3⟩;refine⟨_,results_row3 rfl _ w3 w.heap.size 41 zeroH.va _ b1 b2 _ _ rfl rfl rfl (f3.blk B0_2.out B0_2.out.lt (fun x=>x.elim HNE.out.1 HNE.out.2.1)) Tryz.underlying41 rfl (by kernel_rfl) (ld_err k1) (ld_int k2),?_⟩;rw[E.out];exact⟨_,rfl,noEx_v _ _,fx_bel_of HB2.out f3 (fun k hk x=>by have:=HLE.out;rcases x with x|x<;>omega)⟩
  | ok p s2=>
   rw[hres]at hpo;obtain⟨v,rfl,⟨p',rfl,xp,ep⟩,h2,f⟩:=hpo;have E:Hid (Z=.ok p s2):=by show Z=_;rw[HZ.out,hres]
   have B0_2:=Hj (f.blk B0_1.out B0_1.out.lt HR0.out.1);have B1_2:=Hj (f.blk B1_1.out B1_1.out.lt HR0.out.2.1);have B2_2:=Hj (f.blk B2_1.out B2_1.out.lt HR0.out.2.2.1);have HB2:=Hj (fx_bel_of HB1.out f (fun k hk (x:k=R)=>by have:=HR0.out.2.2.2;omega));have XP:=Hj xp;have EP:=Hj ep;have L1:Hid (b1<w1.heap.size∧b2<w1.heap.size∧w.heap.size<w1.heap.size):=⟨B1_1.out.lt,B2_1.out.lt,B0_1.out.lt⟩;clear f h2 xp ep hres HZ HRD B0_1 B1_1 B2_1 HB1;have ne12:=HNE.out.2.2;have ne21:=Ne.symm HNE.out.2.2;unfold EH.v
   go_wp2_with (refine st_exW p'.h w.heap.size B0_2.out rfl _ _ rfl rfl rfl rfl ?_;intro w3 B0_3 WR;have B1_3:=Hj (WR.out.blk B1_2.out (Ne.symm HNE.out.1));have B2_3:=Hj (WR.out.blk B2_2.out (Ne.symm HNE.out.2.1));have m1:=B1_3.out.cell 0;have m2:=B2_3.out.cell 0;have z1:=B1_3.out.frozen 0;have z2:=B2_3.out.frozen 0)
   have F4:=fx_set (fx_set (WR.out.1.mono (Y:=Th3 w.heap.size b1 b2) (Nat.le_refl _) (fun k _ x=>.inl x)) (p:=⟨b1,0,none⟩) (.inl (.inr (.inl rfl))) (.int .i64 0)) (p:=⟨b2,0,none⟩) (.inl (.inr (.inr rfl))) (.int .i64 0);have e1:Blk ((w3.setCell ⟨b1,0,none⟩ (.int .i64 0)).setCell ⟨b2,0,none⟩ (.int .i64 0)) b1 24 #[.int .i64 0]:=(B1_3.out.set_ 0 (.int .i64 0)).far (p:=⟨b2,0,none⟩) ne12 _;have e2:Blk ((w3.setCell ⟨b1,0,none⟩ (.int .i64 0)).setCell ⟨b2,0,none⟩ (.int .i64 0)) b2 3 #[.int .i64 0]:=(B2_3.out.far (p:=⟨b1,0,none⟩) ne21 (.int .i64 0)).set_ 0 (.int .i64 0);have e0:Blk ((w3.setCell ⟨b1,0,none⟩ (.int .i64 0)).setCell ⟨b2,0,none⟩ (.int .i64 0)) w.heap.size 41 _:=(B0_3.out.far (p:=⟨b1,0,none⟩) HNE.out.1 (.int .i64 0)).far (p:=⟨b2,0,none⟩) HNE.out.2.1 (.int .i64 0);clear m1 m2 z1 z2 WR B0_2 B1_2 B2_2 B0_3 B1_3 B2_3;generalize (w3.setCell ⟨b1,0,none⟩ (.int .i64 0)).setCell ⟨b2,0,none⟩ (.int .i64 0)=w4 at *;refine leaves_cons (f:=39) (args:=#[.pointer (some ⟨b1,0,none⟩),.pointer (some ⟨b2,0,none⟩)]) (by simp) (by simp[go_sem]) ?_;refine(px_idle b1 b2 w4).mono ?_;rintro e u' w5 ⟨rfl,rfl,h5⟩
   refine⟨_,results_row3 rfl _ w5 w.heap.size 41 p'.h.va _ b1 b2 _ _ rfl rfl rfl (e0.below h5 e0.lt) Tryz.underlying41 rfl (by kernel_rfl) (ld_err (e1.below h5 e1.lt)) (ld_int (e2.below h5 e2.lt)),?_⟩;rw[E.out];have hX:∀k,Th3 w.heap.size b1 b2 k→¬Fro w1.heap.size k:=fun k x (y:w1.heap.size≤k)=>by have:=L1.out;rcases x with x|x|x<;>omega
   exact⟨_,rfl,⟨p',rfl,((XP.out.fx F4 hX).bel h5).imp (fun k _ (x:w1.heap.size≤k)=>Nat.le_trans (Nat.le_of_lt L1.out.2.2) x),EP.out⟩,bel_trans (fx_bel_of HB2.out F4 (fun k hk x=>by have:=HLE.out;rcases x with x|x|x<;>omega)) h5⟩
 ·rw[if_neg c]at hpn
  obtain⟨rfl,hb⟩:=hpn;have B0_2:=Hj (B0.out.below hb B0.out.lt);have B1_2:=Hj (B1.out.below hb B1.out.lt);have B2_2:=Hj (B2.out.below hb B2.out.lt);have HB2:=Hj (bel_trans HBL.out hb);have E:Hid (Z=.no L.2.1 (L.2.2:Nat)):=by show Z=_;rw[HRS.out,if_neg c]
  clear hb c HRS HBL B0 B1 B2;go_wp2_with fail;refine leaves_cons (f:=39) (args:=#[.pointer (some ⟨b1,0,none⟩),.pointer (some ⟨b2,0,none⟩)]) (by simp) (by simp[go_sem]) ?_;refine(px_panicking b1 b2 0 0 _ _ [] w1 B1_2.out B2_2.out HNE.out.2.2).mono ?_;rintro e u' w3 ⟨rfl,rfl,k1,k2,f3⟩;refine⟨_,results_row3 rfl _ w3 w.heap.size 41 zeroH.va _ b1 b2 _ _ rfl rfl rfl (f3.blk B0_2.out B0_2.out.lt (fun x=>x.elim HNE.out.1 HNE.out.2.1)) Tryz.underlying41 rfl (by kernel_rfl) (ld_err k1) (ld_int k2),?_⟩;rw[E.out];exact⟨_,rfl,noEx_v _ _,fx_bel_of HB2.out f3 (fun k hk x=>by have:=HLE.out;rcases x with x|x<;>omega)⟩
theorem St.eqv_hd {s:St}:∀ {r:St},s.eqv r→hsS s.h r.h=true∧r.h.ps=s.h.ps∧s.e.eqv r.e∧(s.h.xs.n=r.h.xs.n∧∀i,i<s.h.xs.n→(s.x i).eqv (r.x i))∧(∀i,i<s.h.ts.n→(s.t i).eqv (r.t i))∧∀i,i<s.h.es.n→(s.l i).eqv (r.l i):=by
 intro r h
 cases s with
 | no=>exact⟨h.1,h.2.1,h.2.2.1,⟨h.2.2.2.symm,fun i hi=>absurd hi (Nat.not_lt_zero i)⟩,fun i hi=>absurd hi (Nat.not_lt_zero i),fun i hi=>absurd hi (Nat.not_lt_zero i)⟩
 | mk=>exact h
theorem St.eqv_same {s:St}:∀ {r:St},s.eqv r→s.same r=true:=by
 induction s using St.ind with
 | H s it il=>
  intro r h;obtain⟨h1,h2,h3,⟨h4,h5⟩,h6,h7⟩:=St.eqv_hd h;simp only[hsS,Bool.and_eq_true,decide_eq_true_eq,beq_iff_eq]at h1;obtain⟨⟨⟨⟨⟨g1,g2⟩,g3⟩,g4⟩,g5⟩,g6⟩:=h1;exact St.same_iff.2 ⟨⟨g1,g2,g3,g4,g5,g6⟩,Ex.eqv_same h3,⟨h4,fun i hi=>Ex.eqv_same (h5 i hi)⟩,fun i hi=>it i hi (h6 i hi),fun i hi=>il i hi (h7 i hi)⟩
theorem De.eqv_same {a b:De}(h:a.eqv b):a.same b=true:=De.same_iff.2 ⟨h.1.2.1,h.1.2.2.1,h.1.2.2.2.1,h.1.2.2.2.2.1,h.1.2.2.2.2.2,Ex.eqv_same h.2.1,Ex.eqv_same h.2.2⟩
theorem Pr.eqv_same {p q:Pr}(h:p.eqv q):p.same q=true:=Pr.same_iff.2 ⟨h.1,sameD_iff.2 ⟨h.2.1.1,fun i hi=>De.eqv_same (h.2.1.2 i hi)⟩,sameS_iff.2 ⟨h.2.2.1.1,fun i hi=>St.eqv_same (h.2.2.1.2 i hi)⟩,sameS_iff.2 ⟨h.2.2.2.1,fun i hi=>St.eqv_same (h.2.2.2.2 i hi)⟩⟩
theorem al_succ {f:Nat→Bool}{n:Nat}(h:al f n=true)(g:f n=true):al f (n+1)=true:=by simp only[al,h,g,Bool.and_self]
def SmX (B:Nat)(f:Nat)(e e':Ex):Prop:=∀(w:World),e.In B w→e'.In B w→B≤w.heap.size→Calls Tryz.prog f #[e.h.v,e'.h.v] w fun r w'=>r=.returned (.bool (e.same e'))∧Below w.heap.size w w'
def SmXs (B:Nat)(f:Nat)(xs:Array Value)(s:Sl)(k:Nat→Ex)(s':Sl)(k':Nat→Ex):Prop:=
 ∀(w:World),XsIn B w s k→XsIn B w s' k'→B≤w.heap.size→Calls Tryz.prog f (#[.slice s.ao s.n s.c,.slice s'.ao s'.n s'.c]++xs) w fun r w'=>r=.returned (.bool (sameX s.n k s'.n k'))∧Below w.heap.size w w'
theorem Ex.same_eq (e e':Ex):e.same e'=(decide (e.h.op=e'.h.op) && (e.h.bo == e'.h.bo) && decide (e.h.it=e'.h.it) && decide (e.h.fl=e'.h.fl) && (e.h.nm == e'.h.nm) && sameX e.h.s.n e.k e'.h.s.n e'.k):=by
 rw[Ex.same_hd];simp only[hdS,sameX,Bool.and_assoc]
theorem two_boxes (w:World)(o o':Obj):(bx (bx w o) o').heap[w.heap.size]? = some o∧(bx (bx w o) o').heap[w.heap.size+1]? = some o'∧Below w.heap.size w (bx (bx w o) o')∧(bx (bx w o) o').heap.size=w.heap.size+2:=
 ⟨(bx_old _ _ (by rw[bx_size];omega)).trans (bx_new _ _),by have:=bx_new (bx w o) o';rwa [bx_size]at this,bx_bel (bx_bel (Below.refl _ _) (Nat.le_refl _) _) (Nat.le_refl _) _,by rw[bx_size,bx_size]⟩
theorem kept_obj {w w':World}{k:Nat}{o:Obj}(hb:Below w.heap.size w w')(h:w.heap[k]? = some o):w'.heap[k]? = some o:=(hb.block k (Array.getElem?_eq_some_iff.1 h).1).trans h
theorem St.same_eq (s r:St):s.same r=(decide (s.h.kd=r.h.kd) && (s.h.nm == r.h.nm) && decide (s.h.lo=r.h.lo) && decide (s.h.hi=r.h.hi) && s.e.same r.e && sameX s.h.xs.n s.x r.h.xs.n r.x && sameS s.h.ts.n s.t r.h.ts.n r.t && sameS s.h.es.n s.l r.h.es.n r.l):=by
 rw[St.same_hd];simp only[hsS,sameS]
 cases decide (s.h.kd=r.h.kd)<;>cases (s.h.nm == r.h.nm)<;>cases decide (s.h.lo=r.h.lo)<;>cases decide (s.h.hi=r.h.hi)<;>cases s.e.same r.e<;>cases sameX s.h.xs.n s.x r.h.xs.n r.x<;>cases decide (s.h.ts.n=r.h.ts.n)<;>cases decide (s.h.es.n=r.h.es.n)<;>simp
theorem gSameX_of (B:Nat)(e e':Ex)(hl:SmXs B 42 #[] e.h.s e.k e'.h.s e'.k):SmX B 15 e e':=by
  intro w hI hI' hB;have HL:=Hj hl;have HI:=Hj hI;have HI':=Hj hI';have HB:=Hj hB;have g0:(bx (bx w (xO e.h)) (xO e'.h)).heap[w.heap.size]? = some (xO e.h):=(bx_old _ _ (by rw[bx_size];omega)).trans (bx_new _ _);have g1:(bx (bx w (xO e.h)) (xO e'.h)).heap[w.heap.size+1]? = some (xO e'.h):=by have:=bx_new (bx w (xO e.h)) (xO e'.h);rwa [bx_size]at this
  obtain⟨c0, -,c2,c3,c4,c5,c6⟩:=x_cells g0;obtain⟨d0, -,d2,d3,d4,d5,d6⟩:=x_cells g1;have hz:(bx w (xO e.h)).heap.size=w.heap.size+1:=bx_size _ _;rw[Ex.same_eq];clear hl hI hI' hB g0 g1
  show Calls Tryz.prog 15 #[.agg #[.int .u8 e.h.op,.int .i64 e.h.ps,.bool e.h.bo,.int .i32 e.h.it,.int .u64 e.h.fl,.string ⟨e.h.nm.toArray⟩,.slice e.h.s.ao e.h.s.n e.h.s.c],
    .agg #[.int .u8 e'.h.op,.int .i64 e'.h.ps,.bool e'.h.bo,.int .i32 e'.h.it,.int .u64 e'.h.fl,.string ⟨e'.h.nm.toArray⟩,.slice e'.h.s.ao e'.h.s.n e'.h.s.c]] w _
  go_enter Tryz.func15,Tryz.ntmps15;go_upto_region 1 with fail;rw[bx_x,bx_x];go_wp2_with fail
  all_goals first
    | (refine(HL.out _ (HI.out.xs.below (bx_bel (bx_bel (Below.refl _ _) (Nat.le_refl _) _) (Nat.le_refl _) _) HB.out) (HI'.out.xs.below (bx_bel (bx_bel (Below.refl _ _) (Nat.le_refl _) _) (Nat.le_refl _) _) HB.out) (by rw[bx_size,bx_size];have:=HB.out;omega)).mono ?_
       rintro r w' ⟨rfl,hb⟩;have BB:Hid (Below w.heap.size w w'):=(bx_bel (bx_bel (Below.refl _ _) (Nat.le_refl _) (xO e.h)) (Nat.le_refl _) (xO e'.h)).trans (hb.mono (by rw[bx_size,bx_size];omega));clear hb;go_wp2_with fail;go_ret;exact⟨by first|(simp[*];done)|simp_all,BB.out⟩)
    | (go_ret
       exact⟨by first|(simp[*];done)|simp_all,bx_bel (bx_bel (Below.refl _ _) (Nat.le_refl _) _) (Nat.le_refl _) _⟩)
theorem gSameXs_of (B:Nat)(s:Sl)(k:Nat→Ex)(s':Sl)(k':Nat→Ex)(ih:∀i,i<s.n→i<s'.n→SmX B 15 (k i) (k' i)):SmXs B 42 #[] s k s' k':=by
 intro w hX hX' hB;have HI:=Hj hX;have HI':=Hj hX';have IH:=Hj ih;have HB:=Hj hB;have hc:=hX.1;have hmx:s.n≤maxLen:=Nat.le_trans hc.1 hc.2.1;unfold maxLen at hmx;have HM:=Hj hmx;obtain⟨ao,n,c⟩:=s;obtain⟨ao',n',c'⟩:=s';dsimp only at *;clear hX hX' hB hc hmx ih;show Calls Tryz.prog 42 #[.slice ao n c,.slice ao' n' c'] w _
 by_cases hn:n=n'
 ·subst hn
  go_enter Tryz.func42,Tryz.ntmps42;go_wp2_with fail
  go_loopg [5] n (fun gk i wr=>∃j:Nat,i=.int .i64 (j:Int)∧Hid (gk=n-j∧j≤n)∧Hid (al (fun i=>(k i).same (k' i)) j=true)∧Hid (Below w.heap.size w wr))
  case atStart=>exact⟨0,rfl,⟨rfl,Nat.zero_le _⟩,rfl,Below.refl _ _⟩
  case round=>
   obtain⟨j,rfl,HJ,HA,BEL⟩:=hrel
   by_cases hlt:j<n
   ·have z0:(j:Int)<(n:Int):=by omega
    have ovi:IntKind.i64.wrap ((j:Int)+1)=((j+1:Nat):Int):=by have:=HM.out;rw[IntKind.wrap_i64];omega
    obtain⟨a,b,o,rfl,hA,hb,X,I⟩:=XsIn.at (HI.out.below BEL.out HB.out) (i:=j) hlt;obtain⟨a',b',o',rfl,hA',hb',X',I'⟩:=XsIn.at (HI'.out.below BEL.out HB.out) (i:=j) hlt;have c0:=X.c0;have c1:=X.c1;have c2:=X.c2;have c3:=X.c3;have c4:=X.c4;have c5:=X.c5;have c6:=X.c6;have d0:=X'.c0;have d1:=X'.c1;have d2:=X'.c2;have d3:=X'.c3;have d4:=X'.c4;have d5:=X'.c5;have d6:=X'.c6;have C:=Hj (IH.out j hlt hlt wr.drew I.drew I'.drew (Nat.le_trans HB.out BEL.out.size));have HLT:=Hj hlt;clear X X' hb hb' I I' hlt;go_upto_region 6 with fail
    go_still_tail 8,(by kernel_rfl)
    change wpList _ _ _ _ _ wr.drew;generalize hw2:wr.drew=w2 at *;have B2:Hid (Below wr.heap.size wr w2):=by rw[←hw2];exact Below.drew (Below.refl _ _)
    clear hw2 c0 c1 c2 c3 c4 c5 c6 d0 d1 d2 d3 d4 d5 d6;go_wp2_with fail;refine C.out.mono ?_;rintro r w3 ⟨rfl,hb3⟩;have B3:=Hj (BEL.out.trans ((B2.out.trans (hb3.mono B2.out.size)).mono BEL.out.size));clear hb3 C B2
    cases hs:(k j).same (k' j) with
    | true=>
     have HS:=Hj hs;clear hs;go_wp2_with fail
     go_roundg (n-(j+1))
     case measure=>have:=HJ.out;have:=HLT.out;omega
     case rel=>exact⟨j+1,by go_num,⟨rfl,HLT.out⟩,al_succ HA.out HS.out,B3.out⟩
    | false=>
     have HS:=Hj hs;clear hs;go_wp2_with fail;go_ret;refine⟨?_,B3.out⟩;have:al (fun i=>(k i).same (k' i)) n=false:=al_false.2 ⟨j,HLT.out,HS.out⟩
     simp[sameX,this]
   ·obtain rfl:j=n:=by have:=HJ.out;omega
    clear hlt;go_wp2_with fail;go_ret;exact⟨by simp[sameX,HA.out],BEL.out⟩
 ·have hn':¬(n:Int)=(n':Int):=by omega
  go_enter Tryz.func42,Tryz.ntmps42;go_wp2_with fail;go_ret;exact⟨by simp[sameX,hn],Below.refl _ _⟩
theorem gSameX_any (B:Nat)(e:Ex):∀e',SmX B 15 e e':=by
 induction e using Ex.ind with
 | H e ih=>exact fun e'=>gSameX_of B _ e' (gSameXs_of B e.h.s e.k e'.h.s e'.k fun i hi _=>ih i hi _)
theorem gSameXs_any (B:Nat)(s:Sl)(k:Nat→Ex)(s':Sl)(k':Nat→Ex):SmXs B 42 #[] s k s' k':=gSameXs_of B s k s' k' fun i _ _=>gSameX_any B (k i) (k' i)
def GSs (B:Nat)(s:Sl)(k:Nat→St)(s':Sl)(k':Nat→St):Prop:=
 ∀(w:World),SsIn B w s k→SsIn B w s' k'→B≤w.heap.size→Calls Tryz.prog 30 #[.slice s.ao s.n s.c,.slice s'.ao s'.n s'.c] w fun r w'=>r=.returned (.bool (sameS s.n k s'.n k'))∧Below w.heap.size w w'
theorem sameS_no {n j:Nat}{k k':Nat→St}(hj:j<n)(h:(k j).same (k' j)=false):sameS n k n k'=false:=by
 have:al (fun i=>(k i).same (k' i)) n=false:=al_false.2 ⟨j,hj,h⟩
 simp[sameS,this]
theorem gSameS_of (B:Nat)(s:Sl)(k:Nat→St)(s':Sl)(k':Nat→St)(ih:∀i,i<s.n→GSs B (k i).h.ts (k i).t (k' i).h.ts (k' i).t∧GSs B (k i).h.es (k i).l (k' i).h.es (k' i).l):GSs B s k s' k':=by
 intro w hX hX' hB;have HI:=Hj hX;have HI':=Hj hX';have IH:=Hj ih;have HB:=Hj hB;have hc:=hX.1;have hmx:s.n≤maxLen:=Nat.le_trans hc.1 hc.2.1;unfold maxLen at hmx;have HM:=Hj hmx;obtain⟨ao,n,c⟩:=s;obtain⟨ao',n',c'⟩:=s';dsimp only at *;clear hX hX' hB hc hmx ih
 by_cases hn:n=n'
 ·subst hn
  go_enter Tryz.func30,Tryz.ntmps30;go_wp2_with fail
  go_loopg [5] n (fun gk i wr=>∃j:Nat,i=.int .i64 (j:Int)∧Hid (gk=n-j∧j≤n)∧Hid (al (fun i=>(k i).same (k' i)) j=true)∧Hid (Below w.heap.size w wr))
  case atStart=>exact⟨0,rfl,⟨rfl,Nat.zero_le _⟩,rfl,Below.refl _ _⟩
  case round=>
   obtain⟨j,rfl,HJ,HA,BEL⟩:=hrel
   by_cases hlt:j<n
   ·have z0:(j:Int)<(n:Int):=by omega
    have ovi:IntKind.i64.wrap ((j:Int)+1)=((j+1:Nat):Int):=by have:=HM.out;rw[IntKind.wrap_i64];omega
    have HLT:=Hj hlt;obtain⟨a,b,o,rfl,hA,hb,X,I⟩:=SsIn.at (HI.out.below BEL.out HB.out) (i:=j) hlt;obtain⟨a',b',o',rfl,hA',hb',X',I'⟩:=SsIn.at (HI'.out.below BEL.out HB.out) (i:=j) hlt;have c0:=X.c0;have c1:=X.c1;have c2:=X.c2;have c3:=X.c3;have c4:=X.c4;have c5:=X.c5;have c6:=X.c6;have c7:=X.c7;have c8:=X.c8;have c9:=X.c9;have c10:=X.c10;have c11:=X.c11;have c12:=X.c12;have c13:=X.c13;have c14:=X.c14;have hbw:b'<wr.heap.size:=Nat.lt_of_lt_of_le hb' (Nat.le_trans HB.out BEL.out.size);have XX:=Hj (fun(W:World) (hW:Below wr.heap.size wr W)=>X'.below hbw hW (Nat.le_refl _));have II:=Hj I;have II':=Hj I';have SIH:=Hj (IH.out j hlt);have EQ:=Hj (St.same_eq (k j) (k' j));have BB:Hid (B≤wr.heap.size):=Nat.le_trans HB.out BEL.out.size;clear X X' hb hb' hbw I I' hlt
    as_aux_lemma=>
     go_upto_region 7 with fail;rw[bx_s];have BW:=bx_bel (Below.refl wr.heap.size wr) (Nat.le_refl _) (sO (k j).h (k j).e.h);have XC:=XX.out _ BW;have d0:=XC.c0;have d1:=XC.c1;have d2:=XC.c2;have d3:=XC.c3;have d4:=XC.c4;have d5:=XC.c5;have d6:=XC.c6;have d7:=XC.c7;have d8:=XC.c8;have d9:=XC.c9;have d10:=XC.c10;have d11:=XC.c11;have d12:=XC.c12;have d13:=XC.c13;have d14:=XC.c14;have hz:(bx wr (sO (k j).h (k j).e.h)).heap.size=wr.heap.size+1:=bx_size _ _;obtain⟨g0,g1,b2,z2⟩:=two_boxes wr (sO (k j).h (k j).e.h) (sO (k' j).h (k' j).e.h);have G:=Hj (And.intro g0 g1);have B2:=Hj b2;have Z2:=Hj z2;clear BW XC g0 g1 b2 z2 XX c0 c1 c2 c3 c4 c5 c6 c7 c8 c9 c10 c11 c12 c13 c14
     as_aux_lemma=>
      go_upto_region 8 with fail;rw[bx_s];have Y:=s_cells G.out.1;have Y':=s_cells G.out.2;have y0:=Y.c0;have y2:=Y.c2;have y11:=Y.c11;have y12:=Y.c12;have v0:=Y'.c0;have v2:=Y'.c2;have v11:=Y'.c11;have v12:=Y'.c12;clear Y Y' d0 d1 d2 d3 d4 d5 d6 d7 d8 d9 d10 d11 d12 d13 d14 hz;generalize bx (bx wr (sO (k j).h (k j).e.h)) (sO (k' j).h (k' j).e.h)=W at *
      as_aux_lemma=>
       have YY:=s_cells G.out.1;have YY':=s_cells G.out.2;have y3:=YY.c3;have v3:=YY'.c3;have C1:=Hj (gSameXs_any B (k j).h.xs (k j).x (k' j).h.xs (k' j).x W (II.out.xs.below B2.out BB.out) (II'.out.xs.below B2.out BB.out) (by have:=Z2.out;have:=BB.out;omega));clear YY YY'
       by_cases q1:(k j).h.kd=(k' j).h.kd
       ·by_cases q2:(k j).h.nm=(k' j).h.nm
        ·by_cases q3:(k j).h.lo=(k' j).h.lo
         ·by_cases q4:(k j).h.hi=(k' j).h.hi
          ·have EQ2:Hid ((k j).same (k' j)=(sameX (k j).h.xs.n (k j).x (k' j).h.xs.n (k' j).x && ((k j).e.same (k' j).e && (sameS (k j).h.ts.n (k j).t (k' j).h.ts.n (k' j).t && sameS (k j).h.es.n (k j).l (k' j).h.es.n (k' j).l)))):=by
            show _=_;rw[EQ.out];simp only[q1,q2,q3,q4,decide_true,BEq.rfl,Bool.true_and]
            cases (k j).e.same (k' j).e<;>cases sameX (k j).h.xs.n (k j).x (k' j).h.xs.n (k' j).x<;>simp
           have b4:((k j).h.hi == (k' j).h.hi)=true:=by simp[q4]
           clear EQ;go_wp2_with fail;clear q1 q2 q3 q4 b4 y0 y2 y3 y11 y12 v0 v2 v3 v11 v12
           as_aux_lemma=>
            refine C1.out.mono ?_;rintro r w1 ⟨rfl,hb1⟩;have B1:=Hj (B2.out.trans (hb1.mono B2.out.size));have G1:=Hj (And.intro (kept_obj hb1 G.out.1) (kept_obj hb1 G.out.2));have Y:=s_cells G1.out.1;have Y':=s_cells G1.out.2;have y4:=Y.c4;have y5:=Y.c5;have y6:=Y.c6;have y7:=Y.c7;have y8:=Y.c8;have y9:=Y.c9;have y10:=Y.c10;have v4:=Y'.c4;have v5:=Y'.c5;have v6:=Y'.c6;have v7:=Y'.c7;have v8:=Y'.c8;have v9:=Y'.c9;have v10:=Y'.c10;clear hb1 Y Y' G C1
            cases hs:sameX (k j).h.xs.n (k j).x (k' j).h.xs.n (k' j).x with
            | false=>
             rw[hs]at EQ2;have HQ:=Hj (EQ2.out.trans (Bool.false_and _));clear hs EQ2;go_wp2_with fail;go_ret;exact⟨by rw[sameS_no HLT.out HQ.out];simp,BEL.out.trans (B1.out.mono BEL.out.size)⟩
            | true=>
             rw[hs]at EQ2;have C2:=Hj (gSameX_any B (k j).e (k' j).e w1 (II.out.ex.below B1.out BB.out) (II'.out.ex.below B1.out BB.out) (Nat.le_trans BB.out B1.out.size));clear hs;go_wp2_with fail;refine C2.out.mono ?_;rintro r w2 ⟨rfl,hb2⟩;have BB2:=Hj (B1.out.trans (hb2.mono B1.out.size));have G2:=Hj (And.intro (kept_obj hb2 G1.out.1) (kept_obj hb2 G1.out.2));have y13:=(s_cells G2.out.1).c13;have v13:=(s_cells G2.out.2).c13;clear hb2 G1 B1 C2 y4 y5 y6 y7 y8 y9 y10 v4 v5 v6 v7 v8 v9 v10
             cases hs:(k j).e.same (k' j).e with
             | false=>
              rw[hs]at EQ2;have HQ:=Hj (show(k j).same (k' j)=false by rw[EQ2.out];simp);clear hs EQ2;go_wp2_with fail;go_ret;exact⟨by rw[sameS_no HLT.out HQ.out];simp,BEL.out.trans (BB2.out.mono BEL.out.size)⟩
             | true=>
              rw[hs]at EQ2;have C3:=Hj (SIH.out.1 w2 (II.out.ts.below BB2.out BB.out) (II'.out.ts.below BB2.out BB.out) (Nat.le_trans BB.out BB2.out.size));clear hs;go_wp2_with fail;refine C3.out.mono ?_;rintro r w3 ⟨rfl,hb3⟩;have BB3:=Hj (BB2.out.trans (hb3.mono BB2.out.size));have y14:=(s_cells (kept_obj hb3 G2.out.1)).c14;have v14:=(s_cells (kept_obj hb3 G2.out.2)).c14;clear hb3 G2 BB2 C3 y13 v13
              cases hs:sameS (k j).h.ts.n (k j).t (k' j).h.ts.n (k' j).t with
              | false=>
               rw[hs]at EQ2;have HQ:=Hj (show(k j).same (k' j)=false by rw[EQ2.out];simp);clear hs EQ2;go_wp2_with fail;go_ret;exact⟨by rw[sameS_no HLT.out HQ.out];simp,BEL.out.trans (BB3.out.mono BEL.out.size)⟩
              | true=>
               rw[hs]at EQ2;have C4:=Hj (SIH.out.2 w3 (II.out.es.below BB3.out BB.out) (II'.out.es.below BB3.out BB.out) (Nat.le_trans BB.out BB3.out.size));clear hs;go_wp2_with fail;refine C4.out.mono ?_;rintro r w4 ⟨rfl,hb4⟩;have BB4:=Hj (BEL.out.trans ((BB3.out.trans (hb4.mono BB3.out.size)).mono BEL.out.size));clear hb4 BB3 C4 y14 v14
               cases hs:sameS (k j).h.es.n (k j).l (k' j).h.es.n (k' j).l with
               | false=>
                rw[hs]at EQ2;have HQ:=Hj (show(k j).same (k' j)=false by rw[EQ2.out];simp);clear hs EQ2;go_wp2_with fail;go_ret;exact⟨by rw[sameS_no HLT.out HQ.out];simp,BB4.out⟩
               | true=>
                rw[hs]at EQ2;have HQ:=Hj (EQ2.out.trans (show(true && (true && (true && true)))=true from rfl));clear hs EQ2;go_wp2_with fail
                go_roundg (n-(j+1))
                case measure=>have:=HJ.out;have:=HLT.out;omega
                case rel=>exact⟨j+1,by go_num,⟨rfl,HLT.out⟩,al_succ HA.out HQ.out,BB4.out⟩
          ·have b0:((k j).h.hi == (k' j).h.hi)=false:=by simp[q4]
           have HQ:Hid ((k j).same (k' j)=false):=by show _=_;rw[EQ.out];simp[q4]
           clear C1;go_wp2_with fail;go_ret;exact⟨by rw[sameS_no HLT.out HQ.out];simp,BEL.out.trans (B2.out.mono BEL.out.size)⟩
         ·have b0:((k j).h.lo == (k' j).h.lo)=false:=by simp[q3]
          have HQ:Hid ((k j).same (k' j)=false):=by show _=_;rw[EQ.out];simp[q3]
          clear C1;go_wp2_with fail;go_ret;exact⟨by rw[sameS_no HLT.out HQ.out];simp,BEL.out.trans (B2.out.mono BEL.out.size)⟩
        ·have b0:((k j).h.nm == (k' j).h.nm)=false:=by simp[q2]
         have HQ:Hid ((k j).same (k' j)=false):=by show _=_;rw[EQ.out];simp[q2]
         clear C1;go_wp2_with fail;go_ret;exact⟨by rw[sameS_no HLT.out HQ.out];simp,BEL.out.trans (B2.out.mono BEL.out.size)⟩
       ·have b0:((k j).h.kd == (k' j).h.kd)=false:=by simp[q1]
        have HQ:Hid ((k j).same (k' j)=false):=by show _=_;rw[EQ.out];simp[q1]
        clear C1;go_wp2_with fail;go_ret;exact⟨by rw[sameS_no HLT.out HQ.out];simp,BEL.out.trans (B2.out.mono BEL.out.size)⟩
   ·obtain rfl:j=n:=by have:=HJ.out;omega
    have z0:¬(j:Int)<(j:Int):=by omega
    clear hlt;go_wp2_with fail;go_ret;exact⟨by simp[sameS,HA.out],BEL.out⟩
 ·have hn':¬(n:Int)=(n':Int):=by omega
  go_enter Tryz.func30,Tryz.ntmps30;go_wp2_with fail;go_ret;exact⟨by simp[sameS,hn],Below.refl _ _⟩
theorem gSameS_e (B:Nat)(s:St):∀s':St,GSs B s.h.ts s.t s'.h.ts s'.t∧GSs B s.h.es s.l s'.h.es s'.l:=by
 induction s using St.ind with
 | H s it il=>exact fun s'=>⟨gSameS_of B _ _ _ _ fun i hi=>it i hi _,gSameS_of B _ _ _ _ fun i hi=>il i hi _⟩
theorem gSameS_any (B:Nat)(s:Sl)(k:Nat→St)(s':Sl)(k':Nat→St):GSs B s k s' k':=gSameS_of B s k s' k' fun i _=>gSameS_e B (k i) (k' i)
theorem sameD_no {n j:Nat}{k k':Nat→De}(hj:j<n)(h:(k j).same (k' j)=false):sameD n k n k'=false:=by
 have:al (fun i=>(k i).same (k' i)) n=false:=al_false.2 ⟨j,hj,h⟩
 simp[sameD,this]
theorem gSame_any (B:Nat)(p q:Pr)(w:World)(hp:p.In B w)(hq:q.In B w)(hB:B≤w.heap.size):Calls Tryz.prog 10 #[p.v,q.v] w fun r w'=>r=.returned (.bool (p.same q))∧Below w.heap.size w w':=by
 obtain⟨tk,⟨ao,n,c⟩,k,is,ki,ss,ks⟩:=p;obtain⟨tk',⟨ao',n',c'⟩,k',is',ki',ss',ks'⟩:=q;have HI:Hid (DsIn B w ⟨ao,n,c⟩ k):=hp.2.1;have HJ':Hid (DsIn B w ⟨ao',n',c'⟩ k'):=hq.2.1;have I1:Hid (SsIn B w is ki):=hp.2.2.1;have I2:Hid (SsIn B w ss ks):=hp.2.2.2;have J1:Hid (SsIn B w is' ki'):=hq.2.2.1;have J2:Hid (SsIn B w ss' ks'):=hq.2.2.2;have HB:=Hj hB;have hmx:n≤maxLen:=Nat.le_trans hp.2.1.1.1 hp.2.1.1.2.1;unfold maxLen at hmx;have HM:=Hj hmx;unfold Pr.same;dsimp only;clear hp hq hB hmx
 by_cases hn:n=n'
 ·subst hn
  by_cases ht:tk=tk'
  ·subst ht
   obtain⟨g0,g1,b2,z2⟩:=two_boxes w (pO ⟨tk,⟨ao,n,c⟩,k,is,ki,ss,ks⟩) (pO ⟨tk,⟨ao',n,c'⟩,k',is',ki',ss',ks'⟩);obtain⟨c0,c1, -, -⟩:=p_cells g0;obtain⟨d0,d1, -, -⟩:=p_cells g1;dsimp only at c0 c1 d0 d1;have hz:(bx w (pO ⟨tk,⟨ao,n,c⟩,k,is,ki,ss,ks⟩)).heap.size=w.heap.size+1:=bx_size _ _;have G:=Hj (And.intro g0 g1);have B2:=Hj b2;have Z2:=Hj z2;clear g0 g1 b2 z2;show Calls Tryz.prog 10 #[.agg #[.int .i64 tk,.slice ao n c,.slice is.ao is.n is.c,.slice ss.ao ss.n ss.c],.agg #[.int .i64 tk,.slice ao' n c',.slice is'.ao is'.n is'.c,.slice ss'.ao ss'.n ss'.c]] w _;go_enter Tryz.func10,Tryz.ntmps10;go_upto_region 1 with fail;rw[bx_p w ⟨tk,⟨ao,n,c⟩,k,is,ki,ss,ks⟩,bx_p _ ⟨tk,⟨ao',n,c'⟩,k',is',ki',ss',ks'⟩];generalize bx (bx w (pO ⟨tk,⟨ao,n,c⟩,k,is,ki,ss,ks⟩)) (pO ⟨tk,⟨ao',n,c'⟩,k',is',ki',ss',ks'⟩)=W at *;go_wp2_with fail
   go_loopg [5] n (fun gk i wr=>∃j:Nat,i=.int .i64 (j:Int)∧Hid (gk=n-j∧j≤n)∧Hid (al (fun i=>(k i).same (k' i)) j=true)∧Hid (Below W.heap.size W wr))
   case atStart=>exact⟨0,rfl,⟨rfl,Nat.zero_le _⟩,rfl,Below.refl _ _⟩
   case round=>
    obtain⟨j,rfl,HJ,HA,BW⟩:=hrel;have GW:=Hj (And.intro (kept_obj BW.out G.out.1) (kept_obj BW.out G.out.2));have BEL:Hid (Below w.heap.size w wr):=B2.out.trans (BW.out.mono B2.out.size);have BB:Hid (B≤wr.heap.size):=Nat.le_trans HB.out BEL.out.size;obtain⟨-,c1,c2,c3⟩:=p_cells GW.out.1;obtain⟨-,d1,d2,d3⟩:=p_cells GW.out.2;dsimp only at c1 c2 c3 d1 d2 d3;clear c0 d0 hz
    by_cases hlt:j<n
    ·have z0:(j:Int)<(n:Int):=by omega
     have ovi:IntKind.i64.wrap ((j:Int)+1)=((j+1:Nat):Int):=by have:=HM.out;rw[IntKind.wrap_i64];omega
     have HLT:=Hj hlt;obtain⟨a,b,o,rfl,hA,hb,X,I⟩:=DsIn.at (HI.out.below BEL.out HB.out) (i:=j) hlt;obtain⟨a',b',o',rfl,hA',hb',X',I'⟩:=DsIn.at (HJ'.out.below BEL.out HB.out) (i:=j) hlt;have hbw:b'<wr.heap.size:=Nat.lt_of_lt_of_le hb' BB.out;have BN:=bx_bel (Below.refl wr.heap.size wr) (Nat.le_refl _) (dO (k j) (k j).lo.h (k j).hi.h);have RC:=Hj (d20_range X);have RB:=Hj (d20_range (X'.below hbw BN (Nat.le_refl _)));have KD:Hid ((bx wr (dO (k j) (k j).lo.h (k j).hi.h)).cell? ⟨w.heap.size+1,1,none⟩=some (.slice (some a') n c')):=(p_cells (kept_obj BN GW.out.2)).2.1;have KG:=Hj (two_boxes wr (dO (k j) (k j).lo.h (k j).hi.h) (dO (k' j) (k' j).lo.h (k' j).hi.h));have II:=Hj I;have II':=Hj I';have EQ:Hid ((k j).same (k' j)=(((k j).inp == (k' j).inp) && ((k j).nm == (k' j).nm) && decide ((k j).ty=(k' j).ty) && decide ((k j).len=(k' j).len) && ((k j).rg == (k' j).rg) && (k j).lo.same (k' j).lo && (k j).hi.same (k' j).hi)):=rfl;have O1:=Hj (dcvs_one (k j) (k j).lo.h (k j).hi.h);have O2:=Hj (dcvs_one (k' j) (k' j).lo.h (k' j).hi.h);obtain⟨V1,hV1⟩:∃V,dcvs (k j) (k j).lo.h (k j).hi.h=V:=⟨_,rfl⟩;obtain⟨V2,hV2⟩:∃V,dcvs (k' j) (k' j).lo.h (k' j).hi.h=V:=⟨_,rfl⟩
     have L1:=Hj (show(Tryz.prog.info? 56).map (·.size)=some V1.length∧V1.length=20 by rw[←hV1];exact⟨by kernel_rfl,rfl⟩);have L2:=Hj (show(Tryz.prog.info? 56).map (·.size)=some V2.length∧V2.length=20 by rw[←hV2];exact⟨by kernel_rfl,rfl⟩);have E1:(dO (k j) (k j).lo.h (k j).hi.h)=.cells V1.toArray 56 (0,0):=by rw[dO_eq,hV1]
     have E2:(dO (k' j) (k' j).lo.h (k' j).hi.h)=.cells V2.toArray 56 (0,0):=by rw[dO_eq,hV2]
     have F1:=Hj E1;have F2:=Hj E2;rw[E1]at RB KD;rw[hV1]at RC O1;rw[hV2]at RB O2;clear X X' hb hb' hbw I I' hlt hV1 hV2 BN E1 E2 d1
     as_aux_lemma=>
      go_upto_region 7 with(first
       | refine wpList_load_mid rfl 56 _ rfl b o rfl V1 _ RC.out Tryz.underlying56 rfl L1.out.1 ?_
       | refine store_bx rfl 56 _ _ rfl wr _ V1.toArray rfl rfl (by rw[List.size_toArray];exact L1.out.1) (by have h:V1.toArray.size=20:=(by rw[List.size_toArray];exact L1.out.2);rw[h];rfl) O1.out ?_)
      have d1:=KD.out;have hz:(bx wr (.cells V1.toArray 56 (0,0))).heap.size=wr.heap.size+1:=bx_size _ _;clear c1 c2 c3 d2 d3 RC O1 KD
      as_aux_lemma=>
       go_upto_region 8 with(first
        | refine wpList_load_mid rfl 56 _ rfl b' o' rfl V2 _ RB.out Tryz.underlying56 rfl L2.out.1 ?_
        | refine store_bx rfl 56 _ _ rfl (bx wr (.cells V1.toArray 56 (0,0))) _ V2.toArray (by rw[bx_size];rfl) rfl (by rw[List.size_toArray];exact L2.out.1) (by have h:V2.toArray.size=20:=(by rw[List.size_toArray];exact L2.out.2);rw[h];rfl) O2.out ?_)
       rw[←F1.out,←F2.out];clear hz d1 RB O2 L1 L2 F1 F2;have XB:=KG.out;clear KG;generalize bx (bx wr (dO (k j) (k j).lo.h (k j).hi.h)) (dO (k' j) (k' j).lo.h (k' j).hi.h)=W2 at *;have GG:=Hj (And.intro XB.1 XB.2.1);have B3:=Hj XB.2.2.1;have Y:=d_cells XB.1;have Y':=d_cells XB.2.1;have y1:=Y.c1;have v1:=Y'.c1;have y2:=Y.c2;have v2:=Y'.c2;have y3:=Y.c3;have v3:=Y'.c3;have y4:=Y.c4;have v4:=Y'.c4;have y5:=Y.c5;have v5:=Y'.c5;have y6:=Y.c6;have v6:=Y'.c6;have y7:=Y.c7;have v7:=Y'.c7;have y8:=Y.c8;have v8:=Y'.c8;have y9:=Y.c9;have v9:=Y'.c9;have y10:=Y.c10;have v10:=Y'.c10;have y11:=Y.c11;have v11:=Y'.c11;have y12:=Y.c12;have v12:=Y'.c12;have C1:=Hj (gSameX_any B (k j).lo (k' j).lo W2 (II.out.2.1.below B3.out BB.out) (II'.out.2.1.below B3.out BB.out) (Nat.le_trans BB.out B3.out.size));clear XB Y Y'
       as_aux_lemma=>
        by_cases q1:(k j).inp=(k' j).inp
        ·by_cases q2:(k j).nm=(k' j).nm
         ·by_cases q3:(k j).ty=(k' j).ty
          ·by_cases q4:(k j).len=(k' j).len
           ·by_cases q5:(k j).rg=(k' j).rg
            ·have EQ2:Hid ((k j).same (k' j)=((k j).lo.same (k' j).lo && (k j).hi.same (k' j).hi)):=by
              show _=_;rw[EQ.out];simp only[q1,q2,q3,q4,q5,decide_true,BEq.rfl,Bool.true_and]
             clear EQ;go_wp2_with fail;clear q1 q2 q3 q4 q5 y1 v1 y2 v2 y3 v3 y4 v4 y5 v5 y6 v6 y7 v7 y8 v8 y9 v9 y10 v10 y11 v11 y12 v12
             as_aux_lemma=>
              refine C1.out.mono ?_;rintro r w1 ⟨rfl,hb1⟩;have B4:=Hj (B3.out.trans (hb1.mono B3.out.size));have Y:=d_cells (kept_obj hb1 GG.out.1);have Y':=d_cells (kept_obj hb1 GG.out.2);have y13:=Y.c13;have v13:=Y'.c13;have y14:=Y.c14;have v14:=Y'.c14;have y15:=Y.c15;have v15:=Y'.c15;have y16:=Y.c16;have v16:=Y'.c16;have y17:=Y.c17;have v17:=Y'.c17;have y18:=Y.c18;have v18:=Y'.c18;have y19:=Y.c19;have v19:=Y'.c19;clear hb1 Y Y' GG C1
              cases hs:(k j).lo.same (k' j).lo with
              | false=>
               rw[hs]at EQ2;have HQ:=Hj (EQ2.out.trans (Bool.false_and _));clear hs EQ2;go_wp2_with fail;go_ret;exact⟨by rw[sameD_no HLT.out HQ.out];simp,BEL.out.trans (B4.out.mono BEL.out.size)⟩
              | true=>
               rw[hs]at EQ2;have C2:=Hj (gSameX_any B (k j).hi (k' j).hi w1 (II.out.2.2.below B4.out BB.out) (II'.out.2.2.below B4.out BB.out) (Nat.le_trans BB.out B4.out.size));clear hs;go_wp2_with fail;refine C2.out.mono ?_;rintro r w2 ⟨rfl,hb2⟩;have B5:=Hj (B4.out.trans (hb2.mono B4.out.size));clear hb2 C2 y13 v13 y14 v14 y15 v15 y16 v16 y17 v17 y18 v18 y19 v19
               cases hs:(k j).hi.same (k' j).hi with
               | false=>
                rw[hs]at EQ2;have HQ:=Hj (EQ2.out.trans (Bool.and_false _));clear hs EQ2;go_wp2_with fail;go_ret;exact⟨by rw[sameD_no HLT.out HQ.out];simp,BEL.out.trans (B5.out.mono BEL.out.size)⟩
               | true=>
                rw[hs]at EQ2;have HQ:=Hj (EQ2.out.trans (show(true && true)=true from rfl));clear hs EQ2;go_wp2_with fail
                go_roundg (n-(j+1))
                case measure=>have:=HJ.out;have:=HLT.out;omega
                case rel=>exact⟨j+1,by go_num,⟨rfl,HLT.out⟩,al_succ HA.out HQ.out,BW.out.trans (B5.out.mono BW.out.size)⟩
            ·have b0:((k j).rg == (k' j).rg)=false:=by simp[q5]
             have HQ:Hid ((k j).same (k' j)=false):=by show _=_;rw[EQ.out];simp[q5]
             clear C1;go_wp2_with fail;go_ret;exact⟨by rw[sameD_no HLT.out HQ.out];simp,BEL.out.trans (B3.out.mono BEL.out.size)⟩
           ·have b0:((k j).len == (k' j).len)=false:=by simp[q4]
            have HQ:Hid ((k j).same (k' j)=false):=by show _=_;rw[EQ.out];simp[q4]
            clear C1;go_wp2_with fail;go_ret;exact⟨by rw[sameD_no HLT.out HQ.out];simp,BEL.out.trans (B3.out.mono BEL.out.size)⟩
          ·have b0:((k j).ty == (k' j).ty)=false:=by simp[q3]
           have HQ:Hid ((k j).same (k' j)=false):=by show _=_;rw[EQ.out];simp[q3]
           clear C1;go_wp2_with fail;go_ret;exact⟨by rw[sameD_no HLT.out HQ.out];simp,BEL.out.trans (B3.out.mono BEL.out.size)⟩
         ·have b0:((k j).nm == (k' j).nm)=false:=by simp[q2]
          have HQ:Hid ((k j).same (k' j)=false):=by show _=_;rw[EQ.out];simp[q2]
          clear C1;go_wp2_with fail;go_ret;exact⟨by rw[sameD_no HLT.out HQ.out];simp,BEL.out.trans (B3.out.mono BEL.out.size)⟩
        ·have b0:((k j).inp == (k' j).inp)=false:=by simp[q1]
         have HQ:Hid ((k j).same (k' j)=false):=by show _=_;rw[EQ.out];simp[q1]
         clear C1;go_wp2_with fail;go_ret;exact⟨by rw[sameD_no HLT.out HQ.out];simp,BEL.out.trans (B3.out.mono BEL.out.size)⟩
    ·as_aux_lemma=>
      obtain rfl:j=n:=by have:=HJ.out;omega
      have z0:¬(j:Int)<(j:Int):=by omega
      have HD:=Hj (sameD_iff.2 ⟨rfl,al_iff.1 HA.out⟩:sameD j k j k'=true);have C1:=Hj (gSameS_any B is ki is' ki' wr (I1.out.below BEL.out HB.out) (J1.out.below BEL.out HB.out) BB.out);clear hlt;go_wp2_with fail;refine C1.out.mono ?_;rintro r w1 ⟨rfl,hb1⟩;have B4:=Hj (BEL.out.trans (hb1.mono BEL.out.size));obtain⟨-, -, -,c3⟩:=p_cells (kept_obj hb1 GW.out.1);obtain⟨-, -, -,d3⟩:=p_cells (kept_obj hb1 GW.out.2);dsimp only at c3 d3;clear hb1 C1 c1 d1 c2 d2
      cases hs:sameS is.n ki is'.n ki' with
      | false=>
       go_wp2_with fail;go_ret;exact⟨by simp[hs],B4.out⟩
      | true=>
       have HS:=Hj hs;have C2:=Hj (gSameS_any B ss ks ss' ks' w1 (I2.out.below B4.out HB.out) (J2.out.below B4.out HB.out) (Nat.le_trans HB.out B4.out.size));clear hs;go_wp2_with fail;refine C2.out.mono ?_;rintro r w2 ⟨rfl,hb2⟩;have B5:=Hj (B4.out.trans (hb2.mono B4.out.size));clear hb2;go_wp2_with fail;go_ret;exact⟨by simp[HD.out,HS.out],B5.out⟩
  ·obtain⟨g0,g1,b2,z2⟩:=two_boxes w (pO ⟨tk,⟨ao,n,c⟩,k,is,ki,ss,ks⟩) (pO ⟨tk',⟨ao',n,c'⟩,k',is',ki',ss',ks'⟩)
   obtain⟨c0,c1, -, -⟩:=p_cells g0;obtain⟨d0,d1, -, -⟩:=p_cells g1;dsimp only at c0 c1 d0 d1;have hz:(bx w (pO ⟨tk,⟨ao,n,c⟩,k,is,ki,ss,ks⟩)).heap.size=w.heap.size+1:=bx_size _ _;clear g0 g1 z2;show Calls Tryz.prog 10 #[.agg #[.int .i64 tk,.slice ao n c,.slice is.ao is.n is.c,.slice ss.ao ss.n ss.c],.agg #[.int .i64 tk',.slice ao' n c',.slice is'.ao is'.n is'.c,.slice ss'.ao ss'.n ss'.c]] w _;go_enter Tryz.func10,Tryz.ntmps10;go_upto_region 1 with fail;rw[bx_p w ⟨tk,⟨ao,n,c⟩,k,is,ki,ss,ks⟩,bx_p _ ⟨tk',⟨ao',n,c'⟩,k',is',ki',ss',ks'⟩];go_wp2_with fail;go_ret;exact⟨by simp[ht],b2⟩
 ·by_cases ht:tk=tk'
  ·subst ht
   obtain⟨g0,g1,b2,z2⟩:=two_boxes w (pO ⟨tk,⟨ao,n,c⟩,k,is,ki,ss,ks⟩) (pO ⟨tk,⟨ao',n',c'⟩,k',is',ki',ss',ks'⟩);obtain⟨c0,c1, -, -⟩:=p_cells g0;obtain⟨d0,d1, -, -⟩:=p_cells g1;dsimp only at c0 c1 d0 d1;have hz:(bx w (pO ⟨tk,⟨ao,n,c⟩,k,is,ki,ss,ks⟩)).heap.size=w.heap.size+1:=bx_size _ _;have hn':¬(n:Int)=(n':Int):=by omega
   clear g0 g1 z2;show Calls Tryz.prog 10 #[.agg #[.int .i64 tk,.slice ao n c,.slice is.ao is.n is.c,.slice ss.ao ss.n ss.c],.agg #[.int .i64 tk,.slice ao' n' c',.slice is'.ao is'.n is'.c,.slice ss'.ao ss'.n ss'.c]] w _;go_enter Tryz.func10,Tryz.ntmps10;go_upto_region 1 with fail;rw[bx_p w ⟨tk,⟨ao,n,c⟩,k,is,ki,ss,ks⟩,bx_p _ ⟨tk,⟨ao',n',c'⟩,k',is',ki',ss',ks'⟩];go_wp2_with fail;go_ret;exact⟨by simp[sameD,hn],b2⟩
  ·obtain⟨g0,g1,b2,z2⟩:=two_boxes w (pO ⟨tk,⟨ao,n,c⟩,k,is,ki,ss,ks⟩) (pO ⟨tk',⟨ao',n',c'⟩,k',is',ki',ss',ks'⟩)
   obtain⟨c0,c1, -, -⟩:=p_cells g0;obtain⟨d0,d1, -, -⟩:=p_cells g1;dsimp only at c0 c1 d0 d1;have hz:(bx w (pO ⟨tk,⟨ao,n,c⟩,k,is,ki,ss,ks⟩)).heap.size=w.heap.size+1:=bx_size _ _;clear g0 g1 z2;show Calls Tryz.prog 10 #[.agg #[.int .i64 tk,.slice ao n c,.slice is.ao is.n is.c,.slice ss.ao ss.n ss.c],.agg #[.int .i64 tk',.slice ao' n' c',.slice is'.ao is'.n is'.c,.slice ss'.ao ss'.n ss'.c]] w _;go_enter Tryz.func10,Tryz.ntmps10;go_upto_region 1 with fail;rw[bx_p w ⟨tk,⟨ao,n,c⟩,k,is,ki,ss,ks⟩,bx_p _ ⟨tk',⟨ao',n',c'⟩,k',is',ki',ss',ks'⟩];go_wp2_with fail;go_ret;exact⟨by simp[ht],b2⟩
def Ex.pe:Ex→Ex→Prop
 | .no,f=>(0:Int)=f.h.ps∧0=f.h.s.n
 | .mk h k,f=>h.ps=f.h.ps∧h.s.n=f.h.s.n∧∀i,i<h.s.n→(k i).pe (f.k i)
theorem Ex.pe_hd {e f:Ex}(h:e.pe f):e.h.ps=f.h.ps∧e.h.s.n=f.h.s.n∧∀i,i<e.h.s.n→(e.k i).pe (f.k i):=by
 cases e with
 | no=>exact⟨h.1,h.2,fun i hi=>absurd hi (Nat.not_lt_zero i)⟩
 | mk=>exact h
theorem Ex.pe_of {e f:Ex}(h1:e.h.ps=f.h.ps)(h2:e.h.s.n=f.h.s.n)(h3:∀i,i<e.h.s.n→(e.k i).pe (f.k i)):e.pe f:=by
 cases e with
 | no=>exact⟨h1,h2⟩
 | mk=>exact⟨h1,h2,h3⟩
theorem pe_eqv {e:Ex}:∀ {f a:Ex},e.eqv a→f.eqv a→e.pe f:=by
 induction e using Ex.ind with
 | H e ih=>
  intro f a h g;obtain⟨-,h2,h3⟩:=(Ex.eqv_iff _ _).1 h;obtain⟨-,g2,g3⟩:=(Ex.eqv_iff _ _).1 g;have n1:=(Ex.same_iff.1 (Ex.eqv_same h)).2.2.2.2.2.1;have n2:=(Ex.same_iff.1 (Ex.eqv_same g)).2.2.2.2.2.1;exact Ex.pe_of (h2.symm.trans g2) (n1.trans n2.symm) fun i hi=>ih i hi (h3 i hi) (g3 i (by omega))
def AtX (B:Nat)(e e':Ex):Prop:=∀(w:World),e.In B w→e'.In B w→B≤w.heap.size→Calls Tryz.prog 16 #[e.h.v,e'.h.v] w fun r w'=>r=.returned (.bool true)∧Below w.heap.size w w'
theorem sameAt_of (B:Nat)(e e':Ex)(hp:e.pe e')(ih:∀i,i<e.h.s.n→AtX B (e.k i) (e'.k i)):AtX B e e':=by
 intro w hI hI' hB;obtain⟨hps,hn, -⟩:=Ex.pe_hd hp;have G0:Hid ((bx (bx w (xO e.h)) (xO e'.h)).heap[w.heap.size]? = some (xO e.h)):=(bx_old _ _ (by rw[bx_size];omega)).trans (bx_new _ _);have G1:Hid ((bx (bx w (xO e.h)) (xO e'.h)).heap[w.heap.size+1]? = some (xO e'.h)):=by have:=bx_new (bx w (xO e.h)) (xO e'.h);rwa [bx_size]at this
 have hb:Below w.heap.size w (bx (bx w (xO e.h)) (xO e'.h)):=bx_bel (bx_bel (Below.refl _ _) (Nat.le_refl _) _) (Nat.le_refl _) _;have HI:=Hj (hI.xs.below hb hB);have HI':=Hj (hI'.xs.below hb hB);have HB:=Hj (Nat.le_trans hB hb.size);have BW:=Hj hb;have IH:=Hj ih;have hc:=hI.xs.1;have hmx:e.h.s.n≤maxLen:=Nat.le_trans hc.1 hc.2.1;unfold maxLen at hmx;have HM:=Hj hmx;have HN:=Hj hn;have HP:=Hj hps;have hz:(bx w (xO e.h)).heap.size=w.heap.size+1:=bx_size _ _;clear hI hI' hb hB ih hp hc hmx
 show Calls Tryz.prog 16 #[.agg #[.int .u8 e.h.op,.int .i64 e.h.ps,.bool e.h.bo,.int .i32 e.h.it,.int .u64 e.h.fl,.string ⟨e.h.nm.toArray⟩,.slice e.h.s.ao e.h.s.n e.h.s.c],
  .agg #[.int .u8 e'.h.op,.int .i64 e'.h.ps,.bool e'.h.bo,.int .i32 e'.h.it,.int .u64 e'.h.fl,.string ⟨e'.h.nm.toArray⟩,.slice e'.h.s.ao e'.h.s.n e'.h.s.c]] w _
 clear hps hn;go_enter Tryz.func16,Tryz.ntmps16;go_upto_region 1 with fail;rw[bx_x,bx_x];clear hz;change (Code.region 1 _ _).wp _ _ _ (bx (bx w (xO e.h)) (xO e'.h));generalize bx (bx w (xO e.h)) (xO e'.h)=W at *;obtain⟨-,c1, -, -, -, -,c6⟩:=x_cells G0.out;obtain⟨-,d1, -, -, -, -,d6⟩:=x_cells G1.out;rw[←HP.out]at d1;rw[←HN.out]at d6;generalize hbe:w.heap.size+1=be at *;have HBE:Hid (w.heap.size<be):=by show w.heap.size<be;omega
 clear hbe;go_wp2_with fail;clear c1 c6 d1 d6
 go_loopg [5] e.h.s.n (fun gk i wr=>∃j:Nat,i=.int .i64 (j:Int)∧Hid (gk=e.h.s.n-j∧j≤e.h.s.n)∧Hid (Below W.heap.size W wr))
 case atStart=>exact⟨0,rfl,⟨rfl,Nat.zero_le _⟩,Below.refl _ _⟩
 case round=>
  obtain⟨j,rfl,HJ,BEL⟩:=hrel;obtain⟨-, -, -, -, -, -,c6⟩:=x_cells (kept_obj BEL.out G0.out);obtain⟨-, -, -, -, -, -,d6⟩:=x_cells (kept_obj BEL.out G1.out);rw[←HN.out]at d6
  by_cases hlt:j<e.h.s.n
  ·have z0:(j:Int)<(e.h.s.n:Int):=by omega
   have ovi:IntKind.i64.wrap ((j:Int)+1)=((j+1:Nat):Int):=by have:=HM.out;rw[IntKind.wrap_i64];omega
   obtain⟨a,b,o,ha,hA,hb,X,I⟩:=XsIn.at (HI.out.below BEL.out HB.out) (i:=j) hlt;obtain⟨a',b',o',ha',hA',hb',X',I'⟩:=XsIn.at (HI'.out.below BEL.out HB.out) (i:=j) (by rw[←HN.out];exact hlt);rw[ha]at c6;rw[ha']at d6;have x0:=X.c0;have x1:=X.c1;have x2:=X.c2;have x3:=X.c3;have x4:=X.c4;have x5:=X.c5;have x6:=X.c6;have y0:=X'.c0;have y1:=X'.c1;have y2:=X'.c2;have y3:=X'.c3;have y4:=X'.c4;have y5:=X'.c5;have y6:=X'.c6;have C:=Hj (IH.out j hlt wr.drew I.drew I'.drew (Nat.le_trans HB.out BEL.out.size));have HLT:=Hj hlt;clear X X' hb hb' I I' hlt ha ha';go_upto_region 6 with fail
   go_still_tail 10,(by kernel_rfl)
   change wpList _ _ _ _ _ wr.drew;generalize hw2:wr.drew=w2 at *;have B2:Hid (Below wr.heap.size wr w2):=by rw[←hw2];exact Below.drew (Below.refl _ _)
   clear hw2 x0 x1 x2 x3 x4 x5 x6 y0 y1 y2 y3 y4 y5 y6 c6 d6;go_wp2_with fail;refine C.out.mono ?_;rintro r w3 ⟨rfl,hb3⟩;have B3:=Hj (BEL.out.trans ((B2.out.trans (hb3.mono B2.out.size)).mono BEL.out.size));clear hb3 C B2;go_wp2_with fail
   go_roundg (e.h.s.n-(j+1))
   case measure=>have:=HJ.out;have:=HLT.out;omega
   case rel=>exact⟨j+1,by go_num,⟨rfl,HLT.out⟩,B3.out⟩
  ·obtain rfl:j=e.h.s.n:=by have:=HJ.out;omega
   clear hlt;go_wp2_with fail;go_ret;exact⟨rfl,bel_trans BW.out BEL.out⟩
theorem sameAt_any (B:Nat)(e:Ex):∀e',e.pe e'→AtX B e e':=by
 induction e using Ex.ind with
 | H e ih=>exact fun e' hp=>sameAt_of B e e' hp fun i hi=>ih i hi _ ((Ex.pe_hd hp).2.2 i hi)
end Go.Proofs.YthmlhkllbichgaaGreatDoor
