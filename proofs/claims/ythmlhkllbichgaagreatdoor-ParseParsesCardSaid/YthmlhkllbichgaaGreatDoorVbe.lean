/-
  ParseParses: a source's tree, or what is wrong with it, is the reference's. (part 31 of 38) Conditions: none beside what the card ties.
-/
import Derived.Test.YthmlhkllbichgaaGreatDoorVbd
import Derived.Deep.LoopGhost
namespace Go.Proofs.YthmlhkllbichgaaGreatDoor
set_option maxHeartbeats 16000000
open Go.RowKit
set_option maxRecDepth 100000
theorem ld_tok {ops:Array Oper}{rest:List Oper}{o:Oper}{a:Act}{w:World}{Q:Exit→Act→World→Prop}(t:Tk)(g:Nat)(hg:Blk w g 62 t.vs)(hgd:o.guard=none)(x:Operand)(ho:o.op=.load 62 x)(hx:a.eval x=.pointer (some ⟨g,0,none⟩))
  (hw:wpList Tryz.prog ops Q rest (a.put o.dst t.v) w):wpList Tryz.prog ops Q (o::rest) a w:=
 wpList_load_row hgd 62 x ho g hx 62 t.vs (0,0) _ hg Tryz.underlying62 rfl (by kernel_rfl) hw
def Rs.isOk {α:Type}:Rs α→Bool
 | .ok _ _=>true
 | .no _ _=>false
theorem rrtok_any {α:Type}(R:Nat)(r:Rs α)(w:World)(h:U R r w):Calls Tryz.prog 35 #[.pointer (some ⟨R,0,none⟩)] w fun e w'=>∃t,e=.returned t.v∧Hd t∧(∀a s,r=.ok a s→t=s.hd)∧Below w.heap.size w w':=by
 obtain⟨T,o,c,l,i,e,a,n,x,H,g⟩:=h;refine(rrtok_w R T o c l i e a n x w H).mono ?_;rintro r' w' ⟨rfl,hb⟩;refine⟨_,rfl,hd_at H.good H.hi,fun b s hr=>?_,hb⟩;subst hr;obtain⟨-, -, -, -,g, -⟩:=g;unfold PS.hd;rw[g,drop_hd]
theorem rrfail_any {α:Type}(R:Nat)(r:Rs α)(c p:Int)(hc:c≠0)(w:World)(h:U R r w):Calls Tryz.prog 34 #[.pointer (some ⟨R,0,none⟩),.int .i64 c,.int .i64 p] w fun e w'=>e=.returned (.tuple #[])∧U R (r.bind fun _ _=>(.no c p:Rs Unit)) w'∧Fx (On R) w.heap.size w w':=by
 obtain⟨T,o,cp,l,i,e,a,n,x,H,g⟩:=h;have m2:w.cell? ⟨R,2,none⟩=some (.int .i64 e):=H.blk.cell 2;have z2:w.frozen? ⟨R,2,none⟩=false:=H.blk.frozen 2;have m3:w.cell? ⟨R,3,none⟩=some (.int .i64 a):=H.blk.cell 3;have z3:w.frozen? ⟨R,3,none⟩=false:=H.blk.frozen 3
 cases r with
 | ok q s=>
  obtain⟨rfl,rfl, -⟩:=g;have b1:Blk ((w.setCell ⟨R,2,none⟩ (.int .i64 c)).setCell ⟨R,3,none⟩ (.int .i64 p)) R 74 #[.slice (some ⟨T,o,none⟩) l.length cp,.int .i64 (i:Int),.int .i64 c,.int .i64 p,.int .i64 n,.int .i64 x]:=(H.blk.set_ 2 (.int .i64 c)).set_ 3 (.int .i64 p);have F:=fx_set (fx_set (Fx.refl (On R) _ w) (p:=⟨R,2,none⟩) (.inl rfl) (.int .i64 c)) (p:=⟨R,3,none⟩) (.inl rfl) (.int .i64 p);have HH:=Hj (H.nums (i':=i) b1 F H.hi);have HF:=Hj F;clear b1 F H;go_enter Tryz.func34,Tryz.ntmps34;go_wp2_with fail;exact bodyPost_end (results_none rfl _ _ _) rfl ⟨rfl,⟨T,o,cp,l,i,c,p,n,x,HH.out,rfl,rfl,hc⟩,HF.out⟩
 | no c' p'=>
  obtain⟨rfl,rfl,hc'⟩:=g;have e2:(e == 0)=false:=by simp[hc']
  have HH:=Hj H;clear H;go_enter Tryz.func34,Tryz.ntmps34;go_wp2_with fail;exact bodyPost_end (results_none rfl _ _ _) rfl ⟨rfl,⟨T,o,cp,l,i,e,a,n,x,HH.out,rfl,rfl,hc'⟩,Fx.refl _ _ _⟩
theorem b_eq {a b:Int}(h:a=b):(a == b)=true:=by simp[h]
theorem b_ne {a b:Int}(h:a≠b):(a == b)=false:=by simp[h]
theorem rris_any {α:Type}(R:Nat)(r:Rs α)(x:List UInt8)(hx:x∈resW)(w:World)(h:U R r w):Calls Tryz.prog 33 #[.pointer (some ⟨R,0,none⟩),.string ⟨x.toArray⟩] w fun e w'=>∃b,e=.returned (.bool b)∧(∀a s,r=.ok a s→b=(s.hd.tx == x))∧Below w.heap.size w w':=by
 have G:∀a s,r=.ok a s→s.hd.tx=x→s.hd.kd=4∨s.hd.kd=5:=fun a s hr ht=>by
  subst hr;exact h.good.res (by rw[←PS.hd,ht];exact hx)
 have HG:=Hj G;have HU:=Hj h;clear G h hx;go_enter Tryz.func33,Tryz.ntmps33;go_wp2_with fail;refine(rrtok_any R r w HU.out).mono ?_;rintro e w1 ⟨t,rfl, -,ht,hb⟩;have TB:Blk (w1.alloc (.cells t.vs 62)) w1.heap.size 62 t.vs:=Blk.new _ _ _;have t0:(w1.alloc (.cells t.vs 62)).cell? ⟨w1.heap.size,0,none⟩=some (.int .u8 t.kd):=TB.cell 0;have t2:(w1.alloc (.cells t.vs 62)).cell? ⟨w1.heap.size,2,none⟩=some (.string ⟨t.tx.toArray⟩):=TB.cell 2;have HB:Hid (Below w.heap.size w (w1.alloc (.cells t.vs 62))):=bel_alloc hb _;have HT:=Hj ht;clear hb ht TB HU;unfold Tk.v;go_upto_region 2 with fail;change (Code.region 2 _ _).wp _ _ _ (w1.alloc (.cells t.vs 62));generalize w1.alloc (.cells t.vs 62)=w2 at *
 by_cases c4:t.kd=4
 ·have e4:=b_eq c4
  go_wp2_with fail;go_ret;exact⟨_,rfl,fun a s hr=>by rw[HT.out a s hr],HB.out⟩
 ·have e4:=b_ne c4
  by_cases c5:t.kd=5
  ·have e5:=b_eq c5
   go_wp2_with fail;go_ret;exact⟨_,rfl,fun a s hr=>by rw[HT.out a s hr],HB.out⟩
  ·have e5:=b_ne c5
   go_wp2_with fail;go_ret;refine⟨_,rfl,fun a s hr=>?_,HB.out⟩;have h1:=HG.out a s hr;rw[←HT.out a s hr]at h1 ⊢
   by_cases ct:t.tx=x
   ·rcases h1 ct with h1|h1
    ·exact absurd h1 c4
    ·exact absurd h1 c5
   ·exact(beq_no ct).symm
theorem tk_step {l:List Tk}(hg:Good l){i:Nat}(hi:i<l.length)(hk:(tkAt l i).kd≠0):i+1<l.length:=by
 have h:=good_at hg i hi;rcases Nat.lt_or_ge (i+1) l.length with h1|h1
 ·exact h1
 ·have:l.drop i=[tkAt l i]:=by
   have h2:=drop_hd l i
   cases e:l.drop i with
   | nil=>have:=List.drop_eq_nil_iff.1 e;omega
   | cons t q=>
    rw[e]at h2;have h3:(l.drop i).length=q.length+1:=by rw[e];rfl
    rw[List.length_drop]at h3;have:q=[]:=List.eq_nil_of_length_eq_zero (by omega);subst this;exact congrArg (fun x=>[x]) h2
  rw[this]at h;rcases h with⟨-,h⟩|⟨-,h⟩
  ·exact absurd h.kd hk
  ·exact h.elim
theorem rrnext_any {α:Type}(R:Nat)(r:Rs α)(w:World)(h:U R r w)(hk:∀a s,r=.ok a s→s.hd.kd≠0) :
  Calls Tryz.prog 68 #[.pointer (some ⟨R,0,none⟩)] w fun e w'=>∃t,e=.returned t.v∧Hd t∧(∀a s,r=.ok a s→t=s.hd)∧U R (r.bind fun _ s=>.ok () s.tk) w'∧Fx (On R) w.heap.size w w':=by
 obtain⟨T,o,c,l,i,e,a,n,x,H,g⟩:=h;have BL:Below w.heap.size w (w.alloc zT):=bel_one w _;have HW:=Hj (H.below BL);have HG:=Hj g;have HK:=Hj hk;have k0:Blk (w.alloc zT) w.heap.size 62 #[.int .u8 0,.int .i64 0,.string ⟨#[]⟩,.int .i32 0,.int .u64 0]:=Blk.new _ _ _;have HNB:=Hj k0;have HF:Hid (Fx (On R) w.heap.size w (w.alloc zT)):=Fx.of BL;have HRL:Hid (R<w.heap.size):=H.lt;clear H g hk BL k0;go_enter Tryz.func68,Tryz.ntmps68;go_upto_region 1 with fail;change (Code.region 1 _ _).wp _ _ _ (w.alloc zT);generalize w.alloc zT=w0 at *;go_wp2_with fail;refine(rrtok_w R T o c l i e a n x w0 HW.out).mono ?_;rintro e' w1 ⟨rfl,hb⟩;have hb2:Below w0.heap.size w0 (w1.alloc (.cells (tkAt l i).vs 62)):=bel_alloc hb _;have HW2:=Hj (HW.out.below hb2);have HNB2:=Hj (HNB.out.below hb2 HNB.out.lt);have TB:Hid (Blk (w1.alloc (.cells (tkAt l i).vs 62)) w1.heap.size 62 (tkAt l i).vs):=Blk.new _ _ _;have HF2:=Hj (fx_bel HF.out hb2)
 have HTN:Hid (w.heap.size<w1.heap.size∧w.heap.size≠w1.heap.size∧R≠w1.heap.size):=by
  have h1:=Nat.lt_of_lt_of_le HNB.out.lt hb.size;have h2:=HRL.out;exact⟨h1,by omega,by omega⟩
 clear hb hb2 HW HNB HF;unfold Tk.v;go_upto_region 2 with fail;change (Code.region 2 _ _).wp _ _ _ (w1.alloc (.cells (tkAt l i).vs 62));generalize w1.alloc (.cells (tkAt l i).vs 62)=w2 at *;generalize w1.heap.size=tb at *;have HD:Below w2.heap.size w2 w2.drew:=bel_drew (Below.refl _ _);have HW3:=Hj (HW2.out.below HD);have HNB3:=Hj (HNB2.out.below HD HNB2.out.lt);have TB3:=Hj (TB.out.below HD TB.out.lt);have HF3:=Hj (fx_bel HF2.out HD);have HS0:w2.drew.cell? ⟨R,0,none⟩=some (.slice (some ⟨T,o,none⟩) l.length c)∧w2.drew.cell? ⟨R,1,none⟩=some (.int .i64 (i:Int)):=⟨HW3.out.blk.cell 0,HW3.out.blk.cell 1⟩;have hl9:l.length≤maxLen:=Nat.le_trans HW3.out.lc HW3.out.cm;unfold maxLen at hl9;have ov:IntKind.i64.wrap ((l.length:Int)-1)=(l.length:Int)-1:=by rw[IntKind.wrap_i64];omega
 clear HD HW2 HNB2 TB HF2;refine region_tree (S:=fun w'=>w'.cell? ⟨R,0,none⟩=some (.slice (some ⟨T,o,none⟩) l.length c)∧w'.cell? ⟨R,1,none⟩=some (.int .i64 (i:Int))) _ (.take 0 (.take 1 (.take 2 (.take 3 (.take 4 (.take 5 (.take 6 (.take 7 (.take 8 (.take 9 (.take 10 .done))))))))))) (by kernel_rfl) (by kernel_rfl) rfl (by kernel_rfl) (by kernel_rfl) (fun _ _ d _ _ h=>by cases d<;>exact h) HS0 ?_;clear HS0;generalize w2.drew=w3 at *
 iterate 11
  refine WalkT.take (v:=?_) rfl (by rfl) ?_ ?_;rotate_left
  ·(intro w' hSw;obtain⟨r0,r1⟩:=hSw;go_simp<;>with_reducible rfl)
  try simp only[Act.put,List.setIfInBounds_toArray,List.set_cons_zero,List.set_cons_succ]
 refine WalkT.done ?_;have hiw:=HW3.out.hi
 by_cases hlt:i+1<l.length
 ·have d1:(i:Int)<(l.length:Int)-1:=by omega
  have m1:w3.cell? ⟨R,1,none⟩=some (.int .i64 (i:Int)):=HW3.out.blk.cell 1;have z1:w3.frozen? ⟨R,1,none⟩=false:=HW3.out.blk.frozen 1;have ov2:IntKind.i64.wrap ((i:Int)+1)=(i:Int)+1:=by rw[IntKind.wrap_i64];omega
  have b1:Blk (w3.setCell ⟨R,1,none⟩ (.int .i64 ((i:Int)+1))) R 74 #[.slice (some ⟨T,o,none⟩) l.length c,.int .i64 ((i+1:Nat):Int),.int .i64 e,.int .i64 a,.int .i64 n,.int .i64 x]:=HW3.out.blk.set_ 1 (.int .i64 ((i:Int)+1));have F:=fx_set (Fx.refl (On R) _ w3) (p:=⟨R,1,none⟩) (.inl rfl) (.int .i64 ((i:Int)+1));have HW4:=Hj (HW3.out.nums (i':=i+1) b1 F hlt);have HNB4:=Hj (HNB3.out.far (p:=⟨R,1,none⟩) (Nat.ne_of_gt HRL.out) (.int .i64 ((i:Int)+1)));have TB4:=Hj (TB3.out.far (p:=⟨R,1,none⟩) (Ne.symm HTN.out.2.2) (.int .i64 ((i:Int)+1)));have HF4:=Hj (fx_trans HF3.out F);clear b1 F HW3 HNB3 TB3 HF3 hiw;go_upto_region 4 with fail;change (Code.region 4 _ _).wp _ _ _ (w3.setCell ⟨R,1,none⟩ (.int .i64 ((i:Int)+1)));clear m1 z1 ov ov2;generalize w3.setCell ⟨R,1,none⟩ (.int .i64 ((i:Int)+1))=w4 at *
  go_wp2_with (first
   | refine ld_tok (tkAt l i) tb TB4.out rfl _ rfl rfl ?_
   | refine st_tok (tkAt l i) w.heap.size _ HNB4.out rfl rfl _ _ rfl rfl rfl ?_)
  refine bodyPost_ret (rs_tok rfl _ _ w.heap.size (tkAt l i) rfl (HNB4.out.rowS _)) rfl ⟨_,rfl,hd_at HW4.out.good (Nat.lt_of_succ_lt HW4.out.hi),fun b s hr=>?_,⟨T,o,c,l,i+1,e,a,n,x,HW4.out.fx (wr1_row w4 w.heap.size _).1 HW4.out.lt (fun k hk (q:k=w.heap.size)=>by have:=HRL.out;omega),?_⟩,fx_row HF4.out (.inr (Nat.le_refl _)) _⟩
  ·subst hr
   obtain⟨-, -, -, -,g, -⟩:=HG.out;unfold PS.hd;rw[g,drop_hd]
  ·have g:=HG.out
   cases r with
   | no c' p'=>exact g
   | ok q s=>
    obtain⟨g1,g2,g3,g4,g5,g6⟩:=g;exact⟨g1,g2,g3,g4,by show s.ts.tail=_;rw[g5,List.tail_drop],g6⟩
 ·have d1:¬(i:Int)<(l.length:Int)-1:=by omega
  go_wp2_with (first
   | refine ld_tok (tkAt l i) tb TB3.out rfl _ rfl rfl ?_
   | refine st_tok (tkAt l i) w.heap.size _ HNB3.out rfl rfl _ _ rfl rfl rfl ?_)
  refine bodyPost_ret (rs_tok rfl _ _ w.heap.size (tkAt l i) rfl (HNB3.out.rowS _)) rfl ⟨_,rfl,hd_at HW3.out.good HW3.out.hi,fun b s hr=>?_,⟨T,o,c,l,i,e,a,n,x,HW3.out.fx (wr1_row w3 w.heap.size _).1 HW3.out.lt (fun k hk (q:k=w.heap.size)=>by have:=HRL.out;omega),?_⟩,fx_row HF3.out (.inr (Nat.le_refl _)) _⟩
  ·subst hr
   obtain⟨-, -, -, -,g, -⟩:=HG.out;unfold PS.hd;rw[g,drop_hd]
  ·have g:=HG.out
   cases r with
   | no c' p'=>exact g
   | ok q s=>
    have hk:=HK.out q s rfl;obtain⟨-, -, -, -,g5, -⟩:=g;unfold PS.hd at hk;rw[g5,drop_hd]at hk;exact absurd (tk_step HW3.out.good HW3.out.hi hk) hlt
theorem U.err {α:Type}{R:Nat}{r:Rs α}{w:World}(h:U R r w):∃e:Int,w.cell? ⟨R,2,none⟩=some (.int .i64 e)∧(e=0↔r.isOk=true):=by
 obtain⟨T,o,cp,l,i,e,a,n,x,H,g⟩:=h;refine⟨e,H.blk.cell 2,?_⟩
 cases r with
 | ok q s=>exact⟨fun _=>rfl,fun _=>g.1⟩
 | no c p=>exact⟨fun e0=>absurd (g.1.symm.trans e0) g.2.2,fun e0=>by cases e0⟩
theorem res_ne {x:List UInt8}(hx:x∈resW):x≠[]:=by rintro rfl;exact absurd hx (by decide)
theorem res_kd {α:Type}{R:Nat}{a:α}{s:PS}{w:World}(h:U R (.ok a s) w){x:List UInt8}(hx:x∈resW)(ht:s.hd.tx=x):s.hd.kd≠0:=h.good.kd (by rw[←PS.hd,ht];exact res_ne hx)
def takT (x:List UInt8)(s:PS):Rs Unit:=.ok () (acS s x)
theorem rrtake_any {α:Type}(R:Nat)(r:Rs α)(x:List UInt8)(hx:x∈resW)(w:World)(h:U R r w) :
  Calls Tryz.prog 67 #[.pointer (some ⟨R,0,none⟩),.string ⟨x.toArray⟩] w fun e w'=>∃b,e=.returned (.bool b)∧(∀a s,r=.ok a s→b=(s.hd.tx == x))∧(b=true→∃a s,r=.ok a s)∧U R (r.bind fun _ s=>takT x s) w'∧Fx (On R) w.heap.size w w':=by
 have IS:=Hj (rris_any R r x hx w h);have HU:=Hj h;have HX:=Hj hx;clear h hx;go_enter Tryz.func67,Tryz.ntmps67;go_wp2_with fail;refine IS.out.mono ?_;rintro e w1 ⟨b,rfl,hb,bl⟩;have HU1:=Hj (HU.out.below bl);have HBL:=Hj bl;have HB:=Hj hb;obtain⟨er,m2,he⟩:=HU1.out.err;have HE:=Hj he;clear IS bl hb HU he
 cases b with
 | false=>
  go_wp2_with fail;go_ret;refine⟨_,rfl,HB.out,(fun e=>by cases e),HU1.out.of ?_,Fx.of HBL.out⟩
  cases r with
  | no c p=>rfl
  | ok a s=>
   have h1:=HB.out a s rfl;show Rs.ok () s=Rs.ok () (acS s x);unfold acS;rw[if_neg (by rintro rfl;simp at h1)]
 | true=>
  cases r with
  | no c p=>
   have e0:(er == 0)=false:=b_ne (fun e=>by have:=HE.out.1 e;cases this);go_wp2_with fail;go_ret;exact⟨_,rfl,(fun a s e=>by cases e),(fun e=>by cases e),HU1.out,Fx.of HBL.out⟩
  | ok a s=>
   have h1:s.hd.tx=x:=by
    have h1:=HB.out a s rfl;exact of_decide_eq_true (by simpa using h1.symm)
   have e0:er=0:=HE.out.2 rfl;subst e0;have hk:=res_kd HU1.out HX.out h1;have NX:=Hj (rrnext_any R (.ok a s) w1 HU1.out (fun a' s' e=>by cases e;exact hk));clear hk;go_wp2_with fail;refine NX.out.mono ?_;rintro e w2 ⟨t,rfl, -, -,hu,hf⟩;have HU2:=Hj hu;have HF2:=Hj (fx_trans (Fx.of HBL.out) hf);clear hu hf NX HU1 m2;go_wp2_with fail;go_ret;refine⟨_,rfl,HB.out,(fun _=>⟨a,s,rfl⟩),?_,HF2.out⟩;have e3:takT x s=.ok () s.tk:=by unfold takT acS;rw[if_pos h1]
   show U R (takT x s) w2;rw[e3];exact HU2.out
theorem U.bind_of {α β γ:Type}{R:Nat}{r:Rs α}{w:World}{f:PS→Rs β}{g:PS→Rs γ}(h:U R (r.bind fun _ s=>f s) w)(e:∀a s,r=.ok a s→(f s).st=(g s).st):U R (r.bind fun _ s=>g s) w:=by
 refine h.of ?_
 cases r with
 | no c p=>rfl
 | ok a s=>exact e a s rfl
theorem rrmust_any {α:Type}(R:Nat)(r:Rs α)(x:List UInt8)(hx:x∈resW)(w:World)(h:U R r w) :
  Calls Tryz.prog 31 #[.pointer (some ⟨R,0,none⟩),.string ⟨x.toArray⟩] w fun e w'=>e=.returned (.tuple #[])∧U R (r.bind fun _ s=>expT x s) w'∧Fx (On R) w.heap.size w w':=by
 have IS:=Hj (rrtake_any R r x hx w h);clear h hx;go_enter Tryz.func31,Tryz.ntmps31;go_wp2_with fail;refine IS.out.mono ?_;rintro e w1 ⟨b,rfl,hb,hb2,hu,hf⟩;have HU1:=Hj hu;have HF1:=Hj hf;have HB:=Hj hb;have HB2:=Hj hb2;clear IS hu hb hb2 hf
 cases b with
 | true=>
  go_wp2_with fail
  go_end0
  refine⟨rfl,HU1.out.bind_of fun a s hr=>?_,HF1.out⟩;have h1:s.hd.tx=x:=of_decide_eq_true (by simpa using(HB.out a s hr).symm);unfold takT acS expT;rw[if_pos h1,if_pos h1]
 | false=>
  have ft:=fun(t:Tk) w=>tkv_ps t w
  have HU2:Hid (U R (r.bind fun _ s=>(.ok () s:Rs Unit)) w1):=HU1.out.bind_of fun a s hr=>by
   have h1:=HB.out a s hr;unfold takT acS;rw[if_neg (by rintro rfl;simp at h1)]
  go_wp2_with fail;refine(rrtok_any R _ w1 HU2.out).mono ?_;rintro e w2 ⟨t,rfl, -,ht,bl⟩;have HT:=Hj ht;have HU3:=Hj (HU2.out.below bl);have HF3:=Hj (fx_bel HF1.out bl);clear ht bl HU1 HU2 HF1;go_wp2_with fail;refine(rrfail_any R _ 110 t.ps (by decide) w2 HU3.out).mono ?_;rintro e w3 ⟨rfl,hu,hf⟩;have HU4:=Hj hu;have HF4:=Hj (fx_trans HF3.out hf);clear hu hf HU3 HF3;go_wp2_with fail
  go_end0
  refine⟨rfl,HU4.out.of ?_,HF4.out⟩
  cases r with
  | no c p=>rfl
  | ok a s=>
   have h1:=HB.out a s rfl;have h2:=HT.out () s rfl;show(Rs.no 110 t.ps:Rs Unit).st=(expT x s).st;unfold expT bad;rw[if_neg (by rintro rfl;simp at h1),h2]
theorem hd_no:Hd noT:=⟨by decide,by decide,by decide,by decide,by decide,by decide,by decide,by decide,by decide⟩
theorem rrkind_any {α:Type}(R:Nat)(r:Rs α)(k:Int)(hk0:k≠0)(w:World)(h:U R r w) :
  Calls Tryz.prog 32 #[.pointer (some ⟨R,0,none⟩),.int .u8 k] w fun e w'=>∃t,e=.returned t.v∧Hd t∧(∀u s,(r.bind fun _ s=>kindT k s)=.ok u s→t=u)∧U R (r.bind fun _ s=>kindT k s) w'∧Fx (On R) w.heap.size w w':=by
 have BL:Below w.heap.size w (w.alloc zT):=bel_one w _;have k0:Blk (w.alloc zT) w.heap.size 62 #[.int .u8 0,.int .i64 0,.string ⟨#[]⟩,.int .i32 0,.int .u64 0]:=Blk.new _ _ _;have HNB:=Hj k0;have HF:Hid (Fx (On R) w.heap.size w (w.alloc zT)):=Fx.of BL;have HRL:Hid (R<w.heap.size):=h.lt;have HU:=Hj (h.below BL);have HK0:=Hj hk0;clear k0 BL h hk0;go_enter Tryz.func32,Tryz.ntmps32;go_upto_region 1 with fail;change (Code.region 1 _ _).wp _ _ _ (w.alloc zT);generalize w.alloc zT=w0 at *;go_wp2_with fail;refine(rrtok_any R r w0 HU.out).mono ?_;rintro e w1 ⟨t,rfl,htd,ht,hb⟩;have hb2:Below w0.heap.size w0 (w1.alloc (.cells t.vs 62)):=bel_alloc hb _;have HU2:=Hj (HU.out.below hb2);have HNB2:=Hj (HNB.out.below hb2 HNB.out.lt);have TB:Hid (Blk (w1.alloc (.cells t.vs 62)) w1.heap.size 62 t.vs):=Blk.new _ _ _;have HF2:=Hj (fx_bel HF.out hb2);have HT:=Hj ht;have HTD:=Hj htd;clear hb hb2 HNB HF ht htd HU;unfold Tk.v;go_upto_region 2 with fail;change (Code.region 2 _ _).wp _ _ _ (w1.alloc (.cells t.vs 62));generalize w1.alloc (.cells t.vs 62)=w2 at *;generalize w1.heap.size=tb at *;obtain⟨er,m2,he⟩:=HU2.out.err;have HE:=Hj he;have t0:w2.cell? ⟨tb,0,none⟩=some (.int .u8 t.kd):=TB.out.cell 0
 have t1:w2.cell? ⟨tb,1,none⟩=some (.int .i64 t.ps):=TB.out.cell 1;clear he
 have BADC:Hid ((∀a s,r=.ok a s→s.hd.kd≠k)→∀w3,U R (r.bind fun _ _=>(.no 110 t.ps:Rs Unit)) w3→U R (r.bind fun _ s=>kindT k s) w3∧∀u s,(r.bind fun _ s=>kindT k s) ≠ .ok u s):=fun hn w3 hu=>by
  cases r with
  | no c p=>exact⟨hu.of rfl,fun u s e=>by cases e⟩
  | ok a s=>
   have e:kindT k s=.no 110 t.ps:=by
    unfold kindT bad;rw[if_neg (hn a s rfl),HT.out a s rfl]
   refine⟨hu.of ?_,fun u s' e2=>?_⟩
   ·show _=(kindT k s).st;rw[e];rfl
   ·change kindT k s=_ at e2;rw[e]at e2;cases e2
 by_cases c:t.kd=k
 ·have e4:(t.kd == k)=true:=b_eq c
  cases hr:r with
  | no c' p'=>
   have e0:(er == 0)=false:=b_ne (fun e=>by have:=HE.out.1 e;rw[hr]at this;cases this);subst hr;go_wp2_with fail;refine(rrfail_any R _ 110 t.ps (by decide) w2 HU2.out).mono ?_;rintro e w3 ⟨rfl,hu,hf⟩;obtain⟨hu2,hno⟩:=BADC.out (fun a s e=>by cases e) w3 hu;have HU3:=Hj hu2;have HNO:=Hj hno;have HNB3:=Hj (hf.blk HNB2.out HNB2.out.lt (Nat.ne_of_gt HRL.out));have HF3:=Hj (fx_trans HF2.out hf);clear hu hf hu2 hno HU2 HNB2 HF2 m2 t0 t1 TB
   go_wp2_with (refine st_tok noT w.heap.size _ HNB3.out rfl rfl _ _ rfl rfl rfl ?_)
   exact bodyPost_ret (rs_tok rfl _ _ w.heap.size noT rfl (HNB3.out.rowS _)) rfl ⟨_,rfl,hd_no,fun u s e=>absurd e (HNO.out u s),HU3.out.fx (wr1_row w3 w.heap.size _).1 HU3.out.lt (fun k hk (q:k=w.heap.size)=>by have:=HRL.out;omega),fx_row HF3.out (.inr (Nat.le_refl _)) _⟩
  | ok a s=>
   have e0:er=0:=HE.out.2 (by rw[hr];rfl);subst e0;subst hr;have hts:=HT.out a s rfl;have NX:=Hj (rrnext_any R (.ok a s) w2 HU2.out (fun a' s' e=>by cases e;rw[←hts,c];exact HK0.out));have e5:kindT k s=.ok s.hd s.tk:=by unfold kindT;rw[if_pos (by rw[←hts];exact c)]
   clear hts;go_wp2_with fail;refine NX.out.mono ?_;rintro e w3 ⟨t',rfl,htd,ht',hu,hf⟩;have HT':=Hj (ht' a s rfl);have HTD':=Hj htd;have HU3:=Hj hu;have HNB3:=Hj (hf.blk HNB2.out HNB2.out.lt (Nat.ne_of_gt HRL.out));have HF3:=Hj (fx_trans HF2.out hf);clear hu hf ht' htd NX HU2 HNB2 HF2 m2 t0 t1 TB
   go_wp2_with (refine st_tok t' w.heap.size _ HNB3.out rfl rfl _ _ rfl rfl rfl ?_)
   refine bodyPost_ret (rs_tok rfl _ _ w.heap.size t' rfl (HNB3.out.rowS _)) rfl ⟨_,rfl,HTD'.out,fun u s' e=>?_,(HU3.out.fx (wr1_row w3 w.heap.size _).1 HU3.out.lt (fun k hk (q:k=w.heap.size)=>by have:=HRL.out;omega)).of ?_,fx_row HF3.out (.inr (Nat.le_refl _)) _⟩
   ·change kindT k s=_ at e
    rw[e5]at e;cases e;exact HT'.out
   ·show _=(kindT k s).st
    rw[e5];rfl
 ·have e4:(t.kd == k)=false:=b_ne c
  go_wp2_with fail;refine(rrfail_any R r 110 t.ps (by decide) w2 HU2.out).mono ?_;rintro e w3 ⟨rfl,hu,hf⟩;obtain⟨hu2,hno⟩:=BADC.out (fun a s e=>by rw[←HT.out a s e];exact c) w3 hu;have HU3:=Hj hu2;have HNO:=Hj hno;have HNB3:=Hj (hf.blk HNB2.out HNB2.out.lt (Nat.ne_of_gt HRL.out));have HF3:=Hj (fx_trans HF2.out hf);clear hu hf hu2 hno HU2 HNB2 HF2 m2 t0 t1 TB
  go_wp2_with (refine st_tok noT w.heap.size _ HNB3.out rfl rfl _ _ rfl rfl rfl ?_)
  exact bodyPost_ret (rs_tok rfl _ _ w.heap.size noT rfl (HNB3.out.rowS _)) rfl ⟨_,rfl,hd_no,fun u s e=>absurd e (HNO.out u s),HU3.out.fx (wr1_row w3 w.heap.size _).1 HU3.out.lt (fun k hk (q:k=w.heap.size)=>by have:=HRL.out;omega),fx_row HF3.out (.inr (Nat.le_refl _)) _⟩
theorem rrfail_w (R T o cp:Nat)(l:List Tk)(i:Nat)(e a n x c p:Int)(w:World)(H:RW R T o cp l i e a n x w):Calls Tryz.prog 34 #[.pointer (some ⟨R,0,none⟩),.int .i64 c,.int .i64 p] w fun q w'=>q=.returned (.tuple #[])∧RW R T o cp l i (if e=0 then c else e) (if e=0 then p else a) n x w'∧Fx (On R) w.heap.size w w':=by
 have m2:w.cell? ⟨R,2,none⟩=some (.int .i64 e):=H.blk.cell 2;have z2:w.frozen? ⟨R,2,none⟩=false:=H.blk.frozen 2;have m3:w.cell? ⟨R,3,none⟩=some (.int .i64 a):=H.blk.cell 3;have z3:w.frozen? ⟨R,3,none⟩=false:=H.blk.frozen 3
 by_cases c0:e=0
 ·subst c0
  rw[if_pos rfl,if_pos rfl];have b1:Blk ((w.setCell ⟨R,2,none⟩ (.int .i64 c)).setCell ⟨R,3,none⟩ (.int .i64 p)) R 74 #[.slice (some ⟨T,o,none⟩) l.length cp,.int .i64 (i:Int),.int .i64 c,.int .i64 p,.int .i64 n,.int .i64 x]:=(H.blk.set_ 2 (.int .i64 c)).set_ 3 (.int .i64 p);have F:=fx_set (fx_set (Fx.refl (On R) _ w) (p:=⟨R,2,none⟩) (.inl rfl) (.int .i64 c)) (p:=⟨R,3,none⟩) (.inl rfl) (.int .i64 p);have HH:=Hj (H.nums (i':=i) b1 F H.hi);have HF:=Hj F;clear b1 F H;go_enter Tryz.func34,Tryz.ntmps34;go_wp2_with fail;exact bodyPost_end (results_none rfl _ _ _) rfl ⟨rfl,HH.out,HF.out⟩
 ·rw[if_neg c0,if_neg c0]
  have e2:(e == 0)=false:=b_ne c0;have HH:=Hj H;clear H;go_enter Tryz.func34,Tryz.ntmps34;go_wp2_with fail;exact bodyPost_end (results_none rfl _ _ _) rfl ⟨rfl,HH.out,Fx.refl _ _ _⟩
def dpT (d p:Int)(s:PS):Rs Unit:=if 24<d then .no 111 p else .ok () s
theorem rrdeeper_any {α:Type}(R:Nat)(r:Rs α)(d p:Int)(w:World)(h:U R r w) :
  Calls Tryz.prog 71 #[.pointer (some ⟨R,0,none⟩),.int .i64 d,.int .i64 p] w fun e w'=>e=.returned (.bool (r.bind fun _ s=>dpT d p s).isOk)∧U R (r.bind fun _ s=>dpT d p s) w'∧Fx (On R) w.heap.size w w':=by
 have HU:=Hj h;clear h
 have fin:Hid (∀w1,U R (r.bind fun _ s=>dpT d p s) w1→∃er:Int,w1.cell? ⟨R,2,none⟩=some (.int .i64 er)∧(er == 0)=(r.bind fun _ s=>dpT d p s).isOk):=fun w1 hu=>by
  obtain⟨er,m,he⟩:=hu.err;refine⟨er,m,?_⟩
  cases e:(r.bind fun _ s=>dpT d p s).isOk with
  | true=>exact b_eq (he.2 e)
  | false=>exact b_ne (fun e0=>by rw[he.1 e0]at e;cases e)
 by_cases c:24<d
 ·go_enter Tryz.func71,Tryz.ntmps71
  go_wp2_with fail;refine(rrfail_any R r 111 p (by decide) w HU.out).mono ?_;rintro e w1 ⟨rfl,hu,hf⟩;have HU1:Hid (U R (r.bind fun _ s=>dpT d p s) w1):=hu.bind_of fun a s _=>by unfold dpT;rw[if_pos c]
  have HF1:=Hj hf;obtain⟨er,m,he⟩:=fin.out w1 HU1.out;clear hu hf HU fin;go_wp2_with fail;go_ret;exact⟨rfl,HU1.out,HF1.out⟩
 ·have HU1:Hid (U R (r.bind fun _ s=>dpT d p s) w):=by
   refine HU.out.of ?_
   cases r with
   | no c p=>rfl
   | ok a s=>show _=(dpT d p s).st;unfold dpT;rw[if_neg c];rfl
  obtain⟨er,m,he⟩:=fin.out w HU1.out;clear HU fin;go_enter Tryz.func71,Tryz.ntmps71;go_wp2_with fail;go_ret;exact⟨rfl,HU1.out,Fx.refl _ _ _⟩
theorem rrwhole_any {α:Type}(R:Nat)(r:Rs α)(e:EH)(e0:Ex)(he:e0.h.ps=e.ps)(w:World)(h:U R r w) :
  Calls Tryz.prog 76 #[.pointer (some ⟨R,0,none⟩),e.v] w fun q w'=>q=.returned e.v∧U R (r.bind fun _ s=>whole e0 s) w'∧Fx (On R) w.heap.size w w':=by
 obtain⟨T,o,cp,l,i,er,a,n,x,H,g⟩:=h;have HW:=Hj H;have HG:=Hj g;have lR:=H.lt;have HPS:=Hj he;clear H g he;show Calls Tryz.prog 76 #[.pointer (some ⟨R,0,none⟩),.agg #[.int .u8 e.op,.int .i64 e.ps,.bool e.bo,.int .i32 e.it,.int .u64 e.fl,.string ⟨e.nm.toArray⟩,.slice e.s.ao e.s.n e.s.c]] w _;go_enter Tryz.func76,Tryz.ntmps76;have OB:Hid (Blk (bx w (xO e)) w.heap.size 41 e.va):=bx_ex w e;go_upto_region 1 with fail;rw[bx_x];have z1:(bx w (xO e)).heap.size=w.heap.size+1:=bx_size _ _;have F0:Below w.heap.size w (bx w (xO e)):=bx_bel (Below.refl _ _) (Nat.le_refl _) _;generalize bx w (xO e)=wx at *;have OB2:=Hj (OB.out.alloc zX);have NB:Hid (Blk (wx.alloc zX) (w.heap.size+1) 41 zeroH.va):=by rw[←z1];exact Blk.new _ _ _
 have F1:=Hj (bel_alloc F0 zX);have e1:(wx.alloc zX).cell? ⟨w.heap.size,1,none⟩=some (.int .i64 e.ps):=OB2.out.cell 1;have HW1:=Hj (HW.out.below F1.out);have m5:(wx.alloc zX).cell? ⟨R,5,none⟩=some (.int .i64 x):=HW1.out.blk.cell 5;have z5:(wx.alloc zX).frozen? ⟨R,5,none⟩=false:=HW1.out.blk.frozen 5;clear F0 OB z1 HW;change (Code.region 1 _ _).wp _ _ _ (wx.alloc zX);generalize wx.alloc zX=wy at *;have b1:Blk (wy.setCell ⟨R,5,none⟩ (.int .i64 (wrap64 (x+1)))) R 74 #[.slice (some ⟨T,o,none⟩) l.length cp,.int .i64 (i:Int),.int .i64 er,.int .i64 a,.int .i64 n,.int .i64 (wrap64 (x+1))]:=HW1.out.blk.set_ 5 (.int .i64 (wrap64 (x+1)));have F:=fx_set (Fx.refl (On R) _ wy) (p:=⟨R,5,none⟩) (.inl rfl) (.int .i64 (wrap64 (x+1)));have HW2:=Hj (HW1.out.nums (i':=i) b1 F HW1.out.hi);have HF2:=Hj (fx_set (X:=On R) (Fx.of F1.out) (p:=⟨R,5,none⟩) (.inl rfl) (.int .i64 (wrap64 (x+1))));have OB3:=Hj (OB2.out.far (p:=⟨R,5,none⟩) (Nat.ne_of_gt lR) (.int .i64 (wrap64 (x+1))));have NB3:=Hj (NB.out.far (p:=⟨R,5,none⟩) (Nat.ne_of_gt (Nat.lt_succ_of_lt lR)) (.int .i64 (wrap64 (x+1))));go_upto_region 2 with fail;change (Code.region 2 _ _).wp _ _ _ (wy.setCell ⟨R,5,none⟩ (.int .i64 (wrap64 (x+1))))
 clear b1 F OB2 NB F1 e1 m5 z5 HW1;generalize wy.setCell ⟨R,5,none⟩ (.int .i64 (wrap64 (x+1)))=w2 at *;have HX:Hid (∀y:Int,0≤y→y≤2000→x=y→wrap64 (x+1)=y+1):=fun y h0 h1 e=>by unfold wrap64;subst e;omega
 generalize wrap64 (x+1)=x1 at *;have m5:w2.cell? ⟨R,5,none⟩=some (.int .i64 x1):=HW2.out.blk.cell 5;have e1:w2.cell? ⟨w.heap.size,1,none⟩=some (.int .i64 e.ps):=OB3.out.cell 1
 by_cases c:2000<x1
 ·go_wp2_with fail
  refine(rrfail_w R T o cp l i er a n x1 112 e.ps w2 HW2.out).mono ?_;rintro q w3 ⟨rfl,hw,hf⟩;have HW3:=Hj hw;have HF3:=Hj (fx_trans HF2.out hf);have OB4:=Hj (hf.blk OB3.out OB3.out.lt (Nat.ne_of_gt lR));have NB4:=Hj (hf.blk NB3.out NB3.out.lt (Nat.ne_of_gt (Nat.lt_succ_of_lt lR)));clear hw hf m5 e1 HW2 HF2 OB3 NB3
  go_wp2_with (first
   | refine ld_ex e w.heap.size OB4.out rfl _ rfl rfl ?_
   | refine st_ex e (w.heap.size+1) _ NB4.out rfl rfl _ _ rfl rfl rfl ?_)
  refine bodyPost_ret (rs_ex rfl _ _ (w.heap.size+1) e rfl (NB4.out.rowS _)) rfl ⟨rfl,⟨T,o,cp,l,i,_,_,n,x1,HW3.out.fx (wr1_row w3 (w.heap.size+1) _).1 HW3.out.lt (fun k hk (q:k=w.heap.size+1)=>by omega),?_⟩,fx_row HF3.out (.inr (Nat.le_succ _)) _⟩;have g:=HG.out
  cases r with
  | no c' p'=>
   obtain⟨rfl,rfl,g3⟩:=g;exact⟨if_neg g3,if_neg g3,g3⟩
  | ok q s=>
   obtain⟨rfl,rfl,g3,g4,g5,g6,g7⟩:=g;have hx:=HX.out s.nx (Int.natCast_nonneg _) (by omega) g4;have e3:whole e0 s=.no 112 e.ps:=by rw[←HPS.out];exact if_pos (by omega)
   show Gh (whole e0 s) _ _ _ _ _ _;rw[e3];exact⟨if_pos rfl,if_pos rfl,by decide⟩
 ·go_wp2_with (first
   | refine ld_ex e w.heap.size OB3.out rfl _ rfl rfl ?_
   | refine st_ex e (w.heap.size+1) _ NB3.out rfl rfl _ _ rfl rfl rfl ?_)
  refine bodyPost_ret (rs_ex rfl _ _ (w.heap.size+1) e rfl (NB3.out.rowS _)) rfl ⟨rfl,⟨T,o,cp,l,i,_,_,n,x1,HW2.out.fx (wr1_row w2 (w.heap.size+1) _).1 HW2.out.lt (fun k hk (q:k=w.heap.size+1)=>by omega),?_⟩,fx_row HF2.out (.inr (Nat.le_succ _)) _⟩;have g:=HG.out
  cases r with
  | no c' p'=>exact g
  | ok q s=>
   obtain⟨g1,g2,g3,g4,g5,g6,g7⟩:=g;have hx:=HX.out s.nx (Int.natCast_nonneg _) (by omega) g4;have e3:whole e0 s=.ok e0 ⟨s.ts,s.ns,s.nx+1⟩:=if_neg (by omega);show Gh (whole e0 s) _ _ _ _ _ _;rw[e3];exact⟨g1,g2,g3,by show x1=((s.nx+1:Nat):Int);omega,g5,g6,by show s.nx+1≤2000;omega⟩
def bsL:List (List UInt8):=[[43],[45],[42],[47],[60],[60,61],[61,61],[33,61],[62],[62,61],[38,38],[124,124]]
def blL:List Int:=[3,3,4,4,2,2,2,2,2,2,1,0]
theorem map_at {β:Type}(f:β→Value)(d:β)(l:List β){j:Nat}(h:j<l.length):(l.map f).toArray[j]? = some (f (l.getD j d)):=by
 rw[List.getElem?_toArray,List.getElem?_map,List.getD_eq_getElem?_getD,List.getElem?_eq_getElem h];rfl
theorem sg_res:∀j,j<12→bsL.getD j []∈resW:=by decide
theorem sg_hit:∀j,j<12→∀n:Nat,n<5→blL.getD j 0=n→sgO n (bsL.getD j [])=5+j:=by decide
theorem sg_miss (n:Nat)(hn:n<5)(x:List UInt8)(h:∀j,j<12→¬(bsL.getD j []=x∧blL.getD j 0=n)):sgO n x=0:=by
 have h0:=h 0 (by decide);have h1:=h 1 (by decide);have h2:=h 2 (by decide);have h3:=h 3 (by decide);have h4:=h 4 (by decide);have h5:=h 5 (by decide);have h6:=h 6 (by decide);have h7:=h 7 (by decide);have h8:=h 8 (by decide);have h9:=h 9 (by decide);have h10:=h 10 (by decide);have h11:=h 11 (by decide);clear h;simp only[bsL,blL,List.getD_cons_zero,List.getD_cons_succ,not_and,eq_comm (b:=x)]at h0 h1 h2 h3 h4 h5 h6 h7 h8 h9 h10 h11;unfold sgO;have:n=0∨n=1∨n=2∨n=3∨n=4:=by omega
 rcases this with rfl|rfl|rfl|rfl|rfl
 ·rw[if_pos rfl,if_neg (fun e=>h11 e rfl)]
 ·rw[if_neg (by decide),if_pos rfl,if_neg (fun e=>h10 e rfl)]
 ·rw[if_neg (by decide),if_neg (by decide),if_pos rfl,if_neg (fun e=>h4 e rfl),if_neg (fun e=>h5 e rfl),if_neg (fun e=>h6 e rfl),if_neg (fun e=>h7 e rfl),if_neg (fun e=>h8 e rfl),if_neg (fun e=>h9 e rfl)]
 ·rw[if_neg (by decide),if_neg (by decide),if_neg (by decide),if_pos rfl,if_neg (fun e=>h0 e rfl),if_neg (fun e=>h1 e rfl)]
 ·rw[if_neg (by decide),if_neg (by decide),if_neg (by decide),if_neg (by decide),if_neg (fun e=>h2 e rfl),if_neg (fun e=>h3 e rfl)]
theorem rrbinary_any {α:Type}(R:Nat)(r:Rs α)(n:Nat)(hn:n<5)(w:World)(h:U R r w) :
  Calls Tryz.prog 75 #[.pointer (some ⟨R,0,none⟩),.int .i64 (n:Int)] w fun e w'=>∃op:Int,e=.returned (.int .u8 op)∧(∀a s,r=.ok a s→op=sgO n s.hd.tx)∧Below w.heap.size w w':=by
 have HU:=Hj h;clear h;have B0:Blk (w.alloc (.cells (bsL.map fun x=>Value.string ⟨x.toArray⟩).toArray 9)) w.heap.size 9 (bsL.map fun x=>Value.string ⟨x.toArray⟩).toArray:=Blk.new _ _ _;have GS:Hid (Blk ((w.alloc (.cells (bsL.map fun x=>Value.string ⟨x.toArray⟩).toArray 9)).alloc (.cells (blL.map fun x=>Value.int .i64 x).toArray 3)) w.heap.size 9 (bsL.map fun x=>Value.string ⟨x.toArray⟩).toArray):=B0.alloc _
 have GL:Hid (Blk ((w.alloc (.cells (bsL.map fun x=>Value.string ⟨x.toArray⟩).toArray 9)).alloc (.cells (blL.map fun x=>Value.int .i64 x).toArray 3)) (w.heap.size+1) 3 (blL.map fun x=>Value.int .i64 x).toArray):=by
  have:=Blk.new (w.alloc (.cells (bsL.map fun x=>Value.string ⟨x.toArray⟩).toArray 9)) 3 (blL.map fun x=>Value.int .i64 x).toArray;rw[World.size_alloc]at this;exact this
 have HB:Hid (Below w.heap.size w ((w.alloc (.cells (bsL.map fun x=>Value.string ⟨x.toArray⟩).toArray 9)).alloc (.cells (blL.map fun x=>Value.int .i64 x).toArray 3))):=bel_alloc (bel_one w _) _;have HU1:=Hj (HU.out.below HB.out);clear B0 HU;go_enter Tryz.func75,Tryz.ntmps75
 go_upto_block 0 with fail
 change Code.wp _ _ _ _ ((w.alloc (.cells (bsL.map fun x=>Value.string ⟨x.toArray⟩).toArray 9)).alloc (.cells (blL.map fun x=>Value.int .i64 x).toArray 3));generalize (w.alloc (.cells (bsL.map fun x=>Value.string ⟨x.toArray⟩).toArray 9)).alloc (.cells (blL.map fun x=>Value.int .i64 x).toArray 3)=w1 at *;go_wp2_with fail
 go_loopg [7] 12 (fun gk i wr=>∃j:Nat,i=.int .i64 (j:Int)∧Hid (gk=12-j∧j≤12)∧Hid (∀a s,r=.ok a s→∀k,k<j→¬(bsL.getD k []=s.hd.tx∧blL.getD k 0=n))∧Hid (Below w1.heap.size w1 wr))
 case atStart=>exact⟨0,rfl,⟨rfl,by decide⟩,(fun a s _ k hk=>absurd hk (Nat.not_lt_zero k)),Below.refl _ _⟩
 case round=>
  obtain⟨j,rfl,HJ,HM,HR⟩:=hrel;have j12:=HJ.out.2
  by_cases c:j<12
  ·have i0:(0:Int)≤(j:Int):=Int.natCast_nonneg _
   have i1:(j:Int)<12:=by omega
   have m0:wr.cell? ⟨w.heap.size,j,none⟩=some (.string ⟨(bsL.getD j []).toArray⟩):=((GS.out.below HR.out GS.out.lt).cell j).trans (map_at _ [] bsL c);have IS:=Hj (rris_any R r (bsL.getD j []) (sg_res j c) wr (HU1.out.below HR.out));go_wp2_with fail;refine IS.out.mono ?_;rintro e w2 ⟨b,rfl,hb,bl⟩;have HB2:=Hj hb;have HR2:=Hj (bel_trans HR.out bl);obtain⟨bv,hbv⟩:∃bv,blL.getD j 0=bv:=⟨_,rfl⟩
   have m1:w2.cell? ⟨w.heap.size+1,j,none⟩=some (.int .i64 bv):=by
    rw[←hbv];exact((GL.out.below HR2.out GL.out.lt).cell j).trans (map_at _ 0 blL c)
   have HBV:=Hj hbv;clear m0 IS hb bl HR hbv;have ov:IntKind.i64.wrap ((j:Int)+1)=(j:Int)+1:=by rw[IntKind.wrap_i64];omega
   have ov8:IntKind.u8.wrap (5+(j:Int))=5+(j:Int):=by rw[IntKind.wrap_u8];omega
   have ov9:IntKind.u8.wrap (j:Int)=(j:Int):=by rw[IntKind.wrap_u8];omega
   cases b with
   | false=>
    go_wp2_with fail
    go_roundg (12-(j+1))
    case measure=>have:=HJ.out.1;omega
    case rel=>
     refine⟨j+1,rfl,⟨rfl,c⟩,fun a s hr k hk=>?_,HR2.out⟩
     by_cases ck:k=j
     ·subst ck
      intro h1;have h2:=HB2.out a s hr;rw[h1.1]at h2
      simp at h2
     ·exact HM.out a s hr k (by omega)
   | true=>
    by_cases c3:bv=n
    ·have e3:=b_eq c3
     go_wp2_with fail;go_ret;refine⟨_,rfl,fun a s hr=>?_,bel_trans HB.out HR2.out⟩;have h2:s.hd.tx=bsL.getD j []:=of_decide_eq_true (by simpa using(HB2.out a s hr).symm);rw[h2];exact(sg_hit j c n hn (HBV.out.trans c3)).symm
    ·have e3:=b_ne c3
     go_wp2_with fail
     go_roundg (12-(j+1))
     case measure=>have:=HJ.out.1;omega
     case rel=>
      refine⟨j+1,rfl,⟨rfl,c⟩,fun a s hr k hk=>?_,HR2.out⟩
      by_cases ck:k=j
      ·subst ck
       exact fun h1=>c3 (HBV.out.symm.trans h1.2)
      ·exact HM.out a s hr k (by omega)
  ·have ci:¬(j:Int)<12:=by omega
   go_wp2_with fail;go_ret;refine⟨_,rfl,fun a s hr=>(sg_miss n hn s.hd.tx (fun k hk=>HM.out a s hr k (by omega))).symm,bel_trans HB.out HR.out⟩
end Go.Proofs.YthmlhkllbichgaaGreatDoor
namespace Go.Proofs.YthmlhkllbichgaaGreatDoor
set_option maxHeartbeats 16000000
open Go.RowKit Go.Maps
set_option maxRecDepth 100000
def PX (R:Nat)(w:World)(r:Rs Ex)(e:Ending)(w':World):Prop:=∃e':Ex,e=.returned e'.h.v∧XO (Fro w.heap.size) e' w'∧(∀a s,r=.ok a s→e'.eqv a)∧U R r w'∧Fx (On R) w.heap.size w w'
def RU (R k:Nat):Prop:=∀(α:Type) (r:Rs α) (w:World) (d:Int),d+k=24→U R r w→Calls Tryz.prog 74 #[.pointer (some ⟨R,0,none⟩),.int .i64 d] w (PX R w (r.bind fun _ s=>unK k s))
def RL (R k m:Nat):Prop:=∀(α:Type) (r:Rs α) (w:World) (d n:Int),d+k=24→n+m=5→U R r w→Calls Tryz.prog 41 #[.pointer (some ⟨R,0,none⟩),.int .i64 n,.int .i64 d] w (PX R w (r.bind fun _ s=>lvl (unK k) m s))
def meas {α:Type}:Rs α→Nat
 | .ok _ s=>s.ts.length+1
 | .no _ _=>0
def lvK (n:Nat)(p:PS→Rs Ex)(f:Nat)(e:Ex)(s:PS):Rs Ex:=if n=2 then(if sgO 2 s.hd.tx=0 then .ok e s else binr 2 p e s)else chain n p f e s
theorem bind_pure {α:Type}(r:Rs α):(r.bind fun a s=>.ok a s)=r:=by cases r<;>rfl
theorem bind_bind {α β γ:Type}(r:Rs α)(f:α→PS→Rs β)(g:β→PS→Rs γ):(r.bind f).bind g=r.bind fun a s=>(f a s).bind g:=by cases r<;>rfl
theorem lvK_step (n:Nat)(p:PS→Rs Ex)(f:Nat)(e:Ex)(s:PS):lvK n p (f+1) e s=if sgO n s.hd.tx=0 then .ok e s else(binr n p e s).bind fun e' s'=>if n=2 then .ok e' s' else lvK n p f e' s':=by
 unfold lvK
 by_cases c:n=2
 ·subst c
  simp only[if_true];rw[bind_pure]
 ·simp only[if_neg c]
  rw[chain]
theorem lvl_K (u:PS→Rs Ex)(m:Nat)(hm:m≤4)(s:PS):lvl u (m+1) s=(lvl u m s).bind fun e s'=>lvK (4-m) (lvl u m) (s'.ts.length+1) e s':=by
 show((lvl u m s).bind fun e s'=>if m=2 then(if sgO 2 s'.hd.tx=0 then .ok e s' else binr 2 (lvl u m) e s')else chain (4-m) (lvl u m) (s'.ts.length+1) e s')=_
 cases lvl u m s with
 | no c p=>rfl
 | ok e s'=>
  rw[bind_ok,bind_ok];unfold lvK
  by_cases c:m=2
  ·subst c;rfl
  ·rw[if_neg c,if_neg (by omega)]
theorem ok_inv {α β:Type}{r:Rs α}{f:α→PS→Rs β}{b:β}{s':PS}(h:r.bind f=.ok b s'):∃a s,r=.ok a s∧f a s=.ok b s':=by
 cases r with
 | no c p=>cases h
 | ok a s=>exact⟨a,s,rfl,h⟩
theorem whole_st (e e0:Ex)(h:e.h.ps=e0.h.ps)(s:PS):(whole e s).st=(whole e0 s).st:=by
 unfold whole;split
 ·rw[h]
 ·rfl
theorem rrlevel_zero (R k:Nat)(hu:RU R k):RL R k 0:=by
 intro α r w d n hd hn h;obtain rfl:n=5:=by omega
 have BL:=bel_one w zX;have HU:=Hj (h.below BL);have NB:Hid (Blk (w.alloc zX) w.heap.size 41 zeroH.va):=Blk.new _ _ _;have HRL:=Hj h.lt;have HF:Hid (Fx (On R) w.heap.size w (w.alloc zX)):=Fx.of BL;have HSZ:Hid (w.heap.size<(w.alloc zX).heap.size):=NB.out.lt;have C:=Hj (hu α r (w.alloc zX) d hd HU.out);clear BL h hu hn;show Calls _ _ _ _ (PX R w (r.bind fun _ s=>unK k s));generalize (r.bind fun _ s=>unK k s)=Z at *;go_enter Tryz.func41,Tryz.ntmps41;go_upto_region 1 with fail;change Code.wp _ _ _ _ (w.alloc zX);generalize w.alloc zX=w0 at *;go_wp2_with fail;refine C.out.mono ?_;rintro q w1 ⟨e',rfl,xe,eb,hu1,hf⟩;have HX:=Hj xe;have EB:=Hj eb;have HU1:=Hj hu1;have NB1:=Hj (hf.blk NB.out NB.out.lt (on_ne HRL.out));have HF1:=Hj (fx_trans HF.out hf);clear xe eb hu1 hf C HF HU NB
 go_wp2_with (refine st_ex e'.h w.heap.size _ NB1.out rfl rfl _ _ rfl rfl rfl ?_)
 exact bodyPost_ret (rs_ex rfl _ _ w.heap.size e'.h rfl (NB1.out.rowS _)) rfl ⟨e',rfl,(HX.out.row (fun(x:w0.heap.size≤w.heap.size)=>by have:=HSZ.out;omega) _).imp (fun k _ (x:w0.heap.size≤k)=>Nat.le_trans (Nat.le_of_lt HSZ.out) x),EB.out,HU1.out.fx (wr1_row w1 w.heap.size _).1 HU1.out.lt (fun k hk (q:k=w.heap.size)=>by have:=HRL.out;omega),fx_row HF1.out (.inr (Nat.le_refl _)) _⟩
theorem rrlevel_succ (R k m:Nat)(hm:m≤4)(ih:RL R k m)(hrd:Rdx (lvl (unK k) m)):RL R k (m+1):=by
 intro α r w d n hd hn h;obtain⟨q,hq⟩:∃q:Nat,4 - m=q:=⟨_,rfl⟩;obtain rfl:n=(q:Int):=by omega
 have hq5:q<5:=by omega
 have hqn:((q:Int)=2)↔q=2:=by omega
 have BL:=bel_one w zX;have HU:=Hj (h.below BL);have NB:Hid (Blk (w.alloc zX) w.heap.size 41 zeroH.va):=Blk.new _ _ _;have HRL:=Hj h.lt;have HF:Hid (Fx (On R) w.heap.size w (w.alloc zX)):=Fx.of BL;have HSZ:Hid (w.heap.size<(w.alloc zX).heap.size):=NB.out.lt;have C:=Hj (fun(β:Type) (r:Rs β) w hw=>ih β r w d ((q:Int)+1) hd (by omega) hw)
 have EZ:Hid ((r.bind fun _ s=>lvl (unK k) (m+1) s)=((r.bind fun _ s=>lvl (unK k) m s).bind fun e s'=>lvK q (lvl (unK k) m) (s'.ts.length+1) e s')):=by
  show _=_
  cases r with
  | no c p=>rfl
  | ok a s=>rw[bind_ok,bind_ok,lvl_K _ m hm,hq]
 have HRD:=Hj hrd;have w64:wrap64 ((q:Int)+1)=(q:Int)+1:=by unfold wrap64;omega
 have n4:¬(4:Int)<(q:Int):=by omega
 clear BL h ih hd hn hq hrd;generalize lvl (unK k) m=p at *;show Calls _ _ _ _ (PX R w (r.bind fun _ s=>lvl (unK k) (m+1) s));generalize (r.bind fun _ s=>lvl (unK k) (m+1) s)=Z at *;go_enter Tryz.func41,Tryz.ntmps41;go_upto_region 1 with fail;change Code.wp _ _ _ _ (w.alloc zX);generalize w.alloc zX=w0 at *;go_wp2_with fail;refine(C.out α r w0 HU.out).mono ?_;rintro q1 w1 ⟨b,rfl,xb,eb,h1,f1⟩;generalize (r.bind fun _ s=>p s)=S0 at *;have BLb:=bx_bel (Below.refl w1.heap.size w1) (Nat.le_refl _) (xO b.h);have hs1:=f1.size;have hs0:=HSZ.out;have HX1:=Hj ((xb.imp (D':=fun k=>w.heap.size<k∧k≠w1.heap.size) (fun k hk (x:w0.heap.size≤k)=>⟨by omega,by omega⟩)).bel BLb);have HG1:Hid (w.heap.size<w1.heap.size):=by show w.heap.size<w1.heap.size;omega
 have BB:Hid (Blk (bx w1 (xO b.h)) w1.heap.size 41 b.h.va):=bx_ex w1 b.h;have HR1:=Hj (h1.below BLb);have n1:=f1.blk NB.out NB.out.lt (on_ne HRL.out);have NB1:=Hj (n1.below BLb n1.lt);have HF1:=Hj (fx_bel (fx_trans HF.out f1) BLb);have EB:=Hj eb;have E:=Hj EZ.out.symm;clear xb h1 f1 BLb hs1 hs0 HSZ HU NB HF eb n1 EZ;unfold EH.v;go_wp2_with fail;rw[bx_x];generalize w1.heap.size=g at *;generalize bx w1 (xO b.h)=w2 at *;have HRg:Hid (R<g):=Nat.lt_trans HRL.out HG1.out
 go_loopg [8] (meas S0) (fun gk _ wr=>∃(σ:Rs Ex) (e':Ex) (f:Nat),Hid (gk=meas σ)∧Hid (Blk wr g 41 e'.h.va)∧Hid (XO (fun k=>w.heap.size<k∧k≠g) e' wr)∧Hid (∀a s,σ=.ok a s→e'.eqv a)∧Hid (U R σ wr)∧Hid (Fx (On R) w.heap.size w wr)∧Hid (Blk wr w.heap.size 41 zeroH.va)∧Hid (∀a s,σ=.ok a s→s.ts.length<f)∧Hid ((σ.bind fun e s=>lvK q p f e s)=Z))
 case atStart=>
  refine⟨S0,b,meas S0,rfl,BB,HX1,EB,HR1,HF1,NB1,(fun a s e=>by subst e;exact Nat.lt_succ_self _),?_⟩;show _=_;rw[←E.out];cases S0<;>rfl
 case round=>
  clear BB HX1 EB HR1 HF1 NB1 E;obtain⟨σ,e',f,HGK,BB,HX,EB,HR,HF,NB,HFL,HZ⟩:=hrel;obtain⟨er,m2,he⟩:=HR.out.err
  cases σ with
  | no c x=>
   have e0:(er == 0)=false:=b_ne (fun e=>by have:=he.1 e;cases this);have E:Hid (Z=.no c x):=HZ.out.symm;clear he
   go_wp2_with (first
    | refine ld_ex e'.h g BB.out rfl _ rfl rfl ?_
    | refine st_ex e'.h w.heap.size _ NB.out rfl rfl _ _ rfl rfl rfl ?_)
   refine bodyPost_ret (rs_ex rfl _ _ w.heap.size e'.h rfl (NB.out.rowS _)) rfl ?_;rw[E.out];exact⟨e',rfl,(HX.out.row (fun x=>Nat.lt_irrefl _ x.1) _).imp (fun k _ x=>Nat.le_of_lt x.1),(fun a s e=>by cases e),(HR.out.fx (wr1_row wr w.heap.size _).1 HR.out.lt (fun k hk (q:k=w.heap.size)=>by have:=HRL.out;omega)).of rfl,fx_row HF.out (.inr (Nat.le_refl _)) _⟩
  | ok e s=>
   obtain rfl:er=0:=he.2 rfl;obtain⟨f,rfl⟩:∃f',f=f'+1:=⟨f - 1,by have:=HFL.out e s rfl;omega⟩;have HEB:=Hj (EB.out e s rfl);have HE0:Hid (lvK q p (f+1) e s=Z):=HZ.out;have HGD:=Hj HR.out.good;have BI:=Hj (rrbinary_any R (.ok e s) q hq5 wr HR.out);clear he EB HZ;go_wp2_with fail;refine BI.out.mono ?_;rintro r3 w3 ⟨op,rfl,hop,hb⟩;have HOP:=Hj (hop e s rfl);have BB2:=Hj (BB.out.below hb BB.out.lt);have NB2:=Hj (NB.out.below hb NB.out.lt);have HX2:=Hj (HX.out.bel hb);have HR2:=Hj (HR.out.below hb);have HF2:=Hj (fx_bel HF.out hb);clear BB NB HX HR HF BI hb hop m2
   by_cases c:op=0
   ·have E:Hid (Z=.ok e s):=by show Z=_;rw[←HE0.out,lvK_step,if_pos (by rw[←HOP.out];exact c)]
    subst c
    go_wp2_with (first
     | refine ld_ex e'.h g BB2.out rfl _ rfl rfl ?_
     | refine st_ex e'.h w.heap.size _ NB2.out rfl rfl _ _ rfl rfl rfl ?_)
    refine bodyPost_ret (rs_ex rfl _ _ w.heap.size e'.h rfl (NB2.out.rowS _)) rfl ?_;rw[E.out];exact⟨e',rfl,(HX2.out.row (fun x=>Nat.lt_irrefl _ x.1) _).imp (fun k _ x=>Nat.le_of_lt x.1),(fun a s' e=>by cases e;exact HEB.out),HR2.out.fx (wr1_row w3 w.heap.size _).1 HR2.out.lt (fun k hk (q:k=w.heap.size)=>by have:=HRL.out;omega),fx_row HF2.out (.inr (Nat.le_refl _)) _⟩
   ·have c2:=b_ne c
    have c3:sgO q s.hd.tx≠0:=by rw[←HOP.out];exact c
    have E:Hid ((binr q p e s).bind (fun e' s'=>if q=2 then .ok e' s' else lvK q p f e' s')=Z):=by show _=Z;rw[←HE0.out,lvK_step,if_neg c3]
    have hk:s.hd.kd≠0:=HGD.out.kd (sgO_ne c3);have HLF:=Hj (lf_bin (e:=e) HRD.out HGD.out c3);have NX:=Hj (rrnext_any R (.ok e s) w3 HR2.out (fun a s' e=>by cases e;exact hk));have ft:=fun(t:Tk) w=>tkv_ps t w;have HBD:=Hj (sgO_bd q s.hd.tx);have HPS:=Hj HGD.out.hd;have HPO:=Hj HGD.out.pos;clear hk c c3 HE0;go_wp2_with fail;refine NX.out.mono ?_;rintro r4 w4 ⟨t,rfl,htd,ht,h4,f4⟩;have HT:=Hj (ht e s rfl);have BB4:=Hj (f4.blk BB2.out BB2.out.lt (on_ne HRg.out));have NB4:=Hj (f4.blk NB2.out NB2.out.lt (on_ne HRL.out));have HX4:=Hj (HX2.out.fx f4 (on_not (fun x=>Nat.lt_asymm x.1 HRL.out)));have HR4:Hid (U R (.ok e s.tk) w4):=h4.of rfl;have HF4:=Hj (fx_trans HF2.out f4);clear NX BB2 NB2 HX2 HR2 HF2 htd ht h4 f4;go_wp2_with fail;refine(C.out Ex (.ok e s.tk) w4 HR4.out).mono ?_;rintro r5 w5 ⟨b5,rfl,xb,eb,h5,f5⟩;have h5':U R (p s.tk) w5:=h5;have eb':∀a s',p s.tk=.ok a s'→b5.eqv a:=eb;have hs5:=f5.size;have lg:=BB4.out.lt;have BLb:=bx_bel (Below.refl w5.heap.size w5) (Nat.le_refl _) (xO b5.h);have hgl:w.heap.size<w4.heap.size:=NB4.out.lt;have HXb:=Hj ((xb.imp (D':=fun k=>w.heap.size<k∧k≠g) (fun k _ (x:w4.heap.size≤k)=>⟨by omega,by omega⟩)).bel BLb)
    have BB5:Hid (Blk (bx w5 (xO b5.h)) w5.heap.size 41 b5.h.va):=bx_ex w5 b5.h;have b1:=f5.blk BB4.out BB4.out.lt (on_ne HRg.out);have n1:=f5.blk NB4.out NB4.out.lt (on_ne HRL.out);have BBx:=Hj (b1.below BLb b1.lt);have NBx:=Hj (n1.below BLb n1.lt);have HXx:=Hj ((HX4.out.fx f5 (on_not (fun x=>Nat.lt_asymm x.1 HRL.out))).bel BLb);have HRx:=Hj (h5'.below BLb);have HFx:=Hj (fx_bel (fx_trans HF4.out f5) BLb);have EBb:=Hj eb';have HSx:Hid (w.heap.size<(bx w5 (xO b5.h)).heap.size∧g<(bx w5 (xO b5.h)).heap.size):=⟨(n1.below BLb n1.lt).lt,(b1.below BLb b1.lt).lt⟩;clear BB4 NB4 HX4 HR4 HF4 xb eb eb' h5 h5' f5 hs5 lg BLb hgl b1 n1;unfold EH.v;go_upto_region 10 with fail;rw[bx_x];generalize w5.heap.size=bb at *;generalize bx w5 (xO b5.h)=w6 at *
    go_wp2_with (first
     | refine ld_ex e'.h g BBx.out rfl _ rfl rfl ?_
     | refine ld_ex b5.h bb BB5.out rfl _ rfl rfl ?_)
    have BL7:=bel_one w6 (.cells (e'.h.vs++b5.h.vs).toArray 41);have HX7:=Hj (two_in (op:=op) (ps:=t.ps) HXx.out HXb.out ⟨HSx.out.1,Nat.ne_of_gt HSx.out.2⟩ (by rw[HOP.out];exact HBD.out.1) (by rw[HOP.out];exact HBD.out.2) (by rw[HT.out];exact HPS.out.ps0) (by rw[HT.out];exact HPS.out.ps1) (t:=41) rfl);have HR7:=Hj (HRx.out.below BL7);have NB7:=Hj (NBx.out.below BL7 NBx.out.lt);have BB7:=Hj (BBx.out.below BL7 BBx.out.lt);have HF7:=Hj (fx_bel HFx.out BL7);clear BL7 HXx HXb HRx NBx BBx HFx BB5;change Calls _ _ _ (w6.alloc (.cells (e'.h.vs++b5.h.vs).toArray 41)) _;generalize w6.alloc (.cells (e'.h.vs++b5.h.vs).toArray 41)=w7 at *;generalize w6.heap.size=rw_ at *;refine(rrwhole_any R (p s.tk) ⟨op,t.ps,false,0,0,[],⟨some ⟨rw_,0,none⟩,2,2⟩⟩ (opX op t.ps []) rfl w7 HR7.out).mono ?_;rintro r8 w8 ⟨rfl,h8,f8⟩
    have HRb:Hid (U R (binr q p e s) w8):=h8.of (by
     unfold binr
     cases p s.tk with
     | no c x=>rfl
     | ok b s'=>exact whole_st _ _ (by rw[HT.out];rfl) s')
    have HE8:Hid (∀a s',binr q p e s=.ok a s'→(Ex.mk ⟨op,t.ps,false,0,0,[],⟨some ⟨rw_,0,none⟩,2,2⟩⟩ (fun i=>if i=0 then e' else b5)).eqv a):=fun a s' hab=>by
     obtain⟨b,s2,h1,h2⟩:=ok_inv hab;have:=whole_ok h2;subst this;rw[HOP.out,HT.out];exact two_eqv HEB.out (EBb.out b s2 h1)
    have BB8:=Hj (f8.blk BB7.out BB7.out.lt (on_ne HRg.out));have NB8:=Hj (f8.blk NB7.out NB7.out.lt (on_ne HRL.out));have HX8:=Hj (HX7.out.fx f8 (on_not (fun x=>Nat.lt_asymm x.1 HRL.out)));have HF8:=Hj (fx_trans HF7.out f8);clear BB7 NB7 HX7 HF7 HR7 h8 f8 EBb HEB
    go_upto_region 11 with(refine st_ex ⟨op,t.ps,false,0,0,[],⟨some ⟨rw_,0,none⟩,2,2⟩⟩ g _ BB8.out rfl rfl _ _ rfl rfl rfl ?_)
    change Code.wp _ _ _ _ (w8.setRow g (EH.va ⟨op,t.ps,false,0,0,[],⟨some ⟨rw_,0,none⟩,2,2⟩⟩));have WR:=wr1_row w8 g (EH.va ⟨op,t.ps,false,0,0,[],⟨some ⟨rw_,0,none⟩,2,2⟩⟩);have BB9:=Hj (BB8.out.rowS (EH.va ⟨op,t.ps,false,0,0,[],⟨some ⟨rw_,0,none⟩,2,2⟩⟩));have NB9:=Hj (WR.blk NB8.out (Nat.ne_of_lt HG1.out));have HX9:=Hj (HX8.out.fx WR.1 (on_not (fun x=>x.2 rfl)));have HR9:=Hj (HRb.out.fx WR.1 HRb.out.lt (fun k hk (x:k=g)=>by have:=HRg.out;omega));have HF9:=Hj (WR.fx HF8.out (Nat.le_of_lt HG1.out));clear WR BB8 NB8 HX8 HRb HF8;generalize w8.setRow g (EH.va ⟨op,t.ps,false,0,0,[],⟨some ⟨rw_,0,none⟩,2,2⟩⟩)=w9 at *
    by_cases c9:q=2
    ·have d9:((q:Int) == 2)=true:=b_eq (hqn.2 c9)
     have E9:Hid (binr q p e s=Z):=by show _=Z;rw[←E.out];simp only[if_pos c9];exact(bind_pure _).symm
     go_wp2_with (first
      | refine ld_ex ⟨op,t.ps,false,0,0,[],⟨some ⟨rw_,0,none⟩,2,2⟩⟩ g BB9.out rfl _ rfl rfl ?_
      | refine st_ex ⟨op,t.ps,false,0,0,[],⟨some ⟨rw_,0,none⟩,2,2⟩⟩ w.heap.size _ NB9.out rfl rfl _ _ rfl rfl rfl ?_)
     refine bodyPost_ret (rs_ex rfl _ _ w.heap.size ⟨op,t.ps,false,0,0,[],⟨some ⟨rw_,0,none⟩,2,2⟩⟩ rfl (NB9.out.rowS _)) rfl ?_;rw[←E9.out];exact⟨_,rfl,(HX9.out.row (fun x=>Nat.lt_irrefl _ x.1) _).imp (fun k _ x=>Nat.le_of_lt x.1),HE8.out,HR9.out.fx (wr1_row w9 w.heap.size _).1 HR9.out.lt (fun k hk (x:k=w.heap.size)=>by have:=HRL.out;omega),fx_row HF9.out (.inr (Nat.le_refl _)) _⟩
    ·have d9:((q:Int) == 2)=false:=b_ne (fun x=>c9 (hqn.1 x))
     have E9:Hid ((binr q p e s).bind (fun e' s'=>lvK q p f e' s')=Z):=by show _=Z;rw[←E.out];simp only[if_neg c9]
     go_wp2_with fail
     go_roundg (meas (binr q p e s))
     case measure=>
      have h1:=HGK.out;have h2:=HPO.out
      have h3:meas (binr q p e s)<s.ts.length+1:=by
       cases e1:binr q p e s with
       | no c x=>show 0<_;omega
       | ok a s'=>have:=(HLF.out a s' e1).2.1;show s'.ts.length+1<_;omega
      have h4:gk=s.ts.length+1:=h1;omega
     case rel=>exact⟨binr q p e s,Ex.mk ⟨op,t.ps,false,0,0,[],⟨some ⟨rw_,0,none⟩,2,2⟩⟩ (fun i=>if i=0 then e' else b5),f,rfl,BB9.out,HX9.out,HE8.out,HR9.out,HF9.out,NB9.out,(fun a s' e1=>by have h1:=(HLF.out a s' e1).2.1;have h2:=HFL.out e s rfl;have h3:=HPO.out;omega),E9.out⟩
theorem rrlevel_any (R k:Nat)(hu:RU R k):∀m,m≤5→RL R k m
 | 0,_=>rrlevel_zero R k hu
 | m+1,h=>rrlevel_succ R k m (by omega) (rrlevel_any R k hu m (by omega)) (rdx_lvl (rd_unK k) m)
end Go.Proofs.YthmlhkllbichgaaGreatDoor
