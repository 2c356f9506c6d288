/-
  ParseParses: a source's tree, or what is wrong with it, is the reference's. (part 24 of 38) Conditions: none beside what the card ties.
-/
import Derived.Test.YthmlhkllbichgaaGreatDoorVaw
namespace Go.Proofs.YthmlhkllbichgaaGreatDoor
set_option maxHeartbeats 16000000
open Go.RowKit
set_option maxRecDepth 100000
def prvs (t:Int)(d i s:Sl):List Value:=[.int .i64 t,.slice d.ao d.n d.c,.slice i.ao i.n i.c,.slice s.ao s.n s.c]
def prv (t:Int)(d i s:Sl):Value:=.agg #[.int .i64 t,.slice d.ao d.n d.c,.slice i.ao i.n i.c,.slice s.ao s.n s.c]
def zPr:Obj:=.cells (prvs 0 ⟨none,0,0⟩ ⟨none,0,0⟩ ⟨none,0,0⟩).toArray 30
def Pr.eqv (p q:Pr):Prop:=p.ticks=q.ticks∧(p.ds.n=q.ds.n∧∀i,i<p.ds.n→(p.d i).eqv (q.d i))∧(p.is.n=q.is.n∧∀i,i<p.is.n→(p.i i).eqv (q.i i))∧(p.ss.n=q.ss.n∧∀i,i<p.ss.n→(p.s i).eqv (q.s i))
def XPr (D:Nat→Prop)(p:Pr)(w:World):Prop:=p.In w.heap.size (up D w)
def VP (L:Nat)(p:Pr)(v:Value)(w:World):Prop:=∃p':Pr,v=p'.v∧XPr (Fro L) p' w∧p'.eqv p
section
variable {ops:Array Oper} {rest:List Oper} {o:Oper} {a:Act} {w:World} {Q:Exit→Act→World→Prop}
theorem st_pr (t:Int)(d i s:Sl)(g:Nat)(old:Array Value)(hg:Blk w g 30 old)(hold:old.size=4)(hgd:o.guard=none)(x y:Operand)(ho:o.op=.store 30 x y)(hx:a.eval x=.pointer (some ⟨g,0,none⟩))(hy:a.eval y=prv t d i s)
  (hw:wpList Tryz.prog ops Q rest (a.put o.dst undef) (w.setRow g (prvs t d i s).toArray)):wpList Tryz.prog ops Q (o::rest) a w:=
 wpList_store_row hgd 30 x y ho g (prvs t d i s).toArray hx hy 30 old hg (by kernel_rfl) hold (by simp[prvs,Value.oneCell']) hw
theorem ld_pr (t:Int)(d i s:Sl)(g:Nat)(hg:Blk w g 30 (prvs t d i s).toArray)(hgd:o.guard=none)(x:Operand)(ho:o.op=.load 30 x)(hx:a.eval x=.pointer (some ⟨g,0,none⟩))
  (hw:wpList Tryz.prog ops Q rest (a.put o.dst (prv t d i s)) w):wpList Tryz.prog ops Q (o::rest) a w:=
 wpList_load_row hgd 30 x ho g hx 30 (prvs t d i s).toArray (0,0) _ hg Tryz.underlying30 rfl (by kernel_rfl) hw
end
theorem rs_pr {fn:Func}{p:Tmp}(h:fn.results=#[.cell p 30])(tmps:Array Value)(w:World)(g:Nat)(t:Int)(d i s:Sl)(hp:tmps.getD p undef=.pointer (some ⟨g,0,none⟩))(hg:Blk w g 30 (prvs t d i s).toArray):(results fn tmps).run Tryz.prog w=.ok (prv t d i s) w:=
 results_cell_row h tmps w g 30 (prvs t d i s).toArray (0,0) _ hp hg Tryz.underlying30 rfl (by kernel_rfl)
theorem endT_bind {α:Type}(x:α)(s:PS):endT x s=(endT () s).bind fun _ s=>.ok x s:=by
 unfold endT
 split<;>rfl
theorem ppprogram_any (R:Nat)(s:PS)(w:World)(h:Rdr R 0 s w):Calls Tryz.prog 29 #[.pointer (some ⟨R,0,none⟩)] w (PO R 0 w (prog s) (VP w.heap.size)):=by
 have fn:=fun t w=>tkv_nn t w;have BL:Below w.heap.size w ((w.alloc zPr).alloc zPr):=bel_alloc (bel_one w _) _;have k0:Blk ((w.alloc zPr).alloc zPr) w.heap.size 30 (prvs 0 ⟨none,0,0⟩ ⟨none,0,0⟩ ⟨none,0,0⟩).toArray:=(Blk.new w _ _).alloc zPr
 have k1:Blk ((w.alloc zPr).alloc zPr) (w.heap.size+1) 30 (prvs 0 ⟨none,0,0⟩ ⟨none,0,0⟩ ⟨none,0,0⟩).toArray:=by
  have:=Blk.new (w.alloc zPr) 30 (prvs 0 ⟨none,0,0⟩ ⟨none,0,0⟩ ⟨none,0,0⟩).toArray;rw[World.size_alloc]at this;exact this
 have hl:=h.lt;have NB_0:=Hj k0;have SB_0:=Hj k1;have HR:=Hj (h.below BL h.lt);have HF:Hid (Fx (On R) w.heap.size w ((w.alloc zPr).alloc zPr)):=Fx.of BL;have HRS:Hid (R<w.heap.size+1):=Nat.lt_succ_of_lt hl;have HRN:Hid (R<w.heap.size):=hl;have HSB:Hid (w.heap.size≤w.heap.size+1):=Nat.le_succ _;have HNB:Hid (w.heap.size≤w.heap.size):=Nat.le_refl _;have HNE:Hid (w.heap.size≠w.heap.size+1):=(by show w.heap.size≠w.heap.size+1;omega);have HD:Hid (¬(fun k=>w.heap.size+1<k) R):=(fun(x:w.heap.size+1<R)=>by omega);have HDS:Hid (¬(fun k=>w.heap.size+1<k) (w.heap.size+1)):=Nat.lt_irrefl _;have HDN:Hid (¬(fun k=>w.heap.size+1<k) w.heap.size):=(fun(x:w.heap.size+1<w.heap.size)=>by omega);generalize hZ:prog s=Z;unfold prog at hZ;have E:=Hj hZ;clear BL k0 k1 h hZ hl;go_enter Tryz.func29,Tryz.ntmps29;go_upto_region 2 with fail;change (Code.region 2 _ _).wp _ _ _ ((w.alloc zPr).alloc zPr);generalize ((w.alloc zPr).alloc zPr)=w0 at *;generalize w.heap.size+1=sb at *;go_wp2_with fail;refine(ppexpect_any R 0 s ticksW (by decide) w0 HR.out).mono ?_;intro r wa11 hpo
 cases hres:expT ticksW s with
 | no c q=>
  rw[hres]at hpo;obtain⟨rfl,f⟩:=hpo;have HFn:=Hj (fx_trans HF.out f);have E2:=E.out;rw[hres,bind_no]at E2;have En:=Hj E2;clear f hres E2;go_wp2_with fail;refine⟨rfl,?_⟩;rw[←En.out];exact⟨rfl,HFn.out⟩
 | ok u1 s1=>
  rw[hres]at hpo;obtain⟨v,rfl,hv,h',f⟩:=hpo;unfold V0 at hv;subst hv;have E2:=E.out;rw[hres,bind_ok]at E2;have E11:=Hj E2;have HR11:=Hj h';have HF11:=Hj (fx_trans HF.out f);have NB_11:=Hj (f.blk NB_0.out NB_0.out.lt (on_ne HRN.out));have SB_11:=Hj (f.blk SB_0.out SB_0.out.lt (on_ne HRS.out));clear f hres h' E2 HR HF E NB_0 SB_0;go_wp2_with fail;refine(pptakeKind_any R 0 s1 2 (by decide) wa11 HR11.out).mono ?_;intro r wa12 hpo
  cases hres:kindT 2 s1 with
  | no c q=>
   rw[hres]at hpo;obtain⟨rfl,f⟩:=hpo;have HFn:=Hj (fx_trans HF11.out f);have E2:=E11.out;rw[hres,bind_no]at E2;have En:=Hj E2;clear f hres E2;go_wp2_with fail;refine⟨rfl,?_⟩;rw[←En.out];exact⟨rfl,HFn.out⟩
  | ok t s2=>
   rw[hres]at hpo;obtain⟨v,rfl,hv,h',f⟩:=hpo;subst hv;have hnn:0≤t.nn∧t.nn≤2147483647:=by rw[kind_hd hres];exact⟨HR11.out.good.hd.nn0,HR11.out.good.hd.nn1⟩
   have HNN:=Hj hnn;have ov:IntKind.i64.wrap t.nn=t.nn:=by rw[IntKind.wrap_i64];omega
   clear hnn;have E2:=E11.out;rw[hres,bind_ok]at E2;have E12:=Hj E2;have HR12:=Hj h';have HF12:=Hj (fx_trans HF11.out f);have NB_12:=Hj (f.blk NB_11.out NB_11.out.lt (on_ne HRN.out));have SB_12:=Hj (f.blk SB_11.out SB_11.out.lt (on_ne HRS.out));clear f hres h' E2 HR11 HF11 E11 NB_11 SB_11;have m13:wa12.cell? ⟨sb,0,none⟩=some (.int .i64 0):=SB_12.out.cell 0;have z13:wa12.frozen? ⟨sb,0,none⟩=false:=SB_12.out.frozen 0;have SB_13:Hid (Blk (wa12.setCell ⟨sb,0,none⟩ (.int .i64 t.nn)) sb 30 (prvs t.nn ⟨none,0,0⟩ ⟨none,0,0⟩ ⟨none,0,0⟩).toArray):=SB_12.out.set_ 0 (.int .i64 t.nn);have WR13:=Hj (wr1_set wa12 sb 0 (.int .i64 t.nn));go_upto_region 4 with fail;change (Code.region 4 _ _).wp _ _ _ (wa12.setCell ⟨sb,0,none⟩ (.int .i64 t.nn));clear m13 z13;generalize wa12.setCell ⟨sb,0,none⟩ (.int .i64 t.nn)=wb13 at *;have HR13:=Hj (WR13.out.rdr HR12.out HRS.out);have HF13:=Hj (WR13.out.fx HF12.out HSB.out);have NB_13:=Hj (WR13.out.blk NB_12.out HNE.out);clear HR12 HF12 NB_12 SB_12;clear ov fn;go_wp2_with fail;refine(ppexpect_any R 0 s2 [59] (by decide) wb13 HR13.out).mono ?_;intro r wa14 hpo
   cases hres:expT [59] s2 with
   | no c q=>
    rw[hres]at hpo;obtain⟨rfl,f⟩:=hpo;have HFn:=Hj (fx_trans HF13.out f);have E2:=E12.out;rw[hres,bind_no]at E2;have En:=Hj E2;clear f hres E2;go_wp2_with fail;refine⟨rfl,?_⟩;rw[←En.out];exact⟨rfl,HFn.out⟩
   | ok u2 s3=>
    rw[hres]at hpo;obtain⟨v,rfl,hv,h',f⟩:=hpo;unfold V0 at hv;subst hv;have E2:=E12.out;rw[hres,bind_ok]at E2;have E14:=Hj E2;have HR14:=Hj h';have HF14:=Hj (fx_trans HF13.out f);have NB_14:=Hj (f.blk NB_13.out NB_13.out.lt (on_ne HRN.out));have SB_14:=Hj (f.blk SB_13.out SB_13.out.lt (on_ne HRS.out));clear f hres h' E2 HR13 HF13 E12 NB_13 SB_13;go_wp2_with fail;refine(ppdecls_any R s3 wa14 HR14.out).mono ?_;intro r wa15 hpo
    cases hres:decls (s3.ts.length+1) [] s3 with
    | no c q=>
     rw[hres]at hpo;obtain⟨rfl,f⟩:=hpo;have HFn:=Hj (fx_trans HF14.out f);have E2:=E14.out;rw[hres,bind_no]at E2;have En:=Hj E2;clear f hres E2;go_wp2_with fail;refine⟨rfl,?_⟩;rw[←En.out];exact⟨rfl,HFn.out⟩
    | ok d s4=>
     rw[hres]at hpo;obtain⟨v,rfl,⟨S,K1,hv,xb,eb⟩,h',f⟩:=hpo;obtain⟨A1,n1,c1⟩:=S;unfold Sl.val at hv;subst hv;have EQ1:=Hj eb;have E2:=E14.out;rw[hres,bind_ok]at E2;have E15:=Hj E2;have HR15:=Hj h';have HF15:=Hj (fx_trans HF14.out f);have NB_15:=Hj (f.blk NB_14.out NB_14.out.lt (on_ne HRN.out));have SB_15:=Hj (f.blk SB_14.out SB_14.out.lt (on_ne HRS.out));have XD_15:=Hj (xb.imp (D':=fun k=>sb<k) (fun k _ (x:wa14.heap.size≤k)=>Nat.lt_of_lt_of_le SB_14.out.lt x));clear f hres h' E2 HR14 HF14 E14 NB_14 SB_14;clear xb eb;have m16:wa15.cell? ⟨sb,1,none⟩=some (.slice none 0 0):=SB_15.out.cell 1;have z16:wa15.frozen? ⟨sb,1,none⟩=false:=SB_15.out.frozen 1;have SB_16:Hid (Blk (wa15.setCell ⟨sb,1,none⟩ (.slice A1 n1 c1)) sb 30 (prvs t.nn ⟨A1,n1,c1⟩ ⟨none,0,0⟩ ⟨none,0,0⟩).toArray):=SB_15.out.set_ 1 (.slice A1 n1 c1);have WR16:=Hj (wr1_set wa15 sb 1 (.slice A1 n1 c1));go_upto_region 6 with fail;change (Code.region 6 _ _).wp _ _ _ (wa15.setCell ⟨sb,1,none⟩ (.slice A1 n1 c1));clear m16 z16;generalize wa15.setCell ⟨sb,1,none⟩ (.slice A1 n1 c1)=wb16 at *;have HR16:=Hj (WR16.out.rdr HR15.out HRS.out);have HF16:=Hj (WR16.out.fx HF15.out HSB.out);have NB_16:=Hj (WR16.out.blk NB_15.out HNE.out)
     have XD_16:=Hj (XD_15.out.fx WR16.out.1 (on_not HDS.out));clear HR15 HF15 NB_15 SB_15 XD_15;go_wp2_with fail;refine(ppexpect_any R 0 s4 initW (by decide) wb16 HR16.out).mono ?_;intro r wa17 hpo
     cases hres:expT initW s4 with
     | no c q=>
      rw[hres]at hpo;obtain⟨rfl,f⟩:=hpo;have HFn:=Hj (fx_trans HF16.out f);have E2:=E15.out;rw[hres,bind_no]at E2;have En:=Hj E2;clear f hres E2;go_wp2_with fail;refine⟨rfl,?_⟩;rw[←En.out];exact⟨rfl,HFn.out⟩
     | ok u3 s5=>
      rw[hres]at hpo;obtain⟨v,rfl,hv,h',f⟩:=hpo;unfold V0 at hv;subst hv;have E2:=E15.out;rw[hres,bind_ok]at E2;have E17:=Hj E2;have HR17:=Hj h';have HF17:=Hj (fx_trans HF16.out f);have NB_17:=Hj (f.blk NB_16.out NB_16.out.lt (on_ne HRN.out));have SB_17:=Hj (f.blk SB_16.out SB_16.out.lt (on_ne HRS.out));have XD_17:=Hj (XD_16.out.fx f (on_not HD.out));clear f hres h' E2 HR16 HF16 E15 NB_16 SB_16 XD_16;go_wp2_with fail;refine((ppstmt_any R 24 0 rfl).2 s5 wa17 HR17.out).mono ?_;intro r wa18 hpo
      cases hres:blk (sK 24) s5 with
      | no c q=>
       rw[hres]at hpo;obtain⟨rfl,f⟩:=hpo;have HFn:=Hj (fx_trans HF17.out f);have E2:=E17.out;rw[hres,bind_no]at E2;have En:=Hj E2;clear f hres E2;go_wp2_with fail;refine⟨rfl,?_⟩;rw[←En.out];exact⟨rfl,HFn.out⟩
      | ok i s6=>
       rw[hres]at hpo;obtain⟨v,rfl,⟨S,K2,hv,xb,eb⟩,h',f⟩:=hpo;obtain⟨A2,n2,c2⟩:=S;unfold Sl.val at hv;subst hv;have EQ2:=Hj eb;have E2:=E17.out;rw[hres,bind_ok]at E2;have E18:=Hj E2;have HR18:=Hj h';have HF18:=Hj (fx_trans HF17.out f);have NB_18:=Hj (f.blk NB_17.out NB_17.out.lt (on_ne HRN.out));have SB_18:=Hj (f.blk SB_17.out SB_17.out.lt (on_ne HRS.out));have XD_18:=Hj (XD_17.out.fx f (on_not HD.out));have XI_18:=Hj (xb.imp (D':=fun k=>sb<k) (fun k _ (x:wa17.heap.size≤k)=>Nat.lt_of_lt_of_le SB_17.out.lt x));clear f hres h' E2 HR17 HF17 E17 NB_17 SB_17 XD_17;clear xb eb;have m19:wa18.cell? ⟨sb,2,none⟩=some (.slice none 0 0):=SB_18.out.cell 2;have z19:wa18.frozen? ⟨sb,2,none⟩=false:=SB_18.out.frozen 2;have SB_19:Hid (Blk (wa18.setCell ⟨sb,2,none⟩ (.slice A2 n2 c2)) sb 30 (prvs t.nn ⟨A1,n1,c1⟩ ⟨A2,n2,c2⟩ ⟨none,0,0⟩).toArray):=SB_18.out.set_ 2 (.slice A2 n2 c2);have WR19:=Hj (wr1_set wa18 sb 2 (.slice A2 n2 c2));go_upto_region 8 with fail;change (Code.region 8 _ _).wp _ _ _ (wa18.setCell ⟨sb,2,none⟩ (.slice A2 n2 c2));clear m19 z19;generalize wa18.setCell ⟨sb,2,none⟩ (.slice A2 n2 c2)=wb19 at *;have HR19:=Hj (WR19.out.rdr HR18.out HRS.out);have HF19:=Hj (WR19.out.fx HF18.out HSB.out)
       have NB_19:=Hj (WR19.out.blk NB_18.out HNE.out);have XD_19:=Hj (XD_18.out.fx WR19.out.1 (on_not HDS.out));have XI_19:=Hj (XI_18.out.fx WR19.out.1 (on_not HDS.out));clear HR18 HF18 NB_18 SB_18 XD_18 XI_18;go_wp2_with fail;refine(ppexpect_any R 0 s6 stepW (by decide) wb19 HR19.out).mono ?_;intro r wa20 hpo
       cases hres:expT stepW s6 with
       | no c q=>
        rw[hres]at hpo;obtain⟨rfl,f⟩:=hpo;have HFn:=Hj (fx_trans HF19.out f);have E2:=E18.out;rw[hres,bind_no]at E2;have En:=Hj E2;clear f hres E2;go_wp2_with fail;refine⟨rfl,?_⟩;rw[←En.out];exact⟨rfl,HFn.out⟩
       | ok u4 s7=>
        rw[hres]at hpo;obtain⟨v,rfl,hv,h',f⟩:=hpo;unfold V0 at hv;subst hv;have E2:=E18.out;rw[hres,bind_ok]at E2;have E20:=Hj E2;have HR20:=Hj h';have HF20:=Hj (fx_trans HF19.out f);have NB_20:=Hj (f.blk NB_19.out NB_19.out.lt (on_ne HRN.out));have SB_20:=Hj (f.blk SB_19.out SB_19.out.lt (on_ne HRS.out));have XD_20:=Hj (XD_19.out.fx f (on_not HD.out));have XI_20:=Hj (XI_19.out.fx f (on_not HD.out));clear f hres h' E2 HR19 HF19 E18 NB_19 SB_19 XD_19 XI_19;go_wp2_with fail;refine((ppstmt_any R 24 0 rfl).2 s7 wa20 HR20.out).mono ?_;intro r wa21 hpo
        cases hres:blk (sK 24) s7 with
        | no c q=>
         rw[hres]at hpo;obtain⟨rfl,f⟩:=hpo;have HFn:=Hj (fx_trans HF20.out f);have E2:=E20.out;rw[hres,bind_no]at E2;have En:=Hj E2;clear f hres E2;go_wp2_with fail;refine⟨rfl,?_⟩;rw[←En.out];exact⟨rfl,HFn.out⟩
        | ok b s8=>
         rw[hres]at hpo;obtain⟨v,rfl,⟨S,K3,hv,xb,eb⟩,h',f⟩:=hpo;obtain⟨A3,n3,c3⟩:=S;unfold Sl.val at hv;subst hv;have EQ3:=Hj eb;have E2:=E20.out;rw[hres,bind_ok]at E2;have E21:=Hj E2;have HR21:=Hj h';have HF21:=Hj (fx_trans HF20.out f);have NB_21:=Hj (f.blk NB_20.out NB_20.out.lt (on_ne HRN.out));have SB_21:=Hj (f.blk SB_20.out SB_20.out.lt (on_ne HRS.out));have XD_21:=Hj (XD_20.out.fx f (on_not HD.out));have XI_21:=Hj (XI_20.out.fx f (on_not HD.out));have XS_21:=Hj (xb.imp (D':=fun k=>sb<k) (fun k _ (x:wa20.heap.size≤k)=>Nat.lt_of_lt_of_le SB_20.out.lt x));clear f hres h' E2 HR20 HF20 E20 NB_20 SB_20 XD_20 XI_20;clear xb eb;have m22:wa21.cell? ⟨sb,3,none⟩=some (.slice none 0 0):=SB_21.out.cell 3;have z22:wa21.frozen? ⟨sb,3,none⟩=false:=SB_21.out.frozen 3;have SB_22:Hid (Blk (wa21.setCell ⟨sb,3,none⟩ (.slice A3 n3 c3)) sb 30 (prvs t.nn ⟨A1,n1,c1⟩ ⟨A2,n2,c2⟩ ⟨A3,n3,c3⟩).toArray):=SB_21.out.set_ 3 (.slice A3 n3 c3);have WR22:=Hj (wr1_set wa21 sb 3 (.slice A3 n3 c3));go_upto_region 10 with fail;change (Code.region 10 _ _).wp _ _ _ (wa21.setCell ⟨sb,3,none⟩ (.slice A3 n3 c3));clear m22 z22;generalize wa21.setCell ⟨sb,3,none⟩ (.slice A3 n3 c3)=wb22 at *;have HR22:=Hj (WR22.out.rdr HR21.out HRS.out)
         have HF22:=Hj (WR22.out.fx HF21.out HSB.out);have NB_22:=Hj (WR22.out.blk NB_21.out HNE.out);have XD_22:=Hj (XD_21.out.fx WR22.out.1 (on_not HDS.out));have XI_22:=Hj (XI_21.out.fx WR22.out.1 (on_not HDS.out));have XS_22:=Hj (XS_21.out.fx WR22.out.1 (on_not HDS.out));clear HR21 HF21 NB_21 SB_21 XD_21 XI_21 XS_21;have E2:=E21.out;rw[endT_bind]at E2;have Ez:=Hj E2;clear E2 E21;go_wp2_with fail;refine(ppexpectEnd_any R 0 s8 wb22 HR22.out).mono ?_;intro r wa23 hpo
         cases hres:endT () s8 with
         | no c q=>
          rw[hres]at hpo;obtain⟨rfl,f⟩:=hpo;have HFn:=Hj (fx_trans HF22.out f);have E2:=Ez.out;rw[hres,bind_no]at E2;have En:=Hj E2;clear f hres E2;go_wp2_with fail;refine⟨rfl,?_⟩;rw[←En.out];exact⟨rfl,HFn.out⟩
         | ok u5 s9=>
          rw[hres]at hpo;obtain⟨v,rfl,hv,h',f⟩:=hpo;unfold V0 at hv;subst hv;have E2:=Ez.out;rw[hres,bind_ok]at E2;have E23:=Hj E2;have HR23:=Hj h';have HF23:=Hj (fx_trans HF22.out f);have NB_23:=Hj (f.blk NB_22.out NB_22.out.lt (on_ne HRN.out));have SB_23:=Hj (f.blk SB_22.out SB_22.out.lt (on_ne HRS.out));have XD_23:=Hj (XD_22.out.fx f (on_not HD.out));have XI_23:=Hj (XI_22.out.fx f (on_not HD.out));have XS_23:=Hj (XS_22.out.fx f (on_not HD.out));clear f hres h' E2 HR22 HF22 Ez NB_22 SB_22 XD_22 XI_22 XS_22
          go_wp2_with (first
           | refine ld_pr t.nn ⟨A1,n1,c1⟩ ⟨A2,n2,c2⟩ ⟨A3,n3,c3⟩ sb SB_23.out rfl _ rfl rfl ?_
           | refine st_pr t.nn ⟨A1,n1,c1⟩ ⟨A2,n2,c2⟩ ⟨A3,n3,c3⟩ w.heap.size _ NB_23.out rfl rfl _ _ rfl rfl rfl ?_)
          refine bodyPost_ret (rs_pr rfl _ _ w.heap.size t.nn ⟨A1,n1,c1⟩ ⟨A2,n2,c2⟩ ⟨A3,n3,c3⟩ rfl (NB_23.out.rowS _)) rfl ?_;rw[←E23.out];exact⟨_,rfl,⟨⟨t.nn,⟨A1,n1,c1⟩,K1,⟨A2,n2,c2⟩,K2,⟨A3,n3,c3⟩,K3⟩,rfl,⟨⟨by have:=HNN.out.1;dsimp only;omega,by have:=HNN.out.2;dsimp only;omega⟩,((XD_23.out.fx (wr1_row _ w.heap.size _).1 (on_not HDN.out)).imp (fun k _ (x:sb<k)=>Nat.le_trans HSB.out (Nat.le_of_lt x))),((XI_23.out.fx (wr1_row _ w.heap.size _).1 (on_not HDN.out)).imp (fun k _ (x:sb<k)=>Nat.le_trans HSB.out (Nat.le_of_lt x))),((XS_23.out.fx (wr1_row _ w.heap.size _).1 (on_not HDN.out)).imp (fun k _ (x:sb<k)=>Nat.le_trans HSB.out (Nat.le_of_lt x)))⟩,rfl,EQ1.out,EQ2.out,EQ3.out⟩,HR23.out.row HRN.out _,fx_row HF23.out (.inr (Nat.le_refl _)) _⟩
end Go.Proofs.YthmlhkllbichgaaGreatDoor
