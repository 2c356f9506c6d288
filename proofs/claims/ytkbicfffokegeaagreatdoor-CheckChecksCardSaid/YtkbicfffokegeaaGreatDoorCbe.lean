/-
  Whatever program is handed in, CheckChecks answers true. (part 31 of 38) Conditions: none beside what the card ties.
-/
import Derived.Test.YtkbicfffokegeaaGreatDoorCbd
namespace Go.Proofs.YtkbicfffokegeaaGreatDoor
set_option maxHeartbeats 16000000
open Go.RowKit
set_option maxRecDepth 100000
def lC (t:Int)(d i s:Sl):List Value:=[.int .i64 t,.slice d.ao d.n d.c,.slice i.ao i.n i.c,.slice s.ao s.n s.c]
def prv (t:Int)(d i s:Sl):Value:=.agg #[.int .i64 t,.slice d.ao d.n d.c,.slice i.ao i.n i.c,.slice s.ao s.n s.c]
def zPr:Obj:=.cells (lC 0 ⟨none,0,0⟩ ⟨none,0,0⟩ ⟨none,0,0⟩).toArray 25
def Pr.eqv (p q:Pr):Prop:=p.ticks=q.ticks∧(p.ds.n=q.ds.n∧∀i,i<p.ds.n→(p.d i).eqv (q.d i))∧(p.is.n=q.is.n∧∀i,i<p.is.n→(p.i i).eqv (q.i i))∧(p.ss.n=q.ss.n∧∀i,i<p.ss.n→(p.s i).eqv (q.s i))
def XPr (D:Nat→Prop)(p:Pr)(w:World):Prop:=p.In w.heap.size (up D w)
def VP (L:Nat)(p:Pr)(v:Value)(w:World):Prop:=∃p':Pr,v=p'.v∧XPr (Fro L) p' w∧p'.eqv p
section
variable {ops:Array Oper} {rest:List Oper} {o:Oper} {a:Act} {w:World} {Q:Exit→Act→World→Prop}
theorem aKK (t:Int)(d i s:Sl)(g:Nat)(old:Array Value)(hg:Blk w g 25 old)(hold:old.size=4)(hgd:o.guard=none)(x y:Operand)(ho:o.op=.store 25 x y)(hx:a.eval x=.pointer (some ⟨g,0,none⟩))(hy:a.eval y=prv t d i s)
  (hw:wpList Tryz.prog ops Q rest (a.put o.dst undef) (w.setRow g (lC t d i s).toArray)):wpList Tryz.prog ops Q (o::rest) a w:=
 wpList_store_row hgd 25 x y ho g (lC t d i s).toArray hx hy 25 old hg (by kernel_rfl) hold (by simp[lC,Value.oneCell']) hw
theorem aMW (t:Int)(d i s:Sl)(g:Nat)(hg:Blk w g 25 (lC t d i s).toArray)(hgd:o.guard=none)(x:Operand)(ho:o.op=.load 25 x)(hx:a.eval x=.pointer (some ⟨g,0,none⟩))
  (hw:wpList Tryz.prog ops Q rest (a.put o.dst (prv t d i s)) w):wpList Tryz.prog ops Q (o::rest) a w:=
 wpList_load_row hgd 25 x ho g hx 25 (lC t d i s).toArray (0,0) _ hg Tryz.underlying25 rfl (by kernel_rfl) hw
end
theorem aMI {fn:Func}{p:Tmp}(h:fn.results=#[.cell p 25])(tmps:Array Value)(w:World)(g:Nat)(t:Int)(d i s:Sl)(hp:tmps.getD p undef=.pointer (some ⟨g,0,none⟩))(hg:Blk w g 25 (lC t d i s).toArray):(results fn tmps).run Tryz.prog w=.ok (prv t d i s) w:=
 results_cell_row h tmps w g 25 (lC t d i s).toArray (0,0) _ hp hg Tryz.underlying25 rfl (by kernel_rfl)
theorem aFH {α:Type}(x:α)(s:PS):aBV x s=(aBV () s).bind fun _ s=>.ok x s:=by
 unfold aBV
 split<;>rfl
theorem yC (R:Nat)(s:PS)(w:World)(h:Rdr R 0 s w):Calls Tryz.prog 56 #[.pointer (some ⟨R,0,none⟩)] w (PO R 0 w (prog s) (VP w.heap.size)):=by
 have fn:=fun t w=>aCA t w;have BL:Below w.heap.size w ((w.alloc zPr).alloc zPr):=aI (aY w _) _;have k0:Blk ((w.alloc zPr).alloc zPr) w.heap.size 25 (lC 0 ⟨none,0,0⟩ ⟨none,0,0⟩ ⟨none,0,0⟩).toArray:=(Blk.new w _ _).alloc zPr
 have k1:Blk ((w.alloc zPr).alloc zPr) (w.heap.size+1) 25 (lC 0 ⟨none,0,0⟩ ⟨none,0,0⟩ ⟨none,0,0⟩).toArray:=by
  have:=Blk.new (w.alloc zPr) 25 (lC 0 ⟨none,0,0⟩ ⟨none,0,0⟩ ⟨none,0,0⟩).toArray;rw[World.size_alloc]at this;exact this
 have hl:=h.lt;have NB_0:=Hj k0;have SB_0:=Hj k1;have HR:=Hj (h.below BL h.lt);have HF:Hid (Fx (On R) w.heap.size w ((w.alloc zPr).alloc zPr)):=Fx.of BL;have HRS:Hid (R<w.heap.size+1):=Nat.lt_succ_of_lt hl;have HRN:Hid (R<w.heap.size):=hl;have HSB:Hid (w.heap.size≤w.heap.size+1):=Nat.le_succ _;have HNB:Hid (w.heap.size≤w.heap.size):=aD _;have HNE:Hid (w.heap.size≠w.heap.size+1):=(by show w.heap.size≠w.heap.size+1;omega);have HD:Hid (¬(fun k=>w.heap.size+1<k) R):=(fun(x:w.heap.size+1<R)=>by omega);have HDS:Hid (¬(fun k=>w.heap.size+1<k) (w.heap.size+1)):=Nat.lt_irrefl _;have HDN:Hid (¬(fun k=>w.heap.size+1<k) w.heap.size):=(fun(x:w.heap.size+1<w.heap.size)=>by omega);generalize hZ:prog s=Z;unfold prog at hZ;have E:=Hj hZ;clear BL k0 k1 h hZ hl;go_enter Tryz.func56,Tryz.ntmps56;go_upto_region 2 with fail;change (Code.region 2 _ _).wp _ _ _ ((w.alloc zPr).alloc zPr);generalize ((w.alloc zPr).alloc zPr)=w0 at *;generalize w.heap.size+1=sb at *;go_wp2_with fail;refine(bU R 0 s aCD (by decide) w0 HR.out).mono ?_;intro r wa11 hpo
 cases hres:cF aCD s with
 | no c q=>
  rw[hres]at hpo;obtain⟨rfl,f⟩:=hpo;have HFn:=Hj (aJ HF.out f);have E2:=E.out;rw[hres,bL]at E2;have En:=Hj E2;clear f hres E2;go_wp2_with fail;refine⟨rfl,?_⟩;rw[←En.out];exact⟨rfl,HFn.out⟩
 | ok u1 s1=>
  rw[hres]at hpo;obtain⟨v,rfl,hv,h',f⟩:=hpo;unfold V0 at hv;subst hv;have E2:=E.out;rw[hres,bG]at E2;have E11:=Hj E2;have HR11:=Hj h';have HF11:=Hj (aJ HF.out f);have NB_11:=Hj (f.blk NB_0.out NB_0.out.lt (aO HRN.out));have SB_11:=Hj (f.blk SB_0.out SB_0.out.lt (aO HRS.out));clear f hres h' E2 HR HF E NB_0 SB_0;go_wp2_with fail;refine(eZ R 0 s1 2 (by decide) wa11 HR11.out).mono ?_;intro r wa12 hpo
  cases hres:eR 2 s1 with
  | no c q=>
   rw[hres]at hpo;obtain⟨rfl,f⟩:=hpo;have HFn:=Hj (aJ HF11.out f);have E2:=E11.out;rw[hres,bL]at E2;have En:=Hj E2;clear f hres E2;go_wp2_with fail;refine⟨rfl,?_⟩;rw[←En.out];exact⟨rfl,HFn.out⟩
  | ok t s2=>
   rw[hres]at hpo;obtain⟨v,rfl,hv,h',f⟩:=hpo;subst hv;have hnn:0≤t.nn∧t.nn≤2147483647:=by rw[uP hres];exact⟨HR11.out.good.hd.nn0,HR11.out.good.hd.nn1⟩
   have HNN:=Hj hnn;have ov:IntKind.i64.wrap t.nn=t.nn:=by rw[IntKind.wrap_i64];omega
   clear hnn;have E2:=E11.out;rw[hres,bG]at E2;have E12:=Hj E2;have HR12:=Hj h';have HF12:=Hj (aJ HF11.out f);have NB_12:=Hj (f.blk NB_11.out NB_11.out.lt (aO HRN.out));have SB_12:=Hj (f.blk SB_11.out SB_11.out.lt (aO HRS.out));clear f hres h' E2 HR11 HF11 E11 NB_11 SB_11;have m13:wa12.cell? ⟨sb,0,none⟩=some (.int .i64 0):=SB_12.out.cell 0;have z13:wa12.frozen? ⟨sb,0,none⟩=false:=SB_12.out.frozen 0;have SB_13:Hid (Blk (wa12.setCell ⟨sb,0,none⟩ (.int .i64 t.nn)) sb 25 (lC t.nn ⟨none,0,0⟩ ⟨none,0,0⟩ ⟨none,0,0⟩).toArray):=SB_12.out.set_ 0 (.int .i64 t.nn);have WR13:=Hj (dX wa12 sb 0 (.int .i64 t.nn));go_upto_region 4 with fail;change (Code.region 4 _ _).wp _ _ _ (wa12.setCell ⟨sb,0,none⟩ (.int .i64 t.nn));clear m13 z13;generalize wa12.setCell ⟨sb,0,none⟩ (.int .i64 t.nn)=wb13 at *;have HR13:=Hj (WR13.out.rdr HR12.out HRS.out);have HF13:=Hj (WR13.out.fx HF12.out HSB.out);have NB_13:=Hj (WR13.out.blk NB_12.out HNE.out);clear HR12 HF12 NB_12 SB_12;clear ov fn;go_wp2_with fail;refine(bU R 0 s2 [59] (by decide) wb13 HR13.out).mono ?_;intro r wa14 hpo
   cases hres:cF [59] s2 with
   | no c q=>
    rw[hres]at hpo;obtain⟨rfl,f⟩:=hpo;have HFn:=Hj (aJ HF13.out f);have E2:=E12.out;rw[hres,bL]at E2;have En:=Hj E2;clear f hres E2;go_wp2_with fail;refine⟨rfl,?_⟩;rw[←En.out];exact⟨rfl,HFn.out⟩
   | ok u2 s3=>
    rw[hres]at hpo;obtain⟨v,rfl,hv,h',f⟩:=hpo;unfold V0 at hv;subst hv;have E2:=E12.out;rw[hres,bG]at E2;have E14:=Hj E2;have HR14:=Hj h';have HF14:=Hj (aJ HF13.out f);have NB_14:=Hj (f.blk NB_13.out NB_13.out.lt (aO HRN.out));have SB_14:=Hj (f.blk SB_13.out SB_13.out.lt (aO HRS.out));clear f hres h' E2 HR13 HF13 E12 NB_13 SB_13;go_wp2_with fail;refine(aBB R s3 wa14 HR14.out).mono ?_;intro r wa15 hpo
    cases hres:lO (s3.ts.length+1) [] s3 with
    | no c q=>
     rw[hres]at hpo;obtain⟨rfl,f⟩:=hpo;have HFn:=Hj (aJ HF14.out f);have E2:=E14.out;rw[hres,bL]at E2;have En:=Hj E2;clear f hres E2;go_wp2_with fail;refine⟨rfl,?_⟩;rw[←En.out];exact⟨rfl,HFn.out⟩
    | ok d s4=>
     rw[hres]at hpo;obtain⟨v,rfl,⟨S,K1,hv,xb,eb⟩,h',f⟩:=hpo;obtain⟨A1,n1,c1⟩:=S;unfold Sl.val at hv;subst hv;have EQ1:=Hj eb;have E2:=E14.out;rw[hres,bG]at E2;have E15:=Hj E2;have HR15:=Hj h';have HF15:=Hj (aJ HF14.out f);have NB_15:=Hj (f.blk NB_14.out NB_14.out.lt (aO HRN.out));have SB_15:=Hj (f.blk SB_14.out SB_14.out.lt (aO HRS.out));have XD_15:=Hj (xb.imp (D':=fun k=>sb<k) (fun k _ (x:wa14.heap.size≤k)=>aE SB_14.out.lt x));clear f hres h' E2 HR14 HF14 E14 NB_14 SB_14;clear xb eb;have m16:wa15.cell? ⟨sb,1,none⟩=some (.slice none 0 0):=SB_15.out.cell 1;have z16:wa15.frozen? ⟨sb,1,none⟩=false:=SB_15.out.frozen 1;have SB_16:Hid (Blk (wa15.setCell ⟨sb,1,none⟩ (.slice A1 n1 c1)) sb 25 (lC t.nn ⟨A1,n1,c1⟩ ⟨none,0,0⟩ ⟨none,0,0⟩).toArray):=SB_15.out.set_ 1 (.slice A1 n1 c1);have WR16:=Hj (dX wa15 sb 1 (.slice A1 n1 c1));go_upto_region 6 with fail;change (Code.region 6 _ _).wp _ _ _ (wa15.setCell ⟨sb,1,none⟩ (.slice A1 n1 c1));clear m16 z16;generalize wa15.setCell ⟨sb,1,none⟩ (.slice A1 n1 c1)=wb16 at *;have HR16:=Hj (WR16.out.rdr HR15.out HRS.out);have HF16:=Hj (WR16.out.fx HF15.out HSB.out);have NB_16:=Hj (WR16.out.blk NB_15.out HNE.out)
     have XD_16:=Hj (XD_15.out.fx WR16.out.1 (aQ HDS.out));clear HR15 HF15 NB_15 SB_15 XD_15;go_wp2_with fail;refine(bU R 0 s4 aHX (by decide) wb16 HR16.out).mono ?_;intro r wa17 hpo
     cases hres:cF aHX s4 with
     | no c q=>
      rw[hres]at hpo;obtain⟨rfl,f⟩:=hpo;have HFn:=Hj (aJ HF16.out f);have E2:=E15.out;rw[hres,bL]at E2;have En:=Hj E2;clear f hres E2;go_wp2_with fail;refine⟨rfl,?_⟩;rw[←En.out];exact⟨rfl,HFn.out⟩
     | ok u3 s5=>
      rw[hres]at hpo;obtain⟨v,rfl,hv,h',f⟩:=hpo;unfold V0 at hv;subst hv;have E2:=E15.out;rw[hres,bG]at E2;have E17:=Hj E2;have HR17:=Hj h';have HF17:=Hj (aJ HF16.out f);have NB_17:=Hj (f.blk NB_16.out NB_16.out.lt (aO HRN.out));have SB_17:=Hj (f.blk SB_16.out SB_16.out.lt (aO HRS.out));have XD_17:=Hj (XD_16.out.fx f (aQ HD.out));clear f hres h' E2 HR16 HF16 E15 NB_16 SB_16 XD_16;go_wp2_with fail;refine((pD R 24 0 rfl).2 s5 wa17 HR17.out).mono ?_;intro r wa18 hpo
      cases hres:blk (sK 24) s5 with
      | no c q=>
       rw[hres]at hpo;obtain⟨rfl,f⟩:=hpo;have HFn:=Hj (aJ HF17.out f);have E2:=E17.out;rw[hres,bL]at E2;have En:=Hj E2;clear f hres E2;go_wp2_with fail;refine⟨rfl,?_⟩;rw[←En.out];exact⟨rfl,HFn.out⟩
      | ok i s6=>
       rw[hres]at hpo;obtain⟨v,rfl,⟨S,K2,hv,xb,eb⟩,h',f⟩:=hpo;obtain⟨A2,n2,c2⟩:=S;unfold Sl.val at hv;subst hv;have EQ2:=Hj eb;have E2:=E17.out;rw[hres,bG]at E2;have E18:=Hj E2;have HR18:=Hj h';have HF18:=Hj (aJ HF17.out f);have NB_18:=Hj (f.blk NB_17.out NB_17.out.lt (aO HRN.out));have SB_18:=Hj (f.blk SB_17.out SB_17.out.lt (aO HRS.out));have XD_18:=Hj (XD_17.out.fx f (aQ HD.out));have XI_18:=Hj (xb.imp (D':=fun k=>sb<k) (fun k _ (x:wa17.heap.size≤k)=>aE SB_17.out.lt x));clear f hres h' E2 HR17 HF17 E17 NB_17 SB_17 XD_17;clear xb eb;have m19:wa18.cell? ⟨sb,2,none⟩=some (.slice none 0 0):=SB_18.out.cell 2;have z19:wa18.frozen? ⟨sb,2,none⟩=false:=SB_18.out.frozen 2;have SB_19:Hid (Blk (wa18.setCell ⟨sb,2,none⟩ (.slice A2 n2 c2)) sb 25 (lC t.nn ⟨A1,n1,c1⟩ ⟨A2,n2,c2⟩ ⟨none,0,0⟩).toArray):=SB_18.out.set_ 2 (.slice A2 n2 c2);have WR19:=Hj (dX wa18 sb 2 (.slice A2 n2 c2));go_upto_region 8 with fail;change (Code.region 8 _ _).wp _ _ _ (wa18.setCell ⟨sb,2,none⟩ (.slice A2 n2 c2));clear m19 z19;generalize wa18.setCell ⟨sb,2,none⟩ (.slice A2 n2 c2)=wb19 at *;have HR19:=Hj (WR19.out.rdr HR18.out HRS.out);have HF19:=Hj (WR19.out.fx HF18.out HSB.out)
       have NB_19:=Hj (WR19.out.blk NB_18.out HNE.out);have XD_19:=Hj (XD_18.out.fx WR19.out.1 (aQ HDS.out));have XI_19:=Hj (XI_18.out.fx WR19.out.1 (aQ HDS.out));clear HR18 HF18 NB_18 SB_18 XD_18 XI_18;go_wp2_with fail;refine(bU R 0 s6 aGr (by decide) wb19 HR19.out).mono ?_;intro r wa20 hpo
       cases hres:cF aGr s6 with
       | no c q=>
        rw[hres]at hpo;obtain⟨rfl,f⟩:=hpo;have HFn:=Hj (aJ HF19.out f);have E2:=E18.out;rw[hres,bL]at E2;have En:=Hj E2;clear f hres E2;go_wp2_with fail;refine⟨rfl,?_⟩;rw[←En.out];exact⟨rfl,HFn.out⟩
       | ok u4 s7=>
        rw[hres]at hpo;obtain⟨v,rfl,hv,h',f⟩:=hpo;unfold V0 at hv;subst hv;have E2:=E18.out;rw[hres,bG]at E2;have E20:=Hj E2;have HR20:=Hj h';have HF20:=Hj (aJ HF19.out f);have NB_20:=Hj (f.blk NB_19.out NB_19.out.lt (aO HRN.out));have SB_20:=Hj (f.blk SB_19.out SB_19.out.lt (aO HRS.out));have XD_20:=Hj (XD_19.out.fx f (aQ HD.out));have XI_20:=Hj (XI_19.out.fx f (aQ HD.out));clear f hres h' E2 HR19 HF19 E18 NB_19 SB_19 XD_19 XI_19;go_wp2_with fail;refine((pD R 24 0 rfl).2 s7 wa20 HR20.out).mono ?_;intro r wa21 hpo
        cases hres:blk (sK 24) s7 with
        | no c q=>
         rw[hres]at hpo;obtain⟨rfl,f⟩:=hpo;have HFn:=Hj (aJ HF20.out f);have E2:=E20.out;rw[hres,bL]at E2;have En:=Hj E2;clear f hres E2;go_wp2_with fail;refine⟨rfl,?_⟩;rw[←En.out];exact⟨rfl,HFn.out⟩
        | ok b s8=>
         rw[hres]at hpo;obtain⟨v,rfl,⟨S,K3,hv,xb,eb⟩,h',f⟩:=hpo;obtain⟨A3,n3,c3⟩:=S;unfold Sl.val at hv;subst hv;have EQ3:=Hj eb;have E2:=E20.out;rw[hres,bG]at E2;have E21:=Hj E2;have HR21:=Hj h';have HF21:=Hj (aJ HF20.out f);have NB_21:=Hj (f.blk NB_20.out NB_20.out.lt (aO HRN.out));have SB_21:=Hj (f.blk SB_20.out SB_20.out.lt (aO HRS.out));have XD_21:=Hj (XD_20.out.fx f (aQ HD.out));have XI_21:=Hj (XI_20.out.fx f (aQ HD.out));have XS_21:=Hj (xb.imp (D':=fun k=>sb<k) (fun k _ (x:wa20.heap.size≤k)=>aE SB_20.out.lt x));clear f hres h' E2 HR20 HF20 E20 NB_20 SB_20 XD_20 XI_20;clear xb eb;have m22:wa21.cell? ⟨sb,3,none⟩=some (.slice none 0 0):=SB_21.out.cell 3;have z22:wa21.frozen? ⟨sb,3,none⟩=false:=SB_21.out.frozen 3;have SB_22:Hid (Blk (wa21.setCell ⟨sb,3,none⟩ (.slice A3 n3 c3)) sb 25 (lC t.nn ⟨A1,n1,c1⟩ ⟨A2,n2,c2⟩ ⟨A3,n3,c3⟩).toArray):=SB_21.out.set_ 3 (.slice A3 n3 c3);have WR22:=Hj (dX wa21 sb 3 (.slice A3 n3 c3));go_upto_region 10 with fail;change (Code.region 10 _ _).wp _ _ _ (wa21.setCell ⟨sb,3,none⟩ (.slice A3 n3 c3));clear m22 z22;generalize wa21.setCell ⟨sb,3,none⟩ (.slice A3 n3 c3)=wb22 at *;have HR22:=Hj (WR22.out.rdr HR21.out HRS.out)
         have HF22:=Hj (WR22.out.fx HF21.out HSB.out);have NB_22:=Hj (WR22.out.blk NB_21.out HNE.out);have XD_22:=Hj (XD_21.out.fx WR22.out.1 (aQ HDS.out));have XI_22:=Hj (XI_21.out.fx WR22.out.1 (aQ HDS.out));have XS_22:=Hj (XS_21.out.fx WR22.out.1 (aQ HDS.out));clear HR21 HF21 NB_21 SB_21 XD_21 XI_21 XS_21;have E2:=E21.out;rw[aFH]at E2;have Ez:=Hj E2;clear E2 E21;go_wp2_with fail;refine(uC R 0 s8 wb22 HR22.out).mono ?_;intro r wa23 hpo
         cases hres:aBV () s8 with
         | no c q=>
          rw[hres]at hpo;obtain⟨rfl,f⟩:=hpo;have HFn:=Hj (aJ HF22.out f);have E2:=Ez.out;rw[hres,bL]at E2;have En:=Hj E2;clear f hres E2;go_wp2_with fail;refine⟨rfl,?_⟩;rw[←En.out];exact⟨rfl,HFn.out⟩
         | ok u5 s9=>
          rw[hres]at hpo;obtain⟨v,rfl,hv,h',f⟩:=hpo;unfold V0 at hv;subst hv;have E2:=Ez.out;rw[hres,bG]at E2;have E23:=Hj E2;have HR23:=Hj h';have HF23:=Hj (aJ HF22.out f);have NB_23:=Hj (f.blk NB_22.out NB_22.out.lt (aO HRN.out));have SB_23:=Hj (f.blk SB_22.out SB_22.out.lt (aO HRS.out));have XD_23:=Hj (XD_22.out.fx f (aQ HD.out));have XI_23:=Hj (XI_22.out.fx f (aQ HD.out));have XS_23:=Hj (XS_22.out.fx f (aQ HD.out));clear f hres h' E2 HR22 HF22 Ez NB_22 SB_22 XD_22 XI_22 XS_22
          go_wp2_with (first
           | refine aMW t.nn ⟨A1,n1,c1⟩ ⟨A2,n2,c2⟩ ⟨A3,n3,c3⟩ sb SB_23.out rfl _ rfl rfl ?_
           | refine aKK t.nn ⟨A1,n1,c1⟩ ⟨A2,n2,c2⟩ ⟨A3,n3,c3⟩ w.heap.size _ NB_23.out rfl rfl _ _ rfl rfl rfl ?_)
          refine bodyPost_ret (aMI rfl _ _ w.heap.size t.nn ⟨A1,n1,c1⟩ ⟨A2,n2,c2⟩ ⟨A3,n3,c3⟩ rfl (NB_23.out.rowS _)) rfl ?_;rw[←E23.out];exact⟨_,rfl,⟨⟨t.nn,⟨A1,n1,c1⟩,K1,⟨A2,n2,c2⟩,K2,⟨A3,n3,c3⟩,K3⟩,rfl,⟨⟨by have:=HNN.out.1;dsimp only;omega,by have:=HNN.out.2;dsimp only;omega⟩,((XD_23.out.fx (cV _ w.heap.size _).1 (aQ HDN.out)).imp (fun k _ (x:sb<k)=>aF HSB.out (Nat.le_of_lt x))),((XI_23.out.fx (cV _ w.heap.size _).1 (aQ HDN.out)).imp (fun k _ (x:sb<k)=>aF HSB.out (Nat.le_of_lt x))),((XS_23.out.fx (cV _ w.heap.size _).1 (aQ HDN.out)).imp (fun k _ (x:sb<k)=>aF HSB.out (Nat.le_of_lt x)))⟩,rfl,EQ1.out,EQ2.out,EQ3.out⟩,HR23.out.row HRN.out _,bI HF23.out (.inr (aD _)) _⟩
section
variable {p q:Int}
end
section
variable {w w':World} {g:Nat} {t:TypeId}
end
section
variable {m e:Int}
end
theorem aJN (l:List UInt8)(e:Int)(h:l.all bT=true):0≤jA l e∧jA l e≤9218868437227405312:=by
 unfold jA nrF;split
 ·decide
 ·have:=nR (md:=0) (neg:=false) (s:=sX (cX l*10 ^ (max e 0).toNat) (10 ^ (max (-e) 0).toNat)) (aEo (p:=cX l*10 ^ (max e 0).toNat) (q:=10 ^ (max (-e) 0).toNat) (Int.mul_nonneg (iN h).1 (Int.pow_nonneg (by decide))) (Int.pow_pos (by decide)))
  unfold rF;show 0≤iH _ _ _ _+0∧iH _ _ _ _+0≤_;omega
theorem aKt {f:Int}(h0:0≤f)(h1:f≤9218868437227405312):fC f=3↔f=9218868437227405312:=by
 constructor
 ·intro h
  unfold fC at h
  split at h
  ·rename_i he
   unfold fE at he;omega
  ·split at h
   ·split at h<;>omega
   ·omega
 ·rintro rfl
  decide +kernel
theorem aJB {l:List UInt8}(h:psE l=0):bC (psF l)∧fC (psF l)<3∧fS (psF l)=false∧fAb (psF l)=psF l:=by
 have hok:tZ l=true∧¬fC (jA (rdD l) (rdE l))=3:=by
  unfold psE at h
  split at h
  ·omega
  ·split at h
   ·split at h
    ·omega
    ·refine⟨by assumption,by assumption⟩
   ·omega
 have e:psF l=jA (rdD l) (rdE l):=by unfold psF;rw[if_pos h]
 obtain⟨b0,b1⟩:=aJN (rdD l) (rdE l) (gU (aEc hok.1)).1;rw[e];have hinf:=(not_congr (aKt b0 b1)).1 hok.2;generalize jA (rdD l) (rdE l)=f at *;have hw:bC f:=⟨b0,by omega⟩;have cb:=aIE f;have hn:¬fC f=4:=by rw[aJO hw];omega
 refine⟨hw,by omega,?_,?_⟩
 ·unfold fS
  rw[decide_eq_false];omega
 ·unfold fAb
  rw[if_neg hn];omega
theorem aDV (p:UInt8→Bool):∀l:List UInt8,l.take (l.takeWhile p).length=l.takeWhile p
 | []=>by simp
 | b::r=>by
  rw[List.takeWhile_cons];split
  ·rw[List.length_cons,List.take_succ_cons,aDV p r]
  ·simp
theorem aGm (p:UInt8→Bool):∀l:List UInt8,(l.takeWhile p).all p=true
 | []=>by simp
 | b::r=>by
  rw[List.takeWhile_cons];split
  ·rename_i h
   rw[List.all_cons,h,aGm p r];rfl
  ·simp
theorem aFz {l:List UInt8}(h:nuF l=false)(h2:nuL l≠0):(l.take (nuL l)).all bT=true:=by
 have hdg:nuL l=dgL l:=by
  have h4:nuL l=nuA l+exL (l.drop (nuA l)):=by
   unfold nuL at h2 ⊢
   split at h2
   ·omega
   ·rename_i h3
    rw[if_neg h3]
  unfold nuF at h;rw[decide_eq_false_iff_not]at h;unfold nuA at h4;omega
 rw[hdg];unfold dgL;rw[aDV];exact aGm _ _
theorem aLR {l:List UInt8}(h:nmL l≠0)(hk:kwS.contains (l.take (nmL l))=false):l.take (nmL l) ∉ aJu:=by
 cases l with
 | nil=>exact absurd rfl h
 | cons b r=>
  have hb:kC b=true:=by
   rw[iT]at h
   by_cases c:kC b=true
   ·exact c
   ·rw[if_neg c]at h;exact absurd rfl h
  obtain⟨k,hk2⟩:∃k,nmL (b::r)=k+1:=⟨nmL (b::r) - 1,by omega⟩;rw[hk2,List.take_succ_cons]at hk ⊢;intro hm;unfold aJu at hm;rw[List.mem_append,List.mem_append]at hm;rcases hm with(hm|hm)|hm
  ·rw[List.contains_iff_mem.2 hm]at hk;cases hk
  ·simp only[rL,List.mem_cons,List.cons.injEq,List.not_mem_nil,or_false]at hm
   rcases hm with⟨rfl,_⟩|⟨rfl,_⟩|⟨rfl,_⟩|⟨rfl,_⟩|⟨rfl,_⟩|⟨rfl,_⟩|⟨rfl,_⟩<;>exact absurd hb (by decide)
  ·rw[List.mem_map]at hm
   obtain⟨c,hc,e⟩:=hm;have e:c=b:=by injection e
   subst e;revert hb;simp only[aAo,List.mem_cons,List.not_mem_nil,or_false]at hc;rcases hc with rfl|rfl|rfl|rfl|rfl|rfl|rfl|rfl|rfl|rfl|rfl|rfl|rfl|rfl|rfl|rfl|rfl<;>decide
theorem aDk:(0:Int)≤2147483647:=by decide
theorem aDA:(0:Int)<9223372036854775808:=by decide
theorem aEl:([]:List UInt8) ∉ aJu:=by decide
theorem aEm:([]:List UInt8).length≤16384:=by decide
theorem aNf {l:List UInt8}{a:Nat}(h:fiE l=0)(ha:a+l.length≤16384):Tg (fiT l a):=by
 have ha2:(a:Int)≤16384:=by omega
 unfold fiE at h;unfold fiT
 by_cases c1:nmL l≠0
 ·rw[if_pos c1]
  have hl:(l.take (nmL l)).length≤16384:=by rw[List.length_take];omega
  refine⟨Int.natCast_nonneg _,ha2,?_,?_,Int.le_refl 0,aDk,Int.le_refl 0,aDA,hl⟩
  ·dsimp only;split<;>simp
  ·dsimp only
   intro hk;refine aLR c1 ?_
   cases e:kwS.contains (l.take (nmL l)) with
   | false=>rfl
   | true=>rw[e]at hk;simp at hk
 ·rw[if_neg c1]at h ⊢
  by_cases c2:nuL l≠0
  ·rw[if_pos c2]at h ⊢
   split at h
   ·cases h
   ·cases c3:nuF l with
    | true=>
     rw[c3]at h;rw[if_pos rfl]
     have hps:psE (l.take (nuL l))=0:=by
      rw[if_pos rfl]at h
      by_cases c:psE (l.take (nuL l))=0
      ·exact c
      ·rw[if_neg c]at h;cases h
     obtain⟨⟨w0,w1⟩, -,hs, -⟩:=aJB hps;refine⟨Int.natCast_nonneg _,ha2,.inr (.inr (.inl rfl)),fun _=>aEl,Int.le_refl 0,aDk,w0,?_,aEm⟩;unfold fS at hs;have:=of_decide_eq_false hs;dsimp only;omega
    | false=>
     rw[c3]at h;rw[if_neg (by decide)];have hd:=iN (aFz c3 c2)
     have hle:cX (l.take (nuL l))≤2147483647:=by
      rw[if_neg (by decide)]at h
      by_cases c:cX (l.take (nuL l))≤2147483647
      ·exact c
      ·rw[if_neg c]at h;cases h
     exact⟨Int.natCast_nonneg _,ha2,.inr (.inl rfl),fun _=>aEl,hd.1,hle,Int.le_refl 0,aDA,aEm⟩
  ·rw[if_neg c2]
   have hl:(l.take (siL l)).length≤16384:=by rw[List.length_take];omega
   exact⟨Int.natCast_nonneg _,ha2,.inr (.inr (.inr (.inr rfl))),fun hk=>by simp at hk,Int.le_refl 0,aDk,Int.le_refl 0,aDA,hl⟩
theorem aId {l:List UInt8}{a:Nat}{ts:List Tk}(h:Run l a ts):a+l.length≤16384→cM ts:=by
 induction h with
 | fin a=>exact fun ha=>.inl ⟨rfl,⟨Int.natCast_nonneg _,by show(a:Int)≤16384;simp at ha;omega,rfl,rfl,rfl,rfl⟩⟩
 | tok l a ts _ h r ih=>
  intro ha;refine .inr ⟨aNf h ha,ih ?_⟩;have h1:=aAF l;have h2:=jF (l.drop (fiN l));rw[List.length_drop]at h2;omega
theorem aIe {l:List UInt8}(h:(gJ l).2.1=0):cM (gJ l).1:=by
 unfold gJ at h ⊢
 by_cases c:16384<l.length
 ·rw[if_pos c]at h;cases h
 ·rw[if_neg c]at h ⊢
  have hg:=jF l;exact aId (aGM _ _ _ (by omega) h).1 (by omega)
def PN (w:World)(r:List Tk×Int×Nat)(e:Ending)(w':World):Prop:=
 if r.2.1=0 then ∃R,e=.returned (.pointer (some ⟨R,0,none⟩))∧w.heap.size≤R∧Rdr R 0 ⟨r.1,0,0⟩ w'∧Below w.heap.size w w'
 else e=.panicked (flP r.2.1 (r.2.2:Nat))∧Below w.heap.size w w'
theorem aJF {w:World}{B:Nat}{v:Value}{ts:List Tk}(h:w.ownsRow B 133 5 v ts.length (rM ts))(hn:0<ts.length):∃T c,v=.slice (some ⟨T,0,none⟩) ts.length c∧B≤T∧T<w.heap.size∧w.rangeAt T 0 (rM ts)∧ts.length≤c∧c≤maxLen:=by
 rcases h.2 with⟨_,e⟩|⟨T,c,cur,rfl,hb,hg,hn2,hc,hcs,ht⟩
 ·rw[e]at hn;cases hn
 ·refine⟨T,c,rfl,hb,(Array.getElem?_eq_some_iff.1 hg).1,fun j u hu=>?_,hn2,hc⟩
  have:=h.cells (g:=T) rfl j u hu;rw[Addr.add_mid]at this;exact this
theorem uB (s:ByteArray)(w:World)(hE:Env9 w):Calls Tryz.prog 55 #[.string s] w (PN w (gJ s.data.toList)):=by
 have LX:=Hj (aGc s w hE);have GL:=Hj (aIe (l:=s.data.toList));clear hE;generalize gJ s.data.toList=L at *;obtain⟨ts,er,at_⟩:=L;unfold PN
 by_cases c:er=0
 ·subst c
  simp only[if_true];go_enter Tryz.func55,Tryz.ntmps55;go_wp2_with fail;refine LX.out.mono ?_;rintro e w1 ⟨v,rfl,own,hb⟩;have hg:cM ts:=GL.out trivial;obtain⟨T,cp,rfl,hT,hT2,hr,hc1,hc2⟩:=aJF (ts:=ts) own hg.pos;have F:=Hj (And.intro hb (And.intro hT (And.intro hT2 (And.intro hr (And.intro hc1 (And.intro hc2 hg))))));clear hb hT hT2 hr hc1 hc2 hg own LX GL;go_wp2_with fail;obtain⟨hb,hT,hT2,hr,hc1,hc2,hg⟩:=F.out;refine bodyPost_ret (results_tmp rfl _ _ _) rfl ⟨_,rfl,hb.size,⟨T,0,cp,hT2,Blk.new _ _ _,iS hr ((aY w1 _).block T hT2),hc1,hc2,hg,Nat.zero_le _,Nat.zero_le _,Nat.zero_le _⟩,aG hb (aY _ _)⟩
 ·simp only[if_neg c]
  have c2:(er == 0)=false:=by simp[c]
  go_enter Tryz.func55,Tryz.ntmps55;go_wp2_with fail;refine LX.out.mono ?_;rintro e w1 ⟨v,rfl,own,hb⟩;have HB:=Hj hb;clear own hb LX GL;go_wp2_with fail;refine(mA _ _ _).mono ?_;rintro e w2 ⟨rfl,rfl⟩;go_wp2_with fail;exact⟨rfl,rfl,HB.out⟩
def aBv (cs:List Frame):Value×List Frame:=match recoverD cs with|some p=>p|none=>(.nilIface,cs)
theorem kG {P:Program}{Q:Exit→Act→List Frame→World→Prop}{a:Act}{cs cs':List Frame}{w:World}{id:Nat}{o:Oper}{l:List Oper}{y:Code}{v:Value}(hgd:o.guard=none)
  (ho:o.op=.call { callee:=.builtin .recover,args:=#[],argTypes:=#[] }) (hrec:aBv cs=(v,cs'))
  (h:wpList P (o::l).toArray (Exit.then (y.wp P fun e a' w'=>Q e a' cs' w') fun e a' w'=>Q e a' cs' w') l (a.put o.dst v) w):(Code.seq (Code.region id (o::l).toArray false) y).wpS P Q a cs w:=by
 apply wpS_seq;intro b k hb hro;have hrun:(execOp a.eval o).run P w=.ok .recover w:=by unfold execOp;rw[ho];rfl
 have hr:List.range (o::l).toArray.size=0::List.range' 1 l.length:=by
  rw[List.size_toArray,List.length_cons,List.range_eq_range',List.range'_succ]
 have h2:wpOps P (o::l).toArray (Exit.then (y.wp P fun e a' w'=>Q e a' cs' w') fun e a' w'=>Q e a' cs' w') (List.range' 1 l.length) (a.put o.dst v) w:=by
  rw[wpOps_eq_wpList l 1 (fun j=>by rw[List.getElem?_toArray,Nat.add_comm,List.getElem?_cons_succ])];exact h
 obtain⟨e,a',w',hq,harr⟩:=wp_ops _ _ _ h2 b k cs';refine⟨e,a',cs',w',?_,.of_steps (.one step_region) ?_⟩
 ·cases e<;>first|exact wpS_of_wp hq|exact hq
 ·rw[hr]
  have ho0:(o::l).toArray[0]? = some o:=rfl;have hw:Region.wanted o (yielded (o::l).toArray a.tmps)=true:=by simp[Region.wanted,hgd]
  have hg:=stepG_op (P:=P) (b:=b) (k:=k) (cs:=cs) (w:=w) (rest:=List.range' 1 l.length) ho0 hw
  have hfin:∀v,(b.at a (.inRegion (o::l).toArray (0::List.range' 1 l.length)::k)).finish v=b.at (a.put o.dst v) (.inRegion (o::l).toArray (List.range' 1 l.length)::k):=by
   intro v;rw[Frame.finish_at,ho0];rfl
  have hk:(b.at a (.inRegion (o::l).toArray (0::List.range' 1 l.length)::k)).kind=.deferred:=hb;have htr:=tryRecover_deferred hk cs;refine .of_steps (.one (step_lone_go ?_)) harr;rw[hg,←hfin];unfold aBv at hrec;simp only[Frame.at]at htr ⊢
  cases e2:recoverD cs with
  | none=>rw[e2]at hrec;cases hrec;simp[stepG.apply,hrun,htr,e2]
  | some p=>rw[e2]at hrec;cases hrec;simp[stepG.apply,hrun,htr,e2]
theorem aLo (v:Value)(w:World):(Instr.typeAssert (.iface 106 v) 20 106 true).run Tryz.prog w=.ok (.tuple #[v,.bool true]) w:=by kernel_rfl
theorem aLn (w:World):(Instr.typeAssert .nilIface 20 106 true).run Tryz.prog w=.ok (.tuple #[.agg #[.int .i64 0,.int .i64 0],.bool false]) w:=by kernel_rfl
theorem qE (b1 b2:Nat)(x y c p:Int)(older:List PanicEntry)(w:World)(h1:Blk w b1 28 #[.int .i64 x])(h2:Blk w b2 3 #[.int .i64 y])(hb:b1≠b2) :
  CallsD Tryz.prog 54 #[.pointer (some ⟨b1,0,none⟩),.pointer (some ⟨b2,0,none⟩)] (.panicking ({ v:=.iface 106 (.agg #[.int .i64 c,.int .i64 p]),recovered:=false }::older)) w fun e u' w'=>
   e=.returned (.tuple #[])∧u'=.panicking ({ v:=.iface 106 (.agg #[.int .i64 c,.int .i64 p]),recovered:=true }::older)∧Blk w' b1 28 #[.int .i64 c]∧Blk w' b2 3 #[.int .i64 p]∧Fx (Two b1 b2) w.heap.size w w':=by
 refine callsD_of_wpS Tryz.func54 rfl fun c₀ cs hu=>?_
 have hrec:aBv (c₀::cs)=(.iface 106 (.agg #[.int .i64 c,.int .i64 p]),{ c₀ with mode:=.panicking ({ v:=.iface 106 (.agg #[.int .i64 c,.int .i64 p]),recovered:=true }::older) }::cs):=by
  simp[aBv,recoverD,hu]
 refine kG rfl rfl hrec ?_;clear hrec;have ta:=aLo;simp only[Tryz.ntmps54,List.size_toArray,List.length_cons,List.length_nil,Nat.reduceAdd,Nat.reduceSub,Array.replicate_succ,Array.replicate_zero,List.push_toArray,List.append_toArray,List.nil_append,List.cons_append];go_wp2_with fail;have l1:=h1.lt;have l2:=h2.lt;have n1:=Hj (h1.alloc (.cells #[.int .i64 c,.int .i64 p] 106));have n2:=Hj (h2.alloc (.cells #[.int .i64 c,.int .i64 p] 106));have nf:Blk (w.alloc (.cells #[.int .i64 c,.int .i64 p] 106)) w.heap.size 106 #[.int .i64 c,.int .i64 p]:=Blk.new _ _ _;have HF:=Hj (lL (Fx.refl (Two b1 b2) _ w) (.cells #[.int .i64 c,.int .i64 p] 106));have HB:Hid (b1≠b2∧b1≠w.heap.size∧b2≠w.heap.size):=⟨hb,by omega,by omega⟩;have HS0:((w.alloc (.cells #[.int .i64 c,.int .i64 p] 106)).drew).cell? ⟨w.heap.size,0,none⟩=some (.int .i64 c)∧((w.alloc (.cells #[.int .i64 c,.int .i64 p] 106)).drew).cell? ⟨w.heap.size,1,none⟩=some (.int .i64 p):=⟨nf.cell 0,nf.cell 1⟩;have FN:=Hj nf;clear h1 h2 l1 l2 nf ta hb hu;generalize w.alloc (.cells #[.int .i64 c,.int .i64 p] 106)=w1 at *
 refine bY (S:=fun w'=>w'.cell? ⟨w.heap.size,0,none⟩=some (.int .i64 c)∧w'.cell? ⟨w.heap.size,1,none⟩=some (.int .i64 p)) _ (.take 0 (.take 1 (.take 2 (.take 3 (.two 4 (.act 5 .done) 5 (.act 4 .done)))))) (by kernel_rfl) (by kernel_rfl) rfl (by kernel_rfl) (by kernel_rfl) (fun _ _ d _ _ h=>by cases d<;>exact h) HS0 ?_;clear HS0
 iterate 4
  refine aN.take (v:=?_) rfl (by rfl) ?_ ?_;rotate_left
  ·(intro w' hSw;have s1:=hSw.1;have s2:=hSw.2;clear hSw;go_simp<;>with_reducible rfl)
  try simp only[Act.put,aA,aC,aB]
 refine⟨bF rfl (by rfl) (fun K' hK=>?_),bF rfl (by rfl) (fun K' hK=>?_)⟩
 ·have ma:=n1.out.cell 0
  have za:=n1.out.frozen 0;go_simp;have fa:Blk (w1.drew.setCell ⟨b1,0,none⟩ (.int .i64 c)) w.heap.size 106 #[.int .i64 c,.int .i64 p]:=(Blk.drew FN.out).far (p:=⟨b1,0,none⟩) (Ne.symm HB.out.2.1) _;have aa:=Hj ((Blk.drew n1.out).set_ 0 (.int .i64 c));have ab:Blk (w1.drew.setCell ⟨b1,0,none⟩ (.int .i64 c)) _ _ _:=(Blk.drew n2.out).far (p:=⟨b1,0,none⟩) (Ne.symm HB.out.1) (.int .i64 c);have ff:=Hj (bJ (aZ HF.out (aH (Below.refl _ w1))) (p:=⟨b1,0,none⟩) (.inl (.inl rfl)) (.int .i64 c));refine hK.out _ _ ⟨fa.cell 0,fa.cell 1⟩ ?_;clear hK K' ma za;try simp only[Act.put]
  change aN _ _ _ _ _ _ (w1.drew.setCell ⟨b1,0,none⟩ (.int .i64 c));generalize (w1.drew.setCell ⟨b1,0,none⟩ (.int .i64 c))=w5 at *;refine aN.act rfl (by rfl) (fun K' hK=>?_);have mb:=ab.cell 0;have zb:=ab.frozen 0;go_simp;have fb:Blk (w5.setCell ⟨b2,0,none⟩ (.int .i64 p)) w.heap.size 106 #[.int .i64 c,.int .i64 p]:=fa.far (p:=⟨b2,0,none⟩) (Ne.symm HB.out.2.2) _;refine hK.out _ _ ⟨fb.cell 0,fb.cell 1⟩ ?_;clear hK K' mb zb;try simp only[Act.put]
  refine aN.done ?_;exact⟨rfl,_,rfl,_,results_none rfl _ _ _,rfl,rfl,(aa.out.far (p:=⟨b2,0,none⟩) HB.out.1 _),(ab.set_ 0 (.int .i64 p)),bJ ff.out (p:=⟨b2,0,none⟩) (.inl (.inr rfl)) _⟩
 ·have ma:=n2.out.cell 0
  have za:=n2.out.frozen 0;go_simp;have fa:Blk (w1.drew.setCell ⟨b2,0,none⟩ (.int .i64 p)) w.heap.size 106 #[.int .i64 c,.int .i64 p]:=(Blk.drew FN.out).far (p:=⟨b2,0,none⟩) (Ne.symm HB.out.2.2) _;have aa:=Hj ((Blk.drew n2.out).set_ 0 (.int .i64 p));have ab:Blk (w1.drew.setCell ⟨b2,0,none⟩ (.int .i64 p)) _ _ _:=(Blk.drew n1.out).far (p:=⟨b2,0,none⟩) HB.out.1 (.int .i64 p);have ff:=Hj (bJ (aZ HF.out (aH (Below.refl _ w1))) (p:=⟨b2,0,none⟩) (.inl (.inr rfl)) (.int .i64 p));refine hK.out _ _ ⟨fa.cell 0,fa.cell 1⟩ ?_;clear hK K' ma za;try simp only[Act.put]
  change aN _ _ _ _ _ _ (w1.drew.setCell ⟨b2,0,none⟩ (.int .i64 p));generalize (w1.drew.setCell ⟨b2,0,none⟩ (.int .i64 p))=w5 at *;refine aN.act rfl (by rfl) (fun K' hK=>?_);have mb:=ab.cell 0;have zb:=ab.frozen 0;go_simp;have fb:Blk (w5.setCell ⟨b1,0,none⟩ (.int .i64 c)) w.heap.size 106 #[.int .i64 c,.int .i64 p]:=fa.far (p:=⟨b1,0,none⟩) (Ne.symm HB.out.2.1) _;refine hK.out _ _ ⟨fb.cell 0,fb.cell 1⟩ ?_;clear hK K' mb zb;try simp only[Act.put]
  refine aN.done ?_;exact⟨rfl,_,rfl,_,results_none rfl _ _ _,rfl,rfl,(ab.set_ 0 (.int .i64 c)),(aa.out.far (p:=⟨b1,0,none⟩) (Ne.symm HB.out.1) _),bJ ff.out (p:=⟨b1,0,none⟩) (.inl (.inl rfl)) _⟩
theorem aJD (b1 b2:Nat)(w:World) :
  CallsD Tryz.prog 54 #[.pointer (some ⟨b1,0,none⟩),.pointer (some ⟨b2,0,none⟩)] .returning w fun e u' w'=>e=.returned (.tuple #[])∧u'=.returning∧Below w.heap.size w w':=by
 refine callsD_of_wpS Tryz.func54 rfl fun c₀ cs hu=>?_
 have hrec:aBv (c₀::cs)=(.nilIface,{ c₀ with mode:=.returning }::cs):=by
  cases c₀;cases hu;rfl
 refine kG rfl rfl hrec ?_;clear hrec;have ta:=aLn;simp only[Tryz.ntmps54,List.size_toArray,List.length_cons,List.length_nil,Nat.reduceAdd,Nat.reduceSub,Array.replicate_succ,Array.replicate_zero,List.push_toArray,List.append_toArray,List.nil_append,List.cons_append];go_wp2_with fail;exact⟨rfl,_,rfl,_,results_none rfl _ _ _,rfl,rfl,aY w _⟩
theorem lZ {P:Program}{fn:Func}{p q r:Tmp}{ty tq tr:TypeId}(h:fn.results=#[.cell p ty,.cell q tq,.cell r tr])(tmps:Array Value)(w:World)(g:Nat)(t:TypeId)(cs:Array Value)(d:TypeDesc)(b c:Nat)(x y:Value)
  (hp:tmps.getD p undef=.pointer (some ⟨g,0,none⟩)) (hq:tmps.getD q undef=.pointer (some ⟨b,0,none⟩)) (hr:tmps.getD r undef=.pointer (some ⟨c,0,none⟩)) (hg:Blk w g t cs)
  (hu:P.underlying ty=some d) (hd:(match d with|.struct _|.array _ _=>true|_=>false)=true) (hi:(P.info? ty).map (·.size)=some cs.size)
  (hx:(loadVar tq ⟨b,0,none⟩).run P w=.ok x w) (hy:(loadVar tr ⟨c,0,none⟩).run P w=.ok y w) :
  (results fn tmps).run P w=.ok (.tuple #[.agg cs,x,y]) w:=by
 have hp':tmps[p]?.getD undef=.pointer (some ⟨g,0,none⟩):=by simpa using hp
 have hq':tmps[q]?.getD undef=.pointer (some ⟨b,0,none⟩):=by simpa using hq
 have hr':tmps[r]?.getD undef=.pointer (some ⟨c,0,none⟩):=by simpa using hr
 simp[results,h,hp',hq',hr',asAddr,run_loadVar_row w g t ty cs (0,0) d hg hu hd hi,hx,hy]
theorem mE {w:World}{b:Nat}{x:Value}(h:Blk w b 28 #[x]):(loadVar 28 ⟨b,0,none⟩).run Tryz.prog w=.ok x w:=by
 have hc:w.cell? ⟨b,0,none⟩=some x:=h.cell 0;clear h;go_simp
theorem mD {w:World}{b:Nat}{x:Value}(h:Blk w b 3 #[x]):(loadVar 3 ⟨b,0,none⟩).run Tryz.prog w=.ok x w:=by
 have hc:w.cell? ⟨b,0,none⟩=some x:=h.cell 0;clear h;go_simp
def Rs.er {α:Type}:Rs α→Int
 | .ok _ _=>0
 | .no c _=>c
def Rs.pl {α:Type}:Rs α→Int
 | .ok _ _=>0
 | .no _ p=>p
def Rs.va {α:Type}(z:α):Rs α→α
 | .ok a _=>a
 | .no _ _=>z
def rsP (l:List UInt8):Rs Pr:=if(gJ l).2.1=0 then prog ⟨(gJ l).1,0,0⟩else .no (gJ l).2.1 ((gJ l).2.2:Nat)
def aJL:Pr:=⟨0,⟨none,0,0⟩,fun _=>mQ,⟨none,0,0⟩,fun _=>.no,⟨none,0,0⟩,fun _=>.no⟩
theorem aHy (L:Nat)(w:World):VP L aJL (prv 0 ⟨none,0,0⟩ ⟨none,0,0⟩ ⟨none,0,0⟩) w:=
 ⟨aJL,rfl,⟨⟨by decide,by decide⟩,⟨iQ,(fun a ha=>by cases ha),fun i hi=>absurd hi (Nat.not_lt_zero i)⟩,uX,uX⟩,
  rfl,⟨rfl,fun i hi=>absurd hi (Nat.not_lt_zero i)⟩,⟨rfl,fun i hi=>absurd hi (Nat.not_lt_zero i)⟩,⟨rfl,fun i hi=>absurd hi (Nat.not_lt_zero i)⟩⟩
theorem XPr.fx {X D:Nat→Prop}{p:Pr}{w w':World}(h:XPr D p w)(hf:Fx X w.heap.size w w')(hX:∀k,X k→¬D k):XPr D p w':=
 ⟨h.1,gF.stay h.2.1 (jD hf hX) hf.size,gL.stay h.2.2.1 (jD hf hX) hf.size,gL.stay h.2.2.2 (jD hf hX) hf.size⟩
theorem XPr.imp {D D':Nat→Prop}{p:Pr}{w:World}(h:XPr D p w)(hD:∀k,k<w.heap.size→D k→D' k):XPr D' p w:=
 ⟨h.1,gF.stay h.2.1 (gP hD w) (aD _),gL.stay h.2.2.1 (gP hD w) (aD _),gL.stay h.2.2.2 (gP hD w) (aD _)⟩
theorem XPr.bel {D:Nat→Prop}{p:Pr}{w w':World}(h:XPr D p w)(hb:Below w.heap.size w w'):XPr D p w':=h.fx (X:=fun _=>False) (Fx.of hb) (fun _ x=>x.elim)
def Th3 (a b c:Nat):Nat→Prop:=fun k=>k=a∨k=b∨k=c
theorem cH {X:Nat→Prop}{a b c:World}(h:Below a.heap.size a b)(f:Fx X b.heap.size b c)(hX:∀k,k<a.heap.size→¬X k):Below a.heap.size a c:=
 h.trans ((f.mono (Y:=X) h.size (fun _ _ x=>x)).bel hX)
theorem aLr {ops:Array Oper}{rest:List Oper}{o:Oper}{a:Act}{w:World}{Q:Exit→Act→World→Prop}(t:Int)(d i s:Sl)(g:Nat){old:Array Value}(hg:Blk w g 25 old)(hgd:o.guard=none)(x y:Operand)(ho:o.op=.store 25 x y)(hx:a.eval x=.pointer (some ⟨g,0,none⟩))(hy:a.eval y=prv t d i s)(hold:old.size=4)
  (hw:∀w',Hid (Blk w' g 25 (lC t d i s).toArray)→Hid (Wr1 g w w')→wpList Tryz.prog ops Q rest (a.put o.dst undef) w'):wpList Tryz.prog ops Q (o::rest) a w:=
 aKK t d i s g old hg hold hgd x y ho hx hy (hw _ (hg.rowS _) (cV w g _))
def aNq {α:Type}(w:World)(r:Rs α)(z:α)(V:α→Value→World→Prop)(e:Ending)(w':World):Prop:=
 ∃v,e=.returned (.tuple #[v,.int .i64 r.er,.int .i64 r.pl])∧V (r.va z) v w'∧Below w.heap.size w w'
theorem aBC (s:ByteArray)(w:World)(hE:Env9 w):Calls Tryz.prog 34 #[.string s] w (aNq w (rsP s.data.toList) aJL (VP w.heap.size)):=by
 have hmf:∀(fn:Fn) (first cap:Array Value) (w:World),(Instr.makeFunc fn first cap).run Tryz.prog w=.ok (.func fn first cap) w:=fun _ _ _ _=>rfl;have BL:Below w.heap.size w (((w.alloc zPr).alloc (.cells #[.int .i64 0] 28)).alloc (.cells #[.int .i64 0] 3)):=aI (aI (aY w _) _) _;have k0:Blk (((w.alloc zPr).alloc (.cells #[.int .i64 0] 28)).alloc (.cells #[.int .i64 0] 3)) w.heap.size 25 (lC 0 ⟨none,0,0⟩ ⟨none,0,0⟩ ⟨none,0,0⟩).toArray:=((Blk.new w _ _).alloc _).alloc _
 have k1:Blk (((w.alloc zPr).alloc (.cells #[.int .i64 0] 28)).alloc (.cells #[.int .i64 0] 3)) (w.heap.size+1) 28 #[.int .i64 0]:=by
  have:=(Blk.new (w.alloc zPr) 28 #[.int .i64 0]).alloc (.cells #[.int .i64 0] 3);rw[World.size_alloc]at this;exact this
 have k2:Blk (((w.alloc zPr).alloc (.cells #[.int .i64 0] 28)).alloc (.cells #[.int .i64 0] 3)) (w.heap.size+1+1) 3 #[.int .i64 0]:=by
  have:=Blk.new ((w.alloc zPr).alloc (.cells #[.int .i64 0] 28)) 3 #[.int .i64 0];rw[World.size_alloc,World.size_alloc]at this;exact this
 have HBL:=Hj BL;have HN:=Hj (uB s _ (hE.below BL));have B0:=Hj k0;have B1:=Hj k1;have B2:=Hj k2;have HNE:Hid (w.heap.size≠w.heap.size+1∧w.heap.size≠w.heap.size+1+1∧w.heap.size+1≠w.heap.size+1+1):=(by show _∧_∧_;omega);have HLE:Hid (w.heap.size≤w.heap.size+1∧w.heap.size≤w.heap.size+1+1):=(by show _∧_;omega);have HRS:Hid (rsP s.data.toList=if(gJ s.data.toList).2.1=0 then prog ⟨(gJ s.data.toList).1,0,0⟩else .no (gJ s.data.toList).2.1 ((gJ s.data.toList).2.2:Nat)):=rfl;clear BL k0 k1 k2 hE;generalize rsP s.data.toList=Z at *;generalize gJ s.data.toList=L at *
 go_enter_defers Tryz.func34,Tryz.ntmps34
 go_upto_region 2 with fail;change (Code.region 2 _ _).wp _ _ _ (((w.alloc zPr).alloc (.cells #[.int .i64 0] 28)).alloc (.cells #[.int .i64 0] 3));generalize ((w.alloc zPr).alloc (.cells #[.int .i64 0] 28)).alloc (.cells #[.int .i64 0] 3)=w0 at *;generalize w.heap.size+1+1=b2 at *;generalize w.heap.size+1=b1 at *;go_wp2_with fail;refine HN.out.mono ?_;intro e w1 hpn;unfold PN at hpn;clear HN
 by_cases c:L.2.1=0
 ·rw[if_pos c]at hpn
  obtain⟨R,rfl,hR,rd,hb⟩:=hpn;have B0_1:=Hj (B0.out.below hb B0.out.lt);have B1_1:=Hj (B1.out.below hb B1.out.lt);have B2_1:=Hj (B2.out.below hb B2.out.lt);have HB1:=Hj (aG HBL.out hb);have HR0:Hid (w.heap.size≠R∧b1≠R∧b2≠R∧w.heap.size≤R):=(by show _∧_∧_∧_;have:=B0.out.lt;have:=B1.out.lt;have:=B2.out.lt;omega);have HZ:Hid (Z=prog ⟨L.1,0,0⟩):=by show Z=_;rw[HRS.out,if_pos c]
  have HRD:=Hj rd;clear hb c HRS HBL B0 B1 B2 rd hR;go_wp2_with fail;refine(yC R _ w1 HRD.out).mono ?_;intro e w2 hpo
  cases hres:prog ⟨L.1,0,0⟩ with
  | no c q=>
   rw[hres]at hpo;obtain⟨rfl,f⟩:=hpo;have E:Hid (Z=.no c q):=by show Z=_;rw[HZ.out,hres]
   have B0_2:=Hj (f.blk B0_1.out B0_1.out.lt HR0.out.1);have B1_2:=Hj (f.blk B1_1.out B1_1.out.lt HR0.out.2.1);have B2_2:=Hj (f.blk B2_1.out B2_1.out.lt HR0.out.2.2.1);have HB2:=Hj (cH HB1.out f (fun k hk (x:k=R)=>by have:=HR0.out.2.2.2;omega));clear f hres HZ HRD B0_1 B1_1 B2_1 HB1;go_wp2_with fail;refine leaves_cons (f:=54) (args:=#[.pointer (some ⟨b1,0,none⟩),.pointer (some ⟨b2,0,none⟩)]) (by simp) (by simp[go_sem]) ?_;refine(qE b1 b2 0 0 c q [] w2 B1_2.out B2_2.out HNE.out.2.2).mono ?_;rintro e u' w3 ⟨rfl,rfl,k1,k2,f3⟩;refine⟨_,lZ rfl _ w3 w.heap.size 25 (lC 0 ⟨none,0,0⟩ ⟨none,0,0⟩ ⟨none,0,0⟩).toArray _ b1 b2 _ _ rfl rfl rfl (f3.blk B0_2.out B0_2.out.lt (fun x=>x.elim HNE.out.1 HNE.out.2.1)) Tryz.underlying25 rfl (by kernel_rfl) (mE k1) (mD k2),?_⟩;rw[E.out];exact⟨_,rfl,aHy _ _,cH HB2.out f3 (fun k hk x=>by have:=HLE.out;rcases x with x|x<;>omega)⟩
  | ok p s2=>
   rw[hres]at hpo;obtain⟨v,rfl,⟨p',rfl,xp,ep⟩,h2,f⟩:=hpo;have E:Hid (Z=.ok p s2):=by show Z=_;rw[HZ.out,hres]
   have B0_2:=Hj (f.blk B0_1.out B0_1.out.lt HR0.out.1);have B1_2:=Hj (f.blk B1_1.out B1_1.out.lt HR0.out.2.1);have B2_2:=Hj (f.blk B2_1.out B2_1.out.lt HR0.out.2.2.1);have HB2:=Hj (cH HB1.out f (fun k hk (x:k=R)=>by have:=HR0.out.2.2.2;omega));have XP:=Hj xp;have EP:=Hj ep;have L1:Hid (b1<w1.heap.size∧b2<w1.heap.size∧w.heap.size<w1.heap.size):=⟨B1_1.out.lt,B2_1.out.lt,B0_1.out.lt⟩;clear f h2 xp ep hres HZ HRD B0_1 B1_1 B2_1 HB1;have ne12:=HNE.out.2.2;have ne21:=Ne.symm HNE.out.2.2;unfold Pr.v
   go_wp2_with (refine aLr p'.ticks p'.ds p'.is p'.ss w.heap.size B0_2.out rfl _ _ rfl rfl rfl rfl ?_;intro w3 B0_3 WR;have B1_3:=Hj (WR.out.blk B1_2.out (Ne.symm HNE.out.1));have B2_3:=Hj (WR.out.blk B2_2.out (Ne.symm HNE.out.2.1));have m1:=B1_3.out.cell 0;have m2:=B2_3.out.cell 0;have z1:=B1_3.out.frozen 0;have z2:=B2_3.out.frozen 0)
   have F4:=bJ (bJ (WR.out.1.mono (Y:=Th3 w.heap.size b1 b2) (aD _) (fun k _ x=>.inl x)) (p:=⟨b1,0,none⟩) (.inl (.inr (.inl rfl))) (.int .i64 0)) (p:=⟨b2,0,none⟩) (.inl (.inr (.inr rfl))) (.int .i64 0);have e1:Blk ((w3.setCell ⟨b1,0,none⟩ (.int .i64 0)).setCell ⟨b2,0,none⟩ (.int .i64 0)) b1 28 #[.int .i64 0]:=(B1_3.out.set_ 0 (.int .i64 0)).far (p:=⟨b2,0,none⟩) ne12 _;have e2:Blk ((w3.setCell ⟨b1,0,none⟩ (.int .i64 0)).setCell ⟨b2,0,none⟩ (.int .i64 0)) b2 3 #[.int .i64 0]:=(B2_3.out.far (p:=⟨b1,0,none⟩) ne21 (.int .i64 0)).set_ 0 (.int .i64 0);have e0:Blk ((w3.setCell ⟨b1,0,none⟩ (.int .i64 0)).setCell ⟨b2,0,none⟩ (.int .i64 0)) w.heap.size 25 _:=(B0_3.out.far (p:=⟨b1,0,none⟩) HNE.out.1 (.int .i64 0)).far (p:=⟨b2,0,none⟩) HNE.out.2.1 (.int .i64 0);clear m1 m2 z1 z2 WR B0_2 B1_2 B2_2 B0_3 B1_3 B2_3;generalize (w3.setCell ⟨b1,0,none⟩ (.int .i64 0)).setCell ⟨b2,0,none⟩ (.int .i64 0)=w4 at *;refine leaves_cons (f:=54) (args:=#[.pointer (some ⟨b1,0,none⟩),.pointer (some ⟨b2,0,none⟩)]) (by simp) (by simp[go_sem]) ?_;refine(aJD b1 b2 w4).mono ?_;rintro e u' w5 ⟨rfl,rfl,h5⟩
   refine⟨_,lZ rfl _ w5 w.heap.size 25 (lC p'.ticks p'.ds p'.is p'.ss).toArray _ b1 b2 _ _ rfl rfl rfl (e0.below h5 e0.lt) Tryz.underlying25 rfl (by kernel_rfl) (mE (e1.below h5 e1.lt)) (mD (e2.below h5 e2.lt)),?_⟩;rw[E.out];have hX:∀k,Th3 w.heap.size b1 b2 k→¬Fro w1.heap.size k:=fun k x (y:w1.heap.size≤k)=>by have:=L1.out;rcases x with x|x|x<;>omega
   exact⟨_,rfl,⟨p',rfl,((XP.out.fx F4 hX).bel h5).imp (fun k _ (x:w1.heap.size≤k)=>aF (Nat.le_of_lt L1.out.2.2) x),EP.out⟩,aG (cH HB2.out F4 (fun k hk x=>by have:=HLE.out;rcases x with x|x|x<;>omega)) h5⟩
 ·rw[if_neg c]at hpn
  obtain⟨rfl,hb⟩:=hpn;have B0_2:=Hj (B0.out.below hb B0.out.lt);have B1_2:=Hj (B1.out.below hb B1.out.lt);have B2_2:=Hj (B2.out.below hb B2.out.lt);have HB2:=Hj (aG HBL.out hb);have E:Hid (Z=.no L.2.1 (L.2.2:Nat)):=by show Z=_;rw[HRS.out,if_neg c]
  clear hb c HRS HBL B0 B1 B2;go_wp2_with fail;refine leaves_cons (f:=54) (args:=#[.pointer (some ⟨b1,0,none⟩),.pointer (some ⟨b2,0,none⟩)]) (by simp) (by simp[go_sem]) ?_;refine(qE b1 b2 0 0 _ _ [] w1 B1_2.out B2_2.out HNE.out.2.2).mono ?_;rintro e u' w3 ⟨rfl,rfl,k1,k2,f3⟩;refine⟨_,lZ rfl _ w3 w.heap.size 25 (lC 0 ⟨none,0,0⟩ ⟨none,0,0⟩ ⟨none,0,0⟩).toArray _ b1 b2 _ _ rfl rfl rfl (f3.blk B0_2.out B0_2.out.lt (fun x=>x.elim HNE.out.1 HNE.out.2.1)) Tryz.underlying25 rfl (by kernel_rfl) (mE k1) (mD k2),?_⟩;rw[E.out];exact⟨_,rfl,aHy _ _,cH HB2.out f3 (fun k hk x=>by have:=HLE.out;rcases x with x|x<;>omega)⟩
theorem St.eqv_hd {s:St}:∀ {r:St},s.eqv r→hsS s.h r.h=true∧r.h.ps=s.h.ps∧s.e.eqv r.e∧(s.h.xs.n=r.h.xs.n∧∀i,i<s.h.xs.n→(s.x i).eqv (r.x i))∧(∀i,i<s.h.ts.n→(s.t i).eqv (r.t i))∧∀i,i<s.h.es.n→(s.l i).eqv (r.l i):=by
 intro r h
 cases s with
 | no=>exact⟨h.1,h.2.1,h.2.2.1,⟨h.2.2.2.symm,fun i hi=>absurd hi (Nat.not_lt_zero i)⟩,fun i hi=>absurd hi (Nat.not_lt_zero i),fun i hi=>absurd hi (Nat.not_lt_zero i)⟩
 | mk=>exact h
theorem St.eqv_same {s:St}:∀ {r:St},s.eqv r→s.same r=true:=by
 induction s using St.ind with
 | H s it il=>
  intro r h;obtain⟨h1,h2,h3,⟨h4,h5⟩,h6,h7⟩:=St.eqv_hd h;simp only[hsS,Bool.and_eq_true,decide_eq_true_eq,beq_iff_eq]at h1;obtain⟨⟨⟨⟨⟨g1,g2⟩,g3⟩,g4⟩,g5⟩,g6⟩:=h1;exact St.same_iff.2 ⟨⟨g1,g2,g3,g4,g5,g6⟩,Ex.eqv_same h3,⟨h4,fun i hi=>Ex.eqv_same (h5 i hi)⟩,fun i hi=>it i hi (h6 i hi),fun i hi=>il i hi (h7 i hi)⟩
theorem De.eqv_same {a b:De}(h:a.eqv b):a.same b=true:=De.same_iff.2 ⟨h.1.2.1,h.1.2.2.1,h.1.2.2.2.1,h.1.2.2.2.2.1,h.1.2.2.2.2.2,Ex.eqv_same h.2.1,Ex.eqv_same h.2.2⟩
theorem Pr.eqv_same {p q:Pr}(h:p.eqv q):p.same q=true:=Pr.same_iff.2 ⟨h.1,yX.2 ⟨h.2.1.1,fun i hi=>De.eqv_same (h.2.1.2 i hi)⟩,rQ.2 ⟨h.2.2.1.1,fun i hi=>St.eqv_same (h.2.2.1.2 i hi)⟩,rQ.2 ⟨h.2.2.2.1,fun i hi=>St.eqv_same (h.2.2.2.2 i hi)⟩⟩
end Go.Proofs.YtkbicfffokegeaaGreatDoor
