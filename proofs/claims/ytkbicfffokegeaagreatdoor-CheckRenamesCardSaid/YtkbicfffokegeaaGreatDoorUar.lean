/-
  Layer 12's checks answer true, whatever program is handed in. (part 18 of 35) Conditions: none beside what the card ties.
-/
import Derived.Test.YtkbicfffokegeaaGreatDoorUak
import Derived.Deep.DeepCutAuto
import Derived.Test.YtkbicfffokegeaaGreatDoorUaq
namespace Go.Proofs.YtkbicfffokegeaaGreatDoor
set_option maxHeartbeats 16000000
open Go.RowKit
set_option maxRecDepth 100000
inductive PT where
 | done
 | take (i:Nat) (r:PT)
 | act (i:Nat) (r:PT)
 | two (i:Nat) (r:PT) (j:Nat) (q:PT)
 | three (i:Nat) (r:PT) (j:Nat) (q:PT) (k:Nat) (u:PT)
def PT.len:PT→Nat
 | .done=>0
 | .take _ r=>r.len+1
 | .act _ r=>r.len+1
 | .two _ r _ q=>(if r.len≤q.len then q.len else r.len)+1
 | .three _ r _ q _ u=>max r.len (max q.len u.len)+1
def chkT (sk:List Sk):PT→Nat→Bool
 | .done,m=>allI (fun j s=>!rdyS s m j) 0 sk
 | .take i r,m=>(match sk[i]? with
   | none=>false
   | some s=>rdyS s m i && allI (fun j t=>j == i || m.testBit j || t.after.contains i || apartS s t) 0 sk) && chkT sk r (m ||| 1 <<< i)
 | .act i r,m=>(match sk[i]? with
   | none=>false
   | some s=>rdyS s m i && allI (fun j t=>j == i || !rdyS t m j) 0 sk) && chkT sk r (m ||| 1 <<< i)
 | .two i r j q,m=>(match sk[i]? with
   | none=>false
   | some s=>rdyS s m i && allI (fun l t=>l == i || l == j || !rdyS t m l) 0 sk) && (match sk[j]? with
   | none=>false
   | some _=>true) && chkT sk r (m ||| 1 <<< i) && chkT sk q (m ||| 1 <<< j)
 | .three i r j q k u,m=>(match sk[i]? with
   | none=>false
   | some s=>rdyS s m i && allI (fun l t=>l == i || l == j || l == k || !rdyS t m l) 0 sk) && (match sk[j]? with
   | none=>false
   | some _=>true) && (match sk[k]? with
   | none=>false
   | some _=>true) && chkT sk r (m ||| 1 <<< i) && chkT sk q (m ||| 1 <<< j) && chkT sk u (m ||| 1 <<< k)
section
variable {P:Program} {ops:Array Oper} {Q:Exit→Act→World→Prop} {S:World→Prop}
def WalkT (P:Program)(ops:Array Oper)(Q:Exit→Act→World→Prop)(S:World→Prop):PT→Act→World→Prop
 | .done,a,w=>Q .normal a w
 | .take i r,a,w=>∃oi v,ops[i]? = some oi∧YieldsIf P ops S oi v a∧WalkT P ops Q S r (a.put oi.dst v) w
 | .act i r,a,w=>wpOp P ops Q i (fun a' w'=>S w'∧WalkT P ops Q S r a' w') a w
 | .two i r j q,a,w=>wpOp P ops Q i (fun a' w'=>S w'∧WalkT P ops Q S r a' w') a w∧wpOp P ops Q j (fun a' w'=>S w'∧WalkT P ops Q S q a' w') a w
 | .three i r j q k u,a,w=>wpOp P ops Q i (fun a' w'=>S w'∧WalkT P ops Q S r a' w') a w∧wpOp P ops Q j (fun a' w'=>S w'∧WalkT P ops Q S q a' w') a w∧wpOp P ops Q k (fun a' w'=>S w'∧WalkT P ops Q S u a' w') a w
theorem walkT_spec (hsel:Region.noSelect ops=true)(hQ:∀c a d v w,Q (.panic c) (Act.put a d v) w→Q (.panic c) a w){md:Region.Mode} :
  ∀(ord:PT) (fuel:Nat) (listed:Array Bool) (m:Nat) (a:Act) (w:World),chkT (skel md ops) ord m=true→Agree listed m ops.size→ord.len≤fuel→S w→WalkT P ops Q S ord a w→wpAnyH P md ops Q S fuel listed a w
 | .done,fuel,listed,m,a,w,hc,ha,_,_,h=>by
  refine wpAnyH_done ?_ h fuel;rw[List.eq_nil_iff_forall_not_mem];intro i hi;obtain⟨_,o,ho,_⟩:=mem_ready.1 hi;have h1:=(rdy_iff ha ho).1 hi;have h2:=allI_spec _ 0 hc i _ (skel_of ho);rw[Nat.zero_add,h1]at h2;cases h2
 | .take i r,0,listed,m,a,w,hc,ha,hl,hS,h=>by simp[PT.len]at hl
 | .act i r,0,listed,m,a,w,hc,ha,hl,hS,h=>by simp[PT.len]at hl
 | .two i r j q,0,listed,m,a,w,hc,ha,hl,hS,h=>by simp[PT.len]at hl
 | .three i r j q k u,0,listed,m,a,w,hc,ha,hl,hS,h=>by simp[PT.len]at hl
 | .take i r,fuel+1,listed,m,a,w,hc,ha,hl,hS,h=>by
  simp only[chkT,Bool.and_eq_true]at hc;obtain⟨h1,h2⟩:=hc
  cases hs:(skel md ops)[i]? with
  | none=>rw[hs]at h1;cases h1
  | some s=>
   rw[hs]at h1;obtain⟨o,ho,rfl⟩:=skel_at hs;simp only[Bool.and_eq_true]at h1;obtain⟨h1,h3⟩:=h1;have hlt:i<ops.size:=(Array.getElem?_eq_some_iff.1 ho).1;have hr:=(rdy_iff ha ho).2 h1;have ha2:=ha.set hlt;have hl2:r.len≤fuel:=by simp only[PT.len]at hl;omega
   obtain⟨o',v,ho',hy,hw⟩:=h;rw[ho]at ho';obtain rfl:=Option.some.inj ho';refine wpAnyH_first ho (Region.noSelect_spec hsel) (fun c a w h=>hQ c a _ _ w h) fuel listed a w (fun j oj hj hne hun hno=>?_) hr hy hS (walkT_spec hsel hQ r fuel _ _ _ _ h2 ha2 hl2 hS hw);have h4:=allI_spec _ 0 h3 j _ (skel_of hj);rw[Nat.zero_add]at h4;have hjl:j<ops.size:=(Array.getElem?_eq_some_iff.1 hj).1;rw[ha.open_ hjl]at hun;simp only[Bool.or_eq_true,beq_iff_eq,hne,hun,Bool.false_eq_true,false_or,List.contains_eq_mem,decide_eq_true_eq,List.mem_map,List.mem_filter]at h4;rcases h4 with⟨e,⟨he,hb⟩,hei⟩|h4
   ·exact absurd hei (hno e (by simpa using he) hb)
   ·exact h4
 | .act i r,fuel+1,listed,m,a,w,hc,ha,hl,hS,h=>by
  simp only[chkT,Bool.and_eq_true]at hc;obtain⟨h1,h2⟩:=hc
  cases hs:(skel md ops)[i]? with
  | none=>rw[hs]at h1;cases h1
  | some s=>
   rw[hs]at h1;obtain⟨o,ho,rfl⟩:=skel_at hs;simp only[Bool.and_eq_true]at h1;obtain⟨h1,h3⟩:=h1;have hlt:i<ops.size:=(Array.getElem?_eq_some_iff.1 ho).1;have hr:=(rdy_iff ha ho).2 h1;have ha2:=ha.set hlt;have hl2:r.len≤fuel:=by simp only[PT.len]at hl;omega
   refine wpAnyH_all rfl (fun e=>by rw[e]at hr;cases hr) fun j hj=>?_;obtain⟨_,oj,hoj,_⟩:=mem_ready.1 hj;have h4:=allI_spec _ 0 h3 j _ (skel_of hoj);rw[Nat.zero_add,(rdy_iff ha hoj).1 hj]at h4;have hji:j=i:=by simpa using h4
   subst hji;exact wpOp_mono (fun a' w' h'=>⟨h'.1,walkT_spec hsel hQ r fuel _ _ _ _ h2 ha2 hl2 h'.1 h'.2⟩) h
 | .two i r k q,fuel+1,listed,m,a,w,hc,ha,hl,hS,h=>by
  simp only[chkT,Bool.and_eq_true]at hc;obtain⟨⟨⟨h1,hk⟩,h2⟩,h5⟩:=hc
  cases hs:(skel md ops)[i]? with
  | none=>rw[hs]at h1;cases h1
  | some s=>
   rw[hs]at h1;obtain⟨o,ho,rfl⟩:=skel_at hs;simp only[Bool.and_eq_true]at h1;obtain⟨h1,h3⟩:=h1
   cases hs':(skel md ops)[k]? with
   | none=>rw[hs']at hk;cases hk
   | some s'=>
    obtain⟨o',ho',rfl⟩:=skel_at hs';have hlt:i<ops.size:=(Array.getElem?_eq_some_iff.1 ho).1;have hlt':k<ops.size:=(Array.getElem?_eq_some_iff.1 ho').1;have hr:=(rdy_iff ha ho).2 h1;have ha2:=ha.set hlt;have ha3:=ha.set hlt';have hl2:r.len≤fuel∧q.len≤fuel:=by simp only[PT.len]at hl;split at hl<;>omega
    refine wpAnyH_all rfl (fun e=>by rw[e]at hr;cases hr) fun j hj=>?_;obtain⟨_,oj,hoj,_⟩:=mem_ready.1 hj;have h4:=allI_spec _ 0 h3 j _ (skel_of hoj);rw[Nat.zero_add,(rdy_iff ha hoj).1 hj]at h4;have hji:j=i∨j=k:=by simpa using h4
    rcases hji with rfl|rfl
    ·exact wpOp_mono (fun a' w' h'=>⟨h'.1,walkT_spec hsel hQ r fuel _ _ _ _ h2 ha2 hl2.1 h'.1 h'.2⟩) h.1
    ·exact wpOp_mono (fun a' w' h'=>⟨h'.1,walkT_spec hsel hQ q fuel _ _ _ _ h5 ha3 hl2.2 h'.1 h'.2⟩) h.2
 | .three i r k q l u,fuel+1,listed,m,a,w,hc,ha,hl,hS,h=>by
  simp only[chkT,Bool.and_eq_true]at hc;obtain⟨⟨⟨⟨⟨h1,hk⟩,hk2⟩,h2⟩,h5⟩,h6⟩:=hc
  cases hs:(skel md ops)[i]? with
  | none=>rw[hs]at h1;cases h1
  | some s=>
   rw[hs]at h1;obtain⟨o,ho,rfl⟩:=skel_at hs;simp only[Bool.and_eq_true]at h1;obtain⟨h1,h3⟩:=h1
   cases hs':(skel md ops)[k]? with
   | none=>rw[hs']at hk;cases hk
   | some s'=>
    cases hs'':(skel md ops)[l]? with
    | none=>rw[hs'']at hk2;cases hk2
    | some s''=>
     obtain⟨o',ho',rfl⟩:=skel_at hs';obtain⟨o'',ho'',rfl⟩:=skel_at hs'';have hlt:i<ops.size:=(Array.getElem?_eq_some_iff.1 ho).1;have hlt':k<ops.size:=(Array.getElem?_eq_some_iff.1 ho').1;have hlt'':l<ops.size:=(Array.getElem?_eq_some_iff.1 ho'').1;have hr:=(rdy_iff ha ho).2 h1;have ha2:=ha.set hlt;have ha3:=ha.set hlt';have ha4:=ha.set hlt'';have hl2:r.len≤fuel∧q.len≤fuel∧u.len≤fuel:=by simp only[PT.len]at hl;omega
     refine wpAnyH_all rfl (fun e=>by rw[e]at hr;cases hr) fun j hj=>?_;obtain⟨_,oj,hoj,_⟩:=mem_ready.1 hj;have h4:=allI_spec _ 0 h3 j _ (skel_of hoj);rw[Nat.zero_add,(rdy_iff ha hoj).1 hj]at h4;have hji:(j=i∨j=k)∨j=l:=by simpa using h4
     rcases hji with(rfl|rfl)|rfl
     ·exact wpOp_mono (fun a' w' h'=>⟨h'.1,walkT_spec hsel hQ r fuel _ _ _ _ h2 ha2 hl2.1 h'.1 h'.2⟩) h.1
     ·exact wpOp_mono (fun a' w' h'=>⟨h'.1,walkT_spec hsel hQ q fuel _ _ _ _ h5 ha3 hl2.2.1 h'.1 h'.2⟩) h.2.1
     ·exact wpOp_mono (fun a' w' h'=>⟨h'.1,walkT_spec hsel hQ u fuel _ _ _ _ h6 ha4 hl2.2.2 h'.1 h'.2⟩) h.2.2
theorem region_tree {id:Nat}{a:Act}{w:World}(sk:List Sk)(ord:PT)(hm:P.follows .mixedOrders=true)(hsel:Region.noSelect ops=true)(hsk:skel .any ops=sk)(hc:chkT sk ord 0=true)(hl:decide (ord.len≤ops.size)=true)
  (hQ:∀c a d v w,Q (.panic c) (Act.put a d v) w→Q (.panic c) a w) (hS:S w.drew) (h:WalkT P ops Q S ord a w.drew):(Code.region id ops true).wp P Q a w:=
 wp_region_held (S:=S) hm (walkT_spec hsel hQ ord ops.size _ 0 a _ (by rw[hsk];exact hc) (Agree.start _) (of_decide_eq_true hl) hS h)
theorem WalkT.take {i:Nat}{oi:Oper}{v:Value}{r:PT}{a:Act}{w:World}(hi:ops.toList[i]? = some oi)(hw:Region.wanted oi (yielded ops a.tmps)=true)(hy:∀w,S w→(execOp a.eval oi).run P w=.ok (.value v) w)
  (h:WalkT P ops Q S r (a.put oi.dst v) w):WalkT P ops Q S (.take i r) a w:=⟨oi,v,by rw[←Array.getElem?_toList];exact hi,.inl ⟨hw,hy⟩,h⟩
theorem wpOp_of {i:Nat}{oi:Oper}{r:PT}{a:Act}{w:World}(hi:ops.toList[i]? = some oi)(hw:Region.wanted oi (yielded ops a.tmps)=true)
  (h:∀K:Act→World→Prop,Hid (∀a' w',S w'→WalkT P ops Q S r a' w'→K a' w')→oi.wp P a w K Q):wpOp P ops Q i (fun a' w'=>S w'∧WalkT P ops Q S r a' w') a w:=by
 rw[Array.getElem?_toList]at hi;unfold wpOp;simp only[hi,hw,if_true];exact .inl (h _ fun a' w' h1 h2=>⟨h1,h2⟩)
theorem WalkT.act {i:Nat}{oi:Oper}{r:PT}{a:Act}{w:World}(hi:ops.toList[i]? = some oi)(hw:Region.wanted oi (yielded ops a.tmps)=true)
  (h:∀K:Act→World→Prop,Hid (∀a' w',S w'→WalkT P ops Q S r a' w'→K a' w')→oi.wp P a w K Q):WalkT P ops Q S (.act i r) a w:=wpOp_of hi hw h
theorem WalkT.done {a:Act}{w:World}(h:Q .normal a w):WalkT P ops Q S .done a w:=h
end
theorem Blk.fiveT {w:World}{g:Nat}{t:TypeId}{a0 a1 a2 a3 a4:Value}(h:Blk w g t #[a0,a1,a2,a3,a4]) :
  w.cell? ⟨g,0,none⟩=some a0∧w.cell? ⟨g,1,none⟩=some a1∧w.cell? ⟨g,2,none⟩=some a2∧w.cell? ⟨g,3,none⟩=some a3∧w.cell? ⟨g,4,none⟩=some a4:=⟨h.cell 0,h.cell 1,h.cell 2,h.cell 3,h.cell 4⟩
def oK (t:Tk):Obj:=.cells #[.int .u8 t.kd,.int .i64 t.ps,.string ⟨t.tx.toArray⟩,.int .i32 t.nn,.int .u64 t.ff] 133
theorem ppatom_of (R d k:Nat)(P:PS→Rs Ex)(hu:d<24→Reads R (d+1) 151 P)(he:∀o c s,within (dK k) o c s=encl d o c P s):Reads R d 268 (atom (dK k)):=by
 intro s w h;have HBr:=Hj (ppbracketed_of R d P hu);have HIx:=Hj (ppindex_of R d P hu);have BL:=bel_one w zX;have NB:Hid (Blk (w.alloc zX) w.heap.size 42 zeroH.va):=Blk.new _ _ _;have HR:=Hj (h.alloc zX);have HLT:=Hj h.lt;have hz:(w.alloc zX).heap.size=w.heap.size+1:=World.size_alloc ..;have HSZ:=Hj hz;have HF:Hid (Fx (On R) w.heap.size w (w.alloc zX)):=Fx.of BL;have HE:=Hj he;have HGD:=Hj h.good;clear BL h hz hu he;generalize hZ:atom (dK k) s=Z;have HZ:=Hj hZ;clear hZ;go_enter Tryz.func268,Tryz.ntmps268;go_upto_region 1 with fail;change (Code.region 1 _ _).wp _ _ _ (w.alloc zX);generalize w.alloc zX=wx at *;go_wp2_with fail;refine(ppsees_any R d s [40] wx HR.out).mono ?_;rintro e w1 ⟨rfl,hb⟩;have NB1:=Hj (NB.out.below hb NB.out.lt);have HR1:=Hj (HR.out.below hb HR.out.lt);have HF1:=Hj (fx_bel HF.out hb);have HS1:Hid (w.heap.size+1≤w1.heap.size):=by show _≤_;have:=hb.size;have:=HSZ.out;omega
 clear NB HR HF hb HSZ
 by_cases c1:s.hd.tx=[40]
 ·rw[beq_yes c1]
  have E:Hid (encl d [40] [41] P s=Z):=by show _=Z;rw[←HZ.out,←HE.out];unfold atom;rw[if_pos c1]
  have A:=Hj (HBr.out s w1 HR1.out);rw[E.out]at A;clear c1 HZ E HBr HIx HE;go_wp2_with fail;refine A.out.mono ?_;intro r w3 hpo;clear A
  cases Z with
  | no c q=>
   obtain⟨rfl,f3⟩:=hpo;have HF3:=Hj (fx_trans HF1.out f3);clear f3;go_wp2_with fail;exact⟨rfl,rfl,HF3.out⟩
  | ok e s3=>
   obtain⟨v,rfl,⟨b,rfl,xb,eb⟩,h3,f3⟩:=hpo;have HF3:=Hj (fx_trans HF1.out f3);have NB3:=Hj (f3.blk NB1.out NB1.out.lt (on_ne HLT.out));have HX3:=Hj (xb.imp (D':=fun k=>w.heap.size<k) (fun k _ (x:w1.heap.size≤k)=>Nat.lt_of_lt_of_le HS1.out x));have HR3:=Hj h3;have EB:=Hj eb;clear f3 xb h3 eb NB1 HF1
   go_wp2_with (refine st_ex b.h w.heap.size _ NB3.out rfl rfl _ _ rfl rfl rfl ?_)
   exact bodyPost_ret (rs_ex rfl _ _ w.heap.size b.h rfl (NB3.out.rowS _)) rfl ⟨_,rfl,⟨b,rfl,(HX3.out.row (Nat.lt_irrefl _) _).imp (fun k _ x=>Nat.le_of_lt x),EB.out⟩,HR3.out.row HLT.out _,fx_row HF3.out (.inr (Nat.le_refl _)) _⟩
 ·rw[beq_no c1]
  have C1:=Hj c1;clear c1;go_wp2_with fail;refine(ppnext_any R d s w1 HR1.out).mono ?_;rintro e w2 ⟨rfl,hb⟩;have BLb:Below w2.heap.size w2 (w2.alloc (oK s.hd)):=bel_one _ _;have BB:=hb.trans (BLb.mono hb.size);have NB2:=Hj (NB1.out.below BB NB1.out.lt);have HR2:=Hj (HR1.out.below BB HR1.out.lt);have HF2:=Hj (fx_bel HF1.out BB);have HS2:Hid (w.heap.size<w2.heap.size):=Nat.lt_of_lt_of_le HS1.out hb.size;have TB:Hid (Blk (w2.alloc (oK s.hd)) w2.heap.size 133 s.hd.vs):=Blk.new _ _ _;clear hb BLb BB NB1 HR1 HF1 HS1;unfold Tk.v;go_upto_region 4 with fail;change (Code.region 4 _ _).wp _ _ _ (w2.alloc (oK s.hd));generalize w2.alloc (oK s.hd)=w3 at *;generalize w2.heap.size=tb at *;have KG:=Hj fun w' (hb:Below w3.heap.size w3 w')=>(TB.out.below hb TB.out.lt).fiveT;obtain⟨t0,t1,t2,t3,t4⟩:=TB.out.fiveT
  go_cut [4] (fun v wx=>∃be:Nat,v=.pointer (some ⟨be,0,none⟩)∧Hid (Blk wx be 42 (EH.va ⟨atT s.hd,s.hd.ps,false,0,0,[],⟨none,0,0⟩⟩))∧Hid (Below w3.heap.size w3 wx)∧Hid (w3.heap.size≤be))
  case first=>
   refine region_tree (S:=fun w'=>w'.cell? ⟨tb,0,none⟩=some (.int .u8 s.hd.kd)∧w'.cell? ⟨tb,1,none⟩=some (.int .i64 s.hd.ps)∧w'.cell? ⟨tb,2,none⟩=some (.string ⟨s.hd.tx.toArray⟩)∧w'.cell? ⟨tb,3,none⟩=some (.int .i32 s.hd.nn)∧w'.cell? ⟨tb,4,none⟩=some (.int .u64 s.hd.ff)) _ (.take 0 (.take 2 (.take 3 (.two 1 (.take 4 (.act 5 (.act 6 .done))) 5 (.act 1 (.take 4 (.act 6 .done))))))) (by kernel_rfl) (by kernel_rfl) rfl (by kernel_rfl) (by kernel_rfl) (fun _ _ d _ _ h=>by cases d<;>exact h) (KG.out _ (bel_drew (Below.refl _ _))) ?_
   iterate 3
    refine WalkT.take (v:=?_) rfl (by rfl) ?_ ?_;rotate_left
    ·(intro w' hSw;(try dsimp only at hSw);go_simp<;>with_reducible rfl)
    try simp only[Act.put,List.setIfInBounds_toArray,List.set_cons_zero,List.set_cons_succ]
   refine⟨wpOp_of rfl (by rfl) (fun K hK=>?_),wpOp_of rfl (by rfl) (fun K hK=>?_)⟩
   ·go_simp
    go_at_call 277;refine(ppatomOp_any s.hd _).mono ?_;rintro r w4 ⟨rfl,hb4⟩;have X1:Below w3.heap.size w3 w4:=bel_trans (bel_drew (Below.refl _ _)) hb4;refine hK.out _ _ (KG.out _ X1) ?_;clear hK K;try simp only[Act.put,List.setIfInBounds_toArray,List.set_cons_zero,List.set_cons_succ]
    refine WalkT.take (v:=?_) rfl (by rfl) ?_ ?_;rotate_left
    ·(intro w' hSw;(try dsimp only at hSw);go_simp<;>with_reducible rfl)
    try simp only[Act.put,List.setIfInBounds_toArray,List.set_cons_zero,List.set_cons_succ]
    refine WalkT.act rfl (by rfl) (fun K hK=>?_);go_simp;refine hK.out _ _ (KG.out _ (bel_alloc X1 _)) ?_;clear hK K;try simp only[Act.put,List.setIfInBounds_toArray,List.set_cons_zero,List.set_cons_succ]
    refine WalkT.act rfl (by rfl) (fun K hK=>?_);refine wp_store_row 42 _ _ rfl w4.heap.size (EH.va ⟨atT s.hd,s.hd.ps,false,0,0,[],⟨none,0,0⟩⟩) rfl rfl 42 _ (Blk.new w4 42 zeroH.va) (by kernel_rfl) rfl (by simp[EH.va,Value.oneCell']) ?_;have X2:=below_setRow (bel_alloc X1 zX) X1.size (EH.va ⟨atT s.hd,s.hd.ps,false,0,0,[],⟨none,0,0⟩⟩);refine hK.out _ _ (KG.out _ X2) ?_;clear hK K;try simp only[Act.put]
    refine WalkT.done ?_;go_wp2_with fail;go_meet;exact⟨_,rfl,(Blk.new w4 42 zeroH.va).rowS _,X2,X1.size⟩
   ·go_simp
    refine hK.out _ _ (KG.out _ (bel_alloc (bel_drew (Below.refl _ _)) _)) ?_;clear hK K;try simp only[Act.put,List.setIfInBounds_toArray,List.set_cons_zero,List.set_cons_succ]
    refine WalkT.act rfl (by rfl) (fun K hK=>?_);go_simp;go_at_call 277;refine(ppatomOp_any s.hd _).mono ?_;rintro r w4 ⟨rfl,hb4⟩;have X1:Below w3.heap.size w3 w4:=(by refine bel_trans ?_ hb4;repeat (first|exact Below.refl _ _|refine bel_drew ?_|refine bel_alloc ?_ _));have Kq:Blk w4 w3.heap.size 42 zeroH.va:=(Blk.drew (Blk.new w3 42 zeroH.va)).below hb4 (Blk.drew (Blk.new w3 42 zeroH.va)).lt;refine hK.out _ _ (KG.out _ X1) ?_;clear hK K;try simp only[Act.put,List.setIfInBounds_toArray,List.set_cons_zero,List.set_cons_succ]
    refine WalkT.take (v:=?_) rfl (by rfl) ?_ ?_;rotate_left
    ·(intro w' hSw;(try dsimp only at hSw);go_simp<;>with_reducible rfl)
    try simp only[Act.put,List.setIfInBounds_toArray,List.set_cons_zero,List.set_cons_succ]
    refine WalkT.act rfl (by rfl) (fun K hK=>?_);refine wp_store_row 42 _ _ rfl w3.heap.size (EH.va ⟨atT s.hd,s.hd.ps,false,0,0,[],⟨none,0,0⟩⟩) rfl rfl 42 _ Kq (by kernel_rfl) rfl (by simp[EH.va,Value.oneCell']) ?_;have X2:=below_setRow X1 (Nat.le_refl _) (EH.va ⟨atT s.hd,s.hd.ps,false,0,0,[],⟨none,0,0⟩⟩);refine hK.out _ _ (KG.out _ X2) ?_;clear hK K;try simp only[Act.put]
    refine WalkT.done ?_;go_wp2_with fail;go_meet;exact⟨_,rfl,Kq.rowS _,X2,Nat.le_refl _⟩
  case rest=>
   obtain⟨be,rfl,HEb,HBe,HGe⟩:=hcut;have NB4:=Hj (NB2.out.below HBe.out NB2.out.lt);have TB4:=Hj (TB.out.below HBe.out TB.out.lt);have HR4:=Hj (HR2.out.below HBe.out HR2.out.lt);have HF4:=Hj (fx_bel HF2.out HBe.out);have HGE:Hid (w.heap.size<be):=Nat.lt_of_lt_of_le NB2.out.lt HGe.out;have HTE:Hid (R<tb):=Nat.lt_trans HLT.out HS2.out;have HS:Hid (Hd s.hd):=HGD.out.hd;have ho:0≤atT s.hd∧atT s.hd≤255:=by unfold atT;(repeat' split)<;>decide
   have HO:=Hj ho;have KDh:=Hj fun hx=>atT_ne HGD.out hx;clear NB2 TB HR2 HF2 HBe HGe HS2 KG t0 t1 t2 t3 t4 ho;generalize hop:atT s.hd=op at *;have HOP:=Hj hop;clear hop;have m0:wc.cell? ⟨be,0,none⟩=some (.int .u8 op):=HEb.out.cell 0
   by_cases c0:op=0
   ·subst c0
    have E:Hid (Z=.no 110 s.hd.ps):=by show Z=_;rw[←HZ.out];unfold atom;rw[if_neg C1.out,if_pos HOP.out];rfl
    clear HZ;go_wp2_with fail;refine(pprefuse_any R d s wc HR4.out).mono ?_;rintro r w5 ⟨rfl,hb⟩;have HF5:=Hj (fx_bel HF4.out hb);clear hb;go_wp2_with fail;refine⟨rfl,?_⟩;rw[E.out];exact⟨rfl,HF5.out⟩
   ·have hk:s.hd.kd≠0:=KDh.out c0
    have c00:(op == 0)=false:=by simp[c0]
    have HK:=Hj hk;clear hk KDh;go_wp2_with fail;refine(pptake_any R d s wc HR4.out HK.out).mono ?_;rintro r w5 ⟨rfl,h5,f5⟩;have NB5:=Hj (f5.blk NB4.out NB4.out.lt (on_ne HLT.out));have TB5:=Hj (f5.blk TB4.out TB4.out.lt (on_ne HTE.out));have HB5:=Hj (f5.blk HEb.out HEb.out.lt (on_ne (Nat.lt_trans HLT.out HGE.out)));have HR5:=Hj h5;have HF5:=Hj (fx_trans HF4.out f5);clear NB4 TB4 HEb HR4 HF4 f5 h5 m0
    by_cases c1:op=1
    ·have c:=c1
     clear c0 c00 c1;obtain rfl:=c.symm
     have E:Hid (whole (boX s.hd.ps (s.hd.tx == [116,114,117,101])) s.tk=Z):=by
      show _=Z;rw[←HZ.out];unfold atom;rw[if_neg C1.out,HOP.out];rfl
     have b1:=HB5.out.set_ 2 (.bool (s.hd.tx == [116,114,117,101]));have HBt:Hid (Blk (w5.setCell ⟨be,2,none⟩ (.bool (s.hd.tx == [116,114,117,101]))) be 42 (EH.va ⟨1,s.hd.ps,(s.hd.tx == [116,114,117,101]),0,0,[],⟨none,0,0⟩⟩)):=b1;have NBt:=Hj (NB5.out.far (p:=⟨be,2,none⟩) (Nat.ne_of_lt HGE.out) (.bool (s.hd.tx == [116,114,117,101])));have HRt:=Hj (HR5.out.set (p:=⟨be,2,none⟩) (Nat.lt_trans HLT.out HGE.out) (.bool (s.hd.tx == [116,114,117,101])));have HFt:=Hj (fx_set HF5.out (p:=⟨be,2,none⟩) (.inr (Nat.le_of_lt HGE.out)) (.bool (s.hd.tx == [116,114,117,101])));have m0:w5.cell? ⟨be,0,none⟩=some (.int .u8 1):=HB5.out.cell 0;have m1:w5.cell? ⟨be,2,none⟩=some (.bool false):=HB5.out.cell 2;have z1:w5.frozen? ⟨be,2,none⟩=false:=HB5.out.frozen 2;have tk:w5.cell? ⟨tb,2,none⟩=some (.string ⟨s.hd.tx.toArray⟩):=TB5.out.cell 2;clear b1 HB5 NB5 HR5 HF5 TB5 HZ;go_upto_region 19 with fail;change (Code.region 19 _ _).wp _ _ _ (w5.setCell ⟨be,2,none⟩ (.bool (s.hd.tx == [116,114,117,101])));generalize w5.setCell ⟨be,2,none⟩ (.bool (s.hd.tx == [116,114,117,101]))=wt at *
     have EQ:Hid ((Ex.mk ⟨1,s.hd.ps,(s.hd.tx == [116,114,117,101]),0,0,[],⟨none,0,0⟩⟩ (fun _=>.no)).eqv (boX s.hd.ps (s.hd.tx == [116,114,117,101]))):=Ex.eqv_refl _;have HXt:Hid (XO (fun k=>be<k) (Ex.mk ⟨1,s.hd.ps,(s.hd.tx == [116,114,117,101]),0,0,[],⟨none,0,0⟩⟩ (fun _=>.no)) wt):=leaf_in (eh_ok (by decide) (by decide) HS.out.ps0 HS.out.ps1 (by decide) (by decide) (by decide) (by decide) (Nat.zero_le _) sl_no) rfl;have CM:=Hj (ppcomplete_any R d s.tk ⟨1,s.hd.ps,(s.hd.tx == [116,114,117,101]),0,0,[],⟨none,0,0⟩⟩ wt HRt.out (boX s.hd.ps (s.hd.tx == [116,114,117,101])) rfl);rw[E.out]at CM
     go_wp2_with (refine ld_ex ⟨1,s.hd.ps,(s.hd.tx == [116,114,117,101]),0,0,[],⟨none,0,0⟩⟩ be HBt.out rfl _ rfl rfl ?_)
     refine CM.out.mono ?_;intro r w6 hpo;clear CM
     cases Z with
     | no c q=>
      obtain⟨rfl,f6⟩:=hpo;have HF6:=Hj (fx_trans HFt.out f6);clear f6;go_wp2_with fail;exact⟨rfl,rfl,HF6.out⟩
     | ok a s6=>
      obtain⟨v,rfl,rfl,h6,f6⟩:=hpo;obtain rfl:=whole_ok E.out;have HF6:=Hj (fx_trans HFt.out f6);have NB6:=Hj (f6.blk NBt.out NBt.out.lt (on_ne HLT.out));have HX6:=Hj (HXt.out.fx f6 (on_not (fun x:be<R=>Nat.lt_asymm x (Nat.lt_trans HLT.out HGE.out))));have HR6:=Hj h6;clear f6 h6 NBt HXt HRt HFt
      go_wp2_with (refine st_ex ⟨1,s.hd.ps,(s.hd.tx == [116,114,117,101]),0,0,[],⟨none,0,0⟩⟩ w.heap.size _ NB6.out rfl rfl _ _ rfl rfl rfl ?_)
      refine bodyPost_ret (rs_ex rfl _ _ w.heap.size ⟨1,s.hd.ps,(s.hd.tx == [116,114,117,101]),0,0,[],⟨none,0,0⟩⟩ rfl (NB6.out.rowS _)) rfl ?_;exact⟨_,rfl,⟨Ex.mk ⟨1,s.hd.ps,(s.hd.tx == [116,114,117,101]),0,0,[],⟨none,0,0⟩⟩ (fun _=>.no),rfl,(HX6.out.row (fun(x:be<w.heap.size)=>Nat.lt_asymm x HGE.out) _).imp (fun k _ (x:be<k)=>Nat.le_of_lt (Nat.lt_trans HGE.out x)),EQ.out⟩,HR6.out.row HLT.out _,fx_row HF6.out (.inr (Nat.le_refl _)) _⟩
    ·by_cases c2:op=2
     ·have c:=c2
      clear c0 c00 c1 c2;obtain rfl:=c.symm
      have E:Hid (whole (inX s.hd.ps s.hd.nn) s.tk=Z):=by
       show _=Z;rw[←HZ.out];unfold atom;rw[if_neg C1.out,HOP.out];rfl
      have b1:=HB5.out.set_ 3 (.int .i32 s.hd.nn);have HBt:Hid (Blk (w5.setCell ⟨be,3,none⟩ (.int .i32 s.hd.nn)) be 42 (EH.va ⟨2,s.hd.ps,false,s.hd.nn,0,[],⟨none,0,0⟩⟩)):=b1;have NBt:=Hj (NB5.out.far (p:=⟨be,3,none⟩) (Nat.ne_of_lt HGE.out) (.int .i32 s.hd.nn));have HRt:=Hj (HR5.out.set (p:=⟨be,3,none⟩) (Nat.lt_trans HLT.out HGE.out) (.int .i32 s.hd.nn));have HFt:=Hj (fx_set HF5.out (p:=⟨be,3,none⟩) (.inr (Nat.le_of_lt HGE.out)) (.int .i32 s.hd.nn));have m0:w5.cell? ⟨be,0,none⟩=some (.int .u8 2):=HB5.out.cell 0;have m1:w5.cell? ⟨be,3,none⟩=some (.int .i32 0):=HB5.out.cell 3;have z1:w5.frozen? ⟨be,3,none⟩=false:=HB5.out.frozen 3;have tk:w5.cell? ⟨tb,3,none⟩=some (.int .i32 s.hd.nn):=TB5.out.cell 3;clear b1 HB5 NB5 HR5 HF5 TB5 HZ;go_upto_region 19 with fail;change (Code.region 19 _ _).wp _ _ _ (w5.setCell ⟨be,3,none⟩ (.int .i32 s.hd.nn));generalize w5.setCell ⟨be,3,none⟩ (.int .i32 s.hd.nn)=wt at *;have EQ:Hid ((Ex.mk ⟨2,s.hd.ps,false,s.hd.nn,0,[],⟨none,0,0⟩⟩ (fun _=>.no)).eqv (inX s.hd.ps s.hd.nn)):=Ex.eqv_refl _
      have HXt:Hid (XO (fun k=>be<k) (Ex.mk ⟨2,s.hd.ps,false,s.hd.nn,0,[],⟨none,0,0⟩⟩ (fun _=>.no)) wt):=leaf_in (eh_ok (by decide) (by decide) HS.out.ps0 HS.out.ps1 (by have:=HS.out.nn0;show(-2147483648:Int)≤s.hd.nn;omega) HS.out.nn1 (by decide) (by decide) (Nat.zero_le _) sl_no) rfl;have CM:=Hj (ppcomplete_any R d s.tk ⟨2,s.hd.ps,false,s.hd.nn,0,[],⟨none,0,0⟩⟩ wt HRt.out (inX s.hd.ps s.hd.nn) rfl);rw[E.out]at CM
      go_wp2_with (refine ld_ex ⟨2,s.hd.ps,false,s.hd.nn,0,[],⟨none,0,0⟩⟩ be HBt.out rfl _ rfl rfl ?_)
      refine CM.out.mono ?_;intro r w6 hpo;clear CM
      cases Z with
      | no c q=>
       obtain⟨rfl,f6⟩:=hpo;have HF6:=Hj (fx_trans HFt.out f6);clear f6;go_wp2_with fail;exact⟨rfl,rfl,HF6.out⟩
      | ok a s6=>
       obtain⟨v,rfl,rfl,h6,f6⟩:=hpo;obtain rfl:=whole_ok E.out;have HF6:=Hj (fx_trans HFt.out f6);have NB6:=Hj (f6.blk NBt.out NBt.out.lt (on_ne HLT.out));have HX6:=Hj (HXt.out.fx f6 (on_not (fun x:be<R=>Nat.lt_asymm x (Nat.lt_trans HLT.out HGE.out))));have HR6:=Hj h6;clear f6 h6 NBt HXt HRt HFt
       go_wp2_with (refine st_ex ⟨2,s.hd.ps,false,s.hd.nn,0,[],⟨none,0,0⟩⟩ w.heap.size _ NB6.out rfl rfl _ _ rfl rfl rfl ?_)
       refine bodyPost_ret (rs_ex rfl _ _ w.heap.size ⟨2,s.hd.ps,false,s.hd.nn,0,[],⟨none,0,0⟩⟩ rfl (NB6.out.rowS _)) rfl ?_;exact⟨_,rfl,⟨Ex.mk ⟨2,s.hd.ps,false,s.hd.nn,0,[],⟨none,0,0⟩⟩ (fun _=>.no),rfl,(HX6.out.row (fun(x:be<w.heap.size)=>Nat.lt_asymm x HGE.out) _).imp (fun k _ (x:be<k)=>Nat.le_of_lt (Nat.lt_trans HGE.out x)),EQ.out⟩,HR6.out.row HLT.out _,fx_row HF6.out (.inr (Nat.le_refl _)) _⟩
     ·by_cases c3:op=3
      ·have c:=c3
       clear c0 c00 c1 c2 c3;obtain rfl:=c.symm
       have E:Hid (whole (flX s.hd.ps s.hd.ff) s.tk=Z):=by
        show _=Z;rw[←HZ.out];unfold atom;rw[if_neg C1.out,HOP.out];rfl
       have b1:=HB5.out.set_ 4 (.int .u64 s.hd.ff);have HBt:Hid (Blk (w5.setCell ⟨be,4,none⟩ (.int .u64 s.hd.ff)) be 42 (EH.va ⟨3,s.hd.ps,false,0,s.hd.ff,[],⟨none,0,0⟩⟩)):=b1;have NBt:=Hj (NB5.out.far (p:=⟨be,4,none⟩) (Nat.ne_of_lt HGE.out) (.int .u64 s.hd.ff));have HRt:=Hj (HR5.out.set (p:=⟨be,4,none⟩) (Nat.lt_trans HLT.out HGE.out) (.int .u64 s.hd.ff));have HFt:=Hj (fx_set HF5.out (p:=⟨be,4,none⟩) (.inr (Nat.le_of_lt HGE.out)) (.int .u64 s.hd.ff));have m0:w5.cell? ⟨be,0,none⟩=some (.int .u8 3):=HB5.out.cell 0;have m1:w5.cell? ⟨be,4,none⟩=some (.int .u64 0):=HB5.out.cell 4;have z1:w5.frozen? ⟨be,4,none⟩=false:=HB5.out.frozen 4;have tk:w5.cell? ⟨tb,4,none⟩=some (.int .u64 s.hd.ff):=TB5.out.cell 4;clear b1 HB5 NB5 HR5 HF5 TB5 HZ;go_upto_region 19 with fail;change (Code.region 19 _ _).wp _ _ _ (w5.setCell ⟨be,4,none⟩ (.int .u64 s.hd.ff));generalize w5.setCell ⟨be,4,none⟩ (.int .u64 s.hd.ff)=wt at *;have EQ:Hid ((Ex.mk ⟨3,s.hd.ps,false,0,s.hd.ff,[],⟨none,0,0⟩⟩ (fun _=>.no)).eqv (flX s.hd.ps s.hd.ff)):=Ex.eqv_refl _
       have HXt:Hid (XO (fun k=>be<k) (Ex.mk ⟨3,s.hd.ps,false,0,s.hd.ff,[],⟨none,0,0⟩⟩ (fun _=>.no)) wt):=leaf_in (eh_ok (by decide) (by decide) HS.out.ps0 HS.out.ps1 (by decide) (by decide) HS.out.ff0 (by have:=HS.out.ff1;show s.hd.ff<18446744073709551616;omega) (Nat.zero_le _) sl_no) rfl;have CM:=Hj (ppcomplete_any R d s.tk ⟨3,s.hd.ps,false,0,s.hd.ff,[],⟨none,0,0⟩⟩ wt HRt.out (flX s.hd.ps s.hd.ff) rfl);rw[E.out]at CM
       go_wp2_with (refine ld_ex ⟨3,s.hd.ps,false,0,s.hd.ff,[],⟨none,0,0⟩⟩ be HBt.out rfl _ rfl rfl ?_)
       refine CM.out.mono ?_;intro r w6 hpo;clear CM
       cases Z with
       | no c q=>
        obtain⟨rfl,f6⟩:=hpo;have HF6:=Hj (fx_trans HFt.out f6);clear f6;go_wp2_with fail;exact⟨rfl,rfl,HF6.out⟩
       | ok a s6=>
        obtain⟨v,rfl,rfl,h6,f6⟩:=hpo;obtain rfl:=whole_ok E.out;have HF6:=Hj (fx_trans HFt.out f6);have NB6:=Hj (f6.blk NBt.out NBt.out.lt (on_ne HLT.out));have HX6:=Hj (HXt.out.fx f6 (on_not (fun x:be<R=>Nat.lt_asymm x (Nat.lt_trans HLT.out HGE.out))));have HR6:=Hj h6;clear f6 h6 NBt HXt HRt HFt
        go_wp2_with (refine st_ex ⟨3,s.hd.ps,false,0,s.hd.ff,[],⟨none,0,0⟩⟩ w.heap.size _ NB6.out rfl rfl _ _ rfl rfl rfl ?_)
        refine bodyPost_ret (rs_ex rfl _ _ w.heap.size ⟨3,s.hd.ps,false,0,s.hd.ff,[],⟨none,0,0⟩⟩ rfl (NB6.out.rowS _)) rfl ?_;exact⟨_,rfl,⟨Ex.mk ⟨3,s.hd.ps,false,0,s.hd.ff,[],⟨none,0,0⟩⟩ (fun _=>.no),rfl,(HX6.out.row (fun(x:be<w.heap.size)=>Nat.lt_asymm x HGE.out) _).imp (fun k _ (x:be<k)=>Nat.le_of_lt (Nat.lt_trans HGE.out x)),EQ.out⟩,HR6.out.row HLT.out _,fx_row HF6.out (.inr (Nat.le_refl _)) _⟩
      ·by_cases c4:op=4
       ·have c:=c4
        clear c0 c00 c1 c2 c3 c4;obtain rfl:=c.symm
        have E:Hid ((idx d P s.tk).bind (fun l s'=>whole (nmX s.hd.ps s.hd.tx l) s')=Z):=by
         show _=Z;rw[←HZ.out,←idx_eq HE.out];unfold atom;rw[if_neg C1.out,HOP.out];rfl
        have HB5b:Hid (Blk (w5.setCell ⟨be,5,none⟩ (.string ⟨s.hd.tx.toArray⟩)) be 42 (EH.va ⟨4,s.hd.ps,false,0,0,s.hd.tx,⟨none,0,0⟩⟩)):=HB5.out.set_ 5 (.string ⟨s.hd.tx.toArray⟩);have NB5b:=Hj (NB5.out.far (p:=⟨be,5,none⟩) (Nat.ne_of_lt HGE.out) (.string ⟨s.hd.tx.toArray⟩));have HR5b:=Hj (HR5.out.set (p:=⟨be,5,none⟩) (Nat.lt_trans HLT.out HGE.out) (.string ⟨s.hd.tx.toArray⟩));have HF5b:=Hj (fx_set HF5.out (p:=⟨be,5,none⟩) (.inr (Nat.le_of_lt HGE.out)) (.string ⟨s.hd.tx.toArray⟩));have m0:w5.cell? ⟨be,0,none⟩=some (.int .u8 4):=HB5.out.cell 0;have m1:w5.cell? ⟨be,5,none⟩=some (.string ⟨#[]⟩):=HB5.out.cell 5;have z1:w5.frozen? ⟨be,5,none⟩=false:=HB5.out.frozen 5;have tk:w5.cell? ⟨tb,2,none⟩=some (.string ⟨s.hd.tx.toArray⟩):=TB5.out.cell 2;clear HB5 NB5 HR5 HF5 TB5 HZ;go_upto_region 18 with fail;change (Code.region 18 _ _).wp _ _ _ (w5.setCell ⟨be,5,none⟩ (.string ⟨s.hd.tx.toArray⟩));generalize w5.setCell ⟨be,5,none⟩ (.string ⟨s.hd.tx.toArray⟩)=w7 at *;go_wp2_with fail;refine(HIx.out s.tk w7 HR5b.out).mono ?_;intro r w8 hpo
        cases hres:idx d P s.tk with
        | no c q=>
         rw[hres]at hpo;obtain⟨rfl,f8⟩:=hpo;have HF8:=Hj (fx_trans HF5b.out f8);have E8:Hid (Z=.no c q):=by show Z=_;rw[←E.out,hres];rfl
         clear f8 hres;go_wp2_with fail;refine⟨rfl,?_⟩;rw[E8.out];exact⟨rfl,HF8.out⟩
        | ok l s8=>
         rw[hres]at hpo;obtain⟨v,rfl,⟨S,K,rfl,xl,eq⟩,h8,f8⟩:=hpo;obtain⟨A,n,cp⟩:=S;have E8:Hid (whole (nmX s.hd.ps s.hd.tx l) s8=Z):=by show _=Z;rw[←E.out,hres];rfl
         clear hres E;have E:=E8;have hne:¬On R be:=on_ne (Nat.lt_trans HLT.out HGE.out);have k1:=f8.blk HB5b.out HB5b.out.lt hne;have HBt:Hid (Blk (w8.setCell ⟨be,6,none⟩ (.slice A n cp)) be 42 (EH.va ⟨4,s.hd.ps,false,0,0,s.hd.tx,⟨A,n,cp⟩⟩)):=k1.set_ 6 (.slice A n cp);have nb:=f8.blk NB5b.out NB5b.out.lt (on_ne HLT.out);have NBt:=Hj (nb.far (p:=⟨be,6,none⟩) (Nat.ne_of_lt HGE.out) (.slice A n cp));have HRt:=Hj (h8.set (p:=⟨be,6,none⟩) (Nat.lt_trans HLT.out HGE.out) (.slice A n cp));have HFt:=Hj (fx_set (fx_trans HF5b.out f8) (p:=⟨be,6,none⟩) (.inr (Nat.le_of_lt HGE.out)) (.slice A n cp));have xl2:=(xl.imp (D':=fun k=>be<k) (fun k _ (x:w7.heap.size≤k)=>Nat.lt_of_lt_of_le HB5b.out.lt x)).row (p:=⟨be,6,none⟩) (Nat.lt_irrefl _) (.slice A n cp);have HXt:Hid (XO (fun k=>be<k) (Ex.mk ⟨4,s.hd.ps,false,0,0,s.hd.tx,⟨A,n,cp⟩⟩ K) (w8.setCell ⟨be,6,none⟩ (.slice A n cp))):=row_in (eh_ok (by decide) (by decide) HS.out.ps0 HS.out.ps1 (by decide) (by decide) (by decide) (by decide) HS.out.len xl.1) xl2;have EQ:Hid ((Ex.mk ⟨4,s.hd.ps,false,0,0,s.hd.tx,⟨A,n,cp⟩⟩ K).eqv (nmX s.hd.ps s.hd.tx l)):=nm_eqv eq;have m6:w8.cell? ⟨be,6,none⟩=some (.slice none 0 0):=k1.cell 6
         have z6:w8.frozen? ⟨be,6,none⟩=false:=k1.frozen 6;clear f8 xl eq h8 k1 nb xl2 HB5b NB5b HR5b HF5b hne;unfold Sl.val;go_upto_region 19 with fail;change (Code.region 19 _ _).wp _ _ _ (w8.setCell ⟨be,6,none⟩ (.slice A n cp));generalize w8.setCell ⟨be,6,none⟩ (.slice A n cp)=wt at *;have CM:=Hj (ppcomplete_any R d s8 ⟨4,s.hd.ps,false,0,0,s.hd.tx,⟨A,n,cp⟩⟩ wt HRt.out (nmX s.hd.ps s.hd.tx l) rfl);rw[E.out]at CM
         go_wp2_with (refine ld_ex ⟨4,s.hd.ps,false,0,0,s.hd.tx,⟨A,n,cp⟩⟩ be HBt.out rfl _ rfl rfl ?_)
         refine CM.out.mono ?_;intro r w6 hpo;clear CM
         cases Z with
         | no c q=>
          obtain⟨rfl,f6⟩:=hpo;have HF6:=Hj (fx_trans HFt.out f6);clear f6;go_wp2_with fail;exact⟨rfl,rfl,HF6.out⟩
         | ok a s6=>
          obtain⟨v,rfl,rfl,h6,f6⟩:=hpo;obtain rfl:=whole_ok E.out;have HF6:=Hj (fx_trans HFt.out f6);have NB6:=Hj (f6.blk NBt.out NBt.out.lt (on_ne HLT.out));have HX6:=Hj (HXt.out.fx f6 (on_not (fun x:be<R=>Nat.lt_asymm x (Nat.lt_trans HLT.out HGE.out))));have HR6:=Hj h6;clear f6 h6 NBt HXt HRt HFt
          go_wp2_with (refine st_ex ⟨4,s.hd.ps,false,0,0,s.hd.tx,⟨A,n,cp⟩⟩ w.heap.size _ NB6.out rfl rfl _ _ rfl rfl rfl ?_)
          refine bodyPost_ret (rs_ex rfl _ _ w.heap.size ⟨4,s.hd.ps,false,0,0,s.hd.tx,⟨A,n,cp⟩⟩ rfl (NB6.out.rowS _)) rfl ?_;exact⟨_,rfl,⟨Ex.mk ⟨4,s.hd.ps,false,0,0,s.hd.tx,⟨A,n,cp⟩⟩ K,rfl,(HX6.out.row (fun(x:be<w.heap.size)=>Nat.lt_asymm x HGE.out) _).imp (fun k _ (x:be<k)=>Nat.le_of_lt (Nat.lt_trans HGE.out x)),EQ.out⟩,HR6.out.row HLT.out _,fx_row HF6.out (.inr (Nat.le_refl _)) _⟩
       ·skip
        have E:Hid ((encl d [40] [41] P s.tk).bind (fun e s'=>whole (opX op s.hd.ps [e]) s')=Z):=by
         show _=Z;rw[←HZ.out,←HE.out];unfold atom;rw[if_neg C1.out,HOP.out,if_neg c0,if_neg c1,if_neg c2,if_neg c3,if_neg c4]
        have e1:(op == 1)=false:=by simp[c1]
        have e2:(op == 2)=false:=by simp[c2]
        have e3:(op == 3)=false:=by simp[c3]
        have e4:(op == 4)=false:=by simp[c4]
        have m0:w5.cell? ⟨be,0,none⟩=some (.int .u8 op):=HB5.out.cell 0;clear c1 c2 c3 c4 HZ TB5;go_wp2_with fail;refine(HBr.out s.tk w5 HR5.out).mono ?_;intro r w8 hpo
        cases hres:encl d [40] [41] P s.tk with
        | no c q=>
         rw[hres]at hpo;obtain⟨rfl,f8⟩:=hpo;have HF8:=Hj (fx_trans HF5.out f8);have E8:Hid (Z=.no c q):=by show Z=_;rw[←E.out,hres];rfl
         clear f8 hres;go_wp2_with fail;refine⟨rfl,?_⟩;rw[E8.out];exact⟨rfl,HF8.out⟩
        | ok e s8=>
         rw[hres]at hpo;obtain⟨v,rfl,⟨b,rfl,xb,eb⟩,h8,f8⟩:=hpo;have E8:Hid (whole (opX op s.hd.ps [e]) s8=Z):=by show _=Z;rw[←E.out,hres];rfl
         clear hres E;have E:=E8;have hne:¬On R be:=on_ne (Nat.lt_trans HLT.out HGE.out);have k1:=f8.blk HB5.out HB5.out.lt hne;have nb:=f8.blk NB5.out NB5.out.lt (on_ne HLT.out);have hsz:(w8.setCell ⟨be,6,none⟩ (.slice (some ⟨w8.heap.size,0,none⟩) 1 1)).heap.size=w8.heap.size:=World.size_setCell ..;have x1:=(xb.imp (D':=fun k=>be<k) (fun k _ (x:w5.heap.size≤k)=>Nat.lt_of_lt_of_le HB5.out.lt x)).set (p:=⟨be,6,none⟩) (Nat.lt_irrefl _) (.slice (some ⟨w8.heap.size,0,none⟩) 1 1);have BLb:=bel_one (w8.setCell ⟨be,6,none⟩ (.slice (some ⟨w8.heap.size,0,none⟩) 1 1)) (.cells b.h.vs.toArray 42);have HXt:=Hj (one_in (op:=op) (ps:=s.hd.ps) (nm:=[]) x1 (by rw[hsz];exact k1.lt) HO.out.1 HO.out.2 HS.out.ps0 HS.out.ps1 (Nat.zero_le _) (t:=42) rfl);rw[hsz]at HXt;have k2:Blk (w8.setCell ⟨be,6,none⟩ (.slice (some ⟨w8.heap.size,0,none⟩) 1 1)) be 42 (EH.va ⟨op,s.hd.ps,false,0,0,[],⟨some ⟨w8.heap.size,0,none⟩,1,1⟩⟩):=k1.set_ 6 (.slice (some ⟨w8.heap.size,0,none⟩) 1 1);have HBt:=Hj (k2.below BLb k2.lt);have nb2:=nb.far (p:=⟨be,6,none⟩) (Nat.ne_of_lt HGE.out) (.slice (some ⟨w8.heap.size,0,none⟩) 1 1);have NBt:=Hj (nb2.below BLb nb2.lt)
         have hr:=h8.set (p:=⟨be,6,none⟩) (Nat.lt_trans HLT.out HGE.out) (.slice (some ⟨w8.heap.size,0,none⟩) 1 1);have HRt:=Hj (hr.below BLb hr.lt);have HFt:=Hj (fx_bel (fx_set (fx_trans HF5.out f8) (p:=⟨be,6,none⟩) (.inr (Nat.le_of_lt HGE.out)) (.slice (some ⟨w8.heap.size,0,none⟩) 1 1)) BLb);have EQ:Hid ((Ex.mk ⟨op,s.hd.ps,false,0,0,[],⟨some ⟨w8.heap.size,0,none⟩,1,1⟩⟩ (fun _=>b)).eqv (opX op s.hd.ps [e])):=one_eqv eb;have m6:w8.cell? ⟨be,6,none⟩=some (.slice none 0 0):=k1.cell 6;have z6:w8.frozen? ⟨be,6,none⟩=false:=k1.frozen 6;have lb:=k1.lt;clear f8 xb eb h8 k1 nb hsz x1 BLb k2 nb2 hr HB5 NB5 HR5 HF5 hne m0;unfold EH.v;go_upto_region 19 with fail;change (Code.region 19 _ _).wp _ _ _ ((w8.setCell ⟨be,6,none⟩ (.slice (some ⟨w8.heap.size,0,none⟩) 1 1)).alloc (.cells b.h.vs.toArray 42));generalize (w8.setCell ⟨be,6,none⟩ (.slice (some ⟨w8.heap.size,0,none⟩) 1 1)).alloc (.cells b.h.vs.toArray 42)=wt at *;generalize w8.heap.size=g8 at *;have CM:=Hj (ppcomplete_any R d s8 ⟨op,s.hd.ps,false,0,0,[],⟨some ⟨g8,0,none⟩,1,1⟩⟩ wt HRt.out (opX op s.hd.ps [e]) rfl);rw[E.out]at CM
         go_wp2_with (refine ld_ex ⟨op,s.hd.ps,false,0,0,[],⟨some ⟨g8,0,none⟩,1,1⟩⟩ be HBt.out rfl _ rfl rfl ?_)
         refine CM.out.mono ?_;intro r w6 hpo;clear CM
         cases Z with
         | no c q=>
          obtain⟨rfl,f6⟩:=hpo;have HF6:=Hj (fx_trans HFt.out f6);clear f6;go_wp2_with fail;exact⟨rfl,rfl,HF6.out⟩
         | ok a s6=>
          obtain⟨v,rfl,rfl,h6,f6⟩:=hpo;obtain rfl:=whole_ok E.out;have HF6:=Hj (fx_trans HFt.out f6);have NB6:=Hj (f6.blk NBt.out NBt.out.lt (on_ne HLT.out));have HX6:=Hj (HXt.out.fx f6 (on_not (fun x:be<R=>Nat.lt_asymm x (Nat.lt_trans HLT.out HGE.out))));have HR6:=Hj h6;clear f6 h6 NBt HXt HRt HFt
          go_wp2_with (refine st_ex ⟨op,s.hd.ps,false,0,0,[],⟨some ⟨g8,0,none⟩,1,1⟩⟩ w.heap.size _ NB6.out rfl rfl _ _ rfl rfl rfl ?_)
          refine bodyPost_ret (rs_ex rfl _ _ w.heap.size ⟨op,s.hd.ps,false,0,0,[],⟨some ⟨g8,0,none⟩,1,1⟩⟩ rfl (NB6.out.rowS _)) rfl ?_;exact⟨_,rfl,⟨Ex.mk ⟨op,s.hd.ps,false,0,0,[],⟨some ⟨g8,0,none⟩,1,1⟩⟩ (fun _=>b),rfl,(HX6.out.row (fun(x:be<w.heap.size)=>Nat.lt_asymm x HGE.out) _).imp (fun k _ (x:be<k)=>Nat.le_of_lt (Nat.lt_trans HGE.out x)),EQ.out⟩,HR6.out.row HLT.out _,fx_row HF6.out (.inr (Nat.le_refl _)) _⟩
theorem within_none (o c:List UInt8)(P:PS→Rs Ex)(s:PS):within none o c s=encl 24 o c P s:=by
 unfold within encl
 split<;>rfl
theorem within_some (u:PS→Rs Ex)(d:Nat)(hd:d<24)(o c:List UInt8)(s:PS):within (some u) o c s=encl d o c (lvl u 5) s:=by
 unfold within encl;split
 ·rw[if_neg (by omega)]
 ·rfl
theorem ppunary_any (R:Nat):∀k d,d+k=24→Reads R d 256 (unK k)
 | 0,d,h=>by
  obtain rfl:d=24:=by omega
  exact ppunary_of R 24 0 rfl (ppatom_of R 24 0 (exK 0) (fun h=>absurd h (by decide)) (fun o c s=>within_none o c _ s)) (fun k' h=>by cases h)
 | k+1,d,h=>by
  have ih:=ppunary_any R k (d+1) (by omega);exact ppunary_of R d (k+1) h (ppatom_of R d (k+1) (lvl (unK k) 5) (fun _=>ppexpr_any R (d+1) (unK k) ih (rd_unK k)) (fun o c s=>within_some (unK k) d (by omega) o c s)) (fun k' h=>by cases h;exact ih)
theorem ppexpr_at (R k d:Nat)(h:d+k=24):Reads R d 151 (exK k):=ppexpr_any R d (unK k) (ppunary_any R k d h) (rd_unK k)
theorem ppindex_at (R k d:Nat)(h:d+k=24)(s:PS)(w:World)(hr:Rdr R d s w):Calls Tryz.prog 154 #[.pointer (some ⟨R,0,none⟩)] w (PO R d w (index (dK k) s) (VL (Fro w.heap.size))):=by
 cases k with
 | zero=>
  obtain rfl:d=24:=by omega
  have:=ppindex_of R 24 (exK 0) (fun h=>absurd h (by decide)) s w hr;rw[←idx_eq (D:=dK 0) (fun o c s=>within_none o c _ s)]at this;exact this
 | succ k=>
  have:=ppindex_of R d (lvl (unK k) 5) (fun _=>ppexpr_at R k (d+1) (by omega)) s w hr;rw[←idx_eq (D:=dK (k+1)) (fun o c s=>within_some (unK k) d (by omega) o c s)]at this;exact this
theorem ppexpectEnd_any (R d:Nat)(s:PS)(w:World)(h:Rdr R d s w):Calls Tryz.prog 85 #[.pointer (some ⟨R,0,none⟩)] w (PO R d w (endT () s) V0):=by
 have ft:=fun w=>tkv_kd s.hd w;have HR:=Hj h
 by_cases c:s.hd.kd=0
 ·have e3:endT () s=.ok () s:=if_pos c
  rw[e3];have c2:(s.hd.kd == 0)=true:=by simp[c]
  clear e3 h c;go_enter Tryz.func85,Tryz.ntmps85;go_wp2_with fail;refine(ppnext_any R d s w HR.out).mono ?_;rintro e w1 ⟨rfl,hb⟩;have HB:=Hj hb;clear hb;go_wp2_with fail;exact bodyPost_end (results_none rfl _ _ _) rfl ⟨_,rfl,rfl,HR.out.below HB.out HR.out.lt,Fx.of HB.out⟩
 ·have e3:endT () s=.no 110 s.hd.ps:=if_neg c
  rw[e3];have c2:(s.hd.kd == 0)=false:=by simp[c]
  clear e3 h c;go_enter Tryz.func85,Tryz.ntmps85;go_wp2_with fail;refine(ppnext_any R d s w HR.out).mono ?_;rintro e w1 ⟨rfl,hb⟩;have HB:=Hj hb;clear hb;go_wp2_with fail;refine(pprefuse_any R d s w1 (HR.out.below HB.out HR.out.lt)).mono ?_;rintro e w2 ⟨rfl,hb⟩;have HB2:=Hj (bel_trans HB.out hb);clear hb;go_wp2_with fail;exact⟨rfl,rfl,Fx.of HB2.out⟩
def St.eqv:St→St→Prop
 | .no,r=>hsS zeroS r.h=true∧r.h.ps=0∧Ex.no.eqv r.e∧r.h.xs.n=0
 | .mk h x e t l,r=>hsS h r.h=true∧r.h.ps=h.ps∧e.eqv r.e∧(h.xs.n=r.h.xs.n∧∀i,i<h.xs.n→(x i).eqv (r.x i))∧(∀i,i<h.ts.n→(t i).eqv (r.t i))∧∀i,i<h.es.n→(l i).eqv (r.l i)
def XS (D:Nat→Prop)(s:St)(w:World):Prop:=s.In w.heap.size (up D w)
def XB (D:Nat→Prop)(S:Sl)(K:Nat→St)(w:World):Prop:=SsIn w.heap.size (up D w) S K
theorem XS.fx {X D:Nat→Prop}{s:St}{w w':World}(h:XS D s w)(hf:Fx X w.heap.size w w')(hX:∀k,X k→¬D k):XS D s w':=St.In.stay (stay_fx hf hX) hf.size h
theorem XS.imp {D D':Nat→Prop}{s:St}{w:World}(h:XS D s w)(hD:∀k,k<w.heap.size→D k→D' k):XS D' s w:=St.In.stay (stay_imp hD w) (Nat.le_refl _) h
theorem XB.fx {X D:Nat→Prop}{S:Sl}{K:Nat→St}{w w':World}(h:XB D S K w)(hf:Fx X w.heap.size w w')(hX:∀k,X k→¬D k):XB D S K w':=SsIn.stay h (stay_fx hf hX) hf.size
theorem XB.imp {D D':Nat→Prop}{S:Sl}{K:Nat→St}{w:World}(h:XB D S K w)(hD:∀k,k<w.heap.size→D k→D' k):XB D' S K w:=SsIn.stay h (stay_imp hD w) (Nat.le_refl _)
theorem XS.bel {D:Nat→Prop}{s:St}{w w':World}(h:XS D s w)(hb:Below w.heap.size w w'):XS D s w':=h.fx (X:=fun _=>False) (Fx.of hb) (fun _ x=>x.elim)
theorem XB.bel {D:Nat→Prop}{S:Sl}{K:Nat→St}{w w':World}(h:XB D S K w)(hb:Below w.heap.size w w'):XB D S K w':=h.fx (X:=fun _=>False) (Fx.of hb) (fun _ x=>x.elim)
def Seq (S:Sl)(K:Nat→St)(l:List St):Prop:=S.n=l.length∧∀i,i<S.n→(K i).eqv (l.getD i .no)
def VS (L:Nat)(s:St)(v:Value)(w:World):Prop:=∃s':St,v=stv s'.h s'.e.h∧XS (Fro L) s' w∧s'.eqv s
def VB (L:Nat)(l:List St)(v:Value)(w:World):Prop:=∃S K,v=Sl.val S∧XB (Fro L) S K w∧Seq S K l
def ReadS (R d n:Nat)(p:PS→Rs St):Prop:=∀(s:PS) (w:World),Rdr R d s w→Calls Tryz.prog n #[.pointer (some ⟨R,0,none⟩)] w (PO R d w (p s) (VS w.heap.size))
def ReadB (R d n:Nat)(p:PS→Rs (List St)):Prop:=∀(s:PS) (w:World),Rdr R d s w→Calls Tryz.prog n #[.pointer (some ⟨R,0,none⟩)] w (PO R d w (p s) (VB w.heap.size))
def zS:Obj:=.cells (stvs zeroS zeroH).toArray 48
def Wr1 (g:Nat)(w w':World):Prop:=Fx (On g) w.heap.size w w'∧w'.heap.size=w.heap.size
theorem wr1_set (w:World)(g j:Nat)(v:Value):Wr1 g w (w.setCell ⟨g,j,none⟩ v):=⟨fx_set (X:=On g) (Fx.refl _ _ _) (p:=⟨g,j,none⟩) (.inl rfl) v,World.size_setCell ..⟩
theorem wr1_row (w:World)(g:Nat)(cs:Array Value):Wr1 g w (w.setRow g cs):=⟨fx_row (X:=On g) (Fx.refl _ _ _) (g:=g) (.inl rfl) cs,row_size ..⟩
theorem wr1_cells (g:Nat):∀(vs:List Value) (o:Nat) (w:World),Wr1 g w (w.setCells g o vs)
 | [],_,w=>⟨Fx.refl _ _ _,rfl⟩
 | v::r,o,w=>by
  have h1:=wr1_set w g o v;have h2:=wr1_cells g r (o+1) (w.setCell ⟨g,o,none⟩ v);exact⟨fx_trans h1.1 h2.1,h2.2.trans h1.2⟩
theorem Wr1.blk {g k:Nat}{w w':World}{t:TypeId}{cs:Array Value}(h:Wr1 g w w')(b:Blk w k t cs)(hk:k≠g):Blk w' k t cs:=h.1.blk b b.lt (fun x=>hk x)
theorem Wr1.rdr {R d g:Nat}{s:PS}{w w':World}(h:Wr1 g w w')(r:Rdr R d s w)(hg:R<g):Rdr R d s w':=r.fx h.1 r.lt (fun k hk (x:k=g)=>by omega)
theorem Wr1.fx {X:Nat→Prop}{g:Nat}{a w w':World}(h:Wr1 g w w')(f:Fx X a.heap.size a w)(hg:a.heap.size≤g):Fx X a.heap.size a w':=
 f.trans (h.1.mono f.size (fun k hk (x:k=g)=>by omega))
theorem blk_cells {g:Nat}{t:TypeId}:∀(vs:List Value) (o:Nat) (w:World) (c:Array Value),Blk w g t c→∃c',Blk (w.setCells g o vs) g t c'∧c'.size=c.size∧∀j,c'[j]? = if o≤j∧j<o+vs.length∧j<c.size then vs[j-o]? else c[j]?
 | [],o,w,c,h=>⟨c,h,rfl,fun j=>by rw[if_neg (by simp;omega)]⟩
 | v::r,o,w,c,h=>by
  obtain⟨c',h1,h2,h3⟩:=blk_cells r (o+1) (w.setCell ⟨g,o,none⟩ v) _ (h.set_ o v);refine⟨c',h1,by rw[h2];simp,fun j=>?_⟩;rw[h3 j];simp only[Array.size_setIfInBounds,List.length_cons]
  by_cases a1:o+1≤j∧j<o+1+r.length∧j<c.size
  ·rw[if_pos a1,if_pos (by omega)]
   obtain⟨n,rfl⟩:∃n,j=o+1+n:=⟨j - (o+1),by omega⟩;rw[show o+1+n-(o+1)=n by omega,show o+1+n-o=n+1 by omega];rfl
  ·rw[if_neg a1,Array.getElem?_setIfInBounds]
   by_cases a2:o=j
   ·subst a2
    rw[if_pos rfl]
    by_cases a3:o<c.size
    ·rw[if_pos a3,if_pos (by omega)]
     simp
    ·rw[if_neg a3,if_neg (by omega)]
     rw[Array.getElem?_eq_none (by omega)]
   ·rw[if_neg a2,if_neg (by omega)]
section
variable {ops:Array Oper} {rest:List Oper} {o:Oper} {a:Act} {w:World} {Q:Exit→Act→World→Prop}
theorem stvs_len (h:SH)(e:EH):(stvs h e).length=15:=rfl
theorem st_stm (h:SH)(e:EH)(g:Nat)(old:Array Value)(hg:Blk w g 48 old)(hold:old.size=15)(hgd:o.guard=none)(x y:Operand)(ho:o.op=.store 48 x y)(hx:a.eval x=.pointer (some ⟨g,0,none⟩))(hy:a.eval y=stv h e)
  (hw:wpList Tryz.prog ops Q rest (a.put o.dst undef) (w.setRow g (stvs h e).toArray)):wpList Tryz.prog ops Q (o::rest) a w:=
 wpList_store_row hgd 48 x y ho g (stvs h e).toArray hx hy 48 old hg (by kernel_rfl) hold (by simp[stvs,Value.oneCell']) hw
theorem ld_stm (h:SH)(e:EH)(g:Nat)(hg:Blk w g 48 (stvs h e).toArray)(hgd:o.guard=none)(x:Operand)(ho:o.op=.load 48 x)(hx:a.eval x=.pointer (some ⟨g,0,none⟩))
  (hw:wpList Tryz.prog ops Q rest (a.put o.dst (stv h e)) w):wpList Tryz.prog ops Q (o::rest) a w:=
 wpList_load_row hgd 48 x ho g hx 48 (stvs h e).toArray (0,0) _ hg Tryz.underlying48 rfl (by kernel_rfl) hw
theorem st_se (h:SH)(e0 e:EH)(g:Nat)(hg:Blk w g 48 (stvs h e0).toArray)(hgd:o.guard=none)(x y:Operand)(ho:o.op=.store 42 x y)(hx:a.eval x=.pointer (some ⟨g,4,none⟩))(hy:a.eval y=e.v)
  (hw:∀w',Hid (Blk w' g 48 (stvs h e).toArray)→Hid (Wr1 g w w')→wpList Tryz.prog ops Q rest (a.put o.dst undef) w'):wpList Tryz.prog ops Q (o::rest) a w:=by
 refine wpList_store_mid hgd 42 x y ho g 4 e.va hx hy ?_ (by kernel_rfl) (by simp[EH.va,Value.oneCell']) (hw _ ?_ (wr1_cells g _ 4 w))
 ·intro j hj
  have hj:j<7:=hj;refine⟨?_,hg.frozen _⟩;rw[hg.cell];have:4+j<(stvs h e0).toArray.size:=by show 4+j<15;omega
  rw[Array.getElem?_eq_getElem this];rfl
 ·obtain⟨c',h1,h2,h3⟩:=blk_cells e.va.toList 4 w _ hg
  have:c'=(stvs h e).toArray:=by
   apply Array.ext_getElem?;intro j;rw[h3 j];have hs:(stvs h e0).toArray.size=15:=rfl;have hl:e.va.toList.length=7:=rfl;rw[hs,hl]
   match j with
   | 0|1|2|3|4|5|6|7|8|9|10|11|12|13|14=>rfl
   | j+15=>rw[if_neg (by omega),Array.getElem?_eq_none (by simp[stvs]),Array.getElem?_eq_none (by simp[stvs])]
  rw[←this];exact h1
end
theorem rs_stm {fn:Func}{p:Tmp}(h:fn.results=#[.cell p 48])(tmps:Array Value)(w:World)(g:Nat)(s:SH)(e:EH)(hp:tmps.getD p undef=.pointer (some ⟨g,0,none⟩))(hg:Blk w g 48 (stvs s e).toArray):(results fn tmps).run Tryz.prog w=.ok (stv s e) w:=
 results_cell_row h tmps w g 48 (stvs s e).toArray (0,0) _ hp hg Tryz.underlying48 rfl (by kernel_rfl)
theorem sh_ok {kd ps lo hi:Int}{nm:List UInt8}{xs ts es:Sl}(hk0:0≤kd)(hk1:kd≤255)(hp0:0≤ps)(hp1:ps≤16384)(hl0:-2147483648≤lo)(hl1:lo≤2147483647)(hh0:-2147483648≤hi)(hh1:hi≤2147483647)(hn:nm.length≤16384)(hx:xs.ok)(ht:ts.ok)(he:es.ok) :
  (⟨kd,ps,nm,xs,lo,hi,ts,es⟩:SH).ok:=⟨hk0,hk1,by dsimp only;omega,by dsimp only;omega,hl0,hl1,hh0,hh1,Nat.le_trans hn (by unfold maxLen;decide),hx,ht,he⟩
theorem xb_no {D:Nat→Prop}{w:World}{K:Nat→St}:XB D ⟨none,0,0⟩ K w:=⟨sl_no,(fun a ha=>by cases ha),fun i hi=>absurd hi (Nat.not_lt_zero i)⟩
theorem xl_no {D:Nat→Prop}{w:World}{K:Nat→Ex}:XL D ⟨none,0,0⟩ K w:=⟨sl_no,(fun a ha=>by cases ha),fun i hi=>absurd hi (Nat.not_lt_zero i)⟩
theorem st_in {D:Nat→Prop}{w:World}{h:SH}{x:Nat→Ex}{e:Ex}{t l:Nat→St}(ho:h.ok)(hx:XL D h.xs x w)(he:XO D e w)(ht:XB D h.ts t w)(hl:XB D h.es l w):XS D (.mk h x e t l) w:=
 ⟨ho,hx,he,ht.2.1,ht.2.2,hl.2.1,hl.2.2⟩
end Go.Proofs.YtkbicfffokegeaaGreatDoor
