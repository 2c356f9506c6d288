/-
  Whatever program and statement are handed in, CheckMore answers true. (part 27 of 30) Conditions: none beside what the card ties.
-/
import Derived.Test.YtkbicfffokegeaaGreatDoorMar
import Derived.Test.YtkbicfffokegeaaGreatDoorMaz
namespace Go.Proofs.YtkbicfffokegeaaGreatDoor
set_option maxHeartbeats 16000000
open Go.RowKit
set_option maxRecDepth 100000
theorem ta_hit12 (v:Value)(w:World):(Instr.typeAssert (.iface 59 v) 20 59 true).run Tryz.prog w=.ok (.tuple #[v,.bool true]) w:=by kernel_rfl
theorem ta_nil12 (w:World):(Instr.typeAssert .nilIface 20 59 true).run Tryz.prog w=.ok (.tuple #[.agg #[.int .i64 0,.int .i64 0],.bool false]) w:=by kernel_rfl
theorem pk12 (b1 b2:Nat)(x y c p:Int)(older:List PanicEntry)(w:World)(h1:Blk w b1 28 #[.int .i64 x])(h2:Blk w b2 3 #[.int .i64 y])(hb:b1≠b2) :
  CallsD Tryz.prog 19 #[.pointer (some ⟨b1,0,none⟩),.pointer (some ⟨b2,0,none⟩)] (.panicking ({ v:=.iface 59 (.agg #[.int .i64 c,.int .i64 p]),recovered:=false }::older)) w fun e u' w'=>
   e=.returned (.tuple #[])∧u'=.panicking ({ v:=.iface 59 (.agg #[.int .i64 c,.int .i64 p]),recovered:=true }::older)∧Blk w' b1 28 #[.int .i64 c]∧Blk w' b2 3 #[.int .i64 p]∧Fx (Two b1 b2) w.heap.size w w':=by
 refine callsD_of_wpS Tryz.func19 rfl fun c₀ cs hu=>?_
 have hrec:recV (c₀::cs)=(.iface 59 (.agg #[.int .i64 c,.int .i64 p]),{ c₀ with mode:=.panicking ({ v:=.iface 59 (.agg #[.int .i64 c,.int .i64 p]),recovered:=true }::older) }::cs):=by
  simp[recV,recoverD,hu]
 refine wpS_seq_rec rfl rfl hrec ?_;clear hrec;have ta:=ta_hit12;simp only[Tryz.ntmps19,List.size_toArray,List.length_cons,List.length_nil,Nat.reduceAdd,Nat.reduceSub,Array.replicate_succ,Array.replicate_zero,List.push_toArray,List.append_toArray,List.nil_append,List.cons_append];go_wp2_with fail;have l1:=h1.lt;have l2:=h2.lt;have n1:=Hj (h1.alloc (.cells #[.int .i64 c,.int .i64 p] 59));have n2:=Hj (h2.alloc (.cells #[.int .i64 c,.int .i64 p] 59));have nf:Blk (w.alloc (.cells #[.int .i64 c,.int .i64 p] 59)) w.heap.size 59 #[.int .i64 c,.int .i64 p]:=Blk.new _ _ _;have HF:=Hj (fx_alloc (Fx.refl (Two b1 b2) _ w) (.cells #[.int .i64 c,.int .i64 p] 59));have HB:Hid (b1≠b2∧b1≠w.heap.size∧b2≠w.heap.size):=⟨hb,by omega,by omega⟩;have HS0:((w.alloc (.cells #[.int .i64 c,.int .i64 p] 59)).drew).cell? ⟨w.heap.size,0,none⟩=some (.int .i64 c)∧((w.alloc (.cells #[.int .i64 c,.int .i64 p] 59)).drew).cell? ⟨w.heap.size,1,none⟩=some (.int .i64 p):=⟨nf.cell 0,nf.cell 1⟩;have FN:=Hj nf;clear h1 h2 l1 l2 nf ta hb hu;generalize w.alloc (.cells #[.int .i64 c,.int .i64 p] 59)=w1 at *
 refine region_tree (S:=fun w'=>w'.cell? ⟨w.heap.size,0,none⟩=some (.int .i64 c)∧w'.cell? ⟨w.heap.size,1,none⟩=some (.int .i64 p)) _ (.take 0 (.take 1 (.take 2 (.take 3 (.two 4 (.act 5 .done) 5 (.act 4 .done)))))) (by kernel_rfl) (by kernel_rfl) rfl (by kernel_rfl) (by kernel_rfl) (fun _ _ d _ _ h=>by cases d<;>exact h) HS0 ?_;clear HS0
 iterate 4
  refine WalkT.take (v:=?_) rfl (by rfl) ?_ ?_;rotate_left
  ·(intro w' hSw;have s1:=hSw.1;have s2:=hSw.2;clear hSw;go_simp<;>with_reducible rfl)
  try simp only[Act.put,List.setIfInBounds_toArray,List.set_cons_zero,List.set_cons_succ]
 refine⟨wpOp_of rfl (by rfl) (fun K' hK=>?_),wpOp_of rfl (by rfl) (fun K' hK=>?_)⟩
 ·have ma:=n1.out.cell 0
  have za:=n1.out.frozen 0;go_simp;have fa:Blk (w1.drew.setCell ⟨b1,0,none⟩ (.int .i64 c)) w.heap.size 59 #[.int .i64 c,.int .i64 p]:=(Blk.drew FN.out).far (p:=⟨b1,0,none⟩) (Ne.symm HB.out.2.1) _;have aa:=Hj ((Blk.drew n1.out).set_ 0 (.int .i64 c));have ab:Blk (w1.drew.setCell ⟨b1,0,none⟩ (.int .i64 c)) _ _ _:=(Blk.drew n2.out).far (p:=⟨b1,0,none⟩) (Ne.symm HB.out.1) (.int .i64 c);have ff:=Hj (fx_set (fx_bel HF.out (bel_drew (Below.refl _ w1))) (p:=⟨b1,0,none⟩) (.inl (.inl rfl)) (.int .i64 c));refine hK.out _ _ ⟨fa.cell 0,fa.cell 1⟩ ?_;clear hK K' ma za;try simp only[Act.put]
  change WalkT _ _ _ _ _ _ (w1.drew.setCell ⟨b1,0,none⟩ (.int .i64 c));generalize (w1.drew.setCell ⟨b1,0,none⟩ (.int .i64 c))=w5 at *;refine WalkT.act rfl (by rfl) (fun K' hK=>?_);have mb:=ab.cell 0;have zb:=ab.frozen 0;go_simp;have fb:Blk (w5.setCell ⟨b2,0,none⟩ (.int .i64 p)) w.heap.size 59 #[.int .i64 c,.int .i64 p]:=fa.far (p:=⟨b2,0,none⟩) (Ne.symm HB.out.2.2) _;refine hK.out _ _ ⟨fb.cell 0,fb.cell 1⟩ ?_;clear hK K' mb zb;try simp only[Act.put]
  refine WalkT.done ?_;exact⟨rfl,_,rfl,_,results_none rfl _ _ _,rfl,rfl,(aa.out.far (p:=⟨b2,0,none⟩) HB.out.1 _),(ab.set_ 0 (.int .i64 p)),fx_set ff.out (p:=⟨b2,0,none⟩) (.inl (.inr rfl)) _⟩
 ·have ma:=n2.out.cell 0
  have za:=n2.out.frozen 0;go_simp;have fa:Blk (w1.drew.setCell ⟨b2,0,none⟩ (.int .i64 p)) w.heap.size 59 #[.int .i64 c,.int .i64 p]:=(Blk.drew FN.out).far (p:=⟨b2,0,none⟩) (Ne.symm HB.out.2.2) _;have aa:=Hj ((Blk.drew n2.out).set_ 0 (.int .i64 p));have ab:Blk (w1.drew.setCell ⟨b2,0,none⟩ (.int .i64 p)) _ _ _:=(Blk.drew n1.out).far (p:=⟨b2,0,none⟩) HB.out.1 (.int .i64 p);have ff:=Hj (fx_set (fx_bel HF.out (bel_drew (Below.refl _ w1))) (p:=⟨b2,0,none⟩) (.inl (.inr rfl)) (.int .i64 p));refine hK.out _ _ ⟨fa.cell 0,fa.cell 1⟩ ?_;clear hK K' ma za;try simp only[Act.put]
  change WalkT _ _ _ _ _ _ (w1.drew.setCell ⟨b2,0,none⟩ (.int .i64 p));generalize (w1.drew.setCell ⟨b2,0,none⟩ (.int .i64 p))=w5 at *;refine WalkT.act rfl (by rfl) (fun K' hK=>?_);have mb:=ab.cell 0;have zb:=ab.frozen 0;go_simp;have fb:Blk (w5.setCell ⟨b1,0,none⟩ (.int .i64 c)) w.heap.size 59 #[.int .i64 c,.int .i64 p]:=fa.far (p:=⟨b1,0,none⟩) (Ne.symm HB.out.2.1) _;refine hK.out _ _ ⟨fb.cell 0,fb.cell 1⟩ ?_;clear hK K' mb zb;try simp only[Act.put]
  refine WalkT.done ?_;exact⟨rfl,_,rfl,_,results_none rfl _ _ _,rfl,rfl,(ab.set_ 0 (.int .i64 c)),(aa.out.far (p:=⟨b1,0,none⟩) (Ne.symm HB.out.1) _),fx_set ff.out (p:=⟨b1,0,none⟩) (.inl (.inl rfl)) _⟩
theorem pi12 (b1 b2:Nat)(w:World) :
  CallsD Tryz.prog 19 #[.pointer (some ⟨b1,0,none⟩),.pointer (some ⟨b2,0,none⟩)] .returning w fun e u' w'=>e=.returned (.tuple #[])∧u'=.returning∧Below w.heap.size w w':=by
 refine callsD_of_wpS Tryz.func19 rfl fun c₀ cs hu=>?_
 have hrec:recV (c₀::cs)=(.nilIface,{ c₀ with mode:=.returning }::cs):=by
  cases c₀;cases hu;rfl
 refine wpS_seq_rec rfl rfl hrec ?_;clear hrec;have ta:=ta_nil12;simp only[Tryz.ntmps19,List.size_toArray,List.length_cons,List.length_nil,Nat.reduceAdd,Nat.reduceSub,Array.replicate_succ,Array.replicate_zero,List.push_toArray,List.append_toArray,List.nil_append,List.cons_append];go_wp2_with fail;exact⟨rfl,_,rfl,_,results_none rfl _ _ _,rfl,rfl,bel_one w _⟩
theorem tk12 (b1 b2:Nat)(x y c p:Int)(older:List PanicEntry)(w:World)(h1:Blk w b1 28 #[.int .i64 x])(h2:Blk w b2 3 #[.int .i64 y])(hb:b1≠b2) :
  CallsD Tryz.prog 27 #[.pointer (some ⟨b1,0,none⟩),.pointer (some ⟨b2,0,none⟩)] (.panicking ({ v:=.iface 59 (.agg #[.int .i64 c,.int .i64 p]),recovered:=false }::older)) w fun e u' w'=>
   e=.returned (.tuple #[])∧u'=.panicking ({ v:=.iface 59 (.agg #[.int .i64 c,.int .i64 p]),recovered:=true }::older)∧Blk w' b1 28 #[.int .i64 c]∧Blk w' b2 3 #[.int .i64 p]∧Fx (Two b1 b2) w.heap.size w w':=by
 refine callsD_of_wpS Tryz.func27 rfl fun c₀ cs hu=>?_
 have hrec:recV (c₀::cs)=(.iface 59 (.agg #[.int .i64 c,.int .i64 p]),{ c₀ with mode:=.panicking ({ v:=.iface 59 (.agg #[.int .i64 c,.int .i64 p]),recovered:=true }::older) }::cs):=by
  simp[recV,recoverD,hu]
 refine wpS_seq_rec rfl rfl hrec ?_;clear hrec;have ta:=ta_hit12;simp only[Tryz.ntmps27,List.size_toArray,List.length_cons,List.length_nil,Nat.reduceAdd,Nat.reduceSub,Array.replicate_succ,Array.replicate_zero,List.push_toArray,List.append_toArray,List.nil_append,List.cons_append];go_wp2_with fail;have l1:=h1.lt;have l2:=h2.lt;have n1:=Hj (h1.alloc (.cells #[.int .i64 c,.int .i64 p] 59));have n2:=Hj (h2.alloc (.cells #[.int .i64 c,.int .i64 p] 59));have nf:Blk (w.alloc (.cells #[.int .i64 c,.int .i64 p] 59)) w.heap.size 59 #[.int .i64 c,.int .i64 p]:=Blk.new _ _ _;have HF:=Hj (fx_alloc (Fx.refl (Two b1 b2) _ w) (.cells #[.int .i64 c,.int .i64 p] 59));have HB:Hid (b1≠b2∧b1≠w.heap.size∧b2≠w.heap.size):=⟨hb,by omega,by omega⟩;have HS0:((w.alloc (.cells #[.int .i64 c,.int .i64 p] 59)).drew).cell? ⟨w.heap.size,0,none⟩=some (.int .i64 c)∧((w.alloc (.cells #[.int .i64 c,.int .i64 p] 59)).drew).cell? ⟨w.heap.size,1,none⟩=some (.int .i64 p):=⟨nf.cell 0,nf.cell 1⟩;have FN:=Hj nf;clear h1 h2 l1 l2 nf ta hb hu;generalize w.alloc (.cells #[.int .i64 c,.int .i64 p] 59)=w1 at *
 refine region_tree (S:=fun w'=>w'.cell? ⟨w.heap.size,0,none⟩=some (.int .i64 c)∧w'.cell? ⟨w.heap.size,1,none⟩=some (.int .i64 p)) _ (.take 0 (.take 1 (.take 2 (.take 3 (.two 4 (.act 5 .done) 5 (.act 4 .done)))))) (by kernel_rfl) (by kernel_rfl) rfl (by kernel_rfl) (by kernel_rfl) (fun _ _ d _ _ h=>by cases d<;>exact h) HS0 ?_;clear HS0
 iterate 4
  refine WalkT.take (v:=?_) rfl (by rfl) ?_ ?_;rotate_left
  ·(intro w' hSw;have s1:=hSw.1;have s2:=hSw.2;clear hSw;go_simp<;>with_reducible rfl)
  try simp only[Act.put,List.setIfInBounds_toArray,List.set_cons_zero,List.set_cons_succ]
 refine⟨wpOp_of rfl (by rfl) (fun K' hK=>?_),wpOp_of rfl (by rfl) (fun K' hK=>?_)⟩
 ·have ma:=n1.out.cell 0
  have za:=n1.out.frozen 0;go_simp;have fa:Blk (w1.drew.setCell ⟨b1,0,none⟩ (.int .i64 c)) w.heap.size 59 #[.int .i64 c,.int .i64 p]:=(Blk.drew FN.out).far (p:=⟨b1,0,none⟩) (Ne.symm HB.out.2.1) _;have aa:=Hj ((Blk.drew n1.out).set_ 0 (.int .i64 c));have ab:Blk (w1.drew.setCell ⟨b1,0,none⟩ (.int .i64 c)) _ _ _:=(Blk.drew n2.out).far (p:=⟨b1,0,none⟩) (Ne.symm HB.out.1) (.int .i64 c);have ff:=Hj (fx_set (fx_bel HF.out (bel_drew (Below.refl _ w1))) (p:=⟨b1,0,none⟩) (.inl (.inl rfl)) (.int .i64 c));refine hK.out _ _ ⟨fa.cell 0,fa.cell 1⟩ ?_;clear hK K' ma za;try simp only[Act.put]
  change WalkT _ _ _ _ _ _ (w1.drew.setCell ⟨b1,0,none⟩ (.int .i64 c));generalize (w1.drew.setCell ⟨b1,0,none⟩ (.int .i64 c))=w5 at *;refine WalkT.act rfl (by rfl) (fun K' hK=>?_);have mb:=ab.cell 0;have zb:=ab.frozen 0;go_simp;have fb:Blk (w5.setCell ⟨b2,0,none⟩ (.int .i64 p)) w.heap.size 59 #[.int .i64 c,.int .i64 p]:=fa.far (p:=⟨b2,0,none⟩) (Ne.symm HB.out.2.2) _;refine hK.out _ _ ⟨fb.cell 0,fb.cell 1⟩ ?_;clear hK K' mb zb;try simp only[Act.put]
  refine WalkT.done ?_;exact⟨rfl,_,rfl,_,results_none rfl _ _ _,rfl,rfl,(aa.out.far (p:=⟨b2,0,none⟩) HB.out.1 _),(ab.set_ 0 (.int .i64 p)),fx_set ff.out (p:=⟨b2,0,none⟩) (.inl (.inr rfl)) _⟩
 ·have ma:=n2.out.cell 0
  have za:=n2.out.frozen 0;go_simp;have fa:Blk (w1.drew.setCell ⟨b2,0,none⟩ (.int .i64 p)) w.heap.size 59 #[.int .i64 c,.int .i64 p]:=(Blk.drew FN.out).far (p:=⟨b2,0,none⟩) (Ne.symm HB.out.2.2) _;have aa:=Hj ((Blk.drew n2.out).set_ 0 (.int .i64 p));have ab:Blk (w1.drew.setCell ⟨b2,0,none⟩ (.int .i64 p)) _ _ _:=(Blk.drew n1.out).far (p:=⟨b2,0,none⟩) HB.out.1 (.int .i64 p);have ff:=Hj (fx_set (fx_bel HF.out (bel_drew (Below.refl _ w1))) (p:=⟨b2,0,none⟩) (.inl (.inr rfl)) (.int .i64 p));refine hK.out _ _ ⟨fa.cell 0,fa.cell 1⟩ ?_;clear hK K' ma za;try simp only[Act.put]
  change WalkT _ _ _ _ _ _ (w1.drew.setCell ⟨b2,0,none⟩ (.int .i64 p));generalize (w1.drew.setCell ⟨b2,0,none⟩ (.int .i64 p))=w5 at *;refine WalkT.act rfl (by rfl) (fun K' hK=>?_);have mb:=ab.cell 0;have zb:=ab.frozen 0;go_simp;have fb:Blk (w5.setCell ⟨b1,0,none⟩ (.int .i64 c)) w.heap.size 59 #[.int .i64 c,.int .i64 p]:=fa.far (p:=⟨b1,0,none⟩) (Ne.symm HB.out.2.1) _;refine hK.out _ _ ⟨fb.cell 0,fb.cell 1⟩ ?_;clear hK K' mb zb;try simp only[Act.put]
  refine WalkT.done ?_;exact⟨rfl,_,rfl,_,results_none rfl _ _ _,rfl,rfl,(ab.set_ 0 (.int .i64 c)),(aa.out.far (p:=⟨b1,0,none⟩) (Ne.symm HB.out.1) _),fx_set ff.out (p:=⟨b1,0,none⟩) (.inl (.inl rfl)) _⟩
theorem ti12 (b1 b2:Nat)(w:World) :
  CallsD Tryz.prog 27 #[.pointer (some ⟨b1,0,none⟩),.pointer (some ⟨b2,0,none⟩)] .returning w fun e u' w'=>e=.returned (.tuple #[])∧u'=.returning∧Below w.heap.size w w':=by
 refine callsD_of_wpS Tryz.func27 rfl fun c₀ cs hu=>?_
 have hrec:recV (c₀::cs)=(.nilIface,{ c₀ with mode:=.returning }::cs):=by
  cases c₀;cases hu;rfl
 refine wpS_seq_rec rfl rfl hrec ?_;clear hrec;have ta:=ta_nil12;simp only[Tryz.ntmps27,List.size_toArray,List.length_cons,List.length_nil,Nat.reduceAdd,Nat.reduceSub,Array.replicate_succ,Array.replicate_zero,List.push_toArray,List.append_toArray,List.nil_append,List.cons_append];go_wp2_with fail;exact⟨rfl,_,rfl,_,results_none rfl _ _ _,rfl,rfl,bel_one w _⟩
theorem results_two12 {P:Program}{fn:Func}{q r:Tmp}{tq tr:TypeId}(h:fn.results=#[.cell q tq,.cell r tr])(tmps:Array Value)(w:World)(b c:Nat)(x y:Value)
  (hq:tmps.getD q undef=.pointer (some ⟨b,0,none⟩)) (hr:tmps.getD r undef=.pointer (some ⟨c,0,none⟩))
  (hx:(loadVar tq ⟨b,0,none⟩).run P w=.ok x w) (hy:(loadVar tr ⟨c,0,none⟩).run P w=.ok y w) :
  (results fn tmps).run P w=.ok (.tuple #[x,y]) w:=by
 have hq':tmps[q]?.getD undef=.pointer (some ⟨b,0,none⟩):=by simpa using hq
 have hr':tmps[r]?.getD undef=.pointer (some ⟨c,0,none⟩):=by simpa using hr
 simp[results,h,hq',hr',asAddr,hx,hy]
theorem de_rows (d:Nat→De)(m:Nat):m≤sm (fun i=>(d i).wt) m:=by
 induction m with
 | zero=>exact Nat.le_refl _
 | succ m im=>
  have:1≤(d m).wt:=by unfold De.wt;omega
  show m+1≤sm (fun i=>(d i).wt) m+(d m).wt;omega
theorem ccnewChecker_any (w:World):Calls Tryz.prog 21 #[] w fun r w'=>∃R M,r=.returned (.pointer (some ⟨R,0,none⟩))∧w.heap.size≤R∧w.heap.size≤M∧Ckf R M 0 (fun _=>none) false 0 w'∧Below w.heap.size w w':=by
 have hmm:=@run_makeMap Tryz.prog;have B1:=Hj (bel_alloc (bel_one w (.map #[] 0)) (.cells #[.map (some w.heap.size),.bool false,.int .i64 0] 67));have MP:=Hj ((Mp.made w).blk (w':=(w.alloc (.map #[] 0)).alloc (.cells #[.map (some w.heap.size),.bool false,.int .i64 0] 67)) (Below.heap_alloc _ _ _ (by rw[World.size_alloc];exact Nat.lt_succ_self _)))
 have BK:Hid (Blk ((w.alloc (.map #[] 0)).alloc (.cells #[.map (some w.heap.size),.bool false,.int .i64 0] 67)) (w.heap.size+1) 67 #[.map (some w.heap.size),.bool false,.int .i64 0]):=by
  have:=Blk.new (w.alloc (.map #[] 0)) 67 #[.map (some w.heap.size),.bool false,.int .i64 0];rw[World.size_alloc]at this;exact this
 go_enter Tryz.func21,Tryz.ntmps21;go_wp2_with fail;go_ret;exact⟨_,w.heap.size,rfl,by omega,Nat.le_refl _,⟨BK.out,MP.out,by omega⟩,B1.out⟩
theorem Ckf.st {R M n:Nat}{f:List UInt8→Option Mn}{st:Bool}{lp:Int}{w:World}(h:Ckf R M n f st lp w)(su:Bool) :
  Ckf R M n f su lp (w.setCell ⟨R,1,none⟩ (.bool su))∧Fx (On R) w.heap.size w (w.setCell ⟨R,1,none⟩ (.bool su)):=
 ⟨⟨h.blk.set_ 1 (.bool su),h.mp.blk (Below.heap_setCell _ _ _ _ (by show M≠R;exact fun e=>h.ne e.symm)),h.ne⟩,fx_set (X:=On R) (Fx.refl _ _ _) (p:=⟨R,1,none⟩) (.inl rfl) _⟩
theorem Pr.ck_ticks {nam:List UInt8→Bool}{ran:De→Bool}{p:Pr}(h:¬(1≤p.ticks∧p.ticks≤2147483647)):p.ck nam ran=.no 123 0:=if_pos h
theorem Pr.ck_go {nam:List UInt8→Bool}{ran:De→Bool}{p:Pr}(h:1≤p.ticks∧p.ticks≤2147483647):p.ck nam ran=(desC nam ran p.d p.ds.n).bind fun _=>(seqC (fun i=>(p.i i).ck nam ⟨p.ds.n,p.d,[],true⟩) p.is.n).bind fun _=>seqC (fun i=>(p.s i).ck nam ⟨p.ds.n,p.d,[],false⟩) p.ss.n:=if_neg (not_not_intro h)
theorem ccCheck_gen (p:Pr)(w:World)(hE:Env9 w)(hI:p.In w.heap.size w)(hwd:sm (fun i=>(p.d i).wt) p.ds.n≤1000000)(hwi:p.is.n≤1000000)(hws:p.ss.n≤1000000)
  (hSt:∀R M,w.heap.size≤R→w.heap.size≤M→(∀i,i<p.is.n→CkSt w R M (p.i i))∧∀i,i<p.ss.n→CkSt w R M (p.s i)) :
  Calls Tryz.prog 9 #[p.v] w fun r w'=>r=.returned (.tuple #[.int .i64 (p.ck isnV raN).er,.int .i64 (p.ck isnV raN).pl])∧Below w.heap.size w w':=by
 have hmf:∀(fn:Fn) (first cap:Array Value) (w:World),(Instr.makeFunc fn first cap).run Tryz.prog w=.ok (.func fn first cap) w:=fun _ _ _ _=>rfl;have BL:Below w.heap.size w (((bx w (pO p)).alloc (.cells #[.int .i64 0] 28)).alloc (.cells #[.int .i64 0] 3)):=bel_alloc (bel_alloc (bx_bel (Below.refl _ _) (Nat.le_refl _) _) _) _
 have k1:Blk (((bx w (pO p)).alloc (.cells #[.int .i64 0] 28)).alloc (.cells #[.int .i64 0] 3)) (w.heap.size+1) 28 #[.int .i64 0]:=by
  have:=(Blk.new (bx w (pO p)) 28 #[.int .i64 0]).alloc (.cells #[.int .i64 0] 3);rw[bx_size]at this;exact this
 have k2:Blk (((bx w (pO p)).alloc (.cells #[.int .i64 0] 28)).alloc (.cells #[.int .i64 0] 3)) (w.heap.size+1+1) 3 #[.int .i64 0]:=by
  have:=Blk.new ((bx w (pO p)).alloc (.cells #[.int .i64 0] 28)) 3 #[.int .i64 0];rw[World.size_alloc,bx_size]at this;exact this
 have G0:Hid ((((bx w (pO p)).alloc (.cells #[.int .i64 0] 28)).alloc (.cells #[.int .i64 0] 3)).heap[w.heap.size]? = some (pO p)):=
  keptO (bel_alloc (bel_one (bx w (pO p)) _) _) (bx_new w (pO p))
 have HBL:=Hj BL;have K1:=Hj k1;have K2:=Hj k2;have HNE:Hid (w.heap.size+1≠w.heap.size+1+1):=by show _≠_;omega
 have HLE:Hid (w.heap.size≤w.heap.size+1∧w.heap.size≤w.heap.size+1+1):=by show _∧_;omega
 have DC:=Hj fun R M (hM:w.heap.size≤M) w' hb hC=>ccdecls_any w R M hE hM p.ds p.d hI.2.1 hwd w' hb hC;have BI:=Hj fun R M (hR:w.heap.size≤R) (hM:w.heap.size≤M) (hS:Sc.good ⟨p.ds.n,p.d,[],true⟩) w' hb hC=>ccblock_of w R M hR hM p.is p.i (hSt R M hR hM).1 hI.2.2.1 hwi ⟨p.ds.n,p.d,[],true⟩ p.ds.n w' hS (by have:p.ds.n≤sm (fun i=>(p.d i).wt) p.ds.n:=de_rows p.d p.ds.n;omega) hb hC;have BS:=Hj fun R M (hR:w.heap.size≤R) (hM:w.heap.size≤M) (hS:Sc.good ⟨p.ds.n,p.d,[],false⟩) w' hb hC=>ccblock_of w R M hR hM p.ss p.s (hSt R M hR hM).2 hI.2.2.2 hws ⟨p.ds.n,p.d,[],false⟩ p.ds.n w' hS (by have:p.ds.n≤sm (fun i=>(p.d i).wt) p.ds.n:=de_rows p.d p.ds.n;omega) hb hC;have GD:Hid (∀c,desC isnV raN p.d p.ds.n=.ok c→∀b,Sc.good ⟨p.ds.n,p.d,[],b⟩):=fun c h b i hi=>(raN_len (desC_ok h i hi).2.2.2).1;have hmm:Hid (p.ticks=p.ticks):=rfl;obtain⟨CK,hCK⟩:∃CK,p.ck isnV raN=CK:=⟨_,rfl⟩;have HT:=Hj (Pr.ck_ticks (nam:=isnV) (ran:=raN) (p:=p));have HG:=Hj (Pr.ck_go (nam:=isnV) (ran:=raN) (p:=p));rw[hCK]at HT HG ⊢;clear BL k1 k2 hE hI hwd hwi hws hSt hCK hmm;generalize seqC (fun i=>(p.i i).ck isnV ⟨p.ds.n,p.d,[],true⟩) p.is.n=YI at *;generalize seqC (fun i=>(p.s i).ck isnV ⟨p.ds.n,p.d,[],false⟩) p.ss.n=YS at *
 generalize desC isnV raN p.d p.ds.n=YD at *;unfold Pr.v
 go_enter_defers Tryz.func9,Tryz.ntmps9
 go_upto_region 2 with fail;rw[bx_p];change (Code.region 2 _ _).wp _ _ _ (((bx w (pO p)).alloc (.cells #[.int .i64 0] 28)).alloc (.cells #[.int .i64 0] 3));have HSZ:Hid (w.heap.size+1+1<(((bx w (pO p)).alloc (.cells #[.int .i64 0] 28)).alloc (.cells #[.int .i64 0] 3)).heap.size):=K2.out.lt;generalize ((bx w (pO p)).alloc (.cells #[.int .i64 0] 28)).alloc (.cells #[.int .i64 0] 3)=w1 at *;generalize w.heap.size+1+1=b2 at *;generalize w.heap.size+1=b1 at *;have p0:=(p_cells G0.out).1;have K1_1:=Hj K1.out;have K2_1:=Hj K2.out;have G_1:=Hj G0.out;have HB_1:=Hj HBL.out;clear K1 K2 G0 HBL
 by_cases ht1:1≤p.ticks
 ·by_cases ht2:p.ticks≤2147483647
  ·have HGO:=Hj (HG.out ⟨ht1,ht2⟩)
   clear HT HG;go_wp2_with fail;refine(ccmust_any _ _ _ _).mono ?_;rintro r w2 ⟨rfl,e2⟩;rw[e2];clear e2 w2 ht1 ht2 p0;dsimp only[muE];go_wp2_with fail;refine(ccnewChecker_any w1).mono ?_;rintro r w2 ⟨R,M,rfl,hR,hM,ck2,bb2⟩
   have NR:Hid (b1≠R∧b1≠M∧b2≠R∧b2≠M∧w.heap.size≠R∧w.heap.size≠M∧w.heap.size≤R∧w.heap.size≤M):=by
    have h1:=K1_1.out.lt;have h2:=K2_1.out.lt;have h3:=(Array.getElem?_eq_some_iff.1 G_1.out).1;show _∧_;refine⟨by omega,by omega,by omega,by omega,by omega,by omega,by omega,by omega⟩
   have K1_2:=Hj (Fx.blk (Fx.of (X:=RM12 R M) bb2) K1_1.out K1_1.out.lt (fun x=>x.elim NR.out.1 NR.out.2.1));have K2_2:=Hj (Fx.blk (Fx.of (X:=RM12 R M) bb2) K2_1.out K2_1.out.lt (fun x=>x.elim NR.out.2.2.1 NR.out.2.2.2.1));have G_2:=Hj (rm_obj (Fx.of (X:=RM12 R M) bb2) (Array.getElem?_eq_some_iff.1 G_1.out).1 NR.out.2.2.2.2.1 NR.out.2.2.2.2.2.1 G_1.out);have HB_2:=Hj (fx_bel_of HB_1.out (Fx.of (X:=RM12 R M) bb2) (fun k hk (x:k=R∨k=M)=>by have:=NR.out.2.2.2.2.2.2;omega));clear K1_1 K2_1 G_1 HB_1;have D2:=Hj (DC.out R M NR.out.2.2.2.2.2.2.2 w2 HB_2.out (show Ckf R M 0 (fD p.d 0) false 0 w2 from ck2));have p1:=(p_cells G_2.out).2.1;clear hR hM ck2 bb2 DC;go_wp2_with fail;refine D2.out.mono ?_;rintro r w3 ⟨rfl,f3,ck3⟩;have F3:=Hj (rmM (R:=R) f3);have K1_3:=Hj (Fx.blk F3.out K1_2.out K1_2.out.lt (fun x=>x.elim NR.out.1 NR.out.2.1));have K2_3:=Hj (Fx.blk F3.out K2_2.out K2_2.out.lt (fun x=>x.elim NR.out.2.2.1 NR.out.2.2.2.1));have G_3:=Hj (rm_obj F3.out (Array.getElem?_eq_some_iff.1 G_2.out).1 NR.out.2.2.2.2.1 NR.out.2.2.2.2.2.1 G_2.out);have HB_3:=Hj (fx_bel_of HB_2.out F3.out (fun k hk (x:k=R∨k=M)=>by have:=NR.out.2.2.2.2.2.2;omega));clear K1_2 K2_2 G_2 HB_2;have CK3:=Hj ck3;clear D2 p1 f3 ck3 F3
   cases YD with
   | no c q=>
    have E:Hid (CK=.no c q):=by show CK=_;rw[HGO.out];rfl
    dsimp only[unC];go_wp2_with fail;refine leaves_cons (f:=19) (args:=#[.pointer (some ⟨b1,0,none⟩),.pointer (some ⟨b2,0,none⟩)]) (by simp) (by simp[go_sem]) ?_;refine(pk12 b1 b2 0 0 c q [] w3 K1_3.out K2_3.out HNE.out).mono ?_;rintro e u' wz ⟨rfl,rfl,k1,k2,f3⟩;refine⟨_,results_two12 rfl _ wz b1 b2 _ _ rfl rfl (ld_err k1) (ld_int k2),?_⟩;rw[E.out];exact⟨rfl,fx_bel_of HB_3 f3 (fun k hk x=>by have:=HLE.out;rcases x with x|x<;>omega)⟩
   | ok c=>
    have CC:=Hj (CK3.out c rfl);have GG:=Hj (GD.out c rfl);clear CK3 GD;dsimp only[unC];have d1:w3.cell? ⟨R,1,none⟩=some (.bool false):=CC.out.blk.cell 1;have z1:=CC.out.blk.frozen 1;go_upto_region 6 with fail;obtain⟨ck4,f4⟩:=CC.out.st true;have F4:=Hj (rmR (M:=M) f4);rw[←fD_mnS p.ds.n p.d true]at ck4;clear f4 d1 z1 CC;have K1_4:=Hj (Fx.blk F4.out K1_3.out K1_3.out.lt (fun x=>x.elim NR.out.1 NR.out.2.1));have K2_4:=Hj (Fx.blk F4.out K2_3.out K2_3.out.lt (fun x=>x.elim NR.out.2.2.1 NR.out.2.2.2.1));have G_4:=Hj (rm_obj F4.out (Array.getElem?_eq_some_iff.1 G_3.out).1 NR.out.2.2.2.2.1 NR.out.2.2.2.2.2.1 G_3.out);have HB_4:=Hj (fx_bel_of HB_3.out F4.out (fun k hk (x:k=R∨k=M)=>by have:=NR.out.2.2.2.2.2.2;omega));clear K1_3 K2_3 G_3 HB_3;clear F4;generalize w3.setCell ⟨R,1,none⟩ (.bool true)=w4 at *;have D4:=Hj (BI.out R M NR.out.2.2.2.2.2.2.1 NR.out.2.2.2.2.2.2.2 (GG.out true) w4 HB_4.out (show Ckr R M p.ds.n ⟨p.ds.n,p.d,[],true⟩ w4 from ck4));have p2:=(p_cells G_4.out).2.2.1;clear ck4 BI;go_wp2_with fail;refine D4.out.mono ?_;rintro r w5 ⟨rfl,f5,ck5⟩;have F5:=Hj f5;have K1_5:=Hj (Fx.blk F5.out K1_4.out K1_4.out.lt (fun x=>x.elim NR.out.1 NR.out.2.1))
    have K2_5:=Hj (Fx.blk F5.out K2_4.out K2_4.out.lt (fun x=>x.elim NR.out.2.2.1 NR.out.2.2.2.1));have G_5:=Hj (rm_obj F5.out (Array.getElem?_eq_some_iff.1 G_4.out).1 NR.out.2.2.2.2.1 NR.out.2.2.2.2.2.1 G_4.out);have HB_5:=Hj (fx_bel_of HB_4.out F5.out (fun k hk (x:k=R∨k=M)=>by have:=NR.out.2.2.2.2.2.2;omega));clear K1_4 K2_4 G_4 HB_4;have CK5:=Hj ck5;clear D4 p2 f5 ck5 F5
    cases YI with
    | no c q=>
     have E:Hid (CK=.no c q):=by show CK=_;rw[HGO.out];rfl
     dsimp only[unE];go_wp2_with fail;refine leaves_cons (f:=19) (args:=#[.pointer (some ⟨b1,0,none⟩),.pointer (some ⟨b2,0,none⟩)]) (by simp) (by simp[go_sem]) ?_;refine(pk12 b1 b2 0 0 c q [] w5 K1_5.out K2_5.out HNE.out).mono ?_;rintro e u' wz ⟨rfl,rfl,k1,k2,f3⟩;refine⟨_,results_two12 rfl _ wz b1 b2 _ _ rfl rfl (ld_err k1) (ld_int k2),?_⟩;rw[E.out];exact⟨rfl,fx_bel_of HB_5 f3 (fun k hk x=>by have:=HLE.out;rcases x with x|x<;>omega)⟩
    | ok u=>
     have CC:Hid (Ckf R M p.ds.n (fD p.d p.ds.n) true 0 w5):=by
      have:=CK5.out rfl;unfold Ckr at this;rw[fD_mnS]at this;exact this
     clear CK5;dsimp only[unE];have d1:w5.cell? ⟨R,1,none⟩=some (.bool true):=CC.out.blk.cell 1;have z1:=CC.out.blk.frozen 1;go_upto_region 8 with fail;obtain⟨ck6,f6⟩:=CC.out.st false;have F6:=Hj (rmR (M:=M) f6);rw[←fD_mnS p.ds.n p.d false]at ck6;clear f6 d1 z1 CC;have K1_6:=Hj (Fx.blk F6.out K1_5.out K1_5.out.lt (fun x=>x.elim NR.out.1 NR.out.2.1));have K2_6:=Hj (Fx.blk F6.out K2_5.out K2_5.out.lt (fun x=>x.elim NR.out.2.2.1 NR.out.2.2.2.1));have G_6:=Hj (rm_obj F6.out (Array.getElem?_eq_some_iff.1 G_5.out).1 NR.out.2.2.2.2.1 NR.out.2.2.2.2.2.1 G_5.out);have HB_6:=Hj (fx_bel_of HB_5.out F6.out (fun k hk (x:k=R∨k=M)=>by have:=NR.out.2.2.2.2.2.2;omega));clear K1_5 K2_5 G_5 HB_5;clear F6;generalize w5.setCell ⟨R,1,none⟩ (.bool false)=w6 at *;have D6:=Hj (BS.out R M NR.out.2.2.2.2.2.2.1 NR.out.2.2.2.2.2.2.2 (GG.out false) w6 HB_6.out (show Ckr R M p.ds.n ⟨p.ds.n,p.d,[],false⟩ w6 from ck6));have p3:=(p_cells G_6.out).2.2.2;clear ck6 BS;go_wp2_with fail;refine D6.out.mono ?_;rintro r w7 ⟨rfl,f7,ck7⟩;have F7:=Hj f7;have K1_7:=Hj (Fx.blk F7.out K1_6.out K1_6.out.lt (fun x=>x.elim NR.out.1 NR.out.2.1));have K2_7:=Hj (Fx.blk F7.out K2_6.out K2_6.out.lt (fun x=>x.elim NR.out.2.2.1 NR.out.2.2.2.1))
     have G_7:=Hj (rm_obj F7.out (Array.getElem?_eq_some_iff.1 G_6.out).1 NR.out.2.2.2.2.1 NR.out.2.2.2.2.2.1 G_6.out);have HB_7:=Hj (fx_bel_of HB_6.out F7.out (fun k hk (x:k=R∨k=M)=>by have:=NR.out.2.2.2.2.2.2;omega));clear K1_6 K2_6 G_6 HB_6;clear D6 p3 f7 ck7 F7
     cases YS with
     | no c q=>
      have E:Hid (CK=.no c q):=by show CK=_;rw[HGO.out];rfl
      dsimp only[unE];go_wp2_with fail;refine leaves_cons (f:=19) (args:=#[.pointer (some ⟨b1,0,none⟩),.pointer (some ⟨b2,0,none⟩)]) (by simp) (by simp[go_sem]) ?_;refine(pk12 b1 b2 0 0 c q [] w7 K1_7.out K2_7.out HNE.out).mono ?_;rintro e u' wz ⟨rfl,rfl,k1,k2,f3⟩;refine⟨_,results_two12 rfl _ wz b1 b2 _ _ rfl rfl (ld_err k1) (ld_int k2),?_⟩;rw[E.out];exact⟨rfl,fx_bel_of HB_7 f3 (fun k hk x=>by have:=HLE.out;rcases x with x|x<;>omega)⟩
     | ok u=>
      have E:Hid (CK=.ok u):=by show CK=_;rw[HGO.out];rfl
      dsimp only[unE];have m1:=K1_7.out.cell 0;have m2:=K2_7.out.cell 0;have y1:=K1_7.out.frozen 0;have y2:=K2_7.out.frozen 0;have ne12:=HNE.out;have ne21:=Ne.symm HNE.out;go_wp2_with fail;have F8:=fx_set (fx_set (Fx.refl (Two b1 b2) w7.heap.size w7) (p:=⟨b1,0,none⟩) (.inl (.inl rfl)) (.int .i64 0)) (p:=⟨b2,0,none⟩) (.inl (.inr rfl)) (.int .i64 0);have e1:Blk ((w7.setCell ⟨b1,0,none⟩ (.int .i64 0)).setCell ⟨b2,0,none⟩ (.int .i64 0)) b1 28 #[.int .i64 0]:=(K1_7.out.set_ 0 (.int .i64 0)).far (p:=⟨b2,0,none⟩) ne12 _;have e2:Blk ((w7.setCell ⟨b1,0,none⟩ (.int .i64 0)).setCell ⟨b2,0,none⟩ (.int .i64 0)) b2 3 #[.int .i64 0]:=(K2_7.out.far (p:=⟨b1,0,none⟩) ne21 (.int .i64 0)).set_ 0 (.int .i64 0);clear m1 m2 y1 y2;generalize (w7.setCell ⟨b1,0,none⟩ (.int .i64 0)).setCell ⟨b2,0,none⟩ (.int .i64 0)=w8 at *;refine leaves_cons (f:=19) (args:=#[.pointer (some ⟨b1,0,none⟩),.pointer (some ⟨b2,0,none⟩)]) (by simp) (by simp[go_sem]) ?_;refine(pi12 b1 b2 w8).mono ?_;rintro e u' w9 ⟨rfl,rfl,h9⟩;refine⟨_,results_two12 rfl _ w9 b1 b2 _ _ rfl rfl (ld_err (e1.below h9 e1.lt)) (ld_int (e2.below h9 e2.lt)),?_⟩;rw[E.out];exact⟨rfl,bel_trans (fx_bel_of HB_7.out F8 (fun k hk x=>by have:=HLE.out;rcases x with x|x<;>omega)) h9⟩
  ·have E:Hid (CK=.no 123 0):=HT.out (fun h=>ht2 h.2)
   clear HT HG;go_wp2_with fail;refine(ccmust_any _ _ _ _).mono ?_;rintro r w2 ⟨rfl,e2⟩;rw[e2];clear e2 w2;dsimp only[muE];go_wp2_with fail;refine leaves_cons (f:=19) (args:=#[.pointer (some ⟨b1,0,none⟩),.pointer (some ⟨b2,0,none⟩)]) (by simp) (by simp[go_sem]) ?_;refine(pk12 b1 b2 0 0 123 0 [] w1 K1_1.out K2_1.out HNE.out).mono ?_;rintro e u' wz ⟨rfl,rfl,k1,k2,f3⟩;refine⟨_,results_two12 rfl _ wz b1 b2 _ _ rfl rfl (ld_err k1) (ld_int k2),?_⟩;rw[E.out];exact⟨rfl,fx_bel_of HB_1 f3 (fun k hk x=>by have:=HLE.out;rcases x with x|x<;>omega)⟩
 ·have E:Hid (CK=.no 123 0):=HT.out (fun h=>ht1 h.1)
  clear HT HG;go_wp2_with fail;refine(ccmust_any _ _ _ _).mono ?_;rintro r w2 ⟨rfl,e2⟩;rw[e2];clear e2 w2;dsimp only[muE];go_wp2_with fail;refine leaves_cons (f:=19) (args:=#[.pointer (some ⟨b1,0,none⟩),.pointer (some ⟨b2,0,none⟩)]) (by simp) (by simp[go_sem]) ?_;refine(pk12 b1 b2 0 0 123 0 [] w1 K1_1.out K2_1.out HNE.out).mono ?_;rintro e u' wz ⟨rfl,rfl,k1,k2,f3⟩;refine⟨_,results_two12 rfl _ wz b1 b2 _ _ rfl rfl (ld_err k1) (ld_int k2),?_⟩;rw[E.out];exact⟨rfl,fx_bel_of HB_1 f3 (fun k hk x=>by have:=HLE.out;rcases x with x|x<;>omega)⟩
theorem ccCheck_any (p:Pr)(w:World)(hE:Env9 w)(hI:p.In w.heap.size w)(hw:p.wt≤1000000) :
  Calls Tryz.prog 9 #[p.v] w fun r w'=>r=.returned (.tuple #[.int .i64 (p.ck isnV raN).er,.int .i64 (p.ck isnV raN).pl])∧Below w.heap.size w w':=by
 have hwi:p.is.n≤1000000:=by have:=wt_rows p.i p.is.n;unfold Pr.wt at hw;omega
 have hws:p.ss.n≤1000000:=by have:=wt_rows p.s p.ss.n;unfold Pr.wt at hw;omega
 exact ccCheck_gen p w hE hI (by unfold Pr.wt at hw;omega) hwi hws fun R M hR hM=>⟨fun i hi=>ccstmt_any w R M hE hR hM (p.i i) (hI.2.2.1.2.2 i hi) (by have:=sm_one (f:=fun i=>(p.i i).wt) hi;unfold Pr.wt at hw;omega),fun i hi=>ccstmt_any w R M hE hR hM (p.s i) (hI.2.2.2.2.2 i hi) (by have:=sm_one (f:=fun i=>(p.s i).wt) hi;unfold Pr.wt at hw;omega)⟩
theorem St.eqv_hd {s:St}:∀ {r:St},s.eqv r→hsS s.h r.h=true∧r.h.ps=s.h.ps∧s.e.eqv r.e∧(s.h.xs.n=r.h.xs.n∧∀i,i<s.h.xs.n→(s.x i).eqv (r.x i))∧(∀i,i<s.h.ts.n→(s.t i).eqv (r.t i))∧∀i,i<s.h.es.n→(s.l i).eqv (r.l i):=by
 intro r h
 cases s with
 | no=>exact⟨h.1,h.2.1,h.2.2.1,⟨h.2.2.2.symm,fun i hi=>absurd hi (Nat.not_lt_zero i)⟩,fun i hi=>absurd hi (Nat.not_lt_zero i),fun i hi=>absurd hi (Nat.not_lt_zero i)⟩
 | mk=>exact h
theorem St.eqv_same {s:St}:∀ {r:St},s.eqv r→s.same r=true:=by
 induction s using St.ind with
 | H s it il=>
  intro r h;obtain⟨h1,h2,h3,⟨h4,h5⟩,h6,h7⟩:=St.eqv_hd h;simp only[hsS,Bool.and_eq_true,decide_eq_true_eq,beq_iff_eq]at h1;obtain⟨⟨⟨⟨⟨g1,g2⟩,g3⟩,g4⟩,g5⟩,g6⟩:=h1;exact St.same_iff.2 ⟨⟨g1,g2,g3,g4,g5,g6⟩,Ex.eqv_same h3,⟨h4,fun i hi=>Ex.eqv_same (h5 i hi)⟩,fun i hi=>it i hi (h6 i hi),fun i hi=>il i hi (h7 i hi)⟩
theorem De.eqv_same {a b:De}(h:a.eqv b):a.same b=true:=De.same_iff.2 ⟨h.1.2.1,h.1.2.2.1,h.1.2.2.2.1,h.1.2.2.2.2.1,h.1.2.2.2.2.2,Ex.eqv_same h.2.1,Ex.eqv_same h.2.2⟩
theorem Pr.eqv_same {p q:Pr}(h:p.eqv q):p.same q=true:=Pr.same_iff.2 ⟨h.1,sameD_iff.2 ⟨h.2.1.1,fun i hi=>De.eqv_same (h.2.1.2 i hi)⟩,sameS_iff.2 ⟨h.2.2.1.1,fun i hi=>St.eqv_same (h.2.2.1.2 i hi)⟩,sameS_iff.2 ⟨h.2.2.2.1,fun i hi=>St.eqv_same (h.2.2.2.2 i hi)⟩⟩
theorem cksCongr {f f':Nat→Ck Int}{n:Nat}(h:∀i,i<n→f' i=f i):cks f' n=cks f n:=by
 induction n with
 | zero=>rfl
 | succ n ih=>simp only[cks];rw[ih fun i hi=>h i (by omega),h n (by omega)]
theorem seqCongr {f f':Nat→Ck Unit}{n:Nat}(h:∀i,i<n→f' i=f i):seqC f' n=seqC f n:=by
 induction n with
 | zero=>rfl
 | succ n ih=>simp only[seqC];rw[ih fun i hi=>h i (by omega),h n (by omega)]
theorem Sh.look {S S':Sc}(h:Sh S S')(x:List UInt8)(p:Int):S'.look x p=S.look x p:=by
 unfold Sc.look;rw[h.find,h.loops];split
 ·rfl
 ·cases hf:S.find x with
  | none=>rfl
  | some i=>
   have hd:=h.d i (fd_lt hf).1;simp only;rw[←hd.inp,←hd.ty,←hd.len,←h.init]
theorem Ex.ck_eqv {S S':Sc}(hS:Sh S S'){e:Ex}:∀ {f:Ex},e.eqv f→f.ck S'=e.ck S:=by
 induction e using Ex.ind with
 | H e ih=>
  intro f h;obtain⟨h1,h2,h3⟩:=(Ex.eqv_iff e f).1 h;simp only[hdS,Bool.and_eq_true,decide_eq_true_eq,beq_iff_eq]at h1;obtain⟨⟨⟨⟨⟨g1,g2⟩,g3⟩,g4⟩,g5⟩,g6⟩:=h1;rw[Ex.ck_eq S' f,Ex.ck_eq S e,←g1,←g4,←g5,←g6,h2,hS.look,cksCongr (f:=fun i=>(e.k i).ck S) fun i hi=>ih i hi (h3 i hi)];split
  ·congr 1
   funext tl
   by_cases c:0<e.h.s.n
   ·rw[ih 0 c (h3 0 c)]
   ·have c0:e.h.s.n=0:=by omega
    rw[c0];unfold opsC
    split<;>rfl
  ·rfl
theorem asgC_eqv {S S':Sc}(hS:Sh S S'){h h':SH}{x x':Nat→Ex}{e e':Ex}(hn:h.nm=h'.nm)(hx:h.xs.n=h'.xs.n)(hp:h'.ps=h.ps)(xs:∀i,i<h.xs.n→(x i).eqv (x' i))(es:e.eqv e') :
  asgC S' h' x' e'=asgC S h x e:=by
 unfold asgC;rw[←hn,←hx,hp,hS.find,hS.loops];split
 ·rfl
 ·cases hf:S.find h.nm with
  | none=>rfl
  | some i=>
   have hd:=hS.d i (fd_lt hf).1;simp only;rw[←hd.inp,←hd.ty,←hd.len,Ex.ck_eqv hS es,((Ex.eqv_iff _ _).1 es).2.1];split
   ·rfl
   ·split
    ·rfl
    ·rename_i c1 c2
     congr 1
     split
     ·rename_i c3
      have c4:0<h.xs.n:=by
       rcases Nat.eq_zero_or_pos h.xs.n with c5|c5
       ·exact absurd (.inl ⟨c3,by omega⟩) c2
       ·exact c5
      rw[Ex.ck_eqv hS (xs 0 c4),((Ex.eqv_iff _ _).1 (xs 0 c4)).2.1]
     ·rfl
theorem St.ck_eqv {nam:List UInt8→Bool}{s:St}:∀ {S S':Sc} {r:St},Sh S S'→s.eqv r→r.ck nam S'=s.ck nam S:=by
 induction s using St.ind with
 | H s it il=>
  intro S S' r hS h;obtain⟨h1,h2,h3,⟨h4,h5⟩,h6,h7⟩:=St.eqv_hd h;simp only[hsS,Bool.and_eq_true,decide_eq_true_eq,beq_iff_eq]at h1;obtain⟨⟨⟨⟨⟨g1,g2⟩,g3⟩,g4⟩,g5⟩,g6⟩:=h1
  rw[St.ck_eq nam r S',St.ck_eq nam s S,←g1,asgC_eqv hS g2 h4 h2 h5 h3,Ex.ck_eqv hS h3,((Ex.eqv_iff _ _).1 h3).2.1,←g2,←g3,←g4,←g5,←g6,h2,hS.find,←hS.loops,
   seqCongr (f:=fun i=>(s.t i).ck nam S) fun i hi=>it i hi hS (h6 i hi),seqCongr (f:=fun i=>(s.l i).ck nam S) fun i hi=>il i hi hS (h7 i hi),
   seqCongr (f:=fun i=>(s.t i).ck nam (S.inner s.h.nm)) fun i hi=>it i hi (hS.inner _) (h6 i hi)]
theorem deC_eqv {nam:List UInt8→Bool}{ran:De→Bool}{d d':Nat→De}(hr:∀a a':De,a.same a'=true→ran a=ran a'){i:Nat}(h:∀j,j≤i→(d j).eqv (d' j))(c:Int):deC nam ran d' i c=deC nam ran d i c:=by
 obtain⟨⟨h0,h1,h2,h3,h4, -⟩, -⟩:=h i (Nat.le_refl i);have e2:fd d' (d i).nm i=fd d (d i).nm i:=(fd_congr fun j hj=>(h j (Nat.le_of_lt hj)).1.2.2.1).symm;have e3:(d' i).cells=(d i).cells:=by unfold De.cells;rw[h1,h4]
 unfold deC;rw[←h2,←h3,e2,e3,←hr _ _ (De.eqv_same (h i (Nat.le_refl i))),h0]
theorem desC_eqv {nam:List UInt8→Bool}{ran:De→Bool}{d d':Nat→De}(hr:∀a a':De,a.same a'=true→ran a=ran a'){n:Nat}(h:∀j,j<n→(d j).eqv (d' j)):desC nam ran d' n=desC nam ran d n:=by
 induction n with
 | zero=>rfl
 | succ n ih=>
  simp only[desC];rw[ih fun j hj=>h j (by omega)]
  congr 1
  funext c
  exact deC_eqv hr (fun j hj=>h j (by omega)) c
theorem Pr.ck_eqv {nam:List UInt8→Bool}{ran:De→Bool}{p q:Pr}(hr:∀a a':De,a.same a'=true→ran a=ran a')(h:p.eqv q):q.ck nam ran=p.ck nam ran:=by
 obtain⟨h1,⟨d1,d2⟩,⟨i1,i2⟩,s1,s2⟩:=h;have hS:∀b,Sh ⟨p.ds.n,p.d,[],b⟩ ⟨p.ds.n,q.d,[],b⟩:=fun b=>⟨rfl,fun i hi=>by have g:=(d2 i hi).1;exact⟨g.2.1,g.2.2.1,g.2.2.2.1,g.2.2.2.2.1⟩,rfl,rfl⟩;unfold Pr.ck
 rw[←h1,←d1,←i1,←s1,desC_eqv hr d2,seqCongr (f:=fun i=>(p.i i).ck nam ⟨p.ds.n,p.d,[],true⟩) fun i hi=>St.ck_eqv (hS true) (i2 i hi),
  seqCongr (f:=fun i=>(p.s i).ck nam ⟨p.ds.n,p.d,[],false⟩) fun i hi=>St.ck_eqv (hS false) (s2 i hi)]
theorem sm_cg12 {f g:Nat→Nat}{n:Nat}(h:∀i,i<n→f i=g i):sm f n=sm g n:=by
 induction n with
 | zero=>rfl
 | succ n ih=>simp only[sm];rw[ih fun i hi=>h i (by omega),h n (by omega)]
theorem Ex.same_wt12 {e:Ex}:∀ {f:Ex},e.same f=true→e.wt=f.wt:=by
 induction e using Ex.ind with
 | H e ih=>
  intro f h;obtain⟨-, -, -, -,h5,h6,h7⟩:=Ex.same_iff.1 h;rw[Ex.wt_eq e,Ex.wt_eq f,h5,←h6,sm_cg12 fun i hi=>ih i hi (h7 i hi)]
theorem St.same_wt12 {s:St}:∀ {r:St},s.same r=true→s.wt=r.wt:=by
 induction s using St.ind with
 | H s it il=>
  intro r h;obtain⟨⟨-,h2, -, -,h5,h6⟩,h7,⟨h8,h9⟩,h10,h11⟩:=St.same_iff.1 h;rw[St.wt_eq s,St.wt_eq r,h2,←h5,←h6,←h8,Ex.same_wt12 h7,sm_cg12 fun i hi=>Ex.same_wt12 (h9 i hi),sm_cg12 fun i hi=>it i hi (h10 i hi),sm_cg12 fun i hi=>il i hi (h11 i hi)]
theorem De.same_wt12 {a b:De}(h:a.same b=true):a.wt=b.wt:=by
 obtain⟨-,h2, -, -, -,h6,h7⟩:=De.same_iff.1 h;unfold De.wt;rw[h2,Ex.same_wt12 h6,Ex.same_wt12 h7]
theorem Pr.same_wt12 {p q:Pr}(h:p.same q=true):p.wt=q.wt:=by
 obtain⟨-,h2,h3,h4⟩:=Pr.same_iff.1 h;rw[sameD_iff]at h2;rw[sameS_iff]at h3 h4;unfold Pr.wt;rw[←h2.1,←h3.1,←h4.1,sm_cg12 fun i hi=>De.same_wt12 (h2.2 i hi),sm_cg12 fun i hi=>St.same_wt12 (h3.2 i hi),sm_cg12 fun i hi=>St.same_wt12 (h4.2 i hi)]
def k12A:List UInt8:=[116,105,99,107,115,32,49,59,32,118,97,114,32,120,58,32,102,108,111,97,116,59,32,118,97,114,32,121,58,32,102,108,111,97,116,59,32,105,110,105,116,32,123,125,32,115,116,101,112,32,123,32,120,32,61,32,121,32,43,32,49,59,32,125]
def k12B:List UInt8:=[116,105,99,107,115,32,49,59,32,105,110,112,117,116,32,117,58,32,102,108,111,97,116,32,105,110,32,91,48,44,32,49,93,59,32,105,110,105,116,32,123,125,32,115,116,101,112,32,123,32,117,32,61,32,49,46,48,59,32,125]
def k12C:List UInt8:=[116,105,99,107,115,32,49,59,32,105,110,105,116,32,123,125,32,115,116,101,112,32,123,32,102,111,114,32,105,32,61,32,48,32,46,46,32,49,54,32,123,32,125,32,125]
def k12D:List UInt8:=[116,105,99,107,115,32,57,59,32,105,110,112,117,116,32,117,58,32,102,108,111,97,116,32,105,110,32,91,48,44,32,49,46,53,93,59,32,118,97,114,32,120,58,32,102,108,111,97,116,59,32,118,97,114,32,118,58,32,105,110,116,91,51,93,59,32,105,110,105,116,32,123,32,120,32,61,32,48,46,48,59,32,125,32,115,116,101,112,32,123,32,102,111,114,32,105,32,61,32,48,32,46,46,32,50,32,123,32,118,91,105,93,32,61,32,118,91,50,32,45,32,105,93,32,43,32,105,110,116,40,117,32,42,32,120,41,59,32,125,32,105,102,32,120,32,60,32,117,32,38,38,32,33,40,118,91,48,93,32,61,61,32,51,41,32,123,32,120,32,61,32,45,117,59,32,125,32,125]
def ckOf (r:Rs Pr)(e p:Int):Bool:=match r with
 | .ok q _=>decide ((q.ck isnV raN).er=e) && decide ((q.ck isnV raN).pl=p) && decide (q.wt≤1000)
 | .no _ _=>false
theorem k12A_is:ckOf (rsP k12A) 122 58=true:=by decide +kernel
theorem k12B_is:ckOf (rsP k12B) 124 50=true:=by decide +kernel
theorem k12C_is:ckOf (rsP k12C) 123 24=true:=by decide +kernel
theorem k12D_is:ckOf (rsP k12D) 0 0=true:=by decide +kernel
theorem of12_any (l:List UInt8)(e q:Int)(h:ckOf (rsP l) e q=true)(w:World)(hE:Env9 w):Calls Tryz.prog 17 #[.string ⟨l.toArray⟩] w fun r w'=>r=.returned (.tuple #[.int .i64 e,.int .i64 q])∧Below w.heap.size w w':=by
 have P:=ppParse_any ⟨l.toArray⟩ w hE;change Calls _ _ _ _ (PTop w (rsP l) noPr (VP w.heap.size))at P;have HE:=Hj hE;clear hE;generalize rsP l=R at *
 cases R with
 | no c p=>cases h
 | ok p s=>
  simp only[ckOf,Bool.and_eq_true,decide_eq_true_eq]at h;obtain⟨⟨h1,h2⟩,h3⟩:=h;have HH:=Hj (And.intro h1 (And.intro h2 h3));clear h1 h2 h3;go_enter Tryz.func17,Tryz.ntmps17;go_wp2_with fail;refine P.mono ?_;rintro r w1 ⟨v,rfl,⟨p',rfl,xp,ep⟩,b1⟩;have hI:p'.In w1.heap.size w1:=⟨xp.1,DsIn.stay xp.2.1 (stay_up _ _) (Nat.le_refl _),SsIn.stay xp.2.2.1 (stay_up _ _) (Nat.le_refl _),SsIn.stay xp.2.2.2 (stay_up _ _) (Nat.le_refl _)⟩;have ep':p'.eqv p:=ep;have EC:Hid (p'.ck isnV raN=p.ck isnV raN):=(Pr.ck_eqv (fun a a' h=>raN_same h) ep').symm
  have EW:Hid (p'.wt≤1000000):=by
   show p'.wt≤1000000;rw[Pr.same_wt12 (Pr.eqv_same ep')];exact Nat.le_trans HH.out.2.2 (by decide)
  have BLb:=bx_bel (Below.refl w1.heap.size w1) (Nat.le_refl _) (pO p');have G1:Hid ((bx w1 (pO p')).heap[w1.heap.size]? = some (pO p')):=bx_new w1 _;have B1:=Hj (bel_trans b1 BLb)
  have XA:Hid (p'.In (bx w1 (pO p')).heap.size (bx w1 (pO p'))):=by
   have:=hI.below BLb (Nat.le_refl _);exact⟨this.1,this.2.1.mono (fun _ _=>rfl) BLb.size,this.2.2.1.mono (fun _ _=>rfl) BLb.size,this.2.2.2.mono (fun _ _=>rfl) BLb.size⟩
  clear xp ep ep' hI b1 BLb P;dsimp only[Rs.er,Rs.pl];unfold Pr.v;go_upto_region 2 with fail;rw[bx_p];change Code.wp _ _ _ _ (bx w1 (pO p'));generalize w1.heap.size=ga at *;generalize bx w1 (pO p')=w2 at *;have C:=Hj (ccCheck_any p' w2 (HE.out.below B1.out) XA.out EW.out);rw[EC.out,HH.out.1,HH.out.2.1]at C;obtain⟨x0,x1,x2,x3⟩:=p_cells G1.out;go_wp2_with fail;refine C.out.mono ?_;rintro r w3 ⟨rfl,b3⟩;have B3:=Hj (bel_trans B1.out b3);clear C b3 x0 x1 x2 x3;go_wp2_with fail
  go_ret2
  exact⟨rfl,B3.out⟩
theorem works12_any (w:World)(hE:Env9 w):Calls Tryz.prog 7 #[] w fun r w'=>r=.returned (.bool true)∧Below w.heap.size w w':=by
 have HE:=Hj hE;have PA:=Hj (of12_any k12A _ _ k12A_is);have PB:=Hj (of12_any k12B _ _ k12B_is);have PC:=Hj (of12_any k12C _ _ k12C_is);have PD:=Hj (of12_any k12D _ _ k12D_is);clear hE;go_enter Tryz.func7,Tryz.ntmps7;go_wp2_with fail;refine(PA.out w HE.out).mono ?_;rintro r w1 ⟨rfl,b1⟩;have B1:=Hj b1;have E1:=Hj (HE.out.below b1);clear b1 PA;go_wp2_with fail;refine(PB.out w1 E1.out).mono ?_;rintro r w2 ⟨rfl,b2⟩;have B2:=Hj (bel_trans B1.out b2);have E2:=Hj (E1.out.below b2);clear b2 PB;go_wp2_with fail;refine(PC.out w2 E2.out).mono ?_;rintro r w3 ⟨rfl,b3⟩;have B3:=Hj (bel_trans B2.out b3);have E3:=Hj (E2.out.below b3);clear b3 PC;go_wp2_with fail;refine(PD.out w3 E3.out).mono ?_;rintro r w4 ⟨rfl,b4⟩;have B4:=Hj (bel_trans B3.out b4);clear b4 PD;go_wp2_with fail;go_ret;exact⟨rfl,B4.out⟩
end Go.Proofs.YtkbicfffokegeaaGreatDoor
