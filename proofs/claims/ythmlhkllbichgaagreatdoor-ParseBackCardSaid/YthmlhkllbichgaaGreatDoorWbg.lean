/-
  ParseBack holds, tied to the program's text. (part 33 of 41) Conditions: none beside what the card ties.
-/
import Derived.Test.YthmlhkllbichgaaGreatDoorWbf
import Derived.Test.YthmlhkllbichgaaGreatDoorWaq
namespace Go.Proofs.YthmlhkllbichgaaGreatDoor
set_option maxHeartbeats 16000000
open Go.RowKit
set_option maxRecDepth 100000
theorem ta_hit (v:Value)(w:World):(Instr.typeAssert (.iface 66 v) 20 66 true).run Tryz.prog w=.ok (.tuple #[v,.bool true]) w:=by kernel_rfl
theorem ta_nil (w:World):(Instr.typeAssert .nilIface 20 66 true).run Tryz.prog w=.ok (.tuple #[.agg #[.int .i64 0,.int .i64 0],.bool false]) w:=by kernel_rfl
theorem pc_panicking (b1 b2:Nat)(x y c p:Int)(older:List PanicEntry)(w:World)(h1:Blk w b1 24 #[.int .i64 x])(h2:Blk w b2 3 #[.int .i64 y])(hb:b1≠b2) :
  CallsD Tryz.prog 27 #[.pointer (some ⟨b1,0,none⟩),.pointer (some ⟨b2,0,none⟩)] (.panicking ({ v:=.iface 66 (.agg #[.int .i64 c,.int .i64 p]),recovered:=false }::older)) w fun e u' w'=>
   e=.returned (.tuple #[])∧u'=.panicking ({ v:=.iface 66 (.agg #[.int .i64 c,.int .i64 p]),recovered:=true }::older)∧Blk w' b1 24 #[.int .i64 c]∧Blk w' b2 3 #[.int .i64 p]∧Fx (Two b1 b2) w.heap.size w w':=by
 refine callsD_of_wpS Tryz.func27 rfl fun c₀ cs hu=>?_
 have hrec:recV (c₀::cs)=(.iface 66 (.agg #[.int .i64 c,.int .i64 p]),{ c₀ with mode:=.panicking ({ v:=.iface 66 (.agg #[.int .i64 c,.int .i64 p]),recovered:=true }::older) }::cs):=by
  simp[recV,recoverD,hu]
 refine wpS_seq_rec rfl rfl hrec ?_
 clear hrec
 have ta:=ta_hit
 simp only[Tryz.ntmps27,List.size_toArray,List.length_cons,List.length_nil,Nat.reduceAdd,Nat.reduceSub,Array.replicate_succ,Array.replicate_zero,List.push_toArray,List.append_toArray,List.nil_append,List.cons_append]
 go_wp2_with fail
 have l1:=h1.lt
 have l2:=h2.lt
 have n1:=Hj (h1.alloc (.cells #[.int .i64 c,.int .i64 p] 66))
 have n2:=Hj (h2.alloc (.cells #[.int .i64 c,.int .i64 p] 66))
 have nf:Blk (w.alloc (.cells #[.int .i64 c,.int .i64 p] 66)) w.heap.size 66 #[.int .i64 c,.int .i64 p]:=Blk.new _ _ _
 have HF:=Hj (fx_alloc (Fx.refl (Two b1 b2) _ w) (.cells #[.int .i64 c,.int .i64 p] 66))
 have HB:Hid (b1≠b2∧b1≠w.heap.size∧b2≠w.heap.size):=⟨hb,by omega,by omega⟩
 have HS0:((w.alloc (.cells #[.int .i64 c,.int .i64 p] 66)).drew).cell? ⟨w.heap.size,0,none⟩=some (.int .i64 c)∧((w.alloc (.cells #[.int .i64 c,.int .i64 p] 66)).drew).cell? ⟨w.heap.size,1,none⟩=some (.int .i64 p):=⟨nf.cell 0,nf.cell 1⟩
 have FN:=Hj nf
 clear h1 h2 l1 l2 nf ta hb hu
 generalize w.alloc (.cells #[.int .i64 c,.int .i64 p] 66)=w1 at *
 refine region_tree (S:=fun w'=>w'.cell? ⟨w.heap.size,0,none⟩=some (.int .i64 c)∧w'.cell? ⟨w.heap.size,1,none⟩=some (.int .i64 p)) _ (.take 0 (.take 1 (.take 2 (.take 3 (.two 4 (.act 5 .done) 5 (.act 4 .done)))))) (by kernel_rfl) (by kernel_rfl) rfl (by kernel_rfl) (by kernel_rfl) (fun _ _ d _ _ h=>by cases d<;>exact h) HS0 ?_
 clear HS0
 iterate 4
  refine WalkT.take (v:=?_) rfl (by rfl) ?_ ?_
  rotate_left
  ·(intro w' hSw;have s1:=hSw.1;have s2:=hSw.2;clear hSw;go_simp<;>with_reducible rfl)
  try simp only[Act.put,List.setIfInBounds_toArray,List.set_cons_zero,List.set_cons_succ]
 refine⟨wpOp_of rfl (by rfl) (fun K' hK=>?_),wpOp_of rfl (by rfl) (fun K' hK=>?_)⟩
 ·have ma:=n1.out.cell 0
  have za:=n1.out.frozen 0
  go_simp
  have fa:Blk (w1.drew.setCell ⟨b1,0,none⟩ (.int .i64 c)) w.heap.size 66 #[.int .i64 c,.int .i64 p]:=(Blk.drew FN.out).far (p:=⟨b1,0,none⟩) (Ne.symm HB.out.2.1) _
  have aa:=Hj ((Blk.drew n1.out).set_ 0 (.int .i64 c))
  have ab:Blk (w1.drew.setCell ⟨b1,0,none⟩ (.int .i64 c)) _ _ _:=(Blk.drew n2.out).far (p:=⟨b1,0,none⟩) (Ne.symm HB.out.1) (.int .i64 c)
  have ff:=Hj (fx_set (fx_bel HF.out (bel_drew (Below.refl _ w1))) (p:=⟨b1,0,none⟩) (.inl (.inl rfl)) (.int .i64 c))
  refine hK.out _ _ ⟨fa.cell 0,fa.cell 1⟩ ?_
  clear hK K' ma za
  try simp only[Act.put]
  change WalkT _ _ _ _ _ _ (w1.drew.setCell ⟨b1,0,none⟩ (.int .i64 c))
  generalize (w1.drew.setCell ⟨b1,0,none⟩ (.int .i64 c))=w5 at *
  refine WalkT.act rfl (by rfl) (fun K' hK=>?_)
  have mb:=ab.cell 0
  have zb:=ab.frozen 0
  go_simp
  have fb:Blk (w5.setCell ⟨b2,0,none⟩ (.int .i64 p)) w.heap.size 66 #[.int .i64 c,.int .i64 p]:=fa.far (p:=⟨b2,0,none⟩) (Ne.symm HB.out.2.2) _
  refine hK.out _ _ ⟨fb.cell 0,fb.cell 1⟩ ?_
  clear hK K' mb zb
  try simp only[Act.put]
  refine WalkT.done ?_
  exact⟨rfl,_,rfl,_,results_none rfl _ _ _,rfl,rfl,(aa.out.far (p:=⟨b2,0,none⟩) HB.out.1 _),(ab.set_ 0 (.int .i64 p)),fx_set ff.out (p:=⟨b2,0,none⟩) (.inl (.inr rfl)) _⟩
 ·have ma:=n2.out.cell 0
  have za:=n2.out.frozen 0
  go_simp
  have fa:Blk (w1.drew.setCell ⟨b2,0,none⟩ (.int .i64 p)) w.heap.size 66 #[.int .i64 c,.int .i64 p]:=(Blk.drew FN.out).far (p:=⟨b2,0,none⟩) (Ne.symm HB.out.2.2) _
  have aa:=Hj ((Blk.drew n2.out).set_ 0 (.int .i64 p))
  have ab:Blk (w1.drew.setCell ⟨b2,0,none⟩ (.int .i64 p)) _ _ _:=(Blk.drew n1.out).far (p:=⟨b2,0,none⟩) HB.out.1 (.int .i64 p)
  have ff:=Hj (fx_set (fx_bel HF.out (bel_drew (Below.refl _ w1))) (p:=⟨b2,0,none⟩) (.inl (.inr rfl)) (.int .i64 p))
  refine hK.out _ _ ⟨fa.cell 0,fa.cell 1⟩ ?_
  clear hK K' ma za
  try simp only[Act.put]
  change WalkT _ _ _ _ _ _ (w1.drew.setCell ⟨b2,0,none⟩ (.int .i64 p))
  generalize (w1.drew.setCell ⟨b2,0,none⟩ (.int .i64 p))=w5 at *
  refine WalkT.act rfl (by rfl) (fun K' hK=>?_)
  have mb:=ab.cell 0
  have zb:=ab.frozen 0
  go_simp
  have fb:Blk (w5.setCell ⟨b1,0,none⟩ (.int .i64 c)) w.heap.size 66 #[.int .i64 c,.int .i64 p]:=fa.far (p:=⟨b1,0,none⟩) (Ne.symm HB.out.2.1) _
  refine hK.out _ _ ⟨fb.cell 0,fb.cell 1⟩ ?_
  clear hK K' mb zb
  try simp only[Act.put]
  refine WalkT.done ?_
  exact⟨rfl,_,rfl,_,results_none rfl _ _ _,rfl,rfl,(ab.set_ 0 (.int .i64 c)),(aa.out.far (p:=⟨b1,0,none⟩) (Ne.symm HB.out.1) _),fx_set ff.out (p:=⟨b1,0,none⟩) (.inl (.inl rfl)) _⟩
theorem pc_idle (b1 b2:Nat)(w:World) :
  CallsD Tryz.prog 27 #[.pointer (some ⟨b1,0,none⟩),.pointer (some ⟨b2,0,none⟩)] .returning w fun e u' w'=>e=.returned (.tuple #[])∧u'=.returning∧Below w.heap.size w w':=by
 refine callsD_of_wpS Tryz.func27 rfl fun c₀ cs hu=>?_
 have hrec:recV (c₀::cs)=(.nilIface,{ c₀ with mode:=.returning }::cs):=by
  cases c₀
  cases hu
  rfl
 refine wpS_seq_rec rfl rfl hrec ?_
 clear hrec
 have ta:=ta_nil
 simp only[Tryz.ntmps27,List.size_toArray,List.length_cons,List.length_nil,Nat.reduceAdd,Nat.reduceSub,Array.replicate_succ,Array.replicate_zero,List.push_toArray,List.append_toArray,List.nil_append,List.cons_append]
 go_wp2_with fail
 exact⟨rfl,_,rfl,_,results_none rfl _ _ _,rfl,rfl,bel_one w _⟩
theorem px_panicking (b1 b2:Nat)(x y c p:Int)(older:List PanicEntry)(w:World)(h1:Blk w b1 24 #[.int .i64 x])(h2:Blk w b2 3 #[.int .i64 y])(hb:b1≠b2) :
  CallsD Tryz.prog 39 #[.pointer (some ⟨b1,0,none⟩),.pointer (some ⟨b2,0,none⟩)] (.panicking ({ v:=.iface 66 (.agg #[.int .i64 c,.int .i64 p]),recovered:=false }::older)) w fun e u' w'=>
   e=.returned (.tuple #[])∧u'=.panicking ({ v:=.iface 66 (.agg #[.int .i64 c,.int .i64 p]),recovered:=true }::older)∧Blk w' b1 24 #[.int .i64 c]∧Blk w' b2 3 #[.int .i64 p]∧Fx (Two b1 b2) w.heap.size w w':=by
 refine callsD_of_wpS Tryz.func39 rfl fun c₀ cs hu=>?_
 have hrec:recV (c₀::cs)=(.iface 66 (.agg #[.int .i64 c,.int .i64 p]),{ c₀ with mode:=.panicking ({ v:=.iface 66 (.agg #[.int .i64 c,.int .i64 p]),recovered:=true }::older) }::cs):=by
  simp[recV,recoverD,hu]
 refine wpS_seq_rec rfl rfl hrec ?_
 clear hrec
 have ta:=ta_hit
 simp only[Tryz.ntmps39,List.size_toArray,List.length_cons,List.length_nil,Nat.reduceAdd,Nat.reduceSub,Array.replicate_succ,Array.replicate_zero,List.push_toArray,List.append_toArray,List.nil_append,List.cons_append]
 go_wp2_with fail
 have l1:=h1.lt
 have l2:=h2.lt
 have n1:=Hj (h1.alloc (.cells #[.int .i64 c,.int .i64 p] 66))
 have n2:=Hj (h2.alloc (.cells #[.int .i64 c,.int .i64 p] 66))
 have nf:Blk (w.alloc (.cells #[.int .i64 c,.int .i64 p] 66)) w.heap.size 66 #[.int .i64 c,.int .i64 p]:=Blk.new _ _ _
 have HF:=Hj (fx_alloc (Fx.refl (Two b1 b2) _ w) (.cells #[.int .i64 c,.int .i64 p] 66))
 have HB:Hid (b1≠b2∧b1≠w.heap.size∧b2≠w.heap.size):=⟨hb,by omega,by omega⟩
 have HS0:((w.alloc (.cells #[.int .i64 c,.int .i64 p] 66)).drew).cell? ⟨w.heap.size,0,none⟩=some (.int .i64 c)∧((w.alloc (.cells #[.int .i64 c,.int .i64 p] 66)).drew).cell? ⟨w.heap.size,1,none⟩=some (.int .i64 p):=⟨nf.cell 0,nf.cell 1⟩
 have FN:=Hj nf
 clear h1 h2 l1 l2 nf ta hb hu
 generalize w.alloc (.cells #[.int .i64 c,.int .i64 p] 66)=w1 at *
 refine region_tree (S:=fun w'=>w'.cell? ⟨w.heap.size,0,none⟩=some (.int .i64 c)∧w'.cell? ⟨w.heap.size,1,none⟩=some (.int .i64 p)) _ (.take 0 (.take 1 (.take 2 (.take 3 (.two 4 (.act 5 .done) 5 (.act 4 .done)))))) (by kernel_rfl) (by kernel_rfl) rfl (by kernel_rfl) (by kernel_rfl) (fun _ _ d _ _ h=>by cases d<;>exact h) HS0 ?_
 clear HS0
 iterate 4
  refine WalkT.take (v:=?_) rfl (by rfl) ?_ ?_
  rotate_left
  ·(intro w' hSw;have s1:=hSw.1;have s2:=hSw.2;clear hSw;go_simp<;>with_reducible rfl)
  try simp only[Act.put,List.setIfInBounds_toArray,List.set_cons_zero,List.set_cons_succ]
 refine⟨wpOp_of rfl (by rfl) (fun K' hK=>?_),wpOp_of rfl (by rfl) (fun K' hK=>?_)⟩
 ·have ma:=n1.out.cell 0
  have za:=n1.out.frozen 0
  go_simp
  have fa:Blk (w1.drew.setCell ⟨b1,0,none⟩ (.int .i64 c)) w.heap.size 66 #[.int .i64 c,.int .i64 p]:=(Blk.drew FN.out).far (p:=⟨b1,0,none⟩) (Ne.symm HB.out.2.1) _
  have aa:=Hj ((Blk.drew n1.out).set_ 0 (.int .i64 c))
  have ab:Blk (w1.drew.setCell ⟨b1,0,none⟩ (.int .i64 c)) _ _ _:=(Blk.drew n2.out).far (p:=⟨b1,0,none⟩) (Ne.symm HB.out.1) (.int .i64 c)
  have ff:=Hj (fx_set (fx_bel HF.out (bel_drew (Below.refl _ w1))) (p:=⟨b1,0,none⟩) (.inl (.inl rfl)) (.int .i64 c))
  refine hK.out _ _ ⟨fa.cell 0,fa.cell 1⟩ ?_
  clear hK K' ma za
  try simp only[Act.put]
  change WalkT _ _ _ _ _ _ (w1.drew.setCell ⟨b1,0,none⟩ (.int .i64 c))
  generalize (w1.drew.setCell ⟨b1,0,none⟩ (.int .i64 c))=w5 at *
  refine WalkT.act rfl (by rfl) (fun K' hK=>?_)
  have mb:=ab.cell 0
  have zb:=ab.frozen 0
  go_simp
  have fb:Blk (w5.setCell ⟨b2,0,none⟩ (.int .i64 p)) w.heap.size 66 #[.int .i64 c,.int .i64 p]:=fa.far (p:=⟨b2,0,none⟩) (Ne.symm HB.out.2.2) _
  refine hK.out _ _ ⟨fb.cell 0,fb.cell 1⟩ ?_
  clear hK K' mb zb
  try simp only[Act.put]
  refine WalkT.done ?_
  exact⟨rfl,_,rfl,_,results_none rfl _ _ _,rfl,rfl,(aa.out.far (p:=⟨b2,0,none⟩) HB.out.1 _),(ab.set_ 0 (.int .i64 p)),fx_set ff.out (p:=⟨b2,0,none⟩) (.inl (.inr rfl)) _⟩
 ·have ma:=n2.out.cell 0
  have za:=n2.out.frozen 0
  go_simp
  have fa:Blk (w1.drew.setCell ⟨b2,0,none⟩ (.int .i64 p)) w.heap.size 66 #[.int .i64 c,.int .i64 p]:=(Blk.drew FN.out).far (p:=⟨b2,0,none⟩) (Ne.symm HB.out.2.2) _
  have aa:=Hj ((Blk.drew n2.out).set_ 0 (.int .i64 p))
  have ab:Blk (w1.drew.setCell ⟨b2,0,none⟩ (.int .i64 p)) _ _ _:=(Blk.drew n1.out).far (p:=⟨b2,0,none⟩) HB.out.1 (.int .i64 p)
  have ff:=Hj (fx_set (fx_bel HF.out (bel_drew (Below.refl _ w1))) (p:=⟨b2,0,none⟩) (.inl (.inr rfl)) (.int .i64 p))
  refine hK.out _ _ ⟨fa.cell 0,fa.cell 1⟩ ?_
  clear hK K' ma za
  try simp only[Act.put]
  change WalkT _ _ _ _ _ _ (w1.drew.setCell ⟨b2,0,none⟩ (.int .i64 p))
  generalize (w1.drew.setCell ⟨b2,0,none⟩ (.int .i64 p))=w5 at *
  refine WalkT.act rfl (by rfl) (fun K' hK=>?_)
  have mb:=ab.cell 0
  have zb:=ab.frozen 0
  go_simp
  have fb:Blk (w5.setCell ⟨b1,0,none⟩ (.int .i64 c)) w.heap.size 66 #[.int .i64 c,.int .i64 p]:=fa.far (p:=⟨b1,0,none⟩) (Ne.symm HB.out.2.1) _
  refine hK.out _ _ ⟨fb.cell 0,fb.cell 1⟩ ?_
  clear hK K' mb zb
  try simp only[Act.put]
  refine WalkT.done ?_
  exact⟨rfl,_,rfl,_,results_none rfl _ _ _,rfl,rfl,(ab.set_ 0 (.int .i64 c)),(aa.out.far (p:=⟨b1,0,none⟩) (Ne.symm HB.out.1) _),fx_set ff.out (p:=⟨b1,0,none⟩) (.inl (.inl rfl)) _⟩
theorem px_idle (b1 b2:Nat)(w:World) :
  CallsD Tryz.prog 39 #[.pointer (some ⟨b1,0,none⟩),.pointer (some ⟨b2,0,none⟩)] .returning w fun e u' w'=>e=.returned (.tuple #[])∧u'=.returning∧Below w.heap.size w w':=by
 refine callsD_of_wpS Tryz.func39 rfl fun c₀ cs hu=>?_
 have hrec:recV (c₀::cs)=(.nilIface,{ c₀ with mode:=.returning }::cs):=by
  cases c₀
  cases hu
  rfl
 refine wpS_seq_rec rfl rfl hrec ?_
 clear hrec
 have ta:=ta_nil
 simp only[Tryz.ntmps39,List.size_toArray,List.length_cons,List.length_nil,Nat.reduceAdd,Nat.reduceSub,Array.replicate_succ,Array.replicate_zero,List.push_toArray,List.append_toArray,List.nil_append,List.cons_append]
 go_wp2_with fail
 exact⟨rfl,_,rfl,_,results_none rfl _ _ _,rfl,rfl,bel_one w _⟩
theorem results_row3 {P:Program}{fn:Func}{p q r:Tmp}{ty tq tr:TypeId}(h:fn.results=#[.cell p ty,.cell q tq,.cell r tr])(tmps:Array Value)(w:World)(g:Nat)(t:TypeId)(cs:Array Value)(d:TypeDesc)(b c:Nat)(x y:Value)
  (hp:tmps.getD p undef=.pointer (some ⟨g,0,none⟩)) (hq:tmps.getD q undef=.pointer (some ⟨b,0,none⟩)) (hr:tmps.getD r undef=.pointer (some ⟨c,0,none⟩)) (hg:Blk w g t cs)
  (hu:P.underlying ty=some d) (hd:(match d with|.struct _|.array _ _=>true|_=>false)=true) (hi:(P.info? ty).map (·.size)=some cs.size)
  (hx:(loadVar tq ⟨b,0,none⟩).run P w=.ok x w) (hy:(loadVar tr ⟨c,0,none⟩).run P w=.ok y w) :
  (results fn tmps).run P w=.ok (.tuple #[.agg cs,x,y]) w:=by
 have hp':tmps[p]?.getD undef=.pointer (some ⟨g,0,none⟩):=by simpa using hp
 have hq':tmps[q]?.getD undef=.pointer (some ⟨b,0,none⟩):=by simpa using hq
 have hr':tmps[r]?.getD undef=.pointer (some ⟨c,0,none⟩):=by simpa using hr
 simp[results,h,hp',hq',hr',asAddr,run_loadVar_row w g t ty cs (0,0) d hg hu hd hi,hx,hy]
theorem ld_err {w:World}{b:Nat}{x:Value}(h:Blk w b 24 #[x]):(loadVar 24 ⟨b,0,none⟩).run Tryz.prog w=.ok x w:=by
 have hc:w.cell? ⟨b,0,none⟩=some x:=h.cell 0
 clear h
 go_simp
theorem ld_int {w:World}{b:Nat}{x:Value}(h:Blk w b 3 #[x]):(loadVar 3 ⟨b,0,none⟩).run Tryz.prog w=.ok x w:=by
 have hc:w.cell? ⟨b,0,none⟩=some x:=h.cell 0
 clear h
 go_simp
def Rs.er {α:Type}:Rs α→Int
 | .ok _ _=>0
 | .no c _=>c
def Rs.pl {α:Type}:Rs α→Int
 | .ok _ _=>0
 | .no _ p=>p
def Rs.va {α:Type}(z:α):Rs α→α
 | .ok a _=>a
 | .no _ _=>z
def rsP (l:List UInt8):Rs Pr:=if(lexV l).2.1=0 then prog ⟨(lexV l).1,0,0⟩else .no (lexV l).2.1 ((lexV l).2.2:Nat)
def rsX (l:List UInt8):Rs Ex:=if(lexV l).2.1=0 then oneX 24 ⟨(lexV l).1,0,0⟩else .no (lexV l).2.1 ((lexV l).2.2:Nat)
def noPr:Pr:=⟨0,⟨none,0,0⟩,fun _=>zeroD,⟨none,0,0⟩,fun _=>.no,⟨none,0,0⟩,fun _=>.no⟩
theorem noPr_v (L:Nat)(w:World):VP L noPr (prv 0 ⟨none,0,0⟩ ⟨none,0,0⟩ ⟨none,0,0⟩) w:=
 ⟨noPr,rfl,⟨⟨by decide,by decide⟩,⟨sl_no,(fun a ha=>by cases ha),fun i hi=>absurd hi (Nat.not_lt_zero i)⟩,xb_no,xb_no⟩,
  rfl,⟨rfl,fun i hi=>absurd hi (Nat.not_lt_zero i)⟩,⟨rfl,fun i hi=>absurd hi (Nat.not_lt_zero i)⟩,⟨rfl,fun i hi=>absurd hi (Nat.not_lt_zero i)⟩⟩
theorem XPr.fx {X D:Nat→Prop}{p:Pr}{w w':World}(h:XPr D p w)(hf:Fx X w.heap.size w w')(hX:∀k,X k→¬D k):XPr D p w':=
 ⟨h.1,DsIn.stay h.2.1 (stay_fx hf hX) hf.size,SsIn.stay h.2.2.1 (stay_fx hf hX) hf.size,SsIn.stay h.2.2.2 (stay_fx hf hX) hf.size⟩
theorem XPr.imp {D D':Nat→Prop}{p:Pr}{w:World}(h:XPr D p w)(hD:∀k,k<w.heap.size→D k→D' k):XPr D' p w:=
 ⟨h.1,DsIn.stay h.2.1 (stay_imp hD w) (Nat.le_refl _),SsIn.stay h.2.2.1 (stay_imp hD w) (Nat.le_refl _),SsIn.stay h.2.2.2 (stay_imp hD w) (Nat.le_refl _)⟩
theorem XPr.bel {D:Nat→Prop}{p:Pr}{w w':World}(h:XPr D p w)(hb:Below w.heap.size w w'):XPr D p w':=h.fx (X:=fun _=>False) (Fx.of hb) (fun _ x=>x.elim)
def Th3 (a b c:Nat):Nat→Prop:=fun k=>k=a∨k=b∨k=c
theorem fx_bel_of {X:Nat→Prop}{a b c:World}(h:Below a.heap.size a b)(f:Fx X b.heap.size b c)(hX:∀k,k<a.heap.size→¬X k):Below a.heap.size a c:=
 h.trans ((f.mono (Y:=X) h.size (fun _ _ x=>x)).bel hX)
theorem st_prW {ops:Array Oper}{rest:List Oper}{o:Oper}{a:Act}{w:World}{Q:Exit→Act→World→Prop}(t:Int)(d i s:Sl)(g:Nat){old:Array Value}(hg:Blk w g 30 old)(hgd:o.guard=none)(x y:Operand)(ho:o.op=.store 30 x y)(hx:a.eval x=.pointer (some ⟨g,0,none⟩))(hy:a.eval y=prv t d i s)(hold:old.size=4)
  (hw:∀w',Hid (Blk w' g 30 (prvs t d i s).toArray)→Hid (Wr1 g w w')→wpList Tryz.prog ops Q rest (a.put o.dst undef) w'):wpList Tryz.prog ops Q (o::rest) a w:=
 st_pr t d i s g old hg hold hgd x y ho hx hy (hw _ (hg.rowS _) (wr1_row w g _))
def PTop {α:Type}(w:World)(r:Rs α)(z:α)(V:α→Value→World→Prop)(e:Ending)(w':World):Prop:=
 ∃v,e=.returned (.tuple #[v,.int .i64 r.er,.int .i64 r.pl])∧V (r.va z) v w'∧Below w.heap.size w w'
theorem ppParse_any (s:ByteArray)(w:World)(hE:Env9 w):Calls Tryz.prog 9 #[.string s] w (PTop w (rsP s.data.toList) noPr (VP w.heap.size)):=by
 have hmf:∀(fn:Fn) (first cap:Array Value) (w:World),(Instr.makeFunc fn first cap).run Tryz.prog w=.ok (.func fn first cap) w:=fun _ _ _ _=>rfl
 have BL:Below w.heap.size w (((w.alloc zPr).alloc (.cells #[.int .i64 0] 24)).alloc (.cells #[.int .i64 0] 3)):=bel_alloc (bel_alloc (bel_one w _) _) _
 have k0:Blk (((w.alloc zPr).alloc (.cells #[.int .i64 0] 24)).alloc (.cells #[.int .i64 0] 3)) w.heap.size 30 (prvs 0 ⟨none,0,0⟩ ⟨none,0,0⟩ ⟨none,0,0⟩).toArray:=((Blk.new w _ _).alloc _).alloc _
 have k1:Blk (((w.alloc zPr).alloc (.cells #[.int .i64 0] 24)).alloc (.cells #[.int .i64 0] 3)) (w.heap.size+1) 24 #[.int .i64 0]:=by
  have:=(Blk.new (w.alloc zPr) 24 #[.int .i64 0]).alloc (.cells #[.int .i64 0] 3)
  rw[World.size_alloc]at this
  exact this
 have k2:Blk (((w.alloc zPr).alloc (.cells #[.int .i64 0] 24)).alloc (.cells #[.int .i64 0] 3)) (w.heap.size+1+1) 3 #[.int .i64 0]:=by
  have:=Blk.new ((w.alloc zPr).alloc (.cells #[.int .i64 0] 24)) 3 #[.int .i64 0]
  rw[World.size_alloc,World.size_alloc]at this
  exact this
 have HBL:=Hj BL
 have HN:=Hj (ppnewReader_any s _ (hE.below BL))
 have B0:=Hj k0
 have B1:=Hj k1
 have B2:=Hj k2
 have HNE:Hid (w.heap.size≠w.heap.size+1∧w.heap.size≠w.heap.size+1+1∧w.heap.size+1≠w.heap.size+1+1):=(by show _∧_∧_;omega)
 have HLE:Hid (w.heap.size≤w.heap.size+1∧w.heap.size≤w.heap.size+1+1):=(by show _∧_;omega)
 have HRS:Hid (rsP s.data.toList=if(lexV s.data.toList).2.1=0 then prog ⟨(lexV s.data.toList).1,0,0⟩else .no (lexV s.data.toList).2.1 ((lexV s.data.toList).2.2:Nat)):=rfl
 clear BL k0 k1 k2 hE
 generalize rsP s.data.toList=Z at *
 generalize lexV s.data.toList=L at *
 go_enter_defers Tryz.func9,Tryz.ntmps9
 go_upto_region 2 with fail
 change (Code.region 2 _ _).wp _ _ _ (((w.alloc zPr).alloc (.cells #[.int .i64 0] 24)).alloc (.cells #[.int .i64 0] 3))
 generalize ((w.alloc zPr).alloc (.cells #[.int .i64 0] 24)).alloc (.cells #[.int .i64 0] 3)=w0 at *
 generalize w.heap.size+1+1=b2 at *
 generalize w.heap.size+1=b1 at *
 go_wp2_with fail
 refine HN.out.mono ?_
 intro e w1 hpn
 unfold PN at hpn
 clear HN
 by_cases c:L.2.1=0
 ·rw[if_pos c]at hpn
  obtain⟨R,rfl,hR,rd,hb⟩:=hpn
  have B0_1:=Hj (B0.out.below hb B0.out.lt)
  have B1_1:=Hj (B1.out.below hb B1.out.lt)
  have B2_1:=Hj (B2.out.below hb B2.out.lt)
  have HB1:=Hj (bel_trans HBL.out hb)
  have HR0:Hid (w.heap.size≠R∧b1≠R∧b2≠R∧w.heap.size≤R):=(by show _∧_∧_∧_;have:=B0.out.lt;have:=B1.out.lt;have:=B2.out.lt;omega)
  have HZ:Hid (Z=prog ⟨L.1,0,0⟩):=by show Z=_;rw[HRS.out,if_pos c]
  have HRD:=Hj rd
  clear hb c HRS HBL B0 B1 B2 rd hR
  go_wp2_with fail
  refine(ppprogram_any R _ w1 HRD.out).mono ?_
  intro e w2 hpo
  cases hres:prog ⟨L.1,0,0⟩ with
  | no c q=>
   rw[hres]at hpo
   obtain⟨rfl,f⟩:=hpo
   have E:Hid (Z=.no c q):=by show Z=_;rw[HZ.out,hres]
   have B0_2:=Hj (f.blk B0_1.out B0_1.out.lt HR0.out.1)
   have B1_2:=Hj (f.blk B1_1.out B1_1.out.lt HR0.out.2.1)
   have B2_2:=Hj (f.blk B2_1.out B2_1.out.lt HR0.out.2.2.1)
   have HB2:=Hj (fx_bel_of HB1.out f (fun k hk (x:k=R)=>by have:=HR0.out.2.2.2;omega))
   clear f hres HZ HRD B0_1 B1_1 B2_1 HB1
   go_wp2_with fail
   refine leaves_cons (f:=27) (args:=#[.pointer (some ⟨b1,0,none⟩),.pointer (some ⟨b2,0,none⟩)]) (by simp) (by simp[go_sem]) ?_
   refine(pc_panicking b1 b2 0 0 c q [] w2 B1_2.out B2_2.out HNE.out.2.2).mono ?_
   rintro e u' w3 ⟨rfl,rfl,k1,k2,f3⟩
   refine⟨_,results_row3 rfl _ w3 w.heap.size 30 (prvs 0 ⟨none,0,0⟩ ⟨none,0,0⟩ ⟨none,0,0⟩).toArray _ b1 b2 _ _ rfl rfl rfl (f3.blk B0_2.out B0_2.out.lt (fun x=>x.elim HNE.out.1 HNE.out.2.1)) Tryz.underlying30 rfl (by kernel_rfl) (ld_err k1) (ld_int k2),?_⟩
   rw[E.out]
   exact⟨_,rfl,noPr_v _ _,fx_bel_of HB2.out f3 (fun k hk x=>by have:=HLE.out;rcases x with x|x<;>omega)⟩
  | ok p s2=>
   rw[hres]at hpo
   obtain⟨v,rfl,⟨p',rfl,xp,ep⟩,h2,f⟩:=hpo
   have E:Hid (Z=.ok p s2):=by show Z=_;rw[HZ.out,hres]
   have B0_2:=Hj (f.blk B0_1.out B0_1.out.lt HR0.out.1)
   have B1_2:=Hj (f.blk B1_1.out B1_1.out.lt HR0.out.2.1)
   have B2_2:=Hj (f.blk B2_1.out B2_1.out.lt HR0.out.2.2.1)
   have HB2:=Hj (fx_bel_of HB1.out f (fun k hk (x:k=R)=>by have:=HR0.out.2.2.2;omega))
   have XP:=Hj xp
   have EP:=Hj ep
   have L1:Hid (b1<w1.heap.size∧b2<w1.heap.size∧w.heap.size<w1.heap.size):=⟨B1_1.out.lt,B2_1.out.lt,B0_1.out.lt⟩
   clear f h2 xp ep hres HZ HRD B0_1 B1_1 B2_1 HB1
   have ne12:=HNE.out.2.2
   have ne21:=Ne.symm HNE.out.2.2
   unfold Pr.v
   go_wp2_with (refine st_prW p'.ticks p'.ds p'.is p'.ss w.heap.size B0_2.out rfl _ _ rfl rfl rfl rfl ?_;intro w3 B0_3 WR;have B1_3:=Hj (WR.out.blk B1_2.out (Ne.symm HNE.out.1));have B2_3:=Hj (WR.out.blk B2_2.out (Ne.symm HNE.out.2.1));have m1:=B1_3.out.cell 0;have m2:=B2_3.out.cell 0;have z1:=B1_3.out.frozen 0;have z2:=B2_3.out.frozen 0)
   have F4:=fx_set (fx_set (WR.out.1.mono (Y:=Th3 w.heap.size b1 b2) (Nat.le_refl _) (fun k _ x=>.inl x)) (p:=⟨b1,0,none⟩) (.inl (.inr (.inl rfl))) (.int .i64 0)) (p:=⟨b2,0,none⟩) (.inl (.inr (.inr rfl))) (.int .i64 0)
   have e1:Blk ((w3.setCell ⟨b1,0,none⟩ (.int .i64 0)).setCell ⟨b2,0,none⟩ (.int .i64 0)) b1 24 #[.int .i64 0]:=(B1_3.out.set_ 0 (.int .i64 0)).far (p:=⟨b2,0,none⟩) ne12 _
   have e2:Blk ((w3.setCell ⟨b1,0,none⟩ (.int .i64 0)).setCell ⟨b2,0,none⟩ (.int .i64 0)) b2 3 #[.int .i64 0]:=(B2_3.out.far (p:=⟨b1,0,none⟩) ne21 (.int .i64 0)).set_ 0 (.int .i64 0)
   have e0:Blk ((w3.setCell ⟨b1,0,none⟩ (.int .i64 0)).setCell ⟨b2,0,none⟩ (.int .i64 0)) w.heap.size 30 _:=(B0_3.out.far (p:=⟨b1,0,none⟩) HNE.out.1 (.int .i64 0)).far (p:=⟨b2,0,none⟩) HNE.out.2.1 (.int .i64 0)
   clear m1 m2 z1 z2 WR B0_2 B1_2 B2_2 B0_3 B1_3 B2_3
   generalize (w3.setCell ⟨b1,0,none⟩ (.int .i64 0)).setCell ⟨b2,0,none⟩ (.int .i64 0)=w4 at *
   refine leaves_cons (f:=27) (args:=#[.pointer (some ⟨b1,0,none⟩),.pointer (some ⟨b2,0,none⟩)]) (by simp) (by simp[go_sem]) ?_
   refine(pc_idle b1 b2 w4).mono ?_
   rintro e u' w5 ⟨rfl,rfl,h5⟩
   refine⟨_,results_row3 rfl _ w5 w.heap.size 30 (prvs p'.ticks p'.ds p'.is p'.ss).toArray _ b1 b2 _ _ rfl rfl rfl (e0.below h5 e0.lt) Tryz.underlying30 rfl (by kernel_rfl) (ld_err (e1.below h5 e1.lt)) (ld_int (e2.below h5 e2.lt)),?_⟩
   rw[E.out]
   have hX:∀k,Th3 w.heap.size b1 b2 k→¬Fro w1.heap.size k:=fun k x (y:w1.heap.size≤k)=>by have:=L1.out;rcases x with x|x|x<;>omega
   exact⟨_,rfl,⟨p',rfl,((XP.out.fx F4 hX).bel h5).imp (fun k _ (x:w1.heap.size≤k)=>Nat.le_trans (Nat.le_of_lt L1.out.2.2) x),EP.out⟩,bel_trans (fx_bel_of HB2.out F4 (fun k hk x=>by have:=HLE.out;rcases x with x|x|x<;>omega)) h5⟩
 ·rw[if_neg c]at hpn
  obtain⟨rfl,hb⟩:=hpn
  have B0_2:=Hj (B0.out.below hb B0.out.lt)
  have B1_2:=Hj (B1.out.below hb B1.out.lt)
  have B2_2:=Hj (B2.out.below hb B2.out.lt)
  have HB2:=Hj (bel_trans HBL.out hb)
  have E:Hid (Z=.no L.2.1 (L.2.2:Nat)):=by show Z=_;rw[HRS.out,if_neg c]
  clear hb c HRS HBL B0 B1 B2
  go_wp2_with fail
  refine leaves_cons (f:=27) (args:=#[.pointer (some ⟨b1,0,none⟩),.pointer (some ⟨b2,0,none⟩)]) (by simp) (by simp[go_sem]) ?_
  refine(pc_panicking b1 b2 0 0 _ _ [] w1 B1_2.out B2_2.out HNE.out.2.2).mono ?_
  rintro e u' w3 ⟨rfl,rfl,k1,k2,f3⟩
  refine⟨_,results_row3 rfl _ w3 w.heap.size 30 (prvs 0 ⟨none,0,0⟩ ⟨none,0,0⟩ ⟨none,0,0⟩).toArray _ b1 b2 _ _ rfl rfl rfl (f3.blk B0_2.out B0_2.out.lt (fun x=>x.elim HNE.out.1 HNE.out.2.1)) Tryz.underlying30 rfl (by kernel_rfl) (ld_err k1) (ld_int k2),?_⟩
  rw[E.out]
  exact⟨_,rfl,noPr_v _ _,fx_bel_of HB2.out f3 (fun k hk x=>by have:=HLE.out;rcases x with x|x<;>omega)⟩
def Pb (B:Int)(ts:List Tk):Prop:=∀t∈ts,0≤t.ps∧t.ps≤B
theorem pb_hd {B:Int}(hB:0≤B){s:PS}(h:Pb B s.ts):0≤s.hd.ps∧s.hd.ps≤B:=by
 unfold PS.hd
 cases e:s.ts with
 | nil=>exact⟨Int.le_refl _,hB⟩
 | cons t r=>exact h t (by rw[e];exact List.mem_cons_self)
theorem pb_tk {B:Int}{s:PS}(h:Pb B s.ts):Pb B s.tk.ts:=fun t ht=>h t (List.mem_of_mem_tail ht)
def Er {α:Type}(B:Int)(r:Rs α):Prop:=
 match r with
 | .ok _ s=>Pb B s.ts
 | .no _ q=>0≤q∧q≤B
theorem Er.bind {α β:Type}{B:Int}{r:Rs α}{f:α→PS→Rs β}(h:Er B r)(g:∀a s,Pb B s.ts→Er B (f a s)):Er B (r.bind f):=by
 cases r with
 | no c q=>exact h
 | ok a s=>exact g a s h
section
variable {B:Int} (hB:0≤B)
include hB
theorem er_bad {α:Type}{s:PS}(h:Pb B s.ts):Er B (bad s:Rs α):=pb_hd hB h
theorem er_exp {x:List UInt8}{s:PS}(h:Pb B s.ts):Er B (expT x s):=by
 unfold expT
 split
 ·exact pb_tk h
 ·exact er_bad hB h
theorem er_kind {k:Int}{s:PS}(h:Pb B s.ts):Er B (kindT k s):=by
 unfold kindT
 split
 ·exact pb_tk h
 ·exact er_bad hB h
omit hB in
theorem er_whole {e:Ex}{s:PS}(h:Pb B s.ts)(he:0≤e.h.ps∧e.h.ps≤B):Er B (whole e s):=by
 unfold whole
 split
 ·exact he
 ·exact h
theorem er_end {α:Type}{a:α}{s:PS}(h:Pb B s.ts):Er B (endT a s):=by
 unfold endT
 split
 ·exact h
 ·exact er_bad hB h
omit hB in
def ErX (B:Int)(p:PS→Rs Ex):Prop:=∀s,Pb B s.ts→Er B (p s)
theorem er_bin {n:Nat}{p:PS→Rs Ex}(hp:ErX B p){e:Ex}{s:PS}(h:Pb B s.ts):Er B (binr n p e s):=
 (hp s.tk (pb_tk h)).bind fun _ _ h1=>er_whole h1 (pb_hd hB h)
theorem er_chain {n:Nat}{p:PS→Rs Ex}(hp:ErX B p):∀(f:Nat) (e:Ex) (s:PS),Pb B s.ts→Er B (chain n p f e s):=by
 intro f
 induction f with
 | zero=>exact fun _ _ _=>⟨Int.le_refl _,hB⟩
 | succ f ih=>
  intro e s h
  rw[chain]
  split
  ·exact h
  ·exact(er_bin hB hp h).bind fun a s1 h1=>ih a s1 h1
theorem er_lvl {u:PS→Rs Ex}(hu:ErX B u):∀m,ErX B (lvl u m):=by
 intro m
 induction m with
 | zero=>exact hu
 | succ m ih=>
  intro s h
  refine(ih s h).bind fun a s1 h1=>?_
  split
  ·split
   ·exact h1
   ·exact er_bin hB ih h1
  ·exact er_chain hB ih _ _ _ h1
omit hB in
def ErO (B:Int)(d:Option (PS→Rs Ex)):Prop:=∀u,d=some u→ErX B u
theorem er_within {d:Option (PS→Rs Ex)}(hd:ErO B d){o c:List UInt8}:ErX B (within d o c):=by
 intro s h
 unfold within
 split
 ·cases d with
  | none=>exact pb_hd hB h
  | some u=>exact(er_lvl hB (hd u rfl) 5 s.tk (pb_tk h)).bind fun a s1 h1=>(er_exp hB h1).bind fun _ s2 h2=>h2
 ·exact er_bad hB h
theorem er_index {d:Option (PS→Rs Ex)}(hd:ErO B d){s:PS}(h:Pb B s.ts):Er B (index d s):=by
 unfold index
 split
 ·exact(er_within hB hd s h).bind fun a s1 h1=>h1
 ·exact h
theorem er_atom {d:Option (PS→Rs Ex)}(hd:ErO B d):ErX B (atom d):=by
 intro s h
 have hp:=pb_hd hB h
 have ht:=pb_tk h
 unfold atom
 split
 ·exact er_within hB hd s h
 ·split
  ·exact er_bad hB h
  ·split
   ·exact er_whole ht hp
   ·split
    ·exact er_whole ht hp
    ·split
     ·exact er_whole ht hp
     ·split
      ·exact(er_index hB hd ht).bind fun l s1 h1=>er_whole h1 hp
      ·exact(er_within hB hd _ ht).bind fun l s1 h1=>er_whole h1 hp
theorem er_un {d:Option (PS→Rs Ex)}(hd:ErO B d):ErX B (un d):=by
 intro s h
 unfold un
 split
 ·exact er_atom hB hd s h
 ·cases d with
  | none=>exact pb_hd hB h
  | some u=>exact(hd u rfl s.tk (pb_tk h)).bind fun a s1 h1=>er_whole h1 (pb_hd hB h)
theorem er_unK (k:Nat):ErX B (unK k):=by
 induction k with
 | zero=>exact er_un hB fun u h=>by cases h
 | succ k ih=>exact er_un hB fun u h=>by cases h;exact ih
theorem er_dK (k:Nat):ErO B (dK k):=by
 intro u h
 cases k with
 | zero=>cases h
 | succ k=>cases h;exact er_unK hB k
theorem er_exK (k:Nat):ErX B (exK k):=er_lvl hB (er_unK hB k) 5
omit hB in
theorem pb_minus {s:PS}(h:Pb B s.ts):Pb B (minus s).2.ts:=by
 unfold minus
 split
 ·exact pb_tk h
 ·exact h
theorem er_int {m:Bool}{s:PS}(h:Pb B s.ts):Er B (intT m s):=(er_kind hB h).bind fun _ _ h1=>h1
theorem er_whl {s:PS}(h:Pb B s.ts):Er B (whl s):=er_int hB (pb_minus h)
theorem er_numb {s:PS}(h:Pb B s.ts):Er B (numb s):=by
 unfold numb
 split
 ·exact pb_tk (pb_minus h)
 ·exact(er_int hB (pb_minus h)).bind fun _ _ h1=>h1
theorem er_typ {s:PS}(h:Pb B s.ts):Er B (typN s):=by
 unfold typN
 split
 ·exact pb_tk h
 ·split
  ·exact pb_tk h
  ·exact(er_exp hB h).bind fun _ _ h1=>h1
theorem er_deT {ps ty:Int}{i:Bool}{nm:List UInt8}{s:PS}(h:Pb B s.ts):Er B (deT ps i nm ty s):=by
 unfold deT
 split
 ·exact(er_exp hB (pb_tk h)).bind fun _ _ h=>(er_numb hB h).bind fun _ _ h=>(er_exp hB h).bind fun _ _ h=>(er_numb hB h).bind fun _ _ h=>(er_exp hB h).bind fun _ _ h=>(er_exp hB h).bind fun _ _ h=>h
 ·split
  ·exact(er_kind hB (pb_tk h)).bind fun _ _ h=>(er_exp hB h).bind fun _ _ h=>(er_exp hB h).bind fun _ _ h=>h
  ·exact(er_exp hB h).bind fun _ _ h=>h
theorem er_decl {s:PS}(h:Pb B s.ts):Er B (decl s):=
 (er_kind hB (pb_tk h)).bind fun _ _ h=>(er_exp hB h).bind fun _ _ h=>(er_typ hB h).bind fun _ _ h=>er_deT hB h
theorem er_decls:∀(f:Nat) (l:List De) (s:PS),Pb B s.ts→Er B (decls f l s):=by
 intro f
 induction f with
 | zero=>exact fun _ _ _=>⟨Int.le_refl _,hB⟩
 | succ f ih=>
  intro l s h
  rw[decls]
  split
  ·split
   ·exact pb_hd hB h
   ·exact(er_decl hB h).bind fun d s1 h1=>ih _ s1 h1
  ·exact h
omit hB in
def ErS (B:Int)(p:PS→Rs St):Prop:=∀s,Pb B s.ts→Er B (p s)
omit hB in
def ErSO (B:Int)(d:Option (PS→Rs St)):Prop:=∀p,d=some p→ErS B p
theorem er_many {p:PS→Rs St}(hp:ErS B p):∀(f:Nat) (l:List St) (s:PS),Pb B s.ts→Er B (many p f l s):=by
 intro f
 induction f with
 | zero=>exact fun _ _ _=>⟨Int.le_refl _,hB⟩
 | succ f ih=>
  intro l s h
  rw[many]
  split
  ·exact pb_tk h
  ·exact(hp s h).bind fun x s1 h1=>ih _ s1 h1
theorem er_blk {d:Option (PS→Rs St)}(hd:ErSO B d){s:PS}(h:Pb B s.ts):Er B (blk d s):=by
 unfold blk
 split
 ·cases d with
  | none=>exact pb_hd hB h
  | some p=>exact er_many hB (hd p rfl) _ [] _ (pb_tk h)
 ·exact er_bad hB h
theorem er_els {d:Option (PS→Rs St)}(hd:ErSO B d){s:PS}(h:Pb B s.ts):Er B (elsS d s):=by
 unfold elsS
 split
 ·cases d with
  | none=>exact pb_hd hB h
  | some p=>exact(hd p rfl s h).bind fun x s1 h1=>h1
 ·exact er_blk hB hd h
theorem er_stm (k:Nat){d:Option (PS→Rs St)}(hd:ErSO B d):ErS B (stm k d):=by
 intro s h
 unfold stm
 split
 ·exact er_bad hB h
 ·split
  ·exact pb_hd hB h
  ·dsimp only
   have h1:Pb B (⟨s.ts.tail,s.ns+1,s.nx⟩:PS).ts:=pb_tk h
   generalize (⟨s.ts.tail,s.ns+1,s.nx⟩:PS)=s1 at *
   split
   ·refine(er_exK hB k s1 h1).bind fun e s2 h2=>(er_blk hB hd h2).bind fun t s3 h3=>?_
    split
    ·exact(er_els hB hd (pb_tk h3)).bind fun l s4 h4=>h4
    ·exact h3
   ·split
    ·exact(er_kind hB h1).bind fun _ _ h=>(er_exp hB h).bind fun _ _ h=>(er_whl hB h).bind fun _ _ h=>(er_exp hB h).bind fun _ _ h=>(er_whl hB h).bind fun _ _ h=>(er_blk hB hd h).bind fun _ _ h=>h
    ·exact(er_index hB (er_dK hB k) h1).bind fun _ _ h=>(er_exp hB h).bind fun _ _ h=>(er_exK hB k _ h).bind fun _ _ h=>(er_exp hB h).bind fun _ _ h=>h
theorem er_stK (k:Nat):ErS B (stK k):=by
 induction k with
 | zero=>exact er_stm hB 0 fun u h=>by cases h
 | succ k ih=>exact er_stm hB (k+1) fun u h=>by cases h;exact ih
theorem er_sK (k:Nat):ErSO B (sK k):=by
 intro u h
 cases k with
 | zero=>cases h
 | succ k=>cases h;exact er_stK hB k
theorem er_prog {s:PS}(h:Pb B s.ts):Er B (prog s):=
 (er_exp hB h).bind fun _ _ h=>(er_kind hB h).bind fun _ _ h=>(er_exp hB h).bind fun _ _ h=>(er_decls hB _ _ _ h).bind fun _ _ h=>(er_exp hB h).bind fun _ _ h=>(er_blk hB (er_sK hB 24) h).bind fun _ _ h=>(er_exp hB h).bind fun _ _ h=>(er_blk hB (er_sK hB 24) h).bind fun _ _ h=>er_end hB h
end
theorem run_pb {l:List UInt8}{a:Nat}{ts:List Tk}(h:Run l a ts):Pb ((a+l.length:Nat):Int) ts:=by
 induction h with
 | fin a=>
  intro t ht
  obtain rfl:=List.mem_singleton.1 ht
  exact⟨by show(0:Int)≤(a:Int);omega,by show(a:Int)≤_;simp⟩
 | tok l a ts h0 h1 r ih=>
  intro t ht
  rcases List.mem_cons.1 ht with rfl|ht
  ·rw[fiT_ps];exact⟨by omega,by omega⟩
  ·have:=ih t ht
   have h2:=gpN_add (l.drop (fiN l))
   have h3:=fiN_le l
   rw[List.length_drop]at h2
   refine⟨this.1,Int.le_trans this.2 ?_⟩
   omega
theorem rsP_place {l:List UInt8}{c q:Int}(h:rsP l=.no c q):0≤q∧q≤(l.length:Int):=by
 unfold rsP at h
 by_cases hs:l.length≤16384
 ·split at h
  ·rename_i h0
   obtain⟨R, -⟩:=lexV_good hs h0
   have hb:=run_pb R
   have:=gpN_add l
   have:=er_prog (B:=(l.length:Int)) (by omega) (s:=⟨(lexV l).1,0,0⟩) (fun t ht=>by have:=hb t ht;exact⟨this.1,by omega⟩)
   rw[h]at this
   exact this
  ·rename_i h0
   injection h with e1 e2
   have:=(lexV_bad hs h0).2.1
   subst e2
   exact⟨by omega,by omega⟩
 ·have e:lexV l=([],91,0):=by unfold lexV;rw[if_pos (by omega)]
  rw[e,if_neg (by decide)]at h
  injection h with e1 e2
  subst e2
  exact⟨by simp,by simp⟩
theorem wt_two {e:Ex}(h:e.h.s.n=2):e.wt=1+e.h.nm.length+(e.k 0).wt+(e.k 1).wt:=by
 rw[Ex.wt_eq,h];simp only[sm];omega
theorem wt_one {e:Ex}(h:e.h.s.n=1):e.wt=1+e.h.nm.length+(e.k 0).wt:=by
 rw[Ex.wt_eq,h];simp only[sm];omega
theorem txt_bd (e:Ex):e.pl→(e.txt prT).length≤27*e.wt+3:=by
 induction e using Ex.ind with
 | H e ih=>
  intro hp
  have hw:1+e.h.nm.length≤e.wt:=by rw[Ex.wt_eq];omega
  rw[Ex.txt_eq]
  unfold headT
  cases hp.hd with
  | bin h0 h1 hn=>
   have i0:=ih 0 (by omega) (hp.ki (by omega))
   have i1:=ih 1 (by omega) (hp.ki (by omega))
   have b0:=brk_len (e.k 0).bin ((e.k 0).txt prT)
   have b1:=brk_len (e.k 1).bin ((e.k 1).txt prT)
   have s0:=sign_len e.h.op
   have w2:=wt_two hn
   rw[if_neg (by omega),if_neg (by omega),if_neg (by omega),if_neg (by omega),if_neg (by omega),if_neg (by omega),if_neg (by omega),if_neg (by omega),if_neg (by omega),if_pos (by unfold opBin;exact decide_eq_true ⟨h0,h1⟩),if_pos (by omega),if_pos (by omega)]
   simp only[List.length_append,List.length_cons,List.length_nil]
   omega
  | neg h0 hn=>
   have i0:=ih 0 (by omega) (hp.ki (by omega))
   have b0:=brk_len (e.k 0).bin ((e.k 0).txt prT)
   have w1:=wt_one hn
   rw[if_neg (by omega),if_neg (by omega),if_neg (by omega),if_neg (by omega),if_neg (by omega),if_neg (by omega),if_neg (by omega)]
   simp only[if_pos (show 0<e.h.s.n by omega)]
   split
   ·simp only[List.length_cons];omega
   ·rw[if_pos (by omega)];simp only[List.length_cons];omega
  | fn h0 hn=>
   have i0:=ih 0 (by omega) (hp.ki (by omega))
   have w1:=wt_one hn
   rw[if_neg (by omega),if_neg (by omega),if_neg (by omega),if_neg (by omega)]
   simp only[if_pos (show 0<e.h.s.n by omega)]
   split
   ·simp only[List.length_append,List.length_cons,List.length_nil];omega
   ·split
    ·simp only[List.length_append,List.length_cons,List.length_nil];omega
    ·rw[if_pos (by omega)];simp only[List.length_append,List.length_cons,List.length_nil];omega
  | nam h0 hn hm=>
   rw[if_neg (by omega),if_neg (by omega),if_neg (by omega),if_pos h0]
   unfold nameT
   by_cases c:0<e.h.s.n
   ·have i0:=ih 0 c (hp.ki c)
    have w1:=wt_one (show e.h.s.n=1 by omega)
    simp only[if_pos c,List.length_append,List.length_cons,List.length_nil]
    omega
   ·simp only[if_neg c,List.length_append,List.length_nil]
    omega
  | int h0 hn h1 h2=>
   rw[if_neg (by omega),if_pos h0]
   have:=itoa_len (n:=e.h.it) (by omega) (by omega)
   omega
  | flt h0 hn h1 h2=>
   rw[if_neg (by omega),if_neg (by omega),if_pos h0]
   have:=prT_len (f:=e.h.fl) ⟨h1,by omega⟩
   omega
  | boo h0 hn=>
   rw[if_pos h0]
   split
   ·show 4≤_;omega
   ·show 5≤_;omega
end Go.Proofs.YthmlhkllbichgaaGreatDoor
