/-
  ParseParses: a source's tree, or what is wrong with it, is the reference's. (part 29 of 38) Conditions: none beside what the card ties.
-/
import Derived.Lib.Builder
import Derived.Lib.AppendStr
import Derived.Lib.UnsafeStr
import Derived.Lib.OwnKind
import Derived.Laws.Externs
import Derived.Laws.IdiomCopy
import Derived.Defers
import Derived.Test.YthmlhkllbichgaaGreatDoorVac
import Derived.Test.YthmlhkllbichgaaGreatDoorVaz
namespace Go.Proofs.YthmlhkllbichgaaGreatDoor
set_option maxHeartbeats 16000000
open Go.RowKit
set_option maxRecDepth 100000
def WrAt (B b:Nat)(p:Value)(bs:List UInt8)(d:Nat)(w:World):Prop:=
 B≤b∧∃v,w.heap[b]? = some (.cells #[p,v,.int .i64 (d:Int)] 89 (0,0))∧w.ownsRow B 5 1 v bs.length (Lib.byteCells bs)∧v.ownBlock≠some b
def Wr (B b:Nat)(bs:List UInt8)(d:Nat)(w:World):Prop:=WrAt B b (.pointer none) bs d w∨WrAt B b (.pointer (some ⟨b,0,none⟩)) bs d w
theorem Wr.at {B b:Nat}{bs:List UInt8}{d:Nat}{w:World}(h:Wr B b bs d w):∃p,WrAt B b p bs d w:=by
 rcases h with h|h
 iterate 2
  ·exact⟨_,h⟩
theorem Wr.lt {B b:Nat}{bs:List UInt8}{d:Nat}{w:World}(h:Wr B b bs d w):b<w.heap.size:=by
 obtain⟨_,_,_,hb,_⟩:=h.at;exact(Array.getElem?_eq_some_iff.1 hb).1
theorem WrAt.kept {B b:Nat}{p:Value}{bs:List UInt8}{d:Nat}{w w':World}(h:WrAt B b p bs d w)(hb:Below w.heap.size w w'):WrAt B b p bs d w':=by
 obtain⟨hB,v,h1,h2,h3⟩:=h;refine⟨hB,v,kept_o hb h1,⟨h2.1,?_⟩,h3⟩;rcases h2.2 with h4|⟨g,cap,cur,e1,e2,e3,e4⟩
 ·exact .inl h4
 ·exact .inr ⟨g,cap,cur,e1,e2,kept_o hb e3,e4⟩
where kept_o {w w':World} {k:Nat} {o:Obj} (hb:Below w.heap.size w w') (h:w.heap[k]? = some o):w'.heap[k]? = some o:=(hb.block k (Array.getElem?_eq_some_iff.1 h).1).trans h
theorem Wr.kept {B b:Nat}{bs:List UInt8}{d:Nat}{w w':World}(h:Wr B b bs d w)(hb:Below w.heap.size w w'):Wr B b bs d w':=h.imp (·.kept hb) (·.kept hb)
theorem Wr.bx {B b:Nat}{bs:List UInt8}{d:Nat}{w:World}(h:Wr B b bs d w)(o:Obj):Wr B b bs d (bx w o):=h.kept (bx_bel (Below.refl _ _) (Nat.le_refl _) o)
theorem Wr.drew {B b:Nat}{bs:List UInt8}{d:Nat}{w:World}(h:Wr B b bs d w):Wr B b bs d w.drew:=h.kept (Below.drew (Below.refl _ _))
theorem Fr.grown {B b:Nat}{a w w':World}{row:Option Nat}(h:Fr B b a w)(hg:w.grownBy w' row)(hr:∀k,row=some k→B≤k∧∃c fz,w.heap[k]? = some (.cells c 5 fz)):Fr B b a w':=
 ⟨h.1.grown hg h.size (fun k hk=>(hr k hk).1),h.2.1.grown hg (fun g hk=>(hr g hk).2),h.2.2⟩
theorem own_ne {w:World}{B:Nat}{v:Value}{n:Nat}{xs:List Value}{b:Nat}{cs:Array Value}(hown:w.ownsRow B 5 1 v n xs)(hb:w.heap[b]? = some (.cells cs 89 (0,0))):v.ownBlock≠some b:=
 Lib.ownBlock_ne hown hb (by decide)
theorem WrAt.put {B b:Nat}{p v v':Value}{bs:List UInt8}{d:Nat}{w:World}(hB:B≤b)(hb:w.heap[b]? = some (.cells #[p,v,.int .i64 (d:Int)] 89 (0,0)))(hown:w.ownsRow B 5 1 v' bs.length (Lib.byteCells bs)) :
  WrAt B b p bs d (w.setCell ⟨b,1,none⟩ v'):=by
 have hne:=own_ne hown hb;have h1:(w.setCell ⟨b,1,none⟩ v').heap[b]? = some (.cells #[p,v',.int .i64 (d:Int)] 89 (0,0)):=by simp[World.setCell,Array.getElem?_modify,hb]
 refine⟨hB,v',h1,⟨hown.1,?_⟩,hne⟩;rcases hown.2 with h|⟨g,cap,cur,e1,e2,e3,e4⟩
 ·exact .inl h
 ·refine .inr ⟨g,cap,cur,e1,e2,?_,e4⟩
  rw[Below.heap_setCell _ _ _ _ (fun e=>hne (by rw[e1,e];rfl))];exact e3
theorem size_builder:(Tryz.prog.info? 87).map (·.size)=some 2:=by kernel_rfl
theorem lies_builder:liesAt Tryz.prog Tryz.prog.depth 89 (3 / Tryz.prog.cellsOf 89) 0 87 1=true:=by kernel_rfl
theorem info_byte:(Tryz.prog.info? 5).map (fun i=>(i.zero,i.size,i.bytes))=some (some (.int .u8 0),1,1):=by kernel_rfl
theorem copy_used (b:Nat)(w:World)(h0:w.cell? ⟨b,0,none⟩=some (.pointer (some ⟨b,0,none⟩))) :
  Calls Tryz.prog 121 #[.pointer (some ⟨b,0,none⟩)] w fun e w'=>e=.returned (.tuple #[])∧w'=w:=by
 obtain⟨j,hj,_⟩:=Option.map_eq_some_iff.1 size_builder;go_enter Tryz.func121,Tryz.ntmps121;go_wp2_with fail;rw[Lib.run_neq_ptr_same w _ Tryz.underlying84 hj];go_wp2_with fail
 go_end0
 exact⟨rfl,rfl⟩
theorem copy_fresh (b:Nat)(w:World)(h0:w.cell? ⟨b,0,none⟩=some (.pointer none))(hsh:w.shape? b=some (89,3))(hfz:w.frozen? ⟨b,0,none⟩=false) :
  Calls Tryz.prog 121 #[.pointer (some ⟨b,0,none⟩)] w fun e w'=>e=.returned (.tuple #[])∧w'=w.setCell ⟨b,0,none⟩ (.pointer (some ⟨b,0,none⟩)):=by
 obtain⟨j,hj,hjs⟩:=Option.map_eq_some_iff.1 size_builder;go_enter Tryz.func121,Tryz.ntmps121;go_wp2_with fail;rw[Lib.run_to_unsafe w ⟨b,0,none⟩ Tryz.underlying84 Tryz.underlying187 hj (by rw[hjs];decide) hsh (Nat.zero_lt_succ 2)];simp only[Result.andThen];rw[Oper.upon_value];go_wp2_with fail;rw[run_callFunc_extern Tryz.func155 (by kernel_rfl) (by kernel_rfl) (by kernel_rfl) (e:=Extern.AbiNoEscape.same) (by kernel_rfl)];rw[Lib.run_noEscape];simp only[Result.andThen];rw[Oper.upon_value];go_wp2_with fail;rw[Lib.run_from_unsafe w ⟨b,0,none⟩ Tryz.underlying187 Tryz.underlying84 hj hsh lies_builder];simp only[Result.andThen];rw[Oper.upon_value];go_wp2_with fail
 go_end0
 exact⟨rfl,rfl⟩
theorem copy_any (B b:Nat)(bs:List UInt8)(d:Nat)(w:World)(h:Wr B b bs d w)(hB:B≤w.heap.size) :
  Calls Tryz.prog 121 #[.pointer (some ⟨b,0,none⟩)] w fun e w'=>e=.returned (.tuple #[])∧WrAt B b (.pointer (some ⟨b,0,none⟩)) bs d w'∧Fr B b w w':=by
 rcases h with⟨h1,v,h2,h3,h4⟩|h
 ·refine(copy_fresh b w (cell_obj h2 0) (by simp[World.shape?,h2]) (frozen_obj h2 0)).mono ?_
  rintro e w' ⟨rfl,rfl⟩;refine⟨rfl,⟨h1,v,by simp[World.setCell,Array.getElem?_modify,h2],⟨h3.1,?_⟩,h4⟩,(Fr.refl b hB).setCell h1 0 _⟩;rcases h3.2 with h|⟨g,cap,cur,e1,e2,e3,e4⟩
  ·exact .inl h
  ·refine .inr ⟨g,cap,cur,e1,e2,?_,e4⟩
   rw[Below.heap_setCell _ _ _ _ (fun e=>h4 (by rw[e1,e];rfl))];exact e3
 ·refine(copy_used b w (cell_obj h.2.choose_spec.1 0)).mono ?_
  rintro e w' ⟨rfl,rfl⟩;exact⟨rfl,h,Fr.refl b hB⟩
theorem wString_any (B b:Nat)(bs l:List UInt8)(d:Nat)(w:World)(h:Wr B b bs d w)(hl:bs.length+l.length≤140737488355328)(hB:B≤w.heap.size) :
  Calls Tryz.prog 77 #[.pointer (some ⟨b,0,none⟩),.string ⟨l.toArray⟩] w fun e w'=>e=.returned (.tuple #[.int .i64 (l.length:Int),.nilIface])∧Wr B b (bs++l) d w'∧Fr B b w w':=by
 obtain⟨i0,hi,hz0,hz1,hz2⟩:=info_parts info_byte;have hsz:(⟨l.toArray⟩:ByteArray).size=l.length:=by rw[Lib.size_eq]
 have HC:=Hj (copy_any B b bs d w h hB);clear h;go_enter Tryz.func77,Tryz.ntmps77;go_wp2_with fail;refine HC.out.mono ?_;rintro e w1 ⟨rfl,h1,F1⟩;obtain⟨hBb,v,hbk,hown,hne⟩:=h1;have c1:w1.cell? ⟨b,1,none⟩=some v:=cell_obj hbk 1;have HN:=Hj hne;have HO:=Hj hown;have HF:=Hj F1;clear hne hown F1 HC
 go_wp2_with (at_builtin;refine Lib.wpList_append_own_string _ rfl _ _ 85 9 rfl B 5 i0 Tryz.underlying85 Tryz.underlying9 hi hz0 hz1 hz2 _ _ _ rfl HO.out ⟨l.toArray⟩ rfl ?c3 ?c4 ?c5 ?_)
 case c3=>unfold maxLen;omega
 case c4=>omega
 case c5=>exact HF.out.size
 intro v' w2 hown' hgrow _;have hlt:b<w1.heap.size:=(Array.getElem?_eq_some_iff.1 hbk).1
 have hb2:w2.heap[b]? = some (.cells #[.pointer (some ⟨b,0,none⟩),v,.int .i64 (d:Int)] 89 (0,0)):=by
  rw[hgrow.block b hlt (fun e=>HN.out e.symm)];exact hbk
 have F2:=HF.out.grown hgrow (fun k hk=>⟨(HO.out.lt k hk).1,Lib.ownsRow_kind HO.out k hk⟩);have d1:w2.cell? ⟨b,1,none⟩=some v:=cell_obj hb2 1;have f1:w2.frozen? ⟨b,1,none⟩=false:=frozen_obj hb2 1
 obtain⟨ao,n',cap,rfl⟩:∃ao n' cap,v'=.slice ao n' cap:=by
  rcases hown'.2 with⟨hv,_⟩|⟨g,cap,cur,hv,_⟩
  iterate 2
   ·exact⟨_,_,_,hv⟩
 have hcat:Lib.byteCells bs++Lib.strCells ⟨l.toArray⟩=Lib.byteCells (bs++l):=by simp[Lib.byteCells,Lib.strCells]
 rw[hcat]at hown';have HW:=Hj (WrAt.put (bs:=bs++l) hBb hb2 (by rw[List.length_append];exact hown'));have HF2:=Hj (F2.setCell hBb 1 (.slice ao n' cap));clear hown' hgrow hb2 F2 HO HN hbk hcat c1 HF;go_wp2_with fail
 go_ret2
 exact⟨rfl,.inr HW.out,HF2.out⟩
theorem unsafe_none (W:World)(q:Option Addr):(Builtin.unsafeString_ #[126,3] 9 #[.pointer q,.int .i64 0]).run Tryz.prog W=.ok (.string .empty) W:=
 Lib.run_unsafeString_none W _ _ _ q
theorem wStr_some (B b:Nat)(l:List UInt8)(d:Nat)(w:World)(h:Wr B b l d w)(h0:l≠[]) :
  Calls Tryz.prog 44 #[.pointer (some ⟨b,0,none⟩)] w fun e w'=>e=.returned (.string ⟨l.toArray⟩)∧Below B w w':=by
 obtain⟨p,hB,v,hbk,hown,hne⟩:=h.at;have hl0:l.length≠0:=by simpa using h0
 obtain⟨g,cap,cur,rfl,hbg,hg,hnc,hcm,hcs,htake⟩:∃g cap cur,v=.slice (some ⟨g,0,none⟩) l.length cap∧B≤g∧w.heap[g]? = some (.cells cur 5 (0,0))∧l.length≤cap∧cap≤maxLen∧cur.size=cap * 1∧cur.toList.take (l.length * 1)=Lib.byteCells l:=by
  rcases hown.2 with⟨_,hz⟩|⟨g,cap,cur,hv,r⟩
  ·exact absurd hz hl0
  ·exact⟨g,cap,cur,hv,r⟩
 have c1:w.drew.cell? ⟨b,1,none⟩=some (.slice (some ⟨g,0,none⟩) l.length cap):=cell_obj (w:=w.drew) hbk 1
 have hSD:(Builtin.unsafeSliceData_ #[85] 126 #[.slice (some ⟨g,0,none⟩) l.length cap]).run Tryz.prog w.drew=.ok (.pointer (some ⟨g,0,none⟩)) w.drew:=
  Lib.run_unsafeSliceData_row _ _ _ _ _ _ (by omega)
 have hUS:(Builtin.unsafeString_ #[126,3] 9 #[.pointer (some ⟨g,0,none⟩),.int .i64 l.length]).run Tryz.prog w.drew=.ok (.string ⟨l.toArray⟩) (w.drew.freeze ⟨g,0,none⟩ l.length):=by
  refine Lib.run_unsafeString_row w.drew 126 3 9 5 Tryz.underlying126 (by kernel_rfl) g cur.size (by have hg':w.drew.heap[g]? = some (.cells cur 5 (0,0)):=hg;simp[World.shape?,hg']) l h0 (by omega) (by unfold maxLen at hcm;omega) ?_;intro j x hx;have:=hown.cells (g:=g) rfl j (.int .u8 x.toNat) (by simp[Lib.byteCells,hx]);exact this
 have HG:=Hj hbg;clear hown hne hg hcs htake hnc hcm h hbk;go_enter Tryz.func44,Tryz.ntmps44;go_wp2_with fail
 go_region
 all_goals (go_wp2_with fail;go_ret;exact⟨rfl,Lib.below_freeze (Below.drew (Below.refl B w)) (p:=⟨g,0,none⟩) HG.out _⟩)
theorem wStr_nil (B b:Nat)(p dcv:Value)(w:World)(hbk:w.heap[b]? = some (.cells #[p,.slice none 0 0,dcv] 89 (0,0))) :
  Calls Tryz.prog 44 #[.pointer (some ⟨b,0,none⟩)] w fun e w'=>e=.returned (.string ⟨#[]⟩)∧Below B w w':=by
 have hUS:=unsafe_none;have c1:w.drew.cell? ⟨b,1,none⟩=some (.slice none 0 0):=cell_obj (w:=w.drew) hbk 1;have hSD:(Builtin.unsafeSliceData_ #[85] 126 #[.slice none 0 0]).run Tryz.prog w.drew=.ok (.pointer none) w.drew:=rfl;go_enter Tryz.func44,Tryz.ntmps44;go_wp2_with fail
 go_region
 all_goals (go_wp2_with fail;go_ret;exact⟨rfl,Below.drew (Below.refl B w)⟩)
theorem wStr_noroom (B b g:Nat)(p dcv:Value)(cur:Array Value)(w:World)(hBw:B≤w.heap.size)(hbk:w.heap[b]? = some (.cells #[p,.slice (some ⟨g,0,none⟩) 0 0,dcv] 89 (0,0)))(hg:w.heap[g]? = some (.cells cur 5 (0,0))) :
  Calls Tryz.prog 44 #[.pointer (some ⟨b,0,none⟩)] w fun e w'=>e=.returned (.string ⟨#[]⟩)∧Below B w w':=by
 have hUS:=unsafe_none;have hlt:b<w.heap.size:=(Array.getElem?_eq_some_iff.1 hbk).1;have c1:w.drew.cell? ⟨b,1,none⟩=some (.slice (some ⟨g,0,none⟩) 0 0):=cell_obj (w:=w.drew) hbk 1
 have hSD:(Builtin.unsafeSliceData_ #[85] 126 #[.slice (some ⟨g,0,none⟩) 0 0]).run Tryz.prog w.drew=.ok (.pointer (some ⟨w.drew.heap.size,0,none⟩)) (w.drew.alloc (.view ⟨g,0,none⟩ 5)):=
  Lib.run_unsafeSliceData_zero w.drew _ _ 5 Tryz.underlying126 ⟨g,0,none⟩ 0 (5,cur.size) (by have hg':w.drew.heap[g]? = some (.cells cur 5 (0,0)):=hg;simp[World.shape?,hg'])
 have c2:(w.drew.alloc (.view ⟨g,0,none⟩ 5)).cell? ⟨b,1,none⟩=some (.slice (some ⟨g,0,none⟩) 0 0):=
  cell_obj (w:=w.drew.alloc (.view ⟨g,0,none⟩ 5)) ((Below.heap_alloc w.drew _ b hlt).trans hbk) 1
 have c3:(w.alloc (.view ⟨g,0,none⟩ 5)).drew.cell? ⟨b,1,none⟩=some (.slice (some ⟨g,0,none⟩) 0 0):=c2;have c0:w.cell? ⟨b,1,none⟩=some (.slice (some ⟨g,0,none⟩) 0 0):=c1;clear hbk hg hlt;go_enter Tryz.func44,Tryz.ntmps44;go_wp2_with fail
 go_region
 all_goals (go_wp2_with fail;go_ret;exact⟨rfl,(Below.drew (Below.refl B w)).alloc hBw _⟩)
theorem wStr_room (B b g cap:Nat)(p dcv:Value)(w:World)(hc0:cap≠0)(hbk:w.heap[b]? = some (.cells #[p,.slice (some ⟨g,0,none⟩) 0 cap,dcv] 89 (0,0))) :
  Calls Tryz.prog 44 #[.pointer (some ⟨b,0,none⟩)] w fun e w'=>e=.returned (.string ⟨#[]⟩)∧Below B w w':=by
 have hUS:=unsafe_none;have c1:w.drew.cell? ⟨b,1,none⟩=some (.slice (some ⟨g,0,none⟩) 0 cap):=cell_obj (w:=w.drew) hbk 1
 have hSD:(Builtin.unsafeSliceData_ #[85] 126 #[.slice (some ⟨g,0,none⟩) 0 cap]).run Tryz.prog w.drew=.ok (.pointer (some ⟨g,0,none⟩)) w.drew:=
  Lib.run_unsafeSliceData_row _ _ _ _ _ _ hc0
 clear hc0 hbk;go_enter Tryz.func44,Tryz.ntmps44;go_wp2_with fail
 go_region
 all_goals (go_wp2_with fail;go_ret;exact⟨rfl,Below.drew (Below.refl B w)⟩)
theorem wStr_any (B b:Nat)(l:List UInt8)(d:Nat)(w:World)(h:Wr B b l d w)(hBw:B≤w.heap.size) :
  Calls Tryz.prog 44 #[.pointer (some ⟨b,0,none⟩)] w fun e w'=>e=.returned (.string ⟨l.toArray⟩)∧Below B w w':=by
 cases l with
 | cons x r=>exact wStr_some B b (x::r) d w h (by simp)
 | nil=>
  obtain⟨p,hB,v,hbk,hown,hne⟩:=h.at;rcases hown.2 with⟨rfl,_⟩|⟨g,cap,cur,rfl,hbg,hg,_,_,_,_⟩
  ·exact wStr_nil B b p _ w hbk
  ·by_cases hc0:cap=0
   ·subst hc0
    exact wStr_noroom B b g p _ cur w hBw hbk hg
   ·exact wStr_room B b g cap p _ w hc0 hbk
def SgOk (w:World):Prop:=∀i:Nat,i<12→w.cell? ⟨1,i,none⟩=some (.string ⟨(signB ((i:Int)+5)).toArray⟩)
theorem SgOk.below {w w':World}(h:SgOk w)(hb:Below w.heap.size w w'):SgOk w':=fun i hi=>
 (hb.cell (p:=⟨1,i,none⟩) (World.block_lt_of_cell? _ _ (h i hi))).trans (h i hi)
def En (B:Nat)(w:World):Prop:=∃w0,EnvOk w0∧SgOk w0∧w0.heap.size≤B∧Below w0.heap.size w0 w
theorem En.env {B:Nat}{w:World}(h:En B w):EnvOk w:=by
 obtain⟨w0,h1, -, -,h4⟩:=h;exact h1.below h4
theorem En.sg {B:Nat}{w:World}(h:En B w):SgOk w:=by
 obtain⟨w0, -,h1, -,h4⟩:=h;exact h1.below h4
theorem En.below {B B':Nat}{w w':World}(h:En B w)(hb:Below B' w w')(hB:B≤B'):En B w':=by
 obtain⟨w0,h1,h2,h3,h4⟩:=h;exact⟨w0,h1,h2,h3,h4.trans (hb.mono (by omega))⟩
theorem En.of {w:World}(h:EnvOk w)(h':SgOk w):En w.heap.size w:=⟨w,h,h',Nat.le_refl _,Below.refl _ _⟩
theorem ifbool_any (v:Bool)(w:World):Calls Tryz.prog 127 #[.bool v] w fun e w'=>e=.returned (.string ⟨(if v then[116,114,117,101] else[102,97,108,115,101]:List UInt8).toArray⟩)∧w'=w:=by
 cases v with
 | true=>
  go_enter Tryz.func127,Tryz.ntmps127;go_wp2_with fail;go_ret;exact⟨rfl,rfl⟩
 | false=>
  go_enter Tryz.func127,Tryz.ntmps127;go_wp2_with fail;go_ret;exact⟨rfl,rfl⟩
theorem fbool_any (v:Bool)(w:World):Calls Tryz.prog 82 #[.bool v] w fun e w'=>e=.returned (.string ⟨(if v then[116,114,117,101] else[102,97,108,115,101]:List UInt8).toArray⟩)∧w'=w:=by
 have C:=Hj (ifbool_any v w);go_enter Tryz.func82,Tryz.ntmps82;go_wp2_with fail;refine C.out.mono ?_;rintro e w' ⟨rfl,rfl⟩;go_wp2_with fail
 all_goals (go_ret;exact⟨rfl,rfl⟩)
theorem isBin_any (op:Int)(w:World):Calls Tryz.prog 132 #[.int .u8 op] w fun e w'=>e=.returned (.bool (opBin op))∧w'=w:=by
 by_cases h1:5≤op
 ·by_cases h2:op≤16
  ·go_enter Tryz.func132,Tryz.ntmps132
   go_wp2_with fail;go_ret;exact⟨by simp[opBin,h1,h2],rfl⟩
  ·go_enter Tryz.func132,Tryz.ntmps132
   go_wp2_with fail;go_ret;exact⟨by simp[opBin,h2],rfl⟩
 ·go_enter Tryz.func132,Tryz.ntmps132
  go_wp2_with fail;go_ret;exact⟨by simp[opBin];omega,rfl⟩
theorem wInt_any (B b:Nat)(bs:List UInt8)(d:Nat)(n:Int)(w:World)(h:Wr B b bs d w)(hE:En B w)(h0:-9223372036854775808≤n)(h1:n≤9223372036854775807)
  (hl:bs.length+(Lib.itoa n).length≤140737488355328) (hB:B≤w.heap.size) :
  Calls Tryz.prog 78 #[.pointer (some ⟨b,0,none⟩),.int .i64 n] w fun e w'=>e=.returned (.tuple #[])∧Wr B b (bs++Lib.itoa n) d w'∧Fr B b w w':=by
 have C1:=Hj fun w hE=>itoa8 n h0 h1 w hE;have C2:=Hj fun w h hB=>wString_any B b bs (Lib.itoa n) d w h hl hB;have HW:=Hj h;have HE:=Hj hE;have HB:=Hj hB;clear h hE h0 h1 hl hB;go_enter Tryz.func78,Tryz.ntmps78;go_upto_region 0 with fail
 go_region_held3 (fun _=>True) (exact trivial)
  (first
   | (go_at_call 122;refine(C1.out _ HE.out.env.drew).mono ?_;rintro e w1 ⟨rfl,hb1⟩)
   | (go_at_call 77;refine(C2.out _ (HW.out.drew.kept hb1) (Nat.le_trans HB.out hb1.size)).mono ?_;rintro e w2 ⟨rfl,hw2,hf2⟩))
 all_goals
  go_wp2_with fail
  go_end0
  exact⟨rfl,hw2,(Fr.of (Below.drew (Below.refl _ _)) HB.out).trans ((Fr.of hb1 HB.out).trans hf2)⟩
def argX (e:Ex)(i:Nat):Ex:=if i<e.h.s.n then e.k i else .no
theorem argX_in {B:Nat}{w:World}{e:Ex}(h:e.In B w)(i:Nat):(argX e i).In B w:=by
 unfold argX;split
 ·rename_i hi;exact h.xs.2.2 i hi
 ·trivial
theorem arg_bx {w:World}(o o':Obj):Below w.heap.size w (bx (bx w o) o'):=bx_bel (bx_bel (Below.refl _ _) (Nat.le_refl _) _) (Nat.le_refl _) _
theorem arg_new (w:World)(o:Obj)(h:EH):(bx (bx w o) (xO h)).heap[w.heap.size+1]? = some (xO h):=by have:=bx_new (bx w o) (xO h);rwa [bx_size]at this
theorem tArg_any (B:Nat)(e:Ex)(i:Nat)(w:World)(hI:e.In B w)(hB:B≤w.heap.size) :
  Calls Tryz.prog 86 #[e.h.v,.int .i64 (i:Int)] w fun r w'=>r=.returned (argX e i).h.v∧Below w.heap.size w w':=by
 have hok:=hI.ok;unfold argX;have hX:=hI.xs;generalize e.h=h at *;generalize e.k=k at *;obtain⟨op,ps,bo,it,fl,nm,⟨ao,n,c⟩⟩:=h;dsimp only at *;have hmx:n≤maxLen:=Nat.le_trans hok.s.1 hok.s.2.1;have c6:(bx w (xO ⟨op,ps,bo,it,fl,nm,⟨ao,n,c⟩⟩)).cell? ⟨w.heap.size,6,none⟩=some (.slice ao n c):=cell_obj (bx_new w _) 6
 by_cases hlt:i<n
 ·have z0:(i:Int)<(n:Int):=by omega
  obtain⟨a,b,o,rfl,hA,hb,X,I⟩:=XsIn.at hX (i:=i) hlt;have hbw:b<w.heap.size:=Nat.lt_of_lt_of_le hb hB;rw[if_pos hlt];have BZ:∀cs t,Below w.heap.size w (((bx w (xO ⟨op,ps,bo,it,fl,nm,⟨some a,n,c⟩⟩))).alloc (.cells cs t)):=fun cs t=>arg_bx _ (.cells cs t);have x0:=fun cs t=>(X.below hbw (BZ cs t) (Nat.le_refl _)).c0;have x1:=fun cs t=>(X.below hbw (BZ cs t) (Nat.le_refl _)).c1;have x2:=fun cs t=>(X.below hbw (BZ cs t) (Nat.le_refl _)).c2;have x3:=fun cs t=>(X.below hbw (BZ cs t) (Nat.le_refl _)).c3;have x4:=fun cs t=>(X.below hbw (BZ cs t) (Nat.le_refl _)).c4;have x5:=fun cs t=>(X.below hbw (BZ cs t) (Nat.le_refl _)).c5;have x6:=fun cs t=>(X.below hbw (BZ cs t) (Nat.le_refl _)).c6;have hz:(bx w (xO ⟨op,ps,bo,it,fl,nm,⟨some a,n,c⟩⟩)).heap.size=w.heap.size+1:=bx_size _ _;clear X hb hbw hok hX hI hB hmx hlt I BZ;show Calls Tryz.prog 86 #[.agg #[.int .u8 op,.int .i64 ps,.bool bo,.int .i32 it,.int .u64 fl,.string ⟨nm.toArray⟩,.slice (some a) n c],.int .i64 (i:Int)] w _;go_enter Tryz.func86,Tryz.ntmps86;go_upto_region 1 with fail;rw[bx_x w ⟨op,ps,bo,it,fl,nm,⟨some a,n,c⟩⟩];go_wp2_with fail;rw[bx_x _ (k i).h];obtain⟨y0,y1,y2,y3,y4,y5,y6⟩:=x_cells (arg_new w (xO ⟨op,ps,bo,it,fl,nm,⟨some a,n,c⟩⟩) (k i).h)
  exact bodyPost_ret (by simp[results,Tryz.results86,go_sem,y0,y1,y2,y3,y4,y5,y6];(try rfl)) rfl ⟨rfl,arg_bx _ (xO (k i).h)⟩
 ·have z0:¬(i:Int)<(n:Int):=by omega
  rw[if_neg hlt];have hz:(bx w (xO ⟨op,ps,bo,it,fl,nm,⟨ao,n,c⟩⟩)).heap.size=w.heap.size+1:=bx_size _ _;clear hok hX hI hB hmx hlt;show Calls Tryz.prog 86 #[.agg #[.int .u8 op,.int .i64 ps,.bool bo,.int .i32 it,.int .u64 fl,.string ⟨nm.toArray⟩,.slice ao n c],.int .i64 (i:Int)] w _;go_enter Tryz.func86,Tryz.ntmps86;go_upto_region 1 with fail;rw[bx_x w ⟨op,ps,bo,it,fl,nm,⟨ao,n,c⟩⟩];go_wp2_with fail;rw[show ∀W:World,W.alloc (.cells #[.int .u8 0,.int .i64 0,.bool false,.int .i32 0,.int .u64 0,.string ⟨#[]⟩,.slice none 0 0] 41 (0,0))=bx W (xO zeroH)from fun _=>rfl];obtain⟨y0,y1,y2,y3,y4,y5,y6⟩:=x_cells (arg_new w (xO ⟨op,ps,bo,it,fl,nm,⟨ao,n,c⟩⟩) zeroH);exact bodyPost_ret (by simp[results,Tryz.results86,go_sem,y0,y1,y2,y3,y4,y5,y6];(try rfl)) rfl ⟨rfl,arg_bx _ (xO zeroH)⟩
theorem wString_d (B b:Nat)(bs l:List UInt8)(d:Nat)(w:World)(h:Wr B b bs d w)(hl:bs.length+l.length≤140737488355328)(hB:B≤w.heap.size) :
  CallsD Tryz.prog 77 #[.pointer (some ⟨b,0,none⟩),.string ⟨l.toArray⟩] .returning w fun e u' w'=>u'=.returning∧e=.returned (.tuple #[.int .i64 (l.length:Int),.nilIface])∧Wr B b (bs++l) d w'∧Fr B b w w':=by
 obtain⟨i0,hi,hz0,hz1,hz2⟩:=info_parts info_byte;have hsz:(⟨l.toArray⟩:ByteArray).size=l.length:=by rw[Lib.size_eq]
 have HC:=Hj (copy_any B b bs d w h hB);clear h
 go_enter_d Tryz.func77,Tryz.ntmps77
 go_wp2_with fail;refine HC.out.mono ?_;rintro e w1 ⟨rfl,h1,F1⟩;obtain⟨hBb,v,hbk,hown,hne⟩:=h1;have c1:w1.cell? ⟨b,1,none⟩=some v:=cell_obj hbk 1;have HN:=Hj hne;have HO:=Hj hown;have HF:=Hj F1;clear hne hown F1 HC
 go_wp2_with (at_builtin;refine Lib.wpList_append_own_string _ rfl _ _ 85 9 rfl B 5 i0 Tryz.underlying85 Tryz.underlying9 hi hz0 hz1 hz2 _ _ _ rfl HO.out ⟨l.toArray⟩ rfl ?c3 ?c4 ?c5 ?_)
 case c3=>unfold maxLen;omega
 case c4=>omega
 case c5=>exact HF.out.size
 intro v' w2 hown' hgrow _;have hlt:b<w1.heap.size:=(Array.getElem?_eq_some_iff.1 hbk).1
 have hb2:w2.heap[b]? = some (.cells #[.pointer (some ⟨b,0,none⟩),v,.int .i64 (d:Int)] 89 (0,0)):=by
  rw[hgrow.block b hlt (fun e=>HN.out e.symm)];exact hbk
 have F2:=HF.out.grown hgrow (fun k hk=>⟨(HO.out.lt k hk).1,Lib.ownsRow_kind HO.out k hk⟩);have d1:w2.cell? ⟨b,1,none⟩=some v:=cell_obj hb2 1;have f1:w2.frozen? ⟨b,1,none⟩=false:=frozen_obj hb2 1
 obtain⟨ao,n',cap,rfl⟩:∃ao n' cap,v'=.slice ao n' cap:=by
  rcases hown'.2 with⟨hv,_⟩|⟨g,cap,cur,hv,_⟩
  iterate 2
   ·exact⟨_,_,_,hv⟩
 have hcat:Lib.byteCells bs++Lib.strCells ⟨l.toArray⟩=Lib.byteCells (bs++l):=by simp[Lib.byteCells,Lib.strCells]
 rw[hcat]at hown';have HW:=Hj (WrAt.put (bs:=bs++l) hBb hb2 (by rw[List.length_append];exact hown'));have HF2:=Hj (F2.setCell hBb 1 (.slice ao n' cap));clear hown' hgrow hb2 F2 HO HN hbk hcat c1 HF;go_wp2_with fail
 go_ret2
 exact⟨rfl,.inr HW.out,HF2.out⟩
def Wrt (B b:Nat)(f:FuncId)(xs:Array Value)(l:List UInt8)(w:World):Prop:=∀(bs:List UInt8) (d:Nat),Wr B b bs d w→bs.length+l.length≤140737488355328 →
 Calls Tryz.prog f (#[.pointer (some ⟨b,0,none⟩)]++xs) w fun r w'=>r=.returned (.tuple #[])∧Wr B b (bs++l) d w'∧Fr B b w w'
def OkX (B:Nat)(e:Ex):Prop:=∀(b:Nat) (w:World),e.In B w→En B w→B≤w.heap.size→Wrt B b 50 #[e.h.v] (e.txt prT) w
theorem wEnc_of (B b:Nat)(e:Ex)(ih:OkX B e)(o c:List UInt8)(w:World)(hI:e.In B w)(hE:En B w)(hB:B≤w.heap.size):Wrt B b 85 #[.string ⟨o.toArray⟩,e.h.v,.string ⟨c.toArray⟩] (o++e.txt prT++c) w:=by
 intro bs d hW hl;simp only[List.length_append]at hl;have C1:=Hj fun w h hB=>wString_any B b bs o d w h (by omega) hB;have C2:=Hj fun w hI hE hB h=>ih b w hI hE hB (bs++o) d h (by rw[List.length_append];omega);have C3:=Hj fun w h hB=>wString_d B b (bs++o++e.txt prT) c d w h (by rw[List.length_append,List.length_append];omega) hB;have HI:=Hj hI;have HE:=Hj hE;have HB:=Hj hB;have HW:=Hj hW;have hne:w.heap.size≠b:=by have:=hW.lt;omega
 have HNE:=Hj hne;generalize e.txt prT=T at *;clear hl hI hE hB hW hne ih;show Calls Tryz.prog 85 #[.pointer (some ⟨b,0,none⟩),.string ⟨o.toArray⟩,.agg #[.int .u8 e.h.op,.int .i64 e.h.ps,.bool e.h.bo,.int .i32 e.h.it,.int .u64 e.h.fl,.string ⟨e.h.nm.toArray⟩,.slice e.h.s.ao e.h.s.n e.h.s.c],.string ⟨c.toArray⟩] w _
 go_enter_defers Tryz.func85,Tryz.ntmps85
 go_upto_region 1 with fail;rw[bx_x];go_wp2_with fail;refine(C1.out _ (HW.out.bx _) (Nat.le_trans HB.out (bx_bel (Below.refl _ _) (Nat.le_refl _) _).size)).mono ?_;rintro r w1 ⟨rfl,hw1,hf1⟩;have hx1:=hf1.x (bx_new w (xO e.h)) HNE.out;obtain⟨c0,c1,c2,c3,c4,c5,c6⟩:=x_cells hx1;have W1:=Hj hw1;have F1:=Hj (((Fr.refl b HB.out).bx (xO e.h)).trans hf1);clear hw1 hf1 hx1;go_wp2_with fail;refine(C2.out _ (HI.out.below F1.out.1 (Nat.le_refl _)) (HE.out.below F1.out.1 (Nat.le_refl _)) F1.out.size W1.out).mono ?_;rintro r w2 ⟨rfl,hw2,hf2⟩;have W2:=Hj hw2;have F2:=Hj (F1.out.trans hf2);clear hw2 hf2 c0 c1 c2 c3 c4 c5 c6;go_wp2_with fail;refine leaves_cons (f:=77) (args:=#[.pointer (some ⟨b,0,none⟩),.string ⟨c.toArray⟩]) (by simp) (by simp[go_sem]) ?_;refine(C3.out _ W2.out F2.out.size).mono ?_;rintro r u' w3 ⟨rfl,rfl,hw3,hf3⟩;exact⟨.tuple #[],by simp[results,Tryz.results85,go_sem],rfl,by rw[←List.append_assoc,←List.append_assoc];exact hw3,F2.out.trans hf3⟩
theorem wOpnd_of (B b:Nat)(e:Ex)(ih:OkX B e)(w:World)(hI:e.In B w)(hE:En B w)(hB:B≤w.heap.size):Wrt B b 87 #[e.h.v] (brk e.bin (e.txt prT)) w:=by
 intro bs d hW hl;have FX:=Hj ((Fr.refl b hB).bx (xO e.h));have HW:=Hj (hW.bx (xO e.h));have HI:=Hj (hI.below FX.out.1 (Nat.le_refl _));have HE:=Hj (hE.below FX.out.1 (Nat.le_refl _));have C0:=Hj fun w=>isBin_any e.h.op w;obtain⟨c0,c1,c2,c3,c4,c5,c6⟩:=x_cells (bx_new w (xO e.h));unfold Ex.bin at *
 cases hb:opBin e.h.op with
 | true=>
  rw[hb]at hl C0;have C1:=Hj (wEnc_of B b e ih [40] [41] _ HI.out HE.out FX.out.size bs d HW.out (by simp only[brk,if_true]at hl;simp only[List.length_append,List.length_cons,List.length_nil]at hl ⊢;omega));clear hl hI hE hB hW ih hb;show Calls Tryz.prog 87 #[.pointer (some ⟨b,0,none⟩),.agg #[.int .u8 e.h.op,.int .i64 e.h.ps,.bool e.h.bo,.int .i32 e.h.it,.int .u64 e.h.fl,.string ⟨e.h.nm.toArray⟩,.slice e.h.s.ao e.h.s.n e.h.s.c]] w _;go_enter Tryz.func87,Tryz.ntmps87;go_upto_region 1 with fail;rw[bx_x];go_wp2_with fail;refine(C0.out _).mono ?_;rintro r w1 ⟨rfl,rfl⟩;go_wp2_with fail;refine C1.out.mono ?_;rintro r w2 ⟨rfl,hw2,hf2⟩;have F2:=Hj (FX.out.trans hf2);clear hf2;go_wp2_with fail
  go_end0
  exact⟨rfl,by simpa [brk] using hw2,F2.out⟩
 | false=>
  rw[hb]at hl C0;have C1:=Hj (ih b _ HI.out HE.out FX.out.size bs d HW.out (by simpa [brk] using hl));clear hl hI hE hB hW ih hb;show Calls Tryz.prog 87 #[.pointer (some ⟨b,0,none⟩),.agg #[.int .u8 e.h.op,.int .i64 e.h.ps,.bool e.h.bo,.int .i32 e.h.it,.int .u64 e.h.fl,.string ⟨e.h.nm.toArray⟩,.slice e.h.s.ao e.h.s.n e.h.s.c]] w _;go_enter Tryz.func87,Tryz.ntmps87;go_upto_region 1 with fail;rw[bx_x];go_wp2_with fail;refine(C0.out _).mono ?_;rintro r w1 ⟨rfl,rfl⟩;go_wp2_with fail;refine C1.out.mono ?_;rintro r w2 ⟨rfl,hw2,hf2⟩;have F2:=Hj (FX.out.trans hf2);clear hf2;go_wp2_with fail
  go_end0
  exact⟨rfl,by simpa [brk] using hw2,F2.out⟩
theorem wPlc_of (B b:Nat)(nm:List UInt8)(s:Sl)(k:Nat→Ex)(ih:0<s.n→OkX B (k 0))(w:World)(hX:XsIn B w s k)(hE:En B w)(hB:B≤w.heap.size) :
  Wrt B b 84 #[.string ⟨nm.toArray⟩,.slice s.ao s.n s.c] (nameT nm s.n (if 0<s.n then(k 0).txt prT else[])) w:=by
 intro bs d hW hl;have HE:=Hj hE;have HB:=Hj hB;have HX:=Hj hX;have hmx:s.n≤maxLen:=Nat.le_trans hX.1.1 hX.1.2.1;obtain⟨ao,n,c⟩:=s;dsimp only at *;have C1:=Hj (wString_any B b bs nm d w hW (by simp only[nameT,List.length_append]at hl;omega) hB)
 by_cases hn:0<n
 ·have z0:(0:Int)<(n:Int):=by omega
  simp only[nameT,if_pos hn]at hl ⊢;have C2:=Hj fun w hI hE hB hW=>wEnc_of B b (k 0) (ih hn) [91] [93] w hI hE hB (bs++nm) d hW (by simp only[List.length_append,List.length_cons,List.length_nil]at hl ⊢;omega);have HN:=Hj hn;generalize (k 0).txt prT=T at *;clear hE hB hX hW hl ih hn;show Calls Tryz.prog 84 #[.pointer (some ⟨b,0,none⟩),.string ⟨nm.toArray⟩,.slice ao n c] w _;go_enter Tryz.func84,Tryz.ntmps84;go_wp2_with fail;refine C1.out.mono ?_;rintro r w1 ⟨rfl,hw1,hf1⟩;have W1:=Hj hw1;have F1:=Hj hf1;obtain⟨a,b1,o,rfl,hA,hb,X,I⟩:=XsIn.at (HX.out.below F1.out.1 (Nat.le_refl _)) (i:=0) HN.out;rw[Nat.zero_mul]at hA;have c0:=X.c0;have c1:=X.c1;have c2:=X.c2;have c3:=X.c3;have c4:=X.c4;have c5:=X.c5;have c6:=X.c6;have II:=Hj I;clear hw1 hf1 X hb I C1;go_wp2_with fail;refine(C2.out _ II.out (HE.out.below F1.out.1 (Nat.le_refl _)) F1.out.size W1.out).mono ?_;rintro r w2 ⟨rfl,hw2,hf2⟩;have F2:=Hj (F1.out.trans hf2);clear hf2;go_wp2_with fail
  go_end0
  exact⟨rfl,by simpa using hw2,F2.out⟩
 ·obtain rfl:n=0:=by omega
  simp only[nameT,Nat.lt_irrefl,if_false,List.append_nil]at hl ⊢;clear hE hB hX hW hl ih hn;show Calls Tryz.prog 84 #[.pointer (some ⟨b,0,none⟩),.string ⟨nm.toArray⟩,.slice ao 0 c] w _;go_enter Tryz.func84,Tryz.ntmps84;go_wp2_with fail;refine C1.out.mono ?_;rintro r w1 ⟨rfl,hw1,hf1⟩;go_wp2_with fail
  go_end0
  exact⟨rfl,hw1,hf1⟩
end Go.Proofs.YthmlhkllbichgaaGreatDoor
