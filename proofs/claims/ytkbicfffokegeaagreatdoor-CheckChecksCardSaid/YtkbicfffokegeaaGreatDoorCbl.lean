/-
  Whatever program is handed in, CheckChecks answers true. (part 38 of 38) Conditions: none beside what the card ties.
-/
import Derived.Test.YtkbicfffokegeaaGreatDoorCbk
import Derived.Test.YtkbicfffokegeaaGreatDoorTie
import Derived.Test.YtkbicfffokegeaaGreatDoorCards
namespace Go.Proofs.YtkbicfffokegeaaGreatDoor
set_option maxHeartbeats 16000000
open Go.ChangeShapes Go.WideShapes Go.ChangeAt Go.RowKit
set_option linter.unusedVariables false
set_option maxRecDepth 100000 in
theorem pJ (os:Os)(started:os.Started)(H:Type)(enc:TypeId×Value→H) :
  ReturnsInHanded {} Tryz.checked os 3 .any (fun w args=>(Rows.checkChecksSpec.pre enc Tryz.prog Tryz.f3 [] false w args∧laidMetH Tryz.prog gO w)∧sizedMet enc Tryz.prog Tryz.f3 (OpenSpec.ofChange Rows.checkChecksSpec) false w args)
   (Rows.checkChecksSpec.post enc Tryz.prog Tryz.f3 false true false false):=by
 refine aMT started (by kernel_rfl) Tryz.func3
  (ChangeSpec.witness_shaped (enc:=enc) (C:=Tryz.checked) (os:=os) (X:=fun w _=>laidMetH Tryz.prog gO w) false (World.laidAll Tryz.prog os gO) #[.agg #[.int .i64 0,.slice none 0 0,.slice none 0 0,.slice none 0 0]] 8 (World.laidAll_os _ _ _) (World.shaped_of_ZipB (by kernel_rfl) (by kernel_rfl)) (by kernel_rfl) (by kernel_rfl) (by kernel_rfl) (aFw os _)) ?_
 intro W base args ds gs before hval0 hW hE;have hval:∀(j:Nat) t v,Tryz.f3.params[j]? = some t→args[j]? = some v→Value.okWide Tryz.prog W .any base t v:=hval0;have hW':=hW;obtain⟨p,q,hA0,hV,rfl,hfz,hnd⟩:=hW;have hA:DataW.TrodAll enc Tryz.prog W 0 (fun _=>true) true Tryz.f3.params.toList args.toList ds p:=hA0;rw[Tryz.params3]at hA hval;obtain⟨v0,vs0,d0,ds0,p0,q0,hargs,rfl,rfl,h0,r0⟩:=trodAll_cons hA;obtain⟨rfl,rfl,rfl⟩:=trodAll_nil r0;obtain rfl:args=#[v0]:=by cases args;simp_all
 obtain⟨rfl,rfl⟩:=trodVars_none hV;have k0:=h0;have lt0:∀x∈p0,x.block<W.heap.size:=by obtain⟨m,hm⟩:=k0;exact DataW.trod_lt m _ _ _ hm
 obtain⟨P0,rfl,hP0⟩:=aFq (hval 0 25 v0 rfl rfl) h0;clear hA0 hval0;refine(aAw P0 W hP0 hE).mono fun e W' ⟨he,bel⟩=>?_;subst he;exact⟨_,rfl,_,_,_,[],_,[],hW',trodAll_mk1 (shut_bool Tryz.underlying4 _),(trodAll_cons_mk (Below.trod aJV (by kernel_rfl) (of_decide_eq_true (by kernel_rfl)) k0 bel lt0) trodAll_mk0),rfl,bel.frame _,fun h=>by cases h⟩
theorem xH:(Rows.checkChecksRow.inPlace == Tryz.prog.inPlace 3)=true:=by kernel_rfl
theorem xG:(Rows.checkChecksRow.unfollowed == Tryz.prog.unfollowed 3)=true:=by kernel_rfl
theorem xF:(Rows.checkChecksRow.recurses == Tryz.prog.recurses 3)=true:=by kernel_rfl
theorem xE:(Rows.checkChecksRow.named == Tryz.prog.varsNamed 3)=true:=by kernel_rfl
theorem pK:joinedFacts Tryz.prog 3 Tryz.f3 Rows.checkChecksSpec Rows.checkChecksRow=true:=by
 unfold joinedFacts;rw[xH,xG,xF,xE]
 kernel_rfl
theorem sU:Rows.CheckChecksSaid:=
 OpenClaim.holds_of_wide 3 Tryz.f3 rfl rfl rfl rfl rfl rfl rfl ⟨rfl,rfl,rfl,rfl,rfl⟩ rfl rfl rfl rfl rfl (by kernel_rfl) Tryz.func3 pK
  (of_decide_eq_true (by kernel_rfl)) (by unfold Func.isWrapper;first|(rw[if_pos (by decide +kernel)];kernel_rfl)|(rw[if_neg (by decide +kernel)];exact⟨rfl,rfl⟩))
  (fun os started H enc _=>pJ os started H enc)
theorem checkChecks_holds:Rows.CheckChecksCardSaid:=
 Claim7.holds_tied_plain_at .later [] [.data,.data,.data,.data,.sentinel,.sentinel,.listed,.data,.pinned] true Rows.checkChecksCard.stood.harness true
  sU (fun _ h=>by cases h) (by kernel_rfl) (fun _ h=>by cases h) checkChecks_row_tie rfl ⟨rfl,rfl⟩ (by kernel_rfl) rfl
  (fun f fn hf hfn=>by
   obtain rfl:f=3:=Option.some.inj ((show Tryz.prog.funcNamed "flyball/flyballlaw12.CheckChecks" = some 3 by kernel_rfl).symm.trans hf) |>.symm;obtain rfl:fn=Tryz.f3:=(Option.some.inj (Tryz.func3.symm.trans hfn)).symm
   exact⟨by kernel_rfl,fun j t ht=>by
    rw[Tryz.params3]at ht;have hm:t∈[25]:=by simpa using Array.mem_of_getElem? ht
    have hall:([25].all fun u=>!Tryz.prog.wantsStandIn u)=true:=by kernel_rfl
    exact(show Tryz.prog.wantsStandIn t=false by simpa using List.all_eq_true.1 hall t hm)⟩)
  (by kernel_rfl)
#print axioms checkChecks_holds
end Go.Proofs.YtkbicfffokegeaaGreatDoor
