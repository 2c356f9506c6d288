/-
  ParseExprs holds, tied to the program's text. (part 29 of 36) Conditions: none beside what the card ties.
-/
import Derived.Test.YthmlhkllbichgaaGreatDoorQbb
import Derived.Test.YthmlhkllbichgaaGreatDoorQab
namespace Go.Proofs.YthmlhkllbichgaaGreatDoor
open Go.RowKit
set_option maxRecDepth 100000
def Rs.er {α : Type} : Rs α → Int
 | .ok _ _ => 0
 | .no c _ => c
def Rs.pl {α : Type} : Rs α → Int
 | .ok _ _ => 0
 | .no _ p => p
def Rs.va {α : Type} (z : α) : Rs α → α
 | .ok a _ => a
 | .no _ _ => z
def rsP (l : List UInt8) : Rs Pr := if (lexV l).2.1 = 0 then prog ⟨(lexV l).1, 0, 0⟩ else .no (lexV l).2.1 ((lexV l).2.2 : Nat)
def rsX (l : List UInt8) : Rs Ex := if (lexV l).2.1 = 0 then oneX 24 ⟨(lexV l).1, 0, 0⟩ else .no (lexV l).2.1 ((lexV l).2.2 : Nat)
def noPr : Pr := ⟨0, ⟨none, 0, 0⟩, fun _ => zeroD, ⟨none, 0, 0⟩, fun _ => .no, ⟨none, 0, 0⟩, fun _ => .no⟩
theorem noPr_v (L : Nat) (w : World) : VP L noPr (prv 0 ⟨none, 0, 0⟩ ⟨none, 0, 0⟩ ⟨none, 0, 0⟩) w :=
 ⟨noPr, rfl, ⟨⟨by decide, by decide⟩, ⟨sl_no, (fun a ha => by cases ha), fun i hi => absurd hi (Nat.not_lt_zero i)⟩, xb_no, xb_no⟩,
  rfl, ⟨rfl, fun i hi => absurd hi (Nat.not_lt_zero i)⟩, ⟨rfl, fun i hi => absurd hi (Nat.not_lt_zero i)⟩, ⟨rfl, fun i hi => absurd hi (Nat.not_lt_zero i)⟩⟩
theorem XPr.fx {X D : Nat → Prop} {p : Pr} {w w' : World} (h : XPr D p w) (hf : Fx X w.heap.size w w') (hX : ∀ k, X k → ¬ D k) : XPr D p w' :=
 ⟨h.1, DsIn.stay h.2.1 (stay_fx hf hX) hf.size, SsIn.stay h.2.2.1 (stay_fx hf hX) hf.size, SsIn.stay h.2.2.2 (stay_fx hf hX) hf.size⟩
theorem XPr.imp {D D' : Nat → Prop} {p : Pr} {w : World} (h : XPr D p w) (hD : ∀ k, k < w.heap.size → D k → D' k) : XPr D' p w :=
 ⟨h.1, DsIn.stay h.2.1 (stay_imp hD w) (Nat.le_refl _), SsIn.stay h.2.2.1 (stay_imp hD w) (Nat.le_refl _), SsIn.stay h.2.2.2 (stay_imp hD w) (Nat.le_refl _)⟩
theorem XPr.bel {D : Nat → Prop} {p : Pr} {w w' : World} (h : XPr D p w) (hb : Below w.heap.size w w') : XPr D p w' := h.fx (X := fun _ => False) (Fx.of hb) (fun _ x => x.elim)
def Th3 (a b c : Nat) : Nat → Prop := fun k => k = a ∨ k = b ∨ k = c
theorem fx_bel_of {X : Nat → Prop} {a b c : World} (h : Below a.heap.size a b) (f : Fx X b.heap.size b c) (hX : ∀ k, k < a.heap.size → ¬ X k) : Below a.heap.size a c :=
 h.trans ((f.mono (Y := X) h.size (fun _ _ x => x)).bel hX)
theorem st_prW {ops : Array Oper} {rest : List Oper} {o : Oper} {a : Act} {w : World} {Q : Exit → Act → World → Prop} (t : Int) (d i s : Sl) (g : Nat) {old : Array Value} (hg : Blk w g 30 old) (hgd : o.guard = none) (x y : Operand) (ho : o.op = .store 30 x y) (hx : a.eval x = .pointer (some ⟨g, 0, none⟩)) (hy : a.eval y = prv t d i s) (hold : old.size = 4)
  (hw : ∀ w', Hid (Blk w' g 30 (prvs t d i s).toArray) → Hid (Wr1 g w w') → wpList Tryz.prog ops Q rest (a.put o.dst undef) w') : wpList Tryz.prog ops Q (o :: rest) a w :=
 st_pr t d i s g old hg hold hgd x y ho hx hy (hw _ (hg.rowS _) (wr1_row w g _))
def PTop {α : Type} (w : World) (r : Rs α) (z : α) (V : α → Value → World → Prop) (e : Ending) (w' : World) : Prop :=
 ∃ v, e = .returned (.tuple #[v, .int .i64 r.er, .int .i64 r.pl]) ∧ V (r.va z) v w' ∧ Below w.heap.size w w'
set_option maxHeartbeats 3200000 in
theorem ppParse_any (s : ByteArray) (w : World) (hE : Env9 w) : Calls Tryz.prog 9 #[.string s] w (PTop w (rsP s.data.toList) noPr (VP w.heap.size)) := by
 have hmf : ∀ (fn : Fn) (first cap : Array Value) (w : World), (Instr.makeFunc fn first cap).run Tryz.prog w = .ok (.func fn first cap) w := fun _ _ _ _ => rfl
 have BL : Below w.heap.size w (((w.alloc zPr).alloc (.cells #[.int .i64 0] 24)).alloc (.cells #[.int .i64 0] 3)) := bel_alloc (bel_alloc (bel_one w _) _) _
 have k0 : Blk (((w.alloc zPr).alloc (.cells #[.int .i64 0] 24)).alloc (.cells #[.int .i64 0] 3)) w.heap.size 30 (prvs 0 ⟨none, 0, 0⟩ ⟨none, 0, 0⟩ ⟨none, 0, 0⟩).toArray := ((Blk.new w _ _).alloc _).alloc _
 have k1 : Blk (((w.alloc zPr).alloc (.cells #[.int .i64 0] 24)).alloc (.cells #[.int .i64 0] 3)) (w.heap.size + 1) 24 #[.int .i64 0] := by
  have := (Blk.new (w.alloc zPr) 24 #[.int .i64 0]).alloc (.cells #[.int .i64 0] 3)
  rw [World.size_alloc] at this
  exact this
 have k2 : Blk (((w.alloc zPr).alloc (.cells #[.int .i64 0] 24)).alloc (.cells #[.int .i64 0] 3)) (w.heap.size + 1 + 1) 3 #[.int .i64 0] := by
  have := Blk.new ((w.alloc zPr).alloc (.cells #[.int .i64 0] 24)) 3 #[.int .i64 0]
  rw [World.size_alloc, World.size_alloc] at this
  exact this
 have HBL := Hj BL
 have HN := Hj (ppnewReader_any s _ (hE.below BL))
 have B0 := Hj k0
 have B1 := Hj k1
 have B2 := Hj k2
 have HNE : Hid (w.heap.size ≠ w.heap.size + 1 ∧ w.heap.size ≠ w.heap.size + 1 + 1 ∧ w.heap.size + 1 ≠ w.heap.size + 1 + 1) := (by show _ ∧ _ ∧ _; omega)
 have HLE : Hid (w.heap.size ≤ w.heap.size + 1 ∧ w.heap.size ≤ w.heap.size + 1 + 1) := (by show _ ∧ _; omega)
 have HRS : Hid (rsP s.data.toList = if (lexV s.data.toList).2.1 = 0 then prog ⟨(lexV s.data.toList).1, 0, 0⟩ else .no (lexV s.data.toList).2.1 ((lexV s.data.toList).2.2 : Nat)) := rfl
 clear BL k0 k1 k2 hE
 generalize rsP s.data.toList = Z at *
 generalize lexV s.data.toList = L at *
 go_enter_defers Tryz.func9, Tryz.ntmps9
 go_upto_region 2 with fail
 change (Code.region 2 _ _).wp _ _ _ (((w.alloc zPr).alloc (.cells #[.int .i64 0] 24)).alloc (.cells #[.int .i64 0] 3))
 generalize ((w.alloc zPr).alloc (.cells #[.int .i64 0] 24)).alloc (.cells #[.int .i64 0] 3) = w0 at *
 generalize w.heap.size + 1 + 1 = b2 at *
 generalize w.heap.size + 1 = b1 at *
 go_wp2_with fail
 refine HN.out.mono ?_
 intro e w1 hpn
 unfold PN at hpn
 clear HN
 by_cases c : L.2.1 = 0
 ·rw [if_pos c] at hpn
  obtain ⟨R, rfl, hR, rd, hb⟩ := hpn
  have B0_1 := Hj (B0.out.below hb B0.out.lt)
  have B1_1 := Hj (B1.out.below hb B1.out.lt)
  have B2_1 := Hj (B2.out.below hb B2.out.lt)
  have HB1 := Hj (bel_trans HBL.out hb)
  have HR0 : Hid (w.heap.size ≠ R ∧ b1 ≠ R ∧ b2 ≠ R ∧ w.heap.size ≤ R) := (by show _ ∧ _ ∧ _ ∧ _; have := B0.out.lt; have := B1.out.lt; have := B2.out.lt; omega)
  have HZ : Hid (Z = prog ⟨L.1, 0, 0⟩) := by show Z = _; rw [HRS.out, if_pos c]
  have HRD := Hj rd
  clear hb c HRS HBL B0 B1 B2 rd hR
  go_wp2_with fail
  refine (ppprogram_any R _ w1 HRD.out).mono ?_
  intro e w2 hpo
  cases hres : prog ⟨L.1, 0, 0⟩ with
  | no c q =>
   rw [hres] at hpo
   obtain ⟨rfl, f⟩ := hpo
   have E : Hid (Z = .no c q) := by show Z = _; rw [HZ.out, hres]
   have B0_2 := Hj (f.blk B0_1.out B0_1.out.lt HR0.out.1)
   have B1_2 := Hj (f.blk B1_1.out B1_1.out.lt HR0.out.2.1)
   have B2_2 := Hj (f.blk B2_1.out B2_1.out.lt HR0.out.2.2.1)
   have HB2 := Hj (fx_bel_of HB1.out f (fun k hk (x : k = R) => by have := HR0.out.2.2.2; omega))
   clear f hres HZ HRD B0_1 B1_1 B2_1 HB1
   go_wp2_with fail
   refine leaves_cons (f := 27) (args := #[.pointer (some ⟨b1, 0, none⟩), .pointer (some ⟨b2, 0, none⟩)]) (by simp) (by simp [go_sem]) ?_
   refine (pc_panicking b1 b2 0 0 c q [] w2 B1_2.out B2_2.out HNE.out.2.2).mono ?_
   rintro e u' w3 ⟨rfl, rfl, k1, k2, f3⟩
   refine ⟨_, results_row3 rfl _ w3 w.heap.size 30 (prvs 0 ⟨none, 0, 0⟩ ⟨none, 0, 0⟩ ⟨none, 0, 0⟩).toArray _ b1 b2 _ _ rfl rfl rfl (f3.blk B0_2.out B0_2.out.lt (fun x => x.elim HNE.out.1 HNE.out.2.1)) Tryz.underlying30 rfl (by kernel_rfl) (ld_err k1) (ld_int k2), ?_⟩
   rw [E.out]
   exact ⟨_, rfl, noPr_v _ _, fx_bel_of HB2.out f3 (fun k hk x => by have := HLE.out; rcases x with x | x <;> omega)⟩
  | ok p s2 =>
   rw [hres] at hpo
   obtain ⟨v, rfl, ⟨p', rfl, xp, ep⟩, h2, f⟩ := hpo
   have E : Hid (Z = .ok p s2) := by show Z = _; rw [HZ.out, hres]
   have B0_2 := Hj (f.blk B0_1.out B0_1.out.lt HR0.out.1)
   have B1_2 := Hj (f.blk B1_1.out B1_1.out.lt HR0.out.2.1)
   have B2_2 := Hj (f.blk B2_1.out B2_1.out.lt HR0.out.2.2.1)
   have HB2 := Hj (fx_bel_of HB1.out f (fun k hk (x : k = R) => by have := HR0.out.2.2.2; omega))
   have XP := Hj xp
   have EP := Hj ep
   have L1 : Hid (b1 < w1.heap.size ∧ b2 < w1.heap.size ∧ w.heap.size < w1.heap.size) := ⟨B1_1.out.lt, B2_1.out.lt, B0_1.out.lt⟩
   clear f h2 xp ep hres HZ HRD B0_1 B1_1 B2_1 HB1
   have ne12 := HNE.out.2.2
   have ne21 := Ne.symm HNE.out.2.2
   unfold Pr.v
   go_wp2_with (refine st_prW p'.ticks p'.ds p'.is p'.ss w.heap.size B0_2.out rfl _ _ rfl rfl rfl rfl ?_; intro w3 B0_3 WR; have B1_3 := Hj (WR.out.blk B1_2.out (Ne.symm HNE.out.1)); have B2_3 := Hj (WR.out.blk B2_2.out (Ne.symm HNE.out.2.1)); have m1 := B1_3.out.cell 0; have m2 := B2_3.out.cell 0; have z1 := B1_3.out.frozen 0; have z2 := B2_3.out.frozen 0)
   have F4 := fx_set (fx_set (WR.out.1.mono (Y := Th3 w.heap.size b1 b2) (Nat.le_refl _) (fun k _ x => .inl x)) (p := ⟨b1, 0, none⟩) (.inl (.inr (.inl rfl))) (.int .i64 0)) (p := ⟨b2, 0, none⟩) (.inl (.inr (.inr rfl))) (.int .i64 0)
   have e1 : Blk ((w3.setCell ⟨b1, 0, none⟩ (.int .i64 0)).setCell ⟨b2, 0, none⟩ (.int .i64 0)) b1 24 #[.int .i64 0] := (B1_3.out.set_ 0 (.int .i64 0)).far (p := ⟨b2, 0, none⟩) ne12 _
   have e2 : Blk ((w3.setCell ⟨b1, 0, none⟩ (.int .i64 0)).setCell ⟨b2, 0, none⟩ (.int .i64 0)) b2 3 #[.int .i64 0] := (B2_3.out.far (p := ⟨b1, 0, none⟩) ne21 (.int .i64 0)).set_ 0 (.int .i64 0)
   have e0 : Blk ((w3.setCell ⟨b1, 0, none⟩ (.int .i64 0)).setCell ⟨b2, 0, none⟩ (.int .i64 0)) w.heap.size 30 _ := (B0_3.out.far (p := ⟨b1, 0, none⟩) HNE.out.1 (.int .i64 0)).far (p := ⟨b2, 0, none⟩) HNE.out.2.1 (.int .i64 0)
   clear m1 m2 z1 z2 WR B0_2 B1_2 B2_2 B0_3 B1_3 B2_3
   generalize (w3.setCell ⟨b1, 0, none⟩ (.int .i64 0)).setCell ⟨b2, 0, none⟩ (.int .i64 0) = w4 at *
   refine leaves_cons (f := 27) (args := #[.pointer (some ⟨b1, 0, none⟩), .pointer (some ⟨b2, 0, none⟩)]) (by simp) (by simp [go_sem]) ?_
   refine (pc_idle b1 b2 w4).mono ?_
   rintro e u' w5 ⟨rfl, rfl, h5⟩
   refine ⟨_, results_row3 rfl _ w5 w.heap.size 30 (prvs p'.ticks p'.ds p'.is p'.ss).toArray _ b1 b2 _ _ rfl rfl rfl (e0.below h5 e0.lt) Tryz.underlying30 rfl (by kernel_rfl) (ld_err (e1.below h5 e1.lt)) (ld_int (e2.below h5 e2.lt)), ?_⟩
   rw [E.out]
   have hX : ∀ k, Th3 w.heap.size b1 b2 k → ¬ Fro w1.heap.size k := fun k x (y : w1.heap.size ≤ k) => by have := L1.out; rcases x with x | x | x <;> omega
   exact ⟨_, rfl, ⟨p', rfl, ((XP.out.fx F4 hX).bel h5).imp (fun k _ (x : w1.heap.size ≤ k) => Nat.le_trans (Nat.le_of_lt L1.out.2.2) x), EP.out⟩, bel_trans (fx_bel_of HB2.out F4 (fun k hk x => by have := HLE.out; rcases x with x | x | x <;> omega)) h5⟩
 ·rw [if_neg c] at hpn
  obtain ⟨rfl, hb⟩ := hpn
  have B0_2 := Hj (B0.out.below hb B0.out.lt)
  have B1_2 := Hj (B1.out.below hb B1.out.lt)
  have B2_2 := Hj (B2.out.below hb B2.out.lt)
  have HB2 := Hj (bel_trans HBL.out hb)
  have E : Hid (Z = .no L.2.1 (L.2.2 : Nat)) := by show Z = _; rw [HRS.out, if_neg c]
  clear hb c HRS HBL B0 B1 B2
  go_wp2_with fail
  refine leaves_cons (f := 27) (args := #[.pointer (some ⟨b1, 0, none⟩), .pointer (some ⟨b2, 0, none⟩)]) (by simp) (by simp [go_sem]) ?_
  refine (pc_panicking b1 b2 0 0 _ _ [] w1 B1_2.out B2_2.out HNE.out.2.2).mono ?_
  rintro e u' w3 ⟨rfl, rfl, k1, k2, f3⟩
  refine ⟨_, results_row3 rfl _ w3 w.heap.size 30 (prvs 0 ⟨none, 0, 0⟩ ⟨none, 0, 0⟩ ⟨none, 0, 0⟩).toArray _ b1 b2 _ _ rfl rfl rfl (f3.blk B0_2.out B0_2.out.lt (fun x => x.elim HNE.out.1 HNE.out.2.1)) Tryz.underlying30 rfl (by kernel_rfl) (ld_err k1) (ld_int k2), ?_⟩
  rw [E.out]
  exact ⟨_, rfl, noPr_v _ _, fx_bel_of HB2.out f3 (fun k hk x => by have := HLE.out; rcases x with x | x <;> omega)⟩
theorem noEx_v (L : Nat) (w : World) : VX L .no zeroH.v w := ⟨.no, rfl, trivial, Ex.eqv_refl _⟩
theorem st_exW {ops : Array Oper} {rest : List Oper} {o : Oper} {a : Act} {w : World} {Q : Exit → Act → World → Prop} (e : EH) (g : Nat) {old : Array Value} (hg : Blk w g 41 old) (hgd : o.guard = none) (x y : Operand) (ho : o.op = .store 41 x y) (hx : a.eval x = .pointer (some ⟨g, 0, none⟩)) (hy : a.eval y = e.v) (hold : old.size = 7)
  (hw : ∀ w', Hid (Blk w' g 41 e.va) → Hid (Wr1 g w w') → wpList Tryz.prog ops Q rest (a.put o.dst undef) w') : wpList Tryz.prog ops Q (o :: rest) a w :=
 st_ex e g old hg hold hgd x y ho hx hy (hw _ (hg.rowS _) (wr1_row w g _))
set_option maxHeartbeats 3200000 in
theorem ppExpr_top (s : ByteArray) (w : World) (hE : Env9 w) : Calls Tryz.prog 13 #[.string s] w (PTop w (rsX s.data.toList) Ex.no (VX w.heap.size)) := by
 have hmf : ∀ (fn : Fn) (first cap : Array Value) (w : World), (Instr.makeFunc fn first cap).run Tryz.prog w = .ok (.func fn first cap) w := fun _ _ _ _ => rfl
 have BL : Below w.heap.size w (((w.alloc zX).alloc (.cells #[.int .i64 0] 24)).alloc (.cells #[.int .i64 0] 3)) := bel_alloc (bel_alloc (bel_one w _) _) _
 have k0 : Blk (((w.alloc zX).alloc (.cells #[.int .i64 0] 24)).alloc (.cells #[.int .i64 0] 3)) w.heap.size 41 zeroH.va := ((Blk.new w _ _).alloc _).alloc _
 have k1 : Blk (((w.alloc zX).alloc (.cells #[.int .i64 0] 24)).alloc (.cells #[.int .i64 0] 3)) (w.heap.size + 1) 24 #[.int .i64 0] := by
  have := (Blk.new (w.alloc zX) 24 #[.int .i64 0]).alloc (.cells #[.int .i64 0] 3)
  rw [World.size_alloc] at this
  exact this
 have k2 : Blk (((w.alloc zX).alloc (.cells #[.int .i64 0] 24)).alloc (.cells #[.int .i64 0] 3)) (w.heap.size + 1 + 1) 3 #[.int .i64 0] := by
  have := Blk.new ((w.alloc zX).alloc (.cells #[.int .i64 0] 24)) 3 #[.int .i64 0]
  rw [World.size_alloc, World.size_alloc] at this
  exact this
 have HBL := Hj BL
 have HN := Hj (ppnewReader_any s _ (hE.below BL))
 have B0 := Hj k0
 have B1 := Hj k1
 have B2 := Hj k2
 have HNE : Hid (w.heap.size ≠ w.heap.size + 1 ∧ w.heap.size ≠ w.heap.size + 1 + 1 ∧ w.heap.size + 1 ≠ w.heap.size + 1 + 1) := (by show _ ∧ _ ∧ _; omega)
 have HLE : Hid (w.heap.size ≤ w.heap.size + 1 ∧ w.heap.size ≤ w.heap.size + 1 + 1) := (by show _ ∧ _; omega)
 have HRS : Hid (rsX s.data.toList = if (lexV s.data.toList).2.1 = 0 then oneX 24 ⟨(lexV s.data.toList).1, 0, 0⟩ else .no (lexV s.data.toList).2.1 ((lexV s.data.toList).2.2 : Nat)) := rfl
 clear BL k0 k1 k2 hE
 generalize rsX s.data.toList = Z at *
 generalize lexV s.data.toList = L at *
 go_enter_defers Tryz.func13, Tryz.ntmps13
 go_upto_region 2 with fail
 change (Code.region 2 _ _).wp _ _ _ (((w.alloc zX).alloc (.cells #[.int .i64 0] 24)).alloc (.cells #[.int .i64 0] 3))
 generalize ((w.alloc zX).alloc (.cells #[.int .i64 0] 24)).alloc (.cells #[.int .i64 0] 3) = w0 at *
 generalize w.heap.size + 1 + 1 = b2 at *
 generalize w.heap.size + 1 = b1 at *
 go_wp2_with fail
 refine HN.out.mono ?_
 intro e w1 hpn
 unfold PN at hpn
 clear HN
 by_cases c : L.2.1 = 0
 ·rw [if_pos c] at hpn
  obtain ⟨R, rfl, hR, rd, hb⟩ := hpn
  have B0_1 := Hj (B0.out.below hb B0.out.lt)
  have B1_1 := Hj (B1.out.below hb B1.out.lt)
  have B2_1 := Hj (B2.out.below hb B2.out.lt)
  have HB1 := Hj (bel_trans HBL.out hb)
  have HR0 : Hid (w.heap.size ≠ R ∧ b1 ≠ R ∧ b2 ≠ R ∧ w.heap.size ≤ R) := (by show _ ∧ _ ∧ _ ∧ _; have := B0.out.lt; have := B1.out.lt; have := B2.out.lt; omega)
  have HZ : Hid (Z = oneX 24 ⟨L.1, 0, 0⟩) := by show Z = _; rw [HRS.out, if_pos c]
  have HRD := Hj rd
  clear hb c HRS HBL B0 B1 B2 rd hR
  go_wp2_with fail
  refine (ppsingle_any R _ w1 HRD.out).mono ?_
  intro e w2 hpo
  cases hres : oneX 24 ⟨L.1, 0, 0⟩ with
  | no c q =>
   rw [hres] at hpo
   obtain ⟨rfl, f⟩ := hpo
   have E : Hid (Z = .no c q) := by show Z = _; rw [HZ.out, hres]
   have B0_2 := Hj (f.blk B0_1.out B0_1.out.lt HR0.out.1)
   have B1_2 := Hj (f.blk B1_1.out B1_1.out.lt HR0.out.2.1)
   have B2_2 := Hj (f.blk B2_1.out B2_1.out.lt HR0.out.2.2.1)
   have HB2 := Hj (fx_bel_of HB1.out f (fun k hk (x : k = R) => by have := HR0.out.2.2.2; omega))
   clear f hres HZ HRD B0_1 B1_1 B2_1 HB1
   go_wp2_with fail
   refine leaves_cons (f := 39) (args := #[.pointer (some ⟨b1, 0, none⟩), .pointer (some ⟨b2, 0, none⟩)]) (by simp) (by simp [go_sem]) ?_
   refine (px_panicking b1 b2 0 0 c q [] w2 B1_2.out B2_2.out HNE.out.2.2).mono ?_
   rintro e u' w3 ⟨rfl, rfl, k1, k2, f3⟩
   refine ⟨_, results_row3 rfl _ w3 w.heap.size 41 zeroH.va _ b1 b2 _ _ rfl rfl rfl (f3.blk B0_2.out B0_2.out.lt (fun x => x.elim HNE.out.1 HNE.out.2.1)) Tryz.underlying41 rfl (by kernel_rfl) (ld_err k1) (ld_int k2), ?_⟩
   rw [E.out]
   exact ⟨_, rfl, noEx_v _ _, fx_bel_of HB2.out f3 (fun k hk x => by have := HLE.out; rcases x with x | x <;> omega)⟩
  | ok p s2 =>
   rw [hres] at hpo
   obtain ⟨v, rfl, ⟨p', rfl, xp, ep⟩, h2, f⟩ := hpo
   have E : Hid (Z = .ok p s2) := by show Z = _; rw [HZ.out, hres]
   have B0_2 := Hj (f.blk B0_1.out B0_1.out.lt HR0.out.1)
   have B1_2 := Hj (f.blk B1_1.out B1_1.out.lt HR0.out.2.1)
   have B2_2 := Hj (f.blk B2_1.out B2_1.out.lt HR0.out.2.2.1)
   have HB2 := Hj (fx_bel_of HB1.out f (fun k hk (x : k = R) => by have := HR0.out.2.2.2; omega))
   have XP := Hj xp
   have EP := Hj ep
   have L1 : Hid (b1 < w1.heap.size ∧ b2 < w1.heap.size ∧ w.heap.size < w1.heap.size) := ⟨B1_1.out.lt, B2_1.out.lt, B0_1.out.lt⟩
   clear f h2 xp ep hres HZ HRD B0_1 B1_1 B2_1 HB1
   have ne12 := HNE.out.2.2
   have ne21 := Ne.symm HNE.out.2.2
   unfold EH.v
   go_wp2_with (refine st_exW p'.h w.heap.size B0_2.out rfl _ _ rfl rfl rfl rfl ?_; intro w3 B0_3 WR; have B1_3 := Hj (WR.out.blk B1_2.out (Ne.symm HNE.out.1)); have B2_3 := Hj (WR.out.blk B2_2.out (Ne.symm HNE.out.2.1)); have m1 := B1_3.out.cell 0; have m2 := B2_3.out.cell 0; have z1 := B1_3.out.frozen 0; have z2 := B2_3.out.frozen 0)
   have F4 := fx_set (fx_set (WR.out.1.mono (Y := Th3 w.heap.size b1 b2) (Nat.le_refl _) (fun k _ x => .inl x)) (p := ⟨b1, 0, none⟩) (.inl (.inr (.inl rfl))) (.int .i64 0)) (p := ⟨b2, 0, none⟩) (.inl (.inr (.inr rfl))) (.int .i64 0)
   have e1 : Blk ((w3.setCell ⟨b1, 0, none⟩ (.int .i64 0)).setCell ⟨b2, 0, none⟩ (.int .i64 0)) b1 24 #[.int .i64 0] := (B1_3.out.set_ 0 (.int .i64 0)).far (p := ⟨b2, 0, none⟩) ne12 _
   have e2 : Blk ((w3.setCell ⟨b1, 0, none⟩ (.int .i64 0)).setCell ⟨b2, 0, none⟩ (.int .i64 0)) b2 3 #[.int .i64 0] := (B2_3.out.far (p := ⟨b1, 0, none⟩) ne21 (.int .i64 0)).set_ 0 (.int .i64 0)
   have e0 : Blk ((w3.setCell ⟨b1, 0, none⟩ (.int .i64 0)).setCell ⟨b2, 0, none⟩ (.int .i64 0)) w.heap.size 41 _ := (B0_3.out.far (p := ⟨b1, 0, none⟩) HNE.out.1 (.int .i64 0)).far (p := ⟨b2, 0, none⟩) HNE.out.2.1 (.int .i64 0)
   clear m1 m2 z1 z2 WR B0_2 B1_2 B2_2 B0_3 B1_3 B2_3
   generalize (w3.setCell ⟨b1, 0, none⟩ (.int .i64 0)).setCell ⟨b2, 0, none⟩ (.int .i64 0) = w4 at *
   refine leaves_cons (f := 39) (args := #[.pointer (some ⟨b1, 0, none⟩), .pointer (some ⟨b2, 0, none⟩)]) (by simp) (by simp [go_sem]) ?_
   refine (px_idle b1 b2 w4).mono ?_
   rintro e u' w5 ⟨rfl, rfl, h5⟩
   refine ⟨_, results_row3 rfl _ w5 w.heap.size 41 p'.h.va _ b1 b2 _ _ rfl rfl rfl (e0.below h5 e0.lt) Tryz.underlying41 rfl (by kernel_rfl) (ld_err (e1.below h5 e1.lt)) (ld_int (e2.below h5 e2.lt)), ?_⟩
   rw [E.out]
   have hX : ∀ k, Th3 w.heap.size b1 b2 k → ¬ Fro w1.heap.size k := fun k x (y : w1.heap.size ≤ k) => by have := L1.out; rcases x with x | x | x <;> omega
   exact ⟨_, rfl, ⟨p', rfl, ((XP.out.fx F4 hX).bel h5).imp (fun k _ (x : w1.heap.size ≤ k) => Nat.le_trans (Nat.le_of_lt L1.out.2.2) x), EP.out⟩, bel_trans (fx_bel_of HB2.out F4 (fun k hk x => by have := HLE.out; rcases x with x | x | x <;> omega)) h5⟩
 ·rw [if_neg c] at hpn
  obtain ⟨rfl, hb⟩ := hpn
  have B0_2 := Hj (B0.out.below hb B0.out.lt)
  have B1_2 := Hj (B1.out.below hb B1.out.lt)
  have B2_2 := Hj (B2.out.below hb B2.out.lt)
  have HB2 := Hj (bel_trans HBL.out hb)
  have E : Hid (Z = .no L.2.1 (L.2.2 : Nat)) := by show Z = _; rw [HRS.out, if_neg c]
  clear hb c HRS HBL B0 B1 B2
  go_wp2_with fail
  refine leaves_cons (f := 39) (args := #[.pointer (some ⟨b1, 0, none⟩), .pointer (some ⟨b2, 0, none⟩)]) (by simp) (by simp [go_sem]) ?_
  refine (px_panicking b1 b2 0 0 _ _ [] w1 B1_2.out B2_2.out HNE.out.2.2).mono ?_
  rintro e u' w3 ⟨rfl, rfl, k1, k2, f3⟩
  refine ⟨_, results_row3 rfl _ w3 w.heap.size 41 zeroH.va _ b1 b2 _ _ rfl rfl rfl (f3.blk B0_2.out B0_2.out.lt (fun x => x.elim HNE.out.1 HNE.out.2.1)) Tryz.underlying41 rfl (by kernel_rfl) (ld_err k1) (ld_int k2), ?_⟩
  rw [E.out]
  exact ⟨_, rfl, noEx_v _ _, fx_bel_of HB2.out f3 (fun k hk x => by have := HLE.out; rcases x with x | x <;> omega)⟩
theorem St.eqv_hd {s : St} : ∀ {r : St}, s.eqv r → hsS s.h r.h = true ∧ r.h.ps = s.h.ps ∧ s.e.eqv r.e ∧ (s.h.xs.n = r.h.xs.n ∧ ∀ i, i < s.h.xs.n → (s.x i).eqv (r.x i)) ∧ (∀ i, i < s.h.ts.n → (s.t i).eqv (r.t i)) ∧ ∀ i, i < s.h.es.n → (s.l i).eqv (r.l i) := by
 intro r h
 cases s with
 | no => exact ⟨h.1, h.2.1, h.2.2.1, ⟨h.2.2.2.symm, fun i hi => absurd hi (Nat.not_lt_zero i)⟩, fun i hi => absurd hi (Nat.not_lt_zero i), fun i hi => absurd hi (Nat.not_lt_zero i)⟩
 | mk => exact h
theorem St.eqv_same {s : St} : ∀ {r : St}, s.eqv r → s.same r = true := by
 induction s using St.ind with
 | H s it il =>
  intro r h
  obtain ⟨h1, h2, h3, ⟨h4, h5⟩, h6, h7⟩ := St.eqv_hd h
  simp only [hsS, Bool.and_eq_true, decide_eq_true_eq, beq_iff_eq] at h1
  obtain ⟨⟨⟨⟨⟨g1, g2⟩, g3⟩, g4⟩, g5⟩, g6⟩ := h1
  exact St.same_iff.2 ⟨⟨g1, g2, g3, g4, g5, g6⟩, Ex.eqv_same h3, ⟨h4, fun i hi => Ex.eqv_same (h5 i hi)⟩, fun i hi => it i hi (h6 i hi), fun i hi => il i hi (h7 i hi)⟩
theorem al_succ {f : Nat → Bool} {n : Nat} (h : al f n = true) (g : f n = true) : al f (n + 1) = true := by simp only [al, h, g, Bool.and_self]
def SmX (B : Nat) (f : Nat) (e e' : Ex) : Prop := ∀ (w : World), e.In B w → e'.In B w → B ≤ w.heap.size → Calls Tryz.prog f #[e.h.v, e'.h.v] w fun r w' => r = .returned (.bool (e.same e')) ∧ Below w.heap.size w w'
def SmXs (B : Nat) (f : Nat) (xs : Array Value) (s : Sl) (k : Nat → Ex) (s' : Sl) (k' : Nat → Ex) : Prop :=
 ∀ (w : World), XsIn B w s k → XsIn B w s' k' → B ≤ w.heap.size → Calls Tryz.prog f (#[.slice s.ao s.n s.c, .slice s'.ao s'.n s'.c] ++ xs) w fun r w' => r = .returned (.bool (sameX s.n k s'.n k')) ∧ Below w.heap.size w w'
theorem Ex.same_eq (e e' : Ex) : e.same e' = (decide (e.h.op = e'.h.op) && (e.h.bo == e'.h.bo) && decide (e.h.it = e'.h.it) && decide (e.h.fl = e'.h.fl) && (e.h.nm == e'.h.nm) && sameX e.h.s.n e.k e'.h.s.n e'.k) := by
 rw [Ex.same_hd]
 simp only [hdS, sameX, Bool.and_assoc]
theorem kept_obj {w w' : World} {k : Nat} {o : Obj} (hb : Below w.heap.size w w') (h : w.heap[k]? = some o) : w'.heap[k]? = some o := (hb.block k (Array.getElem?_eq_some_iff.1 h).1).trans h
set_option maxHeartbeats 3200000 in
theorem gSameX_of (B : Nat) (e e' : Ex) (hl : SmXs B 42 #[] e.h.s e.k e'.h.s e'.k) : SmX B 15 e e' := by
  intro w hI hI' hB
  have HL := Hj hl
  have HI := Hj hI
  have HI' := Hj hI'
  have HB := Hj hB
  have g0 : (bx (bx w (xO e.h)) (xO e'.h)).heap[w.heap.size]? = some (xO e.h) := (bx_old _ _ (by rw [bx_size]; omega)).trans (bx_new _ _)
  have g1 : (bx (bx w (xO e.h)) (xO e'.h)).heap[w.heap.size + 1]? = some (xO e'.h) := by have := bx_new (bx w (xO e.h)) (xO e'.h); rwa [bx_size] at this
  obtain ⟨c0, -, c2, c3, c4, c5, c6⟩ := x_cells g0
  obtain ⟨d0, -, d2, d3, d4, d5, d6⟩ := x_cells g1
  have hz : (bx w (xO e.h)).heap.size = w.heap.size + 1 := bx_size _ _
  rw [Ex.same_eq]
  clear hl hI hI' hB g0 g1
  show Calls Tryz.prog 15 #[.agg #[.int .u8 e.h.op, .int .i64 e.h.ps, .bool e.h.bo, .int .i32 e.h.it, .int .u64 e.h.fl, .string ⟨e.h.nm.toArray⟩, .slice e.h.s.ao e.h.s.n e.h.s.c],
    .agg #[.int .u8 e'.h.op, .int .i64 e'.h.ps, .bool e'.h.bo, .int .i32 e'.h.it, .int .u64 e'.h.fl, .string ⟨e'.h.nm.toArray⟩, .slice e'.h.s.ao e'.h.s.n e'.h.s.c]] w _
  go_enter Tryz.func15, Tryz.ntmps15
  go_upto_region 1 with fail
  rw [bx_x, bx_x]
  go_wp2_with fail
  all_goals first
    | (refine (HL.out _ (HI.out.xs.below (bx_bel (bx_bel (Below.refl _ _) (Nat.le_refl _) _) (Nat.le_refl _) _) HB.out) (HI'.out.xs.below (bx_bel (bx_bel (Below.refl _ _) (Nat.le_refl _) _) (Nat.le_refl _) _) HB.out) (by rw [bx_size, bx_size]; have := HB.out; omega)).mono ?_
       rintro r w' ⟨rfl, hb⟩
       have BB : Hid (Below w.heap.size w w') := (bx_bel (bx_bel (Below.refl _ _) (Nat.le_refl _) (xO e.h)) (Nat.le_refl _) (xO e'.h)).trans (hb.mono (by rw [bx_size, bx_size]; omega))
       clear hb
       go_wp2_with fail
       go_ret
       exact ⟨by first | (simp [*]; done) | simp_all, BB.out⟩)
    | (go_ret
       exact ⟨by first | (simp [*]; done) | simp_all, bx_bel (bx_bel (Below.refl _ _) (Nat.le_refl _) _) (Nat.le_refl _) _⟩)
set_option maxHeartbeats 3200000 in
theorem gSameXs_of (B : Nat) (s : Sl) (k : Nat → Ex) (s' : Sl) (k' : Nat → Ex) (ih : ∀ i, i < s.n → i < s'.n → SmX B 15 (k i) (k' i)) : SmXs B 42 #[] s k s' k' := by
 intro w hX hX' hB
 have HI := Hj hX
 have HI' := Hj hX'
 have IH := Hj ih
 have HB := Hj hB
 have hc := hX.1
 have hmx : s.n ≤ maxLen := Nat.le_trans hc.1 hc.2.1
 unfold maxLen at hmx
 have HM := Hj hmx
 obtain ⟨ao, n, c⟩ := s
 obtain ⟨ao', n', c'⟩ := s'
 dsimp only at *
 clear hX hX' hB hc hmx ih
 show Calls Tryz.prog 42 #[.slice ao n c, .slice ao' n' c'] w _
 by_cases hn : n = n'
 ·subst hn
  go_enter Tryz.func42, Tryz.ntmps42
  go_wp2_with fail
  go_loopg [5] n (fun gk i wr => ∃ j : Nat, i = .int .i64 (j : Int) ∧ Hid (gk = n - j ∧ j ≤ n) ∧ Hid (al (fun i => (k i).same (k' i)) j = true) ∧ Hid (Below w.heap.size w wr))
  case atStart => exact ⟨0, rfl, ⟨rfl, Nat.zero_le _⟩, rfl, Below.refl _ _⟩
  case round =>
   obtain ⟨j, rfl, HJ, HA, BEL⟩ := hrel
   by_cases hlt : j < n
   ·have z0 : (j : Int) < (n : Int) := by omega
    have ovi : IntKind.i64.wrap ((j : Int) + 1) = ((j + 1 : Nat) : Int) := by have := HM.out; rw [IntKind.wrap_i64]; omega
    obtain ⟨a, b, o, rfl, hA, hb, X, I⟩ := XsIn.at (HI.out.below BEL.out HB.out) (i := j) hlt
    obtain ⟨a', b', o', rfl, hA', hb', X', I'⟩ := XsIn.at (HI'.out.below BEL.out HB.out) (i := j) hlt
    have c0 := X.c0; have c1 := X.c1; have c2 := X.c2; have c3 := X.c3; have c4 := X.c4; have c5 := X.c5; have c6 := X.c6
    have d0 := X'.c0; have d1 := X'.c1; have d2 := X'.c2; have d3 := X'.c3; have d4 := X'.c4; have d5 := X'.c5; have d6 := X'.c6
    have C := Hj (IH.out j hlt hlt wr.drew I.drew I'.drew (Nat.le_trans HB.out BEL.out.size))
    have HLT := Hj hlt
    clear X X' hb hb' I I' hlt
    go_upto_region 6 with fail
    go_still_tail 8, (by kernel_rfl)
    change wpList _ _ _ _ _ wr.drew
    generalize hw2 : wr.drew = w2 at *
    have B2 : Hid (Below wr.heap.size wr w2) := by rw [← hw2]; exact Below.drew (Below.refl _ _)
    clear hw2 c0 c1 c2 c3 c4 c5 c6 d0 d1 d2 d3 d4 d5 d6
    go_wp2_with fail
    refine C.out.mono ?_
    rintro r w3 ⟨rfl, hb3⟩
    have B3 := Hj (BEL.out.trans ((B2.out.trans (hb3.mono B2.out.size)).mono BEL.out.size))
    clear hb3 C B2
    cases hs : (k j).same (k' j) with
    | true =>
     have HS := Hj hs
     clear hs
     go_wp2_with fail
     go_roundg (n - (j + 1))
     case measure => have := HJ.out; have := HLT.out; omega
     case rel => exact ⟨j + 1, by go_num, ⟨rfl, HLT.out⟩, al_succ HA.out HS.out, B3.out⟩
    | false =>
     have HS := Hj hs
     clear hs
     go_wp2_with fail
     go_ret
     refine ⟨?_, B3.out⟩
     have : al (fun i => (k i).same (k' i)) n = false := al_false.2 ⟨j, HLT.out, HS.out⟩
     simp [sameX, this]
   ·obtain rfl : j = n := by have := HJ.out; omega
    clear hlt
    go_wp2_with fail
    go_ret
    exact ⟨by simp [sameX, HA.out], BEL.out⟩
 ·have hn' : ¬ (n : Int) = (n' : Int) := by omega
  go_enter Tryz.func42, Tryz.ntmps42
  go_wp2_with fail
  go_ret
  exact ⟨by simp [sameX, hn], Below.refl _ _⟩
theorem gSameX_any (B : Nat) (e : Ex) : ∀ e', SmX B 15 e e' := by
 induction e using Ex.ind with
 | H e ih => exact fun e' => gSameX_of B _ e' (gSameXs_of B e.h.s e.k e'.h.s e'.k fun i hi _ => ih i hi _)
def Ex.pe : Ex → Ex → Prop
 | .no, f => (0 : Int) = f.h.ps ∧ 0 = f.h.s.n
 | .mk h k, f => h.ps = f.h.ps ∧ h.s.n = f.h.s.n ∧ ∀ i, i < h.s.n → (k i).pe (f.k i)
theorem Ex.pe_hd {e f : Ex} (h : e.pe f) : e.h.ps = f.h.ps ∧ e.h.s.n = f.h.s.n ∧ ∀ i, i < e.h.s.n → (e.k i).pe (f.k i) := by
 cases e with
 | no => exact ⟨h.1, h.2, fun i hi => absurd hi (Nat.not_lt_zero i)⟩
 | mk => exact h
theorem Ex.pe_of {e f : Ex} (h1 : e.h.ps = f.h.ps) (h2 : e.h.s.n = f.h.s.n) (h3 : ∀ i, i < e.h.s.n → (e.k i).pe (f.k i)) : e.pe f := by
 cases e with
 | no => exact ⟨h1, h2⟩
 | mk => exact ⟨h1, h2, h3⟩
theorem pe_eqv {e : Ex} : ∀ {f a : Ex}, e.eqv a → f.eqv a → e.pe f := by
 induction e using Ex.ind with
 | H e ih =>
  intro f a h g
  obtain ⟨-, h2, h3⟩ := (Ex.eqv_iff _ _).1 h
  obtain ⟨-, g2, g3⟩ := (Ex.eqv_iff _ _).1 g
  have n1 := (Ex.same_iff.1 (Ex.eqv_same h)).2.2.2.2.2.1
  have n2 := (Ex.same_iff.1 (Ex.eqv_same g)).2.2.2.2.2.1
  exact Ex.pe_of (h2.symm.trans g2) (n1.trans n2.symm) fun i hi => ih i hi (h3 i hi) (g3 i (by omega))
def AtX (B : Nat) (e e' : Ex) : Prop := ∀ (w : World), e.In B w → e'.In B w → B ≤ w.heap.size → Calls Tryz.prog 16 #[e.h.v, e'.h.v] w fun r w' => r = .returned (.bool true) ∧ Below w.heap.size w w'
set_option maxHeartbeats 3200000 in
theorem sameAt_of (B : Nat) (e e' : Ex) (hp : e.pe e') (ih : ∀ i, i < e.h.s.n → AtX B (e.k i) (e'.k i)) : AtX B e e' := by
 intro w hI hI' hB
 obtain ⟨hps, hn, -⟩ := Ex.pe_hd hp
 have G0 : Hid ((bx (bx w (xO e.h)) (xO e'.h)).heap[w.heap.size]? = some (xO e.h)) := (bx_old _ _ (by rw [bx_size]; omega)).trans (bx_new _ _)
 have G1 : Hid ((bx (bx w (xO e.h)) (xO e'.h)).heap[w.heap.size + 1]? = some (xO e'.h)) := by have := bx_new (bx w (xO e.h)) (xO e'.h); rwa [bx_size] at this
 have hb : Below w.heap.size w (bx (bx w (xO e.h)) (xO e'.h)) := bx_bel (bx_bel (Below.refl _ _) (Nat.le_refl _) _) (Nat.le_refl _) _
 have HI := Hj (hI.xs.below hb hB)
 have HI' := Hj (hI'.xs.below hb hB)
 have HB := Hj (Nat.le_trans hB hb.size)
 have BW := Hj hb
 have IH := Hj ih
 have hc := hI.xs.1
 have hmx : e.h.s.n ≤ maxLen := Nat.le_trans hc.1 hc.2.1
 unfold maxLen at hmx
 have HM := Hj hmx
 have HN := Hj hn
 have HP := Hj hps
 have hz : (bx w (xO e.h)).heap.size = w.heap.size + 1 := bx_size _ _
 clear hI hI' hb hB ih hp hc hmx
 show Calls Tryz.prog 16 #[.agg #[.int .u8 e.h.op, .int .i64 e.h.ps, .bool e.h.bo, .int .i32 e.h.it, .int .u64 e.h.fl, .string ⟨e.h.nm.toArray⟩, .slice e.h.s.ao e.h.s.n e.h.s.c],
  .agg #[.int .u8 e'.h.op, .int .i64 e'.h.ps, .bool e'.h.bo, .int .i32 e'.h.it, .int .u64 e'.h.fl, .string ⟨e'.h.nm.toArray⟩, .slice e'.h.s.ao e'.h.s.n e'.h.s.c]] w _
 clear hps hn
 go_enter Tryz.func16, Tryz.ntmps16
 go_upto_region 1 with fail
 rw [bx_x, bx_x]
 clear hz
 change (Code.region 1 _ _).wp _ _ _ (bx (bx w (xO e.h)) (xO e'.h))
 generalize bx (bx w (xO e.h)) (xO e'.h) = W at *
 obtain ⟨-, c1, -, -, -, -, c6⟩ := x_cells G0.out
 obtain ⟨-, d1, -, -, -, -, d6⟩ := x_cells G1.out
 rw [← HP.out] at d1
 rw [← HN.out] at d6
 generalize hbe : w.heap.size + 1 = be at *
 have HBE : Hid (w.heap.size < be) := by show w.heap.size < be; omega
 clear hbe
 go_wp2_with fail
 clear c1 c6 d1 d6
 go_loopg [5] e.h.s.n (fun gk i wr => ∃ j : Nat, i = .int .i64 (j : Int) ∧ Hid (gk = e.h.s.n - j ∧ j ≤ e.h.s.n) ∧ Hid (Below W.heap.size W wr))
 case atStart => exact ⟨0, rfl, ⟨rfl, Nat.zero_le _⟩, Below.refl _ _⟩
 case round =>
  obtain ⟨j, rfl, HJ, BEL⟩ := hrel
  obtain ⟨-, -, -, -, -, -, c6⟩ := x_cells (kept_obj BEL.out G0.out)
  obtain ⟨-, -, -, -, -, -, d6⟩ := x_cells (kept_obj BEL.out G1.out)
  rw [← HN.out] at d6
  by_cases hlt : j < e.h.s.n
  ·have z0 : (j : Int) < (e.h.s.n : Int) := by omega
   have ovi : IntKind.i64.wrap ((j : Int) + 1) = ((j + 1 : Nat) : Int) := by have := HM.out; rw [IntKind.wrap_i64]; omega
   obtain ⟨a, b, o, ha, hA, hb, X, I⟩ := XsIn.at (HI.out.below BEL.out HB.out) (i := j) hlt
   obtain ⟨a', b', o', ha', hA', hb', X', I'⟩ := XsIn.at (HI'.out.below BEL.out HB.out) (i := j) (by rw [← HN.out]; exact hlt)
   rw [ha] at c6
   rw [ha'] at d6
   have x0 := X.c0; have x1 := X.c1; have x2 := X.c2; have x3 := X.c3; have x4 := X.c4; have x5 := X.c5; have x6 := X.c6
   have y0 := X'.c0; have y1 := X'.c1; have y2 := X'.c2; have y3 := X'.c3; have y4 := X'.c4; have y5 := X'.c5; have y6 := X'.c6
   have C := Hj (IH.out j hlt wr.drew I.drew I'.drew (Nat.le_trans HB.out BEL.out.size))
   have HLT := Hj hlt
   clear X X' hb hb' I I' hlt ha ha'
   go_upto_region 6 with fail
   go_still_tail 10, (by kernel_rfl)
   change wpList _ _ _ _ _ wr.drew
   generalize hw2 : wr.drew = w2 at *
   have B2 : Hid (Below wr.heap.size wr w2) := by rw [← hw2]; exact Below.drew (Below.refl _ _)
   clear hw2 x0 x1 x2 x3 x4 x5 x6 y0 y1 y2 y3 y4 y5 y6 c6 d6
   go_wp2_with fail
   refine C.out.mono ?_
   rintro r w3 ⟨rfl, hb3⟩
   have B3 := Hj (BEL.out.trans ((B2.out.trans (hb3.mono B2.out.size)).mono BEL.out.size))
   clear hb3 C B2
   go_wp2_with fail
   go_roundg (e.h.s.n - (j + 1))
   case measure => have := HJ.out; have := HLT.out; omega
   case rel => exact ⟨j + 1, by go_num, ⟨rfl, HLT.out⟩, B3.out⟩
  ·obtain rfl : j = e.h.s.n := by have := HJ.out; omega
   clear hlt
   go_wp2_with fail
   go_ret
   exact ⟨rfl, bel_trans BW.out BEL.out⟩
theorem sameAt_any (B : Nat) (e : Ex) : ∀ e', e.pe e' → AtX B e e' := by
 induction e using Ex.ind with
 | H e ih => exact fun e' hp => sameAt_of B e e' hp fun i hi => ih i hi _ ((Ex.pe_hd hp).2.2 i hi)
end Go.Proofs.YthmlhkllbichgaaGreatDoor
