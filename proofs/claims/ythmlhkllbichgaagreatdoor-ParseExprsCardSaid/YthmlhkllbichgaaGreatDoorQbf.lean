/-
  ParseExprs holds, tied to the program's text. (part 32 of 36) Conditions: none beside what the card ties.
-/
import Derived.Test.YthmlhkllbichgaaGreatDoorQbc
namespace Go.Proofs.YthmlhkllbichgaaGreatDoor
open Go.RowKit
set_option maxRecDepth 100000
def tkAt (l : List Tk) (i : Nat) : Tk := l.getD i noT
theorem tksC_at {l : List Tk} {i j : Nat} {v : Value} (hi : i < l.length) (hv : (tkCs (tkAt l i))[j]? = some v) : (tksC l)[i * 5 + j]? = some v := by
 induction l generalizing i with
 | nil => simp at hi
 | cons t r ih =>
  have hj : j < 5 := (List.getElem?_eq_some_iff.1 hv).1
  show (tkCs t ++ tksC r)[i * 5 + j]? = some v
  cases i with
  | zero => rw [List.getElem?_append_left (by show 0 * 5 + j < 5; omega), Nat.zero_mul, Nat.zero_add]; exact hv
  | succ i =>
   rw [List.getElem?_append_right (by show 5 ≤ _; omega), show (i + 1) * 5 + j - (tkCs t).length = i * 5 + j by show (i + 1) * 5 + j - 5 = _; omega]
   exact ih (by simpa using hi) hv
theorem good_at {l : List Tk} (h : Good l) : ∀ i, i < l.length → Good (l.drop i) := by
 induction l with
 | nil => exact h.elim
 | cons t r ih =>
  intro i hi
  cases i with
  | zero => exact h
  | succ i =>
   rcases h with ⟨e, -⟩ | ⟨-, h⟩
   ·subst e; simp at hi
   ·exact ih h i (by simpa using hi)
theorem drop_hd (l : List Tk) (i : Nat) : (l.drop i).headD noT = tkAt l i := by
 rw [tkAt, List.getD_eq_getElem?_getD, List.headD_eq_head?_getD, List.head?_drop]
theorem hd_at {l : List Tk} (h : Good l) {i : Nat} (hi : i < l.length) : Hd (tkAt l i) := by rw [← drop_hd]; exact (good_at h i hi).hd
structure RW (R T o c : Nat) (l : List Tk) (i : Nat) (e a n x : Int) (w : World) : Prop where
 tr : T < R
 blk : Blk w R 74 #[.slice (some ⟨T, o, none⟩) l.length c, .int .i64 (i : Int), .int .i64 e, .int .i64 a, .int .i64 n, .int .i64 x]
 row : w.rangeAt T o (tksC l)
 lc : l.length ≤ c
 cm : c ≤ maxLen
 good : Good l
 hi : i < l.length
def Gh {α : Type} (r : Rs α) (l : List Tk) (i : Nat) (e a n x : Int) : Prop :=
 match r with
 | .ok _ s => e = 0 ∧ a = 0 ∧ n = s.ns ∧ x = s.nx ∧ s.ts = l.drop i ∧ s.ns ≤ 200 ∧ s.nx ≤ 2000
 | .no c p => e = c ∧ a = p ∧ c ≠ 0
def U {α : Type} (R : Nat) (r : Rs α) (w : World) : Prop := ∃ T o c l i e a n x, RW R T o c l i e a n x w ∧ Gh r l i e a n x
theorem RW.fx {R T o c : Nat} {l : List Tk} {i : Nat} {e a n x : Int} {w w' : World} {X : Nat → Prop} {B : Nat} (h : RW R T o c l i e a n x w) (hf : Fx X B w w') (hR : R < B) (hX : ∀ k, k ≤ R → ¬ X k) : RW R T o c l i e a n x w' :=
 ⟨h.tr, hf.blk h.blk hR (hX R (Nat.le_refl _)), rangeAt_blk h.row (hf.block T (Nat.lt_trans h.tr hR) (hX T (Nat.le_of_lt h.tr))), h.lc, h.cm, h.good, h.hi⟩
theorem RW.lt {R T o c : Nat} {l : List Tk} {i : Nat} {e a n x : Int} {w : World} (h : RW R T o c l i e a n x w) : R < w.heap.size := h.blk.lt
theorem RW.below {R T o c : Nat} {l : List Tk} {i : Nat} {e a n x : Int} {w w' : World} (h : RW R T o c l i e a n x w) (hb : Below w.heap.size w w') : RW R T o c l i e a n x w' := h.fx (Fx.of (X := fun _ => False) hb) h.lt fun _ _ x => x
theorem RW.nums {R T o c : Nat} {l : List Tk} {i i' : Nat} {e a n x e' a' n' x' : Int} {w w' : World} (h : RW R T o c l i e a n x w) (hb : Blk w' R 74 #[.slice (some ⟨T, o, none⟩) l.length c, .int .i64 (i' : Int), .int .i64 e', .int .i64 a', .int .i64 n', .int .i64 x']) (hf : Fx (On R) w.heap.size w w') (hi : i' < l.length) : RW R T o c l i' e' a' n' x' w' :=
 ⟨h.tr, hb, rangeAt_blk h.row (hf.block T (Nat.lt_trans h.tr h.lt) (fun (q : T = R) => Nat.ne_of_lt h.tr q)), h.lc, h.cm, h.good, hi⟩
theorem U.lt {α : Type} {R : Nat} {r : Rs α} {w : World} (h : U R r w) : R < w.heap.size := by
 obtain ⟨T, o, c, l, i, e, a, n, x, H, -⟩ := h
 exact H.lt
theorem U.fx {α : Type} {R : Nat} {r : Rs α} {w w' : World} {X : Nat → Prop} {B : Nat} (h : U R r w) (hf : Fx X B w w') (hR : R < B) (hX : ∀ k, k ≤ R → ¬ X k) : U R r w' := by
 obtain ⟨T, o, c, l, i, e, a, n, x, H, g⟩ := h
 exact ⟨T, o, c, l, i, e, a, n, x, H.fx hf hR hX, g⟩
theorem U.below {α : Type} {R : Nat} {r : Rs α} {w w' : World} (h : U R r w) (hb : Below w.heap.size w w') : U R r w' := h.fx (Fx.of (X := fun _ => False) hb) h.lt fun _ _ x => x
theorem U.good {α : Type} {R : Nat} {a : α} {s : PS} {w : World} (h : U R (.ok a s) w) : Good s.ts := by
 obtain ⟨T, o, c, l, i, e, a, n, x, H, -, -, -, -, g, -⟩ := h
 rw [g]; exact good_at H.good i H.hi
def Rs.st {α : Type} : Rs α → Rs Unit
 | .ok _ s => .ok () s
 | .no c p => .no c p
theorem U.of {α β : Type} {R : Nat} {r : Rs α} {q : Rs β} {w : World} (h : U R r w) (e : r.st = q.st) : U R q w := by
 obtain ⟨T, o, c, l, i, e', a, n, x, H, g⟩ := h
 refine ⟨T, o, c, l, i, e', a, n, x, H, ?_⟩
 cases r with
 | ok a s =>
  cases q with
  | ok b s' => cases e; exact g
  | no c p => cases e
 | no c p =>
  cases q with
  | ok b s' => cases e
  | no c' p' => cases e; exact g
def zT : Obj := .cells #[.int .u8 0, .int .i64 0, .string ⟨#[]⟩, .int .i32 0, .int .u64 0] 62
set_option maxHeartbeats 1600000 in
theorem rrtok_w (R T o c : Nat) (l : List Tk) (i : Nat) (e a n x : Int) (w : World) (h : RW R T o c l i e a n x w) : Calls Tryz.prog 35 #[.pointer (some ⟨R, 0, none⟩)] w fun r w' => r = .returned (tkAt l i).v ∧ Below w.heap.size w w' := by
 have r0 : w.cell? ⟨R, 0, none⟩ = some (.slice (some ⟨T, o, none⟩) l.length c) := h.blk.cell 0
 have r1 : w.cell? ⟨R, 1, none⟩ = some (.int .i64 (i : Int)) := h.blk.cell 1
 have g : ∀ j v, (tkCs (tkAt l i))[j]? = some v → w.cell? ⟨T, o + i * 5 + j, none⟩ = some v := fun j v hv => by
  have := h.row (i * 5 + j) v (tksC_at h.hi hv)
  rw [← Nat.add_assoc] at this
  exact this
 have c0 : w.cell? ⟨T, o + i * 5, none⟩ = some (.int .u8 (tkAt l i).kd) := g 0 _ rfl
 have c1 : w.cell? ⟨T, o + i * 5 + 1, none⟩ = some (.int .i64 (tkAt l i).ps) := g 1 _ rfl
 have c2 : w.cell? ⟨T, o + i * 5 + 2, none⟩ = some (.string ⟨(tkAt l i).tx.toArray⟩) := g 2 _ rfl
 have c3 : w.cell? ⟨T, o + i * 5 + 3, none⟩ = some (.int .i32 (tkAt l i).nn) := g 3 _ rfl
 have c4 : w.cell? ⟨T, o + i * 5 + 4, none⟩ = some (.int .u64 (tkAt l i).ff) := g 4 _ rfl
 have hi := h.hi
 have lR := h.lt
 have lT : T < w.heap.size := Nat.lt_trans h.tr h.lt
 generalize tkAt l i = t at *
 clear g h
 generalize l.length = m at *
 go_enter Tryz.func35, Tryz.ntmps35
 have HST : Hid (∀ p v, p.block < w.heap.size → w.cell? p = some v → ((w.alloc zT).drew).cell? p = some v) := fun p v hp hv => (bel_same (bel_drew (bel_one w zT)) (Nat.le_refl _) p hp).trans hv
 go_wp2_with fail
 have NB : Blk ((w.alloc zT).drew) w.heap.size 62 #[.int .u8 0, .int .i64 0, .string ⟨#[]⟩, .int .i32 0, .int .u64 0] := Blk.drew (Blk.new w _ _)
 have HNB := Hj NB
 have HB : Hid (Below w.heap.size w ((w.alloc zT).drew)) := bel_drew (bel_one w zT)
 have HS0 := And.intro (HST.out _ _ lR r0) (And.intro (HST.out _ _ lR r1) (And.intro (HST.out _ _ lT c0) (And.intro (HST.out _ _ lT c1) (And.intro (HST.out _ _ lT c2) (And.intro (HST.out _ _ lT c3) (HST.out _ _ lT c4))))))
 clear r0 r1 c0 c1 c2 c3 c4 HST NB
 change Code.wp _ _ _ _ (w.alloc zT)
 refine region_tree (S := fun w' => w'.cell? ⟨R, 0, none⟩ = some (.slice (some ⟨T, o, none⟩) m c) ∧ w'.cell? ⟨R, 1, none⟩ = some (.int .i64 (i : Int)) ∧ w'.cell? ⟨T, o + i * 5, none⟩ = some (.int .u8 t.kd) ∧ w'.cell? ⟨T, o + i * 5 + 1, none⟩ = some (.int .i64 t.ps) ∧ w'.cell? ⟨T, o + i * 5 + 2, none⟩ = some (.string ⟨t.tx.toArray⟩) ∧ w'.cell? ⟨T, o + i * 5 + 3, none⟩ = some (.int .i32 t.nn) ∧ w'.cell? ⟨T, o + i * 5 + 4, none⟩ = some (.int .u64 t.ff)) _ (.take 0 (.take 1 (.take 2 (.take 3 (.take 4 (.take 5 (.take 6 (.take 7 (.take 8 (.take 9 (.act 10 .done))))))))))) (by kernel_rfl) (by kernel_rfl) rfl (by kernel_rfl) (by kernel_rfl) (fun _ _ d _ _ h => by cases d <;> exact h) HS0 ?_
 generalize (w.alloc zT).drew = w1 at *
 iterate 10
  refine WalkT.take (v := ?_) rfl (by rfl) ?_ ?_
  rotate_left
  ·(intro w' hSw; obtain ⟨r0, r1, c0, c1, c2, c3, c4⟩ := hSw; go_simp <;> with_reducible rfl)
  try simp only [Act.put, List.setIfInBounds_toArray, List.set_cons_zero, List.set_cons_succ]
 have OT : Hid (∀ p v, p.block < w.heap.size → w1.cell? p = some v → (w1.setRow w.heap.size t.vs).cell? p = some v) := fun p v hp hv => (World.cell?_of_block (a := p) (setRow_other w1 w.heap.size p.block t.vs (Nat.ne_of_lt hp))).trans hv
 refine WalkT.act rfl (by rfl) (fun K' hK => ?_)
 refine wp_store_row 62 _ _ rfl w.heap.size t.vs rfl rfl 62 _ HNB.out (by kernel_rfl) rfl (by simp [Tk.vs, Value.oneCell']) ?_
 obtain ⟨r0, r1, c0, c1, c2, c3, c4⟩ := HS0
 refine hK.out _ _ ⟨OT.out _ _ lR r0, OT.out _ _ lR r1, OT.out _ _ lT c0, OT.out _ _ lT c1, OT.out _ _ lT c2, OT.out _ _ lT c3, OT.out _ _ lT c4⟩ ?_
 clear hK K' r0 r1 c0 c1 c2 c3 c4 OT
 try simp only [Act.put]
 refine WalkT.done ?_
 go_wp2_with fail
 exact bodyPost_ret (rs_tok rfl _ _ w.heap.size t rfl (HNB.out.rowS _)) rfl ⟨rfl, HB.out.trans (((wr1_row w1 w.heap.size t.vs).1.mono HB.out.size (fun _ _ x => x)).bel (fun k hk (x : k = w.heap.size) => Nat.ne_of_lt hk x))⟩
theorem ld_tok {ops : Array Oper} {rest : List Oper} {o : Oper} {a : Act} {w : World} {Q : Exit → Act → World → Prop} (t : Tk) (g : Nat) (hg : Blk w g 62 t.vs) (hgd : o.guard = none) (x : Operand) (ho : o.op = .load 62 x) (hx : a.eval x = .pointer (some ⟨g, 0, none⟩))
  (hw : wpList Tryz.prog ops Q rest (a.put o.dst t.v) w) : wpList Tryz.prog ops Q (o :: rest) a w :=
 wpList_load_row hgd 62 x ho g hx 62 t.vs (0, 0) _ hg Tryz.underlying62 rfl (by kernel_rfl) hw
def Rs.isOk {α : Type} : Rs α → Bool
 | .ok _ _ => true
 | .no _ _ => false
theorem rrtok_any {α : Type} (R : Nat) (r : Rs α) (w : World) (h : U R r w) : Calls Tryz.prog 35 #[.pointer (some ⟨R, 0, none⟩)] w fun e w' => ∃ t, e = .returned t.v ∧ Hd t ∧ (∀ a s, r = .ok a s → t = s.hd) ∧ Below w.heap.size w w' := by
 obtain ⟨T, o, c, l, i, e, a, n, x, H, g⟩ := h
 refine (rrtok_w R T o c l i e a n x w H).mono ?_
 rintro r' w' ⟨rfl, hb⟩
 refine ⟨_, rfl, hd_at H.good H.hi, fun b s hr => ?_, hb⟩
 subst hr
 obtain ⟨-, -, -, -, g, -⟩ := g
 unfold PS.hd
 rw [g, drop_hd]
set_option maxHeartbeats 1600000 in
theorem rrfail_any {α : Type} (R : Nat) (r : Rs α) (c p : Int) (hc : c ≠ 0) (w : World) (h : U R r w) : Calls Tryz.prog 34 #[.pointer (some ⟨R, 0, none⟩), .int .i64 c, .int .i64 p] w fun e w' => e = .returned (.tuple #[]) ∧ U R (r.bind fun _ _ => (.no c p : Rs Unit)) w' ∧ Fx (On R) w.heap.size w w' := by
 obtain ⟨T, o, cp, l, i, e, a, n, x, H, g⟩ := h
 have m2 : w.cell? ⟨R, 2, none⟩ = some (.int .i64 e) := H.blk.cell 2
 have z2 : w.frozen? ⟨R, 2, none⟩ = false := H.blk.frozen 2
 have m3 : w.cell? ⟨R, 3, none⟩ = some (.int .i64 a) := H.blk.cell 3
 have z3 : w.frozen? ⟨R, 3, none⟩ = false := H.blk.frozen 3
 cases r with
 | ok q s =>
  obtain ⟨rfl, rfl, -⟩ := g
  have b1 : Blk ((w.setCell ⟨R, 2, none⟩ (.int .i64 c)).setCell ⟨R, 3, none⟩ (.int .i64 p)) R 74 #[.slice (some ⟨T, o, none⟩) l.length cp, .int .i64 (i : Int), .int .i64 c, .int .i64 p, .int .i64 n, .int .i64 x] := (H.blk.set_ 2 (.int .i64 c)).set_ 3 (.int .i64 p)
  have F := fx_set (fx_set (Fx.refl (On R) _ w) (p := ⟨R, 2, none⟩) (.inl rfl) (.int .i64 c)) (p := ⟨R, 3, none⟩) (.inl rfl) (.int .i64 p)
  have HH := Hj (H.nums (i' := i) b1 F H.hi)
  have HF := Hj F
  clear b1 F H
  go_enter Tryz.func34, Tryz.ntmps34
  go_wp2_with fail
  exact bodyPost_end (results_none rfl _ _ _) rfl ⟨rfl, ⟨T, o, cp, l, i, c, p, n, x, HH.out, rfl, rfl, hc⟩, HF.out⟩
 | no c' p' =>
  obtain ⟨rfl, rfl, hc'⟩ := g
  have e2 : (e == 0) = false := by simp [hc']
  have HH := Hj H
  clear H
  go_enter Tryz.func34, Tryz.ntmps34
  go_wp2_with fail
  exact bodyPost_end (results_none rfl _ _ _) rfl ⟨rfl, ⟨T, o, cp, l, i, e, a, n, x, HH.out, rfl, rfl, hc'⟩, Fx.refl _ _ _⟩
theorem b_eq {a b : Int} (h : a = b) : (a == b) = true := by simp [h]
theorem b_ne {a b : Int} (h : a ≠ b) : (a == b) = false := by simp [h]
set_option maxHeartbeats 1600000 in
theorem rris_any {α : Type} (R : Nat) (r : Rs α) (x : List UInt8) (hx : x ∈ resW) (w : World) (h : U R r w) : Calls Tryz.prog 33 #[.pointer (some ⟨R, 0, none⟩), .string ⟨x.toArray⟩] w fun e w' => ∃ b, e = .returned (.bool b) ∧ (∀ a s, r = .ok a s → b = (s.hd.tx == x)) ∧ Below w.heap.size w w' := by
 have G : ∀ a s, r = .ok a s → s.hd.tx = x → s.hd.kd = 4 ∨ s.hd.kd = 5 := fun a s hr ht => by
  subst hr
  exact h.good.res (by rw [← PS.hd, ht]; exact hx)
 have HG := Hj G
 have HU := Hj h
 clear G h hx
 go_enter Tryz.func33, Tryz.ntmps33
 go_wp2_with fail
 refine (rrtok_any R r w HU.out).mono ?_
 rintro e w1 ⟨t, rfl, -, ht, hb⟩
 have TB : Blk (w1.alloc (.cells t.vs 62)) w1.heap.size 62 t.vs := Blk.new _ _ _
 have t0 : (w1.alloc (.cells t.vs 62)).cell? ⟨w1.heap.size, 0, none⟩ = some (.int .u8 t.kd) := TB.cell 0
 have t2 : (w1.alloc (.cells t.vs 62)).cell? ⟨w1.heap.size, 2, none⟩ = some (.string ⟨t.tx.toArray⟩) := TB.cell 2
 have HB : Hid (Below w.heap.size w (w1.alloc (.cells t.vs 62))) := bel_alloc hb _
 have HT := Hj ht
 clear hb ht TB HU
 unfold Tk.v
 go_upto_region 2 with fail
 change (Code.region 2 _ _).wp _ _ _ (w1.alloc (.cells t.vs 62))
 generalize w1.alloc (.cells t.vs 62) = w2 at *
 by_cases c4 : t.kd = 4
 ·have e4 := b_eq c4
  go_wp2_with fail
  go_ret
  exact ⟨_, rfl, fun a s hr => by rw [HT.out a s hr], HB.out⟩
 ·have e4 := b_ne c4
  by_cases c5 : t.kd = 5
  ·have e5 := b_eq c5
   go_wp2_with fail
   go_ret
   exact ⟨_, rfl, fun a s hr => by rw [HT.out a s hr], HB.out⟩
  ·have e5 := b_ne c5
   go_wp2_with fail
   go_ret
   refine ⟨_, rfl, fun a s hr => ?_, HB.out⟩
   have h1 := HG.out a s hr
   rw [← HT.out a s hr] at h1 ⊢
   by_cases ct : t.tx = x
   ·rcases h1 ct with h1 | h1
    ·exact absurd h1 c4
    ·exact absurd h1 c5
   ·exact (beq_no ct).symm
theorem tk_step {l : List Tk} (hg : Good l) {i : Nat} (hi : i < l.length) (hk : (tkAt l i).kd ≠ 0) : i + 1 < l.length := by
 have h := good_at hg i hi
 rcases Nat.lt_or_ge (i + 1) l.length with h1 | h1
 ·exact h1
 ·have : l.drop i = [tkAt l i] := by
   have h2 := drop_hd l i
   cases e : l.drop i with
   | nil => have := List.drop_eq_nil_iff.1 e; omega
   | cons t q =>
    rw [e] at h2
    have h3 : (l.drop i).length = q.length + 1 := by rw [e]; rfl
    rw [List.length_drop] at h3
    have : q = [] := List.eq_nil_of_length_eq_zero (by omega)
    subst this
    exact congrArg (fun x => [x]) h2
  rw [this] at h
  rcases h with ⟨-, h⟩ | ⟨-, h⟩
  ·exact absurd h.kd hk
  ·exact h.elim
set_option maxHeartbeats 3200000 in
theorem rrnext_any {α : Type} (R : Nat) (r : Rs α) (w : World) (h : U R r w) (hk : ∀ a s, r = .ok a s → s.hd.kd ≠ 0) :
  Calls Tryz.prog 68 #[.pointer (some ⟨R, 0, none⟩)] w fun e w' => ∃ t, e = .returned t.v ∧ Hd t ∧ (∀ a s, r = .ok a s → t = s.hd) ∧ U R (r.bind fun _ s => .ok () s.tk) w' ∧ Fx (On R) w.heap.size w w' := by
 obtain ⟨T, o, c, l, i, e, a, n, x, H, g⟩ := h
 have BL : Below w.heap.size w (w.alloc zT) := bel_one w _
 have HW := Hj (H.below BL)
 have HG := Hj g
 have HK := Hj hk
 have k0 : Blk (w.alloc zT) w.heap.size 62 #[.int .u8 0, .int .i64 0, .string ⟨#[]⟩, .int .i32 0, .int .u64 0] := Blk.new _ _ _
 have HNB := Hj k0
 have HF : Hid (Fx (On R) w.heap.size w (w.alloc zT)) := Fx.of BL
 have HRL : Hid (R < w.heap.size) := H.lt
 clear H g hk BL k0
 go_enter Tryz.func68, Tryz.ntmps68
 go_upto_region 1 with fail
 change (Code.region 1 _ _).wp _ _ _ (w.alloc zT)
 generalize w.alloc zT = w0 at *
 go_wp2_with fail
 refine (rrtok_w R T o c l i e a n x w0 HW.out).mono ?_
 rintro e' w1 ⟨rfl, hb⟩
 have hb2 : Below w0.heap.size w0 (w1.alloc (.cells (tkAt l i).vs 62)) := bel_alloc hb _
 have HW2 := Hj (HW.out.below hb2)
 have HNB2 := Hj (HNB.out.below hb2 HNB.out.lt)
 have TB : Hid (Blk (w1.alloc (.cells (tkAt l i).vs 62)) w1.heap.size 62 (tkAt l i).vs) := Blk.new _ _ _
 have HF2 := Hj (fx_bel HF.out hb2)
 have HTN : Hid (w.heap.size < w1.heap.size ∧ w.heap.size ≠ w1.heap.size ∧ R ≠ w1.heap.size) := by
  have h1 := Nat.lt_of_lt_of_le HNB.out.lt hb.size
  have h2 := HRL.out
  exact ⟨h1, by omega, by omega⟩
 clear hb hb2 HW HNB HF
 unfold Tk.v
 go_upto_region 2 with fail
 change (Code.region 2 _ _).wp _ _ _ (w1.alloc (.cells (tkAt l i).vs 62))
 generalize w1.alloc (.cells (tkAt l i).vs 62) = w2 at *
 generalize w1.heap.size = tb at *
 have HD : Below w2.heap.size w2 w2.drew := bel_drew (Below.refl _ _)
 have HW3 := Hj (HW2.out.below HD)
 have HNB3 := Hj (HNB2.out.below HD HNB2.out.lt)
 have TB3 := Hj (TB.out.below HD TB.out.lt)
 have HF3 := Hj (fx_bel HF2.out HD)
 have HS0 : w2.drew.cell? ⟨R, 0, none⟩ = some (.slice (some ⟨T, o, none⟩) l.length c) ∧ w2.drew.cell? ⟨R, 1, none⟩ = some (.int .i64 (i : Int)) := ⟨HW3.out.blk.cell 0, HW3.out.blk.cell 1⟩
 have hl9 : l.length ≤ maxLen := Nat.le_trans HW3.out.lc HW3.out.cm
 unfold maxLen at hl9
 have ov : IntKind.i64.wrap ((l.length : Int) - 1) = (l.length : Int) - 1 := by rw [IntKind.wrap_i64]; omega
 clear HD HW2 HNB2 TB HF2
 refine region_tree (S := fun w' => w'.cell? ⟨R, 0, none⟩ = some (.slice (some ⟨T, o, none⟩) l.length c) ∧ w'.cell? ⟨R, 1, none⟩ = some (.int .i64 (i : Int))) _ (.take 0 (.take 1 (.take 2 (.take 3 (.take 4 (.take 5 (.take 6 (.take 7 (.take 8 (.take 9 (.take 10 .done))))))))))) (by kernel_rfl) (by kernel_rfl) rfl (by kernel_rfl) (by kernel_rfl) (fun _ _ d _ _ h => by cases d <;> exact h) HS0 ?_
 clear HS0
 generalize w2.drew = w3 at *
 iterate 11
  refine WalkT.take (v := ?_) rfl (by rfl) ?_ ?_
  rotate_left
  ·(intro w' hSw; obtain ⟨r0, r1⟩ := hSw; go_simp <;> with_reducible rfl)
  try simp only [Act.put, List.setIfInBounds_toArray, List.set_cons_zero, List.set_cons_succ]
 refine WalkT.done ?_
 have hiw := HW3.out.hi
 by_cases hlt : i + 1 < l.length
 ·have d1 : (i : Int) < (l.length : Int) - 1 := by omega
  have m1 : w3.cell? ⟨R, 1, none⟩ = some (.int .i64 (i : Int)) := HW3.out.blk.cell 1
  have z1 : w3.frozen? ⟨R, 1, none⟩ = false := HW3.out.blk.frozen 1
  have ov2 : IntKind.i64.wrap ((i : Int) + 1) = (i : Int) + 1 := by rw [IntKind.wrap_i64]; omega
  have b1 : Blk (w3.setCell ⟨R, 1, none⟩ (.int .i64 ((i : Int) + 1))) R 74 #[.slice (some ⟨T, o, none⟩) l.length c, .int .i64 ((i + 1 : Nat) : Int), .int .i64 e, .int .i64 a, .int .i64 n, .int .i64 x] := HW3.out.blk.set_ 1 (.int .i64 ((i : Int) + 1))
  have F := fx_set (Fx.refl (On R) _ w3) (p := ⟨R, 1, none⟩) (.inl rfl) (.int .i64 ((i : Int) + 1))
  have HW4 := Hj (HW3.out.nums (i' := i + 1) b1 F hlt)
  have HNB4 := Hj (HNB3.out.far (p := ⟨R, 1, none⟩) (Nat.ne_of_gt HRL.out) (.int .i64 ((i : Int) + 1)))
  have TB4 := Hj (TB3.out.far (p := ⟨R, 1, none⟩) (Ne.symm HTN.out.2.2) (.int .i64 ((i : Int) + 1)))
  have HF4 := Hj (fx_trans HF3.out F)
  clear b1 F HW3 HNB3 TB3 HF3 hiw
  go_upto_region 4 with fail
  change (Code.region 4 _ _).wp _ _ _ (w3.setCell ⟨R, 1, none⟩ (.int .i64 ((i : Int) + 1)))
  clear m1 z1 ov ov2
  generalize w3.setCell ⟨R, 1, none⟩ (.int .i64 ((i : Int) + 1)) = w4 at *
  go_wp2_with (first
   | refine ld_tok (tkAt l i) tb TB4.out rfl _ rfl rfl ?_
   | refine st_tok (tkAt l i) w.heap.size _ HNB4.out rfl rfl _ _ rfl rfl rfl ?_)
  refine bodyPost_ret (rs_tok rfl _ _ w.heap.size (tkAt l i) rfl (HNB4.out.rowS _)) rfl ⟨_, rfl, hd_at HW4.out.good (Nat.lt_of_succ_lt HW4.out.hi), fun b s hr => ?_, ⟨T, o, c, l, i + 1, e, a, n, x, HW4.out.fx (wr1_row w4 w.heap.size _).1 HW4.out.lt (fun k hk (q : k = w.heap.size) => by have := HRL.out; omega), ?_⟩, fx_row HF4.out (.inr (Nat.le_refl _)) _⟩
  ·subst hr
   obtain ⟨-, -, -, -, g, -⟩ := HG.out
   unfold PS.hd
   rw [g, drop_hd]
  ·have g := HG.out
   cases r with
   | no c' p' => exact g
   | ok q s =>
    obtain ⟨g1, g2, g3, g4, g5, g6⟩ := g
    exact ⟨g1, g2, g3, g4, by show s.ts.tail = _; rw [g5, List.tail_drop], g6⟩
 ·have d1 : ¬ (i : Int) < (l.length : Int) - 1 := by omega
  go_wp2_with (first
   | refine ld_tok (tkAt l i) tb TB3.out rfl _ rfl rfl ?_
   | refine st_tok (tkAt l i) w.heap.size _ HNB3.out rfl rfl _ _ rfl rfl rfl ?_)
  refine bodyPost_ret (rs_tok rfl _ _ w.heap.size (tkAt l i) rfl (HNB3.out.rowS _)) rfl ⟨_, rfl, hd_at HW3.out.good HW3.out.hi, fun b s hr => ?_, ⟨T, o, c, l, i, e, a, n, x, HW3.out.fx (wr1_row w3 w.heap.size _).1 HW3.out.lt (fun k hk (q : k = w.heap.size) => by have := HRL.out; omega), ?_⟩, fx_row HF3.out (.inr (Nat.le_refl _)) _⟩
  ·subst hr
   obtain ⟨-, -, -, -, g, -⟩ := HG.out
   unfold PS.hd
   rw [g, drop_hd]
  ·have g := HG.out
   cases r with
   | no c' p' => exact g
   | ok q s =>
    have hk := HK.out q s rfl
    obtain ⟨-, -, -, -, g5, -⟩ := g
    unfold PS.hd at hk
    rw [g5, drop_hd] at hk
    exact absurd (tk_step HW3.out.good HW3.out.hi hk) hlt
theorem U.err {α : Type} {R : Nat} {r : Rs α} {w : World} (h : U R r w) : ∃ e : Int, w.cell? ⟨R, 2, none⟩ = some (.int .i64 e) ∧ (e = 0 ↔ r.isOk = true) := by
 obtain ⟨T, o, cp, l, i, e, a, n, x, H, g⟩ := h
 refine ⟨e, H.blk.cell 2, ?_⟩
 cases r with
 | ok q s => exact ⟨fun _ => rfl, fun _ => g.1⟩
 | no c p => exact ⟨fun e0 => absurd (g.1.symm.trans e0) g.2.2, fun e0 => by cases e0⟩
theorem res_ne {x : List UInt8} (hx : x ∈ resW) : x ≠ [] := by rintro rfl; exact absurd hx (by decide)
theorem res_kd {α : Type} {R : Nat} {a : α} {s : PS} {w : World} (h : U R (.ok a s) w) {x : List UInt8} (hx : x ∈ resW) (ht : s.hd.tx = x) : s.hd.kd ≠ 0 := h.good.kd (by rw [← PS.hd, ht]; exact res_ne hx)
def takT (x : List UInt8) (s : PS) : Rs Unit := .ok () (acS s x)
set_option maxHeartbeats 1600000 in
theorem rrtake_any {α : Type} (R : Nat) (r : Rs α) (x : List UInt8) (hx : x ∈ resW) (w : World) (h : U R r w) :
  Calls Tryz.prog 67 #[.pointer (some ⟨R, 0, none⟩), .string ⟨x.toArray⟩] w fun e w' => ∃ b, e = .returned (.bool b) ∧ (∀ a s, r = .ok a s → b = (s.hd.tx == x)) ∧ (b = true → ∃ a s, r = .ok a s) ∧ U R (r.bind fun _ s => takT x s) w' ∧ Fx (On R) w.heap.size w w' := by
 have IS := Hj (rris_any R r x hx w h)
 have HU := Hj h
 have HX := Hj hx
 clear h hx
 go_enter Tryz.func67, Tryz.ntmps67
 go_wp2_with fail
 refine IS.out.mono ?_
 rintro e w1 ⟨b, rfl, hb, bl⟩
 have HU1 := Hj (HU.out.below bl)
 have HBL := Hj bl
 have HB := Hj hb
 obtain ⟨er, m2, he⟩ := HU1.out.err
 have HE := Hj he
 clear IS bl hb HU he
 cases b with
 | false =>
  go_wp2_with fail
  go_ret
  refine ⟨_, rfl, HB.out, (fun e => by cases e), HU1.out.of ?_, Fx.of HBL.out⟩
  cases r with
  | no c p => rfl
  | ok a s =>
   have h1 := HB.out a s rfl
   show Rs.ok () s = Rs.ok () (acS s x)
   unfold acS
   rw [if_neg (by rintro rfl; simp at h1)]
 | true =>
  cases r with
  | no c p =>
   have e0 : (er == 0) = false := b_ne (fun e => by have := HE.out.1 e; cases this)
   go_wp2_with fail
   go_ret
   exact ⟨_, rfl, (fun a s e => by cases e), (fun e => by cases e), HU1.out, Fx.of HBL.out⟩
  | ok a s =>
   have h1 : s.hd.tx = x := by
    have h1 := HB.out a s rfl
    exact of_decide_eq_true (by simpa using h1.symm)
   have e0 : er = 0 := HE.out.2 rfl
   subst e0
   have hk := res_kd HU1.out HX.out h1
   have NX := Hj (rrnext_any R (.ok a s) w1 HU1.out (fun a' s' e => by cases e; exact hk))
   clear hk
   go_wp2_with fail
   refine NX.out.mono ?_
   rintro e w2 ⟨t, rfl, -, -, hu, hf⟩
   have HU2 := Hj hu
   have HF2 := Hj (fx_trans (Fx.of HBL.out) hf)
   clear hu hf NX HU1 m2
   go_wp2_with fail
   go_ret
   refine ⟨_, rfl, HB.out, (fun _ => ⟨a, s, rfl⟩), ?_, HF2.out⟩
   have e3 : takT x s = .ok () s.tk := by unfold takT acS; rw [if_pos h1]
   show U R (takT x s) w2
   rw [e3]
   exact HU2.out
theorem U.bind_of {α β γ : Type} {R : Nat} {r : Rs α} {w : World} {f : PS → Rs β} {g : PS → Rs γ} (h : U R (r.bind fun _ s => f s) w) (e : ∀ a s, r = .ok a s → (f s).st = (g s).st) : U R (r.bind fun _ s => g s) w := by
 refine h.of ?_
 cases r with
 | no c p => rfl
 | ok a s => exact e a s rfl
set_option maxHeartbeats 1600000 in
theorem rrmust_any {α : Type} (R : Nat) (r : Rs α) (x : List UInt8) (hx : x ∈ resW) (w : World) (h : U R r w) :
  Calls Tryz.prog 31 #[.pointer (some ⟨R, 0, none⟩), .string ⟨x.toArray⟩] w fun e w' => e = .returned (.tuple #[]) ∧ U R (r.bind fun _ s => expT x s) w' ∧ Fx (On R) w.heap.size w w' := by
 have IS := Hj (rrtake_any R r x hx w h)
 clear h hx
 go_enter Tryz.func31, Tryz.ntmps31
 go_wp2_with fail
 refine IS.out.mono ?_
 rintro e w1 ⟨b, rfl, hb, hb2, hu, hf⟩
 have HU1 := Hj hu
 have HF1 := Hj hf
 have HB := Hj hb
 have HB2 := Hj hb2
 clear IS hu hb hb2 hf
 cases b with
 | true =>
  go_wp2_with fail
  go_end0
  refine ⟨rfl, HU1.out.bind_of fun a s hr => ?_, HF1.out⟩
  have h1 : s.hd.tx = x := of_decide_eq_true (by simpa using (HB.out a s hr).symm)
  unfold takT acS expT
  rw [if_pos h1, if_pos h1]
 | false =>
  have ft := fun (t : Tk) w => tkv_ps t w
  have HU2 : Hid (U R (r.bind fun _ s => (.ok () s : Rs Unit)) w1) := HU1.out.bind_of fun a s hr => by
   have h1 := HB.out a s hr
   unfold takT acS
   rw [if_neg (by rintro rfl; simp at h1)]
  go_wp2_with fail
  refine (rrtok_any R _ w1 HU2.out).mono ?_
  rintro e w2 ⟨t, rfl, -, ht, bl⟩
  have HT := Hj ht
  have HU3 := Hj (HU2.out.below bl)
  have HF3 := Hj (fx_bel HF1.out bl)
  clear ht bl HU1 HU2 HF1
  go_wp2_with fail
  refine (rrfail_any R _ 110 t.ps (by decide) w2 HU3.out).mono ?_
  rintro e w3 ⟨rfl, hu, hf⟩
  have HU4 := Hj hu
  have HF4 := Hj (fx_trans HF3.out hf)
  clear hu hf HU3 HF3
  go_wp2_with fail
  go_end0
  refine ⟨rfl, HU4.out.of ?_, HF4.out⟩
  cases r with
  | no c p => rfl
  | ok a s =>
   have h1 := HB.out a s rfl
   have h2 := HT.out () s rfl
   show (Rs.no 110 t.ps : Rs Unit).st = (expT x s).st
   unfold expT bad
   rw [if_neg (by rintro rfl; simp at h1), h2]
set_option maxHeartbeats 1600000 in
theorem rrfail_w (R T o cp : Nat) (l : List Tk) (i : Nat) (e a n x c p : Int) (w : World) (H : RW R T o cp l i e a n x w) : Calls Tryz.prog 34 #[.pointer (some ⟨R, 0, none⟩), .int .i64 c, .int .i64 p] w fun q w' => q = .returned (.tuple #[]) ∧ RW R T o cp l i (if e = 0 then c else e) (if e = 0 then p else a) n x w' ∧ Fx (On R) w.heap.size w w' := by
 have m2 : w.cell? ⟨R, 2, none⟩ = some (.int .i64 e) := H.blk.cell 2
 have z2 : w.frozen? ⟨R, 2, none⟩ = false := H.blk.frozen 2
 have m3 : w.cell? ⟨R, 3, none⟩ = some (.int .i64 a) := H.blk.cell 3
 have z3 : w.frozen? ⟨R, 3, none⟩ = false := H.blk.frozen 3
 by_cases c0 : e = 0
 ·subst c0
  rw [if_pos rfl, if_pos rfl]
  have b1 : Blk ((w.setCell ⟨R, 2, none⟩ (.int .i64 c)).setCell ⟨R, 3, none⟩ (.int .i64 p)) R 74 #[.slice (some ⟨T, o, none⟩) l.length cp, .int .i64 (i : Int), .int .i64 c, .int .i64 p, .int .i64 n, .int .i64 x] := (H.blk.set_ 2 (.int .i64 c)).set_ 3 (.int .i64 p)
  have F := fx_set (fx_set (Fx.refl (On R) _ w) (p := ⟨R, 2, none⟩) (.inl rfl) (.int .i64 c)) (p := ⟨R, 3, none⟩) (.inl rfl) (.int .i64 p)
  have HH := Hj (H.nums (i' := i) b1 F H.hi)
  have HF := Hj F
  clear b1 F H
  go_enter Tryz.func34, Tryz.ntmps34
  go_wp2_with fail
  exact bodyPost_end (results_none rfl _ _ _) rfl ⟨rfl, HH.out, HF.out⟩
 ·rw [if_neg c0, if_neg c0]
  have e2 : (e == 0) = false := b_ne c0
  have HH := Hj H
  clear H
  go_enter Tryz.func34, Tryz.ntmps34
  go_wp2_with fail
  exact bodyPost_end (results_none rfl _ _ _) rfl ⟨rfl, HH.out, Fx.refl _ _ _⟩
def dpT (d p : Int) (s : PS) : Rs Unit := if 24 < d then .no 111 p else .ok () s
set_option maxHeartbeats 1600000 in
theorem rrdeeper_any {α : Type} (R : Nat) (r : Rs α) (d p : Int) (w : World) (h : U R r w) :
  Calls Tryz.prog 71 #[.pointer (some ⟨R, 0, none⟩), .int .i64 d, .int .i64 p] w fun e w' => e = .returned (.bool (r.bind fun _ s => dpT d p s).isOk) ∧ U R (r.bind fun _ s => dpT d p s) w' ∧ Fx (On R) w.heap.size w w' := by
 have HU := Hj h
 clear h
 have fin : Hid (∀ w1, U R (r.bind fun _ s => dpT d p s) w1 → ∃ er : Int, w1.cell? ⟨R, 2, none⟩ = some (.int .i64 er) ∧ (er == 0) = (r.bind fun _ s => dpT d p s).isOk) := fun w1 hu => by
  obtain ⟨er, m, he⟩ := hu.err
  refine ⟨er, m, ?_⟩
  cases e : (r.bind fun _ s => dpT d p s).isOk with
  | true => exact b_eq (he.2 e)
  | false => exact b_ne (fun e0 => by rw [he.1 e0] at e; cases e)
 by_cases c : 24 < d
 ·go_enter Tryz.func71, Tryz.ntmps71
  go_wp2_with fail
  refine (rrfail_any R r 111 p (by decide) w HU.out).mono ?_
  rintro e w1 ⟨rfl, hu, hf⟩
  have HU1 : Hid (U R (r.bind fun _ s => dpT d p s) w1) := hu.bind_of fun a s _ => by unfold dpT; rw [if_pos c]
  have HF1 := Hj hf
  obtain ⟨er, m, he⟩ := fin.out w1 HU1.out
  clear hu hf HU fin
  go_wp2_with fail
  go_ret
  exact ⟨rfl, HU1.out, HF1.out⟩
 ·have HU1 : Hid (U R (r.bind fun _ s => dpT d p s) w) := by
   refine HU.out.of ?_
   cases r with
   | no c p => rfl
   | ok a s => show _ = (dpT d p s).st; unfold dpT; rw [if_neg c]; rfl
  obtain ⟨er, m, he⟩ := fin.out w HU1.out
  clear HU fin
  go_enter Tryz.func71, Tryz.ntmps71
  go_wp2_with fail
  go_ret
  exact ⟨rfl, HU1.out, Fx.refl _ _ _⟩
set_option maxHeartbeats 3200000 in
theorem rrwhole_any {α : Type} (R : Nat) (r : Rs α) (e : EH) (e0 : Ex) (he : e0.h.ps = e.ps) (w : World) (h : U R r w) :
  Calls Tryz.prog 76 #[.pointer (some ⟨R, 0, none⟩), e.v] w fun q w' => q = .returned e.v ∧ U R (r.bind fun _ s => whole e0 s) w' ∧ Fx (On R) w.heap.size w w' := by
 obtain ⟨T, o, cp, l, i, er, a, n, x, H, g⟩ := h
 have HW := Hj H
 have HG := Hj g
 have lR := H.lt
 have HPS := Hj he
 clear H g he
 show Calls Tryz.prog 76 #[.pointer (some ⟨R, 0, none⟩), .agg #[.int .u8 e.op, .int .i64 e.ps, .bool e.bo, .int .i32 e.it, .int .u64 e.fl, .string ⟨e.nm.toArray⟩, .slice e.s.ao e.s.n e.s.c]] w _
 go_enter Tryz.func76, Tryz.ntmps76
 have OB : Hid (Blk (bx w (xO e)) w.heap.size 41 e.va) := bx_ex w e
 go_upto_region 1 with fail
 rw [bx_x]
 have z1 : (bx w (xO e)).heap.size = w.heap.size + 1 := bx_size _ _
 have F0 : Below w.heap.size w (bx w (xO e)) := bx_bel (Below.refl _ _) (Nat.le_refl _) _
 generalize bx w (xO e) = wx at *
 have OB2 := Hj (OB.out.alloc zX)
 have NB : Hid (Blk (wx.alloc zX) (w.heap.size + 1) 41 zeroH.va) := by rw [← z1]; exact Blk.new _ _ _
 have F1 := Hj (bel_alloc F0 zX)
 have e1 : (wx.alloc zX).cell? ⟨w.heap.size, 1, none⟩ = some (.int .i64 e.ps) := OB2.out.cell 1
 have HW1 := Hj (HW.out.below F1.out)
 have m5 : (wx.alloc zX).cell? ⟨R, 5, none⟩ = some (.int .i64 x) := HW1.out.blk.cell 5
 have z5 : (wx.alloc zX).frozen? ⟨R, 5, none⟩ = false := HW1.out.blk.frozen 5
 clear F0 OB z1 HW
 change (Code.region 1 _ _).wp _ _ _ (wx.alloc zX)
 generalize wx.alloc zX = wy at *
 have b1 : Blk (wy.setCell ⟨R, 5, none⟩ (.int .i64 (wrap64 (x + 1)))) R 74 #[.slice (some ⟨T, o, none⟩) l.length cp, .int .i64 (i : Int), .int .i64 er, .int .i64 a, .int .i64 n, .int .i64 (wrap64 (x + 1))] := HW1.out.blk.set_ 5 (.int .i64 (wrap64 (x + 1)))
 have F := fx_set (Fx.refl (On R) _ wy) (p := ⟨R, 5, none⟩) (.inl rfl) (.int .i64 (wrap64 (x + 1)))
 have HW2 := Hj (HW1.out.nums (i' := i) b1 F HW1.out.hi)
 have HF2 := Hj (fx_set (X := On R) (Fx.of F1.out) (p := ⟨R, 5, none⟩) (.inl rfl) (.int .i64 (wrap64 (x + 1))))
 have OB3 := Hj (OB2.out.far (p := ⟨R, 5, none⟩) (Nat.ne_of_gt lR) (.int .i64 (wrap64 (x + 1))))
 have NB3 := Hj (NB.out.far (p := ⟨R, 5, none⟩) (Nat.ne_of_gt (Nat.lt_succ_of_lt lR)) (.int .i64 (wrap64 (x + 1))))
 go_upto_region 2 with fail
 change (Code.region 2 _ _).wp _ _ _ (wy.setCell ⟨R, 5, none⟩ (.int .i64 (wrap64 (x + 1))))
 clear b1 F OB2 NB F1 e1 m5 z5 HW1
 generalize wy.setCell ⟨R, 5, none⟩ (.int .i64 (wrap64 (x + 1))) = w2 at *
 have HX : Hid (∀ y : Int, 0 ≤ y → y ≤ 2000 → x = y → wrap64 (x + 1) = y + 1) := fun y h0 h1 e => by unfold wrap64; subst e; omega
 generalize wrap64 (x + 1) = x1 at *
 have m5 : w2.cell? ⟨R, 5, none⟩ = some (.int .i64 x1) := HW2.out.blk.cell 5
 have e1 : w2.cell? ⟨w.heap.size, 1, none⟩ = some (.int .i64 e.ps) := OB3.out.cell 1
 by_cases c : 2000 < x1
 ·go_wp2_with fail
  refine (rrfail_w R T o cp l i er a n x1 112 e.ps w2 HW2.out).mono ?_
  rintro q w3 ⟨rfl, hw, hf⟩
  have HW3 := Hj hw
  have HF3 := Hj (fx_trans HF2.out hf)
  have OB4 := Hj (hf.blk OB3.out OB3.out.lt (Nat.ne_of_gt lR))
  have NB4 := Hj (hf.blk NB3.out NB3.out.lt (Nat.ne_of_gt (Nat.lt_succ_of_lt lR)))
  clear hw hf m5 e1 HW2 HF2 OB3 NB3
  go_wp2_with (first
   | refine ld_ex e w.heap.size OB4.out rfl _ rfl rfl ?_
   | refine st_ex e (w.heap.size + 1) _ NB4.out rfl rfl _ _ rfl rfl rfl ?_)
  refine bodyPost_ret (rs_ex rfl _ _ (w.heap.size + 1) e rfl (NB4.out.rowS _)) rfl ⟨rfl, ⟨T, o, cp, l, i, _, _, n, x1, HW3.out.fx (wr1_row w3 (w.heap.size + 1) _).1 HW3.out.lt (fun k hk (q : k = w.heap.size + 1) => by omega), ?_⟩, fx_row HF3.out (.inr (Nat.le_succ _)) _⟩
  have g := HG.out
  cases r with
  | no c' p' =>
   obtain ⟨rfl, rfl, g3⟩ := g
   exact ⟨if_neg g3, if_neg g3, g3⟩
  | ok q s =>
   obtain ⟨rfl, rfl, g3, g4, g5, g6, g7⟩ := g
   have hx := HX.out s.nx (Int.natCast_nonneg _) (by omega) g4
   have e3 : whole e0 s = .no 112 e.ps := by rw [← HPS.out]; exact if_pos (by omega)
   show Gh (whole e0 s) _ _ _ _ _ _
   rw [e3]
   exact ⟨if_pos rfl, if_pos rfl, by decide⟩
 ·go_wp2_with (first
   | refine ld_ex e w.heap.size OB3.out rfl _ rfl rfl ?_
   | refine st_ex e (w.heap.size + 1) _ NB3.out rfl rfl _ _ rfl rfl rfl ?_)
  refine bodyPost_ret (rs_ex rfl _ _ (w.heap.size + 1) e rfl (NB3.out.rowS _)) rfl ⟨rfl, ⟨T, o, cp, l, i, _, _, n, x1, HW2.out.fx (wr1_row w2 (w.heap.size + 1) _).1 HW2.out.lt (fun k hk (q : k = w.heap.size + 1) => by omega), ?_⟩, fx_row HF2.out (.inr (Nat.le_succ _)) _⟩
  have g := HG.out
  cases r with
  | no c' p' => exact g
  | ok q s =>
   obtain ⟨g1, g2, g3, g4, g5, g6, g7⟩ := g
   have hx := HX.out s.nx (Int.natCast_nonneg _) (by omega) g4
   have e3 : whole e0 s = .ok e0 ⟨s.ts, s.ns, s.nx + 1⟩ := if_neg (by omega)
   show Gh (whole e0 s) _ _ _ _ _ _
   rw [e3]
   exact ⟨g1, g2, g3, by show x1 = ((s.nx + 1 : Nat) : Int); omega, g5, g6, by show s.nx + 1 ≤ 2000; omega⟩
def bsL : List (List UInt8) := [[43], [45], [42], [47], [60], [60, 61], [61, 61], [33, 61], [62], [62, 61], [38, 38], [124, 124]]
def blL : List Int := [3, 3, 4, 4, 2, 2, 2, 2, 2, 2, 1, 0]
theorem map_at {β : Type} (f : β → Value) (d : β) (l : List β) {j : Nat} (h : j < l.length) : (l.map f).toArray[j]? = some (f (l.getD j d)) := by
 rw [List.getElem?_toArray, List.getElem?_map, List.getD_eq_getElem?_getD, List.getElem?_eq_getElem h]
 rfl
theorem sg_res : ∀ j, j < 12 → bsL.getD j [] ∈ resW := by decide
theorem sg_hit : ∀ j, j < 12 → ∀ n : Nat, n < 5 → blL.getD j 0 = n → sgO n (bsL.getD j []) = 5 + j := by decide
theorem sg_miss (n : Nat) (hn : n < 5) (x : List UInt8) (h : ∀ j, j < 12 → ¬ (bsL.getD j [] = x ∧ blL.getD j 0 = n)) : sgO n x = 0 := by
 have h0 := h 0 (by decide); have h1 := h 1 (by decide); have h2 := h 2 (by decide); have h3 := h 3 (by decide); have h4 := h 4 (by decide); have h5 := h 5 (by decide)
 have h6 := h 6 (by decide); have h7 := h 7 (by decide); have h8 := h 8 (by decide); have h9 := h 9 (by decide); have h10 := h 10 (by decide); have h11 := h 11 (by decide)
 clear h
 simp only [bsL, blL, List.getD_cons_zero, List.getD_cons_succ, not_and, eq_comm (b := x)] at h0 h1 h2 h3 h4 h5 h6 h7 h8 h9 h10 h11
 unfold sgO
 have : n = 0 ∨ n = 1 ∨ n = 2 ∨ n = 3 ∨ n = 4 := by omega
 rcases this with rfl | rfl | rfl | rfl | rfl
 ·rw [if_pos rfl, if_neg (fun e => h11 e rfl)]
 ·rw [if_neg (by decide), if_pos rfl, if_neg (fun e => h10 e rfl)]
 ·rw [if_neg (by decide), if_neg (by decide), if_pos rfl, if_neg (fun e => h4 e rfl), if_neg (fun e => h5 e rfl), if_neg (fun e => h6 e rfl), if_neg (fun e => h7 e rfl), if_neg (fun e => h8 e rfl), if_neg (fun e => h9 e rfl)]
 ·rw [if_neg (by decide), if_neg (by decide), if_neg (by decide), if_pos rfl, if_neg (fun e => h0 e rfl), if_neg (fun e => h1 e rfl)]
 ·rw [if_neg (by decide), if_neg (by decide), if_neg (by decide), if_neg (by decide), if_neg (fun e => h2 e rfl), if_neg (fun e => h3 e rfl)]
set_option maxHeartbeats 3200000 in
theorem rrbinary_any {α : Type} (R : Nat) (r : Rs α) (n : Nat) (hn : n < 5) (w : World) (h : U R r w) :
  Calls Tryz.prog 75 #[.pointer (some ⟨R, 0, none⟩), .int .i64 (n : Int)] w fun e w' => ∃ op : Int, e = .returned (.int .u8 op) ∧ (∀ a s, r = .ok a s → op = sgO n s.hd.tx) ∧ Below w.heap.size w w' := by
 have HU := Hj h
 clear h
 have B0 : Blk (w.alloc (.cells (bsL.map fun x => Value.string ⟨x.toArray⟩).toArray 9)) w.heap.size 9 (bsL.map fun x => Value.string ⟨x.toArray⟩).toArray := Blk.new _ _ _
 have GS : Hid (Blk ((w.alloc (.cells (bsL.map fun x => Value.string ⟨x.toArray⟩).toArray 9)).alloc (.cells (blL.map fun x => Value.int .i64 x).toArray 3)) w.heap.size 9 (bsL.map fun x => Value.string ⟨x.toArray⟩).toArray) := B0.alloc _
 have GL : Hid (Blk ((w.alloc (.cells (bsL.map fun x => Value.string ⟨x.toArray⟩).toArray 9)).alloc (.cells (blL.map fun x => Value.int .i64 x).toArray 3)) (w.heap.size + 1) 3 (blL.map fun x => Value.int .i64 x).toArray) := by
  have := Blk.new (w.alloc (.cells (bsL.map fun x => Value.string ⟨x.toArray⟩).toArray 9)) 3 (blL.map fun x => Value.int .i64 x).toArray
  rw [World.size_alloc] at this
  exact this
 have HB : Hid (Below w.heap.size w ((w.alloc (.cells (bsL.map fun x => Value.string ⟨x.toArray⟩).toArray 9)).alloc (.cells (blL.map fun x => Value.int .i64 x).toArray 3))) := bel_alloc (bel_one w _) _
 have HU1 := Hj (HU.out.below HB.out)
 clear B0 HU
 go_enter Tryz.func75, Tryz.ntmps75
 go_upto_block 0 with fail
 change Code.wp _ _ _ _ ((w.alloc (.cells (bsL.map fun x => Value.string ⟨x.toArray⟩).toArray 9)).alloc (.cells (blL.map fun x => Value.int .i64 x).toArray 3))
 generalize (w.alloc (.cells (bsL.map fun x => Value.string ⟨x.toArray⟩).toArray 9)).alloc (.cells (blL.map fun x => Value.int .i64 x).toArray 3) = w1 at *
 go_wp2_with fail
 go_loopg [7] 12 (fun gk i wr => ∃ j : Nat, i = .int .i64 (j : Int) ∧ Hid (gk = 12 - j ∧ j ≤ 12) ∧ Hid (∀ a s, r = .ok a s → ∀ k, k < j → ¬ (bsL.getD k [] = s.hd.tx ∧ blL.getD k 0 = n)) ∧ Hid (Below w1.heap.size w1 wr))
 case atStart => exact ⟨0, rfl, ⟨rfl, by decide⟩, (fun a s _ k hk => absurd hk (Nat.not_lt_zero k)), Below.refl _ _⟩
 case round =>
  obtain ⟨j, rfl, HJ, HM, HR⟩ := hrel
  have j12 := HJ.out.2
  by_cases c : j < 12
  ·have i0 : (0 : Int) ≤ (j : Int) := Int.natCast_nonneg _
   have i1 : (j : Int) < 12 := by omega
   have m0 : wr.cell? ⟨w.heap.size, j, none⟩ = some (.string ⟨(bsL.getD j []).toArray⟩) := ((GS.out.below HR.out GS.out.lt).cell j).trans (map_at _ [] bsL c)
   have IS := Hj (rris_any R r (bsL.getD j []) (sg_res j c) wr (HU1.out.below HR.out))
   go_wp2_with fail
   refine IS.out.mono ?_
   rintro e w2 ⟨b, rfl, hb, bl⟩
   have HB2 := Hj hb
   have HR2 := Hj (bel_trans HR.out bl)
   obtain ⟨bv, hbv⟩ : ∃ bv, blL.getD j 0 = bv := ⟨_, rfl⟩
   have m1 : w2.cell? ⟨w.heap.size + 1, j, none⟩ = some (.int .i64 bv) := by
    rw [← hbv]
    exact ((GL.out.below HR2.out GL.out.lt).cell j).trans (map_at _ 0 blL c)
   have HBV := Hj hbv
   clear m0 IS hb bl HR hbv
   have ov : IntKind.i64.wrap ((j : Int) + 1) = (j : Int) + 1 := by rw [IntKind.wrap_i64]; omega
   have ov8 : IntKind.u8.wrap (5 + (j : Int)) = 5 + (j : Int) := by rw [IntKind.wrap_u8]; omega
   have ov9 : IntKind.u8.wrap (j : Int) = (j : Int) := by rw [IntKind.wrap_u8]; omega
   cases b with
   | false =>
    go_wp2_with fail
    go_roundg (12 - (j + 1))
    case measure => have := HJ.out.1; omega
    case rel =>
     refine ⟨j + 1, rfl, ⟨rfl, c⟩, fun a s hr k hk => ?_, HR2.out⟩
     by_cases ck : k = j
     ·subst ck
      intro h1
      have h2 := HB2.out a s hr
      rw [h1.1] at h2
      simp at h2
     ·exact HM.out a s hr k (by omega)
   | true =>
    by_cases c3 : bv = n
    ·have e3 := b_eq c3
     go_wp2_with fail
     go_ret
     refine ⟨_, rfl, fun a s hr => ?_, bel_trans HB.out HR2.out⟩
     have h2 : s.hd.tx = bsL.getD j [] := of_decide_eq_true (by simpa using (HB2.out a s hr).symm)
     rw [h2]
     exact (sg_hit j c n hn (HBV.out.trans c3)).symm
    ·have e3 := b_ne c3
     go_wp2_with fail
     go_roundg (12 - (j + 1))
     case measure => have := HJ.out.1; omega
     case rel =>
      refine ⟨j + 1, rfl, ⟨rfl, c⟩, fun a s hr k hk => ?_, HR2.out⟩
      by_cases ck : k = j
      ·subst ck
       exact fun h1 => c3 (HBV.out.symm.trans h1.2)
      ·exact HM.out a s hr k (by omega)
  ·have ci : ¬ (j : Int) < 12 := by omega
   go_wp2_with fail
   go_ret
   refine ⟨_, rfl, fun a s hr => (sg_miss n hn s.hd.tx (fun k hk => HM.out a s hr k (by omega))).symm, bel_trans HB.out HR.out⟩
end Go.Proofs.YthmlhkllbichgaaGreatDoor
