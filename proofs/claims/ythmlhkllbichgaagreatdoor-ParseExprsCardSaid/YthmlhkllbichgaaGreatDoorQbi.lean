/-
  ParseExprs holds, tied to the program's text. (part 35 of 36) Conditions: none beside what the card ties.
-/
import Derived.Test.YthmlhkllbichgaaGreatDoorQbh
import Derived.Test.YthmlhkllbichgaaGreatDoorQbc
import Derived.Test.YthmlhkllbichgaaGreatDoorQbe
import Derived.Test.YthmlhkllbichgaaGreatDoorQah
import Derived.Test.YthmlhkllbichgaaGreatDoorQaj
import Derived.ProofKit
import Derived.OpenShut
import Derived.ChangeOld
import Derived.LaidMore
import Derived.Stop.Joined
import Derived.Lib.SmallJoins
import Derived.Test.YthmlhkllbichgaaGreatDoorQag
import Derived.Deep.Slices
import Derived.Deep.Fields
import Derived.ChangeSame
import Derived.Test.YthmlhkllbichgaaGreatDoorQab
import Derived.Lay
import Derived.HandedShaped
import Derived.LaidLaws
import Derived.Shelf.Vars
import Derived.Test.YthmlhkllbichgaaGreatDoorQao
import Derived.Test.YthmlhkllbichgaaGreatDoorQbd
namespace Go.Proofs.YthmlhkllbichgaaGreatDoor
open Go.RowKit Go.Maps
set_option maxRecDepth 100000
theorem rru_any (R : Nat) : ∀ k, k ≤ 24 → RU R k
 | 0, h => rrunary_of R 0 h (rratom_of R 0 h (rrwithin_of R 0 h (fun k' e => by cases e))) (fun k' e => by cases e)
 | k + 1, h => rrunary_of R (k + 1) h (rratom_of R (k + 1) h (rrwithin_of R (k + 1) h (fun k' e => by cases e; exact rrlevel_any R k (rru_any R k (Nat.le_of_succ_le h)) 5 (Nat.le_refl _)))) (fun k' e => by cases e; exact rru_any R k (Nat.le_of_succ_le h))
theorem rrex_any {α : Type} (R k : Nat) (hk : k ≤ 24) (r : Rs α) (w : World) (d : Int) (hd : d + k = 24) (h : U R r w) : Calls Tryz.prog 41 #[.pointer (some ⟨R, 0, none⟩), .int .i64 0, .int .i64 d] w (PX R w (r.bind fun _ s => exK k s)) :=
 rrlevel_any R k (rru_any R k hk) 5 (Nat.le_refl _) α r w d 0 hd rfl h
theorem tk_last {l : List Tk} (hg : Good l) {i : Nat} (hi : i < l.length) (hk : (tkAt l i).kd = 0) : ¬ i + 1 < l.length := by
 have h := good_at hg i hi
 have h2 := drop_hd l i
 have h3 : (l.drop i).length = l.length - i := List.length_drop ..
 cases e : l.drop i with
 | nil => rw [e, List.length_nil] at h3; omega
 | cons t q =>
  rw [e] at h h2 h3
  rcases h with ⟨rfl, -⟩ | ⟨h, -⟩
  ·have h3 : 1 = l.length - i := h3
   omega
  ·have : t = tkAt l i := h2
   subst this
   have := h.kd
   omega
set_option maxHeartbeats 3200000 in
theorem rrnext_end {α : Type} (R : Nat) (r : Rs α) (w : World) (h : U R r w) (hk : ∀ a s, r = .ok a s → s.hd.kd = 0) :
  Calls Tryz.prog 68 #[.pointer (some ⟨R, 0, none⟩)] w fun e w' => ∃ t, e = .returned t.v ∧ Hd t ∧ (∀ a s, r = .ok a s → t = s.hd) ∧ U R r w' ∧ Fx (On R) w.heap.size w w' := by
 obtain ⟨T, o, c, l, i, e, a, n, x, H, g⟩ := h
 have BL : Below w.heap.size w (w.alloc zT) := bel_one w _
 have HW := Hj (H.below BL)
 have HG := Hj g
 have HK := Hj hk
 have k0 : Blk (w.alloc zT) w.heap.size 62 #[.int .u8 0, .int .i64 0, .string ⟨#[]⟩, .int .i32 0, .int .u64 0] := Blk.new _ _ _
 have HNB := Hj k0
 have HF : Hid (Fx (On R) w.heap.size w (w.alloc zT)) := Fx.of BL
 have HRL : Hid (R < w.heap.size) := H.lt
 clear H g hk BL k0
 go_enter Tryz.func68, Tryz.ntmps68
 go_upto_region 1 with fail
 change (Code.region 1 _ _).wp _ _ _ (w.alloc zT)
 generalize w.alloc zT = w0 at *
 go_wp2_with fail
 refine (rrtok_w R T o c l i e a n x w0 HW.out).mono ?_
 rintro e' w1 ⟨rfl, hb⟩
 have hb2 : Below w0.heap.size w0 (w1.alloc (.cells (tkAt l i).vs 62)) := bel_alloc hb _
 have HW2 := Hj (HW.out.below hb2)
 have HNB2 := Hj (HNB.out.below hb2 HNB.out.lt)
 have TB : Hid (Blk (w1.alloc (.cells (tkAt l i).vs 62)) w1.heap.size 62 (tkAt l i).vs) := Blk.new _ _ _
 have HF2 := Hj (fx_bel HF.out hb2)
 have HTN : Hid (w.heap.size < w1.heap.size ∧ w.heap.size ≠ w1.heap.size ∧ R ≠ w1.heap.size) := by
  have h1 := Nat.lt_of_lt_of_le HNB.out.lt hb.size
  have h2 := HRL.out
  exact ⟨h1, by omega, by omega⟩
 clear hb hb2 HW HNB HF
 unfold Tk.v
 go_upto_region 2 with fail
 change (Code.region 2 _ _).wp _ _ _ (w1.alloc (.cells (tkAt l i).vs 62))
 generalize w1.alloc (.cells (tkAt l i).vs 62) = w2 at *
 generalize w1.heap.size = tb at *
 have HD : Below w2.heap.size w2 w2.drew := bel_drew (Below.refl _ _)
 have HW3 := Hj (HW2.out.below HD)
 have HNB3 := Hj (HNB2.out.below HD HNB2.out.lt)
 have TB3 := Hj (TB.out.below HD TB.out.lt)
 have HF3 := Hj (fx_bel HF2.out HD)
 have HS0 : w2.drew.cell? ⟨R, 0, none⟩ = some (.slice (some ⟨T, o, none⟩) l.length c) ∧ w2.drew.cell? ⟨R, 1, none⟩ = some (.int .i64 (i : Int)) := ⟨HW3.out.blk.cell 0, HW3.out.blk.cell 1⟩
 have hl9 : l.length ≤ maxLen := Nat.le_trans HW3.out.lc HW3.out.cm
 unfold maxLen at hl9
 have ov : IntKind.i64.wrap ((l.length : Int) - 1) = (l.length : Int) - 1 := by rw [IntKind.wrap_i64]; omega
 clear HD HW2 HNB2 TB HF2
 refine region_tree (S := fun w' => w'.cell? ⟨R, 0, none⟩ = some (.slice (some ⟨T, o, none⟩) l.length c) ∧ w'.cell? ⟨R, 1, none⟩ = some (.int .i64 (i : Int))) _ (.take 0 (.take 1 (.take 2 (.take 3 (.take 4 (.take 5 (.take 6 (.take 7 (.take 8 (.take 9 (.take 10 .done))))))))))) (by kernel_rfl) (by kernel_rfl) rfl (by kernel_rfl) (by kernel_rfl) (fun _ _ d _ _ h => by cases d <;> exact h) HS0 ?_
 clear HS0
 generalize w2.drew = w3 at *
 iterate 11
  refine WalkT.take (v := ?_) rfl (by rfl) ?_ ?_
  rotate_left
  ·(intro w' hSw; obtain ⟨r0, r1⟩ := hSw; go_simp <;> with_reducible rfl)
  try simp only [Act.put, List.setIfInBounds_toArray, List.set_cons_zero, List.set_cons_succ]
 refine WalkT.done ?_
 have hiw := HW3.out.hi
 by_cases hlt : i + 1 < l.length
 ·have d1 : (i : Int) < (l.length : Int) - 1 := by omega
  have m1 : w3.cell? ⟨R, 1, none⟩ = some (.int .i64 (i : Int)) := HW3.out.blk.cell 1
  have z1 : w3.frozen? ⟨R, 1, none⟩ = false := HW3.out.blk.frozen 1
  have ov2 : IntKind.i64.wrap ((i : Int) + 1) = (i : Int) + 1 := by rw [IntKind.wrap_i64]; omega
  have b1 : Blk (w3.setCell ⟨R, 1, none⟩ (.int .i64 ((i : Int) + 1))) R 74 #[.slice (some ⟨T, o, none⟩) l.length c, .int .i64 ((i + 1 : Nat) : Int), .int .i64 e, .int .i64 a, .int .i64 n, .int .i64 x] := HW3.out.blk.set_ 1 (.int .i64 ((i : Int) + 1))
  have F := fx_set (Fx.refl (On R) _ w3) (p := ⟨R, 1, none⟩) (.inl rfl) (.int .i64 ((i : Int) + 1))
  have HW4 := Hj (HW3.out.nums (i' := i + 1) b1 F hlt)
  have HNB4 := Hj (HNB3.out.far (p := ⟨R, 1, none⟩) (Nat.ne_of_gt HRL.out) (.int .i64 ((i : Int) + 1)))
  have TB4 := Hj (TB3.out.far (p := ⟨R, 1, none⟩) (Ne.symm HTN.out.2.2) (.int .i64 ((i : Int) + 1)))
  have HF4 := Hj (fx_trans HF3.out F)
  clear b1 F HW3 HNB3 TB3 HF3 hiw
  go_upto_region 4 with fail
  change (Code.region 4 _ _).wp _ _ _ (w3.setCell ⟨R, 1, none⟩ (.int .i64 ((i : Int) + 1)))
  clear m1 z1 ov ov2
  generalize w3.setCell ⟨R, 1, none⟩ (.int .i64 ((i : Int) + 1)) = w4 at *
  go_wp2_with (first
   | refine ld_tok (tkAt l i) tb TB4.out rfl _ rfl rfl ?_
   | refine st_tok (tkAt l i) w.heap.size _ HNB4.out rfl rfl _ _ rfl rfl rfl ?_)
  refine bodyPost_ret (rs_tok rfl _ _ w.heap.size (tkAt l i) rfl (HNB4.out.rowS _)) rfl ⟨_, rfl, hd_at HW4.out.good (Nat.lt_of_succ_lt HW4.out.hi), fun b s hr => ?_, ⟨T, o, c, l, i + 1, e, a, n, x, HW4.out.fx (wr1_row w4 w.heap.size _).1 HW4.out.lt (fun k hk (q : k = w.heap.size) => by have := HRL.out; omega), ?_⟩, fx_row HF4.out (.inr (Nat.le_refl _)) _⟩
  ·subst hr
   obtain ⟨-, -, -, -, g, -⟩ := HG.out
   unfold PS.hd
   rw [g, drop_hd]
  ·have g := HG.out
   cases r with
   | no c' p' => exact g
   | ok q s =>
    have hk := HK.out q s rfl
    obtain ⟨-, -, -, -, g5, -⟩ := g
    unfold PS.hd at hk
    rw [g5, drop_hd] at hk
    exact absurd HW4.out.hi (tk_last HW4.out.good (Nat.lt_of_succ_lt HW4.out.hi) hk)
 ·have d1 : ¬ (i : Int) < (l.length : Int) - 1 := by omega
  go_wp2_with (first
   | refine ld_tok (tkAt l i) tb TB3.out rfl _ rfl rfl ?_
   | refine st_tok (tkAt l i) w.heap.size _ HNB3.out rfl rfl _ _ rfl rfl rfl ?_)
  refine bodyPost_ret (rs_tok rfl _ _ w.heap.size (tkAt l i) rfl (HNB3.out.rowS _)) rfl ⟨_, rfl, hd_at HW3.out.good HW3.out.hi, fun b s hr => ?_, ⟨T, o, c, l, i, e, a, n, x, HW3.out.fx (wr1_row w3 w.heap.size _).1 HW3.out.lt (fun k hk (q : k = w.heap.size) => by have := HRL.out; omega), ?_⟩, fx_row HF3.out (.inr (Nat.le_refl _)) _⟩
  ·subst hr
   obtain ⟨-, -, -, -, g, -⟩ := HG.out
   unfold PS.hd
   rw [g, drop_hd]
  ·have g := HG.out
   cases r with
   | no c' p' => exact g
   | ok q s =>
    exact g
set_option maxHeartbeats 3200000 in
theorem rrend_any {α : Type} (R : Nat) (r : Rs α) (w : World) (h : U R r w) :
  Calls Tryz.prog 32 #[.pointer (some ⟨R, 0, none⟩), .int .u8 0] w fun e w' => ∃ t : Tk, e = .returned t.v ∧ U R (r.bind fun _ s => endT () s) w' ∧ Fx (On R) w.heap.size w w' := by
 have BL : Below w.heap.size w (w.alloc zT) := bel_one w _
 have k0 : Blk (w.alloc zT) w.heap.size 62 #[.int .u8 0, .int .i64 0, .string ⟨#[]⟩, .int .i32 0, .int .u64 0] := Blk.new _ _ _
 have HNB := Hj k0
 have HF : Hid (Fx (On R) w.heap.size w (w.alloc zT)) := Fx.of BL
 have HRL : Hid (R < w.heap.size) := h.lt
 have HU := Hj (h.below BL)
 clear k0 BL h
 go_enter Tryz.func32, Tryz.ntmps32
 go_upto_region 1 with fail
 change (Code.region 1 _ _).wp _ _ _ (w.alloc zT)
 generalize w.alloc zT = w0 at *
 go_wp2_with fail
 refine (rrtok_any R r w0 HU.out).mono ?_
 rintro e w1 ⟨t, rfl, htd, ht, hb⟩
 have hb2 : Below w0.heap.size w0 (w1.alloc (.cells t.vs 62)) := bel_alloc hb _
 have HU2 := Hj (HU.out.below hb2)
 have HNB2 := Hj (HNB.out.below hb2 HNB.out.lt)
 have TB : Hid (Blk (w1.alloc (.cells t.vs 62)) w1.heap.size 62 t.vs) := Blk.new _ _ _
 have HF2 := Hj (fx_bel HF.out hb2)
 have HT := Hj ht
 have HTD := Hj htd
 clear hb hb2 HNB HF ht htd HU
 unfold Tk.v
 go_upto_region 2 with fail
 change (Code.region 2 _ _).wp _ _ _ (w1.alloc (.cells t.vs 62))
 generalize w1.alloc (.cells t.vs 62) = w2 at *
 generalize w1.heap.size = tb at *
 obtain ⟨er, m2, he⟩ := HU2.out.err
 have HE := Hj he
 have t0 : w2.cell? ⟨tb, 0, none⟩ = some (.int .u8 t.kd) := TB.out.cell 0
 have t1 : w2.cell? ⟨tb, 1, none⟩ = some (.int .i64 t.ps) := TB.out.cell 1
 clear he
 have BADC : Hid ((∀ a s, r = .ok a s → s.hd.kd ≠ 0) → ∀ w3, U R (r.bind fun _ _ => (.no 110 t.ps : Rs Unit)) w3 → U R (r.bind fun _ s => endT () s) w3) := fun hn w3 hu => by
  cases r with
  | no c p => exact hu.of rfl
  | ok a s =>
   have e : endT () s = .no 110 t.ps := by
    unfold endT bad
    rw [if_neg (hn a s rfl), HT.out a s rfl]
   exact hu.of (by show _ = (endT () s).st; rw [e]; rfl)
 by_cases c : t.kd = 0
 ·have e4 : (t.kd == 0) = true := b_eq c
  cases hr : r with
  | no c' p' =>
   have e0 : (er == 0) = false := b_ne (fun e => by have := HE.out.1 e; rw [hr] at this; cases this)
   subst hr
   go_wp2_with fail
   refine (rrfail_any R _ 110 t.ps (by decide) w2 HU2.out).mono ?_
   rintro e w3 ⟨rfl, hu, hf⟩
   have hu2 := BADC.out (fun a s e => by cases e) w3 hu
   have HU3 := Hj hu2
   have HNB3 := Hj (hf.blk HNB2.out HNB2.out.lt (Nat.ne_of_gt HRL.out))
   have HF3 := Hj (fx_trans HF2.out hf)
   clear hu hf hu2 HU2 HNB2 HF2 m2 t0 t1 TB
   go_wp2_with (refine st_tok noT w.heap.size _ HNB3.out rfl rfl _ _ rfl rfl rfl ?_)
   exact bodyPost_ret (rs_tok rfl _ _ w.heap.size noT rfl (HNB3.out.rowS _)) rfl ⟨_, rfl, HU3.out.fx (wr1_row w3 w.heap.size _).1 HU3.out.lt (fun k hk (q : k = w.heap.size) => by have := HRL.out; omega), fx_row HF3.out (.inr (Nat.le_refl _)) _⟩
  | ok a s =>
   have e0 : er = 0 := HE.out.2 (by rw [hr]; rfl)
   subst e0
   subst hr
   have hts := HT.out a s rfl
   have NX := Hj (rrnext_end R (.ok a s) w2 HU2.out (fun a' s' e => by cases e; rw [← hts, c]))
   have e5 : endT () s = .ok () s := by unfold endT; rw [if_pos (by rw [← hts]; exact c)]
   clear hts
   go_wp2_with fail
   refine NX.out.mono ?_
   rintro e w3 ⟨t', rfl, htd, ht', hu, hf⟩
   have HU3 := Hj hu
   have HNB3 := Hj (hf.blk HNB2.out HNB2.out.lt (Nat.ne_of_gt HRL.out))
   have HF3 := Hj (fx_trans HF2.out hf)
   clear hu hf ht' htd NX HU2 HNB2 HF2 m2 t0 t1 TB
   go_wp2_with (refine st_tok t' w.heap.size _ HNB3.out rfl rfl _ _ rfl rfl rfl ?_)
   refine bodyPost_ret (rs_tok rfl _ _ w.heap.size t' rfl (HNB3.out.rowS _)) rfl ⟨_, rfl, (HU3.out.fx (wr1_row w3 w.heap.size _).1 HU3.out.lt (fun k hk (q : k = w.heap.size) => by have := HRL.out; omega)).of ?_, fx_row HF3.out (.inr (Nat.le_refl _)) _⟩
   show _ = (endT () s).st
   rw [e5]
   rfl
 ·have e4 : (t.kd == 0) = false := b_ne c
  go_wp2_with fail
  refine (rrfail_any R r 110 t.ps (by decide) w2 HU2.out).mono ?_
  rintro e w3 ⟨rfl, hu, hf⟩
  have hu2 := BADC.out (fun a s e => by rw [← HT.out a s e]; exact c) w3 hu
  have HU3 := Hj hu2
  have HNB3 := Hj (hf.blk HNB2.out HNB2.out.lt (Nat.ne_of_gt HRL.out))
  have HF3 := Hj (fx_trans HF2.out hf)
  clear hu hf hu2 HU2 HNB2 HF2 m2 t0 t1 TB
  go_wp2_with (refine st_tok noT w.heap.size _ HNB3.out rfl rfl _ _ rfl rfl rfl ?_)
  exact bodyPost_ret (rs_tok rfl _ _ w.heap.size noT rfl (HNB3.out.rowS _)) rfl ⟨_, rfl, HU3.out.fx (wr1_row w3 w.heap.size _).1 HU3.out.lt (fun k hk (q : k = w.heap.size) => by have := HRL.out; omega), fx_row HF3.out (.inr (Nat.le_refl _)) _⟩
theorem results_x3 {P : Program} {fn : Func} {p q r : Tmp} {ty : TypeId} (h : fn.results = #[.cell p ty, .tmp q, .tmp r]) (tmps : Array Value) (w : World) (g : Nat) (t : TypeId) (cs : Array Value) (d : TypeDesc) (x y : Value)
  (hp : tmps.getD p undef = .pointer (some ⟨g, 0, none⟩)) (hq : tmps.getD q undef = x) (hr : tmps.getD r undef = y) (hg : Blk w g t cs)
  (hu : P.underlying ty = some d) (hd : (match d with | .struct _ | .array _ _ => true | _ => false) = true) (hi : (P.info? ty).map (·.size) = some cs.size) :
  (results fn tmps).run P w = .ok (.tuple #[.agg cs, x, y]) w := by
 have hp' : tmps[p]?.getD undef = .pointer (some ⟨g, 0, none⟩) := by simpa using hp
 have hq' : tmps[q]?.getD undef = x := by simpa using hq
 have hr' : tmps[r]?.getD undef = y := by simpa using hr
 simp [results, h, hp', hq', hr', asAddr, run_loadVar_row w g t ty cs (0, 0) d hg hu hd hi]
theorem u_new {w' : World} {R T o c : Nat} {l : List Tk} (hR : Blk w' R 74 #[.slice (some ⟨T, o, none⟩) l.length c, .int .i64 0, .int .i64 0, .int .i64 0, .int .i64 0, .int .i64 0]) (hT : T < R) (hr : w'.rangeAt T o (tksC l)) (hc : l.length ≤ c) (hm : c ≤ maxLen) (hg : Good l) : U R (.ok () ⟨l, 0, 0⟩) w' :=
 ⟨T, o, c, l, 0, 0, 0, 0, 0, ⟨hT, hR, hr, hc, hm, hg, hg.pos⟩, rfl, rfl, rfl, rfl, rfl, Nat.zero_le _, Nat.zero_le _⟩
theorem U.no {α : Type} {R : Nat} {c p : Int} {w : World} (h : U R (.no c p : Rs α) w) : w.cell? ⟨R, 2, none⟩ = some (.int .i64 c) ∧ w.cell? ⟨R, 3, none⟩ = some (.int .i64 p) ∧ c ≠ 0 := by
 obtain ⟨T, o, cp, l, i, e, a, n, x, H, g1, g2, g3⟩ := h
 subst g1
 subst g2
 exact ⟨H.blk.cell 2, H.blk.cell 3, g3⟩
theorem U.zero {α : Type} {R : Nat} {a : α} {s : PS} {w : World} (h : U R (.ok a s) w) : w.cell? ⟨R, 2, none⟩ = some (.int .i64 0) := by
 obtain ⟨T, o, cp, l, i, e, a, n, x, H, g1, -⟩ := h
 subst g1
 exact H.blk.cell 2
set_option maxHeartbeats 3200000 in
theorem rrExpr_any (l : List Tk) (T o c : Nat) (w : World) (hT : T < w.heap.size) (hr : w.rangeAt T o (tksC l)) (hc : l.length ≤ c) (hm : c ≤ maxLen) (hg : Good l) :
  Calls Tryz.prog 14 #[.slice (some ⟨T, o, none⟩) l.length c] w (PTop w (oneX 24 ⟨l, 0, 0⟩) .no (VX w.heap.size)) := by
 have hRn : Blk ((w.alloc zX).alloc (.cells #[.slice (some ⟨T, o, none⟩) l.length c, .int .i64 0, .int .i64 0, .int .i64 0, .int .i64 0, .int .i64 0] 74)) (w.heap.size + 1) 74 #[.slice (some ⟨T, o, none⟩) l.length c, .int .i64 0, .int .i64 0, .int .i64 0, .int .i64 0, .int .i64 0] := by
  have := Blk.new (w.alloc zX) 74 #[.slice (some ⟨T, o, none⟩) l.length c, .int .i64 0, .int .i64 0, .int .i64 0, .int .i64 0, .int .i64 0]
  rw [World.size_alloc] at this
  exact this
 have hb : Below w.heap.size w ((w.alloc zX).alloc (.cells #[.slice (some ⟨T, o, none⟩) l.length c, .int .i64 0, .int .i64 0, .int .i64 0, .int .i64 0, .int .i64 0] 74)) := bel_alloc (bel_one w _) _
 have HU : Hid (U (w.heap.size + 1) (.ok () ⟨l, 0, 0⟩ : Rs Unit) ((w.alloc zX).alloc (.cells #[.slice (some ⟨T, o, none⟩) l.length c, .int .i64 0, .int .i64 0, .int .i64 0, .int .i64 0, .int .i64 0] 74))) := u_new hRn (by omega) (rangeAt_blk hr (hb.block T hT)) hc hm hg
 have NB : Hid (Blk ((w.alloc zX).alloc (.cells #[.slice (some ⟨T, o, none⟩) l.length c, .int .i64 0, .int .i64 0, .int .i64 0, .int .i64 0, .int .i64 0] 74)) w.heap.size 41 zeroH.va) := (Blk.new w _ _).alloc _
 have HB := Hj hb
 clear hRn hb hT hr hc hm hg
 generalize hZ : oneX 24 ⟨l, 0, 0⟩ = Z
 have HZ := Hj hZ
 clear hZ
 generalize l.length = n at *
 go_enter Tryz.func14, Tryz.ntmps14
 go_upto_region 2 with fail
 change (Code.region 2 _ _).wp _ _ _ ((w.alloc zX).alloc (.cells #[.slice (some ⟨T, o, none⟩) n c, .int .i64 0, .int .i64 0, .int .i64 0, .int .i64 0, .int .i64 0] 74))
 generalize (w.alloc zX).alloc (.cells #[.slice (some ⟨T, o, none⟩) n c, .int .i64 0, .int .i64 0, .int .i64 0, .int .i64 0, .int .i64 0] 74) = w1 at *
 go_wp2_with fail
 refine (rrex_any (w.heap.size + 1) 24 (by decide) (.ok () ⟨l, 0, 0⟩) w1 0 (by decide) HU.out).mono ?_
 rintro q w2 ⟨b, rfl, xb, eb, h2, f2⟩
 change ∀ a s', exK 24 ⟨l, 0, 0⟩ = .ok a s' → b.eqv a at eb
 change U (w.heap.size + 1) (exK 24 ⟨l, 0, 0⟩) w2 at h2
 have HZ : Hid (((exK 24 ⟨l, 0, 0⟩).bind fun e s' => endT e s') = Z) := HZ
 generalize exK 24 ⟨l, 0, 0⟩ = P at *
 have BLb := bx_bel (Below.refl w2.heap.size w2) (Nat.le_refl _) (xO b.h)
 have hs2 := f2.size
 have hl1 := HU.out.lt
 have HX2 := Hj ((xb.imp (D' := fun k => w.heap.size + 1 < k) (fun k _ (x : w1.heap.size ≤ k) => by omega)).bel BLb)
 have BB : Hid (Blk (bx w2 (xO b.h)) w2.heap.size 41 b.h.va) := bx_ex w2 b.h
 have n1 := f2.blk NB.out NB.out.lt (fun (x : w.heap.size = w.heap.size + 1) => by omega)
 have NB2 := Hj (n1.below BLb n1.lt)
 have HB2 := Hj (bel_trans (fx_bel_of HB.out f2 (fun k hk (x : k = w.heap.size + 1) => by omega)) BLb)
 have HU2 := Hj (h2.below BLb)
 have EB := Hj eb
 have HG : Hid (w.heap.size + 1 < w2.heap.size) := by show _ < _; omega
 clear xb eb h2 f2 BLb hs2 hl1 n1 HU NB HB
 unfold EH.v
 go_upto_region 3 with fail
 rw [bx_x]
 change (Code.region 3 _ _).wp _ _ _ (bx w2 (xO b.h))
 generalize w2.heap.size = g at *
 generalize bx w2 (xO b.h) = w3 at *
 go_wp2_with fail
 refine (rrend_any (w.heap.size + 1) P w3 HU2.out).mono ?_
 rintro q w4 ⟨t, rfl, h4, f4⟩
 have BB4 := Hj (f4.blk BB.out BB.out.lt (on_ne HG.out))
 have NB4 := Hj (f4.blk NB2.out NB2.out.lt (fun (x : w.heap.size = w.heap.size + 1) => by omega))
 have HX4 := Hj (HX2.out.fx f4 (on_not (fun (x : w.heap.size + 1 < w.heap.size + 1) => Nat.lt_irrefl _ x)))
 have HB4 := Hj (fx_bel_of HB2.out f4 (fun k hk (x : k = w.heap.size + 1) => by omega))
 have HU4 : Hid (U (w.heap.size + 1) Z w4) := by
  show U _ Z w4
  rw [← HZ.out]
  refine h4.of ?_
  cases P with
  | no c p => rfl
  | ok e s' => show (endT () s').st = (endT e s').st; unfold endT; split <;> rfl
 have EBZ : Hid (∀ a s, Z = .ok a s → b.eqv a) := fun a s' e => by
  rw [← HZ.out] at e
  obtain ⟨e1, s1, h1, h2⟩ := ok_inv e
  unfold endT at h2
  split at h2
  ·cases h2; exact EB.out _ _ h1
  ·cases h2
 clear h4 f4 BB NB2 HX2 HB2 HU2 EB HZ
 cases Z with
 | ok e s =>
  have m2 := HU4.out.zero
  unfold Tk.v
  go_wp2_with (first
   | refine ld_ex b.h g BB4.out rfl _ rfl rfl ?_
   | refine st_ex b.h w.heap.size _ NB4.out rfl rfl _ _ rfl rfl rfl ?_)
  refine bodyPost_ret (results_x3 rfl _ _ w.heap.size 41 b.h.va _ _ _ rfl rfl rfl (NB4.out.rowS _) Tryz.underlying41 rfl (by kernel_rfl)) rfl ?_
  exact ⟨_, rfl, ⟨b, rfl, ((HX4.out.row (fun (x : w.heap.size + 1 < w.heap.size) => by omega) _).imp (fun k _ (x : w.heap.size + 1 < k) => (by show w.heap.size ≤ k; omega))), EBZ.out e s rfl⟩, HB4.out.trans (((wr1_row w4 w.heap.size _).1.mono HB4.out.size (fun _ _ x => x)).bel (fun k hk (x : k = w.heap.size) => Nat.ne_of_lt hk x))⟩
 | no c p =>
  obtain ⟨m2, m3, hc⟩ := HU4.out.no
  have e0 : (c == 0) = false := b_ne hc
  have HD : Below w4.heap.size w4 w4.drew := bel_drew (Below.refl _ _)
  have NB5 := Hj (NB4.out.below HD NB4.out.lt)
  have HB5 := Hj (bel_trans HB4.out HD)
  have HU5 := Hj (HU4.out.below HD)
  unfold Tk.v
  go_upto_region 5 with fail
  clear m2 m3 hc
  have HS0 : w4.drew.cell? ⟨w.heap.size + 1, 2, none⟩ = some (.int .i64 c) ∧ w4.drew.cell? ⟨w.heap.size + 1, 3, none⟩ = some (.int .i64 p) := ⟨HU5.out.no.1, HU5.out.no.2.1⟩
  refine region_tree (S := fun w' => w'.cell? ⟨w.heap.size + 1, 2, none⟩ = some (.int .i64 c) ∧ w'.cell? ⟨w.heap.size + 1, 3, none⟩ = some (.int .i64 p)) _ (.take 0 (.take 1 (.take 2 (.take 3 (.take 4 (.take 5 (.take 6 (.take 7 (.take 8 (.act 9 (.take 10 (.take 11 .done)))))))))))) (by kernel_rfl) (by kernel_rfl) rfl (by kernel_rfl) (by kernel_rfl) (fun _ _ d _ _ h => by cases d <;> exact h) HS0 ?_
  clear HB4 NB4 HU4 HD
  generalize w4.drew = w5 at *
  iterate 9
   refine WalkT.take (v := ?_) rfl (by rfl) ?_ ?_
   rotate_left
   ·(intro w' hSw; obtain ⟨r0, r1⟩ := hSw; go_simp <;> with_reducible rfl)
   try simp only [Act.put, List.setIfInBounds_toArray, List.set_cons_zero, List.set_cons_succ]
  refine WalkT.act rfl (by rfl) (fun K' hK => ?_)
  refine wp_store_row 41 _ _ rfl w.heap.size zeroH.va rfl rfl 41 _ NB5.out (by kernel_rfl) rfl (by simp [EH.va, Value.oneCell']) ?_
  have HB6 := Hj (HB5.out.trans (((wr1_row w5 w.heap.size zeroH.va).1.mono HB5.out.size (fun _ _ x => x)).bel (fun k hk (x : k = w.heap.size) => Nat.ne_of_lt hk x)))
  have NB6 := Hj (NB5.out.rowS zeroH.va)
  have hne : w.heap.size + 1 ≠ w.heap.size := Nat.succ_ne_self _
  refine hK.out _ _ ⟨(World.cell?_of_block (a := ⟨w.heap.size + 1, 2, none⟩) (setRow_other w5 w.heap.size (w.heap.size + 1) zeroH.va hne)).trans HU5.out.no.1, (World.cell?_of_block (a := ⟨w.heap.size + 1, 3, none⟩) (setRow_other w5 w.heap.size (w.heap.size + 1) zeroH.va hne)).trans HU5.out.no.2.1⟩ ?_
  clear hK K' hne
  generalize w5.setRow w.heap.size zeroH.va = w6 at *
  try simp only [Act.put]
  iterate 2
   refine WalkT.take (v := ?_) rfl (by rfl) ?_ ?_
   rotate_left
   ·(intro w' hSw; obtain ⟨r0, r1⟩ := hSw; go_simp <;> with_reducible rfl)
   try simp only [Act.put, List.setIfInBounds_toArray, List.set_cons_zero, List.set_cons_succ]
  refine WalkT.done ?_
  go_wp2_with fail
  refine bodyPost_ret (results_x3 rfl _ _ w.heap.size 41 zeroH.va _ _ _ rfl rfl rfl NB6.out Tryz.underlying41 rfl (by kernel_rfl)) rfl ?_
  exact ⟨_, rfl, noEx_v _ _, HB6.out⟩
end Go.Proofs.YthmlhkllbichgaaGreatDoor
namespace Go.Proofs.YthmlhkllbichgaaGreatDoor
open Go.RowKit
set_option maxRecDepth 100000
set_option maxHeartbeats 6400000 in
theorem lexprs_walk (s : ByteArray) (w : World) (hE : Env9 w) (hS : SgOk w) : Calls Tryz.prog 4 #[.string s] w fun r w' => r = .returned (.bool true) ∧ Below w.heap.size w w' := by
 have WK := Hj (works11_any w hE hS)
 have LX := Hj fun w hE => xLex_any s w hE
 have PE := Hj fun w hE => ppExpr_top s w hE
 have HE := Hj hE
 have RS : Hid (rsX s.data.toList = if (lexV s.data.toList).2.1 = 0 then oneX 24 ⟨(lexV s.data.toList).1, 0, 0⟩ else .no (lexV s.data.toList).2.1 ((lexV s.data.toList).2.2 : Nat)) := rfl
 have GL := Hj (good_lex (l := s.data.toList))
 clear hE hS
 generalize rsX s.data.toList = Z at *
 generalize lexV s.data.toList = L at *
 obtain ⟨ts, er, at_⟩ := L
 go_enter Tryz.func4, Tryz.ntmps4
 go_wp2_with fail
 refine WK.out.mono ?_
 rintro r w1 ⟨rfl, b1⟩
 have B1 := Hj b1
 clear b1 WK
 go_wp2_with fail
 refine (LX.out _ (HE.out.below B1.out)).mono ?_
 rintro r w2 ⟨v, rfl, own, b2⟩
 have B2 := Hj (bel_trans B1.out b2)
 have OW := Hj own
 clear b2 own LX B1
 dsimp only at OW ⊢
 by_cases c : er = 0
 ·subst c
  have HZ : Hid (Z = oneX 24 ⟨ts, 0, 0⟩) := RS.out
  have hg : Good ts := GL.out rfl
  obtain ⟨T, cp, rfl, hT, hT2, hr, hc1, hc2⟩ := own_tok (ts := ts) OW.out hg.pos
  have FT := Hj (And.intro hT2 (And.intro hr (And.intro hc1 (And.intro hc2 hg))))
  clear hT hT2 hr hc1 hc2 hg OW GL RS
  go_wp2_with fail
  refine (PE.out _ (HE.out.below B2.out)).mono ?_
  rintro r w3 ⟨v, rfl, ⟨a', rfl, xa, ea⟩, b3⟩
  have BLb := bx_bel (Below.refl w3.heap.size w3) (Nat.le_refl _) (xO a'.h)
  have XA := Hj ((xa.bel BLb).out)
  have GA : Hid ((bx w3 (xO a'.h)).heap[w3.heap.size]? = some (xO a'.h)) := bx_new w3 _
  have B3 := Hj (bel_trans b3 BLb)
  have BW3 := Hj (bel_trans B2.out B3.out)
  have EA := Hj ea
  clear xa ea b3 BLb PE B2
  unfold EH.v
  go_upto_region 6 with fail
  rw [bx_x]
  change Code.wp _ _ _ _ (bx w3 (xO a'.h))
  generalize w3.heap.size = ga at *
  generalize bx w3 (xO a'.h) = w4 at *
  have hl9 : (ts.length : Int) ≤ 9223372036854775807 := by
   have := FT.out.2.2.2.1
   have := FT.out.2.2.1
   unfold maxLen at *
   omega
  by_cases cl : (3000 : Int) < (ts.length : Int)
  ·go_wp2_with fail
   go_ret
   exact ⟨rfl, BW3.out⟩
  ·obtain ⟨hT2, hr, hc1, hc2, hg⟩ := FT.out
   have RX := Hj (rrExpr_any ts T 0 cp w4 (Nat.lt_of_lt_of_le hT2 B3.out.size) (rangeAt_blk hr (B3.out.block T hT2)) hc1 hc2 hg)
   rw [← HZ.out] at RX
   clear hT2 hr hc1 hc2 hg FT
   go_wp2_with fail
   refine RX.out.mono ?_
   rintro r w5 ⟨v, rfl, ⟨b', rfl, xb, eb⟩, b5⟩
   have BLb := bx_bel (Below.refl w5.heap.size w5) (Nat.le_refl _) (xO b'.h)
   have XB := Hj ((xb.bel BLb).out)
   have GB : Hid ((bx w5 (xO b'.h)).heap[w5.heap.size]? = some (xO b'.h)) := bx_new w5 _
   have B5 := Hj (bel_trans b5 BLb)
   have BW5 := Hj (bel_trans BW3.out B5.out)
   have GA5 := Hj (kept_obj B5.out GA.out)
   have XA5 := Hj ((XA.out.below B5.out (Nat.le_refl _)))
   have SM : Hid (a'.same b' = true) := Ex.trans (Ex.eqv_same EA.out) (Ex.symm (Ex.eqv_same eb))
   have PL : Hid (a'.pe b') := pe_eqv EA.out eb
   clear xb eb b5 BLb BW3 GA XA EA RX
   unfold EH.v
   go_upto_region 11 with fail
   rw [bx_x]
   change Code.wp _ _ _ _ (bx w5 (xO b'.h))
   generalize w5.heap.size = gb at *
   generalize bx w5 (xO b'.h) = w6 at *
   have XA6 : Hid (a'.In w6.heap.size w6) := Ex.In.mono (fun _ _ => rfl) B5.out.size XA5.out
   obtain ⟨x0, x1, x2, x3, x4, x5, x6⟩ := x_cells GA5.out
   obtain ⟨y0, y1, y2, y3, y4, y5, y6⟩ := x_cells GB.out
   clear B5 XA5
   go_wp2_with fail
   refine (gSameX_any w6.heap.size a' b' w6 XA6.out XB.out (Nat.le_refl _)).mono ?_
   rintro r w7 ⟨rfl, b7⟩
   rw [SM.out]
   have B7 := Hj b7
   clear b7 x0 x1 x2 x3 x4 x5 x6 y0 y1 y2 y3 y4 y5 y6
   obtain ⟨x0, x1, x2, x3, x4, x5, x6⟩ := x_cells (kept_obj B7.out GA5.out)
   obtain ⟨y0, y1, y2, y3, y4, y5, y6⟩ := x_cells (kept_obj B7.out GB.out)
   go_wp2_with fail
   refine (sameAt_any w6.heap.size a' b' PL.out w7 (XA6.out.below B7.out (Nat.le_refl _)) (XB.out.below B7.out (Nat.le_refl _)) B7.out.size).mono ?_
   rintro r w8 ⟨rfl, b8⟩
   have BW8 := Hj (bel_trans BW5.out (bel_trans B7.out b8))
   clear b8 x0 x1 x2 x3 x4 x5 x6 y0 y1 y2 y3 y4 y5 y6
   go_wp2_with fail
   go_ret
   exact ⟨rfl, BW8.out⟩
 ·have HZ : Hid (Z = .no er ((at_ : Nat) : Int)) := by show Z = _; rw [RS.out]; exact if_neg c
  have c2 := b_ne c
  have PE2 := Hj (PE.out w2 (HE.out.below B2.out))
  rw [HZ.out] at PE2
  clear PE RS GL OW c
  go_wp2_with fail
  refine PE2.out.mono ?_
  rintro r w3 ⟨v, rfl, ⟨a', rfl, xa, ea⟩, b3⟩
  have BLb := bx_bel (Below.refl w3.heap.size w3) (Nat.le_refl _) (xO a'.h)
  have B3 := Hj (bel_trans B2.out (bel_trans b3 BLb))
  clear xa ea b3 BLb PE2 B2
  dsimp only [Rs.er, Rs.pl]
  unfold EH.v
  go_upto_region 6 with fail
  rw [bx_x]
  change Code.wp _ _ _ _ (bx w3 (xO a'.h))
  generalize bx w3 (xO a'.h) = w4 at *
  go_wp2_with fail
  go_ret
  exact ⟨rfl, B3.out⟩
theorem lexprs_card (s : ByteArray) (w : World) (hE : Env9 w ∧ SgOk w) : Calls Tryz.prog 4 #[.string s] w fun r w' => r = .returned (.bool true) ∧ Below w.heap.size w w' := lexprs_walk s w hE.1 hE.2
end Go.Proofs.YthmlhkllbichgaaGreatDoor
namespace Go.Proofs.YthmlhkllbichgaaGreatDoor
open Go.ChangeShapes Go.WideShapes Go.ChangeAt Go.RowKit Go.Joins
set_option maxRecDepth 100000
theorem own : ownKnob Tryz.prog.godebug = none := by kernel_rfl
section
variable {H : Type} {enc : TypeId × Value → H} {w : World} {base : Nat} {spare : Nat → Bool} {held : Bool} {r : Reach} {bb : Nat} {v : Value} {d : DataW H} {p : List MemPlace}
end
theorem gTab : Tryz.prog.globalNamed "math/bits.deBruijn32tab" = some 10 := by kernel_rfl
theorem tTab : (Tryz.prog.globals[10]?).map (·.type) = some 313 := by kernel_rfl
theorem tab_at (l : List (DataW Unit)) (hl : Rows.laid_math_bits_deBruijn32tab = DataW.agg l) (j : Nat) (hj : j < 32) : l[j]? = some (.lit (.int .u8 ((Lib.deBruijn32tab.getD j 0 : Nat) : Int))) := by
 unfold Rows.laid_math_bits_deBruijn32tab at hl
 injection hl with hl
 subst hl
 match j, hj with
 | 0, _ => rfl
 | 1, _ => rfl
 | 2, _ => rfl
 | 3, _ => rfl
 | 4, _ => rfl
 | 5, _ => rfl
 | 6, _ => rfl
 | 7, _ => rfl
 | 8, _ => rfl
 | 9, _ => rfl
 | 10, _ => rfl
 | 11, _ => rfl
 | 12, _ => rfl
 | 13, _ => rfl
 | 14, _ => rfl
 | 15, _ => rfl
 | 16, _ => rfl
 | 17, _ => rfl
 | 18, _ => rfl
 | 19, _ => rfl
 | 20, _ => rfl
 | 21, _ => rfl
 | 22, _ => rfl
 | 23, _ => rfl
 | 24, _ => rfl
 | 25, _ => rfl
 | 26, _ => rfl
 | 27, _ => rfl
 | 28, _ => rfl
 | 29, _ => rfl
 | 30, _ => rfl
 | 31, _ => rfl
 | n + 32, h => omega
end Go.Proofs.YthmlhkllbichgaaGreatDoor
namespace Go.Proofs.YthmlhkllbichgaaGreatDoor
open Go.ChangeShapes Go.WideShapes Go.ChangeAt Go.RowKit Go.Joins Go.Deep
set_option maxRecDepth 100000
section
variable {H : Type} {enc : TypeId × Value → H} {w : World} {base : Nat} {spare : Nat → Bool} {held : Bool} {r : Reach} {bb : Nat} {v : Value} {d : DataW H} {p : List MemPlace}
end
end Go.Proofs.YthmlhkllbichgaaGreatDoor
namespace Go.Proofs.YthmlhkllbichgaaGreatDoor
open Go.ChangeShapes Go.WideShapes Go.ChangeAt Go.RowKit Go.Joins
set_option maxRecDepth 100000
instance : Inhabited Ex := ⟨.no⟩
instance : Inhabited St := ⟨.no⟩
instance : Inhabited De := ⟨⟨0, false, [], 0, 0, false, .no, .no⟩⟩
section
variable {H : Type} {enc : TypeId × Value → H} {w : World} {base : Nat} {spare : Nat → Bool} {held : Bool}
end
abbrev theLaid8 : List (String × DataW Unit) := [("math/bits.deBruijn32tab", Rows.laid_math_bits_deBruijn32tab), ("math/bits.deBruijn64tab", Rows.laid_math_bits_deBruijn64tab), ("internal/strconv.uint64pow10", Rows.laid_internal_strconv_uint64pow10), ("unicode/utf8.acceptRanges", Rows.laid_unicode_utf8_acceptRanges), ("strconv.ErrRange", Rows.laid_strconv_ErrRange), ("strconv.ErrSyntax", Rows.laid_strconv_ErrSyntax), ("unicode.White_Space", Rows.laid_unicode_White_Space), ("strings.asciiSpace", Rows.laid_strings_asciiSpace), ("flyball/tree.signs", Rows.laid_flyball_tree_signs), ("unicode/utf8.first", Rows.laid_unicode_utf8_first)]
theorem pow10_type : (Tryz.prog.globals[8]?).map (·.type) = some 289 := by kernel_rfl
theorem pow10_laid : (Rows.laid_internal_strconv_uint64pow10 : DataW Unit) = Lib.tabData .u64 Lib.pow10Tab := by kernel_rfl
theorem sign_at (xs : List (DataW Unit)) (h : (Rows.laid_flyball_tree_signs : DataW Unit) = .agg xs) (j : Nat) (hj : j < 12) : xs[j]? = some (.lit (.string (signB ((j : Int) + 5)))) := by
 have e : xs = [.lit (.string [43]), .lit (.string [45]), .lit (.string [42]), .lit (.string [47]), .lit (.string [60]), .lit (.string [60, 61]), .lit (.string [61, 61]), .lit (.string [33, 61]), .lit (.string [62]), .lit (.string [62, 61]), .lit (.string [38, 38]), .lit (.string [124, 124])] := (DataW.agg.inj h).symm
 subst e
 match j, hj with
 | 0, _ => rfl
 | 1, _ => rfl
 | 2, _ => rfl
 | 3, _ => rfl
 | 4, _ => rfl
 | 5, _ => rfl
 | 6, _ => rfl
 | 7, _ => rfl
 | 8, _ => rfl
 | 9, _ => rfl
 | 10, _ => rfl
 | 11, _ => rfl
def E11 (W : World) : Prop := Env9 W ∧ SgOk W
theorem tabs_of_laid8 {W : World} (h : laidMetH Tryz.prog theLaid8 W) : (TabOk W ∧ Lib.TabIs Tryz.prog W "internal/strconv.uint64pow10" .u64 Lib.pow10Tab) ∧ Lib.TabIs Tryz.prog W "strings.asciiSpace" .u8 Lib.asciiSpaceTab ∧ (∃ ev, W.cell? ⟨7, 0, none⟩ = some ev ∧ (ev = .nilIface ∨ ∃ te pe, ev = .iface te pe)) ∧ SgOk W := by
 rw [MakeChecks.laidMetH_plain _ _ _ (by kernel_rfl)] at h
 obtain ⟨ps, ⟨g0, t0, cs0, f0, p0, q0, hg0, ht0, hv0, hd0, ⟨g1, t1, cs1, f1, p1, q1, hg1, ht1, hv1, hd1, ⟨g2, t2, cs2, f2, p2, q2, hg2, ht2, hv2, hd2, ⟨g3, t3, cs3, f3, p3, q3, hg3, ht3, hv3, hd3, ⟨g4, t4, cs4, f4, p4, q4, hg4, ht4, hv4, hd4, ⟨g5, t5, cs5, f5, p5, q5, hg5, ht5, hv5, hd5, ⟨g6, t6, cs6, f6, p6, q6, hg6, ht6, hv6, hd6, ⟨g7, t7, cs7, f7, p7, q7, hg7, ht7, hv7, hd7, ⟨g8, t8, cs8, f8, p8, q8, hg8, ht8, hv8, hd8, _, _⟩, _⟩, _⟩, _⟩, _⟩, _⟩, _⟩, _⟩, _⟩, _⟩ := h
 refine ⟨⟨?_, ?_⟩, ?_, ?_, ?_⟩
 ·obtain rfl := Option.some.inj (gTab.symm.trans hg0)
  obtain rfl := Option.some.inj (tTab.symm.trans ht0)
  obtain ⟨xs, m1, rfl, hx1, hlen, hn, hel⟩ := DataW.trod_array Tryz.underlying313 hd0
  have c5 : Tryz.prog.cellsOf 5 = 1 := by kernel_rfl
  simp only [Prod.mk.injEq] at hx1
  have hx2 : Rows.laid_math_bits_deBruijn32tab = DataW.agg (xs.map (·.1)) := hx1.1
  intro j hj
  rw [World.var?_cell hg0 hv0 j]
  have he := hel j hj
  rw [c5, Nat.mul_one] at he
  have hjx : j < xs.length := by omega
  rw [List.getElem?_eq_getElem hjx] at he
  obtain ⟨k, e1, e2, _⟩ := DataW.trod_int Tryz.underlying5 he
  have e3 : (xs.map (·.1))[j]? = some (.lit (.int .u8 k)) := by rw [List.getElem?_map, List.getElem?_eq_getElem hjx, e2]; rfl
  have e5 := (tab_at _ hx2 j hj).symm.trans e3
  simp only [Option.some.injEq, DataW.lit.injEq, Lit.int.injEq, true_and] at e5
  have e6 : cs0.toList[j]? = some (.int .u8 k) := by
   have : ((cs0.toList.drop j).take 1)[0]? = some (.int .u8 k) := by rw [e1]; rfl
   rw [List.getElem?_take, if_pos (by decide), List.getElem?_drop] at this
   simpa using this
  rw [← Array.getElem?_toList, e6, e5]
 ·obtain rfl := Option.some.inj (pow10_var.symm.trans hg2)
  obtain rfl := Option.some.inj (pow10_type.symm.trans ht2)
  rw [pow10_laid] at hd2
  unfold Lib.TabIs
  rw [hv2, ← Lib.cells_of_tab Tryz.underlying289 Tryz.underlying37 (by kernel_rfl) (by kernel_rfl) hd2]
 ·obtain rfl := Option.some.inj ((show Tryz.prog.globalNamed "strings.asciiSpace" = some 0 by kernel_rfl).symm.trans hg7)
  obtain rfl := Option.some.inj ((show (Tryz.prog.globals[0]?).map (·.type) = some 132 by kernel_rfl).symm.trans ht7)
  rw [show (Rows.laid_strings_asciiSpace : DataW Unit) = Lib.tabData .u8 Lib.asciiSpaceTab by kernel_rfl] at hd7
  unfold Lib.TabIs
  rw [hv7, ← Lib.cells_of_tab Tryz.underlying132 Tryz.underlying5 (by kernel_rfl) (by kernel_rfl) hd7]
 ·obtain rfl := Option.some.inj ((show Tryz.prog.globalNamed "strconv.ErrRange" = some 7 by kernel_rfl).symm.trans hg4)
  obtain rfl := Option.some.inj ((show (Tryz.prog.globals[7]?).map (·.type) = some 120 by kernel_rfl).symm.trans ht4)
  obtain ⟨f', u, v, e, -, -⟩ := iface_of_trod Tryz.underlying120 hd4
  have hc := World.var?_cell hg4 hv4 0
  have e0 : cs4[0]? = some (.iface u v) := by rw [← Array.getElem?_toList, e]; rfl
  exact ⟨_, hc.trans e0, .inr ⟨u, v, rfl⟩⟩
 ·obtain rfl := Option.some.inj ((show Tryz.prog.globalNamed "flyball/tree.signs" = some 1 by kernel_rfl).symm.trans hg8)
  obtain rfl := Option.some.inj ((show (Tryz.prog.globals[1]?).map (·.type) = some 166 by kernel_rfl).symm.trans ht8)
  obtain ⟨xs, m1, rfl, hx1, hlen, hn, hel⟩ := DataW.trod_array Tryz.underlying166 hd8
  have c9 : Tryz.prog.cellsOf 9 = 1 := by kernel_rfl
  simp only [Prod.mk.injEq] at hx1
  have hx2 : Rows.laid_flyball_tree_signs = DataW.agg (xs.map (·.1)) := hx1.1
  intro j hj
  rw [World.var?_cell hg8 hv8 j]
  have he := hel j hj
  rw [c9, Nat.mul_one] at he
  have hjx : j < xs.length := by omega
  rw [List.getElem?_eq_getElem hjx] at he
  obtain ⟨s, e1, e2, _⟩ := DataW.trod_string Tryz.underlying9 he
  have e3 : (xs.map (·.1))[j]? = some (.lit (.string s.data.toList)) := by rw [List.getElem?_map, List.getElem?_eq_getElem hjx, e2]; rfl
  have e5 := (sign_at _ hx2 j hj).symm.trans e3
  simp only [Option.some.injEq, DataW.lit.injEq, Lit.string.injEq] at e5
  have e6 : cs8.toList[j]? = some (.string s) := by
   have : ((cs8.toList.drop j).take 1)[0]? = some (.string s) := by rw [e1]; rfl
   rw [List.getElem?_take, if_pos (by decide), List.getElem?_drop] at this
   simpa using this
  rw [← Array.getElem?_toList, e6, e5]
theorem env_of8 {W : World} (h : laidMetH Tryz.prog theLaid8 W) (hs : W.ShapedOpen Tryz.prog) : E11 W :=
 ⟨⟨⟨(tabs_of_laid8 h).1.1, (tabs_of_laid8 h).1.2, cell_of_shapedOpen_int (zero := #[.int .i64 0]) (t := 3) hs (of_decide_eq_true (by kernel_rfl)) (by kernel_rfl) rfl (by kernel_rfl) (by kernel_rfl) Tryz.underlying3⟩, (tabs_of_laid8 h).2.1, (tabs_of_laid8 h).2.2.1⟩, (tabs_of_laid8 h).2.2.2⟩
theorem laid8_met (os : Os) (args : Array Value) : laidMetH Tryz.prog theLaid8 ((World.laidAll Tryz.prog os theLaid8).forCall (fun _ _ => 0) ⟨#[], args, []⟩).memory := by
 rw [MakeChecks.laidMetH_plain _ _ _ (by kernel_rfl)]
 exact laidMet_laidAll _ (by kernel_rfl) (by kernel_rfl)
theorem lift8 {H : Type} {enc : TypeId × Value → H} {os : Os} {f : FuncId} {fn : Func} {s : ChangeSpec} (started : os.Started) (noInit : Tryz.checked.prog.inits.idxOf? f = none) (hfn : Tryz.checked.prog.funcs[f]? = some fn)
  (witness : ∃ (w : World) (tape : Tape) (i : Input), w.os = os ∧ (w.forCall tape i).Shaped Tryz.checked.prog ∧ i.vars = [] ∧ Input.okWide Tryz.checked.prog (w.forCall tape i) .any w.heap.size f i ∧
   ((s.pre enc Tryz.checked.prog fn [] false (w.forCall tape i).memory i.args ∧ laidMetH Tryz.prog theLaid8 (w.forCall tape i).memory) ∧ sizedMet enc Tryz.checked.prog fn (OpenSpec.ofChange s) false (w.forCall tape i).memory i.args) ∧ ({} : Assume).holds Tryz.checked.prog (lone (Frame.enter Tryz.checked.prog f i.args .normal) [] (w.forCall tape i)))
  (walk : ∀ (W : World) (base : Nat) (args : Array Value) (ds gs : List (DataW H)) (before : List MemPlace),
   (∀ (j : Nat) t v, fn.params[j]? = some t → args[j]? = some v → Value.okWide Tryz.checked.prog W .any base t v) → DataW.Whole enc Tryz.checked.prog fn.params.toList s.vars false W args.toList ds gs before → E11 W →
   Calls Tryz.checked.prog f args W fun e W' => ∃ v, e = .returned v ∧ s.post enc Tryz.checked.prog fn false true false false W args v W') :
  ReturnsInHanded {} Tryz.checked os f .any (fun w args => (s.pre enc Tryz.checked.prog fn [] false w args ∧ laidMetH Tryz.prog theLaid8 w) ∧ sizedMet enc Tryz.checked.prog fn (OpenSpec.ofChange s) false w args) (s.post enc Tryz.checked.prog fn false true false false) := by
 refine returnsInHanded_of_calls own started noInit witness ?_
 intro w tape i _ hsh _ hok hpre _
 obtain ⟨_, _, _, fn', hfn', _, _, _, _, hval⟩ := hok
 obtain rfl : fn' = fn := Option.some.inj (hfn'.symm.trans hfn)
 obtain ⟨⟨⟨ds, gs, before, hw, -⟩, hx⟩, -⟩ := hpre
 refine (walk (w.forCall tape i) w.heap.size i.args ds gs before hval (DataW.Whole.of_heap (w' := w.forCall tape i) (by rfl) hw) (env_of8 (hx.of_heap (by rfl)) hsh)).mono fun e W' ⟨v, he, hp⟩ => ?_
 subst he
 exact ChangeSpec.post_blind hp
end Go.Proofs.YthmlhkllbichgaaGreatDoor
