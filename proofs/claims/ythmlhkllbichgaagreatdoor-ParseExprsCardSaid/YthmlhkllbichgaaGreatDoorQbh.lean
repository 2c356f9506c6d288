/-
  ParseExprs holds, tied to the program's text. (part 34 of 36) Conditions: none beside what the card ties.
-/
import Derived.Test.YthmlhkllbichgaaGreatDoorQbg
namespace Go.Proofs.YthmlhkllbichgaaGreatDoor
open Go.RowKit Go.Maps
set_option maxRecDepth 100000
theorem leaf_ok {op ps it fl : Int} {bo : Bool} {nm : List UInt8} (ho0 : 0 ≤ op) (ho1 : op ≤ 255) (hp0 : 0 ≤ ps) (hp1 : ps ≤ 16384) (hi0 : 0 ≤ it) (hi1 : it ≤ 2147483647) (hf0 : 0 ≤ fl) (hf1 : fl < 9223372036854775808) (hn : nm.length ≤ 16384) {D : Nat → Prop} {w : World} {k : Nat → Ex} : XO D (.mk ⟨op, ps, bo, it, fl, nm, ⟨none, 0, 0⟩⟩ k) w :=
 leaf_in (eh_ok ho0 ho1 hp0 hp1 (by omega) hi1 hf0 (by omega) hn sl_no) rfl
theorem leaf_eqv {h : EH} {k l : Nat → Ex} (hn : h.s.n = 0) : (Ex.mk h k).eqv (.mk h l) := (Ex.eqv_iff _ _).2 ⟨hdS_refl h, rfl, fun i hi => absurd hi (by show ¬ i < h.s.n; omega)⟩
theorem atm_4 (D : Option (PS → Rs Ex)) (s : PS) (h : atT s.hd = 4) (hx : s.hd.tx ≠ [40]) : atom D s = (index D s.tk).bind fun l s' => whole (nmX s.hd.ps s.hd.tx l) s' := by
 unfold atom
 rw [if_neg hx, if_neg (by omega), if_neg (by omega), if_neg (by omega), if_neg (by omega), if_pos h]
theorem atm_f (D : Option (PS → Rs Ex)) (s : PS) (op : Int) (h : atT s.hd = op) (h0 : 19 ≤ op) (hx : s.hd.tx ≠ [40]) : atom D s = (within D [40] [41] s.tk).bind fun e s' => whole (opX op s.hd.ps [e]) s' := by
 unfold atom
 rw [if_neg hx, if_neg (by omega), if_neg (by omega), if_neg (by omega), if_neg (by omega), if_neg (by omega), h]
theorem nm_eqv1 {ps : Int} {nm : List UInt8} {e a : Ex} {A : Option Addr} {c : Nat} (h1 : e.eqv a) : (Ex.mk ⟨4, ps, false, 0, 0, nm, ⟨A, 1, c⟩⟩ (fun _ => e)).eqv (nmX ps nm [a]) := by
 refine ⟨by simp [hdS, nmX, Ex.h], rfl, fun i hi => ?_⟩
 have hi : i < 1 := hi
 obtain rfl : i = 0 := by omega
 exact h1
set_option maxHeartbeats 12800000 in
theorem rratom_of (R k : Nat) (hk : k ≤ 24) (hw : RWn R k) : RA R k := by
 intro α r w d hd h
 have BL := bel_one w zX
 have HU := Hj (h.below BL)
 have NB : Hid (Blk (w.alloc zX) w.heap.size 41 zeroH.va) := Blk.new _ _ _
 have HRL := Hj h.lt
 have HF : Hid (Fx (On R) w.heap.size w (w.alloc zX)) := Fx.of BL
 have HSZ : Hid (w.heap.size < (w.alloc zX).heap.size) := NB.out.lt
 have HDK := Hj (And.intro hd hk)
 have HW := Hj hw
 clear BL h hw hd hk
 generalize hZ : (r.bind fun _ s => atom (dK k) s) = Z
 have HZ := Hj hZ
 clear hZ
 go_enter Tryz.func120, Tryz.ntmps120
 go_upto_region 1 with fail
 change Code.wp _ _ _ _ (w.alloc zX)
 generalize w.alloc zX = w0 at *
 go_wp2_with fail
 refine (rrtok_any R r w0 HU.out).mono ?_
 rintro q w1 ⟨t, rfl, htd, ht, hb⟩
 have hb2 : Below w0.heap.size w0 (w1.alloc (.cells t.vs 62)) := bel_alloc hb _
 have HU2 := Hj (HU.out.below hb2)
 have NB2 := Hj (NB.out.below hb2 NB.out.lt)
 have TB2 : Hid (Blk (w1.alloc (.cells t.vs 62)) w1.heap.size 62 t.vs) := Blk.new _ _ _
 have HF2 := Hj (fx_bel HF.out hb2)
 have HT := Hj ht
 have HTD := Hj htd
 have HS2 : Hid (w.heap.size < w1.heap.size ∧ w1.heap.size < (w1.alloc (.cells t.vs 62)).heap.size) := ⟨Nat.lt_of_lt_of_le HSZ.out hb.size, TB2.out.lt⟩
 clear hb hb2 HU NB HF HSZ ht htd
 unfold Tk.v
 go_upto_region 2 with fail
 change (Code.region 2 _ _).wp _ _ _ (w1.alloc (.cells t.vs 62))
 generalize w1.alloc (.cells t.vs 62) = w2 at *
 generalize w1.heap.size = tb at *
 obtain ⟨er, m2, he⟩ := HU2.out.err
 cases r with
 | no c p =>
  have e0 : (er == 0) = false := b_ne (fun e => by have := he.1 e; cases this)
  clear he
  go_wp2_with (refine st_ex zeroH w.heap.size _ NB2.out rfl rfl _ _ rfl rfl rfl ?_)
  exact bodyPost_ret (rs_ex rfl _ _ w.heap.size zeroH rfl (NB2.out.rowS _)) rfl (px_ret (e' := zEx) HRL.out zEx_in (fun a s e => by rw [← HZ.out] at e; cases e) (by rw [← HZ.out]; exact HU2.out.of rfl) HF2.out _)
 | ok a s =>
  obtain rfl : er = 0 := he.2 rfl
  obtain rfl : t = s.hd := HT.out a s rfl
  clear he HT
  have HGD := Hj HU2.out.good
  replace HZ : Hid (atom (dK k) s = Z) := HZ
  have t1 : w2.cell? ⟨tb, 1, none⟩ = some (.int .i64 s.hd.ps) := TB2.out.cell 1
  have BLb := bx_bel (Below.refl w2.heap.size w2) (Nat.le_refl _) (xO ⟨0, s.hd.ps, false, 0, 0, [], ⟨none, 0, 0⟩⟩)
  have GB3 : Hid (Blk (bx w2 (xO ⟨0, s.hd.ps, false, 0, 0, [], ⟨none, 0, 0⟩⟩)) w2.heap.size 41 #[.int .u8 0, .int .i64 s.hd.ps, .bool false, .int .i32 0, .int .u64 0, .string ⟨List.toArray []⟩, .slice none 0 0]) := bx_ex w2 _
  have HU3 := Hj (HU2.out.below BLb)
  have NB3 := Hj (NB2.out.below BLb NB2.out.lt)
  have TB3 := Hj (TB2.out.below BLb TB2.out.lt)
  have HF3 := Hj (fx_bel HF2.out BLb)
  have HNE : Hid (R < tb ∧ R < w2.heap.size ∧ tb ≠ w2.heap.size ∧ w.heap.size ≠ w2.heap.size ∧ w.heap.size ≤ w2.heap.size) := by
   have h1 := HRL.out
   have h2 := HS2.out
   show _ ∧ _ ∧ _ ∧ _ ∧ _
   omega
  have HG3 : Hid (w2.heap.size < (bx w2 (xO ⟨0, s.hd.ps, false, 0, 0, [], ⟨none, 0, 0⟩⟩)).heap.size) := GB3.out.lt
  clear HU2 NB2 TB2 HF2 HS2 BLb
  go_upto_region 7 with fail
  change (Code.region 7 _ _).wp _ _ _ (bx w2 (xO ⟨0, s.hd.ps, false, 0, 0, [], ⟨none, 0, 0⟩⟩))
  clear m2 t1
  generalize w2.heap.size = g at *
  generalize bx w2 (xO ⟨0, s.hd.ps, false, 0, 0, [], ⟨none, 0, 0⟩⟩) = w3 at *
  have NRES : Hid (∀ x : List UInt8, x ∈ resW → s.hd.kd = 1 ∨ s.hd.kd = 2 ∨ s.hd.kd = 3 → s.hd.tx ≠ x) := fun x hx hk he => by
   have := HGD.out.res (by rw [← PS.hd, he]; exact hx)
   rw [← PS.hd] at this
   omega
  have t0 : w3.cell? ⟨tb, 0, none⟩ = some (.int .u8 s.hd.kd) := TB3.out.cell 0
  by_cases c2 : s.hd.kd = 2
  ·have e2 := b_eq c2
   have HKD : Hid (s.hd.kd ≠ 0) := by show s.hd.kd ≠ 0; omega
   have HE : Hid (whole (inX s.hd.ps s.hd.nn) s.tk = Z) := by
    show _ = Z
    rw [← HZ.out]
    have ea : atT s.hd = 2 := by unfold atT; rw [if_pos c2]
    unfold atom
    rw [if_neg (NRES.out _ (by decide) (.inr (.inl c2))), if_neg (by omega), if_neg (by omega), if_pos ea]
   clear HZ
   go_wp2_with fail
   refine (rrnext_any R (.ok a s) w3 HU3.out (fun a' s' e => by cases e; exact HKD.out)).mono ?_
   rintro q w4 ⟨t5, rfl, -, -, h5, f5⟩
   change U R (.ok () s.tk : Rs Unit) w4 at h5
   have HU4 := Hj h5
   have NB4 := Hj (f5.blk NB3.out NB3.out.lt (on_ne HRL.out))
   have TB4 := Hj (f5.blk TB3.out TB3.out.lt (on_ne HNE.out.1))
   have GB4 := Hj (f5.blk GB3.out GB3.out.lt (on_ne HNE.out.2.1))
   have HF4 := Hj (fx_trans HF3.out f5)
   have HG4 : Hid (g < w4.heap.size) := GB4.out.lt
   clear HU3 NB3 TB3 GB3 HF3 f5
   clear h5
   clear HG3 t0
   have m0 : w4.cell? ⟨g, 0, none⟩ = some (.int .u8 0) := GB4.out.cell 0
   have z0 : w4.frozen? ⟨g, 0, none⟩ = false := GB4.out.frozen 0
   have t0 : w4.cell? ⟨tb, 0, none⟩ = some (.int .u8 s.hd.kd) := TB4.out.cell 0
   have t1 : w4.cell? ⟨tb, 1, none⟩ = some (.int .i64 s.hd.ps) := TB4.out.cell 1
   have t2 : w4.cell? ⟨tb, 2, none⟩ = some (.string ⟨s.hd.tx.toArray⟩) := TB4.out.cell 2
   have t3 : w4.cell? ⟨tb, 3, none⟩ = some (.int .i32 s.hd.nn) := TB4.out.cell 3
   have t4 : w4.cell? ⟨tb, 4, none⟩ = some (.int .u64 s.hd.ff) := TB4.out.cell 4
   go_upto_region 10 with fail
   change (Code.region 10 _ _).wp _ _ _ (w4.setCell ⟨g, 0, none⟩ (.int .u8 2))
   have F := fx_set (Fx.refl (On g) _ w4) (p := ⟨g, 0, none⟩) (.inl rfl) (.int .u8 2)
   have GB5 : Hid (Blk (w4.setCell ⟨g, 0, none⟩ (.int .u8 2)) g 41 #[.int .u8 2, .int .i64 s.hd.ps, .bool false, .int .i32 0, .int .u64 0, .string ⟨List.toArray []⟩, .slice none 0 0]) := GB4.out.set_ 0 (.int .u8 2)
   have HU5 := Hj (HU4.out.fx F HU4.out.lt (fun k hk (x : k = g) => by have := HNE.out.2.1; omega))
   have NB5 := Hj (F.blk NB4.out NB4.out.lt (fun x => HNE.out.2.2.2.1 x))
   have TB5 := Hj (F.blk TB4.out TB4.out.lt (fun x => HNE.out.2.2.1 x))
   have HF5 := Hj (fx_set HF4.out (p := ⟨g, 0, none⟩) (.inr HNE.out.2.2.2.2) (.int .u8 2))
   have HG5 : Hid (g < (w4.setCell ⟨g, 0, none⟩ (.int .u8 2)).heap.size) := GB5.out.lt
   clear F GB4 HU4 NB4 TB4 HF4 HG4 m0 z0 t0 t1 t2 t3 t4
   generalize w4.setCell ⟨g, 0, none⟩ (.int .u8 2) = w5 at *
   have m0 : w5.cell? ⟨g, 3, none⟩ = some (.int .i32 0) := GB5.out.cell 3
   have z0 : w5.frozen? ⟨g, 3, none⟩ = false := GB5.out.frozen 3
   have t0 : w5.cell? ⟨tb, 0, none⟩ = some (.int .u8 s.hd.kd) := TB5.out.cell 0
   have t1 : w5.cell? ⟨tb, 1, none⟩ = some (.int .i64 s.hd.ps) := TB5.out.cell 1
   have t2 : w5.cell? ⟨tb, 2, none⟩ = some (.string ⟨s.hd.tx.toArray⟩) := TB5.out.cell 2
   have t3 : w5.cell? ⟨tb, 3, none⟩ = some (.int .i32 s.hd.nn) := TB5.out.cell 3
   have t4 : w5.cell? ⟨tb, 4, none⟩ = some (.int .u64 s.hd.ff) := TB5.out.cell 4
   go_upto_region 35 with fail
   change (Code.region 35 _ _).wp _ _ _ (w5.setCell ⟨g, 3, none⟩ (.int .i32 s.hd.nn))
   have F := fx_set (Fx.refl (On g) _ w5) (p := ⟨g, 3, none⟩) (.inl rfl) (.int .i32 s.hd.nn)
   have GB6 : Hid (Blk (w5.setCell ⟨g, 3, none⟩ (.int .i32 s.hd.nn)) g 41 #[.int .u8 2, .int .i64 s.hd.ps, .bool false, .int .i32 s.hd.nn, .int .u64 0, .string ⟨List.toArray []⟩, .slice none 0 0]) := GB5.out.set_ 3 (.int .i32 s.hd.nn)
   have HU6 := Hj (HU5.out.fx F HU5.out.lt (fun k hk (x : k = g) => by have := HNE.out.2.1; omega))
   have NB6 := Hj (F.blk NB5.out NB5.out.lt (fun x => HNE.out.2.2.2.1 x))
   have TB6 := Hj (F.blk TB5.out TB5.out.lt (fun x => HNE.out.2.2.1 x))
   have HF6 := Hj (fx_set HF5.out (p := ⟨g, 3, none⟩) (.inr HNE.out.2.2.2.2) (.int .i32 s.hd.nn))
   have HG6 : Hid (g < (w5.setCell ⟨g, 3, none⟩ (.int .i32 s.hd.nn)).heap.size) := GB6.out.lt
   clear F GB5 HU5 NB5 TB5 HF5 HG5 m0 z0 t0 t1 t2 t3 t4
   generalize w5.setCell ⟨g, 3, none⟩ (.int .i32 s.hd.nn) = w6 at *
   obtain ⟨er, m2, he⟩ := HU6.out.err
   obtain rfl : er = 0 := he.2 rfl
   clear he
   have HXn : Hid (XO (fun k => w.heap.size < k) (.mk ⟨2, s.hd.ps, false, s.hd.nn, 0, [], ⟨none, 0, 0⟩⟩ (fun _ => .no)) w6) := leaf_ok (by decide) (by decide) HTD.out.ps0 HTD.out.ps1 HTD.out.nn0 HTD.out.nn1 (by decide) (by decide) (by decide)
   go_wp2_with (refine ld_ex ⟨2, s.hd.ps, false, s.hd.nn, 0, [], ⟨none, 0, 0⟩⟩ g GB6.out rfl _ rfl rfl ?_)
   refine (rrwhole_any R (.ok () s.tk) ⟨2, s.hd.ps, false, s.hd.nn, 0, [], ⟨none, 0, 0⟩⟩ (inX s.hd.ps s.hd.nn) rfl w6 HU6.out).mono ?_
   rintro q wz ⟨rfl, hz, fz⟩
   have HUz : Hid (U R Z wz) := by show U R Z wz; rw [← HE.out]; exact hz
   have NBz := Hj (fz.blk NB6.out NB6.out.lt (on_ne HRL.out))
   have HXz := Hj (HXn.out.fx fz (on_not (fun x => Nat.lt_asymm x HRL.out)))
   have HFz := Hj (fx_trans HF6.out fz)
   have EBz : Hid (∀ a s', Z = .ok a s' → (Ex.mk ⟨2, s.hd.ps, false, s.hd.nn, 0, [], ⟨none, 0, 0⟩⟩ (fun _ => .no)).eqv a) := fun a s' e => by
    rw [← HE.out] at e
    have := whole_ok e
    subst this
    exact leaf_eqv rfl
   clear hz fz m2 HXn HU6 NB6 TB6 GB6 HF6
   go_wp2_with (refine st_ex ⟨2, s.hd.ps, false, s.hd.nn, 0, [], ⟨none, 0, 0⟩⟩ w.heap.size _ NBz.out rfl rfl _ _ rfl rfl rfl ?_)
   exact bodyPost_ret (rs_ex rfl _ _ w.heap.size ⟨2, s.hd.ps, false, s.hd.nn, 0, [], ⟨none, 0, 0⟩⟩ rfl (NBz.out.rowS _)) rfl (px_ret (e' := .mk ⟨2, s.hd.ps, false, s.hd.nn, 0, [], ⟨none, 0, 0⟩⟩ (fun _ => .no)) HRL.out HXz.out EBz.out HUz.out HFz.out _)
  have e2 := b_ne c2
  by_cases c3 : s.hd.kd = 3
  ·have e3 := b_eq c3
   have HKD : Hid (s.hd.kd ≠ 0) := by show s.hd.kd ≠ 0; omega
   have HE : Hid (whole (flX s.hd.ps s.hd.ff) s.tk = Z) := by
    show _ = Z
    rw [← HZ.out]
    have ea : atT s.hd = 3 := by unfold atT; rw [if_neg c2, if_pos c3]
    unfold atom
    rw [if_neg (NRES.out _ (by decide) (.inr (.inr c3))), if_neg (by omega), if_neg (by omega), if_neg (by omega), if_pos ea]
   clear HZ
   go_wp2_with fail
   refine (rrnext_any R (.ok a s) w3 HU3.out (fun a' s' e => by cases e; exact HKD.out)).mono ?_
   rintro q w4 ⟨t5, rfl, -, -, h5, f5⟩
   change U R (.ok () s.tk : Rs Unit) w4 at h5
   have HU4 := Hj h5
   have NB4 := Hj (f5.blk NB3.out NB3.out.lt (on_ne HRL.out))
   have TB4 := Hj (f5.blk TB3.out TB3.out.lt (on_ne HNE.out.1))
   have GB4 := Hj (f5.blk GB3.out GB3.out.lt (on_ne HNE.out.2.1))
   have HF4 := Hj (fx_trans HF3.out f5)
   have HG4 : Hid (g < w4.heap.size) := GB4.out.lt
   clear HU3 NB3 TB3 GB3 HF3 f5
   clear h5
   clear HG3 t0
   have m0 : w4.cell? ⟨g, 0, none⟩ = some (.int .u8 0) := GB4.out.cell 0
   have z0 : w4.frozen? ⟨g, 0, none⟩ = false := GB4.out.frozen 0
   have t0 : w4.cell? ⟨tb, 0, none⟩ = some (.int .u8 s.hd.kd) := TB4.out.cell 0
   have t1 : w4.cell? ⟨tb, 1, none⟩ = some (.int .i64 s.hd.ps) := TB4.out.cell 1
   have t2 : w4.cell? ⟨tb, 2, none⟩ = some (.string ⟨s.hd.tx.toArray⟩) := TB4.out.cell 2
   have t3 : w4.cell? ⟨tb, 3, none⟩ = some (.int .i32 s.hd.nn) := TB4.out.cell 3
   have t4 : w4.cell? ⟨tb, 4, none⟩ = some (.int .u64 s.hd.ff) := TB4.out.cell 4
   go_upto_region 14 with fail
   change (Code.region 14 _ _).wp _ _ _ (w4.setCell ⟨g, 0, none⟩ (.int .u8 3))
   have F := fx_set (Fx.refl (On g) _ w4) (p := ⟨g, 0, none⟩) (.inl rfl) (.int .u8 3)
   have GB5 : Hid (Blk (w4.setCell ⟨g, 0, none⟩ (.int .u8 3)) g 41 #[.int .u8 3, .int .i64 s.hd.ps, .bool false, .int .i32 0, .int .u64 0, .string ⟨List.toArray []⟩, .slice none 0 0]) := GB4.out.set_ 0 (.int .u8 3)
   have HU5 := Hj (HU4.out.fx F HU4.out.lt (fun k hk (x : k = g) => by have := HNE.out.2.1; omega))
   have NB5 := Hj (F.blk NB4.out NB4.out.lt (fun x => HNE.out.2.2.2.1 x))
   have TB5 := Hj (F.blk TB4.out TB4.out.lt (fun x => HNE.out.2.2.1 x))
   have HF5 := Hj (fx_set HF4.out (p := ⟨g, 0, none⟩) (.inr HNE.out.2.2.2.2) (.int .u8 3))
   have HG5 : Hid (g < (w4.setCell ⟨g, 0, none⟩ (.int .u8 3)).heap.size) := GB5.out.lt
   clear F GB4 HU4 NB4 TB4 HF4 HG4 m0 z0 t0 t1 t2 t3 t4
   generalize w4.setCell ⟨g, 0, none⟩ (.int .u8 3) = w5 at *
   have m0 : w5.cell? ⟨g, 4, none⟩ = some (.int .u64 0) := GB5.out.cell 4
   have z0 : w5.frozen? ⟨g, 4, none⟩ = false := GB5.out.frozen 4
   have t0 : w5.cell? ⟨tb, 0, none⟩ = some (.int .u8 s.hd.kd) := TB5.out.cell 0
   have t1 : w5.cell? ⟨tb, 1, none⟩ = some (.int .i64 s.hd.ps) := TB5.out.cell 1
   have t2 : w5.cell? ⟨tb, 2, none⟩ = some (.string ⟨s.hd.tx.toArray⟩) := TB5.out.cell 2
   have t3 : w5.cell? ⟨tb, 3, none⟩ = some (.int .i32 s.hd.nn) := TB5.out.cell 3
   have t4 : w5.cell? ⟨tb, 4, none⟩ = some (.int .u64 s.hd.ff) := TB5.out.cell 4
   go_upto_region 35 with fail
   change (Code.region 35 _ _).wp _ _ _ (w5.setCell ⟨g, 4, none⟩ (.int .u64 s.hd.ff))
   have F := fx_set (Fx.refl (On g) _ w5) (p := ⟨g, 4, none⟩) (.inl rfl) (.int .u64 s.hd.ff)
   have GB6 : Hid (Blk (w5.setCell ⟨g, 4, none⟩ (.int .u64 s.hd.ff)) g 41 #[.int .u8 3, .int .i64 s.hd.ps, .bool false, .int .i32 0, .int .u64 s.hd.ff, .string ⟨List.toArray []⟩, .slice none 0 0]) := GB5.out.set_ 4 (.int .u64 s.hd.ff)
   have HU6 := Hj (HU5.out.fx F HU5.out.lt (fun k hk (x : k = g) => by have := HNE.out.2.1; omega))
   have NB6 := Hj (F.blk NB5.out NB5.out.lt (fun x => HNE.out.2.2.2.1 x))
   have TB6 := Hj (F.blk TB5.out TB5.out.lt (fun x => HNE.out.2.2.1 x))
   have HF6 := Hj (fx_set HF5.out (p := ⟨g, 4, none⟩) (.inr HNE.out.2.2.2.2) (.int .u64 s.hd.ff))
   have HG6 : Hid (g < (w5.setCell ⟨g, 4, none⟩ (.int .u64 s.hd.ff)).heap.size) := GB6.out.lt
   clear F GB5 HU5 NB5 TB5 HF5 HG5 m0 z0 t0 t1 t2 t3 t4
   generalize w5.setCell ⟨g, 4, none⟩ (.int .u64 s.hd.ff) = w6 at *
   obtain ⟨er, m2, he⟩ := HU6.out.err
   obtain rfl : er = 0 := he.2 rfl
   clear he
   have HXn : Hid (XO (fun k => w.heap.size < k) (.mk ⟨3, s.hd.ps, false, 0, s.hd.ff, [], ⟨none, 0, 0⟩⟩ (fun _ => .no)) w6) := leaf_ok (by decide) (by decide) HTD.out.ps0 HTD.out.ps1 (by decide) (by decide) HTD.out.ff0 HTD.out.ff1 (by decide)
   go_wp2_with (refine ld_ex ⟨3, s.hd.ps, false, 0, s.hd.ff, [], ⟨none, 0, 0⟩⟩ g GB6.out rfl _ rfl rfl ?_)
   refine (rrwhole_any R (.ok () s.tk) ⟨3, s.hd.ps, false, 0, s.hd.ff, [], ⟨none, 0, 0⟩⟩ (flX s.hd.ps s.hd.ff) rfl w6 HU6.out).mono ?_
   rintro q wz ⟨rfl, hz, fz⟩
   have HUz : Hid (U R Z wz) := by show U R Z wz; rw [← HE.out]; exact hz
   have NBz := Hj (fz.blk NB6.out NB6.out.lt (on_ne HRL.out))
   have HXz := Hj (HXn.out.fx fz (on_not (fun x => Nat.lt_asymm x HRL.out)))
   have HFz := Hj (fx_trans HF6.out fz)
   have EBz : Hid (∀ a s', Z = .ok a s' → (Ex.mk ⟨3, s.hd.ps, false, 0, s.hd.ff, [], ⟨none, 0, 0⟩⟩ (fun _ => .no)).eqv a) := fun a s' e => by
    rw [← HE.out] at e
    have := whole_ok e
    subst this
    exact leaf_eqv rfl
   clear hz fz m2 HXn HU6 NB6 TB6 GB6 HF6
   go_wp2_with (refine st_ex ⟨3, s.hd.ps, false, 0, s.hd.ff, [], ⟨none, 0, 0⟩⟩ w.heap.size _ NBz.out rfl rfl _ _ rfl rfl rfl ?_)
   exact bodyPost_ret (rs_ex rfl _ _ w.heap.size ⟨3, s.hd.ps, false, 0, s.hd.ff, [], ⟨none, 0, 0⟩⟩ rfl (NBz.out.rowS _)) rfl (px_ret (e' := .mk ⟨3, s.hd.ps, false, 0, s.hd.ff, [], ⟨none, 0, 0⟩⟩ (fun _ => .no)) HRL.out HXz.out EBz.out HUz.out HFz.out _)
  have e3 := b_ne c3
  by_cases c1 : s.hd.kd = 1
  ·have e1 := b_eq c1
   have HKD : Hid (s.hd.kd ≠ 0) := by show s.hd.kd ≠ 0; omega
   have HE0 : Hid (((index (dK k) s.tk).bind fun l s' => whole (nmX s.hd.ps s.hd.tx l) s') = Z) := by
    show _ = Z
    rw [← HZ.out]
    have ea : atT s.hd = 4 := by unfold atT; rw [if_neg c2, if_neg c3, if_pos c1]
    exact (atm_4 _ _ ea (NRES.out _ (by decide) (.inl c1))).symm
   clear HZ
   go_wp2_with fail
   refine (rrnext_any R (.ok a s) w3 HU3.out (fun a' s' e => by cases e; exact HKD.out)).mono ?_
   rintro q w4 ⟨t5, rfl, -, -, h5, f5⟩
   change U R (.ok () s.tk : Rs Unit) w4 at h5
   have HU4 := Hj h5
   have NB4 := Hj (f5.blk NB3.out NB3.out.lt (on_ne HRL.out))
   have TB4 := Hj (f5.blk TB3.out TB3.out.lt (on_ne HNE.out.1))
   have GB4 := Hj (f5.blk GB3.out GB3.out.lt (on_ne HNE.out.2.1))
   have HF4 := Hj (fx_trans HF3.out f5)
   have HG4 : Hid (g < w4.heap.size) := GB4.out.lt
   clear HU3 NB3 TB3 GB3 HF3 f5
   clear h5
   clear HG3 t0
   have m0 : w4.cell? ⟨g, 0, none⟩ = some (.int .u8 0) := GB4.out.cell 0
   have z0 : w4.frozen? ⟨g, 0, none⟩ = false := GB4.out.frozen 0
   have t0 : w4.cell? ⟨tb, 0, none⟩ = some (.int .u8 s.hd.kd) := TB4.out.cell 0
   have t1 : w4.cell? ⟨tb, 1, none⟩ = some (.int .i64 s.hd.ps) := TB4.out.cell 1
   have t2 : w4.cell? ⟨tb, 2, none⟩ = some (.string ⟨s.hd.tx.toArray⟩) := TB4.out.cell 2
   have t3 : w4.cell? ⟨tb, 3, none⟩ = some (.int .i32 s.hd.nn) := TB4.out.cell 3
   have t4 : w4.cell? ⟨tb, 4, none⟩ = some (.int .u64 s.hd.ff) := TB4.out.cell 4
   go_upto_region 18 with fail
   change (Code.region 18 _ _).wp _ _ _ (w4.setCell ⟨g, 0, none⟩ (.int .u8 4))
   have F := fx_set (Fx.refl (On g) _ w4) (p := ⟨g, 0, none⟩) (.inl rfl) (.int .u8 4)
   have GB5 : Hid (Blk (w4.setCell ⟨g, 0, none⟩ (.int .u8 4)) g 41 #[.int .u8 4, .int .i64 s.hd.ps, .bool false, .int .i32 0, .int .u64 0, .string ⟨List.toArray []⟩, .slice none 0 0]) := GB4.out.set_ 0 (.int .u8 4)
   have HU5 := Hj (HU4.out.fx F HU4.out.lt (fun k hk (x : k = g) => by have := HNE.out.2.1; omega))
   have NB5 := Hj (F.blk NB4.out NB4.out.lt (fun x => HNE.out.2.2.2.1 x))
   have TB5 := Hj (F.blk TB4.out TB4.out.lt (fun x => HNE.out.2.2.1 x))
   have HF5 := Hj (fx_set HF4.out (p := ⟨g, 0, none⟩) (.inr HNE.out.2.2.2.2) (.int .u8 4))
   have HG5 : Hid (g < (w4.setCell ⟨g, 0, none⟩ (.int .u8 4)).heap.size) := GB5.out.lt
   clear F GB4 HU4 NB4 TB4 HF4 HG4 m0 z0 t0 t1 t2 t3 t4
   generalize w4.setCell ⟨g, 0, none⟩ (.int .u8 4) = w5 at *
   have m0 : w5.cell? ⟨g, 5, none⟩ = some (.string ⟨List.toArray []⟩) := GB5.out.cell 5
   have z0 : w5.frozen? ⟨g, 5, none⟩ = false := GB5.out.frozen 5
   have t0 : w5.cell? ⟨tb, 0, none⟩ = some (.int .u8 s.hd.kd) := TB5.out.cell 0
   have t1 : w5.cell? ⟨tb, 1, none⟩ = some (.int .i64 s.hd.ps) := TB5.out.cell 1
   have t2 : w5.cell? ⟨tb, 2, none⟩ = some (.string ⟨s.hd.tx.toArray⟩) := TB5.out.cell 2
   have t3 : w5.cell? ⟨tb, 3, none⟩ = some (.int .i32 s.hd.nn) := TB5.out.cell 3
   have t4 : w5.cell? ⟨tb, 4, none⟩ = some (.int .u64 s.hd.ff) := TB5.out.cell 4
   go_upto_region 19 with fail
   change (Code.region 19 _ _).wp _ _ _ (w5.setCell ⟨g, 5, none⟩ (.string ⟨s.hd.tx.toArray⟩))
   have F := fx_set (Fx.refl (On g) _ w5) (p := ⟨g, 5, none⟩) (.inl rfl) (.string ⟨s.hd.tx.toArray⟩)
   have GB6 : Hid (Blk (w5.setCell ⟨g, 5, none⟩ (.string ⟨s.hd.tx.toArray⟩)) g 41 #[.int .u8 4, .int .i64 s.hd.ps, .bool false, .int .i32 0, .int .u64 0, .string ⟨List.toArray s.hd.tx⟩, .slice none 0 0]) := GB5.out.set_ 5 (.string ⟨s.hd.tx.toArray⟩)
   have HU6 := Hj (HU5.out.fx F HU5.out.lt (fun k hk (x : k = g) => by have := HNE.out.2.1; omega))
   have NB6 := Hj (F.blk NB5.out NB5.out.lt (fun x => HNE.out.2.2.2.1 x))
   have TB6 := Hj (F.blk TB5.out TB5.out.lt (fun x => HNE.out.2.2.1 x))
   have HF6 := Hj (fx_set HF5.out (p := ⟨g, 5, none⟩) (.inr HNE.out.2.2.2.2) (.string ⟨s.hd.tx.toArray⟩))
   have HG6 : Hid (g < (w5.setCell ⟨g, 5, none⟩ (.string ⟨s.hd.tx.toArray⟩)).heap.size) := GB6.out.lt
   clear F GB5 HU5 NB5 TB5 HF5 HG5 m0 z0 t0 t1 t2 t3 t4
   generalize w5.setCell ⟨g, 5, none⟩ (.string ⟨s.hd.tx.toArray⟩) = w6 at *
   by_cases c5 : s.tk.hd.tx = [91]
   ·have HE : Hid (((within (dK k) [91] [93] s.tk).bind fun e s' => whole (nmX s.hd.ps s.hd.tx [e]) s') = Z) := by
     show _ = Z
     rw [← HE0.out]
     unfold index
     rw [if_pos c5, bind_bind]
     rfl
    clear HE0
    go_wp2_with fail
    refine (rris_any R (.ok () s.tk) [91] (by decide) w6 HU6.out).mono ?_
    rintro q w7 ⟨b, rfl, hb, bl⟩
    obtain rfl : b = true := (hb _ _ rfl).trans (beq_yes c5)
    clear hb
    have HU7 := Hj (HU6.out.below bl)
    have NB7 := Hj (NB6.out.below bl NB6.out.lt)
    have TB7 := Hj (TB6.out.below bl TB6.out.lt)
    have GB7 := Hj (GB6.out.below bl GB6.out.lt)
    have HF7 := Hj (fx_bel HF6.out bl)
    clear HU6 NB6 TB6 GB6 HF6 bl
    have HG7 : Hid (g < w7.heap.size) := GB7.out.lt
    clear HG6
    go_wp2_with fail
    refine (HW.out Unit (.ok () s.tk) w7 d [91] [93] (by decide) (by decide) HDK.out.1 HU7.out).mono ?_
    rintro q w8 ⟨b, rfl, xb, eb, h8, f8⟩
    change ∀ a s', within (dK k) [91] [93] s.tk = .ok a s' → b.eqv a at eb
    change U R (within (dK k) [91] [93] s.tk) w8 at h8
    generalize within (dK k) [91] [93] s.tk = P at *
    have EB := Hj eb
    have HX : Hid (XO (fun k => w.heap.size < k ∧ k ≠ g) b w8) := xb.imp (fun k _ (x : w7.heap.size ≤ k) => by have h1 := HG7.out; have h2 := HNE.out.2.2.2.2; exact ⟨by omega, by omega⟩)
    clear eb xb
    have HU8 := Hj h8
    have NB8 := Hj (f8.blk NB7.out NB7.out.lt (on_ne HRL.out))
    have TB8 := Hj (f8.blk TB7.out TB7.out.lt (on_ne HNE.out.1))
    have GB8 := Hj (f8.blk GB7.out GB7.out.lt (on_ne HNE.out.2.1))
    have HF8 := Hj (fx_trans HF7.out f8)
    have HG8 : Hid (g < w8.heap.size) := GB8.out.lt
    clear HU7 NB7 TB7 GB7 HF7 f8
    clear h8
    unfold EH.v
    have hsz : (w8.setCell ⟨g, 6, none⟩ (.slice (some ⟨w8.heap.size, 0, none⟩) 1 1)).heap.size = w8.heap.size := World.size_setCell ..
    have F := fx_set (Fx.refl (On g) _ w8) (p := ⟨g, 6, none⟩) (.inl rfl) (.slice (some ⟨w8.heap.size, 0, none⟩) 1 1)
    have BLn := bel_one (w8.setCell ⟨g, 6, none⟩ (.slice (some ⟨w8.heap.size, 0, none⟩) 1 1)) (.cells b.h.vs.toArray 41)
    have HXL := Hj (one_row (HX.out.fx F (on_not (fun x => x.2 rfl))) (show w.heap.size < (w8.setCell ⟨g, 6, none⟩ (.slice (some ⟨w8.heap.size, 0, none⟩) 1 1)).heap.size ∧ (w8.setCell ⟨g, 6, none⟩ (.slice (some ⟨w8.heap.size, 0, none⟩) 1 1)).heap.size ≠ g by rw [hsz]; exact ⟨NB8.out.lt, Nat.ne_of_gt GB8.out.lt⟩) (t := 41) rfl)
    rw [hsz] at HXL
    have m6 : w8.cell? ⟨g, 6, none⟩ = some (.slice none 0 0) := GB8.out.cell 6
    have z6 : w8.frozen? ⟨g, 6, none⟩ = false := GB8.out.frozen 6
    have lg := GB8.out.lt
    have gb := GB8.out.set_ 6 (.slice (some ⟨w8.heap.size, 0, none⟩) 1 1)
    have GB9 : Hid (Blk ((w8.setCell ⟨g, 6, none⟩ (.slice (some ⟨w8.heap.size, 0, none⟩) 1 1)).alloc (.cells b.h.vs.toArray 41)) g 41 (EH.va ⟨4, s.hd.ps, false, 0, 0, s.hd.tx, ⟨some ⟨w8.heap.size, 0, none⟩, 1, 1⟩⟩)) := gb.below BLn gb.lt
    have hu := HU8.out.fx F HU8.out.lt (fun k hk (x : k = g) => by have := HNE.out.2.1; omega)
    have HU9 := Hj (hu.below BLn)
    have nb := F.blk NB8.out NB8.out.lt (fun x => HNE.out.2.2.2.1 x)
    have NB9 := Hj (nb.below BLn nb.lt)
    have tbk := F.blk TB8.out TB8.out.lt (fun x => HNE.out.2.2.1 x)
    have TB9 := Hj (tbk.below BLn tbk.lt)
    have HF9 := Hj (fx_bel (fx_set HF8.out (p := ⟨g, 6, none⟩) (.inr HNE.out.2.2.2.2) (.slice (some ⟨w8.heap.size, 0, none⟩) 1 1)) BLn)
    clear hu nb tbk gb F BLn hsz HX HU8 NB8 TB8 GB8 HF8
    go_upto_region 35 with fail
    change Code.wp _ _ _ _ ((w8.setCell ⟨g, 6, none⟩ (.slice (some ⟨w8.heap.size, 0, none⟩) 1 1)).alloc (.cells b.h.vs.toArray 41))
    clear m6 z6 lg
    generalize (w8.setCell ⟨g, 6, none⟩ (.slice (some ⟨w8.heap.size, 0, none⟩) 1 1)).alloc (.cells b.h.vs.toArray 41) = w9 at *
    generalize w8.heap.size = rw_ at *
    clear HG8
    cases P with
    | no c5 p5 =>
     obtain ⟨er, m2, he⟩ := HU9.out.err
     have e0 : (er == 0) = false := b_ne (fun e => by have := he.1 e; cases this)
     clear he
     have HXn : Hid (XO (fun k => w.heap.size < k) (.mk ⟨4, s.hd.ps, false, 0, 0, s.hd.tx, ⟨some ⟨rw_, 0, none⟩, 1, 1⟩⟩ (fun _ => b)) w9) := row_in (eh_ok (by decide) (by decide) HTD.out.ps0 HTD.out.ps1 (by decide) (by decide) (by decide) (by decide) HTD.out.len (sl_ok _ _ (by decide))) (HXL.out.imp (fun k _ x => x.1))
     go_wp2_with (first
      | refine ld_ex ⟨4, s.hd.ps, false, 0, 0, s.hd.tx, ⟨some ⟨rw_, 0, none⟩, 1, 1⟩⟩ g GB9.out rfl _ rfl rfl ?_
      | refine st_ex ⟨4, s.hd.ps, false, 0, 0, s.hd.tx, ⟨some ⟨rw_, 0, none⟩, 1, 1⟩⟩ w.heap.size _ NB9.out rfl rfl _ _ rfl rfl rfl ?_)
     refine bodyPost_ret (rs_ex rfl _ _ w.heap.size ⟨4, s.hd.ps, false, 0, 0, s.hd.tx, ⟨some ⟨rw_, 0, none⟩, 1, 1⟩⟩ rfl (NB9.out.rowS _)) rfl ?_
     rw [← HE.out]
     exact px_ret (e' := .mk ⟨4, s.hd.ps, false, 0, 0, s.hd.tx, ⟨some ⟨rw_, 0, none⟩, 1, 1⟩⟩ (fun _ => b)) HRL.out HXn.out (fun a s e => by cases e) (HU9.out.of rfl) HF9.out _
    | ok e5 s5 =>
     have HEB := Hj (EB.out e5 s5 rfl)
     clear EB
     obtain ⟨er, m2, he⟩ := HU9.out.err
     obtain rfl : er = 0 := he.2 rfl
     clear he
     have HXn : Hid (XO (fun k => w.heap.size < k) (.mk ⟨4, s.hd.ps, false, 0, 0, s.hd.tx, ⟨some ⟨rw_, 0, none⟩, 1, 1⟩⟩ (fun _ => b)) w9) := row_in (eh_ok (by decide) (by decide) HTD.out.ps0 HTD.out.ps1 (by decide) (by decide) (by decide) (by decide) HTD.out.len (sl_ok _ _ (by decide))) (HXL.out.imp (fun k _ x => x.1))
     go_wp2_with (refine ld_ex ⟨4, s.hd.ps, false, 0, 0, s.hd.tx, ⟨some ⟨rw_, 0, none⟩, 1, 1⟩⟩ g GB9.out rfl _ rfl rfl ?_)
     refine (rrwhole_any R (.ok e5 s5) ⟨4, s.hd.ps, false, 0, 0, s.hd.tx, ⟨some ⟨rw_, 0, none⟩, 1, 1⟩⟩ (nmX s.hd.ps s.hd.tx [e5]) rfl w9 HU9.out).mono ?_
     rintro q wz ⟨rfl, hz, fz⟩
     have HUz : Hid (U R Z wz) := by show U R Z wz; rw [← HE.out]; exact hz
     have NBz := Hj (fz.blk NB9.out NB9.out.lt (on_ne HRL.out))
     have HXz := Hj (HXn.out.fx fz (on_not (fun x => Nat.lt_asymm x HRL.out)))
     have HFz := Hj (fx_trans HF9.out fz)
     have EBz : Hid (∀ a s', Z = .ok a s' → (Ex.mk ⟨4, s.hd.ps, false, 0, 0, s.hd.tx, ⟨some ⟨rw_, 0, none⟩, 1, 1⟩⟩ (fun _ => b)).eqv a) := fun a s' e => by
      rw [← HE.out] at e
      have := whole_ok e
      subst this
      exact nm_eqv1 HEB.out
     clear hz fz m2 HXn HU9 NB9 TB9 GB9 HF9
     go_wp2_with (refine st_ex ⟨4, s.hd.ps, false, 0, 0, s.hd.tx, ⟨some ⟨rw_, 0, none⟩, 1, 1⟩⟩ w.heap.size _ NBz.out rfl rfl _ _ rfl rfl rfl ?_)
     exact bodyPost_ret (rs_ex rfl _ _ w.heap.size ⟨4, s.hd.ps, false, 0, 0, s.hd.tx, ⟨some ⟨rw_, 0, none⟩, 1, 1⟩⟩ rfl (NBz.out.rowS _)) rfl (px_ret (e' := .mk ⟨4, s.hd.ps, false, 0, 0, s.hd.tx, ⟨some ⟨rw_, 0, none⟩, 1, 1⟩⟩ (fun _ => b)) HRL.out HXz.out EBz.out HUz.out HFz.out _)
   ·have HE : Hid (whole (nmX s.hd.ps s.hd.tx []) s.tk = Z) := by
     show _ = Z
     rw [← HE0.out]
     unfold index
     rw [if_neg c5]
     rfl
    clear HE0
    go_wp2_with fail
    refine (rris_any R (.ok () s.tk) [91] (by decide) w6 HU6.out).mono ?_
    rintro q w7 ⟨b, rfl, hb, bl⟩
    obtain rfl : b = false := (hb _ _ rfl).trans (beq_no c5)
    clear hb
    have HU7 := Hj (HU6.out.below bl)
    have NB7 := Hj (NB6.out.below bl NB6.out.lt)
    have TB7 := Hj (TB6.out.below bl TB6.out.lt)
    have GB7 := Hj (GB6.out.below bl GB6.out.lt)
    have HF7 := Hj (fx_bel HF6.out bl)
    clear HU6 NB6 TB6 GB6 HF6 bl
    clear HG6
    obtain ⟨er, m2, he⟩ := HU7.out.err
    obtain rfl : er = 0 := he.2 rfl
    clear he
    have HXn : Hid (XO (fun k => w.heap.size < k) (.mk ⟨4, s.hd.ps, false, 0, 0, s.hd.tx, ⟨none, 0, 0⟩⟩ (fun _ => .no)) w7) := leaf_ok (by decide) (by decide) HTD.out.ps0 HTD.out.ps1 (by decide) (by decide) (by decide) (by decide) HTD.out.len
    go_wp2_with (refine ld_ex ⟨4, s.hd.ps, false, 0, 0, s.hd.tx, ⟨none, 0, 0⟩⟩ g GB7.out rfl _ rfl rfl ?_)
    refine (rrwhole_any R (.ok () s.tk) ⟨4, s.hd.ps, false, 0, 0, s.hd.tx, ⟨none, 0, 0⟩⟩ (nmX s.hd.ps s.hd.tx []) rfl w7 HU7.out).mono ?_
    rintro q wz ⟨rfl, hz, fz⟩
    have HUz : Hid (U R Z wz) := by show U R Z wz; rw [← HE.out]; exact hz
    have NBz := Hj (fz.blk NB7.out NB7.out.lt (on_ne HRL.out))
    have HXz := Hj (HXn.out.fx fz (on_not (fun x => Nat.lt_asymm x HRL.out)))
    have HFz := Hj (fx_trans HF7.out fz)
    have EBz : Hid (∀ a s', Z = .ok a s' → (Ex.mk ⟨4, s.hd.ps, false, 0, 0, s.hd.tx, ⟨none, 0, 0⟩⟩ (fun _ => .no)).eqv a) := fun a s' e => by
     rw [← HE.out] at e
     have := whole_ok e
     subst this
     exact leaf_eqv rfl
    clear hz fz m2 HXn HU7 NB7 TB7 GB7 HF7
    go_wp2_with (refine st_ex ⟨4, s.hd.ps, false, 0, 0, s.hd.tx, ⟨none, 0, 0⟩⟩ w.heap.size _ NBz.out rfl rfl _ _ rfl rfl rfl ?_)
    exact bodyPost_ret (rs_ex rfl _ _ w.heap.size ⟨4, s.hd.ps, false, 0, 0, s.hd.tx, ⟨none, 0, 0⟩⟩ rfl (NBz.out.rowS _)) rfl (px_ret (e' := .mk ⟨4, s.hd.ps, false, 0, 0, s.hd.tx, ⟨none, 0, 0⟩⟩ (fun _ => .no)) HRL.out HXz.out EBz.out HUz.out HFz.out _)
  have e1 := b_ne c1
  by_cases ct : s.hd.tx = [116, 114, 117, 101]
  ·go_wp2_with fail
   refine (rris_any R (.ok a s) [116, 114, 117, 101] (by decide) w3 HU3.out).mono ?_
   rintro q w4 ⟨b, rfl, hb, bl⟩
   obtain rfl : b = true := (hb _ _ rfl).trans (beq_yes ct)
   clear hb
   have HU4 := Hj (HU3.out.below bl)
   have NB4 := Hj (NB3.out.below bl NB3.out.lt)
   have TB4 := Hj (TB3.out.below bl TB3.out.lt)
   have GB4 := Hj (GB3.out.below bl GB3.out.lt)
   have HF4 := Hj (fx_bel HF3.out bl)
   clear HU3 NB3 TB3 GB3 HF3 bl
   clear HG3
   have HKD : Hid (s.hd.kd ≠ 0) := res_kd HU4.out (x := [116, 114, 117, 101]) (by decide) ct
   have HE : Hid (whole (boX s.hd.ps true) s.tk = Z) := by
    show _ = Z
    rw [← HZ.out]
    have ea : atT s.hd = 1 := by unfold atT; rw [if_neg c2, if_neg c3, if_neg c1, if_pos (.inl ct)]
    unfold atom
    rw [if_neg (by rw [ct]; decide), if_neg (by omega), if_pos ea, ct]
    rfl
   clear HZ
   go_wp2_with fail
   refine (rrnext_any R (.ok a s) w4 HU4.out (fun a' s' e => by cases e; exact HKD.out)).mono ?_
   rintro q w5 ⟨t5, rfl, -, -, h5, f5⟩
   change U R (.ok () s.tk : Rs Unit) w5 at h5
   have HU5 := Hj h5
   have NB5 := Hj (f5.blk NB4.out NB4.out.lt (on_ne HRL.out))
   have TB5 := Hj (f5.blk TB4.out TB4.out.lt (on_ne HNE.out.1))
   have GB5 := Hj (f5.blk GB4.out GB4.out.lt (on_ne HNE.out.2.1))
   have HF5 := Hj (fx_trans HF4.out f5)
   have HG5 : Hid (g < w5.heap.size) := GB5.out.lt
   clear HU4 NB4 TB4 GB4 HF4 f5
   clear h5
   clear t0
   have m0 : w5.cell? ⟨g, 0, none⟩ = some (.int .u8 0) := GB5.out.cell 0
   have z0 : w5.frozen? ⟨g, 0, none⟩ = false := GB5.out.frozen 0
   have t0 : w5.cell? ⟨tb, 0, none⟩ = some (.int .u8 s.hd.kd) := TB5.out.cell 0
   have t1 : w5.cell? ⟨tb, 1, none⟩ = some (.int .i64 s.hd.ps) := TB5.out.cell 1
   have t2 : w5.cell? ⟨tb, 2, none⟩ = some (.string ⟨s.hd.tx.toArray⟩) := TB5.out.cell 2
   have t3 : w5.cell? ⟨tb, 3, none⟩ = some (.int .i32 s.hd.nn) := TB5.out.cell 3
   have t4 : w5.cell? ⟨tb, 4, none⟩ = some (.int .u64 s.hd.ff) := TB5.out.cell 4
   go_upto_region 24 with fail
   change (Code.region 24 _ _).wp _ _ _ (w5.setCell ⟨g, 0, none⟩ (.int .u8 1))
   have F := fx_set (Fx.refl (On g) _ w5) (p := ⟨g, 0, none⟩) (.inl rfl) (.int .u8 1)
   have GB6 : Hid (Blk (w5.setCell ⟨g, 0, none⟩ (.int .u8 1)) g 41 #[.int .u8 1, .int .i64 s.hd.ps, .bool false, .int .i32 0, .int .u64 0, .string ⟨List.toArray []⟩, .slice none 0 0]) := GB5.out.set_ 0 (.int .u8 1)
   have HU6 := Hj (HU5.out.fx F HU5.out.lt (fun k hk (x : k = g) => by have := HNE.out.2.1; omega))
   have NB6 := Hj (F.blk NB5.out NB5.out.lt (fun x => HNE.out.2.2.2.1 x))
   have TB6 := Hj (F.blk TB5.out TB5.out.lt (fun x => HNE.out.2.2.1 x))
   have HF6 := Hj (fx_set HF5.out (p := ⟨g, 0, none⟩) (.inr HNE.out.2.2.2.2) (.int .u8 1))
   have HG6 : Hid (g < (w5.setCell ⟨g, 0, none⟩ (.int .u8 1)).heap.size) := GB6.out.lt
   clear F GB5 HU5 NB5 TB5 HF5 HG5 m0 z0 t0 t1 t2 t3 t4
   generalize w5.setCell ⟨g, 0, none⟩ (.int .u8 1) = w6 at *
   have tt : (⟨s.hd.tx.toArray⟩ : ByteArray) = ⟨List.toArray [116, 114, 117, 101]⟩ := by rw [ct]
   have TBx : Hid (Blk w6 tb 62 #[.int .u8 s.hd.kd, .int .i64 s.hd.ps, .string ⟨List.toArray [116, 114, 117, 101]⟩, .int .i32 s.hd.nn, .int .u64 s.hd.ff]) := by rw [← tt]; exact TB6.out
   have m0 : w6.cell? ⟨g, 2, none⟩ = some (.bool false) := GB6.out.cell 2
   have z0 : w6.frozen? ⟨g, 2, none⟩ = false := GB6.out.frozen 2
   have t2 : w6.cell? ⟨tb, 2, none⟩ = some (.string ⟨List.toArray [116, 114, 117, 101]⟩) := TBx.out.cell 2
   go_upto_region 35 with fail
   change (Code.region 35 _ _).wp _ _ _ (w6.setCell ⟨g, 2, none⟩ (.bool true))
   have F := fx_set (Fx.refl (On g) _ w6) (p := ⟨g, 2, none⟩) (.inl rfl) (.bool true)
   have GB7 : Hid (Blk (w6.setCell ⟨g, 2, none⟩ (.bool true)) g 41 #[.int .u8 1, .int .i64 s.hd.ps, .bool true, .int .i32 0, .int .u64 0, .string ⟨List.toArray []⟩, .slice none 0 0]) := GB6.out.set_ 2 (.bool true)
   have HU7 := Hj (HU6.out.fx F HU6.out.lt (fun k hk (x : k = g) => by have := HNE.out.2.1; omega))
   have NB7 := Hj (F.blk NB6.out NB6.out.lt (fun x => HNE.out.2.2.2.1 x))
   have TB7 := Hj (F.blk TB6.out TB6.out.lt (fun x => HNE.out.2.2.1 x))
   have HF7 := Hj (fx_set HF6.out (p := ⟨g, 2, none⟩) (.inr HNE.out.2.2.2.2) (.bool true))
   clear F GB6 HU6 NB6 TB6 HF6 HG6 m0 z0 t2 TBx tt
   generalize w6.setCell ⟨g, 2, none⟩ (.bool true) = w7 at *
   obtain ⟨er, m2, he⟩ := HU7.out.err
   obtain rfl : er = 0 := he.2 rfl
   clear he
   have HXn : Hid (XO (fun k => w.heap.size < k) (.mk ⟨1, s.hd.ps, true, 0, 0, [], ⟨none, 0, 0⟩⟩ (fun _ => .no)) w7) := leaf_ok (by decide) (by decide) HTD.out.ps0 HTD.out.ps1 (by decide) (by decide) (by decide) (by decide) (by decide)
   go_wp2_with (refine ld_ex ⟨1, s.hd.ps, true, 0, 0, [], ⟨none, 0, 0⟩⟩ g GB7.out rfl _ rfl rfl ?_)
   refine (rrwhole_any R (.ok () s.tk) ⟨1, s.hd.ps, true, 0, 0, [], ⟨none, 0, 0⟩⟩ (boX s.hd.ps true) rfl w7 HU7.out).mono ?_
   rintro q wz ⟨rfl, hz, fz⟩
   have HUz : Hid (U R Z wz) := by show U R Z wz; rw [← HE.out]; exact hz
   have NBz := Hj (fz.blk NB7.out NB7.out.lt (on_ne HRL.out))
   have HXz := Hj (HXn.out.fx fz (on_not (fun x => Nat.lt_asymm x HRL.out)))
   have HFz := Hj (fx_trans HF7.out fz)
   have EBz : Hid (∀ a s', Z = .ok a s' → (Ex.mk ⟨1, s.hd.ps, true, 0, 0, [], ⟨none, 0, 0⟩⟩ (fun _ => .no)).eqv a) := fun a s' e => by
    rw [← HE.out] at e
    have := whole_ok e
    subst this
    exact leaf_eqv rfl
   clear hz fz m2 HXn HU7 NB7 TB7 GB7 HF7
   go_wp2_with (refine st_ex ⟨1, s.hd.ps, true, 0, 0, [], ⟨none, 0, 0⟩⟩ w.heap.size _ NBz.out rfl rfl _ _ rfl rfl rfl ?_)
   exact bodyPost_ret (rs_ex rfl _ _ w.heap.size ⟨1, s.hd.ps, true, 0, 0, [], ⟨none, 0, 0⟩⟩ rfl (NBz.out.rowS _)) rfl (px_ret (e' := .mk ⟨1, s.hd.ps, true, 0, 0, [], ⟨none, 0, 0⟩⟩ (fun _ => .no)) HRL.out HXz.out EBz.out HUz.out HFz.out _)
  go_wp2_with fail
  refine (rris_any R (.ok a s) [116, 114, 117, 101] (by decide) w3 HU3.out).mono ?_
  rintro q w4 ⟨b, rfl, hb, bl⟩
  obtain rfl : b = false := (hb _ _ rfl).trans (beq_no ct)
  clear hb
  have HU4 := Hj (HU3.out.below bl)
  have NB4 := Hj (NB3.out.below bl NB3.out.lt)
  have TB4 := Hj (TB3.out.below bl TB3.out.lt)
  have GB4 := Hj (GB3.out.below bl GB3.out.lt)
  have HF4 := Hj (fx_bel HF3.out bl)
  clear HU3 NB3 TB3 GB3 HF3 bl
  have HG4 : Hid (g < w4.heap.size) := GB4.out.lt
  clear HG3
  by_cases cf : s.hd.tx = [102, 97, 108, 115, 101]
  ·go_wp2_with fail
   refine (rris_any R (.ok a s) [102, 97, 108, 115, 101] (by decide) w4 HU4.out).mono ?_
   rintro q w5 ⟨b, rfl, hb, bl⟩
   obtain rfl : b = true := (hb _ _ rfl).trans (beq_yes cf)
   clear hb
   have HU5 := Hj (HU4.out.below bl)
   have NB5 := Hj (NB4.out.below bl NB4.out.lt)
   have TB5 := Hj (TB4.out.below bl TB4.out.lt)
   have GB5 := Hj (GB4.out.below bl GB4.out.lt)
   have HF5 := Hj (fx_bel HF4.out bl)
   clear HU4 NB4 TB4 GB4 HF4 bl
   clear HG4
   have HKD : Hid (s.hd.kd ≠ 0) := res_kd HU5.out (x := [102, 97, 108, 115, 101]) (by decide) cf
   have HE : Hid (whole (boX s.hd.ps false) s.tk = Z) := by
    show _ = Z
    rw [← HZ.out]
    have ea : atT s.hd = 1 := by unfold atT; rw [if_neg c2, if_neg c3, if_neg c1, if_pos (.inr cf)]
    unfold atom
    rw [if_neg (by rw [cf]; decide), if_neg (by omega), if_pos ea, cf]
    rfl
   clear HZ
   go_wp2_with fail
   refine (rrnext_any R (.ok a s) w5 HU5.out (fun a' s' e => by cases e; exact HKD.out)).mono ?_
   rintro q w6 ⟨t5, rfl, -, -, h5, f5⟩
   change U R (.ok () s.tk : Rs Unit) w6 at h5
   have HU6 := Hj h5
   have NB6 := Hj (f5.blk NB5.out NB5.out.lt (on_ne HRL.out))
   have TB6 := Hj (f5.blk TB5.out TB5.out.lt (on_ne HNE.out.1))
   have GB6 := Hj (f5.blk GB5.out GB5.out.lt (on_ne HNE.out.2.1))
   have HF6 := Hj (fx_trans HF5.out f5)
   have HG6 : Hid (g < w6.heap.size) := GB6.out.lt
   clear HU5 NB5 TB5 GB5 HF5 f5
   clear h5
   clear t0
   have m0 : w6.cell? ⟨g, 0, none⟩ = some (.int .u8 0) := GB6.out.cell 0
   have z0 : w6.frozen? ⟨g, 0, none⟩ = false := GB6.out.frozen 0
   have t0 : w6.cell? ⟨tb, 0, none⟩ = some (.int .u8 s.hd.kd) := TB6.out.cell 0
   have t1 : w6.cell? ⟨tb, 1, none⟩ = some (.int .i64 s.hd.ps) := TB6.out.cell 1
   have t2 : w6.cell? ⟨tb, 2, none⟩ = some (.string ⟨s.hd.tx.toArray⟩) := TB6.out.cell 2
   have t3 : w6.cell? ⟨tb, 3, none⟩ = some (.int .i32 s.hd.nn) := TB6.out.cell 3
   have t4 : w6.cell? ⟨tb, 4, none⟩ = some (.int .u64 s.hd.ff) := TB6.out.cell 4
   go_upto_region 24 with fail
   change (Code.region 24 _ _).wp _ _ _ (w6.setCell ⟨g, 0, none⟩ (.int .u8 1))
   have F := fx_set (Fx.refl (On g) _ w6) (p := ⟨g, 0, none⟩) (.inl rfl) (.int .u8 1)
   have GB7 : Hid (Blk (w6.setCell ⟨g, 0, none⟩ (.int .u8 1)) g 41 #[.int .u8 1, .int .i64 s.hd.ps, .bool false, .int .i32 0, .int .u64 0, .string ⟨List.toArray []⟩, .slice none 0 0]) := GB6.out.set_ 0 (.int .u8 1)
   have HU7 := Hj (HU6.out.fx F HU6.out.lt (fun k hk (x : k = g) => by have := HNE.out.2.1; omega))
   have NB7 := Hj (F.blk NB6.out NB6.out.lt (fun x => HNE.out.2.2.2.1 x))
   have TB7 := Hj (F.blk TB6.out TB6.out.lt (fun x => HNE.out.2.2.1 x))
   have HF7 := Hj (fx_set HF6.out (p := ⟨g, 0, none⟩) (.inr HNE.out.2.2.2.2) (.int .u8 1))
   have HG7 : Hid (g < (w6.setCell ⟨g, 0, none⟩ (.int .u8 1)).heap.size) := GB7.out.lt
   clear F GB6 HU6 NB6 TB6 HF6 HG6 m0 z0 t0 t1 t2 t3 t4
   generalize w6.setCell ⟨g, 0, none⟩ (.int .u8 1) = w7 at *
   have tt : (⟨s.hd.tx.toArray⟩ : ByteArray) = ⟨List.toArray [102, 97, 108, 115, 101]⟩ := by rw [cf]
   have TBx : Hid (Blk w7 tb 62 #[.int .u8 s.hd.kd, .int .i64 s.hd.ps, .string ⟨List.toArray [102, 97, 108, 115, 101]⟩, .int .i32 s.hd.nn, .int .u64 s.hd.ff]) := by rw [← tt]; exact TB7.out
   have m0 : w7.cell? ⟨g, 2, none⟩ = some (.bool false) := GB7.out.cell 2
   have z0 : w7.frozen? ⟨g, 2, none⟩ = false := GB7.out.frozen 2
   have t2 : w7.cell? ⟨tb, 2, none⟩ = some (.string ⟨List.toArray [102, 97, 108, 115, 101]⟩) := TBx.out.cell 2
   go_upto_region 35 with fail
   change (Code.region 35 _ _).wp _ _ _ (w7.setCell ⟨g, 2, none⟩ (.bool false))
   have F := fx_set (Fx.refl (On g) _ w7) (p := ⟨g, 2, none⟩) (.inl rfl) (.bool false)
   have GB8 : Hid (Blk (w7.setCell ⟨g, 2, none⟩ (.bool false)) g 41 #[.int .u8 1, .int .i64 s.hd.ps, .bool false, .int .i32 0, .int .u64 0, .string ⟨List.toArray []⟩, .slice none 0 0]) := GB7.out.set_ 2 (.bool false)
   have HU8 := Hj (HU7.out.fx F HU7.out.lt (fun k hk (x : k = g) => by have := HNE.out.2.1; omega))
   have NB8 := Hj (F.blk NB7.out NB7.out.lt (fun x => HNE.out.2.2.2.1 x))
   have TB8 := Hj (F.blk TB7.out TB7.out.lt (fun x => HNE.out.2.2.1 x))
   have HF8 := Hj (fx_set HF7.out (p := ⟨g, 2, none⟩) (.inr HNE.out.2.2.2.2) (.bool false))
   clear F GB7 HU7 NB7 TB7 HF7 HG7 m0 z0 t2 TBx tt
   generalize w7.setCell ⟨g, 2, none⟩ (.bool false) = w8 at *
   obtain ⟨er, m2, he⟩ := HU8.out.err
   obtain rfl : er = 0 := he.2 rfl
   clear he
   have HXn : Hid (XO (fun k => w.heap.size < k) (.mk ⟨1, s.hd.ps, false, 0, 0, [], ⟨none, 0, 0⟩⟩ (fun _ => .no)) w8) := leaf_ok (by decide) (by decide) HTD.out.ps0 HTD.out.ps1 (by decide) (by decide) (by decide) (by decide) (by decide)
   go_wp2_with (refine ld_ex ⟨1, s.hd.ps, false, 0, 0, [], ⟨none, 0, 0⟩⟩ g GB8.out rfl _ rfl rfl ?_)
   refine (rrwhole_any R (.ok () s.tk) ⟨1, s.hd.ps, false, 0, 0, [], ⟨none, 0, 0⟩⟩ (boX s.hd.ps false) rfl w8 HU8.out).mono ?_
   rintro q wz ⟨rfl, hz, fz⟩
   have HUz : Hid (U R Z wz) := by show U R Z wz; rw [← HE.out]; exact hz
   have NBz := Hj (fz.blk NB8.out NB8.out.lt (on_ne HRL.out))
   have HXz := Hj (HXn.out.fx fz (on_not (fun x => Nat.lt_asymm x HRL.out)))
   have HFz := Hj (fx_trans HF8.out fz)
   have EBz : Hid (∀ a s', Z = .ok a s' → (Ex.mk ⟨1, s.hd.ps, false, 0, 0, [], ⟨none, 0, 0⟩⟩ (fun _ => .no)).eqv a) := fun a s' e => by
    rw [← HE.out] at e
    have := whole_ok e
    subst this
    exact leaf_eqv rfl
   clear hz fz m2 HXn HU8 NB8 TB8 GB8 HF8
   go_wp2_with (refine st_ex ⟨1, s.hd.ps, false, 0, 0, [], ⟨none, 0, 0⟩⟩ w.heap.size _ NBz.out rfl rfl _ _ rfl rfl rfl ?_)
   exact bodyPost_ret (rs_ex rfl _ _ w.heap.size ⟨1, s.hd.ps, false, 0, 0, [], ⟨none, 0, 0⟩⟩ rfl (NBz.out.rowS _)) rfl (px_ret (e' := .mk ⟨1, s.hd.ps, false, 0, 0, [], ⟨none, 0, 0⟩⟩ (fun _ => .no)) HRL.out HXz.out EBz.out HUz.out HFz.out _)
  go_wp2_with fail
  refine (rris_any R (.ok a s) [102, 97, 108, 115, 101] (by decide) w4 HU4.out).mono ?_
  rintro q w5 ⟨b, rfl, hb, bl⟩
  obtain rfl : b = false := (hb _ _ rfl).trans (beq_no cf)
  clear hb
  have HU5 := Hj (HU4.out.below bl)
  have NB5 := Hj (NB4.out.below bl NB4.out.lt)
  have TB5 := Hj (TB4.out.below bl TB4.out.lt)
  have GB5 := Hj (GB4.out.below bl GB4.out.lt)
  have HF5 := Hj (fx_bel HF4.out bl)
  clear HU4 NB4 TB4 GB4 HF4 bl
  clear HG4
  by_cases ci : s.hd.tx = [105, 110, 116]
  ·go_wp2_with fail
   refine (rris_any R (.ok a s) [105, 110, 116] (by decide) w5 HU5.out).mono ?_
   rintro q w6 ⟨b, rfl, hb, bl⟩
   obtain rfl : b = true := (hb _ _ rfl).trans (beq_yes ci)
   clear hb
   have HU6 := Hj (HU5.out.below bl)
   have NB6 := Hj (NB5.out.below bl NB5.out.lt)
   have TB6 := Hj (TB5.out.below bl TB5.out.lt)
   have GB6 := Hj (GB5.out.below bl GB5.out.lt)
   have HF6 := Hj (fx_bel HF5.out bl)
   clear HU5 NB5 TB5 GB5 HF5 bl
   have HKD : Hid (s.hd.kd ≠ 0) := res_kd HU6.out (x := [105, 110, 116]) (by decide) ci
   have HE : Hid (((within (dK k) [40] [41] s.tk).bind fun e s' => whole (opX 19 s.hd.ps [e]) s') = Z) := by
    show _ = Z
    rw [← HZ.out]
    have ea : atT s.hd = 19 := by unfold atT; rw [if_neg c2, if_neg c3, if_neg c1, if_neg (fun x => x.elim ct cf)]; rw [ci]; decide
    exact (atm_f _ _ 19 ea (by decide) (by rw [ci]; decide)).symm
   clear HZ
   go_wp2_with fail
   refine (rrnext_any R (.ok a s) w6 HU6.out (fun a' s' e => by cases e; exact HKD.out)).mono ?_
   rintro q w7 ⟨t5, rfl, -, -, h5, f5⟩
   change U R (.ok () s.tk : Rs Unit) w7 at h5
   have HU7 := Hj h5
   have NB7 := Hj (f5.blk NB6.out NB6.out.lt (on_ne HRL.out))
   have TB7 := Hj (f5.blk TB6.out TB6.out.lt (on_ne HNE.out.1))
   have GB7 := Hj (f5.blk GB6.out GB6.out.lt (on_ne HNE.out.2.1))
   have HF7 := Hj (fx_trans HF6.out f5)
   have HG7 : Hid (g < w7.heap.size) := GB7.out.lt
   clear HU6 NB6 TB6 GB6 HF6 f5
   clear h5
   clear t0
   have m0 : w7.cell? ⟨g, 0, none⟩ = some (.int .u8 0) := GB7.out.cell 0
   have z0 : w7.frozen? ⟨g, 0, none⟩ = false := GB7.out.frozen 0
   have t0 : w7.cell? ⟨tb, 0, none⟩ = some (.int .u8 s.hd.kd) := TB7.out.cell 0
   have t1 : w7.cell? ⟨tb, 1, none⟩ = some (.int .i64 s.hd.ps) := TB7.out.cell 1
   have t2 : w7.cell? ⟨tb, 2, none⟩ = some (.string ⟨s.hd.tx.toArray⟩) := TB7.out.cell 2
   have t3 : w7.cell? ⟨tb, 3, none⟩ = some (.int .i32 s.hd.nn) := TB7.out.cell 3
   have t4 : w7.cell? ⟨tb, 4, none⟩ = some (.int .u64 s.hd.ff) := TB7.out.cell 4
   go_upto_region 28 with fail
   change (Code.region 28 _ _).wp _ _ _ (w7.setCell ⟨g, 0, none⟩ (.int .u8 21))
   have F := fx_set (Fx.refl (On g) _ w7) (p := ⟨g, 0, none⟩) (.inl rfl) (.int .u8 21)
   have GB8 : Hid (Blk (w7.setCell ⟨g, 0, none⟩ (.int .u8 21)) g 41 #[.int .u8 21, .int .i64 s.hd.ps, .bool false, .int .i32 0, .int .u64 0, .string ⟨List.toArray []⟩, .slice none 0 0]) := GB7.out.set_ 0 (.int .u8 21)
   have HU8 := Hj (HU7.out.fx F HU7.out.lt (fun k hk (x : k = g) => by have := HNE.out.2.1; omega))
   have NB8 := Hj (F.blk NB7.out NB7.out.lt (fun x => HNE.out.2.2.2.1 x))
   have TB8 := Hj (F.blk TB7.out TB7.out.lt (fun x => HNE.out.2.2.1 x))
   have HF8 := Hj (fx_set HF7.out (p := ⟨g, 0, none⟩) (.inr HNE.out.2.2.2.2) (.int .u8 21))
   have HG8 : Hid (g < (w7.setCell ⟨g, 0, none⟩ (.int .u8 21)).heap.size) := GB8.out.lt
   clear F GB7 HU7 NB7 TB7 HF7 HG7 m0 z0 t0 t1 t2 t3 t4
   generalize w7.setCell ⟨g, 0, none⟩ (.int .u8 21) = w8 at *
   have tt : (⟨s.hd.tx.toArray⟩ : ByteArray) = ⟨List.toArray [105, 110, 116]⟩ := by rw [ci]
   have TBx : Hid (Blk w8 tb 62 #[.int .u8 s.hd.kd, .int .i64 s.hd.ps, .string ⟨List.toArray [105, 110, 116]⟩, .int .i32 s.hd.nn, .int .u64 s.hd.ff]) := by rw [← tt]; exact TB8.out
   have t2 : w8.cell? ⟨tb, 2, none⟩ = some (.string ⟨List.toArray [105, 110, 116]⟩) := TBx.out.cell 2
   have m0 : w8.cell? ⟨g, 0, none⟩ = some (.int .u8 21) := GB8.out.cell 0
   have z0 : w8.frozen? ⟨g, 0, none⟩ = false := GB8.out.frozen 0
   go_upto_region 32 with fail
   change (Code.region 32 _ _).wp _ _ _ (w8.setCell ⟨g, 0, none⟩ (.int .u8 19))
   have F := fx_set (Fx.refl (On g) _ w8) (p := ⟨g, 0, none⟩) (.inl rfl) (.int .u8 19)
   have GB9 : Hid (Blk (w8.setCell ⟨g, 0, none⟩ (.int .u8 19)) g 41 #[.int .u8 19, .int .i64 s.hd.ps, .bool false, .int .i32 0, .int .u64 0, .string ⟨List.toArray []⟩, .slice none 0 0]) := GB8.out.set_ 0 (.int .u8 19)
   have HU9 := Hj (HU8.out.fx F HU8.out.lt (fun k hk (x : k = g) => by have := HNE.out.2.1; omega))
   have NB9 := Hj (F.blk NB8.out NB8.out.lt (fun x => HNE.out.2.2.2.1 x))
   have TB9 := Hj (F.blk TB8.out TB8.out.lt (fun x => HNE.out.2.2.1 x))
   have HF9 := Hj (fx_set HF8.out (p := ⟨g, 0, none⟩) (.inr HNE.out.2.2.2.2) (.int .u8 19))
   have HG9 : Hid (g < (w8.setCell ⟨g, 0, none⟩ (.int .u8 19)).heap.size) := GB9.out.lt
   clear F GB8 HU8 NB8 TB8 HF8 HG8 m0 z0 t2 TBx tt
   generalize w8.setCell ⟨g, 0, none⟩ (.int .u8 19) = w9 at *
   go_wp2_with fail
   refine (HW.out Unit (.ok () s.tk) w9 d [40] [41] (by decide) (by decide) HDK.out.1 HU9.out).mono ?_
   rintro q w10 ⟨b, rfl, xb, eb, h8, f8⟩
   change ∀ a s', within (dK k) [40] [41] s.tk = .ok a s' → b.eqv a at eb
   change U R (within (dK k) [40] [41] s.tk) w10 at h8
   generalize within (dK k) [40] [41] s.tk = P at *
   have EB := Hj eb
   have HX : Hid (XO (fun k => w.heap.size < k ∧ k ≠ g) b w10) := xb.imp (fun k _ (x : w9.heap.size ≤ k) => by have h1 := HG9.out; have h2 := HNE.out.2.2.2.2; exact ⟨by omega, by omega⟩)
   clear eb xb
   have HU10 := Hj h8
   have NB10 := Hj (f8.blk NB9.out NB9.out.lt (on_ne HRL.out))
   have TB10 := Hj (f8.blk TB9.out TB9.out.lt (on_ne HNE.out.1))
   have GB10 := Hj (f8.blk GB9.out GB9.out.lt (on_ne HNE.out.2.1))
   have HF10 := Hj (fx_trans HF9.out f8)
   have HG10 : Hid (g < w10.heap.size) := GB10.out.lt
   clear HU9 NB9 TB9 GB9 HF9 f8
   clear h8
   unfold EH.v
   have hsz : (w10.setCell ⟨g, 6, none⟩ (.slice (some ⟨w10.heap.size, 0, none⟩) 1 1)).heap.size = w10.heap.size := World.size_setCell ..
   have F := fx_set (Fx.refl (On g) _ w10) (p := ⟨g, 6, none⟩) (.inl rfl) (.slice (some ⟨w10.heap.size, 0, none⟩) 1 1)
   have BLn := bel_one (w10.setCell ⟨g, 6, none⟩ (.slice (some ⟨w10.heap.size, 0, none⟩) 1 1)) (.cells b.h.vs.toArray 41)
   have HXL := Hj (one_row (HX.out.fx F (on_not (fun x => x.2 rfl))) (show w.heap.size < (w10.setCell ⟨g, 6, none⟩ (.slice (some ⟨w10.heap.size, 0, none⟩) 1 1)).heap.size ∧ (w10.setCell ⟨g, 6, none⟩ (.slice (some ⟨w10.heap.size, 0, none⟩) 1 1)).heap.size ≠ g by rw [hsz]; exact ⟨NB10.out.lt, Nat.ne_of_gt GB10.out.lt⟩) (t := 41) rfl)
   rw [hsz] at HXL
   have m6 : w10.cell? ⟨g, 6, none⟩ = some (.slice none 0 0) := GB10.out.cell 6
   have z6 : w10.frozen? ⟨g, 6, none⟩ = false := GB10.out.frozen 6
   have lg := GB10.out.lt
   have gb := GB10.out.set_ 6 (.slice (some ⟨w10.heap.size, 0, none⟩) 1 1)
   have GB11 : Hid (Blk ((w10.setCell ⟨g, 6, none⟩ (.slice (some ⟨w10.heap.size, 0, none⟩) 1 1)).alloc (.cells b.h.vs.toArray 41)) g 41 (EH.va ⟨19, s.hd.ps, false, 0, 0, [], ⟨some ⟨w10.heap.size, 0, none⟩, 1, 1⟩⟩)) := gb.below BLn gb.lt
   have hu := HU10.out.fx F HU10.out.lt (fun k hk (x : k = g) => by have := HNE.out.2.1; omega)
   have HU11 := Hj (hu.below BLn)
   have nb := F.blk NB10.out NB10.out.lt (fun x => HNE.out.2.2.2.1 x)
   have NB11 := Hj (nb.below BLn nb.lt)
   have tbk := F.blk TB10.out TB10.out.lt (fun x => HNE.out.2.2.1 x)
   have TB11 := Hj (tbk.below BLn tbk.lt)
   have HF11 := Hj (fx_bel (fx_set HF10.out (p := ⟨g, 6, none⟩) (.inr HNE.out.2.2.2.2) (.slice (some ⟨w10.heap.size, 0, none⟩) 1 1)) BLn)
   clear hu nb tbk gb F BLn hsz HX HU10 NB10 TB10 GB10 HF10
   go_upto_region 35 with fail
   change Code.wp _ _ _ _ ((w10.setCell ⟨g, 6, none⟩ (.slice (some ⟨w10.heap.size, 0, none⟩) 1 1)).alloc (.cells b.h.vs.toArray 41))
   clear m6 z6 lg
   generalize (w10.setCell ⟨g, 6, none⟩ (.slice (some ⟨w10.heap.size, 0, none⟩) 1 1)).alloc (.cells b.h.vs.toArray 41) = w11 at *
   generalize w10.heap.size = rw_ at *
   clear HG10
   cases P with
   | no c5 p5 =>
    obtain ⟨er, m2, he⟩ := HU11.out.err
    have e0 : (er == 0) = false := b_ne (fun e => by have := he.1 e; cases this)
    clear he
    have HXn : Hid (XO (fun k => w.heap.size < k) (.mk ⟨19, s.hd.ps, false, 0, 0, [], ⟨some ⟨rw_, 0, none⟩, 1, 1⟩⟩ (fun _ => b)) w11) := row_in (eh_ok (by decide) (by decide) HTD.out.ps0 HTD.out.ps1 (by decide) (by decide) (by decide) (by decide) (by decide) (sl_ok _ _ (by decide))) (HXL.out.imp (fun k _ x => x.1))
    go_wp2_with (first
     | refine ld_ex ⟨19, s.hd.ps, false, 0, 0, [], ⟨some ⟨rw_, 0, none⟩, 1, 1⟩⟩ g GB11.out rfl _ rfl rfl ?_
     | refine st_ex ⟨19, s.hd.ps, false, 0, 0, [], ⟨some ⟨rw_, 0, none⟩, 1, 1⟩⟩ w.heap.size _ NB11.out rfl rfl _ _ rfl rfl rfl ?_)
    refine bodyPost_ret (rs_ex rfl _ _ w.heap.size ⟨19, s.hd.ps, false, 0, 0, [], ⟨some ⟨rw_, 0, none⟩, 1, 1⟩⟩ rfl (NB11.out.rowS _)) rfl ?_
    rw [← HE.out]
    exact px_ret (e' := .mk ⟨19, s.hd.ps, false, 0, 0, [], ⟨some ⟨rw_, 0, none⟩, 1, 1⟩⟩ (fun _ => b)) HRL.out HXn.out (fun a s e => by cases e) (HU11.out.of rfl) HF11.out _
   | ok e5 s5 =>
    have HEB := Hj (EB.out e5 s5 rfl)
    clear EB
    obtain ⟨er, m2, he⟩ := HU11.out.err
    obtain rfl : er = 0 := he.2 rfl
    clear he
    have HXn : Hid (XO (fun k => w.heap.size < k) (.mk ⟨19, s.hd.ps, false, 0, 0, [], ⟨some ⟨rw_, 0, none⟩, 1, 1⟩⟩ (fun _ => b)) w11) := row_in (eh_ok (by decide) (by decide) HTD.out.ps0 HTD.out.ps1 (by decide) (by decide) (by decide) (by decide) (by decide) (sl_ok _ _ (by decide))) (HXL.out.imp (fun k _ x => x.1))
    go_wp2_with (refine ld_ex ⟨19, s.hd.ps, false, 0, 0, [], ⟨some ⟨rw_, 0, none⟩, 1, 1⟩⟩ g GB11.out rfl _ rfl rfl ?_)
    refine (rrwhole_any R (.ok e5 s5) ⟨19, s.hd.ps, false, 0, 0, [], ⟨some ⟨rw_, 0, none⟩, 1, 1⟩⟩ (opX 19 s.hd.ps [e5]) rfl w11 HU11.out).mono ?_
    rintro q wz ⟨rfl, hz, fz⟩
    have HUz : Hid (U R Z wz) := by show U R Z wz; rw [← HE.out]; exact hz
    have NBz := Hj (fz.blk NB11.out NB11.out.lt (on_ne HRL.out))
    have HXz := Hj (HXn.out.fx fz (on_not (fun x => Nat.lt_asymm x HRL.out)))
    have HFz := Hj (fx_trans HF11.out fz)
    have EBz : Hid (∀ a s', Z = .ok a s' → (Ex.mk ⟨19, s.hd.ps, false, 0, 0, [], ⟨some ⟨rw_, 0, none⟩, 1, 1⟩⟩ (fun _ => b)).eqv a) := fun a s' e => by
     rw [← HE.out] at e
     have := whole_ok e
     subst this
     exact one_eqv HEB.out
    clear hz fz m2 HXn HU11 NB11 TB11 GB11 HF11
    go_wp2_with (refine st_ex ⟨19, s.hd.ps, false, 0, 0, [], ⟨some ⟨rw_, 0, none⟩, 1, 1⟩⟩ w.heap.size _ NBz.out rfl rfl _ _ rfl rfl rfl ?_)
    exact bodyPost_ret (rs_ex rfl _ _ w.heap.size ⟨19, s.hd.ps, false, 0, 0, [], ⟨some ⟨rw_, 0, none⟩, 1, 1⟩⟩ rfl (NBz.out.rowS _)) rfl (px_ret (e' := .mk ⟨19, s.hd.ps, false, 0, 0, [], ⟨some ⟨rw_, 0, none⟩, 1, 1⟩⟩ (fun _ => b)) HRL.out HXz.out EBz.out HUz.out HFz.out _)
  go_wp2_with fail
  refine (rris_any R (.ok a s) [105, 110, 116] (by decide) w5 HU5.out).mono ?_
  rintro q w6 ⟨b, rfl, hb, bl⟩
  obtain rfl : b = false := (hb _ _ rfl).trans (beq_no ci)
  clear hb
  have HU6 := Hj (HU5.out.below bl)
  have NB6 := Hj (NB5.out.below bl NB5.out.lt)
  have TB6 := Hj (TB5.out.below bl TB5.out.lt)
  have GB6 := Hj (GB5.out.below bl GB5.out.lt)
  have HF6 := Hj (fx_bel HF5.out bl)
  clear HU5 NB5 TB5 GB5 HF5 bl
  by_cases cl : s.hd.tx = [102, 108, 111, 97, 116]
  ·go_wp2_with fail
   refine (rris_any R (.ok a s) [102, 108, 111, 97, 116] (by decide) w6 HU6.out).mono ?_
   rintro q w7 ⟨b, rfl, hb, bl⟩
   obtain rfl : b = true := (hb _ _ rfl).trans (beq_yes cl)
   clear hb
   have HU7 := Hj (HU6.out.below bl)
   have NB7 := Hj (NB6.out.below bl NB6.out.lt)
   have TB7 := Hj (TB6.out.below bl TB6.out.lt)
   have GB7 := Hj (GB6.out.below bl GB6.out.lt)
   have HF7 := Hj (fx_bel HF6.out bl)
   clear HU6 NB6 TB6 GB6 HF6 bl
   have HKD : Hid (s.hd.kd ≠ 0) := res_kd HU7.out (x := [102, 108, 111, 97, 116]) (by decide) cl
   have HE : Hid (((within (dK k) [40] [41] s.tk).bind fun e s' => whole (opX 20 s.hd.ps [e]) s') = Z) := by
    show _ = Z
    rw [← HZ.out]
    have ea : atT s.hd = 20 := by unfold atT; rw [if_neg c2, if_neg c3, if_neg c1, if_neg (fun x => x.elim ct cf)]; rw [cl]; decide
    exact (atm_f _ _ 20 ea (by decide) (by rw [cl]; decide)).symm
   clear HZ
   go_wp2_with fail
   refine (rrnext_any R (.ok a s) w7 HU7.out (fun a' s' e => by cases e; exact HKD.out)).mono ?_
   rintro q w8 ⟨t5, rfl, -, -, h5, f5⟩
   change U R (.ok () s.tk : Rs Unit) w8 at h5
   have HU8 := Hj h5
   have NB8 := Hj (f5.blk NB7.out NB7.out.lt (on_ne HRL.out))
   have TB8 := Hj (f5.blk TB7.out TB7.out.lt (on_ne HNE.out.1))
   have GB8 := Hj (f5.blk GB7.out GB7.out.lt (on_ne HNE.out.2.1))
   have HF8 := Hj (fx_trans HF7.out f5)
   have HG8 : Hid (g < w8.heap.size) := GB8.out.lt
   clear HU7 NB7 TB7 GB7 HF7 f5
   clear h5
   clear t0
   have m0 : w8.cell? ⟨g, 0, none⟩ = some (.int .u8 0) := GB8.out.cell 0
   have z0 : w8.frozen? ⟨g, 0, none⟩ = false := GB8.out.frozen 0
   have t0 : w8.cell? ⟨tb, 0, none⟩ = some (.int .u8 s.hd.kd) := TB8.out.cell 0
   have t1 : w8.cell? ⟨tb, 1, none⟩ = some (.int .i64 s.hd.ps) := TB8.out.cell 1
   have t2 : w8.cell? ⟨tb, 2, none⟩ = some (.string ⟨s.hd.tx.toArray⟩) := TB8.out.cell 2
   have t3 : w8.cell? ⟨tb, 3, none⟩ = some (.int .i32 s.hd.nn) := TB8.out.cell 3
   have t4 : w8.cell? ⟨tb, 4, none⟩ = some (.int .u64 s.hd.ff) := TB8.out.cell 4
   go_upto_region 28 with fail
   change (Code.region 28 _ _).wp _ _ _ (w8.setCell ⟨g, 0, none⟩ (.int .u8 21))
   have F := fx_set (Fx.refl (On g) _ w8) (p := ⟨g, 0, none⟩) (.inl rfl) (.int .u8 21)
   have GB9 : Hid (Blk (w8.setCell ⟨g, 0, none⟩ (.int .u8 21)) g 41 #[.int .u8 21, .int .i64 s.hd.ps, .bool false, .int .i32 0, .int .u64 0, .string ⟨List.toArray []⟩, .slice none 0 0]) := GB8.out.set_ 0 (.int .u8 21)
   have HU9 := Hj (HU8.out.fx F HU8.out.lt (fun k hk (x : k = g) => by have := HNE.out.2.1; omega))
   have NB9 := Hj (F.blk NB8.out NB8.out.lt (fun x => HNE.out.2.2.2.1 x))
   have TB9 := Hj (F.blk TB8.out TB8.out.lt (fun x => HNE.out.2.2.1 x))
   have HF9 := Hj (fx_set HF8.out (p := ⟨g, 0, none⟩) (.inr HNE.out.2.2.2.2) (.int .u8 21))
   have HG9 : Hid (g < (w8.setCell ⟨g, 0, none⟩ (.int .u8 21)).heap.size) := GB9.out.lt
   clear F GB8 HU8 NB8 TB8 HF8 HG8 m0 z0 t0 t1 t2 t3 t4
   generalize w8.setCell ⟨g, 0, none⟩ (.int .u8 21) = w9 at *
   have tt : (⟨s.hd.tx.toArray⟩ : ByteArray) = ⟨List.toArray [102, 108, 111, 97, 116]⟩ := by rw [cl]
   have TBx : Hid (Blk w9 tb 62 #[.int .u8 s.hd.kd, .int .i64 s.hd.ps, .string ⟨List.toArray [102, 108, 111, 97, 116]⟩, .int .i32 s.hd.nn, .int .u64 s.hd.ff]) := by rw [← tt]; exact TB9.out
   have t2 : w9.cell? ⟨tb, 2, none⟩ = some (.string ⟨List.toArray [102, 108, 111, 97, 116]⟩) := TBx.out.cell 2
   have m0 : w9.cell? ⟨g, 0, none⟩ = some (.int .u8 21) := GB9.out.cell 0
   have z0 : w9.frozen? ⟨g, 0, none⟩ = false := GB9.out.frozen 0
   go_upto_region 32 with fail
   change (Code.region 32 _ _).wp _ _ _ (w9.setCell ⟨g, 0, none⟩ (.int .u8 20))
   have F := fx_set (Fx.refl (On g) _ w9) (p := ⟨g, 0, none⟩) (.inl rfl) (.int .u8 20)
   have GB10 : Hid (Blk (w9.setCell ⟨g, 0, none⟩ (.int .u8 20)) g 41 #[.int .u8 20, .int .i64 s.hd.ps, .bool false, .int .i32 0, .int .u64 0, .string ⟨List.toArray []⟩, .slice none 0 0]) := GB9.out.set_ 0 (.int .u8 20)
   have HU10 := Hj (HU9.out.fx F HU9.out.lt (fun k hk (x : k = g) => by have := HNE.out.2.1; omega))
   have NB10 := Hj (F.blk NB9.out NB9.out.lt (fun x => HNE.out.2.2.2.1 x))
   have TB10 := Hj (F.blk TB9.out TB9.out.lt (fun x => HNE.out.2.2.1 x))
   have HF10 := Hj (fx_set HF9.out (p := ⟨g, 0, none⟩) (.inr HNE.out.2.2.2.2) (.int .u8 20))
   have HG10 : Hid (g < (w9.setCell ⟨g, 0, none⟩ (.int .u8 20)).heap.size) := GB10.out.lt
   clear F GB9 HU9 NB9 TB9 HF9 HG9 m0 z0 t2 TBx tt
   generalize w9.setCell ⟨g, 0, none⟩ (.int .u8 20) = w10 at *
   go_wp2_with fail
   refine (HW.out Unit (.ok () s.tk) w10 d [40] [41] (by decide) (by decide) HDK.out.1 HU10.out).mono ?_
   rintro q w11 ⟨b, rfl, xb, eb, h8, f8⟩
   change ∀ a s', within (dK k) [40] [41] s.tk = .ok a s' → b.eqv a at eb
   change U R (within (dK k) [40] [41] s.tk) w11 at h8
   generalize within (dK k) [40] [41] s.tk = P at *
   have EB := Hj eb
   have HX : Hid (XO (fun k => w.heap.size < k ∧ k ≠ g) b w11) := xb.imp (fun k _ (x : w10.heap.size ≤ k) => by have h1 := HG10.out; have h2 := HNE.out.2.2.2.2; exact ⟨by omega, by omega⟩)
   clear eb xb
   have HU11 := Hj h8
   have NB11 := Hj (f8.blk NB10.out NB10.out.lt (on_ne HRL.out))
   have TB11 := Hj (f8.blk TB10.out TB10.out.lt (on_ne HNE.out.1))
   have GB11 := Hj (f8.blk GB10.out GB10.out.lt (on_ne HNE.out.2.1))
   have HF11 := Hj (fx_trans HF10.out f8)
   have HG11 : Hid (g < w11.heap.size) := GB11.out.lt
   clear HU10 NB10 TB10 GB10 HF10 f8
   clear h8
   unfold EH.v
   have hsz : (w11.setCell ⟨g, 6, none⟩ (.slice (some ⟨w11.heap.size, 0, none⟩) 1 1)).heap.size = w11.heap.size := World.size_setCell ..
   have F := fx_set (Fx.refl (On g) _ w11) (p := ⟨g, 6, none⟩) (.inl rfl) (.slice (some ⟨w11.heap.size, 0, none⟩) 1 1)
   have BLn := bel_one (w11.setCell ⟨g, 6, none⟩ (.slice (some ⟨w11.heap.size, 0, none⟩) 1 1)) (.cells b.h.vs.toArray 41)
   have HXL := Hj (one_row (HX.out.fx F (on_not (fun x => x.2 rfl))) (show w.heap.size < (w11.setCell ⟨g, 6, none⟩ (.slice (some ⟨w11.heap.size, 0, none⟩) 1 1)).heap.size ∧ (w11.setCell ⟨g, 6, none⟩ (.slice (some ⟨w11.heap.size, 0, none⟩) 1 1)).heap.size ≠ g by rw [hsz]; exact ⟨NB11.out.lt, Nat.ne_of_gt GB11.out.lt⟩) (t := 41) rfl)
   rw [hsz] at HXL
   have m6 : w11.cell? ⟨g, 6, none⟩ = some (.slice none 0 0) := GB11.out.cell 6
   have z6 : w11.frozen? ⟨g, 6, none⟩ = false := GB11.out.frozen 6
   have lg := GB11.out.lt
   have gb := GB11.out.set_ 6 (.slice (some ⟨w11.heap.size, 0, none⟩) 1 1)
   have GB12 : Hid (Blk ((w11.setCell ⟨g, 6, none⟩ (.slice (some ⟨w11.heap.size, 0, none⟩) 1 1)).alloc (.cells b.h.vs.toArray 41)) g 41 (EH.va ⟨20, s.hd.ps, false, 0, 0, [], ⟨some ⟨w11.heap.size, 0, none⟩, 1, 1⟩⟩)) := gb.below BLn gb.lt
   have hu := HU11.out.fx F HU11.out.lt (fun k hk (x : k = g) => by have := HNE.out.2.1; omega)
   have HU12 := Hj (hu.below BLn)
   have nb := F.blk NB11.out NB11.out.lt (fun x => HNE.out.2.2.2.1 x)
   have NB12 := Hj (nb.below BLn nb.lt)
   have tbk := F.blk TB11.out TB11.out.lt (fun x => HNE.out.2.2.1 x)
   have TB12 := Hj (tbk.below BLn tbk.lt)
   have HF12 := Hj (fx_bel (fx_set HF11.out (p := ⟨g, 6, none⟩) (.inr HNE.out.2.2.2.2) (.slice (some ⟨w11.heap.size, 0, none⟩) 1 1)) BLn)
   clear hu nb tbk gb F BLn hsz HX HU11 NB11 TB11 GB11 HF11
   go_upto_region 35 with fail
   change Code.wp _ _ _ _ ((w11.setCell ⟨g, 6, none⟩ (.slice (some ⟨w11.heap.size, 0, none⟩) 1 1)).alloc (.cells b.h.vs.toArray 41))
   clear m6 z6 lg
   generalize (w11.setCell ⟨g, 6, none⟩ (.slice (some ⟨w11.heap.size, 0, none⟩) 1 1)).alloc (.cells b.h.vs.toArray 41) = w12 at *
   generalize w11.heap.size = rw_ at *
   clear HG11
   cases P with
   | no c5 p5 =>
    obtain ⟨er, m2, he⟩ := HU12.out.err
    have e0 : (er == 0) = false := b_ne (fun e => by have := he.1 e; cases this)
    clear he
    have HXn : Hid (XO (fun k => w.heap.size < k) (.mk ⟨20, s.hd.ps, false, 0, 0, [], ⟨some ⟨rw_, 0, none⟩, 1, 1⟩⟩ (fun _ => b)) w12) := row_in (eh_ok (by decide) (by decide) HTD.out.ps0 HTD.out.ps1 (by decide) (by decide) (by decide) (by decide) (by decide) (sl_ok _ _ (by decide))) (HXL.out.imp (fun k _ x => x.1))
    go_wp2_with (first
     | refine ld_ex ⟨20, s.hd.ps, false, 0, 0, [], ⟨some ⟨rw_, 0, none⟩, 1, 1⟩⟩ g GB12.out rfl _ rfl rfl ?_
     | refine st_ex ⟨20, s.hd.ps, false, 0, 0, [], ⟨some ⟨rw_, 0, none⟩, 1, 1⟩⟩ w.heap.size _ NB12.out rfl rfl _ _ rfl rfl rfl ?_)
    refine bodyPost_ret (rs_ex rfl _ _ w.heap.size ⟨20, s.hd.ps, false, 0, 0, [], ⟨some ⟨rw_, 0, none⟩, 1, 1⟩⟩ rfl (NB12.out.rowS _)) rfl ?_
    rw [← HE.out]
    exact px_ret (e' := .mk ⟨20, s.hd.ps, false, 0, 0, [], ⟨some ⟨rw_, 0, none⟩, 1, 1⟩⟩ (fun _ => b)) HRL.out HXn.out (fun a s e => by cases e) (HU12.out.of rfl) HF12.out _
   | ok e5 s5 =>
    have HEB := Hj (EB.out e5 s5 rfl)
    clear EB
    obtain ⟨er, m2, he⟩ := HU12.out.err
    obtain rfl : er = 0 := he.2 rfl
    clear he
    have HXn : Hid (XO (fun k => w.heap.size < k) (.mk ⟨20, s.hd.ps, false, 0, 0, [], ⟨some ⟨rw_, 0, none⟩, 1, 1⟩⟩ (fun _ => b)) w12) := row_in (eh_ok (by decide) (by decide) HTD.out.ps0 HTD.out.ps1 (by decide) (by decide) (by decide) (by decide) (by decide) (sl_ok _ _ (by decide))) (HXL.out.imp (fun k _ x => x.1))
    go_wp2_with (refine ld_ex ⟨20, s.hd.ps, false, 0, 0, [], ⟨some ⟨rw_, 0, none⟩, 1, 1⟩⟩ g GB12.out rfl _ rfl rfl ?_)
    refine (rrwhole_any R (.ok e5 s5) ⟨20, s.hd.ps, false, 0, 0, [], ⟨some ⟨rw_, 0, none⟩, 1, 1⟩⟩ (opX 20 s.hd.ps [e5]) rfl w12 HU12.out).mono ?_
    rintro q wz ⟨rfl, hz, fz⟩
    have HUz : Hid (U R Z wz) := by show U R Z wz; rw [← HE.out]; exact hz
    have NBz := Hj (fz.blk NB12.out NB12.out.lt (on_ne HRL.out))
    have HXz := Hj (HXn.out.fx fz (on_not (fun x => Nat.lt_asymm x HRL.out)))
    have HFz := Hj (fx_trans HF12.out fz)
    have EBz : Hid (∀ a s', Z = .ok a s' → (Ex.mk ⟨20, s.hd.ps, false, 0, 0, [], ⟨some ⟨rw_, 0, none⟩, 1, 1⟩⟩ (fun _ => b)).eqv a) := fun a s' e => by
     rw [← HE.out] at e
     have := whole_ok e
     subst this
     exact one_eqv HEB.out
    clear hz fz m2 HXn HU12 NB12 TB12 GB12 HF12
    go_wp2_with (refine st_ex ⟨20, s.hd.ps, false, 0, 0, [], ⟨some ⟨rw_, 0, none⟩, 1, 1⟩⟩ w.heap.size _ NBz.out rfl rfl _ _ rfl rfl rfl ?_)
    exact bodyPost_ret (rs_ex rfl _ _ w.heap.size ⟨20, s.hd.ps, false, 0, 0, [], ⟨some ⟨rw_, 0, none⟩, 1, 1⟩⟩ rfl (NBz.out.rowS _)) rfl (px_ret (e' := .mk ⟨20, s.hd.ps, false, 0, 0, [], ⟨some ⟨rw_, 0, none⟩, 1, 1⟩⟩ (fun _ => b)) HRL.out HXz.out EBz.out HUz.out HFz.out _)
  go_wp2_with fail
  refine (rris_any R (.ok a s) [102, 108, 111, 97, 116] (by decide) w6 HU6.out).mono ?_
  rintro q w7 ⟨b, rfl, hb, bl⟩
  obtain rfl : b = false := (hb _ _ rfl).trans (beq_no cl)
  clear hb
  have HU7 := Hj (HU6.out.below bl)
  have NB7 := Hj (NB6.out.below bl NB6.out.lt)
  have TB7 := Hj (TB6.out.below bl TB6.out.lt)
  have GB7 := Hj (GB6.out.below bl GB6.out.lt)
  have HF7 := Hj (fx_bel HF6.out bl)
  clear HU6 NB6 TB6 GB6 HF6 bl
  by_cases ca : s.hd.tx = [97, 98, 115]
  ·go_wp2_with fail
   refine (rris_any R (.ok a s) [97, 98, 115] (by decide) w7 HU7.out).mono ?_
   rintro q w8 ⟨b, rfl, hb, bl⟩
   obtain rfl : b = true := (hb _ _ rfl).trans (beq_yes ca)
   clear hb
   have HU8 := Hj (HU7.out.below bl)
   have NB8 := Hj (NB7.out.below bl NB7.out.lt)
   have TB8 := Hj (TB7.out.below bl TB7.out.lt)
   have GB8 := Hj (GB7.out.below bl GB7.out.lt)
   have HF8 := Hj (fx_bel HF7.out bl)
   clear HU7 NB7 TB7 GB7 HF7 bl
   have HKD : Hid (s.hd.kd ≠ 0) := res_kd HU8.out (x := [97, 98, 115]) (by decide) ca
   have HE : Hid (((within (dK k) [40] [41] s.tk).bind fun e s' => whole (opX 21 s.hd.ps [e]) s') = Z) := by
    show _ = Z
    rw [← HZ.out]
    have ea : atT s.hd = 21 := by unfold atT; rw [if_neg c2, if_neg c3, if_neg c1, if_neg (fun x => x.elim ct cf)]; rw [ca]; decide
    exact (atm_f _ _ 21 ea (by decide) (by rw [ca]; decide)).symm
   clear HZ
   go_wp2_with fail
   refine (rrnext_any R (.ok a s) w8 HU8.out (fun a' s' e => by cases e; exact HKD.out)).mono ?_
   rintro q w9 ⟨t5, rfl, -, -, h5, f5⟩
   change U R (.ok () s.tk : Rs Unit) w9 at h5
   have HU9 := Hj h5
   have NB9 := Hj (f5.blk NB8.out NB8.out.lt (on_ne HRL.out))
   have TB9 := Hj (f5.blk TB8.out TB8.out.lt (on_ne HNE.out.1))
   have GB9 := Hj (f5.blk GB8.out GB8.out.lt (on_ne HNE.out.2.1))
   have HF9 := Hj (fx_trans HF8.out f5)
   have HG9 : Hid (g < w9.heap.size) := GB9.out.lt
   clear HU8 NB8 TB8 GB8 HF8 f5
   clear h5
   clear t0
   have m0 : w9.cell? ⟨g, 0, none⟩ = some (.int .u8 0) := GB9.out.cell 0
   have z0 : w9.frozen? ⟨g, 0, none⟩ = false := GB9.out.frozen 0
   have t0 : w9.cell? ⟨tb, 0, none⟩ = some (.int .u8 s.hd.kd) := TB9.out.cell 0
   have t1 : w9.cell? ⟨tb, 1, none⟩ = some (.int .i64 s.hd.ps) := TB9.out.cell 1
   have t2 : w9.cell? ⟨tb, 2, none⟩ = some (.string ⟨s.hd.tx.toArray⟩) := TB9.out.cell 2
   have t3 : w9.cell? ⟨tb, 3, none⟩ = some (.int .i32 s.hd.nn) := TB9.out.cell 3
   have t4 : w9.cell? ⟨tb, 4, none⟩ = some (.int .u64 s.hd.ff) := TB9.out.cell 4
   go_upto_region 28 with fail
   change (Code.region 28 _ _).wp _ _ _ (w9.setCell ⟨g, 0, none⟩ (.int .u8 21))
   have F := fx_set (Fx.refl (On g) _ w9) (p := ⟨g, 0, none⟩) (.inl rfl) (.int .u8 21)
   have GB10 : Hid (Blk (w9.setCell ⟨g, 0, none⟩ (.int .u8 21)) g 41 #[.int .u8 21, .int .i64 s.hd.ps, .bool false, .int .i32 0, .int .u64 0, .string ⟨List.toArray []⟩, .slice none 0 0]) := GB9.out.set_ 0 (.int .u8 21)
   have HU10 := Hj (HU9.out.fx F HU9.out.lt (fun k hk (x : k = g) => by have := HNE.out.2.1; omega))
   have NB10 := Hj (F.blk NB9.out NB9.out.lt (fun x => HNE.out.2.2.2.1 x))
   have TB10 := Hj (F.blk TB9.out TB9.out.lt (fun x => HNE.out.2.2.1 x))
   have HF10 := Hj (fx_set HF9.out (p := ⟨g, 0, none⟩) (.inr HNE.out.2.2.2.2) (.int .u8 21))
   have HG10 : Hid (g < (w9.setCell ⟨g, 0, none⟩ (.int .u8 21)).heap.size) := GB10.out.lt
   clear F GB9 HU9 NB9 TB9 HF9 HG9 m0 z0 t0 t1 t2 t3 t4
   generalize w9.setCell ⟨g, 0, none⟩ (.int .u8 21) = w10 at *
   have tt : (⟨s.hd.tx.toArray⟩ : ByteArray) = ⟨List.toArray [97, 98, 115]⟩ := by rw [ca]
   have TBx : Hid (Blk w10 tb 62 #[.int .u8 s.hd.kd, .int .i64 s.hd.ps, .string ⟨List.toArray [97, 98, 115]⟩, .int .i32 s.hd.nn, .int .u64 s.hd.ff]) := by rw [← tt]; exact TB10.out
   have t2 : w10.cell? ⟨tb, 2, none⟩ = some (.string ⟨List.toArray [97, 98, 115]⟩) := TBx.out.cell 2
   go_upto_region 32 with fail
   clear t2 TBx tt
   go_wp2_with fail
   refine (HW.out Unit (.ok () s.tk) w10 d [40] [41] (by decide) (by decide) HDK.out.1 HU10.out).mono ?_
   rintro q w11 ⟨b, rfl, xb, eb, h8, f8⟩
   change ∀ a s', within (dK k) [40] [41] s.tk = .ok a s' → b.eqv a at eb
   change U R (within (dK k) [40] [41] s.tk) w11 at h8
   generalize within (dK k) [40] [41] s.tk = P at *
   have EB := Hj eb
   have HX : Hid (XO (fun k => w.heap.size < k ∧ k ≠ g) b w11) := xb.imp (fun k _ (x : w10.heap.size ≤ k) => by have h1 := HG10.out; have h2 := HNE.out.2.2.2.2; exact ⟨by omega, by omega⟩)
   clear eb xb
   have HU11 := Hj h8
   have NB11 := Hj (f8.blk NB10.out NB10.out.lt (on_ne HRL.out))
   have TB11 := Hj (f8.blk TB10.out TB10.out.lt (on_ne HNE.out.1))
   have GB11 := Hj (f8.blk GB10.out GB10.out.lt (on_ne HNE.out.2.1))
   have HF11 := Hj (fx_trans HF10.out f8)
   have HG11 : Hid (g < w11.heap.size) := GB11.out.lt
   clear HU10 NB10 TB10 GB10 HF10 f8
   clear h8
   unfold EH.v
   have hsz : (w11.setCell ⟨g, 6, none⟩ (.slice (some ⟨w11.heap.size, 0, none⟩) 1 1)).heap.size = w11.heap.size := World.size_setCell ..
   have F := fx_set (Fx.refl (On g) _ w11) (p := ⟨g, 6, none⟩) (.inl rfl) (.slice (some ⟨w11.heap.size, 0, none⟩) 1 1)
   have BLn := bel_one (w11.setCell ⟨g, 6, none⟩ (.slice (some ⟨w11.heap.size, 0, none⟩) 1 1)) (.cells b.h.vs.toArray 41)
   have HXL := Hj (one_row (HX.out.fx F (on_not (fun x => x.2 rfl))) (show w.heap.size < (w11.setCell ⟨g, 6, none⟩ (.slice (some ⟨w11.heap.size, 0, none⟩) 1 1)).heap.size ∧ (w11.setCell ⟨g, 6, none⟩ (.slice (some ⟨w11.heap.size, 0, none⟩) 1 1)).heap.size ≠ g by rw [hsz]; exact ⟨NB11.out.lt, Nat.ne_of_gt GB11.out.lt⟩) (t := 41) rfl)
   rw [hsz] at HXL
   have m6 : w11.cell? ⟨g, 6, none⟩ = some (.slice none 0 0) := GB11.out.cell 6
   have z6 : w11.frozen? ⟨g, 6, none⟩ = false := GB11.out.frozen 6
   have lg := GB11.out.lt
   have gb := GB11.out.set_ 6 (.slice (some ⟨w11.heap.size, 0, none⟩) 1 1)
   have GB12 : Hid (Blk ((w11.setCell ⟨g, 6, none⟩ (.slice (some ⟨w11.heap.size, 0, none⟩) 1 1)).alloc (.cells b.h.vs.toArray 41)) g 41 (EH.va ⟨21, s.hd.ps, false, 0, 0, [], ⟨some ⟨w11.heap.size, 0, none⟩, 1, 1⟩⟩)) := gb.below BLn gb.lt
   have hu := HU11.out.fx F HU11.out.lt (fun k hk (x : k = g) => by have := HNE.out.2.1; omega)
   have HU12 := Hj (hu.below BLn)
   have nb := F.blk NB11.out NB11.out.lt (fun x => HNE.out.2.2.2.1 x)
   have NB12 := Hj (nb.below BLn nb.lt)
   have tbk := F.blk TB11.out TB11.out.lt (fun x => HNE.out.2.2.1 x)
   have TB12 := Hj (tbk.below BLn tbk.lt)
   have HF12 := Hj (fx_bel (fx_set HF11.out (p := ⟨g, 6, none⟩) (.inr HNE.out.2.2.2.2) (.slice (some ⟨w11.heap.size, 0, none⟩) 1 1)) BLn)
   clear hu nb tbk gb F BLn hsz HX HU11 NB11 TB11 GB11 HF11
   go_upto_region 35 with fail
   change Code.wp _ _ _ _ ((w11.setCell ⟨g, 6, none⟩ (.slice (some ⟨w11.heap.size, 0, none⟩) 1 1)).alloc (.cells b.h.vs.toArray 41))
   clear m6 z6 lg
   generalize (w11.setCell ⟨g, 6, none⟩ (.slice (some ⟨w11.heap.size, 0, none⟩) 1 1)).alloc (.cells b.h.vs.toArray 41) = w12 at *
   generalize w11.heap.size = rw_ at *
   clear HG11
   cases P with
   | no c5 p5 =>
    obtain ⟨er, m2, he⟩ := HU12.out.err
    have e0 : (er == 0) = false := b_ne (fun e => by have := he.1 e; cases this)
    clear he
    have HXn : Hid (XO (fun k => w.heap.size < k) (.mk ⟨21, s.hd.ps, false, 0, 0, [], ⟨some ⟨rw_, 0, none⟩, 1, 1⟩⟩ (fun _ => b)) w12) := row_in (eh_ok (by decide) (by decide) HTD.out.ps0 HTD.out.ps1 (by decide) (by decide) (by decide) (by decide) (by decide) (sl_ok _ _ (by decide))) (HXL.out.imp (fun k _ x => x.1))
    go_wp2_with (first
     | refine ld_ex ⟨21, s.hd.ps, false, 0, 0, [], ⟨some ⟨rw_, 0, none⟩, 1, 1⟩⟩ g GB12.out rfl _ rfl rfl ?_
     | refine st_ex ⟨21, s.hd.ps, false, 0, 0, [], ⟨some ⟨rw_, 0, none⟩, 1, 1⟩⟩ w.heap.size _ NB12.out rfl rfl _ _ rfl rfl rfl ?_)
    refine bodyPost_ret (rs_ex rfl _ _ w.heap.size ⟨21, s.hd.ps, false, 0, 0, [], ⟨some ⟨rw_, 0, none⟩, 1, 1⟩⟩ rfl (NB12.out.rowS _)) rfl ?_
    rw [← HE.out]
    exact px_ret (e' := .mk ⟨21, s.hd.ps, false, 0, 0, [], ⟨some ⟨rw_, 0, none⟩, 1, 1⟩⟩ (fun _ => b)) HRL.out HXn.out (fun a s e => by cases e) (HU12.out.of rfl) HF12.out _
   | ok e5 s5 =>
    have HEB := Hj (EB.out e5 s5 rfl)
    clear EB
    obtain ⟨er, m2, he⟩ := HU12.out.err
    obtain rfl : er = 0 := he.2 rfl
    clear he
    have HXn : Hid (XO (fun k => w.heap.size < k) (.mk ⟨21, s.hd.ps, false, 0, 0, [], ⟨some ⟨rw_, 0, none⟩, 1, 1⟩⟩ (fun _ => b)) w12) := row_in (eh_ok (by decide) (by decide) HTD.out.ps0 HTD.out.ps1 (by decide) (by decide) (by decide) (by decide) (by decide) (sl_ok _ _ (by decide))) (HXL.out.imp (fun k _ x => x.1))
    go_wp2_with (refine ld_ex ⟨21, s.hd.ps, false, 0, 0, [], ⟨some ⟨rw_, 0, none⟩, 1, 1⟩⟩ g GB12.out rfl _ rfl rfl ?_)
    refine (rrwhole_any R (.ok e5 s5) ⟨21, s.hd.ps, false, 0, 0, [], ⟨some ⟨rw_, 0, none⟩, 1, 1⟩⟩ (opX 21 s.hd.ps [e5]) rfl w12 HU12.out).mono ?_
    rintro q wz ⟨rfl, hz, fz⟩
    have HUz : Hid (U R Z wz) := by show U R Z wz; rw [← HE.out]; exact hz
    have NBz := Hj (fz.blk NB12.out NB12.out.lt (on_ne HRL.out))
    have HXz := Hj (HXn.out.fx fz (on_not (fun x => Nat.lt_asymm x HRL.out)))
    have HFz := Hj (fx_trans HF12.out fz)
    have EBz : Hid (∀ a s', Z = .ok a s' → (Ex.mk ⟨21, s.hd.ps, false, 0, 0, [], ⟨some ⟨rw_, 0, none⟩, 1, 1⟩⟩ (fun _ => b)).eqv a) := fun a s' e => by
     rw [← HE.out] at e
     have := whole_ok e
     subst this
     exact one_eqv HEB.out
    clear hz fz m2 HXn HU12 NB12 TB12 GB12 HF12
    go_wp2_with (refine st_ex ⟨21, s.hd.ps, false, 0, 0, [], ⟨some ⟨rw_, 0, none⟩, 1, 1⟩⟩ w.heap.size _ NBz.out rfl rfl _ _ rfl rfl rfl ?_)
    exact bodyPost_ret (rs_ex rfl _ _ w.heap.size ⟨21, s.hd.ps, false, 0, 0, [], ⟨some ⟨rw_, 0, none⟩, 1, 1⟩⟩ rfl (NBz.out.rowS _)) rfl (px_ret (e' := .mk ⟨21, s.hd.ps, false, 0, 0, [], ⟨some ⟨rw_, 0, none⟩, 1, 1⟩⟩ (fun _ => b)) HRL.out HXz.out EBz.out HUz.out HFz.out _)
  go_wp2_with fail
  refine (rris_any R (.ok a s) [97, 98, 115] (by decide) w7 HU7.out).mono ?_
  rintro q w8 ⟨b, rfl, hb, bl⟩
  obtain rfl : b = false := (hb _ _ rfl).trans (beq_no ca)
  clear hb
  have HU8 := Hj (HU7.out.below bl)
  have NB8 := Hj (NB7.out.below bl NB7.out.lt)
  have TB8 := Hj (TB7.out.below bl TB7.out.lt)
  have GB8 := Hj (GB7.out.below bl GB7.out.lt)
  have HF8 := Hj (fx_bel HF7.out bl)
  clear HU7 NB7 TB7 GB7 HF7 bl
  by_cases cp : s.hd.tx = [40]
  ·have HE : Hid (within (dK k) [40] [41] s = Z) := by
    show _ = Z
    rw [← HZ.out]
    unfold atom
    rw [if_pos cp]
   clear HZ
   go_wp2_with fail
   refine (rris_any R (.ok a s) [40] (by decide) w8 HU8.out).mono ?_
   rintro q w9 ⟨b, rfl, hb, bl⟩
   obtain rfl : b = true := (hb _ _ rfl).trans (beq_yes cp)
   clear hb
   have HU9 := Hj (HU8.out.below bl)
   have NB9 := Hj (NB8.out.below bl NB8.out.lt)
   have TB9 := Hj (TB8.out.below bl TB8.out.lt)
   have GB9 := Hj (GB8.out.below bl GB8.out.lt)
   have HF9 := Hj (fx_bel HF8.out bl)
   clear HU8 NB8 TB8 GB8 HF8 bl
   go_wp2_with fail
   refine (HW.out α (.ok a s) w9 d [40] [41] (by decide) (by decide) HDK.out.1 HU9.out).mono ?_
   rintro q w10 ⟨b, rfl, xb, eb, h10, f10⟩
   change ∀ a s', within (dK k) [40] [41] s = .ok a s' → b.eqv a at eb
   change U R (within (dK k) [40] [41] s) w10 at h10
   rw [HE.out] at eb h10
   have EB := Hj eb
   have HU10 := Hj h10
   have NB10 := Hj (f10.blk NB9.out NB9.out.lt (on_ne HRL.out))
   have HF10 := Hj (fx_trans HF9.out f10)
   have HX10 : Hid (XO (fun k => w.heap.size < k) b w10) := xb.imp (fun k _ (x : w9.heap.size ≤ k) => Nat.lt_of_lt_of_le NB9.out.lt x)
   clear eb h10 f10 xb HU9 NB9 TB9 GB9 HF9
   go_wp2_with (refine st_ex b.h w.heap.size _ NB10.out rfl rfl _ _ rfl rfl rfl ?_)
   exact bodyPost_ret (rs_ex rfl _ _ w.heap.size b.h rfl (NB10.out.rowS _)) rfl (px_ret HRL.out HX10.out EB.out HU10.out HF10.out _)
  ·have HE : Hid (Rs.no 110 s.hd.ps = Z) := by
    show _ = Z
    rw [← HZ.out]
    have ea : atT s.hd = 0 := by unfold atT; rw [if_neg c2, if_neg c3, if_neg c1, if_neg (fun x => x.elim ct cf), if_neg ci, if_neg cl, if_neg ca]
    unfold atom
    rw [if_neg cp, if_pos ea]
    rfl
   clear HZ
   go_wp2_with fail
   refine (rris_any R (.ok a s) [40] (by decide) w8 HU8.out).mono ?_
   rintro q w9 ⟨b, rfl, hb, bl⟩
   obtain rfl : b = false := (hb _ _ rfl).trans (beq_no cp)
   clear hb
   have HU9 := Hj (HU8.out.below bl)
   have NB9 := Hj (NB8.out.below bl NB8.out.lt)
   have TB9 := Hj (TB8.out.below bl TB8.out.lt)
   have GB9 := Hj (GB8.out.below bl GB8.out.lt)
   have HF9 := Hj (fx_bel HF8.out bl)
   clear HU8 NB8 TB8 GB8 HF8 bl
   have t1 : w9.cell? ⟨tb, 1, none⟩ = some (.int .i64 s.hd.ps) := TB9.out.cell 1
   go_wp2_with fail
   refine (rrfail_any R (.ok a s) 110 s.hd.ps (by decide) w9 HU9.out).mono ?_
   rintro q w10 ⟨rfl, h10, f10⟩
   change U R (.no 110 s.hd.ps : Rs Unit) w10 at h10
   clear t1
   have HU10 := Hj h10
   have NB10 := Hj (f10.blk NB9.out NB9.out.lt (on_ne HRL.out))
   have TB10 := Hj (f10.blk TB9.out TB9.out.lt (on_ne HNE.out.1))
   have GB10 := Hj (f10.blk GB9.out GB9.out.lt (on_ne HNE.out.2.1))
   have HF10 := Hj (fx_trans HF9.out f10)
   have HG10 : Hid (g < w10.heap.size) := GB10.out.lt
   clear HU9 NB9 TB9 GB9 HF9 f10
   clear h10
   go_wp2_with (first
    | refine ld_ex ⟨0, s.hd.ps, false, 0, 0, [], ⟨none, 0, 0⟩⟩ g GB10.out rfl _ rfl rfl ?_
    | refine st_ex ⟨0, s.hd.ps, false, 0, 0, [], ⟨none, 0, 0⟩⟩ w.heap.size _ NB10.out rfl rfl _ _ rfl rfl rfl ?_)
   refine bodyPost_ret (rs_ex rfl _ _ w.heap.size ⟨0, s.hd.ps, false, 0, 0, [], ⟨none, 0, 0⟩⟩ rfl (NB10.out.rowS _)) rfl ?_
   rw [← HE.out]
   exact px_ret (e' := .mk ⟨0, s.hd.ps, false, 0, 0, [], ⟨none, 0, 0⟩⟩ (fun _ => .no)) HRL.out (leaf_ok (by decide) (by decide) HTD.out.ps0 HTD.out.ps1 (by decide) (by decide) (by decide) (by decide) (by decide)) (fun a s e => by cases e) (HU10.out.of rfl) HF10.out _
end Go.Proofs.YthmlhkllbichgaaGreatDoor
