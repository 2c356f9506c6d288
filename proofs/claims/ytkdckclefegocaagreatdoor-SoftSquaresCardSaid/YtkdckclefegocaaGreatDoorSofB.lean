/-
  Contracts of soft's shift, take and widest: numbers of two words. Conditions: the fields are words, shifts are small ints, floats are words; what is taken away is not greater.
-/
import Derived.Test.YtkdckclefegocaaGreatDoorSofA
namespace Go.Proofs.YtkdckclefegocaaGreatDoor
open Go.RowKit
set_option maxRecDepth 100000

/-- A struct's two cells are written anew. -/
def wput2 (w : World) (g : Nat) (a b : Value) : World := (w.setCell ⟨g, 0, none⟩ a).setCell ⟨g, 1, none⟩ b
section
variable {w w' : World} {g : Nat} {t : TypeId}
theorem Blk.put2 {x y : Value} (k : Blk w g t #[x, y]) (a b : Value) : Blk (wput2 w g a b) g t #[a, b] := by
  have h1 := (k.set_ 0 a).set_ 1 b
  unfold wput2
  simpa using h1
theorem Blk.put2_far {cs : Array Value} {g' : Nat} {t' : TypeId} (k : Blk w g' t' cs) (hg : g' ≠ g) (a b : Value) : Blk (wput2 w g a b) g' t' cs :=
  (k.far (p := ⟨g, 0, none⟩) hg a).far (p := ⟨g, 1, none⟩) hg b
theorem bel_put2 {B : Nat} (h : Below B w w') (hg : B ≤ g) (a b : Value) : Below B w (wput2 w' g a b) :=
  (h.setCell (p := ⟨g, 0, none⟩) hg a).setCell (p := ⟨g, 1, none⟩) hg b
theorem Blk.two {a b : Value} (h : Blk w g t #[a, b]) : w.cell? ⟨g, 0, none⟩ = some a ∧ w.cell? ⟨g, 1, none⟩ = some b ∧ w.frozen? ⟨g, 0, none⟩ = false ∧ w.frozen? ⟨g, 1, none⟩ = false :=
  ⟨h.cell 0, h.cell 1, h.frozen 0, h.frozen 1⟩
end

def IsShift (m n : Int) (v : Value) : Prop := ∃ h l : Int, Word h ∧ Word l ∧ V2 h l = shlV2 m n.toNat / 2 ^ (-n).toNat ∧ v = .tuple #[.agg #[.int .u64 h, .int .u64 l], .bool (decide (shlV2 m n.toNat % 2 ^ (-n).toNat ≠ 0))]

set_option maxHeartbeats 2000000 in
theorem shift_any (h l n : Int) (h1 : Word h) (h2 : Word l) (hn : -100000 ≤ n) (hn' : n ≤ 100000) (w : World) :
    Calls Tryz.prog 59 #[.agg #[.int .u64 h, .int .u64 l], .int .i64 n] w (Ret (IsShift (V2 h l) n) w) := by
  go_enter Tryz.func59, Tryz.ntmps59
  go_wp2_with fail
  refine (shl2 h l n h1 h2 (by omega) _).mono ?_
  rintro e w2 ⟨v, ⟨h', l', wh, wl, hv, rfl⟩, rfl, hb2⟩
  have K := (Blk.new (w.alloc (.cells #[.int .u64 h, .int .u64 l] 58)) 58 #[.int .u64 0, .int .u64 0]).below hb2 (by simp)
  have HB := Lib.hid (bel_trans (bel_alloc (bel_alloc (Below.refl _ _) _) _) hb2)
  clear hb2
  go_wp2_with fail
  refine (shr2 h' l' (-n) wh wl (by omega) _).mono ?_
  rw [hv]
  rintro e w3 ⟨v3, ⟨h3, l3, wh3, wl3, hv3, rfl⟩, rfl, hb3⟩
  have K3 := K.below hb3 K.lt
  have HB3 := Lib.hid (bel_trans HB.out hb3)
  have HV := Lib.hid hv3
  clear hb3 HB hv hv3 K
  obtain ⟨r0, r1, f0, f1⟩ := K3.two
  simp at r0 r1 f0 f1
  generalize hlo : decide (shlV2 (V2 h l) n.toNat % 2 ^ (-n).toNat ≠ 0) = lo at *
  have K4 := K3.put2 (.int .u64 h3) (.int .u64 l3)
  have HB4 := Lib.hid (bel_put2 HB3.out (g := w.heap.size + 1) (by omega) (.int .u64 h3) (.int .u64 l3))
  simp only [size_alloc] at K4
  go_wp2_with fail
  unfold wput2 at K4 HB4
  obtain ⟨q0, q1, -, -⟩ := K4.two
  refine bodyPost_ret (by simp [results, Tryz.results59, go_sem, q0, q1]; rfl) rfl ⟨_, ⟨h3, l3, wh3, wl3, HV.out, ?_⟩, rfl, HB4.out⟩
  rw [hlo]

set_option maxHeartbeats 2000000 in
theorem take_any (h l h' l' : Int) (lo : Bool) (h1 : Word h) (h2 : Word l) (h3 : Word h') (h4 : Word l') (hle : V2 h' l' + b2i lo ≤ V2 h l) (w : World) :
    Calls Tryz.prog 61 #[.agg #[.int .u64 h, .int .u64 l], .agg #[.int .u64 h', .int .u64 l'], .bool lo] w (Ret (Is2 (V2 h l - V2 h' l' - b2i lo)) w) := by
  have hb0 := b2i_bd lo
  have hv0 := V2_pos h1 h2
  have hv1 := V2_pos h3 h4
  go_enter Tryz.func61, Tryz.ntmps61
  go_wp2_with fail
  refine (sub2 h l h' l' h1 h2 h3 h4 _).mono ?_
  rintro e w2 ⟨v, ⟨h5, l5, c, w5, w6, c0, c1, hv, rfl⟩, rfl, hb2⟩
  have hv5 := V2_pos w5 w6
  have E5 : Hid (V2 h5 l5 = V2 h l - V2 h' l') := by show _ = _; omega
  have KM := ((Blk.new w 58 #[.int .u64 h, .int .u64 l]).alloc (.cells #[.int .u64 h', .int .u64 l'] 58)).alloc (.cells #[.int .u64 0, .int .u64 0] 58)
  have KR := Blk.new ((w.alloc (.cells #[.int .u64 h, .int .u64 l] 58)).alloc (.cells #[.int .u64 h', .int .u64 l'] 58)) 58 #[.int .u64 0, .int .u64 0]
  have KM2 := KM.below hb2 KM.lt
  have KR2 := KR.below hb2 KR.lt
  simp only [size_alloc] at KR2
  have HB := Lib.hid (bel_trans (bel_alloc (bel_alloc (bel_alloc (Below.refl _ _) _) _) _) hb2)
  have KM3 := KM2.put2 (.int .u64 h5) (.int .u64 l5)
  have KR3 := KR2.put2_far (g := w.heap.size) (by omega) (.int .u64 h5) (.int .u64 l5)
  have HB3 := Lib.hid (bel_put2 HB.out (g := w.heap.size) (Nat.le_refl _) (.int .u64 h5) (.int .u64 l5))
  obtain ⟨r0, r1, f0, f1⟩ := KM2.two
  obtain ⟨r2, r3, f2, f3⟩ := KR2.two
  clear hb2 KM KR KM2 KR2 HB hv
  cases lo
  · have KR4 := KR3.put2 (.int .u64 h5) (.int .u64 l5)
    have HB4 := Lib.hid (bel_put2 HB3.out (g := w.heap.size + 1 + 1) (by omega) (.int .u64 h5) (.int .u64 l5))
    clear KM3 KR3 HB3
    go_wp2_with fail
    unfold wput2 at KR4 HB4
    obtain ⟨q0, q1, -, -⟩ := KR4.two
    refine bodyPost_ret (by simp [results, Tryz.results61, go_sem, q0, q1]) rfl ⟨_, ⟨h5, l5, w5, w6, ?_, rfl⟩, rfl, HB4.out⟩
    rw [E5.out]
    simp [b2i]
  · go_wp2_with fail
    refine (sub2 h5 l5 0 1 w5 w6 ⟨by decide, by decide⟩ ⟨by decide, by decide⟩ _).mono ?_
    rintro e w4 ⟨v, ⟨h7, l7, d, w7, w8, d0, d1, hv, rfl⟩, rfl, hb4⟩
    have hv7 := V2_pos w7 w8
    have ev := E5.out
    have E7 : Hid (V2 h7 l7 = V2 h l - V2 h' l' - b2i true) := by
      show _ = _
      rw [V2_low] at hv
      simp only [b2i, if_true] at hle ⊢
      omega
    unfold wput2 at KM3 KR3 HB3
    have KM4 := KM3.below hb4 KM3.lt
    have KR4 := KR3.below hb4 KR3.lt
    have HB4 := Lib.hid (bel_trans HB3.out hb4)
    have KR5 := KR4.put2_far (g := w.heap.size) (by omega) (.int .u64 h7) (.int .u64 l7)
    have HB5 := Lib.hid (bel_put2 HB4.out (g := w.heap.size) (Nat.le_refl _) (.int .u64 h7) (.int .u64 l7))
    have KR6 := KR5.put2 (.int .u64 h7) (.int .u64 l7)
    have HB6 := Lib.hid (bel_put2 HB5.out (g := w.heap.size + 1 + 1) (by omega) (.int .u64 h7) (.int .u64 l7))
    clear r0 r1 r2 r3 f0 f1 f2 f3
    obtain ⟨r0, r1, f0, f1⟩ := KM4.two
    obtain ⟨r2, r3, f2, f3⟩ := KR4.two
    clear KM3 KR3 HB3 KM4 KR4 HB4 KR5 HB5 hb4 hv ev
    go_wp2_with fail
    unfold wput2 at KR6 HB6
    obtain ⟨q0, q1, -, -⟩ := KR6.two
    refine bodyPost_ret (by simp [results, Tryz.results61, go_sem, q0, q1]) rfl ⟨_, ⟨h7, l7, w7, w8, E7.out, rfl⟩, rfl, HB6.out⟩

def IsWidest (X Y : Int) (v : Value) : Prop := ∃ h l : Int, Word h ∧ Word l ∧ V2 h l = X * 2 ^ (128 - blen X).toNat ∧ v = .tuple #[.agg #[.int .u64 h, .int .u64 l], .int .i64 (Y - (128 - blen X))]
theorem fX_blen (f : Int) : 0 ≤ blen (fX f) ∧ blen (fX f) ≤ 64 := blen_word_le (fX_word f)
theorem shl_wide {x : Int} (h : Word x) : shlV2 x (128 - blen x).toNat = x * 2 ^ (128 - blen x).toNat := by
  obtain ⟨k, e, hlt, _, _⟩ := blen_spec h.1
  have hb := blen_word_le h
  unfold shlV2
  refine Int.emod_eq_of_lt (Int.mul_nonneg h.1 (Int.le_of_lt (pow_pos' _))) ?_
  have h1 : x * 2 ^ (128 - blen x).toNat < 2 ^ k * 2 ^ (128 - blen x).toNat := Int.mul_lt_mul_of_pos_right hlt (pow_pos' _)
  rw [← Int.pow_add, show k + (128 - blen x).toNat = 128 by omega] at h1
  exact h1
set_option maxHeartbeats 2000000 in
theorem widest_any (f : Int) (hf : Word f) (w : World) :
    Calls Tryz.prog 40 #[.int .u64 f] w (Ret (IsWidest (fX f) (fY f)) w) := by
  have hx := fX_word f
  have hb0 := fX_blen f
  have hy := fY_bd f
  have HS := Lib.hid (shl_wide hx)
  have SP := Lib.hid (split_any f hf)
  generalize fX f = X at *
  generalize fY f = Y at *
  have LN := fun (w : World) => len2 0 X ⟨by decide, by decide⟩ hx w
  rw [V2_low] at LN
  obtain ⟨b, hbb⟩ : ∃ b, blen X = b := ⟨_, rfl⟩
  rw [hbb] at HS hb0 LN
  have HBB := Lib.hid hbb
  have HLN := Lib.hid LN
  clear hbb LN
  go_enter Tryz.func40, Tryz.ntmps40
  go_wp2_with fail
  refine (SP.out _).mono ?_
  rintro e w1 ⟨rfl, rfl⟩
  go_wp2_with fail
  refine (HLN.out _).mono ?_
  rintro e w2 ⟨rfl, hb2⟩
  have KM := Blk.new (w.alloc (.cells #[.int .u64 0, .int .u64 0] 58)) 58 #[.int .u64 0, .int .u64 X]
  have KR := (Blk.new w 58 #[.int .u64 0, .int .u64 0]).alloc (.cells #[.int .u64 0, .int .u64 X] 58)
  simp only [size_alloc] at KM
  have KM2 := KM.below hb2 (by simp)
  have KR2 := KR.below hb2 KR.lt
  have HB := Lib.hid (bel_trans (bel_alloc (bel_alloc (Below.refl _ _) _) _) hb2)
  obtain ⟨r0, r1, f0, f1⟩ := KM2.two
  obtain ⟨r2, r3, f2, f3⟩ := KR2.two
  clear KM KR hb2
  go_wp2_with fail
  refine (shl2 0 X (128 - b) ⟨by decide, by decide⟩ hx (by omega) _).mono ?_
  rw [V2_low]
  rintro e w3 ⟨v, ⟨h', l', wh, wl, hv, rfl⟩, rfl, hb3⟩
  have KR3 := KR2.below hb3 KR2.lt
  have HB3 := Lib.hid (bel_trans HB.out hb3)
  have KR4 := KR3.put2 (.int .u64 h') (.int .u64 l')
  have HB4 := Lib.hid (bel_put2 HB3.out (g := w.heap.size) (by omega) (.int .u64 h') (.int .u64 l'))
  clear r0 r1 r2 r3 f0 f1 f2 f3
  obtain ⟨r2, r3, f2, f3⟩ := KR3.two
  have HV := Lib.hid hv
  clear hv KM2 KR2 HB hb3 KR3 HB3
  go_wp2_with fail
  unfold wput2 at KR4 HB4
  obtain ⟨q0, q1, -, -⟩ := KR4.two
  refine bodyPost_ret (by simp [results, Tryz.results40, go_sem, q0, q1]; rfl) rfl ⟨_, ⟨h', l', wh, wl, ?_, by rw [HBB.out]⟩, rfl, HB4.out⟩
  rw [HV.out, HS.out, HBB.out]
end Go.Proofs.YtkdckclefegocaaGreatDoor
