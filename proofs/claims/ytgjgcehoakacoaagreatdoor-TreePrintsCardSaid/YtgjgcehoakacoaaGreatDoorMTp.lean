/-
  flyballref10's Printer: floats and how each is written; its method float.
  flyballref10's Printer: an operand (arg), an operand of a sign (side), as far as Text is known of the operands.
  flyballref10's Printer: Text, as far as the operands are known.
  flyballref10's Printer: Text of a sign with two operands; Text of any expression.
-/
import Derived.Test.YtgjgcehoakacoaaGreatDoorMTz
import Derived.Test.YtgjgcehoakacoaaGreatDoorMTd
namespace Go.Proofs.YtgjgcehoakacoaaGreatDoor
open Go.RowKit
set_option maxRecDepth 100000

/-- A Printer: two slices; the floats. -/
structure Prn where
  fa : Option Addr
  fc : Nat
  ta : Option Addr
  tc : Nat
  l : List Int
def Prn.v (P : Prn) : Value := .agg #[.slice P.fa P.l.length P.fc, .slice P.ta P.l.length P.tc]
def rO (P : Prn) : Obj := .cells #[.slice P.fa P.l.length P.fc, .slice P.ta P.l.length P.tc] 32 (0, 0)
theorem bx_r (w : World) (P : Prn) : w.alloc (.cells #[.slice P.fa P.l.length P.fc, .slice P.ta P.l.length P.tc] 32 (0, 0)) = bx w (rO P) := rfl
theorem r_cells {w : World} {k : Nat} {P : Prn} (g : w.heap[k]? = some (rO P)) : w.cell? ⟨k, 0, none⟩ = some (.slice P.fa P.l.length P.fc) ∧ w.cell? ⟨k, 1, none⟩ = some (.slice P.ta P.l.length P.tc) :=
  ⟨cell_obj g 0, cell_obj g 1⟩
structure Prn.In (B : Nat) (w : World) (P : Prn) : Prop where
  len : P.l.length ≤ 100000
  fc : P.l.length ≤ P.fc
  tc : P.l.length ≤ P.tc
  fl : ∀ i x, P.l[i]? = some x → ∃ g o, P.fa = some ⟨g, o, none⟩ ∧ g < B ∧ w.cell? ⟨g, o + i, none⟩ = some (.int .u64 x)
  tx : ∀ i x, P.l[i]? = some x → ∃ g o, P.ta = some ⟨g, o, none⟩ ∧ g < B ∧ w.cell? ⟨g, o + i, none⟩ = some (.string ⟨(prT x).toArray⟩)
theorem Prn.In.below {B B' : Nat} {w w' : World} {P : Prn} (h : P.In B w) (hb : Below B' w w') (hB : B ≤ B') : P.In B w' :=
  ⟨h.len, h.fc, h.tc, fun i x hx => by obtain ⟨g, o, e, h1, h2⟩ := h.fl i x hx; exact ⟨g, o, e, h1, (bel_same hb hB _ h1).trans h2⟩,
    fun i x hx => by obtain ⟨g, o, e, h1, h2⟩ := h.tx i x hx; exact ⟨g, o, e, h1, (bel_same hb hB _ h1).trans h2⟩⟩
set_option maxHeartbeats 3200000 in
theorem gFloat_any (B : Nat) (P : Prn) (f : Int) (w : World) (hP : P.In B w) (hB : B ≤ w.heap.size) (hf : f ∈ P.l) :
    Calls Tryz.prog 33 #[P.v, .int .u64 f] w fun r w' => r = .returned (.string ⟨(prT f).toArray⟩) ∧ Below w.heap.size w w' := by
  obtain ⟨n, hn⟩ : ∃ n, P.l.length = n := ⟨_, rfl⟩
  have HP := Lib.hid hP
  have HB := Lib.hid hB
  have HF := Lib.hid hf
  have HN := Lib.hid hn
  have BX := Lib.hid (bx_bel (Below.refl w.heap.size w) (Nat.le_refl _) (rO P))
  have GX := Lib.hid (bx_new w (rO P))
  have hz := bx_size w (rO P)
  obtain ⟨c0, c1⟩ := r_cells GX.out
  rw [hn] at c0 c1
  have hv : P.v = .agg #[.slice P.fa n P.fc, .slice P.ta n P.tc] := by rw [← hn]; rfl
  have hb' : w.alloc (.cells #[.slice P.fa n P.fc, .slice P.ta n P.tc] 32 (0, 0)) = bx w (rO P) := by rw [← hn]; rfl
  rw [hv]
  have hle : n ≤ 100000 := by rw [← hn]; exact hP.len
  clear hP hB hf hn hv
  go_enter Tryz.func33, Tryz.ntmps33
  go_upto_region 1 with fail
  generalize bx w (rO P) = W at *
  clear hb'
  go_wp2_with fail
  go_loopg [5] n (fun gk i wr => ∃ j : Nat, i = .int .i64 (j : Int) ∧ Hid (gk = n - j ∧ j ≤ n) ∧ Hid (∀ t, t < j → P.l[t]? ≠ some f) ∧ wr = W)
  case atStart => exact ⟨0, rfl, ⟨rfl, Nat.zero_le _⟩, (fun t ht => absurd ht (Nat.not_lt_zero t)), rfl⟩
  case round =>
    obtain ⟨j, rfl, HJ, HT, rfl⟩ := hrel
    by_cases hlt : j < n
    · have z0 : (j : Int) < (n : Int) := by omega
      have ovi : IntKind.i64.wrap ((j : Int) + 1) = ((j + 1 : Nat) : Int) := by rw [IntKind.wrap_i64]; omega
      obtain ⟨x, hx⟩ : ∃ x, P.l[j]? = some x := ⟨_, List.getElem?_eq_getElem (by rw [HN.out]; exact hlt)⟩
      obtain ⟨g, o, e1, hg, d0⟩ := (HP.out.below BX.out HB.out).fl j x hx
      obtain ⟨g', o', e2, hg', d1⟩ := (HP.out.below BX.out HB.out).tx j x hx
      have HX := Lib.hid hx
      have HLT := Lib.hid hlt
      rw [e1] at c0
      rw [e2] at c1
      by_cases hxf : x = f
      · subst hxf
        clear hx hg hg' hlt e1 e2
        go_wp2_with fail
        go_ret
        exact ⟨rfl, BX.out⟩
      · have hxf' : (x == f) = false := by simp [hxf]
        have HXF := Lib.hid hxf
        clear hx hg hg' hlt e1 e2
        go_wp2_with fail
        go_roundg (n - (j + 1))
        case measure => have := HJ.out; have := HLT.out; omega
        case rel =>
          refine ⟨j + 1, by go_num, ⟨rfl, HLT.out⟩, fun t ht => ?_, rfl⟩
          rcases Nat.lt_succ_iff_lt_or_eq.1 ht with h | rfl
          · exact HT.out t h
          · rw [HX.out]; intro h; injection h with h; exact HXF.out h
    · exfalso
      have hj : j = n := by have := HJ.out; omega
      obtain ⟨t, ht, e⟩ := List.getElem_of_mem HF.out
      exact HT.out t (by rw [hj, ← HN.out]; exact ht) (by rw [List.getElem?_eq_getElem ht, e])
end Go.Proofs.YtgjgcehoakacoaaGreatDoor
namespace Go.Proofs.YtgjgcehoakacoaaGreatDoor
open Go.RowKit
set_option maxRecDepth 100000

def GT (B : Nat) (P : Prn) (e : Ex) : Prop := ∀ w : World, e.In B w → P.In B w → B ≤ w.heap.size → (∀ x ∈ e.fls, x ∈ P.l) → e.wt ≤ 2000 → Calls Tryz.prog 11 #[P.v, e.h.v] w fun r w' => r = .returned (.string ⟨(e.txt prT).toArray⟩) ∧ Below w.heap.size w w'
def argT (n : Nat) (k : Nat → Ex) (i : Nat) : List UInt8 := if i < n then (k i).txt prT else []
def sideT (n : Nat) (k : Nat → Ex) (i : Nat) : List UInt8 := if i < n then brk (k i).bin ((k i).txt prT) else []
/-- What an operand's contract asks. -/
structure AOk (B : Nat) (P : Prn) (w : World) (h : EH) (k : Nat → Ex) : Prop where
  ok : h.ok
  xs : XsIn B w h.s k
  pr : P.In B w
  le : B ≤ w.heap.size
  fl : ∀ x ∈ cat (fun i => (k i).fls) h.s.n, x ∈ P.l
  wt : sm (fun i => (k i).wt) h.s.n ≤ 2000
theorem AOk.below {B : Nat} {P : Prn} {w w' : World} {h : EH} {k : Nat → Ex} (g : AOk B P w h k) (hb : Below w.heap.size w w') : AOk B P w' h k :=
  ⟨g.ok, g.xs.below hb g.le, g.pr.below hb g.le, Nat.le_trans g.le hb.size, g.fl, g.wt⟩
theorem AOk.fls {B : Nat} {P : Prn} {w : World} {h : EH} {k : Nat → Ex} (g : AOk B P w h k) {i : Nat} (hi : i < h.s.n) : (∀ x ∈ (k i).fls, x ∈ P.l) ∧ (k i).wt ≤ 2000 :=
  ⟨fun x hx => g.fl x (mem_cat.2 ⟨i, hi, hx⟩), by have := sm_one (f := fun i => (k i).wt) hi; have := g.wt; omega⟩
set_option maxHeartbeats 3200000 in
theorem gArg_of (B : Nat) (P : Prn) (h : EH) (k : Nat → Ex) (i : Nat) (ih : i < h.s.n → GT B P (k i)) (w : World) (g : AOk B P w h k) :
    Calls Tryz.prog 34 #[P.v, h.v, .int .i64 (i : Int)] w fun r w' => r = .returned (.string ⟨(argT h.s.n k i).toArray⟩) ∧ Below w.heap.size w w' := by
  obtain ⟨op, ps, bo, it, fl, nm, ⟨ao, n, c⟩⟩ := h
  have HG := Lib.hid g
  have IH := Lib.hid ih
  dsimp only at IH ⊢
  obtain ⟨g0, g1, bb, hz⟩ := two_boxes w (rO P) (xO ⟨op, ps, bo, it, fl, nm, ⟨ao, n, c⟩⟩)
  have BW := Lib.hid bb
  have PV : Hid (P.v = .agg #[.slice P.fa P.l.length P.fc, .slice P.ta P.l.length P.tc]) := rfl
  clear g ih bb
  show Calls Tryz.prog 34 #[.agg #[.slice P.fa P.l.length P.fc, .slice P.ta P.l.length P.tc], .agg #[.int .u8 op, .int .i64 ps, .bool bo, .int .i32 it, .int .u64 fl, .string ⟨nm.toArray⟩, .slice ao n c], .int .i64 (i : Int)] w _
  have hz1 : (bx w (rO P)).heap.size = w.heap.size + 1 := bx_size _ _
  go_enter Tryz.func34, Tryz.ntmps34
  go_upto_region 1 with fail
  rw [bx_r w P, bx_x _ ⟨op, ps, bo, it, fl, nm, ⟨ao, n, c⟩⟩]
  generalize bx (bx w (rO P)) (xO ⟨op, ps, bo, it, fl, nm, ⟨ao, n, c⟩⟩) = W at *
  clear hz1
  obtain ⟨p0, p1⟩ := r_cells g0
  obtain ⟨-, -, -, -, -, -, c6⟩ := x_cells g1
  dsimp only at c6
  by_cases hlt : i < n
  · have z0 : ¬ (n : Int) ≤ (i : Int) := by omega
    have z1 : (i : Int) < (n : Int) := by omega
    have AG := Lib.hid (HG.out.below BW.out)
    obtain ⟨a, b, o, rfl, hA, hb, X, I⟩ := XsIn.at AG.out.xs (i := i) hlt
    have d0 := X.c0; have d1 := X.c1; have d2 := X.c2; have d3 := X.c3; have d4 := X.c4; have d5 := X.c5; have d6 := X.c6
    have C := Lib.hid (IH.out hlt W.drew I.drew ((AG.out.pr).below (Below.drew (Below.refl _ _)) AG.out.le) AG.out.le (AG.out.fls hlt).1 (AG.out.fls hlt).2)
    have E : Hid ((k i).txt prT = argT n k i) := by show _ = _; unfold argT; rw [if_pos hlt]
    clear X I hb hlt g0 g1
    go_upto_region 3 with fail
    go_still_tail 6, (by kernel_rfl)
    change wpList _ _ _ _ _ W.drew
    generalize hw2 : W.drew = w2 at *
    have B2 : Hid (Below w.heap.size w w2) := by rw [← hw2]; exact Below.drew BW.out
    clear hw2 p0 p1 c6 d0 d1 d2 d3 d4 d5 d6
    go_wp2_with fail
    refine C.out.mono ?_
    rintro r w3 ⟨rfl, hb3⟩
    have B3 := Lib.hid (bel_trans B2.out hb3)
    rw [E.out]
    clear hb3
    go_wp2_with fail
    go_ret
    exact ⟨rfl, B3.out⟩
  · have z0 : (n : Int) ≤ (i : Int) := by omega
    have E : Hid ([] = argT n k i) := by show _ = _; unfold argT; rw [if_neg hlt]
    clear hlt g0 g1
    go_wp2_with fail
    go_ret
    exact ⟨by rw [← E.out]; rfl, BW.out⟩
theorem argT_len {B : Nat} {P : Prn} {w : World} {h : EH} {k : Nat → Ex} (g : AOk B P w h k) (i : Nat) : (argT h.s.n k i).length ≤ 80000 := by
  unfold argT
  split
  · rename_i hi
    have h1 := Ex.txt_len B w (k i) (g.xs.2.2 i hi)
    have h2 := (g.fls hi).2
    omega
  · simp
set_option maxHeartbeats 3200000 in
theorem gSide_of (B : Nat) (P : Prn) (h : EH) (k : Nat → Ex) (i : Nat) (ih : i < h.s.n → GT B P (k i)) (w : World) (g : AOk B P w h k) :
    Calls Tryz.prog 31 #[P.v, h.v, .int .i64 (i : Int)] w fun r w' => r = .returned (.string ⟨(sideT h.s.n k i).toArray⟩) ∧ Below w.heap.size w w' := by
  have CA := Lib.hid fun (w : World) g => gArg_of B P h k i ih w g
  have TL := Lib.hid (argT_len g i)
  obtain ⟨op, ps, bo, it, fl, nm, ⟨ao, n, c⟩⟩ := h
  have HG := Lib.hid g
  dsimp only at TL ⊢
  obtain ⟨g0, g1, bb, hz⟩ := two_boxes w (rO P) (xO ⟨op, ps, bo, it, fl, nm, ⟨ao, n, c⟩⟩)
  have BW := Lib.hid bb
  clear g ih bb
  generalize hR : (⟨(sideT n k i).toArray⟩ : ByteArray) = R
  have HR := Lib.hid hR
  clear hR
  show Calls Tryz.prog 31 #[.agg #[.slice P.fa P.l.length P.fc, .slice P.ta P.l.length P.tc], .agg #[.int .u8 op, .int .i64 ps, .bool bo, .int .i32 it, .int .u64 fl, .string ⟨nm.toArray⟩, .slice ao n c], .int .i64 (i : Int)] w _
  have hz1 : (bx w (rO P)).heap.size = w.heap.size + 1 := bx_size _ _
  go_enter Tryz.func31, Tryz.ntmps31
  go_upto_region 1 with fail
  rw [bx_r w P, bx_x _ ⟨op, ps, bo, it, fl, nm, ⟨ao, n, c⟩⟩]
  generalize bx (bx w (rO P)) (xO ⟨op, ps, bo, it, fl, nm, ⟨ao, n, c⟩⟩) = W at *
  clear hz1
  have G1 := Lib.hid g1
  obtain ⟨p0, p1⟩ := r_cells g0
  obtain ⟨c0, c1, c2, c3, c4, c5, c6⟩ := x_cells g1
  dsimp only at c0 c1 c2 c3 c4 c5 c6
  clear g0 g1
  go_wp2_with fail
  refine (CA.out W (HG.out.below BW.out)).mono ?_
  rintro r w1 ⟨rfl, hb1⟩
  obtain ⟨-, -, -, -, -, -, d6⟩ := x_cells (kept_obj hb1 G1.out)
  dsimp only at d6
  have B1 := Lib.hid (bel_trans BW.out hb1)
  clear c0 c1 c2 c3 c4 c5 c6 p0 p1 hb1 CA
  by_cases hlt : i < n
  · have z1 : (i : Int) < (n : Int) := by omega
    have AG := Lib.hid (HG.out.below B1.out)
    obtain ⟨a, b, o, rfl, hA, hb, X, I⟩ := XsIn.at AG.out.xs (i := i) hlt
    have d0 := X.c0
    have E : Hid (sideT n k i = brk (k i).bin (argT n k i)) := by show _ = _; unfold sideT argT; rw [if_pos hlt, if_pos hlt]
    clear X I hb hlt
    have hzz : (⟨(argT n k i).toArray⟩ : ByteArray).size ≤ 80000 := by rw [str_size]; exact TL.out
    have KB : Hid ((k i).bin = true → (⟨#[40]⟩ : ByteArray) ++ ⟨(argT n k i).toArray⟩ ++ ⟨#[41]⟩ = R) := by
      show _ → _
      intro eb
      rw [← HR.out, E.out, eb]
      apply zbytes
      simp [ByteArray.data_append, brk]
    have KN : Hid ((k i).bin = false → (⟨(argT n k i).toArray⟩ : ByteArray) = R) := by
      show _ → _
      intro eb
      rw [← HR.out, E.out, eb]
      rfl
    have hz2 : ((⟨#[40]⟩ : ByteArray) ++ ⟨(argT n k i).toArray⟩).size ≤ 80001 := by rw [ByteArray.size_append]; show 1 + _ ≤ _; omega
    generalize (⟨(argT n k i).toArray⟩ : ByteArray) = z at *
    by_cases h5 : 5 ≤ (k i).h.op
    · by_cases h16 : (k i).h.op ≤ 16
      · have EB := Lib.hid (KB.out (by unfold Ex.bin opBin; simp [h5, h16]))
        clear KB KN
        go_wp2_with fail
        go_ret
        exact ⟨by rw [← EB.out]; rfl, B1.out⟩
      · have EB := Lib.hid (KN.out (by unfold Ex.bin opBin; simp [h16]))
        clear KB KN
        go_wp2_with fail
        go_ret
        exact ⟨by rw [← EB.out]; rfl, B1.out⟩
    · have EB := Lib.hid (KN.out (by unfold Ex.bin opBin; simp [h5]))
      clear KB KN
      go_wp2_with fail
      go_ret
      exact ⟨by rw [← EB.out]; rfl, B1.out⟩
  · have z1 : ¬ (i : Int) < (n : Int) := by omega
    have E : Hid (sideT n k i = []) := by show _ = _; unfold sideT; rw [if_neg hlt]
    have E2 : Hid (argT n k i = []) := by show _ = _; unfold argT; rw [if_neg hlt]
    rw [E2.out]
    clear hlt
    go_wp2_with fail
    go_ret
    exact ⟨by rw [← HR.out, E.out]; rfl, B1.out⟩
end Go.Proofs.YtgjgcehoakacoaaGreatDoor
namespace Go.Proofs.YtgjgcehoakacoaaGreatDoor
open Go.RowKit
set_option maxRecDepth 100000

def signRow : Array Value := #[.string ⟨#[43]⟩, .string ⟨#[45]⟩, .string ⟨#[42]⟩, .string ⟨#[47]⟩, .string ⟨#[60]⟩, .string ⟨#[60, 61]⟩, .string ⟨#[61, 61]⟩, .string ⟨#[33, 61]⟩, .string ⟨#[62]⟩, .string ⟨#[62, 61]⟩, .string ⟨#[38, 38]⟩, .string ⟨#[124, 124]⟩]
def gO : Obj := .cells signRow 9 (0, 0)
theorem bx_g (w : World) : w.alloc (.cells #[.string ⟨#[43]⟩, .string ⟨#[45]⟩, .string ⟨#[42]⟩, .string ⟨#[47]⟩, .string ⟨#[60]⟩, .string ⟨#[60, 61]⟩, .string ⟨#[61, 61]⟩, .string ⟨#[33, 61]⟩, .string ⟨#[62]⟩, .string ⟨#[62, 61]⟩, .string ⟨#[38, 38]⟩, .string ⟨#[124, 124]⟩] 9 (0, 0)) = bx w gO := rfl
theorem signR_at {w : World} {b : Nat} (h : w.heap[b]? = some gO) (i : Nat) (hi : i < 12) : w.cell? ⟨b, i, none⟩ = some (.string ⟨(signB ((i : Int) + 5)).toArray⟩) := by
  have h1 := cell_obj (cs := signRow) h i
  rw [h1]
  have : i = 0 ∨ i = 1 ∨ i = 2 ∨ i = 3 ∨ i = 4 ∨ i = 5 ∨ i = 6 ∨ i = 7 ∨ i = 8 ∨ i = 9 ∨ i = 10 ∨ i = 11 := by omega
  rcases this with rfl | rfl | rfl | rfl | rfl | rfl | rfl | rfl | rfl | rfl | rfl | rfl <;> rfl
theorem sideT_len {B : Nat} {P : Prn} {w : World} {h : EH} {k : Nat → Ex} (g : AOk B P w h k) (i : Nat) : (sideT h.s.n k i).length ≤ 80002 := by
  have h1 := argT_len g i
  unfold argT at h1
  unfold sideT
  split
  · rename_i hi
    rw [if_pos hi] at h1
    have := brk_len (k i).bin ((k i).txt prT)
    omega
  · simp
theorem bz {l : List UInt8} {m : Nat} (h : l.length ≤ m) : (⟨l.toArray⟩ : ByteArray).size ≤ m := by rw [str_size]; exact h
theorem bapp (l m : List UInt8) : (⟨l.toArray⟩ : ByteArray) ++ ⟨m.toArray⟩ = ⟨(l ++ m).toArray⟩ := by
  apply zbytes
  simp [ByteArray.data_append]
theorem three_boxes (w : World) (o o' o'' : Obj) : (bx (bx (bx w o) o') o'').heap[w.heap.size]? = some o ∧ (bx (bx (bx w o) o') o'').heap[w.heap.size + 1]? = some o' ∧ (bx (bx (bx w o) o') o'').heap[w.heap.size + 2]? = some o'' ∧ Below w.heap.size w (bx (bx (bx w o) o') o'') ∧ (bx (bx (bx w o) o') o'').heap.size = w.heap.size + 3 := by
  obtain ⟨h1, h2, h3, h4⟩ := two_boxes w o o'
  refine ⟨(bx_old _ _ (by omega)).trans h1, (bx_old _ _ (by omega)).trans h2, ?_, bx_bel h3 (Nat.le_refl _) _, by rw [bx_size, h4]⟩
  have := bx_new (bx (bx w o) o') o''
  rwa [h4] at this
def TextPost (l : List UInt8) (w : World) (r : Ending) (w' : World) : Prop := r = .returned (.string ⟨l.toArray⟩) ∧ Below w.heap.size w w'
/-- A short row of bytes: sums of two are ints. -/
def Sm (b : ByteArray) : Prop := b.size ≤ 1000000000
theorem sm_of {b : ByteArray} {m : Nat} (h : b.size ≤ m) (hm : m ≤ 1000000000) : Sm b := Nat.le_trans h hm
theorem sm_app {a b : ByteArray} {m n : Nat} (ha : a.size ≤ m) (hb : b.size ≤ n) (h : m + n ≤ 1000000000) : Sm (a ++ b) := by unfold Sm; rw [ByteArray.size_append]; omega
theorem bsz {a b : ByteArray} {m n : Nat} (ha : a.size ≤ m) (hb : b.size ≤ n) : (a ++ b).size ≤ m + n := by rw [ByteArray.size_append]; omega
theorem sadd_sm {P : Program} (w : World) (a b : ByteArray) (ha : Sm a) (hb : Sm b) : (Op.stringOp .add a b).run P w = .ok (.string (a ++ b)) w :=
  run_string_add_sum w a b (by unfold Sm at *; omega)
theorem sadd_h : ∀ (a b : ByteArray) (w : World), Sm a → Sm b → (Op.stringOp .add a b).run Tryz.prog w = .ok (.string (a ++ b)) w := fun a b w ha hb => sadd_sm w a b ha hb
set_option maxHeartbeats 6400000 in
theorem gText_bool (B : Nat) (P : Prn) (h : EH) (k : Nat → Ex) (ih : ∀ i, i < h.s.n → GT B P (k i)) (w : World) (g : AOk B P w h k) (ho : h.op = 1) :
    Calls Tryz.prog 11 #[P.v, h.v] w (TextPost (headT prT h (argT h.s.n k 0) (sideT h.s.n k 0) (sideT h.s.n k 1)) w) := by
  have A0 := Lib.hid fun (w' : World) (hb : Below w.heap.size w w') => gArg_of B P h k 0 (ih 0) w' (g.below hb)
  have S0 := Lib.hid fun (w' : World) (hb : Below w.heap.size w w') => gSide_of B P h k 0 (ih 0) w' (g.below hb)
  have S1 := Lib.hid fun (w' : World) (hb : Below w.heap.size w w') => gSide_of B P h k 1 (ih 1) w' (g.below hb)
  have T0 := bz (argT_len g 0)
  have U0 := bz (sideT_len g 0)
  have U1 := bz (sideT_len g 1)
  have HG := Lib.hid g
  clear ih g
  obtain ⟨op, ps, bo, it, fl, nm, ⟨ao, n, c⟩⟩ := h
  have OKH := Lib.hid HG.out.ok
  dsimp only at *
  subst ho
  generalize argT n k 0 = a0 at *
  generalize sideT n k 0 = s0 at *
  generalize sideT n k 1 = s1 at *
  generalize hL : headT prT ⟨1, ps, bo, it, fl, nm, ⟨ao, n, c⟩⟩ a0 s0 s1 = L
  have FR : Hid ((if bo then ⟨#[116, 114, 117, 101]⟩ else ⟨#[102, 97, 108, 115, 101]⟩ : ByteArray) = ⟨L.toArray⟩) := by show _ = _; rw [← hL]; cases bo <;> rfl
  clear hL
  generalize (⟨a0.toArray⟩ : ByteArray) = za at *
  generalize (⟨s0.toArray⟩ : ByteArray) = z0 at *
  generalize (⟨s1.toArray⟩ : ByteArray) = z1 at *
  obtain ⟨g0, g1, g2, bb, hz⟩ := three_boxes w (rO P) (xO ⟨1, ps, bo, it, fl, nm, ⟨ao, n, c⟩⟩) gO
  have BW := Lib.hid bb
  have hz1 : (bx w (rO P)).heap.size = w.heap.size + 1 := bx_size _ _
  have hz2 : (bx (bx w (rO P)) (xO ⟨1, ps, bo, it, fl, nm, ⟨ao, n, c⟩⟩)).heap.size = w.heap.size + 2 := by rw [bx_size, hz1]
  clear bb
  show Calls Tryz.prog 11 #[.agg #[.slice P.fa P.l.length P.fc, .slice P.ta P.l.length P.tc], .agg #[.int .u8 1, .int .i64 ps, .bool bo, .int .i32 it, .int .u64 fl, .string ⟨nm.toArray⟩, .slice ao n c]] w _
  go_enter Tryz.func11, Tryz.ntmps11
  go_upto_region 1 with fail
  rw [bx_r w P, bx_x _ ⟨1, ps, bo, it, fl, nm, ⟨ao, n, c⟩⟩]
  go_upto_region 2 with fail
  rw [bx_g]
  generalize bx (bx (bx w (rO P)) (xO ⟨1, ps, bo, it, fl, nm, ⟨ao, n, c⟩⟩)) gO = W at *
  clear hz1 hz2
  have GG := Lib.hid (And.intro g0 (And.intro g1 g2))
  obtain ⟨p0, p1⟩ := r_cells g0
  obtain ⟨c0, c1, c2, c3, c4, c5, c6⟩ := x_cells g1
  dsimp only at c0 c1 c2 c3 c4 c5 c6
  clear g0 g1 g2
  cases bo with
  | true =>
    go_wp2_with fail
    go_ret
    exact ⟨by rw [← FR.out]; rfl, BW.out⟩
  | false =>
    go_wp2_with fail
    go_ret
    exact ⟨by rw [← FR.out]; rfl, BW.out⟩
set_option maxHeartbeats 6400000 in
theorem gText_int (B : Nat) (P : Prn) (h : EH) (k : Nat → Ex) (ih : ∀ i, i < h.s.n → GT B P (k i)) (w : World) (g : AOk B P w h k) (ho : h.op = 2) :
    Calls Tryz.prog 11 #[P.v, h.v] w (TextPost (headT prT h (argT h.s.n k 0) (sideT h.s.n k 0) (sideT h.s.n k 1)) w) := by
  have A0 := Lib.hid fun (w' : World) (hb : Below w.heap.size w w') => gArg_of B P h k 0 (ih 0) w' (g.below hb)
  have S0 := Lib.hid fun (w' : World) (hb : Below w.heap.size w w') => gSide_of B P h k 0 (ih 0) w' (g.below hb)
  have S1 := Lib.hid fun (w' : World) (hb : Below w.heap.size w w') => gSide_of B P h k 1 (ih 1) w' (g.below hb)
  have T0 := bz (argT_len g 0)
  have U0 := bz (sideT_len g 0)
  have U1 := bz (sideT_len g 1)
  have HG := Lib.hid g
  clear ih g
  obtain ⟨op, ps, bo, it, fl, nm, ⟨ao, n, c⟩⟩ := h
  have OKH := Lib.hid HG.out.ok
  dsimp only at *
  subst ho
  generalize argT n k 0 = a0 at *
  generalize sideT n k 0 = s0 at *
  generalize sideT n k 1 = s1 at *
  generalize hL : headT prT ⟨2, ps, bo, it, fl, nm, ⟨ao, n, c⟩⟩ a0 s0 s1 = L
  have FR : Hid ((⟨(Lib.itoa it).toArray⟩ : ByteArray) = ⟨L.toArray⟩) := by show _ = _; rw [← hL]; rfl
  clear hL
  generalize (⟨a0.toArray⟩ : ByteArray) = za at *
  generalize (⟨s0.toArray⟩ : ByteArray) = z0 at *
  generalize (⟨s1.toArray⟩ : ByteArray) = z1 at *
  obtain ⟨g0, g1, g2, bb, hz⟩ := three_boxes w (rO P) (xO ⟨2, ps, bo, it, fl, nm, ⟨ao, n, c⟩⟩) gO
  have BW := Lib.hid bb
  have hz1 : (bx w (rO P)).heap.size = w.heap.size + 1 := bx_size _ _
  have hz2 : (bx (bx w (rO P)) (xO ⟨2, ps, bo, it, fl, nm, ⟨ao, n, c⟩⟩)).heap.size = w.heap.size + 2 := by rw [bx_size, hz1]
  clear bb
  show Calls Tryz.prog 11 #[.agg #[.slice P.fa P.l.length P.fc, .slice P.ta P.l.length P.tc], .agg #[.int .u8 2, .int .i64 ps, .bool bo, .int .i32 it, .int .u64 fl, .string ⟨nm.toArray⟩, .slice ao n c]] w _
  go_enter Tryz.func11, Tryz.ntmps11
  go_upto_region 1 with fail
  rw [bx_r w P, bx_x _ ⟨2, ps, bo, it, fl, nm, ⟨ao, n, c⟩⟩]
  go_upto_region 2 with fail
  rw [bx_g]
  generalize bx (bx (bx w (rO P)) (xO ⟨2, ps, bo, it, fl, nm, ⟨ao, n, c⟩⟩)) gO = W at *
  clear hz1 hz2
  have GG := Lib.hid (And.intro g0 (And.intro g1 g2))
  obtain ⟨p0, p1⟩ := r_cells g0
  obtain ⟨c0, c1, c2, c3, c4, c5, c6⟩ := x_cells g1
  dsimp only at c0 c1 c2 c3 c4 c5 c6
  clear g0 g1 g2
  have ov : IntKind.i64.wrap it = it := by have := OKH.out.it0; have := OKH.out.it1; dsimp only at *; rw [IntKind.wrap_i64]; omega
  have C := Lib.hid (gDigits_any it (by have := OKH.out.it0; dsimp only at *; omega) (by have := OKH.out.it1; dsimp only at *; omega) W)
  generalize (⟨(Lib.itoa it).toArray⟩ : ByteArray) = z at *
  go_wp2_with fail
  refine C.out.mono ?_
  rintro r w1 ⟨rfl, hb1⟩
  have B1 := Lib.hid (bel_trans BW.out hb1)
  go_wp2_with fail
  go_ret
  exact ⟨by rw [← FR.out]; rfl, B1.out⟩
set_option maxHeartbeats 6400000 in
theorem gText_float (B : Nat) (P : Prn) (h : EH) (k : Nat → Ex) (ih : ∀ i, i < h.s.n → GT B P (k i)) (w : World) (g : AOk B P w h k) (ho : h.op = 3) (hf : h.fl ∈ P.l) :
    Calls Tryz.prog 11 #[P.v, h.v] w (TextPost (headT prT h (argT h.s.n k 0) (sideT h.s.n k 0) (sideT h.s.n k 1)) w) := by
  have A0 := Lib.hid fun (w' : World) (hb : Below w.heap.size w w') => gArg_of B P h k 0 (ih 0) w' (g.below hb)
  have S0 := Lib.hid fun (w' : World) (hb : Below w.heap.size w w') => gSide_of B P h k 0 (ih 0) w' (g.below hb)
  have S1 := Lib.hid fun (w' : World) (hb : Below w.heap.size w w') => gSide_of B P h k 1 (ih 1) w' (g.below hb)
  have T0 := bz (argT_len g 0)
  have U0 := bz (sideT_len g 0)
  have U1 := bz (sideT_len g 1)
  have HG := Lib.hid g
  clear ih g
  obtain ⟨op, ps, bo, it, fl, nm, ⟨ao, n, c⟩⟩ := h
  have OKH := Lib.hid HG.out.ok
  dsimp only at *
  subst ho
  generalize argT n k 0 = a0 at *
  generalize sideT n k 0 = s0 at *
  generalize sideT n k 1 = s1 at *
  generalize hL : headT prT ⟨3, ps, bo, it, fl, nm, ⟨ao, n, c⟩⟩ a0 s0 s1 = L
  have FR : Hid ((⟨(prT fl).toArray⟩ : ByteArray) = ⟨L.toArray⟩) := by show _ = _; rw [← hL]; rfl
  clear hL
  generalize (⟨a0.toArray⟩ : ByteArray) = za at *
  generalize (⟨s0.toArray⟩ : ByteArray) = z0 at *
  generalize (⟨s1.toArray⟩ : ByteArray) = z1 at *
  have HF := Lib.hid hf
  obtain ⟨g0, g1, g2, bb, hz⟩ := three_boxes w (rO P) (xO ⟨3, ps, bo, it, fl, nm, ⟨ao, n, c⟩⟩) gO
  have BW := Lib.hid bb
  have hz1 : (bx w (rO P)).heap.size = w.heap.size + 1 := bx_size _ _
  have hz2 : (bx (bx w (rO P)) (xO ⟨3, ps, bo, it, fl, nm, ⟨ao, n, c⟩⟩)).heap.size = w.heap.size + 2 := by rw [bx_size, hz1]
  clear bb
  show Calls Tryz.prog 11 #[.agg #[.slice P.fa P.l.length P.fc, .slice P.ta P.l.length P.tc], .agg #[.int .u8 3, .int .i64 ps, .bool bo, .int .i32 it, .int .u64 fl, .string ⟨nm.toArray⟩, .slice ao n c]] w _
  go_enter Tryz.func11, Tryz.ntmps11
  go_upto_region 1 with fail
  rw [bx_r w P, bx_x _ ⟨3, ps, bo, it, fl, nm, ⟨ao, n, c⟩⟩]
  go_upto_region 2 with fail
  rw [bx_g]
  generalize bx (bx (bx w (rO P)) (xO ⟨3, ps, bo, it, fl, nm, ⟨ao, n, c⟩⟩)) gO = W at *
  clear hz1 hz2
  have GG := Lib.hid (And.intro g0 (And.intro g1 g2))
  obtain ⟨p0, p1⟩ := r_cells g0
  obtain ⟨c0, c1, c2, c3, c4, c5, c6⟩ := x_cells g1
  dsimp only at c0 c1 c2 c3 c4 c5 c6
  clear g0 g1 g2
  have C := Lib.hid (gFloat_any B P fl W (HG.out.below BW.out).pr (HG.out.below BW.out).le HF.out)
  generalize (⟨(prT fl).toArray⟩ : ByteArray) = z at *
  go_wp2_with fail
  refine C.out.mono ?_
  rintro r w1 ⟨rfl, hb1⟩
  have B1 := Lib.hid (bel_trans BW.out hb1)
  go_wp2_with fail
  go_ret
  exact ⟨by rw [← FR.out]; rfl, B1.out⟩
set_option maxHeartbeats 6400000 in
theorem gText_name0 (B : Nat) (P : Prn) (h : EH) (k : Nat → Ex) (ih : ∀ i, i < h.s.n → GT B P (k i)) (w : World) (g : AOk B P w h k) (ho : h.op = 4) (h0 : h.s.n = 0) :
    Calls Tryz.prog 11 #[P.v, h.v] w (TextPost (headT prT h (argT h.s.n k 0) (sideT h.s.n k 0) (sideT h.s.n k 1)) w) := by
  have A0 := Lib.hid fun (w' : World) (hb : Below w.heap.size w w') => gArg_of B P h k 0 (ih 0) w' (g.below hb)
  have S0 := Lib.hid fun (w' : World) (hb : Below w.heap.size w w') => gSide_of B P h k 0 (ih 0) w' (g.below hb)
  have S1 := Lib.hid fun (w' : World) (hb : Below w.heap.size w w') => gSide_of B P h k 1 (ih 1) w' (g.below hb)
  have T0 := bz (argT_len g 0)
  have U0 := bz (sideT_len g 0)
  have U1 := bz (sideT_len g 1)
  have HG := Lib.hid g
  clear ih g
  obtain ⟨op, ps, bo, it, fl, nm, ⟨ao, n, c⟩⟩ := h
  have OKH := Lib.hid HG.out.ok
  dsimp only at *
  subst ho
  generalize argT n k 0 = a0 at *
  generalize sideT n k 0 = s0 at *
  generalize sideT n k 1 = s1 at *
  generalize hL : headT prT ⟨4, ps, bo, it, fl, nm, ⟨ao, n, c⟩⟩ a0 s0 s1 = L
  have FR : Hid ((⟨nm.toArray⟩ : ByteArray) = ⟨L.toArray⟩) := by show _ = _; rw [← hL]; simp [headT, nameT, h0]
  clear hL
  generalize (⟨a0.toArray⟩ : ByteArray) = za at *
  generalize (⟨s0.toArray⟩ : ByteArray) = z0 at *
  generalize (⟨s1.toArray⟩ : ByteArray) = z1 at *
  have zz : ¬ (0 : Int) < (n : Int) := by omega
  have HN := Lib.hid h0
  clear h0
  obtain ⟨g0, g1, g2, bb, hz⟩ := three_boxes w (rO P) (xO ⟨4, ps, bo, it, fl, nm, ⟨ao, n, c⟩⟩) gO
  have BW := Lib.hid bb
  have hz1 : (bx w (rO P)).heap.size = w.heap.size + 1 := bx_size _ _
  have hz2 : (bx (bx w (rO P)) (xO ⟨4, ps, bo, it, fl, nm, ⟨ao, n, c⟩⟩)).heap.size = w.heap.size + 2 := by rw [bx_size, hz1]
  clear bb
  show Calls Tryz.prog 11 #[.agg #[.slice P.fa P.l.length P.fc, .slice P.ta P.l.length P.tc], .agg #[.int .u8 4, .int .i64 ps, .bool bo, .int .i32 it, .int .u64 fl, .string ⟨nm.toArray⟩, .slice ao n c]] w _
  go_enter Tryz.func11, Tryz.ntmps11
  go_upto_region 1 with fail
  rw [bx_r w P, bx_x _ ⟨4, ps, bo, it, fl, nm, ⟨ao, n, c⟩⟩]
  go_upto_region 2 with fail
  rw [bx_g]
  generalize bx (bx (bx w (rO P)) (xO ⟨4, ps, bo, it, fl, nm, ⟨ao, n, c⟩⟩)) gO = W at *
  clear hz1 hz2
  have GG := Lib.hid (And.intro g0 (And.intro g1 g2))
  obtain ⟨p0, p1⟩ := r_cells g0
  obtain ⟨c0, c1, c2, c3, c4, c5, c6⟩ := x_cells g1
  dsimp only at c0 c1 c2 c3 c4 c5 c6
  clear g0 g1 g2
  go_wp2_with fail
  go_ret
  exact ⟨by rw [← FR.out]; rfl, BW.out⟩
set_option maxHeartbeats 6400000 in
theorem gText_name1 (B : Nat) (P : Prn) (h : EH) (k : Nat → Ex) (ih : ∀ i, i < h.s.n → GT B P (k i)) (w : World) (g : AOk B P w h k) (ho : h.op = 4) (h0 : 0 < h.s.n) (hnm : h.nm.length ≤ 2000) :
    Calls Tryz.prog 11 #[P.v, h.v] w (TextPost (headT prT h (argT h.s.n k 0) (sideT h.s.n k 0) (sideT h.s.n k 1)) w) := by
  have A0 := Lib.hid fun (w' : World) (hb : Below w.heap.size w w') => gArg_of B P h k 0 (ih 0) w' (g.below hb)
  have S0 := Lib.hid fun (w' : World) (hb : Below w.heap.size w w') => gSide_of B P h k 0 (ih 0) w' (g.below hb)
  have S1 := Lib.hid fun (w' : World) (hb : Below w.heap.size w w') => gSide_of B P h k 1 (ih 1) w' (g.below hb)
  have T0 := bz (argT_len g 0)
  have U0 := bz (sideT_len g 0)
  have U1 := bz (sideT_len g 1)
  have HG := Lib.hid g
  clear ih g
  obtain ⟨op, ps, bo, it, fl, nm, ⟨ao, n, c⟩⟩ := h
  have OKH := Lib.hid HG.out.ok
  dsimp only at *
  subst ho
  generalize argT n k 0 = a0 at *
  generalize sideT n k 0 = s0 at *
  generalize sideT n k 1 = s1 at *
  generalize hL : headT prT ⟨4, ps, bo, it, fl, nm, ⟨ao, n, c⟩⟩ a0 s0 s1 = L
  have FR : Hid ((⟨nm.toArray⟩ : ByteArray) ++ ⟨#[91]⟩ ++ ⟨a0.toArray⟩ ++ ⟨#[93]⟩ = ⟨L.toArray⟩) := by show _ = _; rw [← hL]; simp only [headT, nameT]; rw [if_pos h0]; apply zbytes; simp [ByteArray.data_append]
  clear hL
  generalize (⟨a0.toArray⟩ : ByteArray) = za at *
  generalize (⟨s0.toArray⟩ : ByteArray) = z0 at *
  generalize (⟨s1.toArray⟩ : ByteArray) = z1 at *
  have N0 : (⟨nm.toArray⟩ : ByteArray).size ≤ 2000 := bz hnm
  have NL1 : Sm (⟨#[91]⟩ : ByteArray) := by unfold Sm; decide
  have NL2 : Sm (⟨#[93]⟩ : ByteArray) := by unfold Sm; decide
  have N1 : Sm (⟨nm.toArray⟩ : ByteArray) := sm_of N0 (by decide)
  have N2 : Sm za := sm_of T0 (by decide)
  have N3 : Sm ((⟨nm.toArray⟩ : ByteArray) ++ ⟨#[91]⟩) := sm_app N0 (show (⟨#[91]⟩ : ByteArray).size ≤ 1 from Nat.le_refl _) (by decide)
  have N4 : Sm ((⟨nm.toArray⟩ : ByteArray) ++ ⟨#[91]⟩ ++ za) := sm_app (bsz N0 (show (⟨#[91]⟩ : ByteArray).size ≤ 1 from Nat.le_refl _)) T0 (by decide)
  have zz : (0 : Int) < (n : Int) := by omega
  have HN := Lib.hid h0
  clear h0
  obtain ⟨g0, g1, g2, bb, hz⟩ := three_boxes w (rO P) (xO ⟨4, ps, bo, it, fl, nm, ⟨ao, n, c⟩⟩) gO
  have BW := Lib.hid bb
  have hz1 : (bx w (rO P)).heap.size = w.heap.size + 1 := bx_size _ _
  have hz2 : (bx (bx w (rO P)) (xO ⟨4, ps, bo, it, fl, nm, ⟨ao, n, c⟩⟩)).heap.size = w.heap.size + 2 := by rw [bx_size, hz1]
  clear bb
  show Calls Tryz.prog 11 #[.agg #[.slice P.fa P.l.length P.fc, .slice P.ta P.l.length P.tc], .agg #[.int .u8 4, .int .i64 ps, .bool bo, .int .i32 it, .int .u64 fl, .string ⟨nm.toArray⟩, .slice ao n c]] w _
  go_enter Tryz.func11, Tryz.ntmps11
  go_upto_region 1 with fail
  rw [bx_r w P, bx_x _ ⟨4, ps, bo, it, fl, nm, ⟨ao, n, c⟩⟩]
  go_upto_region 2 with fail
  rw [bx_g]
  generalize bx (bx (bx w (rO P)) (xO ⟨4, ps, bo, it, fl, nm, ⟨ao, n, c⟩⟩)) gO = W at *
  clear hz1 hz2
  have GG := Lib.hid (And.intro g0 (And.intro g1 g2))
  obtain ⟨p0, p1⟩ := r_cells g0
  obtain ⟨c0, c1, c2, c3, c4, c5, c6⟩ := x_cells g1
  dsimp only at c0 c1 c2 c3 c4 c5 c6
  clear g0 g1 g2
  have KG := Lib.hid fun w' (hb : Below W.heap.size W w') => And.intro (r_cells (kept_obj hb GG.out.1)) (x_cells (kept_obj hb GG.out.2.1))
  dsimp only at KG
  have AJ := Lib.hid fun w' (hb : Below W.heap.size W w') => A0.out w' (bel_trans BW.out hb)
  have SADD := sadd_h
  go_upto_region 15 with fail
  go_region_held3 (fun w' => (w'.cell? ⟨w.heap.size, 0, none⟩ = some (.slice P.fa P.l.length P.fc) ∧ w'.cell? ⟨w.heap.size, 1, none⟩ = some (.slice P.ta P.l.length P.tc)) ∧ w'.cell? ⟨w.heap.size + 1, 0, none⟩ = some (.int .u8 4) ∧ w'.cell? ⟨w.heap.size + 1, 1, none⟩ = some (.int .i64 ps) ∧ w'.cell? ⟨w.heap.size + 1, 2, none⟩ = some (.bool bo) ∧ w'.cell? ⟨w.heap.size + 1, 3, none⟩ = some (.int .i32 it) ∧ w'.cell? ⟨w.heap.size + 1, 4, none⟩ = some (.int .u64 fl) ∧ w'.cell? ⟨w.heap.size + 1, 5, none⟩ = some (.string ⟨nm.toArray⟩) ∧ w'.cell? ⟨w.heap.size + 1, 6, none⟩ = some (.slice ao n c))
    (first | (refine KG.out _ ?_; (repeat (first | exact Below.refl _ _ | exact X1 | refine bel_drew ?_)); done))
    (first
      | (go_at_call 34; refine (AJ.out _ ?_).mono ?_; (· repeat (first | exact Below.refl _ _ | refine bel_drew ?_)); rintro x w8 ⟨rfl, b8⟩; have X1 : Below W.heap.size W w8 := (by refine bel_trans ?_ b8; repeat (first | exact Below.refl _ _ | refine bel_drew ?_))))
  all_goals
    have B1 := Lib.hid (bel_trans BW.out X1)
    go_wp2_with fail
    go_ret
    exact ⟨by rw [← FR.out]; rfl, B1.out⟩
set_option maxHeartbeats 6400000 in
theorem gText_neg (B : Nat) (P : Prn) (h : EH) (k : Nat → Ex) (ih : ∀ i, i < h.s.n → GT B P (k i)) (w : World) (g : AOk B P w h k) (ho : h.op = 17) :
    Calls Tryz.prog 11 #[P.v, h.v] w (TextPost (headT prT h (argT h.s.n k 0) (sideT h.s.n k 0) (sideT h.s.n k 1)) w) := by
  have A0 := Lib.hid fun (w' : World) (hb : Below w.heap.size w w') => gArg_of B P h k 0 (ih 0) w' (g.below hb)
  have S0 := Lib.hid fun (w' : World) (hb : Below w.heap.size w w') => gSide_of B P h k 0 (ih 0) w' (g.below hb)
  have S1 := Lib.hid fun (w' : World) (hb : Below w.heap.size w w') => gSide_of B P h k 1 (ih 1) w' (g.below hb)
  have T0 := bz (argT_len g 0)
  have U0 := bz (sideT_len g 0)
  have U1 := bz (sideT_len g 1)
  have HG := Lib.hid g
  clear ih g
  obtain ⟨op, ps, bo, it, fl, nm, ⟨ao, n, c⟩⟩ := h
  have OKH := Lib.hid HG.out.ok
  dsimp only at *
  subst ho
  generalize argT n k 0 = a0 at *
  generalize sideT n k 0 = s0 at *
  generalize sideT n k 1 = s1 at *
  generalize hL : headT prT ⟨17, ps, bo, it, fl, nm, ⟨ao, n, c⟩⟩ a0 s0 s1 = L
  have FR : Hid ((⟨#[45]⟩ : ByteArray) ++ ⟨s0.toArray⟩ = ⟨L.toArray⟩) := by show _ = _; rw [← hL]; apply zbytes; simp [ByteArray.data_append, headT]
  clear hL
  generalize (⟨a0.toArray⟩ : ByteArray) = za at *
  generalize (⟨s0.toArray⟩ : ByteArray) = z0 at *
  generalize (⟨s1.toArray⟩ : ByteArray) = z1 at *
  have N3 : ¬ 9223372036854775807 < (⟨#[45]⟩ : ByteArray).size + z0.size := by have : (⟨#[45]⟩ : ByteArray).size = 1 := rfl; omega
  obtain ⟨g0, g1, g2, bb, hz⟩ := three_boxes w (rO P) (xO ⟨17, ps, bo, it, fl, nm, ⟨ao, n, c⟩⟩) gO
  have BW := Lib.hid bb
  have hz1 : (bx w (rO P)).heap.size = w.heap.size + 1 := bx_size _ _
  have hz2 : (bx (bx w (rO P)) (xO ⟨17, ps, bo, it, fl, nm, ⟨ao, n, c⟩⟩)).heap.size = w.heap.size + 2 := by rw [bx_size, hz1]
  clear bb
  show Calls Tryz.prog 11 #[.agg #[.slice P.fa P.l.length P.fc, .slice P.ta P.l.length P.tc], .agg #[.int .u8 17, .int .i64 ps, .bool bo, .int .i32 it, .int .u64 fl, .string ⟨nm.toArray⟩, .slice ao n c]] w _
  go_enter Tryz.func11, Tryz.ntmps11
  go_upto_region 1 with fail
  rw [bx_r w P, bx_x _ ⟨17, ps, bo, it, fl, nm, ⟨ao, n, c⟩⟩]
  go_upto_region 2 with fail
  rw [bx_g]
  generalize bx (bx (bx w (rO P)) (xO ⟨17, ps, bo, it, fl, nm, ⟨ao, n, c⟩⟩)) gO = W at *
  clear hz1 hz2
  have GG := Lib.hid (And.intro g0 (And.intro g1 g2))
  obtain ⟨p0, p1⟩ := r_cells g0
  obtain ⟨c0, c1, c2, c3, c4, c5, c6⟩ := x_cells g1
  dsimp only at c0 c1 c2 c3 c4 c5 c6
  clear g0 g1 g2
  go_wp2_with fail
  refine (S0.out W BW.out).mono ?_
  rintro r w1 ⟨rfl, hb1⟩
  have B1 := Lib.hid (bel_trans BW.out hb1)
  dsimp only
  clear p0 p1 c0 c1 c2 c3 c4 c5 c6 hb1
  go_wp2_with fail
  go_ret
  exact ⟨by rw [← FR.out]; rfl, B1.out⟩
set_option maxHeartbeats 6400000 in
theorem gText_not (B : Nat) (P : Prn) (h : EH) (k : Nat → Ex) (ih : ∀ i, i < h.s.n → GT B P (k i)) (w : World) (g : AOk B P w h k) (ho : h.op = 18) :
    Calls Tryz.prog 11 #[P.v, h.v] w (TextPost (headT prT h (argT h.s.n k 0) (sideT h.s.n k 0) (sideT h.s.n k 1)) w) := by
  have A0 := Lib.hid fun (w' : World) (hb : Below w.heap.size w w') => gArg_of B P h k 0 (ih 0) w' (g.below hb)
  have S0 := Lib.hid fun (w' : World) (hb : Below w.heap.size w w') => gSide_of B P h k 0 (ih 0) w' (g.below hb)
  have S1 := Lib.hid fun (w' : World) (hb : Below w.heap.size w w') => gSide_of B P h k 1 (ih 1) w' (g.below hb)
  have T0 := bz (argT_len g 0)
  have U0 := bz (sideT_len g 0)
  have U1 := bz (sideT_len g 1)
  have HG := Lib.hid g
  clear ih g
  obtain ⟨op, ps, bo, it, fl, nm, ⟨ao, n, c⟩⟩ := h
  have OKH := Lib.hid HG.out.ok
  dsimp only at *
  subst ho
  generalize argT n k 0 = a0 at *
  generalize sideT n k 0 = s0 at *
  generalize sideT n k 1 = s1 at *
  generalize hL : headT prT ⟨18, ps, bo, it, fl, nm, ⟨ao, n, c⟩⟩ a0 s0 s1 = L
  have FR : Hid ((⟨#[33]⟩ : ByteArray) ++ ⟨s0.toArray⟩ = ⟨L.toArray⟩) := by show _ = _; rw [← hL]; apply zbytes; simp [ByteArray.data_append, headT]
  clear hL
  generalize (⟨a0.toArray⟩ : ByteArray) = za at *
  generalize (⟨s0.toArray⟩ : ByteArray) = z0 at *
  generalize (⟨s1.toArray⟩ : ByteArray) = z1 at *
  have N3 : ¬ 9223372036854775807 < (⟨#[33]⟩ : ByteArray).size + z0.size := by have : (⟨#[33]⟩ : ByteArray).size = 1 := rfl; omega
  obtain ⟨g0, g1, g2, bb, hz⟩ := three_boxes w (rO P) (xO ⟨18, ps, bo, it, fl, nm, ⟨ao, n, c⟩⟩) gO
  have BW := Lib.hid bb
  have hz1 : (bx w (rO P)).heap.size = w.heap.size + 1 := bx_size _ _
  have hz2 : (bx (bx w (rO P)) (xO ⟨18, ps, bo, it, fl, nm, ⟨ao, n, c⟩⟩)).heap.size = w.heap.size + 2 := by rw [bx_size, hz1]
  clear bb
  show Calls Tryz.prog 11 #[.agg #[.slice P.fa P.l.length P.fc, .slice P.ta P.l.length P.tc], .agg #[.int .u8 18, .int .i64 ps, .bool bo, .int .i32 it, .int .u64 fl, .string ⟨nm.toArray⟩, .slice ao n c]] w _
  go_enter Tryz.func11, Tryz.ntmps11
  go_upto_region 1 with fail
  rw [bx_r w P, bx_x _ ⟨18, ps, bo, it, fl, nm, ⟨ao, n, c⟩⟩]
  go_upto_region 2 with fail
  rw [bx_g]
  generalize bx (bx (bx w (rO P)) (xO ⟨18, ps, bo, it, fl, nm, ⟨ao, n, c⟩⟩)) gO = W at *
  clear hz1 hz2
  have GG := Lib.hid (And.intro g0 (And.intro g1 g2))
  obtain ⟨p0, p1⟩ := r_cells g0
  obtain ⟨c0, c1, c2, c3, c4, c5, c6⟩ := x_cells g1
  dsimp only at c0 c1 c2 c3 c4 c5 c6
  clear g0 g1 g2
  go_wp2_with fail
  refine (S0.out W BW.out).mono ?_
  rintro r w1 ⟨rfl, hb1⟩
  have B1 := Lib.hid (bel_trans BW.out hb1)
  dsimp only
  clear p0 p1 c0 c1 c2 c3 c4 c5 c6 hb1
  go_wp2_with fail
  go_ret
  exact ⟨by rw [← FR.out]; rfl, B1.out⟩
set_option maxHeartbeats 6400000 in
theorem gText_toint (B : Nat) (P : Prn) (h : EH) (k : Nat → Ex) (ih : ∀ i, i < h.s.n → GT B P (k i)) (w : World) (g : AOk B P w h k) (ho : h.op = 19) :
    Calls Tryz.prog 11 #[P.v, h.v] w (TextPost (headT prT h (argT h.s.n k 0) (sideT h.s.n k 0) (sideT h.s.n k 1)) w) := by
  have A0 := Lib.hid fun (w' : World) (hb : Below w.heap.size w w') => gArg_of B P h k 0 (ih 0) w' (g.below hb)
  have S0 := Lib.hid fun (w' : World) (hb : Below w.heap.size w w') => gSide_of B P h k 0 (ih 0) w' (g.below hb)
  have S1 := Lib.hid fun (w' : World) (hb : Below w.heap.size w w') => gSide_of B P h k 1 (ih 1) w' (g.below hb)
  have T0 := bz (argT_len g 0)
  have U0 := bz (sideT_len g 0)
  have U1 := bz (sideT_len g 1)
  have HG := Lib.hid g
  clear ih g
  obtain ⟨op, ps, bo, it, fl, nm, ⟨ao, n, c⟩⟩ := h
  have OKH := Lib.hid HG.out.ok
  dsimp only at *
  subst ho
  generalize argT n k 0 = a0 at *
  generalize sideT n k 0 = s0 at *
  generalize sideT n k 1 = s1 at *
  generalize hL : headT prT ⟨19, ps, bo, it, fl, nm, ⟨ao, n, c⟩⟩ a0 s0 s1 = L
  have FR : Hid ((⟨#[105, 110, 116, 40]⟩ : ByteArray) ++ ⟨a0.toArray⟩ ++ ⟨#[41]⟩ = ⟨L.toArray⟩) := by show _ = _; rw [← hL]; apply zbytes; simp [ByteArray.data_append, headT]
  clear hL
  generalize (⟨a0.toArray⟩ : ByteArray) = za at *
  generalize (⟨s0.toArray⟩ : ByteArray) = z0 at *
  generalize (⟨s1.toArray⟩ : ByteArray) = z1 at *
  have N1 : ((⟨#[105, 110, 116, 40]⟩ : ByteArray) ++ za).size ≤ 80010 := by rw [ByteArray.size_append]; show 4 + _ ≤ _; omega
  obtain ⟨g0, g1, g2, bb, hz⟩ := three_boxes w (rO P) (xO ⟨19, ps, bo, it, fl, nm, ⟨ao, n, c⟩⟩) gO
  have BW := Lib.hid bb
  have hz1 : (bx w (rO P)).heap.size = w.heap.size + 1 := bx_size _ _
  have hz2 : (bx (bx w (rO P)) (xO ⟨19, ps, bo, it, fl, nm, ⟨ao, n, c⟩⟩)).heap.size = w.heap.size + 2 := by rw [bx_size, hz1]
  clear bb
  show Calls Tryz.prog 11 #[.agg #[.slice P.fa P.l.length P.fc, .slice P.ta P.l.length P.tc], .agg #[.int .u8 19, .int .i64 ps, .bool bo, .int .i32 it, .int .u64 fl, .string ⟨nm.toArray⟩, .slice ao n c]] w _
  go_enter Tryz.func11, Tryz.ntmps11
  go_upto_region 1 with fail
  rw [bx_r w P, bx_x _ ⟨19, ps, bo, it, fl, nm, ⟨ao, n, c⟩⟩]
  go_upto_region 2 with fail
  rw [bx_g]
  generalize bx (bx (bx w (rO P)) (xO ⟨19, ps, bo, it, fl, nm, ⟨ao, n, c⟩⟩)) gO = W at *
  clear hz1 hz2
  have GG := Lib.hid (And.intro g0 (And.intro g1 g2))
  obtain ⟨p0, p1⟩ := r_cells g0
  obtain ⟨c0, c1, c2, c3, c4, c5, c6⟩ := x_cells g1
  dsimp only at c0 c1 c2 c3 c4 c5 c6
  clear g0 g1 g2
  go_wp2_with fail
  refine (A0.out W BW.out).mono ?_
  rintro r w1 ⟨rfl, hb1⟩
  have B1 := Lib.hid (bel_trans BW.out hb1)
  dsimp only
  clear p0 p1 c0 c1 c2 c3 c4 c5 c6 hb1
  go_wp2_with fail
  go_ret
  exact ⟨by rw [← FR.out]; rfl, B1.out⟩
set_option maxHeartbeats 6400000 in
theorem gText_tofloat (B : Nat) (P : Prn) (h : EH) (k : Nat → Ex) (ih : ∀ i, i < h.s.n → GT B P (k i)) (w : World) (g : AOk B P w h k) (ho : h.op = 20) :
    Calls Tryz.prog 11 #[P.v, h.v] w (TextPost (headT prT h (argT h.s.n k 0) (sideT h.s.n k 0) (sideT h.s.n k 1)) w) := by
  have A0 := Lib.hid fun (w' : World) (hb : Below w.heap.size w w') => gArg_of B P h k 0 (ih 0) w' (g.below hb)
  have S0 := Lib.hid fun (w' : World) (hb : Below w.heap.size w w') => gSide_of B P h k 0 (ih 0) w' (g.below hb)
  have S1 := Lib.hid fun (w' : World) (hb : Below w.heap.size w w') => gSide_of B P h k 1 (ih 1) w' (g.below hb)
  have T0 := bz (argT_len g 0)
  have U0 := bz (sideT_len g 0)
  have U1 := bz (sideT_len g 1)
  have HG := Lib.hid g
  clear ih g
  obtain ⟨op, ps, bo, it, fl, nm, ⟨ao, n, c⟩⟩ := h
  have OKH := Lib.hid HG.out.ok
  dsimp only at *
  subst ho
  generalize argT n k 0 = a0 at *
  generalize sideT n k 0 = s0 at *
  generalize sideT n k 1 = s1 at *
  generalize hL : headT prT ⟨20, ps, bo, it, fl, nm, ⟨ao, n, c⟩⟩ a0 s0 s1 = L
  have FR : Hid ((⟨#[102, 108, 111, 97, 116, 40]⟩ : ByteArray) ++ ⟨a0.toArray⟩ ++ ⟨#[41]⟩ = ⟨L.toArray⟩) := by show _ = _; rw [← hL]; apply zbytes; simp [ByteArray.data_append, headT]
  clear hL
  generalize (⟨a0.toArray⟩ : ByteArray) = za at *
  generalize (⟨s0.toArray⟩ : ByteArray) = z0 at *
  generalize (⟨s1.toArray⟩ : ByteArray) = z1 at *
  have N1 : ((⟨#[102, 108, 111, 97, 116, 40]⟩ : ByteArray) ++ za).size ≤ 80010 := by rw [ByteArray.size_append]; show 6 + _ ≤ _; omega
  obtain ⟨g0, g1, g2, bb, hz⟩ := three_boxes w (rO P) (xO ⟨20, ps, bo, it, fl, nm, ⟨ao, n, c⟩⟩) gO
  have BW := Lib.hid bb
  have hz1 : (bx w (rO P)).heap.size = w.heap.size + 1 := bx_size _ _
  have hz2 : (bx (bx w (rO P)) (xO ⟨20, ps, bo, it, fl, nm, ⟨ao, n, c⟩⟩)).heap.size = w.heap.size + 2 := by rw [bx_size, hz1]
  clear bb
  show Calls Tryz.prog 11 #[.agg #[.slice P.fa P.l.length P.fc, .slice P.ta P.l.length P.tc], .agg #[.int .u8 20, .int .i64 ps, .bool bo, .int .i32 it, .int .u64 fl, .string ⟨nm.toArray⟩, .slice ao n c]] w _
  go_enter Tryz.func11, Tryz.ntmps11
  go_upto_region 1 with fail
  rw [bx_r w P, bx_x _ ⟨20, ps, bo, it, fl, nm, ⟨ao, n, c⟩⟩]
  go_upto_region 2 with fail
  rw [bx_g]
  generalize bx (bx (bx w (rO P)) (xO ⟨20, ps, bo, it, fl, nm, ⟨ao, n, c⟩⟩)) gO = W at *
  clear hz1 hz2
  have GG := Lib.hid (And.intro g0 (And.intro g1 g2))
  obtain ⟨p0, p1⟩ := r_cells g0
  obtain ⟨c0, c1, c2, c3, c4, c5, c6⟩ := x_cells g1
  dsimp only at c0 c1 c2 c3 c4 c5 c6
  clear g0 g1 g2
  go_wp2_with fail
  refine (A0.out W BW.out).mono ?_
  rintro r w1 ⟨rfl, hb1⟩
  have B1 := Lib.hid (bel_trans BW.out hb1)
  dsimp only
  clear p0 p1 c0 c1 c2 c3 c4 c5 c6 hb1
  go_wp2_with fail
  go_ret
  exact ⟨by rw [← FR.out]; rfl, B1.out⟩
set_option maxHeartbeats 6400000 in
theorem gText_abs (B : Nat) (P : Prn) (h : EH) (k : Nat → Ex) (ih : ∀ i, i < h.s.n → GT B P (k i)) (w : World) (g : AOk B P w h k) (ho : h.op = 21) :
    Calls Tryz.prog 11 #[P.v, h.v] w (TextPost (headT prT h (argT h.s.n k 0) (sideT h.s.n k 0) (sideT h.s.n k 1)) w) := by
  have A0 := Lib.hid fun (w' : World) (hb : Below w.heap.size w w') => gArg_of B P h k 0 (ih 0) w' (g.below hb)
  have S0 := Lib.hid fun (w' : World) (hb : Below w.heap.size w w') => gSide_of B P h k 0 (ih 0) w' (g.below hb)
  have S1 := Lib.hid fun (w' : World) (hb : Below w.heap.size w w') => gSide_of B P h k 1 (ih 1) w' (g.below hb)
  have T0 := bz (argT_len g 0)
  have U0 := bz (sideT_len g 0)
  have U1 := bz (sideT_len g 1)
  have HG := Lib.hid g
  clear ih g
  obtain ⟨op, ps, bo, it, fl, nm, ⟨ao, n, c⟩⟩ := h
  have OKH := Lib.hid HG.out.ok
  dsimp only at *
  subst ho
  generalize argT n k 0 = a0 at *
  generalize sideT n k 0 = s0 at *
  generalize sideT n k 1 = s1 at *
  generalize hL : headT prT ⟨21, ps, bo, it, fl, nm, ⟨ao, n, c⟩⟩ a0 s0 s1 = L
  have FR : Hid ((⟨#[97, 98, 115, 40]⟩ : ByteArray) ++ ⟨a0.toArray⟩ ++ ⟨#[41]⟩ = ⟨L.toArray⟩) := by show _ = _; rw [← hL]; apply zbytes; simp [ByteArray.data_append, headT]
  clear hL
  generalize (⟨a0.toArray⟩ : ByteArray) = za at *
  generalize (⟨s0.toArray⟩ : ByteArray) = z0 at *
  generalize (⟨s1.toArray⟩ : ByteArray) = z1 at *
  have N1 : ((⟨#[97, 98, 115, 40]⟩ : ByteArray) ++ za).size ≤ 80010 := by rw [ByteArray.size_append]; show 4 + _ ≤ _; omega
  obtain ⟨g0, g1, g2, bb, hz⟩ := three_boxes w (rO P) (xO ⟨21, ps, bo, it, fl, nm, ⟨ao, n, c⟩⟩) gO
  have BW := Lib.hid bb
  have hz1 : (bx w (rO P)).heap.size = w.heap.size + 1 := bx_size _ _
  have hz2 : (bx (bx w (rO P)) (xO ⟨21, ps, bo, it, fl, nm, ⟨ao, n, c⟩⟩)).heap.size = w.heap.size + 2 := by rw [bx_size, hz1]
  clear bb
  show Calls Tryz.prog 11 #[.agg #[.slice P.fa P.l.length P.fc, .slice P.ta P.l.length P.tc], .agg #[.int .u8 21, .int .i64 ps, .bool bo, .int .i32 it, .int .u64 fl, .string ⟨nm.toArray⟩, .slice ao n c]] w _
  go_enter Tryz.func11, Tryz.ntmps11
  go_upto_region 1 with fail
  rw [bx_r w P, bx_x _ ⟨21, ps, bo, it, fl, nm, ⟨ao, n, c⟩⟩]
  go_upto_region 2 with fail
  rw [bx_g]
  generalize bx (bx (bx w (rO P)) (xO ⟨21, ps, bo, it, fl, nm, ⟨ao, n, c⟩⟩)) gO = W at *
  clear hz1 hz2
  have GG := Lib.hid (And.intro g0 (And.intro g1 g2))
  obtain ⟨p0, p1⟩ := r_cells g0
  obtain ⟨c0, c1, c2, c3, c4, c5, c6⟩ := x_cells g1
  dsimp only at c0 c1 c2 c3 c4 c5 c6
  clear g0 g1 g2
  go_wp2_with fail
  refine (A0.out W BW.out).mono ?_
  rintro r w1 ⟨rfl, hb1⟩
  have B1 := Lib.hid (bel_trans BW.out hb1)
  dsimp only
  clear p0 p1 c0 c1 c2 c3 c4 c5 c6 hb1
  go_wp2_with fail
  go_ret
  exact ⟨by rw [← FR.out]; rfl, B1.out⟩
set_option maxHeartbeats 6400000 in
theorem gText_none (B : Nat) (P : Prn) (h : EH) (k : Nat → Ex) (ih : ∀ i, i < h.s.n → GT B P (k i)) (w : World) (g : AOk B P w h k) (b1 : (h.op == 1) = false) (b2 : (h.op == 2) = false) (b3 : (h.op == 3) = false) (b4 : (h.op == 4) = false) (b17 : (h.op == 17) = false) (b18 : (h.op == 18) = false) (b19 : (h.op == 19) = false) (b20 : (h.op == 20) = false) (b21 : (h.op == 21) = false) (hb : (5 ≤ h.op ∧ ¬ h.op ≤ 16) ∨ ¬ 5 ≤ h.op) (ht : headT prT h (argT h.s.n k 0) (sideT h.s.n k 0) (sideT h.s.n k 1) = []) :
    Calls Tryz.prog 11 #[P.v, h.v] w (TextPost (headT prT h (argT h.s.n k 0) (sideT h.s.n k 0) (sideT h.s.n k 1)) w) := by
  have A0 := Lib.hid fun (w' : World) (hb : Below w.heap.size w w') => gArg_of B P h k 0 (ih 0) w' (g.below hb)
  have S0 := Lib.hid fun (w' : World) (hb : Below w.heap.size w w') => gSide_of B P h k 0 (ih 0) w' (g.below hb)
  have S1 := Lib.hid fun (w' : World) (hb : Below w.heap.size w w') => gSide_of B P h k 1 (ih 1) w' (g.below hb)
  have T0 := bz (argT_len g 0)
  have U0 := bz (sideT_len g 0)
  have U1 := bz (sideT_len g 1)
  have HG := Lib.hid g
  clear ih g
  obtain ⟨op, ps, bo, it, fl, nm, ⟨ao, n, c⟩⟩ := h
  have OKH := Lib.hid HG.out.ok
  dsimp only at *
  generalize argT n k 0 = a0 at *
  generalize sideT n k 0 = s0 at *
  generalize sideT n k 1 = s1 at *
  generalize hL : headT prT ⟨op, ps, bo, it, fl, nm, ⟨ao, n, c⟩⟩ a0 s0 s1 = L
  have FR : Hid ((⟨#[]⟩ : ByteArray) = ⟨L.toArray⟩) := by show _ = _; rw [← hL]; rw [ht]
  clear hL
  generalize (⟨a0.toArray⟩ : ByteArray) = za at *
  generalize (⟨s0.toArray⟩ : ByteArray) = z0 at *
  generalize (⟨s1.toArray⟩ : ByteArray) = z1 at *
  obtain ⟨g0, g1, g2, bb, hz⟩ := three_boxes w (rO P) (xO ⟨op, ps, bo, it, fl, nm, ⟨ao, n, c⟩⟩) gO
  have BW := Lib.hid bb
  have hz1 : (bx w (rO P)).heap.size = w.heap.size + 1 := bx_size _ _
  have hz2 : (bx (bx w (rO P)) (xO ⟨op, ps, bo, it, fl, nm, ⟨ao, n, c⟩⟩)).heap.size = w.heap.size + 2 := by rw [bx_size, hz1]
  clear bb
  show Calls Tryz.prog 11 #[.agg #[.slice P.fa P.l.length P.fc, .slice P.ta P.l.length P.tc], .agg #[.int .u8 op, .int .i64 ps, .bool bo, .int .i32 it, .int .u64 fl, .string ⟨nm.toArray⟩, .slice ao n c]] w _
  go_enter Tryz.func11, Tryz.ntmps11
  go_upto_region 1 with fail
  rw [bx_r w P, bx_x _ ⟨op, ps, bo, it, fl, nm, ⟨ao, n, c⟩⟩]
  go_upto_region 2 with fail
  rw [bx_g]
  generalize bx (bx (bx w (rO P)) (xO ⟨op, ps, bo, it, fl, nm, ⟨ao, n, c⟩⟩)) gO = W at *
  clear hz1 hz2
  have GG := Lib.hid (And.intro g0 (And.intro g1 g2))
  obtain ⟨p0, p1⟩ := r_cells g0
  obtain ⟨c0, c1, c2, c3, c4, c5, c6⟩ := x_cells g1
  dsimp only at c0 c1 c2 c3 c4 c5 c6
  clear g0 g1 g2
  rcases hb with ⟨q1, q2⟩ | q1
  all_goals
    go_wp2_with fail
    go_ret
    exact ⟨by rw [← FR.out]; rfl, BW.out⟩
end Go.Proofs.YtgjgcehoakacoaaGreatDoor
namespace Go.Proofs.YtgjgcehoakacoaaGreatDoor
open Go.RowKit
set_option maxRecDepth 100000

set_option maxHeartbeats 6400000 in
theorem gText_bin (B : Nat) (P : Prn) (h : EH) (k : Nat → Ex) (ih : ∀ i, i < h.s.n → GT B P (k i)) (w : World) (g : AOk B P w h k) (h5 : 5 ≤ h.op) (h16 : h.op ≤ 16) :
    Calls Tryz.prog 11 #[P.v, h.v] w (TextPost (headT prT h (argT h.s.n k 0) (sideT h.s.n k 0) (sideT h.s.n k 1)) w) := by
  have A0 := Lib.hid fun (w' : World) (hb : Below w.heap.size w w') => gArg_of B P h k 0 (ih 0) w' (g.below hb)
  have S0 := Lib.hid fun (w' : World) (hb : Below w.heap.size w w') => gSide_of B P h k 0 (ih 0) w' (g.below hb)
  have S1 := Lib.hid fun (w' : World) (hb : Below w.heap.size w w') => gSide_of B P h k 1 (ih 1) w' (g.below hb)
  have T0 := bz (argT_len g 0)
  have U0 := bz (sideT_len g 0)
  have U1 := bz (sideT_len g 1)
  have HG := Lib.hid g
  clear ih g
  obtain ⟨op, ps, bo, it, fl, nm, ⟨ao, n, c⟩⟩ := h
  have OKH := Lib.hid HG.out.ok
  dsimp only at *
  generalize argT n k 0 = a0 at *
  generalize sideT n k 0 = s0 at *
  generalize sideT n k 1 = s1 at *
  generalize hL : headT prT ⟨op, ps, bo, it, fl, nm, ⟨ao, n, c⟩⟩ a0 s0 s1 = L
  have FR : Hid ((⟨s0.toArray⟩ : ByteArray) ++ ⟨#[32]⟩ ++ ⟨(signB op).toArray⟩ ++ ⟨#[32]⟩ ++ ⟨s1.toArray⟩ = ⟨L.toArray⟩) := by show _ = _; rw [← hL]; apply zbytes; simp only [headT]; rw [if_neg (by omega), if_neg (by omega), if_neg (by omega), if_neg (by omega), if_neg (by omega), if_neg (by omega), if_neg (by omega), if_neg (by omega), if_neg (by omega), if_pos (by unfold opBin; simp; omega)]; simp [ByteArray.data_append]
  clear hL
  generalize (⟨a0.toArray⟩ : ByteArray) = za at *
  generalize (⟨s0.toArray⟩ : ByteArray) = z0 at *
  generalize (⟨s1.toArray⟩ : ByteArray) = z1 at *
  obtain ⟨i, hi, hop⟩ : ∃ i : Nat, i < 12 ∧ op = (i : Int) + 5 := ⟨(op - 5).toNat, by omega, by omega⟩
  have HI := Lib.hid hi
  have Hop := Lib.hid hop
  have ovs : IntKind.u8.wrap (op - 5) = (i : Int) := by rw [IntKind.wrap_u8]; omega
  have S2 : (⟨(signB op).toArray⟩ : ByteArray).size ≤ 2 := bz (sign_len op)
  clear hop
  generalize hS : (⟨(signB op).toArray⟩ : ByteArray) = S at *
  have HS := Lib.hid hS
  clear hS
  have NL : Sm (⟨#[32]⟩ : ByteArray) := by unfold Sm; decide
  have NL1 : (⟨#[32]⟩ : ByteArray).size ≤ 1 := Nat.le_refl _
  have n0 : Sm z0 := sm_of U0 (by decide)
  have m0 : Sm z1 := sm_of U1 (by decide)
  have mS : Sm S := sm_of S2 (by decide)
  have n1 : Sm (z0 ++ ⟨#[32]⟩) := sm_app U0 NL1 (by decide)
  have n2 : Sm (z0 ++ ⟨#[32]⟩ ++ S) := sm_app (bsz U0 NL1) S2 (by decide)
  have n3 : Sm (z0 ++ ⟨#[32]⟩ ++ S ++ ⟨#[32]⟩) := sm_app (bsz (bsz U0 NL1) S2) NL1 (by decide)
  obtain ⟨g0, g1, g2, bb, hz⟩ := three_boxes w (rO P) (xO ⟨op, ps, bo, it, fl, nm, ⟨ao, n, c⟩⟩) gO
  have BW := Lib.hid bb
  have hz1 : (bx w (rO P)).heap.size = w.heap.size + 1 := bx_size _ _
  have hz2 : (bx (bx w (rO P)) (xO ⟨op, ps, bo, it, fl, nm, ⟨ao, n, c⟩⟩)).heap.size = w.heap.size + 2 := by rw [bx_size, hz1]
  clear bb
  show Calls Tryz.prog 11 #[.agg #[.slice P.fa P.l.length P.fc, .slice P.ta P.l.length P.tc], .agg #[.int .u8 op, .int .i64 ps, .bool bo, .int .i32 it, .int .u64 fl, .string ⟨nm.toArray⟩, .slice ao n c]] w _
  go_enter Tryz.func11, Tryz.ntmps11
  go_upto_region 1 with fail
  rw [bx_r w P, bx_x _ ⟨op, ps, bo, it, fl, nm, ⟨ao, n, c⟩⟩]
  go_upto_region 2 with fail
  rw [bx_g]
  generalize bx (bx (bx w (rO P)) (xO ⟨op, ps, bo, it, fl, nm, ⟨ao, n, c⟩⟩)) gO = W at *
  clear hz1 hz2
  have GG := Lib.hid (And.intro g0 (And.intro g1 g2))
  obtain ⟨p0, p1⟩ := r_cells g0
  obtain ⟨c0, c1, c2, c3, c4, c5, c6⟩ := x_cells g1
  dsimp only at c0 c1 c2 c3 c4 c5 c6
  clear g0 g1 g2
  have KG := Lib.hid fun w' (hb : Below W.heap.size W w') => And.intro (r_cells (kept_obj hb GG.out.1)) (And.intro (x_cells (kept_obj hb GG.out.2.1)) (signR_at (kept_obj hb GG.out.2.2) i HI.out))
  dsimp only at KG
  rw [← Hop.out, HS.out] at KG
  have SJ := Lib.hid fun w' (hb : Below W.heap.size W w') => S0.out w' (bel_trans BW.out hb)
  have SK := Lib.hid fun w' (hb : Below W.heap.size W w') => S1.out w' (bel_trans BW.out hb)
  have y0 : (0 : Int) ≤ (i : Int) := by have := HI.out; omega
  have y1 : (i : Int) < 12 := by have := HI.out; omega
  have y2 : i < 12 := HI.out
  have SADD := sadd_h
  go_upto_region 3 with fail
  clear c0 c1 c2 c3 c4 c5 c6 p0 p1 S0 S1 A0
  go_region_held3 (fun w' => (w'.cell? ⟨w.heap.size, 0, none⟩ = some (.slice P.fa P.l.length P.fc) ∧ w'.cell? ⟨w.heap.size, 1, none⟩ = some (.slice P.ta P.l.length P.tc)) ∧ (w'.cell? ⟨w.heap.size + 1, 0, none⟩ = some (.int .u8 op) ∧ w'.cell? ⟨w.heap.size + 1, 1, none⟩ = some (.int .i64 ps) ∧ w'.cell? ⟨w.heap.size + 1, 2, none⟩ = some (.bool bo) ∧ w'.cell? ⟨w.heap.size + 1, 3, none⟩ = some (.int .i32 it) ∧ w'.cell? ⟨w.heap.size + 1, 4, none⟩ = some (.int .u64 fl) ∧ w'.cell? ⟨w.heap.size + 1, 5, none⟩ = some (.string ⟨nm.toArray⟩) ∧ w'.cell? ⟨w.heap.size + 1, 6, none⟩ = some (.slice ao n c)) ∧ w'.cell? ⟨w.heap.size + 2, i, none⟩ = some (.string S))
    (first | (refine KG.out _ ?_; (repeat (first | exact Below.refl _ _ | exact X2 | exact X1 | refine bel_drew ?_)); done))
    (first
      | (go_at_call 31; first
          | (have _ := X1; refine (SK.out _ ?_).mono ?_; (· repeat (first | exact Below.refl _ _ | exact X1 | refine bel_drew ?_)); rintro x w9 ⟨rfl, b9⟩; have X2 : Below W.heap.size W w9 := (by refine bel_trans ?_ b9; repeat (first | exact Below.refl _ _ | exact X1 | refine bel_drew ?_)))
          | (refine (SJ.out _ ?_).mono ?_; (· repeat (first | exact Below.refl _ _ | refine bel_drew ?_)); rintro x w8 ⟨rfl, b8⟩; have X1 : Below W.heap.size W w8 := (by refine bel_trans ?_ b8; repeat (first | exact Below.refl _ _ | refine bel_drew ?_)))))
  all_goals
    have B1 := Lib.hid (bel_trans BW.out X2)
    go_wp2_with fail
    go_ret
    exact ⟨by rw [← FR.out]; rfl, B1.out⟩
theorem gText_any (B : Nat) (P : Prn) (e : Ex) : GT B P e := by
  induction e using Ex.ind with
  | H e ih =>
    intro w hI hP hB hf hw
    have g : AOk B P w e.h e.k := ⟨hI.ok, hI.xs, hP, hB, fun x hx => hf x (by rw [Ex.fls_eq]; exact List.mem_append_right _ hx), by rw [Ex.wt_eq] at hw; omega⟩
    have hn : e.h.nm.length ≤ 2000 := by rw [Ex.wt_eq] at hw; omega
    have h3 : e.h.op = 3 → e.h.fl ∈ P.l := fun h => hf _ (by rw [Ex.fls_eq, if_pos h]; simp)
    rw [Ex.txt_eq]
    show Calls Tryz.prog 11 #[P.v, e.h.v] w (TextPost (headT prT e.h (argT e.h.s.n e.k 0) (sideT e.h.s.n e.k 0) (sideT e.h.s.n e.k 1)) w)
    generalize e.h = h at *
    generalize e.k = k at *
    clear hI hf hw
    by_cases q1 : h.op = 1
    · exact gText_bool B P h k ih w g q1
    by_cases q2 : h.op = 2
    · exact gText_int B P h k ih w g q2
    by_cases q3 : h.op = 3
    · exact gText_float B P h k ih w g q3 (h3 q3)
    by_cases q4 : h.op = 4
    · by_cases h0 : h.s.n = 0
      · exact gText_name0 B P h k ih w g q4 h0
      · exact gText_name1 B P h k ih w g q4 (by omega) hn
    by_cases q17 : h.op = 17
    · exact gText_neg B P h k ih w g q17
    by_cases q18 : h.op = 18
    · exact gText_not B P h k ih w g q18
    by_cases q19 : h.op = 19
    · exact gText_toint B P h k ih w g q19
    by_cases q20 : h.op = 20
    · exact gText_tofloat B P h k ih w g q20
    by_cases q21 : h.op = 21
    · exact gText_abs B P h k ih w g q21
    by_cases h5 : 5 ≤ h.op
    · by_cases h16 : h.op ≤ 16
      · exact gText_bin B P h k ih w g h5 h16
      · exact gText_none B P h k ih w g (by simp [q1]) (by simp [q2]) (by simp [q3]) (by simp [q4]) (by simp [q17]) (by simp [q18]) (by simp [q19]) (by simp [q20]) (by simp [q21]) (.inl ⟨h5, h16⟩) (by unfold headT opBin; simp [q1, q2, q3, q4, q17, q18, q19, q20, q21, h16])
    · exact gText_none B P h k ih w g (by simp [q1]) (by simp [q2]) (by simp [q3]) (by simp [q4]) (by simp [q17]) (by simp [q18]) (by simp [q19]) (by simp [q20]) (by simp [q21]) (.inr h5) (by unfold headT opBin; simp [q1, q2, q3, q4, q17, q18, q19, q20, q21, h5])
end Go.Proofs.YtgjgcehoakacoaaGreatDoor
