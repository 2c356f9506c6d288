/-
  The contract of wide.Sum: the sum of all numbers of a slice, modulo 2^192. Conditions: the fields are words of 64 bits.
-/
import Derived.Test.YtbpgallhlfjgjaaSqrt
import Derived.Laws.Rows
namespace Go.Proofs.Ytbpgallhlfjgjaa
open Go.RowKit

/-- Block g is just the cells cs, of element type t, none frozen. -/
def Blk (w : World) (g : Nat) (t : TypeId) (cs : Array Value) : Prop := w.heap[g]? = some (.cells cs t (0, 0))
section
variable {w w' : World} {g : Nat} {t : TypeId} {cs : Array Value}
theorem Blk.lt (h : Blk w g t cs) : g < w.heap.size := by
  rcases Nat.lt_or_ge g w.heap.size with hlt | hge
  · exact hlt
  · unfold Blk at h; rw [Array.getElem?_eq_none hge] at h; cases h
theorem Blk.cell (h : Blk w g t cs) (i : Nat) : w.cell? ⟨g, i, none⟩ = cs[i]? := cell_of_row w g i cs t (0, 0) h
theorem Blk.frozen (h : Blk w g t cs) (i : Nat) : w.frozen? ⟨g, i, none⟩ = false := by
  unfold Blk at h
  simp [World.frozen?, h]
theorem Blk.new (w : World) (t : TypeId) (cs : Array Value) : Blk (w.alloc (.cells cs t)) w.heap.size t cs := heap_alloc_new w _
theorem Blk.drew (h : Blk w g t cs) : Blk w.drew g t cs := h
theorem Blk.alloc (h : Blk w g t cs) (o : Obj) : Blk (w.alloc o) g t cs := (Below.heap_alloc w o g h.lt).trans h
theorem Blk.set_ (h : Blk w g t cs) (i : Nat) (u : Value) : Blk (w.setCell ⟨g, i, none⟩ u) g t (cs.setIfInBounds i u) := by
  unfold Blk at h ⊢
  simp [World.setCell, Array.getElem?_modify, h]
theorem Blk.far (h : Blk w g t cs) {p : Addr} (hp : g ≠ p.block) (u : Value) : Blk (w.setCell p u) g t cs := (Below.heap_setCell w p u g hp).trans h
theorem Blk.below {B : Nat} (h : Blk w g t cs) (hb : Below B w w') (hg : g < B) : Blk w' g t cs := (hb.block g hg).trans h
end

theorem kp5 {W w1 : World} {p q r s x : Addr} {a b c d e : Value} {g : Nat} (hb : Below W.heap.size W w1) (h : W.cell? p = some a ∧ W.cell? q = some b ∧ W.cell? r = some c ∧ W.cell? s = some d ∧ W.cell? x = some e)
    (f0 : W.frozen? ⟨g, 0, none⟩ = false) (f1 : W.frozen? ⟨g, 1, none⟩ = false) (f2 : W.frozen? ⟨g, 2, none⟩ = false) (hg : g < W.heap.size) :
    w1.cell? p = some a ∧ w1.cell? q = some b ∧ w1.cell? r = some c ∧ w1.cell? s = some d ∧ w1.cell? x = some e ∧ w1.frozen? ⟨g, 0, none⟩ = false ∧ w1.frozen? ⟨g, 1, none⟩ = false ∧ w1.frozen? ⟨g, 2, none⟩ = false :=
  ⟨(hb.cell (World.block_lt_of_cell? _ _ h.1)).trans h.1, (hb.cell (World.block_lt_of_cell? _ _ h.2.1)).trans h.2.1, (hb.cell (World.block_lt_of_cell? _ _ h.2.2.1)).trans h.2.2.1, (hb.cell (World.block_lt_of_cell? _ _ h.2.2.2.1)).trans h.2.2.2.1, (hb.cell (World.block_lt_of_cell? _ _ h.2.2.2.2)).trans h.2.2.2.2,
    (hb.frozen (p := ⟨g, 0, none⟩) hg).trans f0, (hb.frozen (p := ⟨g, 1, none⟩) hg).trans f1, (hb.frozen (p := ⟨g, 2, none⟩) hg).trans f2⟩

/-- The sum of numbers of two words. -/
def sumL : List (Int × Int) → Int
  | [] => 0
  | p :: r => V2 p.1 p.2 + sumL r
theorem sumL_snoc (l : List (Int × Int)) (p : Int × Int) : sumL (l ++ [p]) = sumL l + V2 p.1 p.2 := by
  induction l with
  | nil => simp [sumL]
  | cons q r ih => simp [sumL, ih]; omega
theorem sum_step {h m l h' m' l' c ph pl s : Int} (w1 : Word h') (w2 : Word m') (w3 : Word l') (_c0 : 0 ≤ c) (e : V3 h m l = s % 6277101735386680763835789423207666416102355444464034512896) (hv : V3 h' m' l' + c * 6277101735386680763835789423207666416102355444464034512896 = V3 h m l + V3 0 ph pl) :
    V3 h' m' l' = (s + V2 ph pl) % 6277101735386680763835789423207666416102355444464034512896 := by
  have e0 : V3 0 ph pl = V2 ph pl := by unfold V3 V2; omega
  have := V3_pos w1 w2 w3
  rw [e0, e] at hv
  generalize V3 h' m' l' = x at *
  generalize V2 ph pl = y at *
  omega

set_option maxHeartbeats 6400000 in
theorem sum_any (A : Option Addr) (b off n cap : Nat) (ps : List (Int × Int)) (hn : ps.length = n) (hn1 : n ≤ 1000000) (w : World) (hA : 0 < n → A = some ⟨b, off, none⟩) (hb : 0 < n → b < w.heap.size)
    (hw : ∀ p ∈ ps, Word p.1 ∧ Word p.2)
    (hc : ∀ (i : Nat) (p : Int × Int), ps[i]? = some p → w.cell? ⟨b, off + i * 2, none⟩ = some (.int .u64 p.1) ∧ w.cell? ⟨b, off + i * 2 + 1, none⟩ = some (.int .u64 p.2)) :
    Calls Try.prog 42 #[.slice A n cap] w (Ret (Is3 (sumL ps % 6277101735386680763835789423207666416102355444464034512896)) w) := by
  have HC := Lib.hid hc
  have HN := Lib.hid hn
  have HW := Lib.hid hw
  have HA := Lib.hid hA
  have HBB := Lib.hid hb
  clear hc hn hw hA hb
  go_enter Try.func42, Try.ntmps42
  go_wp2_with fail
  go_loopw [9] (fun s9 wr => ∃ (k : Nat) (h m l : Int), k ≤ n ∧ s9 = .int .i64 k ∧ Word h ∧ Word m ∧ Word l ∧ V3 h m l = sumL (ps.take k) % 6277101735386680763835789423207666416102355444464034512896
    ∧ Blk wr w.heap.size 45 #[.int .u64 0, .int .u64 0, .int .u64 0] ∧ Blk wr (w.heap.size + 1) 45 #[.int .u64 h, .int .u64 m, .int .u64 l] ∧ Hid (Below w.heap.size w wr)) (fun s9 _ => n - (intOf s9).toNat)
  case atStart => exact ⟨0, 0, 0, 0, Nat.zero_le _, rfl, ⟨by decide, by decide⟩, ⟨by decide, by decide⟩, ⟨by decide, by decide⟩, by simp [sumL, V3], (Blk.new _ _ _).alloc _, by have := Blk.new (w.alloc (.cells #[.int .u64 0, .int .u64 0, .int .u64 0] 45)) 45 #[.int .u64 0, .int .u64 0, .int .u64 0]; simpa using this, bel_alloc (bel_alloc (Below.refl _ _) _) _⟩
  case round =>
    obtain ⟨k, h, m, l, hk, rfl, wh, wm, wl, hv, B0, B1, HB⟩ := hrel
    have HV := Lib.hid hv
    clear hv
    by_cases hlt : k < n
    · have hlt' : k < ps.length := by rw [HN.out]; exact hlt
      have hp : ps[k]? = some ps[k] := List.getElem?_eq_getElem hlt'
      have ht := List.take_succ_eq_append_getElem hlt'
      obtain ⟨wp1, wp2⟩ := HW.out _ (List.getElem_mem hlt')
      obtain ⟨c1, c2⟩ := HC.out k _ hp
      have eA := HA.out (by omega)
      have hbw := HBB.out (by omega)
      generalize ps[k] = p at *
      obtain ⟨ph, pl⟩ := p
      have d1 : wr.cell? ⟨b, off + k * 2, none⟩ = some (.int .u64 ph) := (HB.out.cell (p := ⟨b, off + k * 2, none⟩) hbw).trans c1
      have d2 : wr.cell? ⟨b, off + k * 2 + 1, none⟩ = some (.int .u64 pl) := (HB.out.cell (p := ⟨b, off + k * 2 + 1, none⟩) hbw).trans c2
      have HT := Lib.hid ht
      subst eA
      have z := B1.lt
      clear hp c1 c2 ht
      go_upto_region 5 with fail
      have C0 := B0.alloc (.cells #[.int .u64 ph, .int .u64 pl] 24)
      have C1 := B1.alloc (.cells #[.int .u64 ph, .int .u64 pl] 24)
      have C2 := Blk.new wr 24 #[.int .u64 ph, .int .u64 pl]
      have HW1 : Hid (Below w.heap.size w (wr.alloc (.cells #[.int .u64 ph, .int .u64 pl] 24))) := bel_alloc HB.out _
      have zz : w.heap.size + 1 < wr.heap.size := z
      clear d1 d2 B0 B1 HB
      generalize wr.alloc (.cells #[.int .u64 ph, .int .u64 pl] 24) = W at *
      generalize wr.heap.size = g at *
      have a0 : W.cell? ⟨w.heap.size + 1, 0, none⟩ = some (.int .u64 h) := C1.cell 0
      have a1 : W.cell? ⟨w.heap.size + 1, 1, none⟩ = some (.int .u64 m) := C1.cell 1
      have a2 : W.cell? ⟨w.heap.size + 1, 2, none⟩ = some (.int .u64 l) := C1.cell 2
      have a3 : W.cell? ⟨g, 0, none⟩ = some (.int .u64 ph) := C2.cell 0
      have a4 : W.cell? ⟨g, 1, none⟩ = some (.int .u64 pl) := C2.cell 1
      have zW := C1.lt
      have f0 := C1.frozen 0
      have f1 := C1.frozen 1
      have f2 := C1.frozen 2
      go_region_with
        (first
          | (go_at_call 52; refine (widen_any ph pl _).mono ?_; rintro e w' ⟨rfl, hbc⟩; have hWw : Below W.heap.size W w' := bel_trans (by first | exact Below.refl _ _ | exact bel_drew (Below.refl _ _)) hbc; have D1 := C1.below hWw C1.lt; have s0 : w'.cell? ⟨w.heap.size + 1, 0, none⟩ = some (.int .u64 h) := D1.cell 0; have s1 : w'.cell? ⟨w.heap.size + 1, 1, none⟩ = some (.int .u64 m) := D1.cell 1; have s2 : w'.cell? ⟨w.heap.size + 1, 2, none⟩ = some (.int .u64 l) := D1.cell 2; have s3 := D1.frozen 0; have s4 := D1.frozen 1; have s5 := D1.frozen 2)
          | (go_at_call 40; refine (add3 h m l 0 ph pl wh wm wl ⟨by decide, by decide⟩ wp1 wp2 _).mono ?_; rintro e w'' ⟨v, ⟨h6, m6, l6, b6, hh6, hm6, hl6, hb60, hb61, hv6, rfl⟩, rfl, hbd⟩; have HV6 := Lib.hid hv6; clear hv6; have hWx : Below W.heap.size W w'' := bel_trans (by first | exact hWw | exact bel_drew hWw) hbd; have E1 := C1.below hWx C1.lt; have x0 : w''.cell? ⟨w.heap.size + 1, 0, none⟩ = some (.int .u64 h) := E1.cell 0; have x1 : w''.cell? ⟨w.heap.size + 1, 1, none⟩ = some (.int .u64 m) := E1.cell 1; have x2 : w''.cell? ⟨w.heap.size + 1, 2, none⟩ = some (.int .u64 l) := E1.cell 2; have x3 := E1.frozen 0; have x4 := E1.frozen 1; have x5 := E1.frozen 2))
      all_goals
        have E0 := C0.below hWx C0.lt
        have N1 := ((E1.set_ 0 (.int .u64 h6)).set_ 1 (.int .u64 m6)).set_ 2 (.int .u64 l6)
        have N0 := ((E0.far (p := ⟨w.heap.size + 1, 0, none⟩) (by simp) (.int .u64 h6)).far (p := ⟨w.heap.size + 1, 1, none⟩) (by simp) (.int .u64 m6)).far (p := ⟨w.heap.size + 1, 2, none⟩) (by simp) (.int .u64 l6)
        have N2 : Hid (Below w.heap.size w (((w''.setCell ⟨w.heap.size + 1, 0, none⟩ (.int .u64 h6)).setCell ⟨w.heap.size + 1, 1, none⟩ (.int .u64 m6)).setCell ⟨w.heap.size + 1, 2, none⟩ (.int .u64 l6))) :=
          bel_set (bel_set (bel_set (HW1.out.trans (hWx.mono HW1.out.size)) (by simp) _) (by simp) _) (by simp) _
        have N3 : Hid (V3 h6 m6 l6 = sumL (ps.take (k + 1)) % 6277101735386680763835789423207666416102355444464034512896) := by
          show _ = _
          rw [HT.out, sumL_snoc]
          exact sum_step hh6 hm6 hl6 hb60 HV.out HV6.out
        simp at N1
        generalize ((w''.setCell ⟨w.heap.size + 1, 0, none⟩ (.int .u64 h6)).setCell ⟨w.heap.size + 1, 1, none⟩ (.int .u64 m6)).setCell ⟨w.heap.size + 1, 2, none⟩ (.int .u64 l6) = wz at *
        clear hbd hWx E0 E1 x0 x1 x2 x3 x4 x5 a0 a1 a2 a3 a4 f0 f1 f2 C0 C1 C2 HV HV6
        go_wp2
        go_roundw
        case rel => exact ⟨k + 1, h6, m6, l6, by omega, by go_num, hh6, hm6, hl6, N3.out, N0, N1, N2⟩
        case measure => simp [intOf]; omega
    · have hkn : k = n := by omega
      subst hkn
      have ht : ps.take k = ps := List.take_of_length_le (by rw [HN.out]; omega)
      have HV2 : Hid (V3 h m l = sumL ps % 6277101735386680763835789423207666416102355444464034512896) := by
        show _ = _
        rw [HV.out, ht]
      have fin : Is3 (sumL ps % 6277101735386680763835789423207666416102355444464034512896) (.agg #[.int .u64 h, .int .u64 m, .int .u64 l]) := ⟨_, _, _, wh, wm, wl, HV2.out, rfl⟩
      have a0 : wr.cell? ⟨w.heap.size + 1, 0, none⟩ = some (.int .u64 h) := B1.cell 0
      have a1 : wr.cell? ⟨w.heap.size + 1, 1, none⟩ = some (.int .u64 m) := B1.cell 1
      have a2 : wr.cell? ⟨w.heap.size + 1, 2, none⟩ = some (.int .u64 l) := B1.cell 2
      have b0 : wr.cell? ⟨w.heap.size, 0, none⟩ = some (.int .u64 0) := B0.cell 0
      have b1 : wr.cell? ⟨w.heap.size, 1, none⟩ = some (.int .u64 0) := B0.cell 1
      have b2 : wr.cell? ⟨w.heap.size, 2, none⟩ = some (.int .u64 0) := B0.cell 2
      have f0 := B0.frozen 0
      have f1 := B0.frozen 1
      have f2 := B0.frozen 2
      clear ht HV HV2 B0 B1 HC HN HW
      go_wp2
      refine bodyPost_ret (by simp [results, Try.results42, go_sem, b0, b1, b2]) rfl ⟨_, fin, rfl, ?_⟩
      exact bel_set (bel_set (bel_set HB.out (by simp) _) (by simp) _) (by simp) _
end Go.Proofs.Ytbpgallhlfjgjaa
