/-
  Contract of nat's mulAdd: a number times a word, and a word more, in the number's own memory. Conditions: at most 2^20 words, each of 32 bits; the memory is the caller's own.
-/
import Derived.Test.YtckeajjlkpjgjaaDoorNpow
import Derived.Laws.OwnMore
namespace Go.Proofs.YtckeajjlkpjgjaaDoor
open Go.RowKit

theorem map_set (us : List Int) (i : Nat) (x : Int) : (us.map (Value.int .u32)).set i (.int .u32 x) = (us.set i x).map (Value.int .u32) := by rw [List.map_set]

/-- So many words have been multiplied; the carry. -/
structure MaTo (us zs : List Int) (f c0 : Int) (k : Nat) (cr : Int) : Prop where
  len : zs.length = us.length
  all : AllW zs
  eq : nv (zs.take k) + 2 ^ (32 * k) * cr = nv (us.take k) * f + c0
  same : ∀ j, k ≤ j → zs.getD j 0 = us.getD j 0
  car : W32 cr
theorem MaTo.next {us zs : List Int} {f c0 y : Int} {k : Nat} {cr : Int} (h : MaTo us zs f c0 k cr) (hk : k < us.length) (hf : W32 f) (hy : W32 y) (ey : us.getD k 0 = y) :
    MaTo us (zs.set k (low32 (y * f + cr))) f c0 (k + 1) (car32 (y * f + cr)) := by
  obtain ⟨h1, h2, h3, h4, h5⟩ := h
  have pb := prod_bd hf hy
  refine ⟨by rw [List.length_set, h1], h2.set _ (w32_low _), ?_, fun j hj => ?_, ?_⟩
  · rw [nv_take_succ, nv_take_succ, take_set, getD_set _ _ _ (by omega), ey, pow32]
    have e2 := mul_car (2 ^ (32 * k)) (car_low (y * f + cr))
    rw [Int.mul_add] at e2
    rw [Int.add_mul, Int.mul_assoc _ y f]
    omega
  · rw [getD_set_ne _ _ _ _ (by omega)]
    exact h4 j (by omega)
  · obtain ⟨_, _⟩ := h5
    constructor <;> unfold car32 <;> omega

/-- What mulAdd hands back. -/
def RetMa (v : Int) (n base : Nat) (w : World) (e : Ending) (w' : World) : Prop :=
  ∃ (zs : List Int) (m : Nat) (u : Value), nv zs = v ∧ AllW zs ∧ m ≤ n + 1 ∧ e = .returned u ∧ w'.ownsRow base 67 1 u m (zs.map (Value.int .u32)) ∧ Below base w w' ∧ w.heap.size ≤ w'.heap.size

set_option maxHeartbeats 3200000 in
theorem mulAdd_any (A : Option Addr) (n c base : Nat) (us : List Int) (f c0 : Int) (w : World) (own : w.ownsRow base 67 1 (.slice A n c) n (us.map (Value.int .u32))) (hbase : base ≤ w.heap.size) (hu : AllW us) (hf : W32 f) (hc : W32 c0) (ln : n ≤ 1048576) :
    Calls Tryd.prog 59 #[.slice A n c, .int .u32 f, .int .u32 c0] w (RetMa (nv us * f + c0) n base w) := by
  obtain ⟨i0, hi, hz0, hz1, hz2⟩ := info_parts u32_info
  have HI := Lib.hid hi
  have HZ0 := Lib.hid hz0
  have HZ1 := Lib.hid hz1
  have HZ2 := Lib.hid hz2
  have HL : Hid (us.length = n) := by have := own.1; show _ = _; simpa using this
  obtain ⟨f0, f1⟩ := id hf
  obtain ⟨v, hv⟩ : ∃ v, nv us * f + c0 = v := ⟨_, rfl⟩
  rw [hv]
  have HV := Lib.hid hv
  clear hi hz0 hz1 hz2 hv
  go_enter Tryd.func59, Tryd.ntmps59
  go_wp2_with fail
  go_loopw [2, 11] (fun s2 s11 wr => ∃ (k : Nat) (zs : List Int) (cr : Int), s2 = .int .u32 cr ∧ s11 = .int .i64 (k : Int) ∧ k ≤ n ∧ MaTo us zs f c0 k cr ∧ wr.ownsRow base 67 1 (.slice A n c) n (zs.map (Value.int .u32)) ∧ Hid (Below base w wr) ∧ w.heap.size ≤ wr.heap.size) (fun _ s11 _ => n - (intOf s11).toNat)
  case atStart => exact ⟨0, us, c0, rfl, rfl, Nat.zero_le _, ⟨rfl, hu, by simp [nv], fun _ _ => rfl, hc⟩, own, Below.refl _ _, Nat.le_refl _⟩
  case round =>
    clear own
    obtain ⟨k, zs, cr, rfl, rfl, hk, T, own, HB, hsz⟩ := hrel
    have cw := T.car
    by_cases hlt : k < n
    · obtain ⟨g, cap, hform⟩ : ∃ g cap, (Value.slice A n c) = .slice (some ⟨g, 0, none⟩) n cap := by
        rcases own.2 with ⟨e, e2⟩ | ⟨g, cap, cur, e, _⟩
        · omega
        · exact ⟨g, cap, e⟩
      injection hform with hA hn2 hc2
      subst hA hc2
      have wy := hu.getD k
      have TN := Lib.hid (T.next (by rw [HL.out]; exact hlt) hf wy rfl)
      have q0 : wr.cell? ⟨g, k, none⟩ = some (.int .u32 (us.getD k 0)) := by
        rw [own.cellAt k (by omega), List.getElem?_map, ← T.same k (Nat.le_refl _), List.getD_eq_getElem?_getD, List.getElem?_eq_getElem (by rw [T.len, HL.out]; exact hlt)]
        rfl
      have q1 := own.frozenAt k
      have hgb : base ≤ g := by
        rcases own.2 with ⟨e, _⟩ | ⟨g', cap', cur, e, hb, _⟩
        · cases e
        · injection e with e
          injection e with e
          injection e with e
          omega
      generalize us.getD k 0 = y at *
      obtain ⟨pb0, pb1⟩ := prod_bd hf wy
      obtain ⟨c0', c1'⟩ := cw
      obtain ⟨y0, y1⟩ := wy
      have own2 := (own.stored k (.int .u32 (low32 (y * f + cr)))).1
      rw [map_set] at own2
      have HB2 : Hid (Below base w (wr.setCell ⟨g, k, none⟩ (.int .u32 (low32 (y * f + cr))))) := HB.out.setCell hgb _
      have hsz2 : w.heap.size ≤ (wr.setCell ⟨g, k, none⟩ (.int .u32 (low32 (y * f + cr)))).heap.size := by simpa [World.setCell] using hsz
      have e1 : (y * f + cr) % 4294967296 = low32 (y * f + cr) := rfl
      have e2 : (y * f + cr) / 4294967296 = car32 (y * f + cr) := rfl
      have s0 : 0 ≤ y * f + cr := by omega
      have s1 : y * f + cr ≤ 18446744073709551615 := by omega
      have hl1 : (k : Int) < (n : Int) := by omega
      have wc' : car32 (y * f + cr) < 4294967296 ∧ 0 ≤ car32 (y * f + cr) := by unfold car32; omega
      generalize low32 (y * f + cr) = l at *
      generalize car32 (y * f + cr) = c' at *
      clear T own HB
      go_wp2_with fail
      go_roundw
      case rel => exact ⟨k + 1, _, c', rfl, by go_num, by omega, TN.out, own2, HB2, hsz2⟩
      case measure => simp [intOf]; omega
    · have ek : k = n := by omega
      subst ek
      have FIN : Hid (nv zs + 2 ^ (32 * k) * cr = v) := by
        show _ = _
        have e := T.eq
        rw [List.take_of_length_le (by rw [T.len, HL.out]; exact Nat.le_refl _), List.take_of_length_le (by rw [HL.out]; exact Nat.le_refl _), HV.out] at e
        exact e
      have ha := T.all
      have HLz : Hid (zs.length = k) := T.len.trans HL.out
      clear T
      by_cases h0 : cr = 0
      · subst h0
        have F2 : Hid (nv zs = v) := by show _ = _; have := FIN.out; rw [Int.mul_zero] at this; omega
        clear FIN
        go_wp2_with fail
        go_ret
        exact ⟨zs, k, _, F2.out, ha, by omega, rfl, own, HB.out, hsz⟩
      · have h1 : (cr != 0) = true := by simp; exact h0
        have h2 : (cr == 0) = false := by simp; exact h0
        have F2 : Hid (nv (zs ++ [cr]) = v) := by show _ = _; rw [nv_snoc, HLz.out]; exact FIN.out
        have ha2 : AllW (zs ++ [cr]) := ha.append (AllW.cons cw AllW.nil)
        clear FIN h0
        go_wp2_with (at_builtin; refine wpList_append_own _ rfl _ _ 23 rfl base 67 i0 (.int .u32 0) 1 4 Tryd.underlying23 HI.out HZ0.out HZ1.out HZ2.out rfl (by decide) _ _ _ rfl (own.alloc _) ⟨wr.heap.size, 0, none⟩ 1 1 [_] rfl rfl (cell_one_new _ _ _) ?c2 ?c3 ?c4 ?c5 ?_)
        case c2 => intro u hu; simp at hu; subst hu; rfl
        case c3 => unfold maxLen; omega
        case c4 => omega
        case c5 => simp; omega
        intro v' w1 own' hgrow hnil
        clear hnil
        have HB2 := Lib.hid (own_grown1 (HB.out.alloc (by omega) _) (by simp; omega) (own.alloc _) hgrow)
        have hsz2 : w.heap.size ≤ w1.heap.size := by have := hgrow.size; simp at this; omega
        have own2 : w1.ownsRow base 67 1 v' (k + 1) ((zs ++ [cr]).map (Value.int .u32)) := by rw [List.map_append]; exact own'
        clear own' hgrow own HB
        go_wp2_with fail
        go_ret
        exact ⟨zs ++ [cr], k + 1, v', F2.out, ha2, Nat.le_refl _, rfl, own2, HB2.out, hsz2⟩
end Go.Proofs.YtckeajjlkpjgjaaDoor
