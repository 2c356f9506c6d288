/-
  The contract of the reference's Of: words as a row of bits. Conditions: fewer than 2^20 words, each of 64 bits.
-/
import Derived.Test.YtaollppieonmbaaDoorRsub
import Derived.WalkSmall
namespace Go.Proofs.YtaollppieonmbaaDoor
open Go.RowKit
set_option maxRecDepth 100000

/-- The number of words, the least one first. -/
def wv : List Int → Int
  | [] => 0
  | x :: r => x + 18446744073709551616 * wv r
theorem wv_append : ∀ (xs ys : List Int), wv (xs ++ ys) = wv xs + 2 ^ (64 * xs.length) * wv ys
  | [], ys => by simp [wv]
  | x :: r, ys => by
    simp only [List.cons_append, wv, wv_append r ys, List.length_cons]
    have e : (2 : Int) ^ (64 * (r.length + 1)) = 18446744073709551616 * 2 ^ (64 * r.length) := by
      rw [show 64 * (r.length + 1) = 64 + 64 * r.length by omega, Int.pow_add]
      rfl
    rw [e, Int.mul_add, Int.mul_assoc]
    omega
theorem mod_bit (x : Int) (j : Nat) : x % 2 ^ (j + 1) = x % 2 ^ j + if x / 2 ^ j % 2 = 1 then 2 ^ j else 0 := by
  have hp := pow_pos' j
  have e : x % 2 ^ (j + 1) = x % 2 ^ j + 2 ^ j * (x / 2 ^ j % 2) := by
    rw [Int.pow_succ]
    have k1 := Int.mul_ediv_add_emod x (2 ^ j * 2)
    have k2 := Int.mul_ediv_add_emod x (2 ^ j)
    have k3 := Int.mul_ediv_add_emod (x / 2 ^ j) 2
    rw [Int.ediv_ediv_of_nonneg (Int.le_of_lt hp)] at k3
    rw [← k3, Int.mul_add, ← Int.mul_assoc] at k2
    omega
  rw [e]
  split
  · rename_i h
    rw [h, Int.mul_one]
  · rename_i h
    have : x / 2 ^ j % 2 = 0 := by omega
    rw [this, Int.mul_zero]
theorem word_mod64 {x : Int} (h : Word x) : x % 2 ^ 64 = x := Int.emod_eq_of_lt h.1 h.2

/-- The slice's address leads to the words ws. -/
def RdW (w : World) (A : Option Addr) (ws : List Int) : Prop :=
  ws = [] ∨ ∃ g off, A = some ⟨g, off, none⟩ ∧ g < w.heap.size ∧ ∀ i x, ws[i]? = some x → w.cell? ⟨g, off + i, none⟩ = some (.int .u64 x)

/-- What Of hands back. -/
def IsOf (ws : List Int) (zs : List Bool) : Prop := val zs = wv ws ∧ zs.length = 64 * ws.length

/-- So many bits of the word x behind the words before. -/
structure OfTo (ws : List Int) (i : Nat) (x : Int) (zs : List Bool) (j : Nat) : Prop where
  len : zs.length = 64 * i + j
  eq : val zs = wv (ws.take i) + 2 ^ (64 * i) * (x % 2 ^ j)
theorem OfTo.next {ws : List Int} {i : Nat} {x : Int} {zs : List Bool} {j : Nat} (h : OfTo ws i x zs j) (b : Bool) (hb : decide (x / 2 ^ j % 2 = 1) = b) : OfTo ws i x (zs ++ [b]) (j + 1) := by
  obtain ⟨h1, h2⟩ := h
  refine ⟨by simp [h1]; omega, ?_⟩
  rw [val_snoc, mod_bit, h2, h1, Int.mul_add, Int.pow_add, ← hb]
  by_cases hx : x / 2 ^ j % 2 = 1
  · simp [hx]
    omega
  · simp [hx]
theorem OfTo.done {ws : List Int} {i : Nat} {x : Int} {zs : List Bool} (h : OfTo ws i x zs 64) (hi : i < ws.length) (hx : ws[i]? = some x) (hw : Word x) : val zs = wv (ws.take (i + 1)) := by
  have e : ws[i] = x := by rw [List.getElem?_eq_getElem hi] at hx; injection hx
  rw [h.eq, word_mod64 hw, List.take_succ_eq_append_getElem hi, wv_append, List.length_take, Nat.min_eq_left (by omega), e]
  simp [wv]

set_option maxHeartbeats 3200000 in
theorem rof_any (A : Option Addr) (n c : Nat) (ws : List Int) (w : World) (hn : ws.length = n) (hx : RdW w A ws) (hw : ∀ x ∈ ws, Word x) (ln : n ≤ 1048576) :
    Calls Tryd.prog 34 #[.slice A n c] w (RetRow (IsOf ws) w) := by
  obtain ⟨i0, hi, hz0, hz1, hz2⟩ := info_parts bool_info
  have HN := Lib.hid hn
  have HW := Lib.hid hw
  have HI := Lib.hid hi
  have HZ0 := Lib.hid hz0
  have HZ1 := Lib.hid hz1
  have HZ2 := Lib.hid hz2
  clear hn hi hz0 hz1 hz2 hw
  go_enter Tryd.func34, Tryd.ntmps34
  go_wp2_with fail
  go_loopw [3, 4, 5] (fun s3 s4 _ wr => ∃ (i : Nat) (zs : List Bool), s4 = .int .i64 (i : Int) ∧ i ≤ n ∧ Hid (zs.length = 64 * i) ∧ Hid (val zs = wv (ws.take i)) ∧ wr.ownsRow w.heap.size 4 1 s3 zs.length (zs.map Value.bool) ∧ Hid (Below w.heap.size w wr)) (fun _ s4 _ _ => n - (intOf s4).toNat)
  case atStart => exact ⟨0, [], rfl, Nat.zero_le _, rfl, by show _ = _; simp [wv, val], ⟨rfl, .inl ⟨rfl, rfl⟩⟩, Below.refl _ _⟩
  case round =>
    obtain ⟨i, zs, rfl, hin, HL, HV, own, HB⟩ := hrel
    by_cases hlt : i < n
    · have hlt' : i < ws.length := by rw [HN.out]; exact hlt
      obtain ⟨x, hxi⟩ : ∃ x, ws[i]? = some x := ⟨ws[i], List.getElem?_eq_getElem hlt'⟩
      have wx : Word x := HW.out x (List.mem_of_getElem? hxi)
      obtain ⟨g, off, rfl, hg, hcell⟩ : ∃ g off, A = some ⟨g, off, none⟩ ∧ g < w.heap.size ∧ w.cell? ⟨g, off + i, none⟩ = some (.int .u64 x) := by
        rcases hx with h | ⟨g, off, e, hg, hc⟩
        · subst h; simp at hlt'
        · exact ⟨g, off, e, hg, hc i x hxi⟩
      have HXI := Lib.hid hxi
      have hi' : (i : Int) < (n : Int) := by omega
      clear hxi hlt'
      go_wp2_with fail
      go_loopw [3, 5] (fun s3 s5 wq => ∃ (j : Nat) (zs : List Bool), s5 = .int .i64 (j : Int) ∧ j ≤ 64 ∧ OfTo ws i x zs j ∧ wq.ownsRow w.heap.size 4 1 s3 zs.length (zs.map Value.bool) ∧ Hid (Below w.heap.size w wq)) (fun _ s5 _ => 64 - (intOf s5).toNat)
      case atStart => exact ⟨0, zs, rfl, by omega, ⟨by rw [HL.out]; rfl, by rw [HV.out]; simp⟩, own, HB⟩
      case round =>
        clear own HB HV HL
        obtain ⟨j, zs, rfl, hj, T, own, HB⟩ := hrel
        have hl := T.len
        have hcr : wr.cell? ⟨g, off + i, none⟩ = some (.int .u64 x) := (HB.out.cell (p := ⟨g, off + i, none⟩) hg).trans hcell
        have hg' : g < wr.heap.size := Nat.lt_of_lt_of_le hg HB.out.size
        by_cases hj' : j < 64
        · obtain ⟨b, hb⟩ : ∃ b : Bool, decide (x / 2 ^ j % 2 = 1) = b := ⟨_, rfl⟩
          have T2 := T.next b hb
          have rb : (bits BinOp.and IntKind.u64 (x / 2 ^ j) 1 == 1) = b := by
            have wd := word_div wx j
            rw [and_one_u64 _ wd.1 (by have := wd.2; omega), ← hb]
            rfl
          have hlb : zs.length + 1 ≤ 67108865 := by omega
          clear T hb hl
          generalize hmz : zs.length = m at *
          have HMZ := Lib.hid hmz
          clear hmz
          go_wp2_with (at_builtin; refine wpList_append_own _ rfl _ _ 28 rfl w.heap.size 4 i0 (.bool false) 1 1 Tryd.underlying28 HI.out HZ0.out HZ1.out HZ2.out rfl (by decide) _ _ _ rfl (own.alloc _) ⟨wr.heap.size, 0, none⟩ 1 1 [_] rfl rfl (cell_one_new _ _ _) ?c2 ?c3 ?c4 ?c5 ?_)
          case c2 => intro u hu; simp at hu; subst hu; rfl
          case c3 => unfold maxLen; omega
          case c4 => omega
          case c5 => have := HB.out.size; simp; omega
          intro v' w1 own' hgrow hnil
          clear hnil
          have HB' := Lib.hid (own_grown HB.out own hgrow)
          have own2 := own_snoc own'
          clear own' hgrow own HB hcr
          have own3 : w1.ownsRow w.heap.size 4 1 v' (zs ++ [b]).length ((zs ++ [b]).map Value.bool) := by
            have e : (zs ++ [b]).length = m + 1 := by rw [List.length_append, HMZ.out]; rfl
            rw [e]
            exact own2
          clear own2 rb
          go_wp2_with fail
          go_roundw
          case rel => exact ⟨j + 1, zs ++ [b], by go_num, by omega, T2, own3, HB'⟩
          case measure => simp [intOf]; omega
        · have ej : j = 64 := by omega
          subst ej
          have D := Lib.hid (T.done (by rw [HN.out]; exact hlt) HXI.out wx)
          have HL2 : Hid (zs.length = 64 * (i + 1)) := by show _ = _; omega
          clear T hl
          go_wp2_with fail
          go_roundw
          case rel => exact ⟨i + 1, zs, by go_num, by omega, HL2, D, own, HB⟩
          case measure => simp [intOf]; omega
    · have ei : i = n := by omega
      subst ei
      have ht : ws.take i = ws := List.take_of_length_le (by rw [HN.out]; omega)
      have fin : IsOf ws zs := ⟨by rw [HV.out, ht], by rw [HL.out, HN.out]⟩
      clear ht HV HL
      obtain ⟨A', c', rfl, hc', hm', hr'⟩ := own_row own
      clear own
      go_wp2_with fail
      go_ret
      exact ⟨zs, A', c', fin, rfl, hc', hm', hr', HB.out⟩
end Go.Proofs.YtaollppieonmbaaDoor
