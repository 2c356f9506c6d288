/-
  The contract of the reference's Div on rows of bits: quotient and what is left. Conditions: the rows have at most 2^20 bits; the divisor's number is not nought.
-/
import Derived.Test.YtaollppieonmbaaDoorRsubF
import Derived.Test.YtaollppieonmbaaDoorRmul
namespace Go.Proofs.YtaollppieonmbaaDoor
open Go.RowKit

/-- The cells of a row that was made. -/
def rowArr (rs : List Bool) : Array Value := (rs.map Value.bool).toArray
theorem rowArr_made (n : Nat) : madeCells #[Value.bool false] n = rowArr (List.replicate n false) := by
  apply Array.ext'
  rw [toList_madeCells_one]
  simp [rowArr]
theorem rowArr_set (rs : List Bool) (i : Nat) (b : Bool) : (rowArr rs).setIfInBounds i (.bool b) = rowArr (rs.set i b) := by
  simp [rowArr, List.map_set]
theorem rowArr_get (rs : List Bool) (i : Nat) (h : i < rs.length) : (rowArr rs)[i]? = some (.bool (rs.getD i false)) := by
  unfold rowArr
  rw [List.getElem?_toArray, List.getElem?_map, List.getD_eq_getElem?_getD, List.getElem?_eq_getElem h]
  rfl
theorem Blk.row {w : World} {g : Nat} {rs : List Bool} (h : Blk w g 4 (rowArr rs)) : Rd w (some ⟨g, 0, none⟩) rs := by
  refine .inr ⟨g, 0, rfl, h.typed, fun i b hi => ?_⟩
  have hl : i < rs.length := by
    rcases Nat.lt_or_ge i rs.length with h | h
    · exact h
    · rw [List.getElem?_eq_none h] at hi; cases hi
  rw [h.cell (0 + i), Nat.zero_add, rowArr_get rs i hl, List.getD_eq_getElem?_getD, hi]
  rfl
theorem val_set : ∀ (rs : List Bool) (i : Nat), i < rs.length → rs.getD i false = false → val (rs.set i true) = val rs + 2 ^ i
  | [], i, h, _ => by simp at h
  | b :: r, 0, _, h => by
    simp at h
    subst h
    simp [val]
    omega
  | b :: r, i + 1, h, hb => by
    have := val_set r i (by simpa using h) (by simpa using hb)
    simp only [List.set_cons_succ, val, this, Int.pow_succ]
    omega
theorem run_make_bools (N : Int) (n : Nat) (hN : N = (n : Int)) (hn : n ≤ 1099511627776) (rs : List Bool) (hr : rs = List.replicate n false) (w : World) :
    (Instr.makeSlice 28 (.int .i64 N) (.int .i64 N)).run Tryd.prog w = .ok (.slice (some ⟨w.heap.size, 0, none⟩) n n) (w.alloc (.cells (rowArr rs) 4)) := by
  obtain ⟨i0, hi, hz0, hz1, hz2⟩ := info_parts bool_info
  subst hN hr
  have h := run_make (P := Tryd.prog) w 28 4 i0 (.bool false) Tryd.underlying28 hi hz0 .i64 .i64 (n : Int) (n : Int) (by omega) (by omega) (by rw [hz2]; omega) (by omega)
  rw [Int.toNat_natCast, hz1, Nat.mul_one] at h
  rw [← rowArr_made]
  exact h

theorem val_take_small {ys : List Bool} {n : Nat} (h : val ys < 2 ^ n) : val (ys.take n) = val ys := by
  rcases Nat.lt_or_ge ys.length n with hl | hl
  · rw [List.take_of_length_le (by omega)]
  · rw [(val_drop ys n hl).2, Int.emod_eq_of_lt (val_nonneg ys) h]

/-- A call came back with two rows of which P holds; nothing that was there has changed. -/
def RetRow2 (P : List Bool → List Bool → Prop) (w : World) (e : Ending) (w' : World) : Prop := ∃ (xs ys : List Bool) (A B : Option Addr) (c d : Nat), P xs ys ∧ e = .returned (.tuple #[.slice A xs.length c, .slice B ys.length d]) ∧ xs.length ≤ c ∧ ys.length ≤ d ∧ Rd w' A xs ∧ Rd w' B ys ∧ Below w.heap.size w w'
/-- The quotient's bits from k on are found; r is what is left of the dividend's bits from k on. -/
def DivTo (a b q r : Int) (k : Nat) : Prop := ∃ Q, q = Q * 2 ^ k ∧ Q * b + r = a / 2 ^ k ∧ 0 ≤ r ∧ r < b
theorem div_bit (xs : List Bool) (i : Nat) (h : i < xs.length) : val xs / 2 ^ i = (if xs.getD i false then 1 else 0) + 2 * (val xs / 2 ^ (i + 1)) := by
  rw [← (val_drop xs i (by omega)).1, ← (val_drop xs (i + 1) (by omega)).1, val_tail (xs.drop i), getD_drop, Nat.add_zero, List.tail_drop]
theorem DivTo.yes {xs : List Bool} {b q r : Int} {i : Nat} (h : DivTo (val xs) b q r (i + 1)) (hi : i < xs.length) (x : Bool) (hx : xs.getD i false = x) (hc : b ≤ (if x then 1 else 0) + 2 * r) : DivTo (val xs) b (q + 2 ^ i) ((if x then 1 else 0) + 2 * r - b) i := by
  obtain ⟨Q, e1, e2, r0, r1⟩ := h
  have e := div_bit xs i hi
  rw [hx] at e
  refine ⟨2 * Q + 1, ?_, ?_, by omega, ?_⟩
  · rw [e1, Int.pow_succ, Int.add_mul, ← Int.mul_assoc, Int.mul_comm 2 Q, Int.mul_right_comm]
    omega
  · rw [e, ← e2, Int.add_mul, Int.mul_assoc]
    omega
  · cases x <;> simp at * <;> omega
theorem DivTo.no {xs : List Bool} {b q r : Int} {i : Nat} (h : DivTo (val xs) b q r (i + 1)) (hi : i < xs.length) (x : Bool) (hx : xs.getD i false = x) (hc : ¬ b ≤ (if x then 1 else 0) + 2 * r) : DivTo (val xs) b q ((if x then 1 else 0) + 2 * r) i := by
  obtain ⟨Q, e1, e2, r0, r1⟩ := h
  have e := div_bit xs i hi
  rw [hx] at e
  refine ⟨2 * Q, ?_, ?_, ?_, by omega⟩
  · rw [e1, Int.pow_succ, ← Int.mul_assoc, Int.mul_comm 2 Q, Int.mul_right_comm]
  · rw [e, ← e2, Int.mul_assoc]
    omega
  · cases x <;> simp <;> omega
theorem cmp_ge {a b : Int} (h : b ≤ a) : decide (0 ≤ cmpI a b) = true := by
  simp only [decide_eq_true_eq]
  unfold cmpI
  split <;> (try split) <;> omega
theorem cmp_nge {a b : Int} (h : ¬ b ≤ a) : decide (0 ≤ cmpI a b) = false := by
  simp only [decide_eq_false_iff_not]
  unfold cmpI
  split <;> (try split) <;> omega
theorem blen_bound {v : Int} {m : Nat} (h0 : 0 ≤ v) (h1 : v < 2 ^ m) : ∃ L : Nat, blen v = (L : Int) ∧ L ≤ m ∧ v < 2 ^ L := by
  obtain ⟨k, e, lt, ge, z⟩ := blen_spec h0
  refine ⟨k, e, ?_, lt⟩
  rcases Int.lt_or_le 0 v with h | h
  · have g := (ge h).1
    rcases Nat.lt_or_ge m k with hk | hk
    · exfalso
      have := pow_mono m (k - 1) (by omega)
      omega
    · exact hk
  · rw [z (by omega)]
    omega
/-- A slice of one cell that was just built is a row of the call's own. -/
theorem own_one (wr : World) (x : Bool) : (wr.alloc (.cells #[.bool x] 4)).ownsRow wr.heap.size 4 1 (.slice (some ⟨wr.heap.size, 0, none⟩) 1 1) 1 ([x].map Value.bool) :=
  ⟨rfl, .inr ⟨wr.heap.size, 1, #[.bool x], rfl, Nat.le_refl _, heap_alloc_new wr _, Nat.le_refl _, by simp [maxLen], rfl, rfl⟩⟩

def IsQuot (a b : Int) (n m : Nat) (qs rs : List Bool) : Prop := val qs * b + val rs = a ∧ 0 ≤ val rs ∧ val rs < b ∧ qs.length = n ∧ rs.length ≤ m

set_option maxHeartbeats 6400000 in
theorem rdiv_any (A B : Option Addr) (n m c d : Nat) (xs ys : List Bool) (w : World) (hn : xs.length = n) (hm : ys.length = m) (hx : Rd w A xs) (hy : Rd w B ys) (ln : n ≤ 1048576) (lm : m ≤ 1048576) (hb : 0 < val ys) :
    Calls Tryd.prog 52 #[.slice A n c, .slice B m d] w (RetRow2 (IsQuot (val xs) (val ys) n m) w) := by
  obtain ⟨i0, hi, hz0, hz1, hz2⟩ := info_parts bool_info
  have HN := Lib.hid hn
  have HM := Lib.hid hm
  have HI := Lib.hid hi
  have HZ0 := Lib.hid hz0
  have HZ1 := Lib.hid hz1
  have HZ2 := Lib.hid hz2
  have hym := val_lt ys
  rw [hm] at hym
  clear hn hm hi hz0 hz1 hz2
  obtain ⟨r0, hr0⟩ : ∃ r0, r0 = List.replicate n false := ⟨_, rfl⟩
  have hmk := run_make_bools (n : Int) n rfl (by omega) r0 hr0
  have HR0 := Lib.hid hr0
  clear hr0
  generalize hvb : val ys = b at *
  have HVB := Lib.hid hvb
  have HYM := Lib.hid hym
  clear hvb hym
  go_enter Tryd.func52, Tryd.ntmps52
  go_wp2_with fail
  clear hmk
  go_loopw [7, 8] (fun s7 s8 wr => ∃ (k z c7 : Nat) (qs rs : List Bool) (A7 : Option Addr), s8 = .int .i64 ((k : Int) - 1) ∧ k ≤ n ∧ s7 = .slice A7 z c7 ∧ z ≤ c7 ∧ z ≤ m ∧ Hid (rs.length = z) ∧ Hid (qs.length = n) ∧ Hid (∀ j, j < k → qs.getD j false = false) ∧ Hid (DivTo (val xs) b (val qs) (val rs) k) ∧ Rd wr A7 rs ∧ Blk wr w.heap.size 4 (rowArr qs) ∧ Hid (Below w.heap.size w wr)) (fun _ s8 _ => (intOf s8 + 1).toNat)
  case atStart =>
    refine ⟨n, 0, 0, r0, [], none, rfl, Nat.le_refl _, rfl, Nat.le_refl _, Nat.zero_le _, rfl, by show _ = _; rw [HR0.out]; simp, ?_, ?_, .inl rfl, Blk.new _ _ _, bel_alloc (Below.refl _ _) _⟩
    · intro j hj
      rw [HR0.out, List.getD_eq_getElem?_getD, List.getElem?_replicate]
      split <;> rfl
    · refine ⟨0, by rw [HR0.out, val_replicate]; simp, ?_, by simp [val], by simpa [val] using hb⟩
      have := val_lt xs
      rw [HN.out] at this
      rw [Int.ediv_eq_zero_of_lt (val_nonneg xs) this]
      simp [val]
  case round =>
    obtain ⟨k, z, c7, qs, rs, A7, rfl, hk, rfl, hz1, hz2, HL, HQ, HZ, HD, hr, BQ, HB⟩ := hrel
    by_cases h0 : k = 0
    · subst h0
      have fin : IsQuot (val xs) b n m qs rs := by
        obtain ⟨Q, e1, e2, e3, e4⟩ := HD.out
        refine ⟨?_, e3, e4, HQ.out, by rw [HL.out]; exact hz2⟩
        rw [e1]
        simpa using e2
      clear HD HZ
      go_wp2_with fail
      go_ret2
      exact ⟨qs, rs, some ⟨w.heap.size, 0, none⟩, A7, n, c7, fin, by rw [HQ.out, HL.out]; rfl, by rw [HQ.out]; exact Nat.le_refl _, by rw [HL.out]; exact hz1, BQ.row, hr, HB.out⟩
    · obtain ⟨i, rfl⟩ : ∃ i, k = i + 1 := ⟨k - 1, by omega⟩
      have e1 : ((i + 1 : Nat) : Int) - 1 = (i : Int) := by omega
      rw [e1]
      clear e1 h0
      have hxr := hx.below HB.out (Nat.le_refl _)
      obtain ⟨g, off, rfl, hg, hcell⟩ := hxr.at_ (i := i) (by rw [HN.out]; omega)
      have hin : (i : Int) < (n : Int) := by omega
      obtain ⟨x, hxi⟩ : ∃ x, xs.getD i false = x := ⟨_, rfl⟩
      rw [hxi] at hcell
      have HXI := Lib.hid hxi
      clear hxi hxr
      have own := own_one wr x
      have hr1 := hr.alloc (.cells #[.bool x] 4)
      go_wp2_with (at_builtin; refine wpList_append_row _ rfl _ _ 28 rfl wr.heap.size 4 i0 (.bool false) Tryd.underlying28 HI.out HZ0.out HZ1.out HZ2.out rfl _ _ _ rfl own A7 c7 z rs HL.out rfl hr1 ?c3 ?c4 (by simp) ?_)
      case c3 => unfold maxLen; omega
      case c4 => omega
      intro v' w1 own' hgrow
      have X1 : Below wr.heap.size wr w1 := (bel_alloc (Below.refl _ _) _).grown hgrow (by simp) (fun g e => by simp [Value.ownBlock] at e; omega)
      obtain ⟨A1, c1, rfl, hc1, hm1, hr2⟩ := own_row (xs := x :: rs) own'
      clear own own' hgrow hr hr1 hcell
      have hlo : (x :: rs).length = z + 1 := by simp [HL.out]
      rw [hlo] at hc1 ⊢
      have HLo := Lib.hid hlo
      have HVo : Hid (val (x :: rs) = (if x then 1 else 0) + 2 * val rs) := by show _ = _; simp [val]
      clear hlo
      have BQ1 := BQ.below X1 BQ.lt
      have D1 := Lib.hid (bel_trans HB.out X1)
      have hy1 := hy.below D1.out (Nat.le_refl _)
      generalize hos : x :: rs = os at *
      clear X1 BQ HB hos
      go_wp2_with fail
      refine (rcmp_any A1 B (z + 1) m c1 d os ys _ HLo.out HM.out hr2 hy1 (by omega) (by omega)).mono ?_
      rw [HVB.out]
      rintro e w2 ⟨rfl, rfl⟩
      have hxl : i < xs.length := by rw [HN.out]; omega
      by_cases hcb : b ≤ (if x then 1 else 0) + 2 * val rs
      · have tc : decide (0 ≤ cmpI (val os) b) = true := cmp_ge (by rw [HVo.out]; exact hcb)
        have DT := Lib.hid (DivTo.yes HD.out hxl x HXI.out hcb)
        have hcv : b ≤ val os := by rw [HVo.out]; exact hcb
        clear hcb HD
        go_wp2_with fail
        refine (rsub_fresh A1 B (z + 1) m c1 d os ys ((z : Int) + 1) _ HLo.out HM.out hr2 hy1 (by omega) (by omega) (by omega) (by omega)).mono ?_
        rw [show ((z : Int) + 1).toNat = z + 1 by omega]
        rintro e w2 ⟨zs, lb, A2, c2, hs, rfl, hc2, hm2, hr3, hfr, hb2⟩
        have ev : val zs = (if x then 1 else 0) + 2 * val rs - b := by
          have e1 := hs.eq
          have n0 := val_nonneg zs
          have n1 := val_lt zs
          have n2 := val_lt os
          rw [hs.len] at n1
          rw [HLo.out] at n2
          rw [List.take_of_length_le (by rw [HLo.out]; exact Nat.le_refl _), val_take_small (by rw [HVB.out]; omega), HVB.out] at e1
          rw [← HVo.out]
          cases lb
          · simp at e1
            omega
          · simp at e1
            omega
        have HLz := Lib.hid hs.len
        rw [hs.len] at hc2 ⊢
        have BQ1lt := BQ1.lt
        have BQ2 := BQ1.below hb2 BQ1.lt
        have D2 := Lib.hid (bel_trans D1.out hb2)
        have DT2 : Hid (DivTo (val xs) b (val qs + 2 ^ i) (val zs) i) := by rw [ev]; exact DT
        clear hs hb2 BQ1 D1 hy1 hr2 DT HVo ev hcv tc
        have hqb := HZ.out i (by omega)
        have q0 : w2.cell? ⟨w.heap.size, i, none⟩ = some (.bool (qs.getD i false)) := (BQ2.cell i).trans (rowArr_get qs i (by rw [HQ.out]; omega))
        have q1 := BQ2.frozen i
        have BQ3 := BQ2.set_ i (.bool true)
        rw [rowArr_set] at BQ3
        have D3 : Hid (Below w.heap.size w (w2.setCell ⟨w.heap.size, i, none⟩ (.bool true))) := bel_set D2.out (Nat.le_refl _) _
        have hvq := val_set qs i (by rw [HQ.out]; omega) hqb
        have HQ3 : Hid ((qs.set i true).length = n) := by show _ = _; rw [List.length_set]; exact HQ.out
        have HZ3 : Hid (∀ j, j < i → (qs.set i true).getD j false = false) := fun j hj => by
          rw [List.getD_eq_getElem?_getD, List.getElem?_set_ne (by omega), ← List.getD_eq_getElem?_getD]
          exact HZ.out j (by omega)
        have DT3 : Hid (DivTo (val xs) b (val (qs.set i true)) (val zs) i) := by rw [hvq]; exact DT2
        have hrz : Rd (w2.setCell ⟨w.heap.size, i, none⟩ (.bool true)) A2 zs := hr3.far (fun a ha => by have := hfr a ha; have := BQ1lt; show w.heap.size ≠ a.block; omega) _
        rw [hqb] at q0
        obtain ⟨Q, _, _, v0, v1⟩ := DT3.out
        obtain ⟨L, hL, hLm, hLv⟩ := blen_bound v0 (show val zs < 2 ^ m by have := HYM.out; omega)
        clear BQ2 D2 hqb hvq DT2
        generalize qs.set i true = qs' at *
        go_wp2_with fail
        generalize w2.setCell ⟨w.heap.size, i, none⟩ (.bool true) = w3 at *
        refine (rlen_any A2 (z + 1) c2 zs _ HLz.out hrz (by omega)).mono ?_
        rw [hL]
        rintro e w4 ⟨rfl, rfl⟩
        have HVt : Hid (val (zs.take L) = val zs) := val_take_small hLv
        have HLt : Hid ((zs.take L).length = L) := by
          show _ = _
          rw [List.length_take, HLz.out]
          have h5 : L ≤ z + 1 := by
            obtain ⟨L', hL', hLm', _⟩ := blen_bound v0 (show val zs < 2 ^ (z + 1) by have := val_lt zs; rw [HLz.out] at this; exact this)
            rw [hL] at hL'
            omega
          omega
        have hLc : (L : Int) ≤ (c2 : Int) := by
          have h5 := HLt.out
          rw [List.length_take, HLz.out] at h5
          omega
        have hrt := hrz.take L
        have DT4 : Hid (DivTo (val xs) b (val qs') (val (zs.take L)) i) := by rw [HVt.out]; exact DT3
        clear hL hLv v0 v1 HVt DT3 hrz hr3 q0 q1
        generalize zs.take L = rs' at *
        go_wp2_with fail
        go_roundw
        case rel => exact ⟨i, L, c2, qs', rs', A2, rfl, by omega, rfl, by omega, hLm, HLt, HQ3, HZ3, DT4, hrt, BQ3, D3⟩
        case measure => simp [intOf]
      · have tc : decide (0 ≤ cmpI (val os) b) = false := cmp_nge (by rw [HVo.out]; exact hcb)
        have DT : Hid (DivTo (val xs) b (val qs) (val os) i) := by rw [HVo.out]; exact DivTo.no HD.out hxl x HXI.out hcb
        have HZ3 : Hid (∀ j, j < i → qs.getD j false = false) := fun j hj => HZ.out j (by omega)
        clear hcb HD HVo hy1
        obtain ⟨Q, _, _, v0, v1⟩ := DT.out
        obtain ⟨L, hL, hLm, hLv⟩ := blen_bound v0 (show val os < 2 ^ m by have := HYM.out; omega)
        go_wp2_with fail
        refine (rlen_any A1 (z + 1) c1 os _ HLo.out hr2 (by omega)).mono ?_
        rw [hL]
        rintro e w4 ⟨rfl, rfl⟩
        have HVt : Hid (val (os.take L) = val os) := val_take_small hLv
        have HLt : Hid ((os.take L).length = L) := by
          show _ = _
          rw [List.length_take, HLo.out]
          have h5 : L ≤ z + 1 := by
            obtain ⟨L', hL', hLm', _⟩ := blen_bound v0 (show val os < 2 ^ (z + 1) by have := val_lt os; rw [HLo.out] at this; exact this)
            rw [hL] at hL'
            omega
          omega
        have hLc : (L : Int) ≤ (c1 : Int) := by
          have h5 := HLt.out
          rw [List.length_take, HLo.out] at h5
          omega
        have hrt := hr2.take L
        have DT4 : Hid (DivTo (val xs) b (val qs) (val (os.take L)) i) := by rw [HVt.out]; exact DT
        clear hL hLv v0 v1 HVt DT hr2 tc
        generalize os.take L = rs' at *
        go_wp2_with fail
        go_roundw
        case rel => exact ⟨i, L, c1, qs, rs', A1, rfl, by omega, rfl, by omega, hLm, HLt, HQ, HZ3, DT4, hrt, BQ1, D1⟩
        case measure => simp [intOf]
end Go.Proofs.YtaollppieonmbaaDoor
