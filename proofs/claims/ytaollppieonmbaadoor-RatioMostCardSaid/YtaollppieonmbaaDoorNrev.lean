/-
  Contract of slices.Reverse at bytes of the caller's own. Conditions: at most 2^20 bytes.
-/
import Derived.Test.YtaollppieonmbaaDoorNparse
import Derived.Laws.BytesArg
namespace Go.Proofs.YtaollppieonmbaaDoor
open Go.RowKit
set_option maxRecDepth 100000

theorem map_set8 (us : List Int) (i : Nat) (x : Int) : (us.map (Value.int .u8)).set i (.int .u8 x) = (us.set i x).map (Value.int .u8) := by rw [List.map_set]

/-- So many pairs have changed places. -/
structure RevTo (ds es : List Int) (n k : Nat) : Prop where
  len : es.length = n
  at_ : ∀ p, p < n → es.getD p 0 = if p < k ∨ n - 1 - p < k then ds.getD (n - 1 - p) 0 else ds.getD p 0
theorem RevTo.next {ds es : List Int} {n k j : Nat} (h : RevTo ds es n k) (hj : k + j + 1 = n) (hk : k < j) : RevTo ds ((es.set k (es.getD j 0)).set j (es.getD k 0)) n (k + 1) := by
  obtain ⟨h1, h2⟩ := h
  have ek := h2 k (by omega)
  have ej := h2 j (by omega)
  rw [if_neg (by omega)] at ek ej
  refine ⟨by rw [List.length_set, List.length_set, h1], fun p hp => ?_⟩
  by_cases e1 : j = p
  · subst e1
    rw [getD_set _ _ _ (by rw [List.length_set]; omega), ek, if_pos (by omega), show n - 1 - j = k by omega]
  · rw [getD_set_ne _ _ _ _ e1]
    by_cases e2 : k = p
    · subst e2
      rw [getD_set _ _ _ (by omega), ej, if_pos (by omega), show n - 1 - k = j by omega]
    · rw [getD_set_ne _ _ _ _ e2, h2 p hp]
      by_cases e3 : p < k ∨ n - 1 - p < k
      · rw [if_pos e3, if_pos (by omega)]
      · rw [if_neg e3, if_neg (by omega)]
theorem RevTo.done {ds es : List Int} {n k : Nat} (h : RevTo ds es n k) (hd : ds.length = n) (hk : n ≤ 2 * k + 1) : es = ds.reverse := by
  obtain ⟨h1, h2⟩ := h
  apply List.ext_getElem?
  intro p
  rcases Nat.lt_or_ge p n with hp | hp
  · have e := h2 p hp
    have e2 : es.getD p 0 = ds.getD (n - 1 - p) 0 := by
      rw [e]
      split
      · rfl
      · rw [show n - 1 - p = p by omega]
    rw [List.getElem?_reverse (by omega), hd]
    rw [List.getD_eq_getElem?_getD, List.getD_eq_getElem?_getD, List.getElem?_eq_getElem (by omega), List.getElem?_eq_getElem (by omega)] at e2
    rw [List.getElem?_eq_getElem (by omega), List.getElem?_eq_getElem (by omega)]
    simpa using e2
  · rw [List.getElem?_eq_none (by omega), List.getElem?_eq_none (by rw [List.length_reverse]; omega)]

set_option maxHeartbeats 3200000 in
theorem reverse_any (g n c base : Nat) (ds : List Int) (w : World) (own : w.ownsRow base 5 1 (.slice (some ⟨g, 0, none⟩) n c) n (ds.map (Value.int .u8))) (hn : 1 ≤ n) (ln : n ≤ 1099511627776) :
    Calls Tryd.prog 74 #[.slice (some ⟨g, 0, none⟩) n c] w fun e w' => e = .returned (.tuple #[]) ∧ w'.ownsRow base 5 1 (.slice (some ⟨g, 0, none⟩) n c) n (ds.reverse.map (Value.int .u8)) ∧ Below base w w' := by
  have HL : Hid (ds.length = n) := by have := own.1; show _ = _; simpa using this
  have hgb : base ≤ g := by
    rcases own.2 with ⟨e, _⟩ | ⟨g', cap', cur, e, hb, _⟩
    · cases e
    · injection e with e
      injection e with e
      injection e with e
      omega
  go_enter Tryd.func74, Tryd.ntmps74
  go_wp2_with fail
  go_loopw [2, 3] (fun s2 s3 wr => ∃ (k j : Nat) (es : List Int), s2 = .int .i64 (k : Int) ∧ s3 = .int .i64 ((j : Int) - 1) ∧ Hid (k + j = n) ∧ k ≤ n ∧ RevTo ds es n k ∧ wr.ownsRow base 5 1 (.slice (some ⟨g, 0, none⟩) n c) n (es.map (Value.int .u8)) ∧ Hid (Below base w wr)) (fun s2 _ _ => n - (intOf s2).toNat)
  case atStart => exact ⟨0, n, ds, rfl, rfl, by show _ = _; omega, Nat.zero_le _, ⟨HL.out, fun p _ => by rw [if_neg (by omega)]⟩, own, Below.refl _ _⟩
  case round =>
    clear own
    obtain ⟨k, j, es, rfl, rfl, hkj, hk, T, own, HB⟩ := hrel
    have hkj' := hkj.out
    by_cases hlt : k + 1 < j
    · obtain ⟨i, rfl⟩ : ∃ i, j = i + 1 := ⟨j - 1, by omega⟩
      have ei : ((i + 1 : Nat) : Int) - 1 = (i : Int) := by omega
      rw [ei]
      have TN := Lib.hid (T.next (j := i) (by omega) (by omega))
      have q0 : wr.drew.cell? ⟨g, k, none⟩ = some (.int .u8 (es.getD k 0)) := by
        rw [show wr.drew.cell? ⟨g, k, none⟩ = wr.cell? ⟨g, k, none⟩ from rfl, own.cellAt k (by omega), List.getElem?_map, List.getD_eq_getElem?_getD, List.getElem?_eq_getElem (by rw [T.len]; omega)]
        rfl
      have q1 : wr.drew.cell? ⟨g, i, none⟩ = some (.int .u8 (es.getD i 0)) := by
        rw [show wr.drew.cell? ⟨g, i, none⟩ = wr.cell? ⟨g, i, none⟩ from rfl, own.cellAt i (by omega), List.getElem?_map, List.getD_eq_getElem?_getD, List.getElem?_eq_getElem (by rw [T.len]; omega)]
        rfl
      have q2 : wr.drew.frozen? ⟨g, k, none⟩ = false := own.frozenAt k
      have q3 : wr.drew.frozen? ⟨g, i, none⟩ = false := own.frozenAt i
      have hl1 : (k : Int) < (i : Int) := by omega
      have hl2 : (i : Int) < (n : Int) := by omega
      have hl3 : (k : Int) < (n : Int) := by omega
      have hki : k ≠ i := by omega
      clear hkj' ei T
      generalize es.getD k 0 = x at *
      generalize es.getD i 0 = y at *
      have p0 : wr.cell? ⟨g, k, none⟩ = some (.int .u8 x) := q0
      have p1 : wr.cell? ⟨g, i, none⟩ = some (.int .u8 y) := q1
      have p2 : wr.frozen? ⟨g, k, none⟩ = false := q2
      have p3 : wr.frozen? ⟨g, i, none⟩ = false := q3
      have own2 := ((own.stored k (.int .u8 y)).1.stored i (.int .u8 x)).1
      rw [map_set8, map_set8] at own2
      have own3 := own2.drew
      have HB2 : Hid (Below base w ((wr.setCell ⟨g, k, none⟩ (.int .u8 y)).setCell ⟨g, i, none⟩ (.int .u8 x)).drew) := ((HB.out.setCell hgb _).setCell hgb _).drew
      have HK2 : Hid (k + 1 + i = n) := by show _ = _; have := hkj.out; omega
      go_upto_region 3 with fail
      go_region
      all_goals
        clear p0 p1 p2 p3 q0 q1 q2 q3
        go_wp2_with fail
        go_roundw
        case rel => exact ⟨k + 1, i, _, by go_num, rfl, HK2, by omega, TN.out, own3, HB2⟩
        case measure => simp [intOf]; omega
    · have fin := T.done HL.out (by omega)
      subst fin
      have hl1 : ¬ (k : Int) < (j : Int) - 1 := by omega
      clear hkj'
      go_wp2_with fail
      go_end0
      exact ⟨rfl, by simpa using own, HB.out⟩
end Go.Proofs.YtaollppieonmbaaDoor
