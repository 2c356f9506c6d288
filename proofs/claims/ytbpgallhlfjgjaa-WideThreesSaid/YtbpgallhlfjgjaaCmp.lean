/-
  Contracts of cmp.Compare at words, of wide.compare, and of U128's and U192's Cmp, for all words: -1, 0 or 1 as the numbers compare. Conditions: the fields are words of 64 bits.
-/
import Derived.Test.YtbpgallhlfjgjaaTwo
namespace Go.Proofs.Ytbpgallhlfjgjaa
open Go.RowKit

/-- How two numbers compare. -/
def cmpI (a b : Int) : Int := if a < b then -1 else if b < a then 1 else 0
theorem cmpI_lt {a b : Int} (h : a < b) : cmpI a b = -1 := by simp [cmpI, h]
theorem cmpI_gt {a b : Int} (h : b < a) : cmpI a b = 1 := by simp [cmpI, h]; omega
theorem cmpI_eq (a : Int) : cmpI a a = 0 := by simp [cmpI]
theorem ret_int {k : IntKind} {a b : Int} (h : a = b) : Ending.returned (.int k a) = .returned (.int k b) := by rw [h]

theorem isNaN_any (a : Int) (w : World) : Calls Try.prog 59 #[.int .u64 a] w fun e w' => e = .returned (.bool false) ∧ w = w' := by
  go_enter Try.func59, Try.ntmps59
  go_wp2
  go_ret
  exact ⟨by simp, rfl⟩

theorem cmpU64_any (a b : Int) (w : World) : Calls Try.prog 57 #[.int .u64 a, .int .u64 b] w fun e w' => e = .returned (.int .i64 (cmpI a b)) ∧ w = w' := by
  rcases Int.lt_trichotomy a b with h | h | h
  · go_enter Try.func57, Try.ntmps57
    go_wp2_with (go_at_call 59; refine (isNaN_any _ _).mono ?_; rintro e w1 ⟨rfl, rfl⟩)
    go_ret
    exact ⟨ret_int (cmpI_lt h).symm, rfl⟩
  · subst h
    go_enter Try.func57, Try.ntmps57
    go_wp2_with (go_at_call 59; refine (isNaN_any _ _).mono ?_; rintro e w1 ⟨rfl, rfl⟩)
    go_ret
    exact ⟨ret_int (cmpI_eq a).symm, rfl⟩
  · have h' : ¬ a < b := by omega
    go_enter Try.func57, Try.ntmps57
    go_wp2_with (go_at_call 59; refine (isNaN_any _ _).mono ?_; rintro e w1 ⟨rfl, rfl⟩)
    go_ret
    exact ⟨ret_int (cmpI_gt h).symm, rfl⟩

/-- Pairs of words, the weightiest first: the first pair that differs decides. -/
def cmpL : List (Int × Int) → Int
  | [] => 0
  | (a, b) :: r => if cmpI a b = 0 then cmpL r else cmpI a b

/-- compare: the pairs lie in one row. -/
theorem compare_any (g n : Nat) (ps : List (Int × Int)) (hn : ps.length = n) (hs : n < 100) (w : World)
    (hc : ∀ (i : Nat) (p : Int × Int), ps[i]? = some p → w.cell? ⟨g, i * 2, none⟩ = some (.int .u64 p.1) ∧ w.cell? ⟨g, i * 2 + 1, none⟩ = some (.int .u64 p.2)) (hg : g < w.heap.size) :
    Calls Try.prog 48 #[.slice (some ⟨g, 0, none⟩) n n] w fun e w' => e = .returned (.int .i64 (cmpL ps)) ∧ Below w.heap.size w w' := by
  have HC := Lib.hid hc
  clear hc
  have HN := Lib.hid hn
  clear hn
  go_enter Try.func48, Try.ntmps48
  go_wp2
  go_loopw [2, 4, 5, 8] (fun _ _ _ i wr => ∃ k : Nat, k ≤ n ∧ i = .int .i64 k ∧ cmpL ps = cmpL (ps.drop k) ∧ Below w.heap.size w wr) (fun _ _ _ i _ => n - (intOf i).toNat)
  case atStart => exact ⟨0, Nat.zero_le _, rfl, rfl, Below.refl _ _⟩
  case round =>
    obtain ⟨k, hk, rfl, hcmp, hb⟩ := hrel
    by_cases hlt : k < n
    · have hlt' : k < ps.length := by rw [HN.out]; exact hlt
      have hp : ps[k]? = some ps[k] := List.getElem?_eq_getElem hlt'
      have hd := List.drop_eq_getElem_cons hlt'
      obtain ⟨c1, c2⟩ := HC.out k _ hp
      generalize ps[k] = p at *
      obtain ⟨a, b⟩ := p
      have d1 : wr.cell? ⟨g, k * 2, none⟩ = some (.int .u64 a) := (hb.cell (p := ⟨g, k * 2, none⟩) hg).trans c1
      have d2 : wr.cell? ⟨g, k * 2 + 1, none⟩ = some (.int .u64 b) := (hb.cell (p := ⟨g, k * 2 + 1, none⟩) hg).trans c2
      have hz := hb.size
      by_cases h0 : cmpI a b = 0
      · have t0 : (cmpI a b != 0) = false := by simp [h0]
        have HF : Hid (cmpL ps = cmpL (ps.drop (k + 1))) := by
          show cmpL ps = _
          rw [hcmp, hd]
          simp [cmpL, h0]
        clear h0 hcmp hd c1 c2 hp
        go_wp2_with (go_at_call 57; refine (cmpU64_any _ _ _).mono ?_; rintro e w1 ⟨rfl, rfl⟩)
        go_roundw
        case rel => exact ⟨k + 1, by omega, by go_num, HF.out, bel_alloc hb _⟩
        case measure => simp [intOf]; omega
      · have t0 : (cmpI a b != 0) = true := by simp [h0]
        have HF : Hid (cmpI a b = cmpL ps) := by
          show _ = cmpL ps
          rw [hcmp, hd]
          simp [cmpL, h0]
        clear h0 hcmp hd c1 c2 hp
        go_wp2_with (go_at_call 57; refine (cmpU64_any _ _ _).mono ?_; rintro e w1 ⟨rfl, rfl⟩)
        go_ret
        exact ⟨ret_int HF.out, bel_alloc hb _⟩
    · have hkn : ps.drop k = [] := List.drop_eq_nil_of_le (by rw [HN.out]; omega)
      have HF : Hid (cmpL ps = 0) := by
        show cmpL ps = 0
        rw [hcmp, hkn]
        rfl
      clear hcmp hkn
      go_wp2
      go_ret
      exact ⟨ret_int HF.out.symm, hb⟩

theorem cmpL2 {ah al bh bl : Int} (h1 : Word ah) (h2 : Word al) (h3 : Word bh) (h4 : Word bl) : cmpL [(ah, bh), (al, bl)] = cmpI (V2 ah al) (V2 bh bl) := by
  obtain ⟨_, _⟩ := h1; obtain ⟨_, _⟩ := h2; obtain ⟨_, _⟩ := h3; obtain ⟨_, _⟩ := h4
  unfold cmpL cmpL cmpL cmpI V2
  repeat' split
  all_goals omega
theorem cmpL3 {ah am al bh bm bl : Int} (h1 : Word ah) (h5 : Word am) (h2 : Word al) (h3 : Word bh) (h6 : Word bm) (h4 : Word bl) : cmpL [(ah, bh), (am, bm), (al, bl)] = cmpI (V3 ah am al) (V3 bh bm bl) := by
  obtain ⟨_, _⟩ := h1; obtain ⟨_, _⟩ := h2; obtain ⟨_, _⟩ := h3; obtain ⟨_, _⟩ := h4; obtain ⟨_, _⟩ := h5; obtain ⟨_, _⟩ := h6
  unfold cmpL cmpL cmpL cmpL cmpI V3
  repeat' split
  all_goals omega

theorem cmp2 (ah al bh bl : Int) (h1 : Word ah) (h2 : Word al) (h3 : Word bh) (h4 : Word bl) (w : World) :
    Calls Try.prog 19 #[.agg #[.int .u64 ah, .int .u64 al], .agg #[.int .u64 bh, .int .u64 bl]] w fun e w' => e = .returned (.int .i64 (cmpI (V2 ah al) (V2 bh bl))) ∧ Below w.heap.size w w' := by
  have fin := Lib.hid (cmpL2 h1 h2 h3 h4)
  go_enter Try.func19, Try.ntmps19
  go_wp2_with fail
  refine (compare_any _ 2 [(ah, bh), (al, bl)] rfl (by decide) _ ?hc (by simp)).mono ?_
  case hc =>
    intro i p h
    rcases i with _ | _ | i
    · simp at h; subst h; simp [go_sem]
    · simp at h; subst h; simp [go_sem]
    · simp at h
  rintro e w1 ⟨rfl, hb⟩
  go_wp2
  go_ret
  exact ⟨ret_int fin.out, bel_trans (bel_alloc (bel_alloc (bel_alloc (Below.refl _ _) _) _) _) hb⟩

theorem cmp3 (ah am al bh bm bl : Int) (h1 : Word ah) (h5 : Word am) (h2 : Word al) (h3 : Word bh) (h6 : Word bm) (h4 : Word bl) (w : World) :
    Calls Try.prog 43 #[.agg #[.int .u64 ah, .int .u64 am, .int .u64 al], .agg #[.int .u64 bh, .int .u64 bm, .int .u64 bl]] w fun e w' => e = .returned (.int .i64 (cmpI (V3 ah am al) (V3 bh bm bl))) ∧ Below w.heap.size w w' := by
  have fin := Lib.hid (cmpL3 h1 h5 h2 h3 h6 h4)
  go_enter Try.func43, Try.ntmps43
  go_wp2_with fail
  refine (compare_any _ 3 [(ah, bh), (am, bm), (al, bl)] rfl (by decide) _ ?hc (by simp)).mono ?_
  case hc =>
    intro i p h
    rcases i with _ | _ | _ | i
    · simp at h; subst h; simp [go_sem]
    · simp at h; subst h; simp [go_sem]
    · simp at h; subst h; simp [go_sem]
    · simp at h
  rintro e w1 ⟨rfl, hb⟩
  go_wp2
  go_ret
  exact ⟨ret_int fin.out, bel_trans (bel_alloc (bel_alloc (bel_alloc (Below.refl _ _) _) _) _) hb⟩
end Go.Proofs.Ytbpgallhlfjgjaa
