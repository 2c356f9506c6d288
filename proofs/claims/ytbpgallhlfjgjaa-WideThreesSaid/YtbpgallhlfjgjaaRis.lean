/-
  Contracts of layer 1's helpers: numbers of two and three words as rows of bits, whether a number is a row's, and one as a number. Conditions: the fields are words of 64 bits, the rows are shorter than 2^40.
-/
import Derived.Test.YtbpgallhlfjgjaaRof
namespace Go.Proofs.Ytbpgallhlfjgjaa
open Go.RowKit

/-- A row of n bits of the number v. -/
def IsBits (v : Int) (n : Nat) (zs : List Bool) : Prop := val zs = v ∧ zs.length = n
/-- Rows that were there stay. -/
theorem ret_row_mono {P Q : List Bool → Prop} {w w' : World} {e : Ending} (h : RetRow P w e w') (hPQ : ∀ xs, P xs → Q xs) : RetRow Q w e w' := by
  obtain ⟨xs, A, c, hP, h1, h2, h3, h4, h5⟩ := h
  exact ⟨xs, A, c, hPQ xs hP, h1, h2, h3, h4, h5⟩
theorem ret_row_after {P : List Bool → Prop} {w w1 w' : World} {e : Ending} (h : RetRow P w1 e w') (hb : Below w.heap.size w w1) : RetRow P w e w' := by
  obtain ⟨xs, A, c, hP, h1, h2, h3, h4, h5⟩ := h
  exact ⟨xs, A, c, hP, h1, h2, h3, h4, bel_trans hb h5⟩

theorem of_any (h l : Int) (h1 : Word h) (h2 : Word l) (w : World) : Calls Try.prog 15 #[.agg #[.int .u64 h, .int .u64 l]] w (RetRow (IsBits (V2 h l) 128) w) := by
  go_enter Try.func15, Try.ntmps15
  go_wp2_with fail
  refine (rof_any _ 2 2 [l, h] _ rfl ?hx ?hw (by decide)).mono ?_
  case hx =>
    refine .inr ⟨_, 0, rfl, by simp, fun i x hi => ?_⟩
    rcases i with _ | _ | i
    · simp at hi; subst hi; simp [go_sem]
    · simp at hi; subst hi; simp [go_sem]
    · simp at hi
  case hw =>
    intro x hx
    simp at hx
    rcases hx with rfl | rfl
    · exact h2
    · exact h1
  rintro e w1 ⟨xs, A, c, ⟨hv, hl⟩, rfl, hc, hm, hr, hb⟩
  have fin : IsBits (V2 h l) 128 xs := ⟨by rw [hv]; simp [wv, V2]; omega, hl⟩
  clear hv hl
  go_wp2_with fail
  go_ret
  exact ⟨xs, A, c, fin, rfl, hc, hm, hr, bel_trans (bel_alloc (bel_alloc (Below.refl _ _) _) _) hb⟩

theorem of3_any (h m l : Int) (h1 : Word h) (h3 : Word m) (h2 : Word l) (w : World) : Calls Try.prog 31 #[.agg #[.int .u64 h, .int .u64 m, .int .u64 l]] w (RetRow (IsBits (V3 h m l) 192) w) := by
  go_enter Try.func31, Try.ntmps31
  go_wp2_with fail
  refine (rof_any _ 3 3 [l, m, h] _ rfl ?hx ?hw (by decide)).mono ?_
  case hx =>
    refine .inr ⟨_, 0, rfl, by simp, fun i x hi => ?_⟩
    rcases i with _ | _ | _ | i
    · simp at hi; subst hi; simp [go_sem]
    · simp at hi; subst hi; simp [go_sem]
    · simp at hi; subst hi; simp [go_sem]
    · simp at hi
  case hw =>
    intro x hx
    simp at hx
    rcases hx with rfl | rfl | rfl
    · exact h2
    · exact h3
    · exact h1
  rintro e w1 ⟨xs, A, c, ⟨hv, hl⟩, rfl, hc, hm, hr, hb⟩
  have fin : IsBits (V3 h m l) 192 xs := ⟨by rw [hv]; simp [wv, V3]; omega, hl⟩
  clear hv hl
  go_wp2_with fail
  go_ret
  exact ⟨xs, A, c, fin, rfl, hc, hm, hr, bel_trans (bel_alloc (bel_alloc (Below.refl _ _) _) _) hb⟩

theorem cmp_zero {a b : Int} : (cmpI a b == 0) = decide (a = b) := by
  rw [Bool.eq_iff_iff]
  simp only [beq_iff_eq, decide_eq_true_eq]
  unfold cmpI
  split <;> (try split) <;> omega
theorem ret_bool {a b : Bool} (h : a = b) : Ending.returned (.bool a) = .returned (.bool b) := by rw [h]

theorem is_any (h l : Int) (B : Option Addr) (m d : Nat) (ys : List Bool) (h1 : Word h) (h2 : Word l) (w : World) (hm : ys.length = m) (hy : Rd w B ys) (lm : m ≤ 1099511627776) :
    Calls Try.prog 17 #[.agg #[.int .u64 h, .int .u64 l], .slice B m d] w fun e w' => e = .returned (.bool (decide (V2 h l = val ys))) ∧ Below w.heap.size w w' := by
  have HM := Lib.hid hm
  clear hm
  go_enter Try.func17, Try.ntmps17
  go_wp2_with fail
  refine (of_any h l h1 h2 _).mono ?_
  rintro e w1 ⟨xs, A, c, ⟨hv, hl⟩, rfl, hc, hmm, hr, hb⟩
  have bel := bel_trans (bel_alloc (Below.refl w.heap.size w) _) hb
  have hy1 := hy.below bel (Nat.le_refl _)
  rw [hl] at hc ⊢
  have HL := Lib.hid hl
  have HV := Lib.hid hv
  clear hl hv
  go_wp2_with fail
  refine (rcmp_any A B 128 m c d xs ys _ HL.out HM.out hr hy1 (by decide) lm).mono ?_
  rintro e w2 ⟨rfl, rfl⟩
  have fin : Hid ((cmpI (val xs) (val ys) == 0) = decide (V2 h l = val ys)) := by show _ = _; rw [HV.out, cmp_zero]
  clear HV
  go_wp2_with fail
  go_ret
  exact ⟨ret_bool fin.out, bel⟩

theorem is3_any (h k l : Int) (B : Option Addr) (m d : Nat) (ys : List Bool) (h1 : Word h) (h3 : Word k) (h2 : Word l) (w : World) (hm : ys.length = m) (hy : Rd w B ys) (lm : m ≤ 1099511627776) :
    Calls Try.prog 26 #[.agg #[.int .u64 h, .int .u64 k, .int .u64 l], .slice B m d] w fun e w' => e = .returned (.bool (decide (V3 h k l = val ys))) ∧ Below w.heap.size w w' := by
  have HM := Lib.hid hm
  clear hm
  go_enter Try.func26, Try.ntmps26
  go_wp2_with fail
  refine (of3_any h k l h1 h3 h2 _).mono ?_
  rintro e w1 ⟨xs, A, c, ⟨hv, hl⟩, rfl, hc, hmm, hr, hb⟩
  have bel := bel_trans (bel_alloc (Below.refl w.heap.size w) _) hb
  have hy1 := hy.below bel (Nat.le_refl _)
  rw [hl] at hc ⊢
  have HL := Lib.hid hl
  have HV := Lib.hid hv
  clear hl hv
  go_wp2_with fail
  refine (rcmp_any A B 192 m c d xs ys _ HL.out HM.out hr hy1 (by decide) lm).mono ?_
  rintro e w2 ⟨rfl, rfl⟩
  have fin : Hid ((cmpI (val xs) (val ys) == 0) = decide (V3 h k l = val ys)) := by show _ = _; rw [HV.out, cmp_zero]
  clear HV
  go_wp2_with fail
  go_ret
  exact ⟨ret_bool fin.out, bel⟩

/-- One as a number, if it is to be. -/
def oneI (b : Bool) : Int := if b then 1 else 0
theorem one_any (b : Bool) (w : World) : Calls Try.prog 18 #[.bool b] w fun e w' => e = .returned (.int .u64 (oneI b)) ∧ w = w' := by
  cases b
  · go_enter Try.func18, Try.ntmps18
    go_wp2
    go_ret
    exact ⟨rfl, rfl⟩
  · go_enter Try.func18, Try.ntmps18
    go_wp2
    go_ret
    exact ⟨rfl, rfl⟩
end Go.Proofs.Ytbpgallhlfjgjaa
