/-
  Rows of bits: what a slice of bools reads as, the number that it stands for, and the contract of the reference's 'bit'. Conditions: the row is shorter than 2^40.
-/
import Derived.Test.YtaollppieonmbaaDoorBase
namespace Go.Proofs.YtaollppieonmbaaDoor
open Go.RowKit

/-- The number of a row of bits, the least one first. -/
def val : List Bool → Int
  | [] => 0
  | b :: r => (if b then 1 else 0) + 2 * val r
theorem val_nonneg : ∀ xs : List Bool, 0 ≤ val xs
  | [] => by simp [val]
  | b :: r => by have := val_nonneg r; simp only [val]; split <;> omega
theorem val_lt : ∀ xs : List Bool, val xs < 2 ^ xs.length
  | [] => by simp [val]
  | b :: r => by
    have := val_lt r
    simp only [val, List.length_cons, Int.pow_succ]
    split <;> omega
theorem val_append : ∀ xs ys : List Bool, val (xs ++ ys) = val xs + 2 ^ xs.length * val ys
  | [], ys => by simp [val]
  | b :: r, ys => by
    simp only [List.cons_append, val, val_append r ys, List.length_cons, Int.pow_succ]
    rw [Int.mul_right_comm]
    omega
theorem val_snoc (xs : List Bool) (b : Bool) : val (xs ++ [b]) = val xs + if b then 2 ^ xs.length else 0 := by
  rw [val_append]
  cases b <;> simp [val]
theorem val_replicate (n : Nat) : val (List.replicate n false) = 0 := by
  induction n with
  | zero => rfl
  | succ n ih => simp [List.replicate_succ, val, ih]
theorem val_take_drop (xs : List Bool) (k : Nat) (hk : k ≤ xs.length) : val xs = val (xs.take k) + 2 ^ k * val (xs.drop k) := by
  have h := val_append (xs.take k) (xs.drop k)
  rw [List.take_append_drop, List.length_take, Nat.min_eq_left hk] at h
  exact h
theorem val_drop (xs : List Bool) (k : Nat) (hk : k ≤ xs.length) : val (xs.drop k) = val xs / 2 ^ k ∧ val (xs.take k) = val xs % 2 ^ k := by
  have h := val_take_drop xs k hk
  have h0 := val_nonneg (xs.take k)
  have h1 := val_lt (xs.take k)
  rw [List.length_take, Nat.min_eq_left hk] at h1
  have hp := pow_pos' k
  constructor
  · rw [h, Int.add_mul_ediv_left _ _ (Int.ne_of_gt hp), Int.ediv_eq_zero_of_lt h0 h1]
    omega
  · rw [h, Int.add_mul_emod_self_left, Int.emod_eq_of_lt h0 h1]

/-- Block g has elements of type t. -/
def Typed (w : World) (g : Nat) (t : TypeId) : Prop := ∃ cs f, w.heap[g]? = some (.cells cs t f)
theorem Typed.lt {w : World} {g : Nat} {t : TypeId} (h : Typed w g t) : g < w.heap.size := by
  obtain ⟨cs, f, h⟩ := h
  rcases Nat.lt_or_ge g w.heap.size with hlt | hge
  · exact hlt
  · rw [Array.getElem?_eq_none hge] at h; cases h
theorem Typed.below {w w' : World} {g : Nat} {t : TypeId} {B : Nat} (h : Typed w g t) (hb : Below B w w') (hg : g < B) : Typed w' g t := by
  obtain ⟨cs, f, h⟩ := h
  exact ⟨cs, f, (hb.block g hg).trans h⟩
theorem Typed.far {w : World} {g : Nat} {t : TypeId} (h : Typed w g t) {p : Addr} (hp : g ≠ p.block) (u : Value) : Typed (w.setCell p u) g t := by
  obtain ⟨cs, f, h⟩ := h
  exact ⟨cs, f, (Below.heap_setCell w p u g hp).trans h⟩
theorem Blk.typed {w : World} {g : Nat} {t : TypeId} {cs : Array Value} (h : Blk w g t cs) : Typed w g t := ⟨cs, (0, 0), h⟩
/-- The slice's address leads to the bits xs. -/
def Rd (w : World) (A : Option Addr) (xs : List Bool) : Prop :=
  xs = [] ∨ ∃ g off, A = some ⟨g, off, none⟩ ∧ Typed w g 4 ∧ ∀ i b, xs[i]? = some b → w.cell? ⟨g, off + i, none⟩ = some (.bool b)
theorem Rd.below {w w' : World} {A : Option Addr} {xs : List Bool} {B : Nat} (h : Rd w A xs) (hb : Below B w w') (hB : w.heap.size ≤ B) : Rd w' A xs := by
  rcases h with h | ⟨g, off, e, hg, hc⟩
  · exact .inl h
  · have hl := hg.lt
    exact .inr ⟨g, off, e, hg.below hb (by omega), fun i b hi => (hb.cell (p := ⟨g, off + i, none⟩) (by show g < B; omega)).trans (hc i b hi)⟩
theorem Rd.alloc {w : World} {A : Option Addr} {xs : List Bool} (h : Rd w A xs) (o : Obj) : Rd (w.alloc o) A xs := h.below (bel_alloc (Below.refl _ _) o) (Nat.le_refl _)
theorem Rd.drew {w : World} {A : Option Addr} {xs : List Bool} (h : Rd w A xs) : Rd w.drew A xs := h
theorem Rd.at_ {w : World} {A : Option Addr} {xs : List Bool} (h : Rd w A xs) {i : Nat} (hi : i < xs.length) : ∃ g off, A = some ⟨g, off, none⟩ ∧ g < w.heap.size ∧ w.cell? ⟨g, off + i, none⟩ = some (.bool (xs.getD i false)) := by
  rcases h with h | ⟨g, off, e, hg, hc⟩
  · subst h; simp at hi
  · exact ⟨g, off, e, hg.lt, hc i _ (by rw [List.getD_eq_getElem?_getD, List.getElem?_eq_getElem hi]; rfl)⟩
/-- The bits up to k, and those from k on. -/
theorem Rd.take {w : World} {A : Option Addr} {xs : List Bool} (h : Rd w A xs) (k : Nat) : Rd w A (xs.take k) := by
  rcases h with h | ⟨g, off, e, hg, hc⟩
  · subst h; exact .inl (by simp)
  · refine .inr ⟨g, off, e, hg, fun i b hi => hc i b ?_⟩
    rw [List.getElem?_take] at hi
    split at hi
    · exact hi
    · cases hi
theorem Rd.dropAt {w : World} {g off : Nat} {xs : List Bool} (h : Rd w (some ⟨g, off, none⟩) xs) (k : Nat) : Rd w (some ⟨g, off + k, none⟩) (xs.drop k) := by
  rcases h with h | ⟨g', off', e, hg, hc⟩
  · subst h; exact .inl (by simp)
  · injection e with e
    injection e with e1 e2
    subst e1 e2
    refine .inr ⟨_, _, rfl, hg, fun i b hi => ?_⟩
    rw [List.getElem?_drop] at hi
    rw [Nat.add_assoc]
    exact hc _ b hi

/-- The value is a row that reads as xs. -/
def IsRow (w : World) (v : Value) (xs : List Bool) : Prop := ∃ (A : Option Addr) (c : Nat), v = .slice A xs.length c ∧ xs.length ≤ c ∧ c ≤ maxLen ∧ Rd w A xs
/-- A call came back with a row of which P holds; nothing that was there has changed. -/
def RetRow (P : List Bool → Prop) (w : World) (e : Ending) (w' : World) : Prop := ∃ (xs : List Bool) (A : Option Addr) (c : Nat), P xs ∧ e = .returned (.slice A xs.length c) ∧ xs.length ≤ c ∧ c ≤ maxLen ∧ Rd w' A xs ∧ Below w.heap.size w w'

theorem own_row {w : World} {base : Nat} {v : Value} {n : Nat} {xs : List Bool} (h : w.ownsRow base 4 1 v n (xs.map Value.bool)) : IsRow w v xs := by
  have hl : xs.length = n := by have := h.1; simpa using this
  rcases h.2 with ⟨rfl, rfl⟩ | ⟨g, cap, cur, rfl, hb, hh, hc, hm, hs, ht⟩
  · have : xs = [] := List.eq_nil_of_length_eq_zero hl
    subst this
    exact ⟨none, 0, rfl, Nat.le_refl _, by simp [maxLen], .inl rfl⟩
  · subst hl
    refine ⟨some ⟨g, 0, none⟩, cap, rfl, hc, hm, ?_⟩
    by_cases hx : xs = []
    · exact .inl hx
    · refine .inr ⟨g, 0, rfl, ⟨cur, (0, 0), hh⟩, fun i b hi => ?_⟩
      · rw [cell_of_row w g (0 + i) cur 4 (0, 0) hh]
        have e : (cur.toList.take (xs.length * 1))[i]? = some (.bool b) := by rw [ht, List.getElem?_map, hi]; rfl
        rw [List.getElem?_take] at e
        split at e
        · simpa using e
        · cases e

/-- The bit at a place; false outside. -/
def bitAt (xs : List Bool) (i : Int) : Bool := decide (0 ≤ i) && xs.getD i.toNat false

theorem bit_any (A : Option Addr) (n c : Nat) (xs : List Bool) (i : Int) (w : World) (hn : xs.length = n) (hr : Rd w A xs) (_hm : n ≤ 1099511627776) :
    Calls Tryd.prog 69 #[.slice A n c, .int .i64 i] w fun e w' => e = .returned (.bool (bitAt xs i)) ∧ w = w' := by
  have HN := Lib.hid hn
  by_cases h0 : 0 ≤ i
  · obtain ⟨k, rfl⟩ := Int.eq_ofNat_of_zero_le h0
    by_cases hk : k < n
    · obtain ⟨g, off, rfl, hg, hcell⟩ := hr.at_ (i := k) (by omega)
      have hF : Hid (bitAt xs (k : Int) = xs.getD k false) := by show _ = _; simp [bitAt]
      generalize xs.getD k false = b at *
      clear hn hr
      have hk' : (k : Int) < (n : Int) := by omega
      go_enter Tryd.func69, Tryd.ntmps69
      go_wp2
      go_ret
      exact ⟨by rw [hF.out]; rfl, rfl⟩
    · have hF : Hid (bitAt xs (k : Int) = false) := by show _ = _; simp only [bitAt, Int.toNat_natCast, List.getD_eq_getElem?_getD]; rw [List.getElem?_eq_none (by omega)]; simp
      have hk' : decide ((k : Int) < (n : Int)) = false := by simp; omega
      clear hn hr
      go_enter Tryd.func69, Tryd.ntmps69
      go_wp2
      go_ret
      exact ⟨by rw [hF.out]; rfl, rfl⟩
  · have hF : Hid (bitAt xs i = false) := by show _ = _; simp [bitAt, h0]
    have hk' : decide (0 ≤ i) = false := by simp; omega
    clear hn hr
    go_enter Tryd.func69, Tryd.ntmps69
    go_wp2
    go_ret
    exact ⟨by rw [hF.out]; rfl, rfl⟩
end Go.Proofs.YtaollppieonmbaaDoor
