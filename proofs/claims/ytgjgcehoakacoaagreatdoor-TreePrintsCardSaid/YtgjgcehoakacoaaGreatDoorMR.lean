/-
  Rows of bits: what a slice of bools reads as, the number that it stands for, and the contract of the reference's 'bit'. Conditions: the row is shorter than 2^40.
  The contract of the reference's Cmp on rows of bits: how their numbers compare. Conditions: the rows are shorter than 2^40.
  The contract of the reference's Len on rows of bits: the number of bits of the row's number. Conditions: the row is shorter than 2^40.
  The contract of the reference's Add on rows of bits: a row of the sum. Conditions: the rows are shorter than 2^40.
  The contract of the reference's Sub on rows of bits: a row of the difference, and the borrow. Conditions: the rows are shorter than 2^40.
  The contract of the reference's Of: words as a row of bits. Conditions: fewer than 2^20 words, each of 64 bits.
  The contract of the reference's Sub once more, with where the row lies: in memory that the call has made. Conditions: the rows are shorter than 2^40.
  The contract of the reference's Shl on rows of bits: so many noughts ahead. Conditions: the row and the shift are shorter than 2^40.
  The contract of the reference's Mul on rows of bits: a row of the product. Conditions: the rows are shorter than 2^38.
  The contract of the reference's Div on rows of bits: quotient and what is left. Conditions: the rows have at most 2^20 bits; the divisor's number is not nought.
-/
import Derived.Test.YtgjgcehoakacoaaGreatDoorBase
import Derived.Maps.AppendAt
import Derived.WalkSmall
import Derived.Deep.AppendLies
namespace Go.Proofs.YtgjgcehoakacoaaGreatDoor
open Go.RowKit

/-- The number of a row of bits, the least one first. -/
def val : List Bool → Int
  | [] => 0
  | b :: r => (if b then 1 else 0) + 2 * val r
theorem val_nonneg : ∀ xs : List Bool, 0 ≤ val xs
  | [] => by simp [val]
  | b :: r => by have := val_nonneg r; simp only [val]; split <;> omega
theorem val_lt : ∀ xs : List Bool, val xs < 2 ^ xs.length
  | [] => by simp [val]
  | b :: r => by
    have := val_lt r
    simp only [val, List.length_cons, Int.pow_succ]
    split <;> omega
theorem val_append : ∀ xs ys : List Bool, val (xs ++ ys) = val xs + 2 ^ xs.length * val ys
  | [], ys => by simp [val]
  | b :: r, ys => by
    simp only [List.cons_append, val, val_append r ys, List.length_cons, Int.pow_succ]
    rw [Int.mul_right_comm]
    omega
theorem val_snoc (xs : List Bool) (b : Bool) : val (xs ++ [b]) = val xs + if b then 2 ^ xs.length else 0 := by
  rw [val_append]
  cases b <;> simp [val]
theorem val_replicate (n : Nat) : val (List.replicate n false) = 0 := by
  induction n with
  | zero => rfl
  | succ n ih => simp [List.replicate_succ, val, ih]
theorem val_take_drop (xs : List Bool) (k : Nat) (hk : k ≤ xs.length) : val xs = val (xs.take k) + 2 ^ k * val (xs.drop k) := by
  have h := val_append (xs.take k) (xs.drop k)
  rw [List.take_append_drop, List.length_take, Nat.min_eq_left hk] at h
  exact h
theorem val_drop (xs : List Bool) (k : Nat) (hk : k ≤ xs.length) : val (xs.drop k) = val xs / 2 ^ k ∧ val (xs.take k) = val xs % 2 ^ k := by
  have h := val_take_drop xs k hk
  have h0 := val_nonneg (xs.take k)
  have h1 := val_lt (xs.take k)
  rw [List.length_take, Nat.min_eq_left hk] at h1
  have hp := pow_pos' k
  constructor
  · rw [h, Int.add_mul_ediv_left _ _ (Int.ne_of_gt hp), Int.ediv_eq_zero_of_lt h0 h1]
    omega
  · rw [h, Int.add_mul_emod_self_left, Int.emod_eq_of_lt h0 h1]

/-- Block g has elements of type t. -/
def Typed (w : World) (g : Nat) (t : TypeId) : Prop := ∃ cs f, w.heap[g]? = some (.cells cs t f)
theorem Typed.lt {w : World} {g : Nat} {t : TypeId} (h : Typed w g t) : g < w.heap.size := by
  obtain ⟨cs, f, h⟩ := h
  rcases Nat.lt_or_ge g w.heap.size with hlt | hge
  · exact hlt
  · rw [Array.getElem?_eq_none hge] at h; cases h
theorem Typed.below {w w' : World} {g : Nat} {t : TypeId} {B : Nat} (h : Typed w g t) (hb : Below B w w') (hg : g < B) : Typed w' g t := by
  obtain ⟨cs, f, h⟩ := h
  exact ⟨cs, f, (hb.block g hg).trans h⟩
theorem Typed.far {w : World} {g : Nat} {t : TypeId} (h : Typed w g t) {p : Addr} (hp : g ≠ p.block) (u : Value) : Typed (w.setCell p u) g t := by
  obtain ⟨cs, f, h⟩ := h
  exact ⟨cs, f, (Below.heap_setCell w p u g hp).trans h⟩
theorem Blk.typed {w : World} {g : Nat} {t : TypeId} {cs : Array Value} (h : Blk w g t cs) : Typed w g t := ⟨cs, (0, 0), h⟩
/-- The slice's address leads to the bits xs. -/
def Rd (w : World) (A : Option Addr) (xs : List Bool) : Prop :=
  xs = [] ∨ ∃ g off, A = some ⟨g, off, none⟩ ∧ Typed w g 4 ∧ ∀ i b, xs[i]? = some b → w.cell? ⟨g, off + i, none⟩ = some (.bool b)
theorem Rd.below {w w' : World} {A : Option Addr} {xs : List Bool} {B : Nat} (h : Rd w A xs) (hb : Below B w w') (hB : w.heap.size ≤ B) : Rd w' A xs := by
  rcases h with h | ⟨g, off, e, hg, hc⟩
  · exact .inl h
  · have hl := hg.lt
    exact .inr ⟨g, off, e, hg.below hb (by omega), fun i b hi => (hb.cell (p := ⟨g, off + i, none⟩) (by show g < B; omega)).trans (hc i b hi)⟩
theorem Rd.alloc {w : World} {A : Option Addr} {xs : List Bool} (h : Rd w A xs) (o : Obj) : Rd (w.alloc o) A xs := h.below (bel_alloc (Below.refl _ _) o) (Nat.le_refl _)
theorem Rd.drew {w : World} {A : Option Addr} {xs : List Bool} (h : Rd w A xs) : Rd w.drew A xs := h
theorem Rd.at_ {w : World} {A : Option Addr} {xs : List Bool} (h : Rd w A xs) {i : Nat} (hi : i < xs.length) : ∃ g off, A = some ⟨g, off, none⟩ ∧ g < w.heap.size ∧ w.cell? ⟨g, off + i, none⟩ = some (.bool (xs.getD i false)) := by
  rcases h with h | ⟨g, off, e, hg, hc⟩
  · subst h; simp at hi
  · exact ⟨g, off, e, hg.lt, hc i _ (by rw [List.getD_eq_getElem?_getD, List.getElem?_eq_getElem hi]; rfl)⟩
/-- The bits up to k, and those from k on. -/
theorem Rd.take {w : World} {A : Option Addr} {xs : List Bool} (h : Rd w A xs) (k : Nat) : Rd w A (xs.take k) := by
  rcases h with h | ⟨g, off, e, hg, hc⟩
  · subst h; exact .inl (by simp)
  · refine .inr ⟨g, off, e, hg, fun i b hi => hc i b ?_⟩
    rw [List.getElem?_take] at hi
    split at hi
    · exact hi
    · cases hi
theorem Rd.dropAt {w : World} {g off : Nat} {xs : List Bool} (h : Rd w (some ⟨g, off, none⟩) xs) (k : Nat) : Rd w (some ⟨g, off + k, none⟩) (xs.drop k) := by
  rcases h with h | ⟨g', off', e, hg, hc⟩
  · subst h; exact .inl (by simp)
  · injection e with e
    injection e with e1 e2
    subst e1 e2
    refine .inr ⟨_, _, rfl, hg, fun i b hi => ?_⟩
    rw [List.getElem?_drop] at hi
    rw [Nat.add_assoc]
    exact hc _ b hi

/-- The value is a row that reads as xs. -/
def IsRow (w : World) (v : Value) (xs : List Bool) : Prop := ∃ (A : Option Addr) (c : Nat), v = .slice A xs.length c ∧ xs.length ≤ c ∧ c ≤ maxLen ∧ Rd w A xs
/-- A call came back with a row of which P holds; nothing that was there has changed. -/
def RetRow (P : List Bool → Prop) (w : World) (e : Ending) (w' : World) : Prop := ∃ (xs : List Bool) (A : Option Addr) (c : Nat), P xs ∧ e = .returned (.slice A xs.length c) ∧ xs.length ≤ c ∧ c ≤ maxLen ∧ Rd w' A xs ∧ Below w.heap.size w w'

theorem own_row {w : World} {base : Nat} {v : Value} {n : Nat} {xs : List Bool} (h : w.ownsRow base 4 1 v n (xs.map Value.bool)) : IsRow w v xs := by
  have hl : xs.length = n := by have := h.1; simpa using this
  rcases h.2 with ⟨rfl, rfl⟩ | ⟨g, cap, cur, rfl, hb, hh, hc, hm, hs, ht⟩
  · have : xs = [] := List.eq_nil_of_length_eq_zero hl
    subst this
    exact ⟨none, 0, rfl, Nat.le_refl _, by simp [maxLen], .inl rfl⟩
  · subst hl
    refine ⟨some ⟨g, 0, none⟩, cap, rfl, hc, hm, ?_⟩
    by_cases hx : xs = []
    · exact .inl hx
    · refine .inr ⟨g, 0, rfl, ⟨cur, (0, 0), hh⟩, fun i b hi => ?_⟩
      · rw [cell_of_row w g (0 + i) cur 4 (0, 0) hh]
        have e : (cur.toList.take (xs.length * 1))[i]? = some (.bool b) := by rw [ht, List.getElem?_map, hi]; rfl
        rw [List.getElem?_take] at e
        split at e
        · simpa using e
        · cases e

/-- The bit at a place; false outside. -/
def bitAt (xs : List Bool) (i : Int) : Bool := decide (0 ≤ i) && xs.getD i.toNat false

end Go.Proofs.YtgjgcehoakacoaaGreatDoor
namespace Go.Proofs.YtgjgcehoakacoaaGreatDoor
open Go.RowKit

theorem getD_tail (xs : List Bool) (j : Nat) : xs.getD (j + 1) false = xs.tail.getD j false := by cases xs <;> rfl
theorem val_tail (xs : List Bool) : val xs = (if xs.getD 0 false then 1 else 0) + 2 * val xs.tail := by cases xs <;> simp [val]
theorem val_zero : ∀ ys : List Bool, (∀ j, ys.getD j false = false) → val ys = 0
  | [], _ => rfl
  | b :: r, h => by
    have h0 := h 0
    have h1 := val_zero r fun j => h (j + 1)
    simp at h0
    simp [val, h0, h1]
theorem val_same : ∀ xs ys : List Bool, (∀ j, xs.getD j false = ys.getD j false) → val xs = val ys
  | [], ys, h => (val_zero ys fun j => (h j).symm).symm
  | b :: r, ys, h => by
    have h0 := h 0
    have h1 := val_same r ys.tail fun j => by rw [← getD_tail]; exact h (j + 1)
    rw [val_tail (b :: r), val_tail ys, ← h0, ← h1]
    rfl
theorem val_diff : ∀ (i : Nat) (xs ys : List Bool), (∀ j, i < j → xs.getD j false = ys.getD j false) → xs.getD i false = true → ys.getD i false = false → val ys < val xs
  | 0, xs, ys, h, hx, hy => by
    have h1 := val_same xs.tail ys.tail fun j => by rw [← getD_tail, ← getD_tail]; exact h (j + 1) (by omega)
    rw [val_tail xs, val_tail ys, hx, hy, h1]
    simp
    omega
  | i + 1, xs, ys, h, hx, hy => by
    have h1 := val_diff i xs.tail ys.tail (fun j hj => by rw [← getD_tail, ← getD_tail]; exact h (j + 1) (by omega)) (by rw [← getD_tail]; exact hx) (by rw [← getD_tail]; exact hy)
    rw [val_tail xs, val_tail ys]
    split <;> split <;> omega
theorem getD_past (xs : List Bool) (j : Nat) (h : xs.length ≤ j) : xs.getD j false = false := by rw [List.getD_eq_getElem?_getD, List.getElem?_eq_none h]; rfl
theorem bitAt_nat (xs : List Bool) (k : Nat) : bitAt xs (k : Int) = xs.getD k false := by simp [bitAt]

end Go.Proofs.YtgjgcehoakacoaaGreatDoor
namespace Go.Proofs.YtgjgcehoakacoaaGreatDoor
open Go.RowKit

theorem blen_eq {v : Int} {k : Nat} (hk : 1 ≤ k) (h0 : (2 : Int) ^ (k - 1) ≤ v) (h1 : v < 2 ^ k) : blen v = k := by
  have hp := pow_pos' (k - 1)
  have hv : 0 ≤ v := by omega
  obtain ⟨n, en, lt, ge, _⟩ := blen_spec hv
  obtain ⟨g1, g2⟩ := ge (by omega)
  rw [en]
  rcases Nat.lt_trichotomy n k with h | h | h
  · exfalso
    have : (2 : Int) ^ n ≤ 2 ^ (k - 1) := by
      have h3 : 2 ^ n ≤ 2 ^ (k - 1) := Nat.pow_le_pow_right (by decide) (by omega)
      have h4 : ((2 ^ n : Nat) : Int) ≤ ((2 ^ (k - 1) : Nat) : Int) := Int.ofNat_le.2 h3
      simpa using h4
    omega
  · rw [h]
  · exfalso
    have : (2 : Int) ^ k ≤ 2 ^ (n - 1) := by
      have h3 : 2 ^ k ≤ 2 ^ (n - 1) := Nat.pow_le_pow_right (by decide) (by omega)
      have h4 : ((2 ^ k : Nat) : Int) ≤ ((2 ^ (n - 1) : Nat) : Int) := Int.ofNat_le.2 h3
      simpa using h4
    omega
theorem getD_drop (xs : List Bool) (k j : Nat) : (xs.drop k).getD j false = xs.getD (k + j) false := by
  rw [List.getD_eq_getElem?_getD, List.getD_eq_getElem?_getD, List.getElem?_drop]
theorem val_high {xs : List Bool} {k : Nat} (hk : k ≤ xs.length) (h : ∀ j, k ≤ j → xs.getD j false = false) : val xs = val (xs.take k) := by
  rw [val_take_drop xs k hk, val_zero (xs.drop k) fun j => by rw [getD_drop]; exact h _ (by omega)]
  simp
theorem len_top {xs : List Bool} {k : Nat} (hk : k + 1 ≤ xs.length) (h : ∀ j, k + 1 ≤ j → xs.getD j false = false) (hb : xs.getD k false = true) : blen (val xs) = ((k + 1 : Nat) : Int) := by
  refine blen_eq (by omega) ?_ ?_
  · have e0 : (xs.drop k).getD 0 false = true := by rw [getD_drop]; exact hb
    rw [val_take_drop xs k (by omega), val_tail (xs.drop k), e0]
    have h0 := val_nonneg (xs.take k)
    have h1 := val_nonneg (xs.drop k).tail
    have hp := pow_pos' k
    have h2 : (2 : Int) ^ k * 1 ≤ 2 ^ k * ((if true = true then 1 else 0) + 2 * val (xs.drop k).tail) := Int.mul_le_mul_of_nonneg_left (by rw [if_pos rfl]; omega) (Int.le_of_lt hp)
    rw [show k + 1 - 1 = k by omega]
    omega
  · rw [val_high hk h]
    have := val_lt (xs.take (k + 1))
    rw [List.length_take, Nat.min_eq_left hk] at this
    exact this

end Go.Proofs.YtgjgcehoakacoaaGreatDoor
namespace Go.Proofs.YtgjgcehoakacoaaGreatDoor
open Go.RowKit

theorem bool_info : (Tryz.prog.info? 4).map (fun i => (i.zero, i.size, i.bytes)) = some (some (.bool false), 1, 1) := by kernel_rfl
theorem val_take_succ (xs : List Bool) (k : Nat) : val (xs.take (k + 1)) = val (xs.take k) + if xs.getD k false then 2 ^ k else 0 := by
  by_cases h : k < xs.length
  · rw [List.take_succ_eq_append_getElem h, val_snoc, List.length_take, Nat.min_eq_left (by omega), List.getD_eq_getElem?_getD, List.getElem?_eq_getElem h]
    rfl
  · rw [List.take_of_length_le (by omega), List.take_of_length_le (by omega), getD_past xs k (by omega)]
    simp

/-- So far so many bits of the sum, and the carry. -/
structure AddTo (xs ys zs : List Bool) (k : Nat) (c : Bool) : Prop where
  len : zs.length = k
  eq : val zs + (if c then 2 ^ k else 0) = val (xs.take k) + val (ys.take k)
  le : k ≤ max xs.length ys.length + 1
  end_ : max xs.length ys.length < k → c = false
theorem AddTo.next {xs ys zs : List Bool} {k : Nat} {c : Bool} (h : AddTo xs ys zs k c) (hc : k < xs.length ∨ k < ys.length ∨ c = true) (x y : Bool) (ex : xs.getD k false = x) (ey : ys.getD k false = y) :
    AddTo xs ys (zs ++ [(x != y) != c]) (k + 1) (x && y || x && c || y && c) := by
  obtain ⟨h1, h2, h3, h4⟩ := h
  have hk : k ≤ max xs.length ys.length := by
    rcases hc with hc | hc | hc
    · omega
    · omega
    · rcases Nat.lt_or_ge (max xs.length ys.length) k with h | h
      · have := h4 h
        rw [this] at hc
        cases hc
      · exact h
  refine ⟨by simp [h1], ?_, by omega, fun hk' => ?_⟩
  · rw [val_snoc, val_take_succ, val_take_succ, ex, ey, h1, Int.pow_succ]
    generalize (2 : Int) ^ k = P at *
    revert h2
    cases x <;> cases y <;> cases c <;> simp <;> omega
  · have e1 : x = false := by rw [← ex]; exact getD_past xs k (by omega)
    have e2 : y = false := by rw [← ey]; exact getD_past ys k (by omega)
    rw [e1, e2]
    rfl
theorem AddTo.done {xs ys zs : List Bool} {k : Nat} (h : AddTo xs ys zs k false) (h1 : xs.length ≤ k) (h2 : ys.length ≤ k) : val zs = val xs + val ys := by
  have := h.eq
  rw [List.take_of_length_le h1, List.take_of_length_le h2] at this
  simpa using this

/-- Behind an append onto a row of the call's own nothing that was there has changed. -/
theorem own_grown {w wr w1 : World} {t : TypeId} {v : Value} {n : Nat} {xs : List Value} {o : Obj} (HB : Below w.heap.size w wr) (own : wr.ownsRow w.heap.size t 1 v n xs) (hg : (wr.alloc o).grownBy w1 v.ownBlock) : Below w.heap.size w w1 := by
  refine (bel_alloc HB o).grown hg (by have := HB.size; simp; omega) fun g e => ?_
  rcases own.2 with ⟨rfl, _⟩ | ⟨g', cap, cur, rfl, hb, _⟩
  · cases e
  · simp [Value.ownBlock] at e
    omega

theorem own_snoc {w1 : World} {B : Nat} {t : TypeId} {v : Value} {n : Nat} {zs : List Bool} {b : Bool} (h : w1.ownsRow B t 1 v n (zs.map Value.bool ++ [Value.bool b])) : w1.ownsRow B t 1 v n ((zs ++ [b]).map Value.bool) := by
  rw [List.map_append]
  exact h

/-- What Add hands back. -/
def IsSum (xs ys zs : List Bool) : Prop := val zs = val xs + val ys ∧ max xs.length ys.length ≤ zs.length ∧ zs.length ≤ max xs.length ys.length + 1

end Go.Proofs.YtgjgcehoakacoaaGreatDoor
namespace Go.Proofs.YtgjgcehoakacoaaGreatDoor
open Go.RowKit

/-- So far so many bits of the difference, and the borrow. -/
structure SubTo (xs ys zs : List Bool) (k : Nat) (c : Bool) : Prop where
  len : zs.length = k
  eq : val zs - (if c then 2 ^ k else 0) = val (xs.take k) - val (ys.take k)
theorem SubTo.next {xs ys zs : List Bool} {k : Nat} {c : Bool} (h : SubTo xs ys zs k c) (x y : Bool) (ex : xs.getD k false = x) (ey : ys.getD k false = y) :
    SubTo xs ys (zs ++ [(x != y) != c]) (k + 1) (!x && (y || c) || x && y && c) := by
  obtain ⟨h1, h2⟩ := h
  refine ⟨by simp [h1], ?_⟩
  rw [val_snoc, val_take_succ, val_take_succ, ex, ey, h1, Int.pow_succ]
  generalize (2 : Int) ^ k = P at *
  revert h2
  cases x <;> cases y <;> cases c <;> simp <;> omega

/-- A call came back with a row and a bool of which P holds; nothing that was there has changed. -/
def RetRowB (P : List Bool → Bool → Prop) (w : World) (e : Ending) (w' : World) : Prop := ∃ (xs : List Bool) (b : Bool) (A : Option Addr) (c : Nat), P xs b ∧ e = .returned (.tuple #[.slice A xs.length c, .bool b]) ∧ xs.length ≤ c ∧ c ≤ maxLen ∧ Rd w' A xs ∧ Below w.heap.size w w'

end Go.Proofs.YtgjgcehoakacoaaGreatDoor
namespace Go.Proofs.YtgjgcehoakacoaaGreatDoor
open Go.RowKit
set_option maxRecDepth 100000

/-- The number of words, the least one first. -/
def wv : List Int → Int
  | [] => 0
  | x :: r => x + 18446744073709551616 * wv r
theorem wv_append : ∀ (xs ys : List Int), wv (xs ++ ys) = wv xs + 2 ^ (64 * xs.length) * wv ys
  | [], ys => by simp [wv]
  | x :: r, ys => by
    simp only [List.cons_append, wv, wv_append r ys, List.length_cons]
    have e : (2 : Int) ^ (64 * (r.length + 1)) = 18446744073709551616 * 2 ^ (64 * r.length) := by
      rw [show 64 * (r.length + 1) = 64 + 64 * r.length by omega, Int.pow_add]
      rfl
    rw [e, Int.mul_add, Int.mul_assoc]
    omega
theorem mod_bit (x : Int) (j : Nat) : x % 2 ^ (j + 1) = x % 2 ^ j + if x / 2 ^ j % 2 = 1 then 2 ^ j else 0 := by
  have hp := pow_pos' j
  have e : x % 2 ^ (j + 1) = x % 2 ^ j + 2 ^ j * (x / 2 ^ j % 2) := by
    rw [Int.pow_succ]
    have k1 := Int.mul_ediv_add_emod x (2 ^ j * 2)
    have k2 := Int.mul_ediv_add_emod x (2 ^ j)
    have k3 := Int.mul_ediv_add_emod (x / 2 ^ j) 2
    rw [Int.ediv_ediv_of_nonneg (Int.le_of_lt hp)] at k3
    rw [← k3, Int.mul_add, ← Int.mul_assoc] at k2
    omega
  rw [e]
  split
  · rename_i h
    rw [h, Int.mul_one]
  · rename_i h
    have : x / 2 ^ j % 2 = 0 := by omega
    rw [this, Int.mul_zero]
theorem word_mod64 {x : Int} (h : Word x) : x % 2 ^ 64 = x := Int.emod_eq_of_lt h.1 h.2

/-- The slice's address leads to the words ws. -/
def RdW (w : World) (A : Option Addr) (ws : List Int) : Prop :=
  ws = [] ∨ ∃ g off, A = some ⟨g, off, none⟩ ∧ g < w.heap.size ∧ ∀ i x, ws[i]? = some x → w.cell? ⟨g, off + i, none⟩ = some (.int .u64 x)

/-- What Of hands back. -/
def IsOf (ws : List Int) (zs : List Bool) : Prop := val zs = wv ws ∧ zs.length = 64 * ws.length

/-- So many bits of the word x behind the words before. -/
structure OfTo (ws : List Int) (i : Nat) (x : Int) (zs : List Bool) (j : Nat) : Prop where
  len : zs.length = 64 * i + j
  eq : val zs = wv (ws.take i) + 2 ^ (64 * i) * (x % 2 ^ j)
theorem OfTo.next {ws : List Int} {i : Nat} {x : Int} {zs : List Bool} {j : Nat} (h : OfTo ws i x zs j) (b : Bool) (hb : decide (x / 2 ^ j % 2 = 1) = b) : OfTo ws i x (zs ++ [b]) (j + 1) := by
  obtain ⟨h1, h2⟩ := h
  refine ⟨by simp [h1]; omega, ?_⟩
  rw [val_snoc, mod_bit, h2, h1, Int.mul_add, Int.pow_add, ← hb]
  by_cases hx : x / 2 ^ j % 2 = 1
  · simp [hx]
    omega
  · simp [hx]
theorem OfTo.done {ws : List Int} {i : Nat} {x : Int} {zs : List Bool} (h : OfTo ws i x zs 64) (hi : i < ws.length) (hx : ws[i]? = some x) (hw : Word x) : val zs = wv (ws.take (i + 1)) := by
  have e : ws[i] = x := by rw [List.getElem?_eq_getElem hi] at hx; injection hx
  rw [h.eq, word_mod64 hw, List.take_succ_eq_append_getElem hi, wv_append, List.length_take, Nat.min_eq_left (by omega), e]
  simp [wv]

end Go.Proofs.YtgjgcehoakacoaaGreatDoor
namespace Go.Proofs.YtgjgcehoakacoaaGreatDoor
open Go.RowKit

/-- A call came back with a row, in memory of its own, and a bool of which P holds; nothing that was there has changed. -/
def RetRowBF (P : List Bool → Bool → Prop) (w : World) (e : Ending) (w' : World) : Prop := ∃ (xs : List Bool) (b : Bool) (A : Option Addr) (c : Nat), P xs b ∧ e = .returned (.tuple #[.slice A xs.length c, .bool b]) ∧ xs.length ≤ c ∧ c ≤ maxLen ∧ Rd w' A xs ∧ (∀ a, A = some a → w.heap.size ≤ a.block) ∧ Below w.heap.size w w'
theorem own_row_fresh {w : World} {base : Nat} {v : Value} {n : Nat} {xs : List Bool} (h : w.ownsRow base 4 1 v n (xs.map Value.bool)) : ∃ (A : Option Addr) (c : Nat), v = .slice A xs.length c ∧ xs.length ≤ c ∧ c ≤ maxLen ∧ Rd w A xs ∧ ∀ a, A = some a → base ≤ a.block := by
  obtain ⟨A, c, e, h1, h2, h3⟩ := own_row h
  refine ⟨A, c, e, h1, h2, h3, fun a ha => ?_⟩
  subst ha
  rcases h.2 with ⟨e2, _⟩ | ⟨g, cap, cur, e2, hb, _⟩
  · rw [e2] at e
    cases e
  · rw [e2] at e
    injection e with e3
    injection e3 with e3
    subst e3
    exact hb
/-- A store elsewhere leaves a row as it was. -/
theorem Rd.far {w : World} {A : Option Addr} {xs : List Bool} (h : Rd w A xs) {p : Addr} (hp : ∀ a, A = some a → p.block ≠ a.block) (u : Value) : Rd (w.setCell p u) A xs := by
  rcases h with h | ⟨g, off, e, hg, hc⟩
  · exact .inl h
  · refine .inr ⟨g, off, e, hg.far (fun e2 => hp _ e e2.symm) u, fun i b hi => ?_⟩
    rw [World.cell?_setCell_other w p ⟨g, off + i, none⟩ u (fun e2 => hp _ e (by rw [e2]))]
    exact hc i b hi

end Go.Proofs.YtgjgcehoakacoaaGreatDoor
namespace Go.Proofs.YtgjgcehoakacoaaGreatDoor
open Go.RowKit

/-- An append of a row that is read onto a row of the call's own. -/
theorem run_append_row {P : Program} (w : World) (base : Nat) (t ty e : TypeId) (i : TypeInfo) (z : Value) (ht : P.underlying t = some (.slice e)) (hi : P.info? e = some i) (hz : i.zero = some z)
    (hsize : i.size = 1) (hby : i.bytes = 1) (hzs : z.cells.size = 1) (v : Value) (n : Nat) (xs : List Value) (hown : w.ownsRow base e 1 v n xs)
    (A : Option Addr) (c : Nat) (ys : List Bool) (hr : Rd w A ys) (h63 : n + ys.length ≤ maxLen) (hbytes : (n + ys.length) * 1 ≤ 140737488355328) (hbase : base ≤ w.heap.size) :
    ∃ v' w', (Builtin.append_ #[t, t] ty #[v, .slice A ys.length c]).run P w = .ok v' w' ∧ w'.ownsRow base e 1 v' (n + ys.length) (xs ++ ys.map Value.bool) ∧ w.grownBy w' v.ownBlock := by
  rcases A with _ | ad
  · have hy : ys = [] := by
      rcases hr with h | ⟨g, off, h, _⟩
      · exact h
      · cases h
    subst hy
    refine ⟨v, w, ?_, by simpa using hown, World.grownBy.refl w _⟩
    rcases hown.2 with ⟨rfl, rfl⟩ | ⟨g, cap, cur, rfl, _, _, hnc, _⟩
    · simp [Builtin.append_, run_underlying ht, sizeOf, typeInfo, hi, Builtin.lenOf, Builtin.firstCells]
    · simp [Builtin.append_, run_underlying ht, sizeOf, typeInfo, hi, Builtin.lenOf, Builtin.firstCells, hnc, storeCells]
  · have hcells : ∀ j u, (ys.map Value.bool)[j]? = some u → w.cell? (ad.add j) = some u := by
      intro j u hu
      rw [List.getElem?_map] at hu
      cases hj : ys[j]? with
      | none => rw [hj] at hu; cases hu
      | some b =>
        rw [hj] at hu
        injection hu with hu
        subst hu
        rcases hr with h | ⟨g, off, h, _, hc⟩
        · subst h; simp at hj
        · injection h with h
          subst h
          have := hc j b hj
          unfold Addr.add
          split
          · rename_i h0
            subst h0
            simpa using this
          · exact this
    have h1 : ∀ u ∈ ys.map Value.bool, u.oneCell' = true := by
      intro u hu
      obtain ⟨b, _, rfl⟩ := List.mem_map.1 hu
      rfl
    obtain ⟨v', w', hrun, h2, h3, _, _⟩ := run_append_own_at (P := P) w base t ty e i z 1 1 ht hi hz hsize hby hzs (by decide) v n xs hown ad ys.length c (ys.map Value.bool) (by simp) hcells h1 h63 hbytes hbase
    exact ⟨v', w', hrun, h2, h3⟩
theorem wpList_append_row {P : Program} (w : World) {ops : Array Oper} {rest : List Oper} {o : Oper} {a : Act} {Q : Exit → Act → World → Prop} (hgd : o.guard = none) (s x : Operand) (t : TypeId)
    (ho : o.op = .call { callee := .builtin .append, args := #[s, x], argTypes := #[t, t] })
    (base : Nat) (e : TypeId) (i : TypeInfo) (z : Value) (ht : P.underlying t = some (.slice e)) (hi : P.info? e = some i) (hz : i.zero = some z)
    (hsize : i.size = 1) (hby : i.bytes = 1) (hzs : z.cells.size = 1) (v : Value) (n : Nat) (xs : List Value) (hs : a.eval s = v) (hown : w.ownsRow base e 1 v n xs)
    (A : Option Addr) (c m : Nat) (ys : List Bool) (hm : ys.length = m) (hx : a.eval x = .slice A m c) (hr : Rd w A ys) (h63 : n + m ≤ maxLen) (hbytes : (n + m) * 1 ≤ 140737488355328) (hbase : base ≤ w.heap.size)
    (h : ∀ v' w', w'.ownsRow base e 1 v' (n + m) (xs ++ ys.map Value.bool) → w.grownBy w' v.ownBlock → wpList P ops Q rest (a.put o.dst v') w') : wpList P ops Q (o :: rest) a w := by
  subst hm
  refine wpList_plain hgd fun K hK => ?_
  obtain ⟨v', w', hrun, h2, h3⟩ := run_append_row (P := P) w base t o.type e i z ht hi hz hsize hby hzs v n xs hown A c ys hr h63 hbytes hbase
  unfold Oper.wp execOp
  simp only [ho, resolve, invoke, builtin, Sem.run_bind, Sem.run_pure, Result.andThen_ok, List.map_toArray, List.map_cons, List.map_nil, hs, hx, hrun]
  exact hK _ _ (h v' w' h2 h3)
theorem own_grown0 {w wr w1 : World} {t : TypeId} {v : Value} {n : Nat} {xs : List Value} (HB : Below w.heap.size w wr) (own : wr.ownsRow w.heap.size t 1 v n xs) (hg : wr.grownBy w1 v.ownBlock) : Below w.heap.size w w1 := by
  refine HB.grown hg HB.size fun g e => ?_
  rcases own.2 with ⟨rfl, _⟩ | ⟨g', cap, cur, rfl, hb, _⟩
  · cases e
  · simp [Value.ownBlock] at e
    omega

/-- The row, so many noughts ahead. -/
def IsShl (k : Nat) (xs zs : List Bool) : Prop := zs = List.replicate k false ++ xs
theorem IsShl.val {k : Nat} {xs zs : List Bool} (h : IsShl k xs zs) : val zs = 2 ^ k * YtgjgcehoakacoaaGreatDoor.val xs ∧ zs.length = k + xs.length := by
  unfold IsShl at h
  subst h
  refine ⟨?_, by simp⟩
  rw [val_append, val_replicate, List.length_replicate]
  omega

end Go.Proofs.YtgjgcehoakacoaaGreatDoor
namespace Go.Proofs.YtgjgcehoakacoaaGreatDoor
open Go.RowKit

/-- What Mul hands back. -/
def IsProd (xs ys zs : List Bool) : Prop := val zs = val xs * val ys ∧ zs.length ≤ xs.length + ys.length + 1

end Go.Proofs.YtgjgcehoakacoaaGreatDoor
namespace Go.Proofs.YtgjgcehoakacoaaGreatDoor
open Go.RowKit

/-- The cells of a row that was made. -/
def rowArr (rs : List Bool) : Array Value := (rs.map Value.bool).toArray
theorem rowArr_made (n : Nat) : madeCells #[Value.bool false] n = rowArr (List.replicate n false) := by
  apply Array.ext'
  rw [toList_madeCells_one]
  simp [rowArr]
theorem rowArr_set (rs : List Bool) (i : Nat) (b : Bool) : (rowArr rs).setIfInBounds i (.bool b) = rowArr (rs.set i b) := by
  simp [rowArr, List.map_set]
theorem rowArr_get (rs : List Bool) (i : Nat) (h : i < rs.length) : (rowArr rs)[i]? = some (.bool (rs.getD i false)) := by
  unfold rowArr
  rw [List.getElem?_toArray, List.getElem?_map, List.getD_eq_getElem?_getD, List.getElem?_eq_getElem h]
  rfl
theorem Blk.row {w : World} {g : Nat} {rs : List Bool} (h : Blk w g 4 (rowArr rs)) : Rd w (some ⟨g, 0, none⟩) rs := by
  refine .inr ⟨g, 0, rfl, h.typed, fun i b hi => ?_⟩
  have hl : i < rs.length := by
    rcases Nat.lt_or_ge i rs.length with h | h
    · exact h
    · rw [List.getElem?_eq_none h] at hi; cases hi
  rw [h.cell (0 + i), Nat.zero_add, rowArr_get rs i hl, List.getD_eq_getElem?_getD, hi]
  rfl
theorem val_set : ∀ (rs : List Bool) (i : Nat), i < rs.length → rs.getD i false = false → val (rs.set i true) = val rs + 2 ^ i
  | [], i, h, _ => by simp at h
  | b :: r, 0, _, h => by
    simp at h
    subst h
    simp [val]
    omega
  | b :: r, i + 1, h, hb => by
    have := val_set r i (by simpa using h) (by simpa using hb)
    simp only [List.set_cons_succ, val, this, Int.pow_succ]
    omega
theorem val_take_small {ys : List Bool} {n : Nat} (h : val ys < 2 ^ n) : val (ys.take n) = val ys := by
  rcases Nat.lt_or_ge ys.length n with hl | hl
  · rw [List.take_of_length_le (by omega)]
  · rw [(val_drop ys n hl).2, Int.emod_eq_of_lt (val_nonneg ys) h]

/-- A call came back with two rows of which P holds; nothing that was there has changed. -/
def RetRow2 (P : List Bool → List Bool → Prop) (w : World) (e : Ending) (w' : World) : Prop := ∃ (xs ys : List Bool) (A B : Option Addr) (c d : Nat), P xs ys ∧ e = .returned (.tuple #[.slice A xs.length c, .slice B ys.length d]) ∧ xs.length ≤ c ∧ ys.length ≤ d ∧ Rd w' A xs ∧ Rd w' B ys ∧ Below w.heap.size w w'
/-- The quotient's bits from k on are found; r is what is left of the dividend's bits from k on. -/
def DivTo (a b q r : Int) (k : Nat) : Prop := ∃ Q, q = Q * 2 ^ k ∧ Q * b + r = a / 2 ^ k ∧ 0 ≤ r ∧ r < b
theorem div_bit (xs : List Bool) (i : Nat) (h : i < xs.length) : val xs / 2 ^ i = (if xs.getD i false then 1 else 0) + 2 * (val xs / 2 ^ (i + 1)) := by
  rw [← (val_drop xs i (by omega)).1, ← (val_drop xs (i + 1) (by omega)).1, val_tail (xs.drop i), getD_drop, Nat.add_zero, List.tail_drop]
theorem DivTo.yes {xs : List Bool} {b q r : Int} {i : Nat} (h : DivTo (val xs) b q r (i + 1)) (hi : i < xs.length) (x : Bool) (hx : xs.getD i false = x) (hc : b ≤ (if x then 1 else 0) + 2 * r) : DivTo (val xs) b (q + 2 ^ i) ((if x then 1 else 0) + 2 * r - b) i := by
  obtain ⟨Q, e1, e2, r0, r1⟩ := h
  have e := div_bit xs i hi
  rw [hx] at e
  refine ⟨2 * Q + 1, ?_, ?_, by omega, ?_⟩
  · rw [e1, Int.pow_succ, Int.add_mul, ← Int.mul_assoc, Int.mul_comm 2 Q, Int.mul_right_comm]
    omega
  · rw [e, ← e2, Int.add_mul, Int.mul_assoc]
    omega
  · cases x <;> simp at * <;> omega
theorem DivTo.no {xs : List Bool} {b q r : Int} {i : Nat} (h : DivTo (val xs) b q r (i + 1)) (hi : i < xs.length) (x : Bool) (hx : xs.getD i false = x) (hc : ¬ b ≤ (if x then 1 else 0) + 2 * r) : DivTo (val xs) b q ((if x then 1 else 0) + 2 * r) i := by
  obtain ⟨Q, e1, e2, r0, r1⟩ := h
  have e := div_bit xs i hi
  rw [hx] at e
  refine ⟨2 * Q, ?_, ?_, ?_, by omega⟩
  · rw [e1, Int.pow_succ, ← Int.mul_assoc, Int.mul_comm 2 Q, Int.mul_right_comm]
  · rw [e, ← e2, Int.mul_assoc]
    omega
  · cases x <;> simp <;> omega
theorem cmp_ge {a b : Int} (h : b ≤ a) : decide (0 ≤ cmpI a b) = true := by
  simp only [decide_eq_true_eq]
  unfold cmpI
  split <;> (try split) <;> omega
theorem cmp_nge {a b : Int} (h : ¬ b ≤ a) : decide (0 ≤ cmpI a b) = false := by
  simp only [decide_eq_false_iff_not]
  unfold cmpI
  split <;> (try split) <;> omega
theorem blen_bound {v : Int} {m : Nat} (h0 : 0 ≤ v) (h1 : v < 2 ^ m) : ∃ L : Nat, blen v = (L : Int) ∧ L ≤ m ∧ v < 2 ^ L := by
  obtain ⟨k, e, lt, ge, z⟩ := blen_spec h0
  refine ⟨k, e, ?_, lt⟩
  rcases Int.lt_or_le 0 v with h | h
  · have g := (ge h).1
    rcases Nat.lt_or_ge m k with hk | hk
    · exfalso
      have := pow_mono m (k - 1) (by omega)
      omega
    · exact hk
  · rw [z (by omega)]
    omega
/-- A slice of one cell that was just built is a row of the call's own. -/
theorem own_one (wr : World) (x : Bool) : (wr.alloc (.cells #[.bool x] 4)).ownsRow wr.heap.size 4 1 (.slice (some ⟨wr.heap.size, 0, none⟩) 1 1) 1 ([x].map Value.bool) :=
  ⟨rfl, .inr ⟨wr.heap.size, 1, #[.bool x], rfl, Nat.le_refl _, heap_alloc_new wr _, Nat.le_refl _, by simp [maxLen], rfl, rfl⟩⟩

def IsQuot (a b : Int) (n m : Nat) (qs rs : List Bool) : Prop := val qs * b + val rs = a ∧ 0 ≤ val rs ∧ val rs < b ∧ qs.length = n ∧ rs.length ≤ m

end Go.Proofs.YtgjgcehoakacoaaGreatDoor
