/-
  Numbers as lists of words of 32 bits, the least one first: their values, what is left without noughts at the end, and how they lie in memory. No function of the program.
-/
import Derived.Test.YtgjgcehoakacoaaGreatDoorBase
namespace Go.Proofs.YtgjgcehoakacoaaGreatDoor
open Go.RowKit

/-- The number of a list of words. -/
def nv : List Int → Int
  | [] => 0
  | x :: r => x + 4294967296 * nv r
/-- Each is a word of 32 bits. -/
def AllW (ws : List Int) : Prop := ∀ x ∈ ws, W32 x
theorem AllW.nil : AllW [] := fun _ h => by cases h
theorem AllW.head {x : Int} {r : List Int} (h : AllW (x :: r)) : W32 x := h x (by simp)
theorem AllW.tail {x : Int} {r : List Int} (h : AllW (x :: r)) : AllW r := fun y hy => h y (by simp [hy])
theorem AllW.cons {x : Int} {r : List Int} (h : W32 x) (k : AllW r) : AllW (x :: r) := fun y hy => by
  rcases List.mem_cons.1 hy with rfl | hy
  · exact h
  · exact k y hy
theorem AllW.take {ws : List Int} (h : AllW ws) (k : Nat) : AllW (ws.take k) := fun x hx => h x (List.mem_of_mem_take hx)
theorem AllW.drop {ws : List Int} (h : AllW ws) (k : Nat) : AllW (ws.drop k) := fun x hx => h x (List.mem_of_mem_drop hx)
theorem AllW.append {us vs : List Int} (h : AllW us) (k : AllW vs) : AllW (us ++ vs) := fun x hx => by
  rcases List.mem_append.1 hx with hx | hx
  · exact h x hx
  · exact k x hx
theorem AllW.getD {ws : List Int} (h : AllW ws) (i : Nat) : W32 (ws.getD i 0) := by
  rw [List.getD_eq_getElem?_getD]
  cases e : ws[i]? with
  | none => exact ⟨by decide, by decide⟩
  | some x => exact h x (List.mem_of_getElem? e)
theorem AllW.set {ws : List Int} (h : AllW ws) (i : Nat) {x : Int} (hx : W32 x) : AllW (ws.set i x) := fun y hy => by
  rcases List.mem_or_eq_of_mem_set hy with hy | rfl
  · exact h y hy
  · exact hx
theorem AllW.zeros (n : Nat) : AllW (List.replicate n 0) := fun x hx => by
  rw [List.eq_of_mem_replicate hx]
  exact ⟨by decide, by decide⟩
theorem nv_nonneg : ∀ ws : List Int, AllW ws → 0 ≤ nv ws
  | [], _ => by simp [nv]
  | x :: r, h => by have := nv_nonneg r h.tail; have := h.head.1; simp only [nv]; omega
theorem pow32 (k : Nat) : (2 : Int) ^ (32 * (k + 1)) = 2 ^ (32 * k) * 4294967296 := by
  rw [show 32 * (k + 1) = 32 * k + 32 by omega, Int.pow_add]
  rfl
theorem nv_lt : ∀ ws : List Int, AllW ws → nv ws < 2 ^ (32 * ws.length)
  | [], _ => by simp [nv]
  | x :: r, h => by
    have := nv_lt r h.tail
    have := h.head.2
    simp only [nv, List.length_cons, pow32]
    omega
theorem nv_append : ∀ xs ys : List Int, nv (xs ++ ys) = nv xs + 2 ^ (32 * xs.length) * nv ys
  | [], ys => by simp [nv]
  | x :: r, ys => by
    simp only [List.cons_append, nv, nv_append r ys, List.length_cons, pow32]
    rw [Int.mul_right_comm]
    omega
theorem nv_zeros (n : Nat) : nv (List.replicate n 0) = 0 := by
  induction n with
  | zero => rfl
  | succ n ih => simp [List.replicate_succ, nv, ih]
theorem nv_snoc (xs : List Int) (x : Int) : nv (xs ++ [x]) = nv xs + 2 ^ (32 * xs.length) * x := by
  rw [nv_append]
  simp [nv]
theorem getD0_past (ws : List Int) (j : Nat) (h : ws.length ≤ j) : ws.getD j 0 = 0 := by rw [List.getD_eq_getElem?_getD, List.getElem?_eq_none h]; rfl
theorem getD0_tail (ws : List Int) (j : Nat) : ws.getD (j + 1) 0 = ws.tail.getD j 0 := by cases ws <;> rfl
theorem getD0_drop (xs : List Int) (k j : Nat) : (xs.drop k).getD j 0 = xs.getD (k + j) 0 := by
  rw [List.getD_eq_getElem?_getD, List.getD_eq_getElem?_getD, List.getElem?_drop]
theorem getD0_take (xs : List Int) (k j : Nat) : (xs.take k).getD j 0 = if j < k then xs.getD j 0 else 0 := by
  rw [List.getD_eq_getElem?_getD, List.getD_eq_getElem?_getD, List.getElem?_take]
  split <;> rfl
theorem nv_tail (ws : List Int) : nv ws = ws.getD 0 0 + 4294967296 * nv ws.tail := by cases ws <;> simp [nv]
theorem nv_take_succ (ws : List Int) (k : Nat) : nv (ws.take (k + 1)) = nv (ws.take k) + 2 ^ (32 * k) * ws.getD k 0 := by
  by_cases h : k < ws.length
  · rw [List.take_succ_eq_append_getElem h, nv_snoc, List.length_take, Nat.min_eq_left (by omega), List.getD_eq_getElem?_getD, List.getElem?_eq_getElem h]
    rfl
  · rw [List.take_of_length_le (by omega), List.take_of_length_le (by omega), getD0_past ws k (by omega)]
    simp
theorem nv_take_drop (xs : List Int) (k : Nat) (hk : k ≤ xs.length) : nv xs = nv (xs.take k) + 2 ^ (32 * k) * nv (xs.drop k) := by
  have h := nv_append (xs.take k) (xs.drop k)
  rw [List.take_append_drop, List.length_take, Nat.min_eq_left hk] at h
  exact h
theorem nv_set : ∀ (ws : List Int) (i : Nat) (x : Int), i < ws.length → nv (ws.set i x) = nv ws + 2 ^ (32 * i) * (x - ws.getD i 0)
  | [], i, _, h => by simp at h
  | y :: r, 0, x, _ => by simp [nv]; omega
  | y :: r, i + 1, x, h => by
    have := nv_set r i x (by simpa using h)
    simp only [List.set_cons_succ, nv, this, pow32, List.getD_cons_succ]
    rw [Int.mul_right_comm]
    omega
theorem nv_all_zero : ∀ ws : List Int, (∀ j, ws.getD j 0 = 0) → nv ws = 0
  | [], _ => rfl
  | x :: r, h => by
    have h0 := h 0
    have h1 := nv_all_zero r fun j => h (j + 1)
    simp at h0
    simp [nv, h0, h1]
theorem nv_high {ws : List Int} {k : Nat} (hk : k ≤ ws.length) (h : ∀ j, k ≤ j → ws.getD j 0 = 0) : nv ws = nv (ws.take k) := by
  rw [nv_take_drop ws k hk, nv_all_zero (ws.drop k) fun j => by rw [getD0_drop]; exact h _ (by omega)]
  simp
theorem nv_same : ∀ us vs : List Int, (∀ j, us.getD j 0 = vs.getD j 0) → nv us = nv vs
  | [], vs, h => (nv_all_zero vs fun j => (h j).symm).symm
  | x :: r, vs, h => by
    have h0 := h 0
    have h1 := nv_same r vs.tail fun j => by rw [← getD0_tail]; exact h (j + 1)
    rw [nv_tail (x :: r), nv_tail vs, ← h0, ← h1]
    rfl
theorem nv_diff : ∀ (i : Nat) (us vs : List Int), AllW us → AllW vs → (∀ j, i < j → us.getD j 0 = vs.getD j 0) → vs.getD i 0 < us.getD i 0 → nv vs < nv us
  | 0, us, vs, _, _, h, hx => by
    have h1 := nv_same us.tail vs.tail fun j => by rw [← getD0_tail, ← getD0_tail]; exact h (j + 1) (by omega)
    rw [nv_tail us, nv_tail vs, h1]
    omega
  | i + 1, us, vs, hu, hv, h, hx => by
    have tu : AllW us.tail := fun y hy => hu y (List.mem_of_mem_tail hy)
    have tv : AllW vs.tail := fun y hy => hv y (List.mem_of_mem_tail hy)
    have h1 := nv_diff i us.tail vs.tail tu tv (fun j hj => by rw [← getD0_tail, ← getD0_tail]; exact h (j + 1) (by omega)) (by rw [← getD0_tail, ← getD0_tail]; exact hx)
    rw [nv_tail us, nv_tail vs]
    have := (hu.getD 0).1
    have := (hv.getD 0).2
    omega

/-- How many words there are without noughts at the end. -/
def tlen : List Int → Nat
  | [] => 0
  | x :: r => if tlen r = 0 ∧ x = 0 then 0 else tlen r + 1
theorem tlen_le : ∀ ws : List Int, tlen ws ≤ ws.length
  | [] => by simp [tlen]
  | x :: r => by have := tlen_le r; simp only [tlen, List.length_cons]; split <;> omega
theorem tlen_high : ∀ (ws : List Int) (j : Nat), tlen ws ≤ j → ws.getD j 0 = 0
  | [], j, _ => by simp
  | x :: r, j, h => by
    simp only [tlen] at h
    split at h
    · rename_i e
      rcases j with _ | j
      · simpa using e.2
      · exact tlen_high r j (by omega)
    · rcases j with _ | j
      · omega
      · exact tlen_high r j (by omega)
theorem tlen_top : ∀ (ws : List Int), 0 < tlen ws → ws.getD (tlen ws - 1) 0 ≠ 0
  | [], h => by simp [tlen] at h
  | x :: r, h => by
    have ih := tlen_top r
    simp only [tlen] at h ⊢
    split
    · rename_i e
      rw [if_pos e] at h
      omega
    · rename_i e
      rcases Nat.eq_zero_or_pos (tlen r) with h0 | h0
      · rw [h0]
        simp
        intro hx
        exact e ⟨h0, hx⟩
      · rw [show tlen r + 1 - 1 = (tlen r - 1) + 1 by omega, List.getD_cons_succ]
        exact ih h0
theorem tlen_eq {ws : List Int} {k : Nat} (h : ∀ j, k ≤ j → ws.getD j 0 = 0) (h1 : 0 < k → ws.getD (k - 1) 0 ≠ 0) : tlen ws = k := by
  rcases Nat.lt_trichotomy (tlen ws) k with h2 | h2 | h2
  · exact absurd (tlen_high ws (k - 1) (by omega)) (h1 (by omega))
  · exact h2
  · exact absurd (h (tlen ws - 1) (by omega)) (tlen_top ws (by omega))
theorem nv_trim (ws : List Int) : nv (ws.take (tlen ws)) = nv ws := (nv_high (tlen_le ws) (tlen_high ws)).symm
theorem length_trim (ws : List Int) : (ws.take (tlen ws)).length = tlen ws := by rw [List.length_take, Nat.min_eq_left (tlen_le ws)]
theorem tlen_trim (ws : List Int) : tlen (ws.take (tlen ws)) = tlen ws := by
  refine tlen_eq (fun j hj => ?_) fun h => ?_
  · rw [getD0_take, if_neg (by omega)]
  · rw [getD0_take, if_pos (by omega)]
    exact tlen_top ws h
theorem tlen_pos {ws : List Int} (h : AllW ws) (hk : 0 < tlen ws) : (2 : Int) ^ (32 * (tlen ws - 1)) ≤ nv ws := by
  have h1 := tlen_top ws hk
  obtain ⟨k, e⟩ : ∃ k, tlen ws = k + 1 := ⟨tlen ws - 1, by omega⟩
  rw [← nv_trim ws, e, nv_take_succ]
  rw [e] at h1
  simp only [Nat.add_sub_cancel] at h1 ⊢
  have h2 := nv_nonneg _ (h.take k)
  have h3 := (h.getD k).1
  have h4 : (2 : Int) ^ (32 * k) * 1 ≤ 2 ^ (32 * k) * ws.getD k 0 := Int.mul_le_mul_of_nonneg_left (by omega) (Int.le_of_lt (pow_pos' _))
  omega
theorem tlen_lt (ws : List Int) (h : AllW ws) : nv ws < 2 ^ (32 * tlen ws) := by
  have := nv_lt _ (h.take (tlen ws))
  rw [nv_trim, length_trim] at this
  exact this
theorem nv_zero_iff {ws : List Int} (h : AllW ws) : nv ws = 0 ↔ tlen ws = 0 := by
  constructor
  · intro e
    rcases Nat.eq_zero_or_pos (tlen ws) with h0 | h0
    · exact h0
    · have := tlen_pos h h0
      have := pow_pos' (32 * (tlen ws - 1))
      omega
  · intro e
    rw [← nv_trim ws, e]
    rfl
theorem pow32_lt {a b : Nat} (h : (2 : Int) ^ (32 * a) < 2 ^ (32 * b)) : a < b := by
  rcases Nat.lt_or_ge a b with h1 | h1
  · exact h1
  · have := pow_mono (32 * b) (32 * a) (by omega)
    omega
/-- The number decides how many words there are. -/
theorem tlen_nv {us vs : List Int} (hu : AllW us) (hv : AllW vs) (h : nv us < nv vs ∨ nv us = nv vs) : tlen us ≤ tlen vs := by
  rcases Nat.lt_or_ge (tlen vs) (tlen us) with h1 | h1
  · have h2 := tlen_pos hu (by omega)
    have h3 := tlen_lt vs hv
    have := pow_mono (32 * tlen vs) (32 * (tlen us - 1)) (by omega)
    omega
  · exact h1
theorem tlen_bound {us : List Int} {k : Nat} (hu : AllW us) (h : nv us < 2 ^ (32 * k)) : tlen us ≤ k := by
  rcases Nat.lt_or_ge k (tlen us) with h1 | h1
  · have h2 := tlen_pos hu (by omega)
    have := pow_mono (32 * k) (32 * (tlen us - 1)) (by omega)
    omega
  · exact h1
theorem nv_inj : ∀ us vs : List Int, AllW us → AllW vs → us.length = vs.length → nv us = nv vs → us = vs
  | [], [], _, _, _, _ => rfl
  | [], _ :: _, _, _, h, _ => by simp at h
  | _ :: _, [], _, _, h, _ => by simp at h
  | x :: r, y :: s, hu, hv, hl, h => by
    simp only [nv] at h
    have h1 := hu.head.1; have h2 := hu.head.2; have h3 := hv.head.1; have h4 := hv.head.2
    have e1 : x = y := by omega
    subst e1
    rw [nv_inj r s hu.tail hv.tail (by simpa using hl) (by omega)]

/-- A number's words: none is nought at the end. -/
structure IsNat (v : Int) (ws : List Int) : Prop where
  val : nv ws = v
  all : AllW ws
  trim : tlen ws = ws.length
theorem IsNat.of_trim {ws : List Int} (h : AllW ws) : IsNat (nv ws) (ws.take (tlen ws)) := ⟨nv_trim ws, h.take _, by rw [tlen_trim, length_trim]⟩
theorem IsNat.eq {v : Int} {us vs : List Int} (h : IsNat v us) (k : IsNat v vs) : us = vs := by
  have e : nv us = nv vs := by rw [h.val, k.val]
  refine nv_inj us vs h.all k.all ?_ e
  have h1 := tlen_nv h.all k.all (.inr e)
  have h2 := tlen_nv k.all h.all (.inr e.symm)
  have := h.trim; have := k.trim
  omega
theorem IsNat.nonneg {v : Int} {us : List Int} (h : IsNat v us) : 0 ≤ v := by rw [← h.val]; exact nv_nonneg _ h.all
theorem IsNat.le {v : Int} {us : List Int} {k : Nat} (h : IsNat v us) (hv : v < 2 ^ (32 * k)) : us.length ≤ k := by
  rw [← h.trim]
  exact tlen_bound h.all (by rw [h.val]; exact hv)
theorem IsNat.zero {us : List Int} (h : IsNat 0 us) : us = [] := by
  have := (nv_zero_iff h.all).1 h.val
  rw [h.trim] at this
  exact List.eq_nil_of_length_eq_zero this
theorem IsNat.nil : IsNat 0 [] := ⟨rfl, AllW.nil, rfl⟩
theorem IsNat.pos {v : Int} {us : List Int} (h : IsNat v us) (hl : us.length ≠ 0) : 0 < v := by
  have := (nv_zero_iff h.all).2
  have h1 := h.trim
  have h2 := h.nonneg
  have h3 : v ≠ 0 := fun e => hl (by rw [← h1]; exact (nv_zero_iff h.all).1 (by rw [h.val, e]))
  omega

/-- The slice's address leads to the words ws. -/
def Rn (w : World) (A : Option Addr) (ws : List Int) : Prop :=
  ws = [] ∨ ∃ g off, A = some ⟨g, off, none⟩ ∧ g < w.heap.size ∧ ∀ i x, ws[i]? = some x → w.cell? ⟨g, off + i, none⟩ = some (.int .u32 x)
theorem Rn.below {w w' : World} {A : Option Addr} {ws : List Int} {B : Nat} (h : Rn w A ws) (hb : Below B w w') (hB : w.heap.size ≤ B) : Rn w' A ws := by
  rcases h with h | ⟨g, off, e, hg, hc⟩
  · exact .inl h
  · exact .inr ⟨g, off, e, Nat.lt_of_lt_of_le hg hb.size, fun i b hi => (hb.cell (p := ⟨g, off + i, none⟩) (by show g < B; omega)).trans (hc i b hi)⟩
theorem Rn.old {w w' : World} {A : Option Addr} {ws : List Int} {B : Nat} (h : Rn w A ws) (hb : Below B w w') (hB : ∀ a, A = some a → a.block < B) : Rn w' A ws := by
  rcases h with h | ⟨g, off, e, hg, hc⟩
  · exact .inl h
  · exact .inr ⟨g, off, e, Nat.lt_of_lt_of_le hg hb.size, fun i b hi => (hb.cell (p := ⟨g, off + i, none⟩) (by show g < B; exact hB _ e)).trans (hc i b hi)⟩
theorem Rn.alloc {w : World} {A : Option Addr} {ws : List Int} (h : Rn w A ws) (o : Obj) : Rn (w.alloc o) A ws := h.below (bel_alloc (Below.refl _ _) o) (Nat.le_refl _)
theorem Rn.drew {w : World} {A : Option Addr} {ws : List Int} (h : Rn w A ws) : Rn w.drew A ws := h
theorem Rn.at_ {w : World} {A : Option Addr} {ws : List Int} (h : Rn w A ws) {i : Nat} (hi : i < ws.length) : ∃ g off, A = some ⟨g, off, none⟩ ∧ g < w.heap.size ∧ w.cell? ⟨g, off + i, none⟩ = some (.int .u32 (ws.getD i 0)) := by
  rcases h with h | ⟨g, off, e, hg, hc⟩
  · subst h; simp at hi
  · exact ⟨g, off, e, hg, hc i _ (by rw [List.getD_eq_getElem?_getD, List.getElem?_eq_getElem hi]; rfl)⟩
theorem Rn.cell {w : World} {g off : Nat} {ws : List Int} (h : Rn w (some ⟨g, off, none⟩) ws) {i : Nat} (hi : i < ws.length) : w.cell? ⟨g, off + i, none⟩ = some (.int .u32 (ws.getD i 0)) := by
  obtain ⟨g', off', e, _, hc⟩ := h.at_ hi
  injection e with e
  injection e with e1 e2
  subst e1 e2
  exact hc
theorem Rn.take {w : World} {A : Option Addr} {ws : List Int} (h : Rn w A ws) (k : Nat) : Rn w A (ws.take k) := by
  rcases h with h | ⟨g, off, e, hg, hc⟩
  · subst h; exact .inl (by simp)
  · refine .inr ⟨g, off, e, hg, fun i b hi => hc i b ?_⟩
    rw [List.getElem?_take] at hi
    split at hi
    · exact hi
    · cases hi
theorem Rn.dropAt {w : World} {g off : Nat} {ws : List Int} (h : Rn w (some ⟨g, off, none⟩) ws) (k : Nat) : Rn w (some ⟨g, off + k, none⟩) (ws.drop k) := by
  rcases h with h | ⟨g', off', e, hg, hc⟩
  · subst h; exact .inl (by simp)
  · injection e with e
    injection e with e1 e2
    subst e1 e2
    refine .inr ⟨_, _, rfl, hg, fun i b hi => ?_⟩
    rw [List.getElem?_drop] at hi
    rw [Nat.add_assoc]
    exact hc _ b hi
theorem Rn.far {w : World} {A : Option Addr} {ws : List Int} (h : Rn w A ws) {p : Addr} (hp : ∀ a, A = some a → p.block ≠ a.block) (u : Value) : Rn (w.setCell p u) A ws := by
  rcases h with h | ⟨g, off, e, hg, hc⟩
  · exact .inl h
  · refine .inr ⟨g, off, e, by simpa [World.setCell] using hg, fun i b hi => ?_⟩
    rw [World.cell?_setCell_other w p ⟨g, off + i, none⟩ u (fun e2 => hp _ e (by rw [e2]))]
    exact hc i b hi

/-- A call came back with a number in memory of its own; nothing that was there has changed. -/
def RetN (v : Int) (w : World) (e : Ending) (w' : World) : Prop :=
  ∃ (ws : List Int) (A : Option Addr) (n c : Nat), IsNat v ws ∧ ws.length = n ∧ e = .returned (.slice A n c) ∧ n ≤ c ∧ Rn w' A ws ∧ (∀ a, A = some a → w.heap.size ≤ a.block) ∧ Below w.heap.size w w'

/-- The cells of words. -/
def wordArr (ws : List Int) : Array Value := (ws.map (Value.int .u32)).toArray
theorem wordArr_set (ws : List Int) (i : Nat) (x : Int) : (wordArr ws).setIfInBounds i (.int .u32 x) = wordArr (ws.set i x) := by
  simp [wordArr, List.map_set]
theorem wordArr_get (ws : List Int) (i : Nat) (h : i < ws.length) : (wordArr ws)[i]? = some (.int .u32 (ws.getD i 0)) := by
  unfold wordArr
  rw [List.getElem?_toArray, List.getElem?_map, List.getD_eq_getElem?_getD, List.getElem?_eq_getElem h]
  rfl
theorem wordArr_made (n : Nat) : madeCells #[Value.int .u32 0] n = wordArr (List.replicate n 0) := by
  apply Array.ext'
  rw [toList_madeCells_one]
  simp [wordArr]
theorem Blk.words {w : World} {g : Nat} {ws : List Int} (h : Blk w g 147 (wordArr ws)) : Rn w (some ⟨g, 0, none⟩) ws := by
  refine .inr ⟨g, 0, rfl, h.lt, fun i b hi => ?_⟩
  have hl : i < ws.length := by
    rcases Nat.lt_or_ge i ws.length with h | h
    · exact h
    · rw [List.getElem?_eq_none h] at hi; cases hi
  rw [h.cell (0 + i), Nat.zero_add, wordArr_get ws i hl, List.getD_eq_getElem?_getD, hi]
  rfl
theorem Blk.word {w : World} {g : Nat} {ws : List Int} (h : Blk w g 147 (wordArr ws)) {i : Nat} (hi : i < ws.length) : w.cell? ⟨g, i, none⟩ = some (.int .u32 (ws.getD i 0)) := (h.cell i).trans (wordArr_get ws i hi)
theorem u32_info : (Tryz.prog.info? 147).map (fun i => (i.zero, i.size, i.bytes)) = some (some (.int .u32 0), 1, 4) := by kernel_rfl
theorem run_make_nat (N : Int) (n : Nat) (hN : N = (n : Int)) (hn : n ≤ 1099511627776) (rs : List Int) (hr : rs = List.replicate n 0) (w : World) :
    (Instr.makeSlice 120 (.int .i64 N) (.int .i64 N)).run Tryz.prog w = .ok (.slice (some ⟨w.heap.size, 0, none⟩) n n) (w.alloc (.cells (wordArr rs) 147)) := by
  obtain ⟨i0, hi, hz0, hz1, hz2⟩ := info_parts u32_info
  subst hN hr
  have h := run_make (P := Tryz.prog) w 120 147 i0 (.int .u32 0) Tryz.underlying120 hi hz0 .i64 .i64 (n : Int) (n : Int) (by omega) (by omega) (by rw [hz2]; omega) (by omega)
  rw [Int.toNat_natCast, hz1, Nat.mul_one] at h
  rw [← wordArr_made]
  exact h
end Go.Proofs.YtgjgcehoakacoaaGreatDoor
