/-
  Contract of nat's Pow: a power, or that it is too long. Conditions: the base is a word of 64 bits.
  Contract of nat's mulAdd: a number times a word, and a word more, in the number's own memory. Conditions: at most 2^20 words, each of 32 bits; the memory is the caller's own.
  Contracts of nat's isDigits, group and Parse: digits as a number. Conditions: the text has at most 20000 bytes (a longer one is told to be too long).
  Contract of slices.Reverse at bytes of the caller's own. Conditions: at most 2^20 bytes.
  Contract of nat's Text: the digits of a number. Conditions: at most 2^20 words, each of 32 bits.
-/
import Derived.Test.YtmeobamfjcjbhaaDoorMNc
import Derived.Laws.OwnMore
import Derived.Laws.BytesArg
namespace Go.Proofs.YtmeobamfjcjbhaaDoor
open Go.RowKit
set_option maxRecDepth 100000

theorem lt_blen {v : Int} {k : Nat} (h : (2 : Int) ^ k ≤ v) : (k : Int) < blen v := by
  have hp := pow_pos' k
  obtain ⟨K, e, lt, _, _⟩ := blen_spec (show 0 ≤ v by omega)
  rw [e]
  rcases Nat.lt_or_ge k K with h1 | h1
  · omega
  · have := pow_mono K k h1
    omega
theorem pow_early {X b N E : Nat} (h1 : 2 ^ (b - 1) ≤ X) (hb : 65535 / N < b - 1) (hN : 0 < N) (hE : E = 65536) : 2 ^ E ≤ X ^ N := by
  have h2 : (2 ^ (b - 1)) ^ N ≤ X ^ N := Nat.pow_le_pow_left h1 N
  rw [← Nat.pow_mul] at h2
  have h3 := Nat.div_add_mod 65535 N
  have h4 := Nat.mod_lt 65535 hN
  have h5 : (65535 / N + 1) * N ≤ (b - 1) * N := Nat.mul_le_mul_right N hb
  rw [Nat.add_mul, Nat.one_mul, Nat.mul_comm (65535 / N)] at h5
  exact Nat.le_trans (Nat.pow_le_pow_right (by decide) (by omega)) h2
theorem pow_size {X b N k E : Nat} (h1 : X < 2 ^ b) (hb : b ≤ 1 ∨ 0 < N ∧ b - 1 ≤ 65535 / N) (hk : k ≤ N) (hE : E = 131072) : X ^ k < 2 ^ E := by
  rcases Nat.lt_or_ge 1 b with h | h
  · obtain ⟨hN, hb'⟩ := hb.resolve_left (by omega)
    have h3 := Nat.div_mul_le_self 65535 N
    have h5 : (b - 1) * N ≤ 65535 / N * N := Nat.mul_le_mul_right N hb'
    have h6 : 1 * N ≤ (b - 1) * N := Nat.mul_le_mul_right N (by omega)
    have h7 : X ^ k ≤ (2 ^ b) ^ k := Nat.pow_le_pow_left (Nat.le_of_lt h1) k
    rw [← Nat.pow_mul] at h7
    have h8 : b * k ≤ b * N := Nat.mul_le_mul_left b hk
    have h9 : b * N = (b - 1) * N + N := by
      obtain ⟨c, rfl⟩ : ∃ c, b = c + 1 := ⟨b - 1, by omega⟩
      rw [Nat.add_sub_cancel, Nat.add_mul, Nat.one_mul]
    exact Nat.lt_of_le_of_lt h7 (Nat.pow_lt_pow_right (by decide) (by omega))
  · have hX : X ≤ 1 := by
      have : 2 ^ b ≤ 2 ^ 1 := Nat.pow_le_pow_right (by decide) h
      omega
    have h7 : X ^ k ≤ 1 ^ k := Nat.pow_le_pow_left hX k
    rw [Nat.one_pow] at h7
    have : 2 ^ 1 ≤ 2 ^ E := Nat.pow_le_pow_right (by decide) (by omega)
    omega

theorem and_one_i64 (a : Int) (h0 : 0 ≤ a) (h1 : a < 9223372036854775808) : bits BinOp.and IntKind.i64 a 1 = a % 2 := by
  obtain ⟨i, rfl⟩ := Int.eq_ofNat_of_zero_le h0
  have e : (BitVec.ofInt 64 (i : Int)).toNat = i := by
    rw [BitVec.ofInt_natCast, BitVec.toNat_ofNat]
    exact Nat.mod_eq_of_lt (by omega)
  show IntKind.i64.wrap ((BitVec.ofInt 64 (i : Int) &&& BitVec.ofInt 64 1).toNat : Int) = _
  rw [BitVec.toNat_and, e, show (BitVec.ofInt 64 1).toNat = 1 by decide, Nat.and_one_is_mod, IntKind.wrap_i64]
  omega

/-- What Pow hands back. -/
def powV (P : Int) : Int := if blen P ≤ 65536 then P else 0
def powE (P : Int) : Int := if blen P ≤ 65536 then 0 else 20
theorem pow_step (x : Int) (N S k : Nat) (hk : k < S) : x ^ (N / 2 ^ (S - (k + 1))) = x ^ (N / 2 ^ (S - k)) * x ^ (N / 2 ^ (S - k)) * (if N / 2 ^ (S - 1 - k) % 2 = 1 then x else 1) := by
  have e1 : S - (k + 1) = S - 1 - k := by omega
  have e2 : N / 2 ^ (S - k) = N / 2 ^ (S - 1 - k) / 2 := by
    rw [show S - k = S - 1 - k + 1 by omega, Nat.pow_succ, Nat.div_div_eq_div_mul]
  rw [e1, e2]
  generalize N / 2 ^ (S - 1 - k) = m
  have e3 : x ^ m = x ^ (m / 2 + m / 2 + m % 2) := by rw [show m / 2 + m / 2 + m % 2 = m by omega]
  rw [e3, Int.pow_add, Int.pow_add]
  rcases Nat.mod_two_eq_zero_or_one m with h | h
  · rw [h]; simp
  · rw [h, if_pos rfl, show x ^ 1 = x by rw [Int.pow_succ, Int.pow_zero, Int.one_mul]]

end Go.Proofs.YtmeobamfjcjbhaaDoor
namespace Go.Proofs.YtmeobamfjcjbhaaDoor
open Go.RowKit
set_option maxRecDepth 100000

theorem map_set (us : List Int) (i : Nat) (x : Int) : (us.map (Value.int .u32)).set i (.int .u32 x) = (us.set i x).map (Value.int .u32) := by rw [List.map_set]

/-- So many words have been multiplied; the carry. -/
structure MaTo (us zs : List Int) (f c0 : Int) (k : Nat) (cr : Int) : Prop where
  len : zs.length = us.length
  all : AllW zs
  eq : nv (zs.take k) + 2 ^ (32 * k) * cr = nv (us.take k) * f + c0
  same : ∀ j, k ≤ j → zs.getD j 0 = us.getD j 0
  car : W32 cr
theorem MaTo.next {us zs : List Int} {f c0 y : Int} {k : Nat} {cr : Int} (h : MaTo us zs f c0 k cr) (hk : k < us.length) (hf : W32 f) (hy : W32 y) (ey : us.getD k 0 = y) :
    MaTo us (zs.set k (low32 (y * f + cr))) f c0 (k + 1) (car32 (y * f + cr)) := by
  obtain ⟨h1, h2, h3, h4, h5⟩ := h
  have pb := prod_bd hf hy
  refine ⟨by rw [List.length_set, h1], h2.set _ (w32_low _), ?_, fun j hj => ?_, ?_⟩
  · rw [nv_take_succ, nv_take_succ, take_set, getD_set _ _ _ (by omega), ey, pow32]
    have e2 := mul_car (2 ^ (32 * k)) (car_low (y * f + cr))
    rw [Int.mul_add] at e2
    rw [Int.add_mul, Int.mul_assoc _ y f]
    omega
  · rw [getD_set_ne _ _ _ _ (by omega)]
    exact h4 j (by omega)
  · obtain ⟨_, _⟩ := h5
    constructor <;> unfold car32 <;> omega

/-- What mulAdd hands back. -/
def RetMa (v : Int) (n base : Nat) (w : World) (e : Ending) (w' : World) : Prop :=
  ∃ (zs : List Int) (m : Nat) (u : Value), nv zs = v ∧ AllW zs ∧ m ≤ n + 1 ∧ e = .returned u ∧ w'.ownsRow base 68 1 u m (zs.map (Value.int .u32)) ∧ Below base w w' ∧ w.heap.size ≤ w'.heap.size

end Go.Proofs.YtmeobamfjcjbhaaDoor
namespace Go.Proofs.YtmeobamfjcjbhaaDoor
open Go.RowKit
set_option maxRecDepth 100000

/-- A byte that is a digit. -/
def isDig (c : UInt8) : Bool := decide (48 ≤ c.toNat) && decide (c.toNat ≤ 57)
/-- There is a byte, and all are digits. -/
def digB (l : List UInt8) : Bool := !l.isEmpty && l.all isDig
/-- The number of digits. -/
def dval (l : List UInt8) : Int := l.foldl (fun a c => a * 10 + ((c.toNat : Int) - 48)) 0
theorem dval_snoc (l : List UInt8) (c : UInt8) : dval (l ++ [c]) = dval l * 10 + ((c.toNat : Int) - 48) := by unfold dval; rw [List.foldl_append]; rfl
theorem dval_nil : dval [] = 0 := rfl
theorem dval_one (c : UInt8) : dval [c] = (c.toNat : Int) - 48 := by have := dval_snoc [] c; rw [dval_nil, List.nil_append] at this; omega
theorem dval_append : ∀ (l m : List UInt8), dval (l ++ m) = dval l * 10 ^ m.length + dval m
  | l, [] => by simp [dval_nil]
  | l, c :: m => by
    have h1 := dval_append (l ++ [c]) m
    have h2 := dval_append [c] m
    rw [List.append_assoc, dval_snoc] at h1
    simp only [List.singleton_append] at h1 h2
    rw [h1, h2, dval_one, List.length_cons, Int.pow_succ, Int.add_mul, Int.mul_assoc, Int.mul_comm 10]
    omega
theorem dval_cons (c : UInt8) (m : List UInt8) : dval (c :: m) = ((c.toNat : Int) - 48) * 10 ^ m.length + dval m := by
  have h2 := dval_append [c] m
  rw [dval_one] at h2
  exact h2
theorem dval_bd : ∀ {l : List UInt8}, l.all isDig = true → 0 ≤ dval l ∧ dval l < 10 ^ l.length
  | [], _ => by simp [dval_nil]
  | c :: m, h => by
    simp only [List.all_cons, Bool.and_eq_true] at h
    obtain ⟨h1, h2⟩ := dval_bd h.2
    have h3 := h.1
    unfold isDig at h3
    simp only [Bool.and_eq_true, decide_eq_true_eq] at h3
    have hp : (0 : Int) < 10 ^ m.length := Int.pow_pos (by decide)
    have h4 : 0 ≤ ((c.toNat : Int) - 48) * 10 ^ m.length := Int.mul_nonneg (by omega) (Int.le_of_lt hp)
    have h5 : ((c.toNat : Int) - 48) * 10 ^ m.length ≤ 9 * 10 ^ m.length := Int.mul_le_mul_of_nonneg_right (by omega) (Int.le_of_lt hp)
    rw [dval_cons, List.length_cons, Int.pow_succ]
    omega
theorem take_snoc (s : ByteArray) (k : Nat) (h : k < s.size) : s.data.toList.take (k + 1) = s.data.toList.take k ++ [s[k]] := by
  rw [List.take_succ_eq_append_getElem (by simpa using h)]; rfl

/-- What Parse hands back. -/
def parV (l : List UInt8) : Int := if digB l then dval l else 0
def parE (l : List UInt8) : Int := if digB l then 0 else 22
end Go.Proofs.YtmeobamfjcjbhaaDoor
namespace Go.Proofs.YtmeobamfjcjbhaaDoor
open Go.RowKit
set_option maxRecDepth 100000

theorem map_set8 (us : List Int) (i : Nat) (x : Int) : (us.map (Value.int .u8)).set i (.int .u8 x) = (us.set i x).map (Value.int .u8) := by rw [List.map_set]

/-- So many pairs have changed places. -/
structure RevTo (ds es : List Int) (n k : Nat) : Prop where
  len : es.length = n
  at_ : ∀ p, p < n → es.getD p 0 = if p < k ∨ n - 1 - p < k then ds.getD (n - 1 - p) 0 else ds.getD p 0
theorem RevTo.next {ds es : List Int} {n k j : Nat} (h : RevTo ds es n k) (hj : k + j + 1 = n) (hk : k < j) : RevTo ds ((es.set k (es.getD j 0)).set j (es.getD k 0)) n (k + 1) := by
  obtain ⟨h1, h2⟩ := h
  have ek := h2 k (by omega)
  have ej := h2 j (by omega)
  rw [if_neg (by omega)] at ek ej
  refine ⟨by rw [List.length_set, List.length_set, h1], fun p hp => ?_⟩
  by_cases e1 : j = p
  · subst e1
    rw [getD_set _ _ _ (by rw [List.length_set]; omega), ek, if_pos (by omega), show n - 1 - j = k by omega]
  · rw [getD_set_ne _ _ _ _ e1]
    by_cases e2 : k = p
    · subst e2
      rw [getD_set _ _ _ (by omega), ej, if_pos (by omega), show n - 1 - k = j by omega]
    · rw [getD_set_ne _ _ _ _ e2, h2 p hp]
      by_cases e3 : p < k ∨ n - 1 - p < k
      · rw [if_pos e3, if_pos (by omega)]
      · rw [if_neg e3, if_neg (by omega)]
theorem RevTo.done {ds es : List Int} {n k : Nat} (h : RevTo ds es n k) (hd : ds.length = n) (hk : n ≤ 2 * k + 1) : es = ds.reverse := by
  obtain ⟨h1, h2⟩ := h
  apply List.ext_getElem?
  intro p
  rcases Nat.lt_or_ge p n with hp | hp
  · have e := h2 p hp
    have e2 : es.getD p 0 = ds.getD (n - 1 - p) 0 := by
      rw [e]
      split
      · rfl
      · rw [show n - 1 - p = p by omega]
    rw [List.getElem?_reverse (by omega), hd]
    rw [List.getD_eq_getElem?_getD, List.getD_eq_getElem?_getD, List.getElem?_eq_getElem (by omega), List.getElem?_eq_getElem (by omega)] at e2
    rw [List.getElem?_eq_getElem (by omega), List.getElem?_eq_getElem (by omega)]
    simpa using e2
  · rw [List.getElem?_eq_none (by omega), List.getElem?_eq_none (by rw [List.length_reverse]; omega)]

end Go.Proofs.YtmeobamfjcjbhaaDoor
namespace Go.Proofs.YtmeobamfjcjbhaaDoor
open Go.RowKit
set_option maxRecDepth 100000

/-- The number of digits, the least one first, as numbers of bytes. -/
def rvI : List Int → Int
  | [] => 0
  | d :: r => (d - 48) + 10 * rvI r
theorem rvI_snoc : ∀ (ds : List Int) (d : Int), rvI (ds ++ [d]) = rvI ds + 10 ^ ds.length * (d - 48)
  | [], d => by simp [rvI]
  | e :: r, d => by
    simp only [List.cons_append, rvI, rvI_snoc r d, List.length_cons, Int.pow_succ]
    rw [Int.mul_add, ← Int.mul_assoc, Int.mul_comm 10 (10 ^ r.length)]
    omega
/-- Each is a digit. -/
def AllD (ds : List Int) : Prop := ∀ d ∈ ds, 48 ≤ d ∧ d ≤ 57
def toU8 (d : Int) : UInt8 := UInt8.ofNat d.toNat
theorem toU8_nat {d : Int} (h : 48 ≤ d ∧ d ≤ 57) : ((toU8 d).toNat : Int) = d := by
  unfold toU8
  rw [UInt8.toNat_ofNat']
  omega
theorem dval_rev : ∀ (ds : List Int), AllD ds → dval (ds.reverse.map toU8) = rvI ds
  | [], _ => rfl
  | d :: r, h => by
    have ih := dval_rev r fun e he => h e (by simp [he])
    rw [List.reverse_cons, List.map_append, List.map_singleton, dval_snoc, ih, toU8_nat (h d (by simp))]
    simp only [rvI]
    omega
theorem dig_rev {ds : List Int} (h : AllD ds) : (ds.reverse.map toU8).all isDig = true := by
  rw [List.all_eq_true]
  intro c hc
  obtain ⟨d, hd, rfl⟩ := List.mem_map.1 hc
  have hd' := h d (by simpa using hd)
  have := toU8_nat hd'
  unfold isDig
  simp only [Bool.and_eq_true, decide_eq_true_eq]
  omega
theorem rvI_nonneg : ∀ ds : List Int, AllD ds → 0 ≤ rvI ds
  | [], _ => by simp [rvI]
  | d :: r, h => by
    have := rvI_nonneg r fun e he => h e (by simp [he])
    have := (h d (by simp)).1
    simp only [rvI]
    omega

/-- The text of a number: digits, no nought ahead. -/
structure IsText (v : Int) (l : List UInt8) : Prop where
  dig : l.all isDig = true
  val : dval l = v
  ne : l ≠ []
  zero : v = 0 → l = [48]
  head : v ≠ 0 → ∀ c, l.head? = some c → c.toNat ≠ 48
theorem dval_low {c : UInt8} {m : List UInt8} (h : (c :: m).all isDig = true) (hc : c.toNat ≠ 48) : (10 : Int) ^ m.length ≤ dval (c :: m) := by
  simp only [List.all_cons, Bool.and_eq_true] at h
  obtain ⟨h1, h2⟩ := dval_bd h.2
  have h3 := h.1
  unfold isDig at h3
  simp only [Bool.and_eq_true, decide_eq_true_eq] at h3
  have hp : (0 : Int) < 10 ^ m.length := Int.pow_pos (by decide)
  have h5 : 1 * (10 : Int) ^ m.length ≤ ((c.toNat : Int) - 48) * 10 ^ m.length := Int.mul_le_mul_of_nonneg_right (by omega) (Int.le_of_lt hp)
  rw [dval_cons]
  omega
theorem pow10_mono (a b : Nat) (h : a ≤ b) : (10 : Int) ^ a ≤ 10 ^ b := by
  have h4 : 10 ^ a ≤ 10 ^ b := Nat.pow_le_pow_right (by decide) h
  have h5 : ((10 ^ a : Nat) : Int) ≤ ((10 ^ b : Nat) : Int) := Int.ofNat_le.2 h4
  simpa using h5
theorem dval_inj : ∀ (l m : List UInt8), l.all isDig = true → m.all isDig = true → l.length = m.length → dval l = dval m → l = m
  | [], [], _, _, _, _ => rfl
  | [], _ :: _, _, _, h, _ => by simp at h
  | _ :: _, [], _, _, h, _ => by simp at h
  | c :: l, d :: m, hl, hm, hlen, h => by
    simp only [List.all_cons, Bool.and_eq_true] at hl hm
    obtain ⟨a1, a2⟩ := dval_bd hl.2
    obtain ⟨b1, b2⟩ := dval_bd hm.2
    have hc := hl.1
    have hd := hm.1
    unfold isDig at hc hd
    simp only [Bool.and_eq_true, decide_eq_true_eq] at hc hd
    have hlen' : l.length = m.length := by simpa using hlen
    rw [dval_cons, dval_cons, hlen'] at h
    rw [hlen'] at a2
    have e : c.toNat = d.toNat := by
      rcases Nat.lt_trichotomy c.toNat d.toNat with hh | hh | hh
      · have : ((c.toNat : Int) - 48 + 1) * 10 ^ m.length ≤ ((d.toNat : Int) - 48) * 10 ^ m.length := Int.mul_le_mul_of_nonneg_right (by omega) (Int.le_of_lt (Int.pow_pos (by decide)))
        rw [Int.add_mul, Int.one_mul] at this
        omega
      · exact hh
      · have : ((d.toNat : Int) - 48 + 1) * 10 ^ m.length ≤ ((c.toNat : Int) - 48) * 10 ^ m.length := Int.mul_le_mul_of_nonneg_right (by omega) (Int.le_of_lt (Int.pow_pos (by decide)))
        rw [Int.add_mul, Int.one_mul] at this
        omega
    have e2 : c = d := UInt8.toNat_inj.1 e
    subst e2
    rw [dval_inj l m hl.2 hm.2 hlen' (by omega)]
theorem IsText.eq {v : Int} {l m : List UInt8} (h : IsText v l) (k : IsText v m) : l = m := by
  by_cases hv : v = 0
  · rw [h.zero hv, k.zero hv]
  · refine dval_inj l m h.dig k.dig ?_ (by rw [h.val, k.val])
    rcases l with _ | ⟨c, l⟩
    · exact absurd rfl h.ne
    rcases m with _ | ⟨d, m⟩
    · exact absurd rfl k.ne
    have h1 := dval_low h.dig (h.head hv c rfl)
    have h2 := dval_low k.dig (k.head hv d rfl)
    have h3 := (dval_bd h.dig).2
    have h4 := (dval_bd k.dig).2
    rw [h.val] at h1 h3
    rw [k.val] at h2 h4
    simp only [List.length_cons] at h3 h4 ⊢
    rcases Nat.lt_trichotomy l.length m.length with hh | hh | hh
    · have := pow10_mono (l.length + 1) m.length (by omega)
      omega
    · omega
    · have := pow10_mono (m.length + 1) l.length (by omega)
      omega

theorem u8_info : (Tryd.prog.info? 5).map (fun i => (i.zero, i.size, i.bytes)) = some (some (.int .u8 0), 1, 1) := by kernel_rfl

theorem own_below {B : Nat} {e : TypeId} {k : Nat} {v : Value} {n : Nat} {xs : List Value} {w w' : World} (h : w.ownsRow B e k v n xs) (hb : Below w.heap.size w w') : w'.ownsRow B e k v n xs :=
  h.kept (row := none) ⟨hb.os, hb.tape, hb.output, hb.size, fun j hj _ => hb.block j hj⟩ (by cases hv : v.ownBlock <;> simp)
/-- A row of bytes grows: words stay. -/
theorem TB.ne {w : World} {A : Option Addr} {B n : Nat} {v : Value} {xs : List Value} (h : TB w A) (own : w.ownsRow B 5 1 v n xs) : ∀ a, A = some a → some a.block ≠ v.ownBlock := fun a ha e => by
  obtain ⟨cs, hb⟩ := h a ha
  rcases own.2 with ⟨rfl, _⟩ | ⟨g, cap, cur, rfl, _, hh, _⟩
  · cases e
  · simp only [Value.ownBlock, Option.some.injEq] at e
    unfold Blk at hb
    rw [e, hh] at hb
    injection hb with hb
    injection hb with _ h2 _
    exact absurd h2 (by decide)
theorem TB.alloc {w : World} {A : Option Addr} (h : TB w A) (o : Obj) : TB (w.alloc o) A := fun a ha => by
  obtain ⟨cs, hb⟩ := h a ha
  exact ⟨cs, hb.alloc o⟩
theorem TB.grown {w w' : World} {A : Option Addr} {row : Option Nat} (h : TB w A) (hg : w.grownBy w' row) (hne : ∀ a, A = some a → some a.block ≠ row) : TB w' A := fun a ha => by
  obtain ⟨cs, hb⟩ := h a ha
  exact ⟨cs, (hg.block a.block hb.lt (hne a ha)).trans hb⟩
theorem Rn.grown {w w' : World} {A : Option Addr} {ws : List Int} {row : Option Nat} (h : Rn w A ws) (hg : w.grownBy w' row) (hne : ∀ a, A = some a → some a.block ≠ row) : Rn w' A ws := by
  rcases h with h | ⟨g, off, e, hl, hc⟩
  · exact .inl h
  · refine .inr ⟨g, off, e, Nat.lt_of_lt_of_le hl hg.size, fun i x hi => ?_⟩
    exact hg.cell (hc i x hi) (show some g ≠ row from hne _ e)

/-- The group so far, behind the digits. -/
structure TxIn (V v g : Int) (ds : List Int) (m j : Nat) : Prop where
  len : ds.length = m + j
  dig : AllD ds
  eq : v * 10 ^ (m + 9) + g * 10 ^ (m + j) + rvI ds = V
  g0 : 0 ≤ g
  g1 : g < 10 ^ (9 - j)
  le : j ≤ 9
theorem TxIn.next {V v g : Int} {ds : List Int} {m j : Nat} (h : TxIn V v g ds m j) (hj : j < 9) : TxIn V v (g / 10) (ds ++ [48 + g % 10]) m (j + 1) := by
  obtain ⟨h1, h2, h3, h4, h5, h6⟩ := h
  refine ⟨by rw [List.length_append, h1]; simp; omega, fun d hd => ?_, ?_, by omega, ?_, hj⟩
  · rcases List.mem_append.1 hd with hd | hd
    · exact h2 d hd
    · simp at hd
      omega
  · rw [rvI_snoc, h1, ← Nat.add_assoc, Int.pow_succ 10 (m + j)]
    have e : g * 10 ^ (m + j) = g / 10 * (10 ^ (m + j) * 10) + 10 ^ (m + j) * (g % 10) := by
      have e1 : g = g / 10 * 10 + g % 10 := by omega
      have e2 : g * 10 ^ (m + j) = (g / 10 * 10 + g % 10) * 10 ^ (m + j) := by rw [← e1]
      rw [e2, Int.add_mul, Int.mul_assoc, Int.mul_comm 10, Int.mul_comm (g % 10)]
    rw [show 48 + g % 10 - 48 = g % 10 by omega]
    omega
  · have e : (10 : Int) ^ (9 - j) = 10 ^ (9 - (j + 1)) * 10 := by rw [show 9 - j = (9 - (j + 1)) + 1 by omega, Int.pow_succ]
    rw [e] at h5
    omega

theorem pow2_10 (m : Nat) : (2 : Int) ^ m ≤ 10 ^ m := by
  have h4 : 2 ^ m ≤ 10 ^ m := Nat.pow_le_pow_left (by decide) m
  have h5 : ((2 ^ m : Nat) : Int) ≤ ((10 ^ m : Nat) : Int) := Int.ofNat_le.2 h4
  simpa using h5
/-- Not more digits than bits. -/
theorem dig_bound {V v r : Int} {m b : Nat} (e : v * 10 ^ m + r = V) (hv : 0 < v) (hr : 0 ≤ r) (hV : V < 2 ^ b) : m < b := by
  have h1 := pow2_10 m
  have h2 : 1 * (10 : Int) ^ m ≤ v * 10 ^ m := Int.mul_le_mul_of_nonneg_right (by omega) (Int.le_of_lt (Int.pow_pos (by decide)))
  rcases Nat.lt_or_ge m b with h | h
  · exact h
  · have := pow_mono b m h
    omega

end Go.Proofs.YtmeobamfjcjbhaaDoor
