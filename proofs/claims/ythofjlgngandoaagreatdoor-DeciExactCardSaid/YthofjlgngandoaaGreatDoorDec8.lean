/-
  Decimal literals: what is read of one, how digits and a power of ten are laid out, and that what is laid out is read as the same number. No function of the program.
-/
import Derived.Test.YthofjlgngandoaaGreatDoorMNd
import Derived.Lib.IndexAny
import Derived.Lib.IndexMore
import Derived.Lib.Strings
import Derived.Lib.TrimByte
import Derived.Lib.Repeat
import Derived.Lib.ItoaNum
namespace Go.Proofs.YthofjlgngandoaaGreatDoor
open Go.RowKit
set_option maxRecDepth 100000

/-- A power of ten, its exponent at most 1000. -/
def clampE (l : List UInt8) : Int := l.foldl (fun n c => min (n * 10 + ((c.toNat : Int) - 48)) 1000) 0
/-- The digits of an exponent, whether it is one, and its value. -/
def rxD (l : List UInt8) : List UInt8 := if Lib.hasPrefix l [45] then Lib.trimPrefix l [45] else Lib.trimPrefix l [43]
def rxOk (l : List UInt8) : Bool := digB (rxD l)
def rxV (l : List UInt8) : Int := if rxOk l then (if Lib.hasPrefix l [45] then -clampE (rxD l) else clampE (rxD l)) else 0
/-- Of a literal: where its letter stands, what is ahead of it, its power, its digits ahead of and behind the point. -/
def rdI (l : List UInt8) : Int := Lib.indexAny l [101, 69]
def rdS (l : List UInt8) : List UInt8 := if 0 ≤ rdI l then l.take (rdI l).toNat else l
def rdX (l : List UInt8) : List UInt8 := l.drop ((rdI l).toNat + 1)
def rdP (l : List UInt8) : Int := if 0 ≤ rdI l then rxV (rdX l) else 0
def rdXk (l : List UInt8) : Bool := decide (rdI l < 0) || rxOk (rdX l)
def rdC (l : List UInt8) : List UInt8 × List UInt8 × Bool := Lib.cut (rdS l) [46]
def rdOk (l : List UInt8) : Bool := rdXk l && (digB (rdC l).1 && (!(rdC l).2.2 || digB (rdC l).2.1))
def rdD (l : List UInt8) : List UInt8 := (rdC l).1 ++ (rdC l).2.1
def rdE (l : List UInt8) : Int := rdP l - (rdC l).2.1.length

/-- The digits of a number, reckoned step by step. -/
def decF : Nat → Nat → List UInt8
  | 0, u => [UInt8.ofNat (48 + u)]
  | k + 1, u => if u < 10 then [UInt8.ofNat (48 + u)] else decF k (u / 10) ++ [UInt8.ofNat (48 + u % 10)]
theorem decF_is : ∀ (k u : Nat), u < 10 ^ k → Lib.decDigits u = decF k u
  | 0, u, h => by
    rw [Nat.pow_zero] at h
    obtain rfl : u = 0 := by omega
    rw [Lib.decDigits, dif_pos (by decide)]
    rfl
  | k + 1, u, h => by
    rw [Lib.decDigits]
    unfold decF
    by_cases h1 : u < 10
    · rw [dif_pos h1, if_pos h1]
    · rw [dif_neg h1, if_neg h1, decF_is k (u / 10) (by rw [Nat.pow_succ] at h; omega)]

theorem dig_of (u : Nat) (h : u < 10) : isDig (UInt8.ofNat (48 + u)) = true ∧ ((UInt8.ofNat (48 + u)).toNat : Int) = 48 + u := by
  have e : (UInt8.ofNat (48 + u)).toNat = 48 + u := by rw [UInt8.toNat_ofNat']; omega
  unfold isDig
  rw [e]
  simp
  omega
theorem dec_dig (u : Nat) : (Lib.decDigits u).all isDig = true ∧ dval (Lib.decDigits u) = (u : Int) := by
  induction u using Nat.strongRecOn with
  | _ u ih =>
    by_cases h : u < 10
    · rw [Lib.decDigits, dif_pos h]
      obtain ⟨a, b⟩ := dig_of u h
      refine ⟨by simpa using a, ?_⟩
      rw [dval_one, b]
      omega
    · rw [Lib.decDigits, dif_neg h]
      obtain ⟨a, b⟩ := ih (u / 10) (by omega)
      obtain ⟨c, d⟩ := dig_of (u % 10) (by omega)
      refine ⟨by rw [List.all_append, a]; simpa using c, ?_⟩
      rw [dval_snoc, b, d]
      omega
theorem dec_len (u : Nat) : 1 ≤ (Lib.decDigits u).length := by rw [Lib.decDigits_length]; exact Lib.nDigits_pos u
theorem dec_digB (u : Nat) : digB (Lib.decDigits u) = true := by
  have := dec_len u
  unfold digB
  rw [(dec_dig u).1]
  cases h : Lib.decDigits u with
  | nil => rw [h] at this; simp at this
  | cons a l => rfl
theorem dec_text {x : Int} {u : Nat} {l : List UInt8} (h : IsText x l) (e : x = (u : Int)) : digB l = true ∧ dval l = (u : Int) := by
  refine ⟨?_, by rw [h.val, e]⟩
  unfold digB
  rw [h.dig]
  cases hl : l with
  | nil => exact absurd hl h.ne
  | cons a l => rfl

theorem clamp_from : ∀ (l : List UInt8) (a : Int), 0 ≤ a → l.all isDig = true →
    l.foldl (fun n c => min (n * 10 + ((c.toNat : Int) - 48)) 1000) (min a 1000) = min (l.foldl (fun n c => n * 10 + ((c.toNat : Int) - 48)) a) 1000
  | [], _, _, _ => rfl
  | c :: l, a, ha, h => by
    simp only [List.all_cons, Bool.and_eq_true] at h
    have h1 := h.1
    unfold isDig at h1
    simp only [Bool.and_eq_true, decide_eq_true_eq] at h1
    rw [List.foldl_cons, List.foldl_cons, show min (min a 1000 * 10 + ((c.toNat : Int) - 48)) 1000 = min (a * 10 + ((c.toNat : Int) - 48)) 1000 by omega]
    exact clamp_from l _ (by omega) h.2
theorem clamp_is {l : List UInt8} (h : l.all isDig = true) : clampE l = min (dval l) 1000 := by
  have := clamp_from l 0 (by omega) h
  rw [show min (0 : Int) 1000 = 0 by decide] at this
  exact this
theorem clamp_bd (l : List UInt8) (h : l.all isDig = true) : 0 ≤ clampE l ∧ clampE l ≤ 1000 := by
  have := (dval_bd h).1
  rw [clamp_is h]
  omega
theorem digB_all {l : List UInt8} (h : digB l = true) : l.all isDig = true ∧ l ≠ [] := by
  unfold digB at h
  simp only [Bool.and_eq_true, Bool.not_eq_true'] at h
  refine ⟨h.2, fun e => ?_⟩
  rw [e] at h
  simp at h
theorem digB_of {l : List UInt8} (h : l.all isDig = true) (k : l ≠ []) : digB l = true := by
  unfold digB
  rw [h]
  cases l with
  | nil => exact absurd rfl k
  | cons a l => rfl
theorem rxV_bd (l : List UInt8) : -1000 ≤ rxV l ∧ rxV l ≤ 1000 := by
  unfold rxV
  split
  · rename_i h
    have := clamp_bd (rxD l) (digB_all h).1
    split <;> omega
  · omega
theorem rdP_bd (l : List UInt8) : -1000 ≤ rdP l ∧ rdP l ≤ 1000 := by
  unfold rdP
  split
  · exact rxV_bd _
  · omega
/-- An exponent with a sign, or with none. -/
theorem rx_neg {l : List UInt8} (h : digB l = true) : rxOk (45 :: l) = true ∧ rxV (45 :: l) = -min (dval l) 1000 := by
  have e : rxD (45 :: l) = l := by unfold rxD Lib.trimPrefix; rw [show Lib.hasPrefix (45 :: l) [45] = true by simp [Lib.hasPrefix]]; rfl
  have k : rxOk (45 :: l) = true := by unfold rxOk; rw [e]; exact h
  refine ⟨k, ?_⟩
  unfold rxV
  rw [if_pos k, if_pos (by simp [Lib.hasPrefix]), e, clamp_is (digB_all h).1]
theorem pre_none {l : List UInt8} {c : UInt8} (h : digB l = true) (hc : isDig c = false) : Lib.hasPrefix l [c] = false := by
  obtain ⟨a, b⟩ := digB_all h
  cases l with
  | nil => exact absurd rfl b
  | cons d l =>
    simp only [List.all_cons, Bool.and_eq_true] at a
    unfold Lib.hasPrefix
    have : (c == d) = false := by
      rw [beq_eq_false_iff_ne]
      intro e
      rw [← e, hc] at a
      simp at a
    simp [List.isPrefixOf, this]
theorem rx_pos {l : List UInt8} (h : digB l = true) : rxOk l = true ∧ rxV l = min (dval l) 1000 := by
  have p1 := pre_none (c := 45) h (by decide)
  have p2 := pre_none (c := 43) h (by decide)
  have e : rxD l = l := by unfold rxD Lib.trimPrefix; rw [p1, p2]; rfl
  have k : rxOk l = true := by unfold rxOk; rw [e]; exact h
  refine ⟨k, ?_⟩
  unfold rxV
  rw [if_pos k, p1, e, clamp_is (digB_all h).1]
  rfl
theorem rx_itoa {z : Int} (h : -1000 ≤ z ∧ z ≤ 1000) : rxOk (Lib.itoa z) = true ∧ rxV (Lib.itoa z) = z := by
  unfold Lib.itoa
  by_cases h0 : z < 0
  · rw [if_pos h0]
    obtain ⟨a, b⟩ := rx_neg (dec_digB z.natAbs)
    refine ⟨a, ?_⟩
    rw [b, (dec_dig _).2]
    omega
  · rw [if_neg h0]
    obtain ⟨a, b⟩ := rx_pos (dec_digB z.toNat)
    refine ⟨a, ?_⟩
    rw [b, (dec_dig _).2]
    omega

theorem ixa_none (cs : List UInt8) : ∀ l : List UInt8, (∀ b ∈ l, cs.contains b = false) → Lib.indexAny l cs = -1
  | [], _ => rfl
  | b :: l, h => by
    unfold Lib.indexAny
    rw [h b (by simp), ixa_none cs l fun d hd => h d (by simp [hd])]
    rfl
theorem ixa_at (cs : List UInt8) (c : UInt8) (r : List UInt8) (hc : cs.contains c = true) : ∀ l : List UInt8, (∀ b ∈ l, cs.contains b = false) → Lib.indexAny (l ++ c :: r) cs = (l.length : Int)
  | [], _ => by
    show Lib.indexAny (c :: r) cs = _
    unfold Lib.indexAny
    rw [hc]
    rfl
  | b :: l, h => by
    show Lib.indexAny (b :: (l ++ c :: r)) cs = _
    unfold Lib.indexAny
    rw [h b (by simp), ixa_at cs c r hc l fun d hd => h d (by simp [hd])]
    have : ((l.length : Int) == -1) = false := by rw [beq_eq_false_iff_ne]; omega
    rw [this]
    simp
theorem ix_none (c : UInt8) : ∀ l : List UInt8, (∀ b ∈ l, b ≠ c) → Lib.index l [c] = -1
  | [], _ => rfl
  | b :: l, h => by
    unfold Lib.index
    have e : (c == b) = false := by rw [beq_eq_false_iff_ne]; exact fun e => h b (by simp) e.symm
    rw [ix_none c l fun d hd => h d (by simp [hd])]
    simp [List.isPrefixOf, e]
theorem ix_at (c : UInt8) (r : List UInt8) : ∀ l : List UInt8, (∀ b ∈ l, b ≠ c) → Lib.index (l ++ c :: r) [c] = (l.length : Int)
  | [], _ => by
    show Lib.index (c :: r) [c] = _
    unfold Lib.index
    simp [List.isPrefixOf]
  | b :: l, h => by
    show Lib.index (b :: (l ++ c :: r)) [c] = _
    unfold Lib.index
    have e : (c == b) = false := by rw [beq_eq_false_iff_ne]; exact fun e => h b (by simp) e.symm
    rw [ix_at c r l fun d hd => h d (by simp [hd])]
    have : ((l.length : Int) == -1) = false := by rw [beq_eq_false_iff_ne]; omega
    rw [this]
    simp [List.isPrefixOf, e]
theorem cut_none {l : List UInt8} (h : ∀ b ∈ l, b ≠ 46) : Lib.cut l [46] = (l, [], false) := by
  unfold Lib.cut
  rw [ix_none 46 l h, if_neg (by decide)]
theorem cut_at {l r : List UInt8} (h : ∀ b ∈ l, b ≠ 46) : Lib.cut (l ++ 46 :: r) [46] = (l, r, true) := by
  unfold Lib.cut
  rw [ix_at 46 r l h, if_pos (by omega)]
  simp
theorem dig_ne {l : List UInt8} (h : l.all isDig = true) {c : UInt8} (hc : isDig c = false) : ∀ b ∈ l, b ≠ c := fun b hb e => by
  have := List.all_eq_true.1 h b hb
  rw [e, hc] at this
  cases this
theorem dig_no {l : List UInt8} (h : l.all isDig = true) : ∀ b ∈ l, ([101, 69] : List UInt8).contains b = false := fun b hb => by
  have h1 := dig_ne h (c := 101) (by decide) b hb
  have h2 := dig_ne h (c := 69) (by decide) b hb
  simp [h1, h2]

/-- A literal with a letter, a literal with none. -/
theorem rd_letter {s x : List UInt8} (hs : ∀ b ∈ s, ([101, 69] : List UInt8).contains b = false) : rdI (s ++ 101 :: x) = (s.length : Int) ∧ rdS (s ++ 101 :: x) = s ∧ rdX (s ++ 101 :: x) = x := by
  have e : rdI (s ++ 101 :: x) = (s.length : Int) := ixa_at _ 101 x (by decide) s hs
  refine ⟨e, ?_, ?_⟩
  · unfold rdS
    rw [e, if_pos (by omega)]
    simp
  · unfold rdX
    rw [e, Int.toNat_natCast, ← List.drop_drop, List.drop_left]
    rfl
theorem rd_plain {s : List UInt8} (hs : ∀ b ∈ s, ([101, 69] : List UInt8).contains b = false) : rdI s = -1 ∧ rdS s = s := by
  have e : rdI s = -1 := ixa_none _ s hs
  refine ⟨e, ?_⟩
  unfold rdS
  rw [e, if_neg (by decide)]
/-- Digits, a letter and a power. -/
theorem rd_exp {d x : List UInt8} {p : Int} (hd : digB d = true) (hx : rxOk x = true) (hp : rxV x = p) : rdOk (d ++ 101 :: x) = true ∧ rdD (d ++ 101 :: x) = d ∧ rdE (d ++ 101 :: x) = p := by
  obtain ⟨a, b⟩ := digB_all hd
  obtain ⟨e1, e2, e3⟩ := rd_letter (x := x) (dig_no a)
  have c : rdC (d ++ 101 :: x) = (d, [], false) := by unfold rdC; rw [e2, cut_none (dig_ne a (by decide))]
  unfold rdOk rdD rdE rdXk rdP
  rw [e1, e3, c, hx, hp, if_pos (by omega)]
  simp [hd]
/-- Digits, a point, more of them, a letter and a power. -/
theorem rd_point {d g x : List UInt8} {p : Int} (hd : digB d = true) (hg : digB g = true) (hx : rxOk x = true) (hp : rxV x = p) : rdOk ((d ++ 46 :: g) ++ 101 :: x) = true ∧ rdD ((d ++ 46 :: g) ++ 101 :: x) = d ++ g ∧ rdE ((d ++ 46 :: g) ++ 101 :: x) = p - g.length := by
  obtain ⟨a, b⟩ := digB_all hd
  obtain ⟨a', b'⟩ := digB_all hg
  have hn : ∀ b ∈ d ++ 46 :: g, ([101, 69] : List UInt8).contains b = false := fun b hb => by
    rcases List.mem_append.1 hb with h | h
    · exact dig_no a b h
    · rcases List.mem_cons.1 h with rfl | h
      · decide
      · exact dig_no a' b h
  obtain ⟨e1, e2, e3⟩ := rd_letter (x := x) hn
  have c : rdC ((d ++ 46 :: g) ++ 101 :: x) = (d, g, true) := by unfold rdC; rw [e2, cut_at (dig_ne a (by decide))]
  unfold rdOk rdD rdE rdXk rdP
  rw [e1, e3, c, hx, hp, if_pos (by omega)]
  simp [hd, hg]
/-- Digits, a point and more of them. -/
theorem rd_dot {d g : List UInt8} (hd : digB d = true) (hg : digB g = true) : rdOk (d ++ 46 :: g) = true ∧ rdD (d ++ 46 :: g) = d ++ g ∧ rdE (d ++ 46 :: g) = -(g.length : Int) := by
  obtain ⟨a, b⟩ := digB_all hd
  obtain ⟨a', b'⟩ := digB_all hg
  have hn : ∀ b ∈ d ++ 46 :: g, ([101, 69] : List UInt8).contains b = false := fun b hb => by
    rcases List.mem_append.1 hb with h | h
    · exact dig_no a b h
    · rcases List.mem_cons.1 h with rfl | h
      · decide
      · exact dig_no a' b h
  obtain ⟨e1, e2⟩ := rd_plain hn
  have c : rdC (d ++ 46 :: g) = (d, g, true) := by unfold rdC; rw [e2, cut_at (dig_ne a (by decide))]
  unfold rdOk rdD rdE rdXk rdP
  rw [e1, c]
  simp [hd, hg]
/-- What is read has a digit, and nothing but digits. -/
theorem rdD_dig {l : List UInt8} (h : rdOk l = true) : digB (rdD l) = true := by
  unfold rdOk at h
  simp only [Bool.and_eq_true, Bool.or_eq_true, Bool.not_eq_true'] at h
  obtain ⟨-, h1, h2⟩ := h
  obtain ⟨a, b⟩ := digB_all h1
  unfold rdD
  rcases h2 with h2 | h2
  · have : (rdC l).2.1 = [] := by
      unfold rdC Lib.cut at h2 ⊢
      split
      · rename_i h3
        rw [if_pos h3] at h2
        cases h2
      · rfl
    rw [this, List.append_nil]
    exact h1
  · obtain ⟨a', b'⟩ := digB_all h2
    refine digB_of (by rw [List.all_append, a, a']; rfl) ?_
    simp [b]

/-- n noughts. -/
def nts (n : Nat) : List UInt8 := Lib.repeatL [48] n
theorem nts_dig : ∀ n, (nts n).all isDig = true ∧ (nts n).length = n
  | 0 => ⟨rfl, rfl⟩
  | n + 1 => by
    obtain ⟨a, b⟩ := nts_dig n
    show (48 :: nts n).all isDig = true ∧ (48 :: nts n).length = n + 1
    rw [List.all_cons, a, List.length_cons, b]
    exact ⟨rfl, rfl⟩
theorem nts_val : ∀ n, dval (nts n) = 0
  | 0 => rfl
  | n + 1 => by
    show dval (48 :: nts n) = 0
    rw [dval_cons, nts_val n]
    simp
/-- How digits and a power are laid out. -/
def loT (d : List UInt8) (q : Int) : List UInt8 :=
  if 0 ≤ q ∧ d.length + q ≤ 21 then d ++ nts q.toNat ++ [46, 48]
  else if q < 0 ∧ 0 < d.length + q then d.take (d.length + q).toNat ++ 46 :: d.drop (d.length + q).toNat
  else if d.length + q ≤ 0 ∧ -5 ≤ d.length + q then 48 :: 46 :: (nts (-(d.length + q)).toNat ++ d)
  else d.take 1 ++ (if d.drop 1 = [] then [] else [46]) ++ d.drop 1 ++ 101 :: Lib.itoa (d.length + q - 1)

theorem all_take {l : List UInt8} (h : l.all isDig = true) (k : Nat) : (l.take k).all isDig = true := List.all_eq_true.2 fun c hc => List.all_eq_true.1 h c (List.mem_of_mem_take hc)
theorem all_drop {l : List UInt8} (h : l.all isDig = true) (k : Nat) : (l.drop k).all isDig = true := List.all_eq_true.2 fun c hc => List.all_eq_true.1 h c (List.mem_of_mem_drop hc)

set_option maxHeartbeats 1000000 in
/-- What is laid out is a literal: of the same digits with the same power, or with one nought more, or with noughts ahead. -/
theorem rd_lo {d : List UInt8} {q : Int} (hd : digB d = true) (hq : -900 ≤ q ∧ q ≤ 900) (hl : d.length ≤ 17) :
    rdOk (loT d q) = true ∧ digB (rdD (loT d q)) = true ∧ (loT d q).length ≤ 26 ∧ -1000 ≤ rdE (loT d q) ∧ rdE (loT d q) ≤ 1000 ∧
    ∃ j : Nat, dval (rdD (loT d q)) = dval d * 10 ^ j ∧ rdE (loT d q) = q - j := by
  obtain ⟨a, b⟩ := digB_all hd
  have l1 : 1 ≤ d.length := by
    cases d with
    | nil => exact absurd rfl b
    | cons c d => simp
  suffices S : rdOk (loT d q) = true ∧ (loT d q).length ≤ 26 ∧ -1000 ≤ rdE (loT d q) ∧ rdE (loT d q) ≤ 1000 ∧ ∃ j : Nat, dval (rdD (loT d q)) = dval d * 10 ^ j ∧ rdE (loT d q) = q - j from ⟨S.1, rdD_dig S.1, S.2⟩
  unfold loT
  by_cases c1 : 0 ≤ q ∧ d.length + q ≤ 21
  · rw [if_pos c1]
    obtain ⟨z1, z2⟩ := nts_dig q.toNat
    obtain ⟨r1, r2, r3⟩ := rd_dot (d := d ++ nts q.toNat) (g := [48]) (digB_of (by rw [List.all_append, a, z1]; rfl) (by simp [b])) (by decide)
    refine ⟨r1, ?_, ?_, ?_, q.toNat + 1, ?_, ?_⟩
    · simp [z2]; omega
    · rw [r3]; simp
    · rw [r3]; simp
    · rw [r2, dval_append, dval_append, nts_val, z2, Int.pow_succ]
      simp [dval_one, Int.mul_assoc]
    · rw [r3]; simp; omega
  rw [if_neg c1]
  by_cases c2 : q < 0 ∧ 0 < d.length + q
  · rw [if_pos c2]
    have h1 : (d.take (d.length + q).toNat) ≠ [] := by
      intro e
      have := congrArg List.length e
      rw [List.length_take, List.length_nil] at this
      omega
    have h2 : (d.drop (d.length + q).toNat) ≠ [] := by
      intro e
      have := congrArg List.length e
      rw [List.length_drop, List.length_nil] at this
      omega
    obtain ⟨r1, r2, r3⟩ := rd_dot (digB_of (all_take a _) h1) (digB_of (all_drop a _) h2)
    rw [List.take_append_drop] at r2
    rw [List.length_drop] at r3
    refine ⟨r1, ?_, ?_, ?_, 0, ?_, ?_⟩
    · simp; omega
    · rw [r3]; omega
    · rw [r3]; omega
    · rw [r2]; simp
    · rw [r3]; omega
  rw [if_neg c2]
  by_cases c3 : d.length + q ≤ 0 ∧ -5 ≤ d.length + q
  · rw [if_pos c3]
    obtain ⟨z1, z2⟩ := nts_dig (-(d.length + q)).toNat
    obtain ⟨r1, r2, r3⟩ := rd_dot (d := [48]) (g := nts (-(d.length + q)).toNat ++ d) (by decide) (digB_of (by rw [List.all_append, a, z1]; rfl) (by simp [b]))
    rw [List.length_append, z2] at r3
    have r4 : dval ([48] ++ (nts (-(d.length + q)).toNat ++ d)) = dval d := by
      rw [dval_append, dval_append, nts_val]
      simp [dval_one]
    rw [r4.symm.trans (congrArg dval r2.symm)]
    have eq : (48 : UInt8) :: 46 :: (nts (-(d.length + q)).toNat ++ d) = [48] ++ 46 :: (nts (-(d.length + q)).toNat ++ d) := rfl
    rw [eq]
    have r5 : ([48] ++ 46 :: (nts (-(d.length + q)).toNat ++ d)).length ≤ 26 := by
      simp [z2]
      omega
    generalize [48] ++ 46 :: (nts (-(d.length + q)).toNat ++ d) = t at *
    refine ⟨r1, r5, ?_, ?_, 0, ?_, ?_⟩
    · rw [r3]; omega
    · rw [r3]; omega
    · simp
    · rw [r3]; omega
  rw [if_neg c3]
  have hx := rx_itoa (z := d.length + q - 1) (by omega)
  have hil : (Lib.itoa (d.length + q - 1)).length ≤ 5 := by
    have nd : ∀ n : Nat, n < 1000 → (Lib.decDigits n).length ≤ 3 := fun n hn => by
      rw [Lib.decDigits_length]
      by_cases h : n < 10
      · rw [Lib.nDigits_small h]; omega
      · rw [Lib.nDigits_big h]
        by_cases h' : n / 10 < 10
        · rw [Lib.nDigits_small h']; omega
        · rw [Lib.nDigits_big h', Lib.nDigits_small (by omega)]; omega
    unfold Lib.itoa
    split
    · have := nd (((d.length : Int) + q - 1).natAbs) (by omega)
      simp only [List.length_cons]
      omega
    · have := nd (((d.length : Int) + q - 1).toNat) (by omega)
      omega
  by_cases c4 : d.drop 1 = []
  · rw [if_pos c4, c4, List.append_nil, List.append_nil]
    have e1 : d.take 1 = d := by
      have := List.take_append_drop 1 d
      rw [c4, List.append_nil] at this
      exact this
    have len1 : d.length = 1 := by
      have := congrArg List.length c4
      rw [List.length_drop, List.length_nil] at this
      omega
    rw [e1]
    obtain ⟨r1, r2, r3⟩ := rd_exp hd hx.1 hx.2
    refine ⟨r1, ?_, ?_, ?_, 0, ?_, ?_⟩
    · rw [List.length_append, List.length_cons]; omega
    · rw [r3]; omega
    · rw [r3]; omega
    · rw [r2]; simp
    · rw [r3]; omega
  · rw [if_neg c4]
    have h1 : d.take 1 ≠ [] := by
      intro e
      have := congrArg List.length e
      rw [List.length_take, List.length_nil] at this
      omega
    obtain ⟨r1, r2, r3⟩ := rd_point (digB_of (all_take a 1) h1) (digB_of (all_drop a 1) c4) hx.1 hx.2
    rw [List.take_append_drop] at r2
    rw [List.length_drop] at r3
    have eq : d.take 1 ++ [46] ++ d.drop 1 ++ 101 :: Lib.itoa (d.length + q - 1) = (d.take 1 ++ 46 :: d.drop 1) ++ 101 :: Lib.itoa (d.length + q - 1) := by simp
    rw [eq]
    refine ⟨r1, ?_, ?_, ?_, 0, ?_, ?_⟩
    · simp; omega
    · rw [r3]; omega
    · rw [r3]; omega
    · rw [r2]; simp
    · rw [r3]; omega
end Go.Proofs.YthofjlgngandoaaGreatDoor
