/-
  ParseTrees holds, tied to the program's text. (part 30 of 35) Conditions: none beside what the card ties.
-/
import Derived.Test.YthmlhkllbichgaaGreatDoorVbb
import Derived.Test.YthmlhkllbichgaaGreatDoorVam
import Derived.Test.YthmlhkllbichgaaGreatDoorVbc
namespace Go.Proofs.YthmlhkllbichgaaGreatDoor
open Go.RowKit
set_option maxRecDepth 100000
def Tk.er (t : Tk) : Tk := ⟨t.kd, 0, t.tx, t.nn, t.ff⟩
def Lexd (l : List UInt8) (us : List Tk) : Prop := ∀ a : Nat, ∃ ts, Run (gp l) (a + gpN l) ts ∧ ts.map Tk.er = us
theorem lexd_nil : Lexd [] [noT] := fun _ => ⟨_, Run.fin _, rfl⟩
theorem gpN_tok {l : List UInt8} (h : gp l = l) : gpN l = 0 := by
 have := gpN_add l
 rw [h] at this
 omega
theorem lexd_ws {b : UInt8} {l : List UInt8} {us : List Tk} (hb : isWs b = true) (h : Lexd l us) : Lexd (b :: l) us := by
 have e : gp (b :: l) = gp l := by
  show gpB false (b :: l) = gpB false l
  rw [gpB, if_pos hb]
 have e2 : gpN (b :: l) = gpN l + 1 := by
  have h1 := gpN_add (b :: l)
  have h2 := gpN_add l
  rw [e, List.length_cons] at h1
  omega
 intro a
 obtain ⟨ts, R, er⟩ := h (a + 1)
 refine ⟨ts, ?_, er⟩
 rw [e, e2, show a + (gpN l + 1) = a + 1 + gpN l by omega]
 exact R
theorem gp_cons {c : UInt8} {z : List UInt8} (h1 : isWs c = false) (h2 : ¬ (c = 47 ∧ z.head? = some 47)) : gp (c :: z) = c :: z := by
 show gpB false (c :: z) = _
 rw [gpB, if_neg (by simp [h1]), if_neg h2]
theorem lexd_tok {x l : List UInt8} {us : List Tk} {u : Tk} (hx : x ≠ []) (hg : gp (x ++ l) = x ++ l) (he : fiE (x ++ l) = 0) (hn : fiN (x ++ l) = x.length) (ht : ∀ a : Int, (fiT (x ++ l) a).er = u) (h : Lexd l us) : Lexd (x ++ l) (u :: us) := fun a => by
 obtain ⟨ts, R, e⟩ := h (a + x.length)
 refine ⟨fiT (x ++ l) (a : Int) :: ts, ?_, by rw [List.map_cons, ht, e]⟩
 rw [hg, gpN_tok hg, Nat.add_zero]
 refine .tok _ a ts (by simp [hx]) he ?_
 rw [hn, List.drop_left]
 exact R
theorem one_not {c : UInt8} (h : oneS.contains c = true) : isWs c = false ∧ isAl c = false ∧ isDig c = false := by
 have h : c ∈ oneS := List.contains_iff_mem.1 h
 simp only [oneS, List.mem_cons, List.not_mem_nil, or_false] at h
 rcases h with rfl | rfl | rfl | rfl | rfl | rfl | rfl | rfl | rfl | rfl | rfl | rfl | rfl | rfl | rfl | rfl | rfl <;> decide
theorem two_not {c d : UInt8} (h : twoS.contains [c, d] = true) : isWs c = false ∧ isAl c = false ∧ isDig c = false ∧ c ≠ 47 := by
 have h : [c, d] ∈ twoS := List.contains_iff_mem.1 h
 simp only [twoS, List.mem_cons, List.not_mem_nil, or_false, List.cons.injEq, and_true] at h
 rcases h with ⟨rfl, rfl⟩ | ⟨rfl, rfl⟩ | ⟨rfl, rfl⟩ | ⟨rfl, rfl⟩ | ⟨rfl, rfl⟩ | ⟨rfl, rfl⟩ | ⟨rfl, rfl⟩ <;> decide
theorem nm_non {c : UInt8} {l : List UInt8} (h : isAl c = false) : nmL (c :: l) = 0 := by rw [nmL_cons, if_neg (by simp [h])]
theorem nu_non {c : UInt8} {l : List UInt8} (h : isDig c = false) : nuL (c :: l) = 0 := by
 have : dgL (c :: l) = 0 := by unfold dgL; rw [List.takeWhile_cons, if_neg (by simp [h])]; rfl
 unfold nuL
 rw [if_pos this]
theorem si_tok {z : List UInt8} {a : Int} (h1 : nmL z = 0) (h2 : nuL z = 0) (h3 : siL z ≠ 0) : fiE z = 0 ∧ fiN z = siL z ∧ fiT z a = ⟨5, a, z.take (siL z), 0, 0⟩ := by
 refine ⟨?_, ?_, ?_⟩
 ·unfold fiE; rw [if_neg (by omega), if_neg (by omega), if_pos h3]
 ·unfold fiN; rw [if_neg (by omega), if_neg (by omega)]
 ·unfold fiT; rw [if_neg (by omega), if_neg (by omega)]
theorem lexd_s1 (c : UInt8) {l : List UInt8} {us : List Tk} (hc : oneS.contains c = true) (hl : ∀ b, l.head? = some b → twoS.contains [c, b] = false ∧ ¬ (c = 47 ∧ b = 47)) (h : Lexd l us) : Lexd (c :: l) (⟨5, 0, [c], 0, 0⟩ :: us) := by
 obtain ⟨n1, n2, n3⟩ := one_not hc
 have s1 : siL (c :: l) = 1 := by
  unfold siL
  rw [if_neg, si1_cons, if_pos hc]
  cases l with
  | nil => simp [twoS]
  | cons b y => simp only [List.take_succ_cons, List.take_zero, (hl b rfl).1]; decide
 have K := fun a => si_tok (z := c :: l) (a := a) (nm_non n2) (nu_non n3) (by omega)
 refine lexd_tok (x := [c]) (by simp) (gp_cons n1 fun e => (hl 47 e.2).2 ⟨e.1, rfl⟩) (K 0).1 ((K 0).2.1.trans s1) (fun a => ?_) h
 show (fiT (c :: l) a).er = _
 rw [(K a).2.2, s1]
 rfl
theorem lexd_s2 (c d : UInt8) {l : List UInt8} {us : List Tk} (hc : twoS.contains [c, d] = true) (h : Lexd l us) : Lexd (c :: d :: l) (⟨5, 0, [c, d], 0, 0⟩ :: us) := by
 obtain ⟨n1, n2, n3, n4⟩ := two_not hc
 have s1 : siL (c :: d :: l) = 2 := by
  unfold siL
  rw [if_pos (by simpa using hc)]
 have K := fun a => si_tok (z := c :: d :: l) (a := a) (nm_non n2) (nu_non n3) (by omega)
 refine lexd_tok (x := [c, d]) (by simp) (gp_cons n1 fun e => n4 e.1) (K 0).1 ((K 0).2.1.trans s1) (fun a => ?_) h
 show (fiT (c :: d :: l) a).er = _
 rw [(K a).2.2, s1]
 rfl
def Stp (l : List UInt8) : Prop := ∀ b, l.head? = some b → isAn b = false ∧ b ≠ 46 ∧ b ≠ 43 ∧ b ≠ 45
theorem stp_nil : Stp [] := fun _ h => by cases h
theorem stp_cons {b : UInt8} {l : List UInt8} (h : isAn b = false ∧ b ≠ 46 ∧ b ≠ 43 ∧ b ≠ 45) : Stp (b :: l) := fun _ e => by cases e; exact h
theorem nm_stop {x l : List UInt8} (hx : x ≠ []) (hl : Stp l) : nmL (x ++ l) = nmL x := by
 cases x with
 | nil => exact absurd rfl hx
 | cons c r =>
  cases l with
  | nil => rw [List.append_nil]
  | cons b y => rw [List.cons_append, nmL_cons, nmL_cons, tw_blank isAn (hl b rfl).1 y r]
theorem an_not {b : UInt8} (h : isAn b = false) : isAl b = false ∧ isDig b = false ∧ ¬ expB b := by
 unfold isAn at h
 rw [Bool.or_eq_false_iff] at h
 refine ⟨h.1, h.2, ?_⟩
 rintro (rfl | rfl)
 ·exact absurd h.1 (by decide)
 ·exact absurd h.1 (by decide)
theorem nu_stop {x l : List UInt8} (hx : nuL x ≠ 0) (hl : Stp l) : nuL (x ++ l) = nuL x ∧ nuF (x ++ l) = nuF x := by
 cases l with
 | nil => rw [List.append_nil]; exact ⟨rfl, rfl⟩
 | cons b y =>
  obtain ⟨b1, b2, b3, b4⟩ := hl b rfl
  obtain ⟨-, b5, b6⟩ := an_not b1
  have le : nuL (x ++ b :: y) ≤ x.length := by
   refine Classical.byContradiction fun hc => ?_
   obtain ⟨b', hb, h⟩ := num_in (x ++ b :: y) x.length (by omega)
   have e : b = b' := by
    rw [List.getElem?_append_right (Nat.le_refl _), Nat.sub_self] at hb
    simpa using hb
   subst e
   rcases h with h | ⟨h, -⟩ | ⟨-, h | ⟨h, -⟩⟩
   ·rw [b5] at h; cases h
   ·exact b2 h
   ·exact b6 h
   ·rcases h with h | h
    ·exact b3 h
    ·exact b4 h
  have T := nuL_take (x ++ b :: y) x.length le
  rw [List.take_left] at T
  exact ⟨T.1.symm, (T.2 (by rw [← T.1]; exact hx)).symm⟩
theorem lexd_wd {x l : List UInt8} {us : List Tk} (hx : x ≠ []) (hn : nmL x = x.length) (h32 : x.length ≤ 32) (hl : Stp l) (h : Lexd l us) : Lexd (x ++ l) (⟨if kwS.contains x then 4 else 1, 0, x, 0, 0⟩ :: us) := by
 have e := (nm_stop hx hl).trans hn
 have hp : x.length ≠ 0 := fun e => hx (List.eq_nil_of_length_eq_zero e)
 have al : ∃ c r, x = c :: r ∧ isAl c = true := by
  cases x with
  | nil => exact absurd rfl hx
  | cons c r =>
   refine ⟨c, r, rfl, ?_⟩
   cases ha : isAl c with
   | true => rfl
   | false => rw [nm_non ha] at hn; exact absurd hn.symm hp
 obtain ⟨c, r, ex, ha⟩ := al
 have cw : isWs c = false ∧ c ≠ 47 := by
  constructor
  ·cases hw : isWs c with
   | false => rfl
   | true => rw [(ws_not hw).1] at ha; cases ha
  ·rintro rfl
   exact absurd ha (by decide)
 refine lexd_tok hx ?_ ?_ ?_ (fun a => ?_) h
 ·rw [ex]
  exact gp_cons cw.1 fun e => cw.2 e.1
 ·unfold fiE; rw [e, if_pos hp, if_neg (by omega)]
 ·unfold fiN; rw [e, if_pos hp]
 ·unfold fiT; rw [e, if_pos hp, List.take_left]; rfl
def Nmb (x : List UInt8) (t : Tk) : Prop := (∃ c r, x = c :: r ∧ isDig c = true) ∧ nuL x = x.length ∧ fiE x = 0 ∧ ∀ a : Int, (fiT x a).er = t
theorem lexd_nu {x l : List UInt8} {us : List Tk} {t : Tk} (hx : Nmb x t) (hl : Stp l) (h : Lexd l us) : Lexd (x ++ l) (t :: us) := by
 obtain ⟨⟨c, r, ex, hc⟩, hn, he, ht⟩ := hx
 have hp : nuL x ≠ 0 := by rw [hn, ex]; simp
 obtain ⟨s1, s2⟩ := nu_stop hp hl
 have m1 : nmL x = 0 := by rw [ex]; exact nm_dig hc
 have m2 : nmL (x ++ l) = 0 := by rw [ex]; exact nm_dig hc
 have tk : (x ++ l).take (nuL x) = x.take (nuL x) := by rw [hn, List.take_left, List.take_length]
 obtain ⟨-, n2, n3, -⟩ := dig_not hc
 refine lexd_tok (by rw [ex]; simp) ?_ ?_ ?_ (fun a => ?_) h
 ·rw [ex]
  exact gp_cons n2 fun e => n3 e.1
 ·rw [← he]
  unfold fiE
  rw [m1, m2, s1, s2, tk]
  simp only [ne_eq, not_true_eq_false, if_false, if_pos hp]
 ·unfold fiN
  rw [m2, s1, if_neg (by omega), if_pos hp, hn]
 ·rw [← ht a]
  unfold fiT
  rw [m1, m2, s1, s2, tk]
  simp only [ne_eq, not_true_eq_false, if_false, if_pos hp]
theorem nmb_int {n : Int} (h0 : 0 ≤ n) (h1 : n ≤ 2147483647) : Nmb (Lib.itoa n) ⟨2, 0, [], n, 0⟩ := by
 have e : Lib.itoa n = Lib.decDigits n.toNat := by unfold Lib.itoa; rw [if_neg (by omega)]
 have dg := dec_digB n.toNat
 have dv := (dec_dig n.toNat).2
 rw [e]
 have hl : (Lib.decDigits n.toNat).length ≤ 400 := by
  have := itoa_len (n := n) (by omega) (by omega)
  rw [e] at this
  omega
 generalize Lib.decDigits n.toNat = x at *
 obtain ⟨c, r, ec, hc⟩ := digB_head dg
 obtain ⟨n1, n2⟩ := nu_digits dg
 have hp := digB_pos dg
 have nm : nmL x = 0 := by rw [ec]; exact nm_dig hc
 have tv : dval (x.take (nuL x)) = n := by rw [n1, List.take_length, dv]; omega
 refine ⟨⟨c, r, ec, hc⟩, n1, ?_, fun a => ?_⟩
 ·unfold fiE
  rw [if_neg (by omega), if_pos (by omega), if_neg (by omega), n2, if_neg (by decide), tv, if_pos h1]
 ·unfold fiT
  rw [if_neg (by omega), if_pos (by omega), n2, if_neg (by decide), tv]
  rfl
theorem nmb_flt {f : Int} (w1 : Word f) (w2 : fC f < 3) (w3 : fS f = false) : Nmb (prT f) ⟨3, 0, [], 0, f⟩ := by
 obtain ⟨p1, -, p3, p4, p5⟩ := prB_is w1 w2
 have w4 : fAb f = f := by
  unfold fAb
  split
  ·rfl
  ·unfold fS at w3
   rw [decide_eq_false_iff_not] at w3
   have := w1.1
   omega
 rw [w3, if_neg (by decide), List.nil_append] at p1
 rw [w4] at p4
 have S : nuL (prB f) = (prB f).length ∧ nuF (prB f) = true ∧ ∃ c r, prB f = c :: r ∧ isDig c = true := by
  by_cases hz : fC f = 0
  ·have e2 : prB f = [48, 46, 48] := by unfold prB; rw [if_pos hz]
   rw [e2]
   exact ⟨by decide, by decide, 48, [46, 48], rfl, by decide⟩
  ·have e2 : prB f = loT (dgD f) (dgQ f) := by unfold prB; rw [if_neg hz]
   rw [e2]
   exact nu_lo (dg_known w1 (by have := cls_bd f; omega)).1
 rw [p1]
 obtain ⟨n1, n2, c, r, ec, hc⟩ := S
 have nm : nmL (prB f) = 0 := by rw [ec]; exact nm_dig hc
 have hp : 1 ≤ (prB f).length := by rw [ec]; simp
 have tv : (prB f).take (nuL (prB f)) = prB f := by rw [n1, List.take_length]
 refine ⟨⟨c, r, ec, hc⟩, n1, ?_, fun a => ?_⟩
 ·unfold fiE
  rw [if_neg (by omega), if_pos (by omega), if_neg (by omega), n2, if_pos rfl, tv, if_pos p5]
 ·unfold fiT
  rw [if_neg (by omega), if_pos (by omega), n2, if_pos rfl, tv, p4]
  rfl
theorem fin_of {f : Int} (h0 : 0 ≤ f) (h1 : f < 9218868437227405312) : Word f ∧ fC f < 3 ∧ fS f = false := by
 have hw : Word f := ⟨h0, by omega⟩
 refine ⟨hw, ?_, ?_⟩
 ·have := (not_congr (cls_inf h0 (by omega))).2 (by omega)
  have := cls_bd f
  have hn : ¬ fC f = 4 := by rw [nan_iff hw]; omega
  omega
 ·unfold fS
  rw [decide_eq_false]
  omega
def tSg (x : List UInt8) : Tk := ⟨5, 0, x, 0, 0⟩
def tWd (x : List UInt8) : Tk := ⟨4, 0, x, 0, 0⟩
def tNm (x : List UInt8) : Tk := ⟨1, 0, x, 0, 0⟩
def tIn (n : Int) : Tk := ⟨2, 0, [], n, 0⟩
def tFl (f : Int) : Tk := ⟨3, 0, [], 0, f⟩
def brkK (b : Bool) (l : List Tk) : List Tk := if b then tSg [40] :: (l ++ [tSg [41]]) else l
def nameK (nm : List UInt8) (n : Nat) (a : List Tk) : List Tk := tNm nm :: (if 0 < n then tSg [91] :: (a ++ [tSg [93]]) else [])
def headK (h : EH) (a0 s0 s1 : List Tk) : List Tk :=
 if h.op = 1 then [tWd (if h.bo then [116, 114, 117, 101] else [102, 97, 108, 115, 101])]
 else if h.op = 2 then [tIn h.it]
 else if h.op = 3 then [tFl h.fl]
 else if h.op = 4 then nameK h.nm h.s.n a0
 else if h.op = 19 then tWd [105, 110, 116] :: tSg [40] :: (a0 ++ [tSg [41]])
 else if h.op = 20 then tWd [102, 108, 111, 97, 116] :: tSg [40] :: (a0 ++ [tSg [41]])
 else if h.op = 21 then tWd [97, 98, 115] :: tSg [40] :: (a0 ++ [tSg [41]])
 else if h.op = 17 then tSg [45] :: s0
 else if h.op = 18 then tSg [33] :: s0
 else if opBin h.op then s0 ++ tSg (signB h.op) :: s1
 else []
def Ex.tks : Ex → List Tk
 | .no => []
 | .mk h k => headK h (if 0 < h.s.n then (k 0).tks else []) (if 0 < h.s.n then brkK (k 0).bin (k 0).tks else []) (if 1 < h.s.n then brkK (k 1).bin (k 1).tks else [])
theorem Ex.tks_eq (e : Ex) : e.tks = headK e.h (if 0 < e.h.s.n then (e.k 0).tks else []) (if 0 < e.h.s.n then brkK (e.k 0).bin (e.k 0).tks else []) (if 1 < e.h.s.n then brkK (e.k 1).bin (e.k 1).tks else []) := by
 cases e <;> rfl
structure NmOk (x : List UInt8) : Prop where
 ne : x ≠ []
 nm : nmL x = x.length
 le : x.length ≤ 32
 kw : kwS.contains x = false
inductive Knd (h : EH) : Prop where
 | bin (h0 : 5 ≤ h.op) (h1 : h.op ≤ 16) (hn : h.s.n = 2)
 | neg (h0 : h.op = 17 ∨ h.op = 18) (hn : h.s.n = 1)
 | fn (h0 : h.op = 19 ∨ h.op = 20 ∨ h.op = 21) (hn : h.s.n = 1)
 | nam (h0 : h.op = 4) (hn : h.s.n ≤ 1) (hm : NmOk h.nm)
 | int (h0 : h.op = 2) (hn : h.s.n = 0) (h1 : 0 ≤ h.it) (h2 : h.it ≤ 2147483647)
 | flt (h0 : h.op = 3) (hn : h.s.n = 0) (h1 : 0 ≤ h.fl) (h2 : h.fl < 9218868437227405312)
 | boo (h0 : h.op = 1) (hn : h.s.n = 0)
def Ex.pl : Ex → Prop
 | .no => False
 | .mk h k => Knd h ∧ ∀ i, i < h.s.n → (k i).pl
theorem Ex.pl.hd {e : Ex} (h : e.pl) : Knd e.h := by
 cases e with
 | no => exact h.elim
 | mk h' k => exact h.1
theorem Ex.pl.ki {e : Ex} (h : e.pl) {i : Nat} (hi : i < e.h.s.n) : (e.k i).pl := by
 cases e with
 | no => exact h.elim
 | mk h' k => exact h.2 i hi
def bareH (h : EH) : EH := ⟨h.op, 0, if h.op = 1 then h.bo else false, if h.op = 2 then h.it else 0, if h.op = 3 then h.fl else 0, if h.op = 4 then h.nm else [], h.s⟩
def Ex.bare : Ex → Ex
 | .no => .no
 | .mk h k => .mk (bareH h) fun i => (k i).bare
theorem Ex.bare_h (e : Ex) : e.bare.h = bareH e.h := by cases e <;> rfl
theorem Ex.bare_k (e : Ex) (i : Nat) : e.bare.k i = (e.k i).bare := by cases e <;> rfl
theorem dec_dig1 {n : Int} (h0 : 0 ≤ n) : ∃ c r, Lib.itoa n = c :: r ∧ isDig c = true := by
 have e : Lib.itoa n = Lib.decDigits n.toNat := by unfold Lib.itoa; rw [if_neg (by omega)]
 rw [e]
 exact digB_head (dec_digB _)
theorem al_61 {c : UInt8} (h : isAl c = true ∨ isDig c = true) : c ≠ 61 := by
 rintro rfl
 rcases h with h | h
 ·exact absurd h (by decide)
 ·exact absurd h (by decide)
theorem nm_head {x : List UInt8} (h : NmOk x) : ∃ c r, x = c :: r ∧ isAl c = true := by
 cases x with
 | nil => exact absurd rfl h.ne
 | cons c r =>
  refine ⟨c, r, rfl, ?_⟩
  cases ha : isAl c with
  | true => rfl
  | false =>
   have := h.nm
   rw [nm_non ha] at this
   cases this
theorem txt_head (e : Ex) : e.pl → ∃ c r, e.txt prT = c :: r ∧ c ≠ 61 := by
 induction e using Ex.ind with
 | H e ih =>
  intro hp
  rw [Ex.txt_eq]
  unfold headT
  cases hp.hd with
  | bin h0 h1 hn =>
   rw [if_neg (by omega), if_neg (by omega), if_neg (by omega), if_neg (by omega), if_neg (by omega), if_neg (by omega), if_neg (by omega), if_neg (by omega), if_neg (by omega), if_pos (by unfold opBin; exact decide_eq_true ⟨h0, h1⟩), if_pos (by omega)]
   obtain ⟨c, r, e1, h2⟩ := ih 0 (by omega) (hp.ki (by omega))
   unfold brk
   split
   ·exact ⟨40, _, rfl, by decide⟩
   ·rw [e1]; exact ⟨c, _, rfl, h2⟩
  | neg h0 hn =>
   rw [if_neg (by omega), if_neg (by omega), if_neg (by omega), if_neg (by omega), if_neg (by omega), if_neg (by omega), if_neg (by omega)]
   split
   ·exact ⟨45, _, rfl, by decide⟩
   ·rw [if_pos (by omega)]; exact ⟨33, _, rfl, by decide⟩
  | fn h0 hn =>
   rw [if_neg (by omega), if_neg (by omega), if_neg (by omega), if_neg (by omega)]
   split
   ·exact ⟨105, _, rfl, by decide⟩
   ·split
    ·exact ⟨102, _, rfl, by decide⟩
    ·rw [if_pos (by omega)]; exact ⟨97, _, rfl, by decide⟩
  | nam h0 hn hm =>
   rw [if_neg (by omega), if_neg (by omega), if_neg (by omega), if_pos h0]
   obtain ⟨c, r, e1, h2⟩ := nm_head hm
   unfold nameT
   rw [e1]
   exact ⟨c, _, rfl, al_61 (.inl h2)⟩
  | int h0 hn h1 h2 =>
   rw [if_neg (by omega), if_pos h0]
   obtain ⟨c, r, e1, h3⟩ := dec_dig1 h1
   exact ⟨c, r, e1, al_61 (.inr h3)⟩
  | flt h0 hn h1 h2 =>
   rw [if_neg (by omega), if_neg (by omega), if_pos h0]
   obtain ⟨f1, f2, f3⟩ := fin_of h1 h2
   obtain ⟨⟨c, r, e1, h3⟩, -⟩ := nmb_flt f1 f2 f3
   exact ⟨c, r, e1, al_61 (.inr h3)⟩
  | boo h0 hn =>
   rw [if_pos h0]
   split
   ·exact ⟨116, _, rfl, by decide⟩
   ·exact ⟨102, _, rfl, by decide⟩
theorem lexd_kw (x : List UInt8) (hk : kwS.contains x = true) {l : List UInt8} {us : List Tk} (hl : Stp l) (h : Lexd l us) : Lexd (x ++ l) (tWd x :: us) := by
 have hx : x ≠ [] ∧ nmL x = x.length ∧ x.length ≤ 32 := by
  have h : x ∈ kwS := List.contains_iff_mem.1 hk
  simp only [kwS, List.mem_cons, List.not_mem_nil, or_false] at h
  rcases h with rfl | rfl | rfl | rfl | rfl | rfl | rfl | rfl | rfl | rfl | rfl | rfl | rfl | rfl | rfl <;> decide
 have := lexd_wd hx.1 hx.2.1 hx.2.2 hl h
 rw [if_pos hk] at this
 exact this
theorem lexd_nm {x : List UInt8} (hx : NmOk x) {l : List UInt8} {us : List Tk} (hl : Stp l) (h : Lexd l us) : Lexd (x ++ l) (tNm x :: us) := by
 have := lexd_wd hx.ne hx.nm hx.le hl h
 rw [if_neg (by rw [hx.kw]; decide)] at this
 exact this
theorem lexd_sg (c : UInt8) (hc : oneS.contains c = true) (h2 : ∀ b, twoS.contains [c, b] = false) (h3 : c ≠ 47) {l : List UInt8} {us : List Tk} (h : Lexd l us) : Lexd (c :: l) (tSg [c] :: us) :=
 lexd_s1 c hc (fun b _ => ⟨h2 b, fun e => h3 e.1⟩) h
theorem two_no {c : UInt8} (h : c ≠ 61 ∧ c ≠ 33 ∧ c ≠ 60 ∧ c ≠ 62 ∧ c ≠ 38 ∧ c ≠ 124 ∧ c ≠ 46) (b : UInt8) : twoS.contains [c, b] = false := by
 cases e : twoS.contains [c, b] with
 | false => rfl
 | true =>
  have e : [c, b] ∈ twoS := List.contains_iff_mem.1 e
  simp only [twoS, List.mem_cons, List.not_mem_nil, or_false, List.cons.injEq, and_true] at e
  obtain ⟨h1, h2, h3, h4, h5, h6, h7⟩ := h
  rcases e with ⟨e, -⟩ | ⟨e, -⟩ | ⟨e, -⟩ | ⟨e, -⟩ | ⟨e, -⟩ | ⟨e, -⟩ | ⟨e, -⟩ <;> contradiction
theorem lexd_plain (c : UInt8) (hc : oneS.contains c = true) (h : c ≠ 61 ∧ c ≠ 33 ∧ c ≠ 60 ∧ c ≠ 62 ∧ c ≠ 38 ∧ c ≠ 124 ∧ c ≠ 46 ∧ c ≠ 47) {l : List UInt8} {us : List Tk} (hl : Lexd l us) : Lexd (c :: l) (tSg [c] :: us) :=
 lexd_sg c hc (two_no ⟨h.1, h.2.1, h.2.2.1, h.2.2.2.1, h.2.2.2.2.1, h.2.2.2.2.2.1, h.2.2.2.2.2.2.1⟩) h.2.2.2.2.2.2.2 hl
theorem lexd_op {op : Int} (h0 : 5 ≤ op) (h1 : op ≤ 16) {l : List UInt8} {us : List Tk} (h : Lexd l us) : Lexd (signB op ++ 32 :: l) (tSg (signB op) :: us) := by
 have hw := lexd_ws (b := 32) (by decide) h
 have K1 : ∀ c, oneS.contains c = true → twoS.contains [c, 32] = false → Lexd (c :: 32 :: l) (tSg [c] :: us) := fun c hc h2 => lexd_s1 c hc (fun b hb => by cases hb; exact ⟨h2, fun e => absurd e.2 (by decide)⟩) hw
 have K2 : ∀ c d, twoS.contains [c, d] = true → Lexd (c :: d :: 32 :: l) (tSg [c, d] :: us) := fun c d hc => lexd_s2 c d hc hw
 have : op = 5 ∨ op = 6 ∨ op = 7 ∨ op = 8 ∨ op = 9 ∨ op = 10 ∨ op = 11 ∨ op = 12 ∨ op = 13 ∨ op = 14 ∨ op = 15 ∨ op = 16 := by omega
 rcases this with rfl | rfl | rfl | rfl | rfl | rfl | rfl | rfl | rfl | rfl | rfl | rfl
 ·exact K1 43 (by decide) (by decide)
 ·exact K1 45 (by decide) (by decide)
 ·exact K1 42 (by decide) (by decide)
 ·exact K1 47 (by decide) (by decide)
 ·exact K1 60 (by decide) (by decide)
 ·exact K2 60 61 (by decide)
 ·exact K2 61 61 (by decide)
 ·exact K2 33 61 (by decide)
 ·exact K1 62 (by decide) (by decide)
 ·exact K2 62 61 (by decide)
 ·exact K2 38 38 (by decide)
 ·exact K2 124 124 (by decide)
theorem stp_41 (l : List UInt8) : Stp (41 :: l) := stp_cons (by decide)
theorem stp_93 (l : List UInt8) : Stp (93 :: l) := stp_cons (by decide)
theorem stp_32 (l : List UInt8) : Stp (32 :: l) := stp_cons (by decide)
theorem stp_40 (l : List UInt8) : Stp (40 :: l) := stp_cons (by decide)
theorem stp_91 (l : List UInt8) : Stp (91 :: l) := stp_cons (by decide)
def LxE (e : Ex) : Prop := ∀ (l : List UInt8) (us : List Tk), Stp l → Lexd l us → Lexd (e.txt prT ++ l) (e.tks ++ us)
theorem lexd_brk {e : Ex} (h : LxE e) (b : Bool) {l : List UInt8} {us : List Tk} (hl : Stp l) (hu : Lexd l us) : Lexd (brk b (e.txt prT) ++ l) (brkK b e.tks ++ us) := by
 cases b with
 | false => exact h l us hl hu
 | true =>
  have h1 := lexd_plain 41 (by decide) (by decide) hu
  have h2 := h _ _ (stp_41 l) h1
  have h3 := lexd_plain 40 (by decide) (by decide) h2
  simpa [brk, brkK] using h3
theorem lexd_in {e : Ex} (h : LxE e) (o c : UInt8) (ho : oneS.contains o = true ∧ o ≠ 61 ∧ o ≠ 33 ∧ o ≠ 60 ∧ o ≠ 62 ∧ o ≠ 38 ∧ o ≠ 124 ∧ o ≠ 46 ∧ o ≠ 47) (hc : oneS.contains c = true ∧ c ≠ 61 ∧ c ≠ 33 ∧ c ≠ 60 ∧ c ≠ 62 ∧ c ≠ 38 ∧ c ≠ 124 ∧ c ≠ 46 ∧ c ≠ 47) (hs : ∀ l, Stp (c :: l)) {l : List UInt8} {us : List Tk} (hu : Lexd l us) :
  Lexd (o :: (e.txt prT ++ c :: l)) (tSg [o] :: (e.tks ++ tSg [c] :: us)) :=
 lexd_plain o ho.1 ho.2 (h _ _ (hs l) (lexd_plain c hc.1 hc.2 hu))
theorem lexd_ex (e : Ex) : e.pl → LxE e := by
 induction e using Ex.ind with
 | H e ih =>
  intro hp l us hl hu
  rw [Ex.txt_eq, Ex.tks_eq]
  unfold headT headK
  cases hp.hd with
  | bin h0 h1 hn =>
   have ob : opBin e.h.op = true := by unfold opBin; exact decide_eq_true ⟨h0, h1⟩
   have i0 := ih 0 (by omega) (hp.ki (by omega))
   have i1 := ih 1 (by omega) (hp.ki (by omega))
   repeat rw [if_neg (show ¬ e.h.op = _ by omega), if_neg (show ¬ e.h.op = _ by omega)]
   rw [if_pos ob, if_pos ob, if_pos (show 0 < e.h.s.n by omega), if_pos (show 0 < e.h.s.n by omega), if_pos (show 1 < e.h.s.n by omega), if_pos (show 1 < e.h.s.n by omega)]
   have h3 := lexd_brk i0 (e.k 0).bin (stp_32 _) (lexd_ws (b := 32) (by decide) (lexd_op h0 h1 (lexd_brk i1 (e.k 1).bin hl hu)))
   simpa using h3
  | neg h0 hn =>
   have i0 := ih 0 (by omega) (hp.ki (by omega))
   obtain ⟨c, r, e1, h2⟩ := txt_head _ (hp.ki (show 0 < e.h.s.n by omega))
   have h3 := lexd_brk i0 (e.k 0).bin hl hu
   simp only [if_pos (show 0 < e.h.s.n by omega)]
   have e2 : ∀ b, (brk (e.k 0).bin ((e.k 0).txt prT) ++ l).head? = some b → b ≠ 61 := fun b hb => by
    unfold brk at hb
    split at hb
    ·cases hb; decide
    ·rw [e1] at hb; cases hb; exact h2
   rcases h0 with h0 | h0
   ·simp only [h0]
    exact lexd_plain 45 (by decide) (by decide) h3
   ·simp only [h0]
    refine lexd_s1 33 (by decide) (fun b hb => ⟨?_, fun e => absurd e.1 (by decide)⟩) h3
    have := e2 b hb
    cases e : twoS.contains [33, b] with
    | false => rfl
    | true =>
     have e : [33, b] ∈ twoS := List.contains_iff_mem.1 e
     simp [twoS] at e
     exact absurd e this
  | fn h0 hn =>
   have i0 := ih 0 (by omega) (hp.ki (by omega))
   have h3 := lexd_in i0 40 41 (by decide) (by decide) stp_41 hu
   simp only [if_pos (show 0 < e.h.s.n by omega)]
   rcases h0 with h0 | h0 | h0
   ·simp only [h0]
    have := lexd_kw [105, 110, 116] (by decide) (stp_40 _) h3
    simpa using this
   ·simp only [h0]
    have := lexd_kw [102, 108, 111, 97, 116] (by decide) (stp_40 _) h3
    simpa using this
   ·simp only [h0]
    have := lexd_kw [97, 98, 115] (by decide) (stp_40 _) h3
    simpa using this
  | nam h0 hn hm =>
   simp only [h0]
   show Lexd (nameT e.h.nm e.h.s.n _ ++ l) (nameK e.h.nm e.h.s.n _ ++ us)
   unfold nameT nameK
   by_cases c : 0 < e.h.s.n
   ·have i0 := ih 0 c (hp.ki c)
    have h3 := lexd_in i0 91 93 (by decide) (by decide) stp_93 hu
    have := lexd_nm hm (stp_91 _) h3
    simp only [if_pos c]
    simpa using this
   ·simp only [if_neg c]
    have := lexd_nm hm hl hu
    simpa using this
  | int h0 hn h1 h2 =>
   simp only [h0]
   exact lexd_nu (nmb_int h1 h2) hl hu
  | flt h0 hn h1 h2 =>
   obtain ⟨f1, f2, f3⟩ := fin_of h1 h2
   simp only [h0]
   exact lexd_nu (nmb_flt f1 f2 f3) hl hu
  | boo h0 hn =>
   simp only [h0]
   cases e.h.bo with
   | true => exact lexd_kw [116, 114, 117, 101] (by decide) hl hu
   | false => exact lexd_kw [102, 97, 108, 115, 101] (by decide) hl hu
theorem nm_isn {x : List UInt8} (h : isnV x = true) : NmOk x := by
 unfold isnV at h
 simp only [Bool.and_eq_true, Bool.not_eq_true', decide_eq_true_eq, List.isEmpty_eq_false_iff] at h
 exact ⟨h.1, h.2.2.1, h.2.1, h.2.2.2⟩
theorem pl_of {e : Ex} (hd : Knd e.h) (hk : ∀ i, i < e.h.s.n → (e.k i).pl) : e.pl := by
 cases e with
 | no => cases hd <;> simp_all [Ex.h, zeroH]
 | mk h k => exact ⟨hd, hk⟩
theorem neB {a b : Int} (h : a ≠ b) : (a == b) = false := by simp [h]
def RetPl (e : Ex) (w : World) (r : Ending) (w' : World) : Prop := ∃ b : Bool, r = .returned (.bool b) ∧ (b = true → e.pl) ∧ Below w.heap.size w w'
def PlX (B : Nat) (e : Ex) : Prop := ∀ (w : World), e.In B w → B ≤ w.heap.size → Env9 w → Calls Tryz.prog 20 #[e.h.v] w (RetPl e w)
set_option maxHeartbeats 6400000 in
theorem plain_of (B : Nat) (e : Ex) (hne : e.h.nm.length ≤ 1048576) (ih : ∀ i, i < e.h.s.n → PlX B (e.k i)) : PlX B e := by
 intro w hI hB hE
 have G0 : Hid ((bx w (xO e.h)).heap[w.heap.size]? = some (xO e.h)) := bx_new _ _
 have hb : Below w.heap.size w (bx w (xO e.h)) := bx_bel (Below.refl _ _) (Nat.le_refl _) _
 have HI := Hj (hI.xs.below hb hB)
 have HB := Hj (Nat.le_trans hB hb.size)
 have BW := Hj hb
 have HE := Hj (hE.below hb)
 have IH := Hj ih
 have OK := Hj hI.ok
 have HN := Hj hne
 clear hI hb hB ih hE hne
 show Calls Tryz.prog 20 #[.agg #[.int .u8 e.h.op, .int .i64 e.h.ps, .bool e.h.bo, .int .i32 e.h.it, .int .u64 e.h.fl, .string ⟨e.h.nm.toArray⟩, .slice e.h.s.ao e.h.s.n e.h.s.c]] w _
 go_enter Tryz.func20, Tryz.ntmps20
 go_upto_region 1 with fail
 rw [bx_x]
 change (Code.region 1 _ _).wp _ _ _ (bx w (xO e.h))
 generalize bx w (xO e.h) = W at *
 obtain ⟨c0, c1, c2, c3, c4, c5, c6⟩ := x_cells G0.out
 go_upto_block 0 with fail
 go_cut [3] (fun v wx => ∃ m : Nat, v = .int .i64 (m : Int) ∧ Hid (m ≤ 2) ∧ Hid (e.h.s.n = m → Knd e.h) ∧ Hid (Below W.heap.size W wx))
 case first =>
  have op0 := OK.out.op0
  have op1 := OK.out.op1
  by_cases h1 : (5 : Int) ≤ e.h.op ∧ e.h.op ≤ 16
  ·obtain ⟨h2, h3⟩ := h1
   go_wp2_with fail
   go_meet
   exact ⟨2, rfl, Hj (by decide), Hj (fun hn => .bin h2 h3 hn), Below.refl _ _⟩
  ·by_cases h2 : (17 : Int) ≤ e.h.op ∧ e.h.op ≤ 21
   ·obtain ⟨h3, h4⟩ := h2
    have h5 : (5 : Int) ≤ e.h.op := by omega
    have h6 : ¬ e.h.op ≤ 16 := by omega
    clear h1
    go_wp2_with fail
    go_meet
    exact ⟨1, rfl, Hj (by decide), Hj (fun hn => by
     by_cases h7 : e.h.op = 17 ∨ e.h.op = 18
     ·exact .neg h7 hn
     ·exact .fn (by omega) hn), Below.refl _ _⟩
   ·by_cases h4 : e.h.op = 4
    ·have NMC := Hj (xIsName_any ⟨e.h.nm.toArray⟩ W (by rw [Lib.size_eq]; exact HN.out) HE.out)
     have H4 := Hj h4
     rw [h4] at c0
     clear h1 h2 h4
     by_cases hn1 : e.h.s.n ≤ 1
     ·have mn : min (e.h.s.n : Int) 1 = (e.h.s.n : Int) := by omega
      go_wp2_with fail
      refine NMC.out.mono ?_
      rintro r w1 ⟨rfl, b1⟩
      have B1 := Hj b1
      clear b1 NMC c0 c1 c2 c3 c4 c5 c6
      cases hv : isnV (⟨e.h.nm.toArray⟩ : ByteArray).data.toList with
      | false =>
       go_wp2_with fail
       go_ret
       exact ⟨false, rfl, (fun x => by cases x), bel_trans BW.out B1.out⟩
      | true =>
       have NM := Hj (nm_isn hv)
       clear hv
       go_wp2_with fail
       go_meet
       exact ⟨e.h.s.n, rfl, Hj (by omega), Hj (fun _ => .nam H4.out hn1 NM.out), B1.out⟩
     ·have mn : min (e.h.s.n : Int) 1 = 1 := by omega
      go_wp2_with fail
      refine NMC.out.mono ?_
      rintro r w1 ⟨rfl, b1⟩
      have B1 := Hj b1
      clear b1 NMC c0 c1 c2 c3 c4 c5 c6
      cases hv : isnV (⟨e.h.nm.toArray⟩ : ByteArray).data.toList with
      | false =>
       go_wp2_with fail
       go_ret
       exact ⟨false, rfl, (fun x => by cases x), bel_trans BW.out B1.out⟩
      | true =>
       clear hv
       go_wp2_with fail
       go_meet
       exact ⟨1, rfl, Hj (by decide), Hj (fun hn => absurd (Nat.le_of_eq hn) hn1), B1.out⟩
    ·by_cases h5 : e.h.op = 2
     ·have H5 := Hj h5
      rw [h5] at c0
      clear h1 h2 h4 h5
      by_cases hi : e.h.it < 0
      ·go_wp2_with fail
       go_ret
       exact ⟨false, rfl, (fun x => by cases x), BW.out⟩
      ·go_wp2_with fail
       go_meet
       exact ⟨0, rfl, Hj (by decide), Hj (fun hn => .int H5.out hn (by omega) OK.out.it1), Below.refl _ _⟩
     ·by_cases h6 : e.h.op = 3
      ·have H6 := Hj h6
       rw [h6] at c0
       clear h1 h2 h4 h5 h6
       by_cases hi : (9218868437227405312 : Int) ≤ e.h.fl
       ·go_wp2_with fail
        go_ret
        exact ⟨false, rfl, (fun x => by cases x), BW.out⟩
       ·go_wp2_with fail
        go_meet
        exact ⟨0, rfl, Hj (by decide), Hj (fun hn => .flt H6.out hn OK.out.fl.1 (by omega)), Below.refl _ _⟩
      ·by_cases h7 : e.h.op = 1
       ·have H7 := Hj h7
        rw [h7] at c0
        clear h1 h2 h4 h5 h6 h7
        go_wp2_with fail
        go_meet
        exact ⟨0, rfl, Hj (by decide), Hj (fun hn => .boo H7.out hn), Below.refl _ _⟩
       ·have e4 := neB h4
        have e5 := neB h5
        have e6 := neB h6
        have e7 := neB h7
        by_cases h8 : (5 : Int) ≤ e.h.op
        ·have h9 : ¬ e.h.op ≤ 16 := by omega
         have h10 : (17 : Int) ≤ e.h.op := by omega
         have h11 : ¬ e.h.op ≤ 21 := by omega
         clear h1 h2 h4 h5 h6 h7
         go_wp2_with fail
         go_ret
         exact ⟨false, rfl, (fun x => by cases x), BW.out⟩
        ·have h10 : ¬ (17 : Int) ≤ e.h.op := by omega
         clear h1 h2 h4 h5 h6 h7
         go_wp2_with fail
         go_ret
         exact ⟨false, rfl, (fun x => by cases x), BW.out⟩
 case rest =>
  obtain ⟨m, rfl, HM, HK, BV⟩ := hcut
  clear c0 c1 c2 c3 c4 c5 c6
  have G1 := Hj (kept_obj BV.out G0.out)
  have BW1 := Hj (bel_trans BW.out BV.out)
  have HI1 := Hj (HI.out.below BV.out HB.out)
  have HB1 := Hj (Nat.le_trans HB.out BV.out.size)
  have HE1 := Hj (HE.out.below BV.out)
  clear BV G0 BW HI HB HE
  obtain ⟨-, -, -, -, -, -, c6⟩ := x_cells G1.out
  by_cases hn : e.h.s.n = m
  ·have KK := Hj (HK.out hn)
   rw [hn] at c6
   have HNM := Hj hn
   clear HK hn
   go_wp2_with fail
   clear c6
   go_loopg [5] m (fun gk i wr => ∃ j : Nat, i = .int .i64 (j : Int) ∧ Hid (gk = m - j ∧ j ≤ m) ∧ Hid (∀ i, i < j → (e.k i).pl) ∧ Hid (Below wc.heap.size wc wr))
   case atStart => exact ⟨0, rfl, ⟨rfl, Nat.zero_le _⟩, (fun i hi => absurd hi (Nat.not_lt_zero i)), Below.refl _ _⟩
   case round =>
    obtain ⟨j, rfl, HJ, HA, BEL⟩ := hrel
    by_cases hlt : j < m
    ·have z0 : (j : Int) < (m : Int) := by omega
     have hj2 := HM.out
     have ovi : IntKind.i64.wrap ((j : Int) + 1) = ((j + 1 : Nat) : Int) := by rw [IntKind.wrap_i64]; omega
     obtain ⟨-, -, -, -, -, -, c6⟩ := x_cells (kept_obj BEL.out G1.out)
     obtain ⟨a, b, o, ha, hA, hb, X, I⟩ := XsIn.at (HI1.out.below BEL.out HB1.out) (i := j) (by rw [HNM.out]; exact hlt)
     rw [HNM.out, ha] at c6
     have x0 := X.c0; have x1 := X.c1; have x2 := X.c2; have x3 := X.c3; have x4 := X.c4; have x5 := X.c5; have x6 := X.c6
     have C := Hj (IH.out j (by rw [HNM.out]; exact hlt) wr I (Nat.le_trans HB1.out BEL.out.size) (HE1.out.below BEL.out))
     have HLT := Hj hlt
     clear X hb I hlt ha hj2
     go_wp2_with fail
     refine C.out.mono ?_
     rintro r w3 ⟨b3, rfl, hp, hb3⟩
     have B3 := Hj (bel_trans BEL.out hb3)
     have HP := Hj hp
     clear hb3 C x0 x1 x2 x3 x4 x5 x6 c6 hp
     cases b3 with
     | true =>
      go_wp2_with fail
      go_roundg (m - (j + 1))
      case measure => have := HJ.out; have := HLT.out; omega
      case rel => exact ⟨j + 1, by go_num, ⟨rfl, HLT.out⟩, (fun i hi => by
       rcases Nat.lt_succ_iff_lt_or_eq.1 hi with h | rfl
       ·exact HA.out i h
       ·first | exact HP.out rfl | exact HP.out trivial), B3.out⟩
     | false =>
      go_wp2_with fail
      go_ret
      exact ⟨false, rfl, (fun x => by cases x), bel_trans BW1.out B3.out⟩
    ·obtain rfl : j = m := by have := HJ.out; omega
     clear hlt
     go_wp2_with fail
     go_ret
     exact ⟨true, rfl, (fun _ => pl_of KK.out (fun i hi => HA.out i (by rw [← HNM.out]; exact hi))), bel_trans BW1.out BEL.out⟩
  ·have hn2 : ¬ (e.h.s.n : Int) = (m : Int) := by omega
   clear hn
   go_wp2_with fail
   go_ret
   exact ⟨false, rfl, (fun x => by cases x), BW1.out⟩
theorem wt_nm (e : Ex) : e.h.nm.length ≤ e.wt := by rw [Ex.wt_eq]; omega
theorem wt_k (e : Ex) {i : Nat} (hi : i < e.h.s.n) : (e.k i).wt ≤ e.wt := by
 rw [Ex.wt_eq e]
 have := sm_one (f := fun i => (e.k i).wt) hi
 have h : (fun i => (e.k i).wt) i = (e.k i).wt := rfl
 omega
theorem plain_any (B : Nat) (e : Ex) : e.wt ≤ 100000 → PlX B e := by
 induction e using Ex.ind with
 | H e ih => exact fun hw => plain_of B e (by have := wt_nm e; omega) fun i hi => ih i hi (by have := wt_k e hi; omega)
end Go.Proofs.YthmlhkllbichgaaGreatDoor
