/-
  ParseTrees holds, tied to the program's text. (part 31 of 35) Conditions: none beside what the card ties.
-/
import Derived.Test.YthmlhkllbichgaaGreatDoorVbd
import Derived.Deep.RegionLaw
import Derived.Test.YthmlhkllbichgaaGreatDoorVay
namespace Go.Proofs.YthmlhkllbichgaaGreatDoor
open Go.RowKit
set_option maxRecDepth 100000
def hT (us : List Tk) : Tk := us.headD noT
theorem er_hd {s : PS} {us : List Tk} (h : s.ts.map Tk.er = us) : s.hd.er = hT us := by
 subst h
 unfold PS.hd hT
 cases s.ts <;> rfl
theorem er_tk {s : PS} {us : List Tk} (h : s.ts.map Tk.er = us) : s.tk.ts.map Tk.er = us.tail := by
 subst h
 show s.ts.tail.map Tk.er = _
 cases s.ts <;> rfl
theorem er_tx {s : PS} {us : List Tk} (h : s.ts.map Tk.er = us) : s.hd.tx = (hT us).tx := (congrArg Tk.tx (er_hd h) : s.hd.er.tx = _)
theorem er_kd {s : PS} {us : List Tk} (h : s.ts.map Tk.er = us) : s.hd.kd = (hT us).kd := (congrArg Tk.kd (er_hd h) : s.hd.er.kd = _)
theorem er_at {s : PS} {us : List Tk} (h : s.ts.map Tk.er = us) : atT s.hd = atT (hT us) := (congrArg atT (er_hd h) : atT s.hd.er = _)
def RtK {α : Type} (R : α → Prop) (c : Nat) (rest : List Tk) (s : PS) (r : Rs α) : Prop := (∃ q, r = .no 111 q) ∨ ∃ e' s', r = .ok e' s' ∧ R e' ∧ s'.ts.map Tk.er = rest ∧ s'.ns = s.ns ∧ s'.nx = s.nx + c
def Rto (p : PS → Rs Ex) (e : Ex) (us rest : List Tk) : Prop := ∀ s : PS, s.ts.map Tk.er = us ++ rest → s.nx + e.cnt ≤ 2000 → RtK (fun e' => e'.same e.bare = true) e.cnt rest s (p s)
theorem rto_pass {u : PS → Rs Ex} {m : Nat} {e : Ex} {us rest : List Tk} (h : Rto (lvl u m) e us rest) (hs : sgO (4 - m) (hT rest).tx = 0) : Rto (lvl u (m + 1)) e us rest := fun s hu hn => by
 rcases h s hu hn with ⟨q, hq⟩ | ⟨e', s', h1, h2, h3, h4⟩
 ·left
  refine ⟨q, ?_⟩
  show (lvl u m s).bind _ = _
  rw [hq]; rfl
 ·right
  refine ⟨e', s', ?_, h2, h3, h4⟩
  have hs' : sgO (4 - m) s'.hd.tx = 0 := by rw [er_tx h3]; exact hs
  show (lvl u m s).bind _ = _
  rw [h1, bind_ok]
  by_cases c : m = 2
  ·subst c; rw [if_pos rfl, if_pos hs']
  ·rw [if_neg c, chain, if_pos hs']
theorem rto_up {u : PS → Rs Ex} {e : Ex} {us rest : List Tk} {j : Nat} (h : Rto (lvl u j) e us rest) : ∀ d : Nat, (∀ i, j ≤ i → i < j + d → sgO (4 - i) (hT rest).tx = 0) → Rto (lvl u (j + d)) e us rest
 | 0, _ => h
 | d + 1, hs => rto_pass (rto_up h d fun i h1 h2 => hs i h1 (by omega)) (hs (j + d) (by omega) (by omega))
theorem cnt_two {e : Ex} (h : e.h.s.n = 2) : e.cnt = 1 + (e.k 0).cnt + (e.k 1).cnt := by
 rw [Ex.cnt_eq, h]; simp only [sm]; omega
theorem cnt_one {e : Ex} (h : e.h.s.n = 1) : e.cnt = 1 + (e.k 0).cnt := by
 rw [Ex.cnt_eq, h]; simp only [sm]; omega
theorem cnt_nil {e : Ex} (h : e.h.s.n = 0) : e.cnt = 1 := by
 rw [Ex.cnt_eq, h]; rfl
theorem whole_is {e : Ex} {s : PS} (h : s.nx + 1 ≤ 2000) : whole e s = .ok e ⟨s.ts, s.ns, s.nx + 1⟩ := by
 unfold whole; rw [if_neg (by omega)]
theorem same_bare {e' e : Ex} (h1 : e'.h.op = e.h.op) (h2 : e'.h.bo = if e.h.op = 1 then e.h.bo else false) (h3 : e'.h.it = if e.h.op = 2 then e.h.it else 0) (h4 : e'.h.fl = if e.h.op = 3 then e.h.fl else 0) (h5 : e'.h.nm = if e.h.op = 4 then e.h.nm else []) (h6 : e'.h.s.n = e.h.s.n)
  (h7 : ∀ i, i < e.h.s.n → (e'.k i).same (e.k i).bare = true) : e'.same e.bare = true :=
 Ex.same_iff.2 ⟨by rw [Ex.bare_h]; exact h1, by rw [Ex.bare_h]; exact h2, by rw [Ex.bare_h]; exact h3, by rw [Ex.bare_h]; exact h4, by rw [Ex.bare_h]; exact h5, by rw [Ex.bare_h]; exact h6, fun i hi => by rw [Ex.bare_k]; exact h7 i (by omega)⟩
theorem op_lv {op : Int} (h0 : 5 ≤ op) (h1 : op ≤ 16) : signB op ≠ [91] ∧ ∃ n, n ≤ 4 ∧ sgO n (signB op) = op ∧ ∀ j, j ≤ 4 → j ≠ n → sgO j (signB op) = 0 := by
 have : op = 5 ∨ op = 6 ∨ op = 7 ∨ op = 8 ∨ op = 9 ∨ op = 10 ∨ op = 11 ∨ op = 12 ∨ op = 13 ∨ op = 14 ∨ op = 15 ∨ op = 16 := by omega
 rcases this with rfl | rfl | rfl | rfl | rfl | rfl | rfl | rfl | rfl | rfl | rfl | rfl
 ·exact ⟨by decide, 3, by decide⟩
 ·exact ⟨by decide, 3, by decide⟩
 ·exact ⟨by decide, 4, by decide⟩
 ·exact ⟨by decide, 4, by decide⟩
 ·exact ⟨by decide, 2, by decide⟩
 ·exact ⟨by decide, 2, by decide⟩
 ·exact ⟨by decide, 2, by decide⟩
 ·exact ⟨by decide, 2, by decide⟩
 ·exact ⟨by decide, 2, by decide⟩
 ·exact ⟨by decide, 2, by decide⟩
 ·exact ⟨by decide, 1, by decide⟩
 ·exact ⟨by decide, 0, by decide⟩
theorem rto_bin {u : PS → Rs Ex} {m : Nat} {e : Ex} {ta tb rest : List Tk} (h0 : 5 ≤ e.h.op) (h1 : e.h.op ≤ 16) (hn2 : e.h.s.n = 2) (A : Rto (lvl u m) (e.k 0) ta (tSg (signB e.h.op) :: (tb ++ rest))) (B : Rto (lvl u m) (e.k 1) tb rest)
  (ho : sgO (4 - m) (signB e.h.op) = e.h.op) (hr : sgO (4 - m) (hT rest).tx = 0) : Rto (lvl u (m + 1)) e (ta ++ tSg (signB e.h.op) :: tb) rest := fun s hu hn => by
 rw [cnt_two hn2] at hn ⊢
 have hu' : s.ts.map Tk.er = ta ++ tSg (signB e.h.op) :: (tb ++ rest) := by rw [hu]; simp
 rcases A s hu' (by omega) with ⟨q, hq⟩ | ⟨a, s1, a1, a2, a3, a4, a5⟩
 ·left
  refine ⟨q, ?_⟩
  show (lvl u m s).bind _ = _
  rw [hq]; rfl
 have hx : s1.hd.tx = signB e.h.op := er_tx a3
 have h9 : sgO (4 - m) s1.hd.tx = e.h.op := by rw [hx]; exact ho
 have h9' : ¬ sgO (4 - m) s1.hd.tx = 0 := by rw [h9]; omega
 have hl : ∃ f, s1.ts.length = f + 1 := by
  have := congrArg List.length a3
  rw [List.length_map, List.length_cons] at this
  exact ⟨_, this⟩
 obtain ⟨f, hf⟩ := hl
 have hbn : binr (4 - m) (lvl u m) a s1 = (lvl u m s1.tk).bind fun b s' => whole (opX (sgO (4 - m) s1.hd.tx) s1.hd.ps [a, b]) s' := rfl
 rcases B s1.tk (er_tk a3) (by show s1.nx + _ ≤ _; omega) with ⟨q, hq⟩ | ⟨b, s2, b1, b2, b3, b4, b5⟩
 ·left
  refine ⟨q, ?_⟩
  rw [hq, bind_no] at hbn
  show (lvl u m s).bind _ = _
  rw [a1, bind_ok]
  by_cases c : m = 2
  ·subst c; rw [if_pos rfl, if_neg h9']; exact hbn
  ·rw [if_neg c, chain, if_neg h9', hbn]; rfl
 right
 have b5' : s2.nx = s1.nx + (e.k 1).cnt := b5
 have b4' : s2.ns = s1.ns := b4
 rw [b1, bind_ok, whole_is (by omega), h9] at hbn
 refine ⟨opX e.h.op s1.hd.ps [a, b], ⟨s2.ts, s2.ns, s2.nx + 1⟩, ?_, ?_, b3, by show s2.ns = s.ns; omega, by show s2.nx + 1 = _; omega⟩
 ·show (lvl u m s).bind _ = _
  rw [a1, bind_ok]
  by_cases c : m = 2
  ·subst c; rw [if_pos rfl, if_neg h9']; exact hbn
  ·rw [if_neg c, chain, if_neg h9', hbn, bind_ok, hf, chain, if_pos]
   rw [show (⟨s2.ts, s2.ns, s2.nx + 1⟩ : PS).hd = s2.hd from rfl, er_tx b3]
   exact hr
 ·refine same_bare rfl ?_ ?_ ?_ ?_ hn2.symm ?_
  ·rw [if_neg (by omega)]; rfl
  ·rw [if_neg (by omega)]; rfl
  ·rw [if_neg (by omega)]; rfl
  ·rw [if_neg (by omega)]; rfl
  ·intro i hi
   rcases (show i = 0 ∨ i = 1 by omega) with rfl | rfl
   ·exact a2
   ·exact b2
theorem rt_one {e : Ex} {op ps : Int} {rest : List Tk} {s s0 : PS} {r : Rs Ex} (h0 : 17 ≤ e.h.op) (ho : op = e.h.op) (hn : e.h.s.n = 1) (hs : s0.ns = s.ns ∧ s0.nx = s.nx) (hx : s.nx + e.cnt ≤ 2000) (h : RtK (fun e' => e'.same (e.k 0).bare = true) (e.k 0).cnt rest s0 r) :
  RtK (fun e' => e'.same e.bare = true) e.cnt rest s (r.bind fun x s' => whole (opX op ps [x]) s') := by
 rw [cnt_one hn] at hx ⊢
 rcases h with ⟨q, rfl⟩ | ⟨a, s1, rfl, a2, a3, a4, a5⟩
 ·exact .inl ⟨q, rfl⟩
 ·right
  refine ⟨opX op ps [a], ⟨s1.ts, s1.ns, s1.nx + 1⟩, ?_, ?_, a3, by show s1.ns = s.ns; omega, by show s1.nx + 1 = _; omega⟩
  ·rw [bind_ok, whole_is (by omega)]
  ·refine same_bare ho ?_ ?_ ?_ ?_ hn.symm ?_
   ·rw [if_neg (by omega)]; rfl
   ·rw [if_neg (by omega)]; rfl
   ·rw [if_neg (by omega)]; rfl
   ·rw [if_neg (by omega)]; rfl
   ·intro i hi
    obtain rfl : i = 0 := by omega
    exact a2
theorem rto_un {k : Nat} {e : Ex} {x : List UInt8} {ta rest : List Tk} (h0 : 17 ≤ e.h.op) (hn1 : e.h.s.n = 1) (hx : unT x = e.h.op) (A : ∀ k, Rto (unK k) (e.k 0) ta rest) : Rto (unK k) e (tSg x :: ta) rest := fun s hu hn => by
 rw [unK_eq]
 have e1 : unT s.hd.tx = e.h.op := by rw [er_tx hu]; exact hx
 unfold un
 rw [if_neg (by omega), e1]
 cases k with
 | zero => exact .inl ⟨_, rfl⟩
 | succ k => exact rt_one h0 rfl hn1 ⟨rfl, rfl⟩ hn (A k s.tk (er_tk hu) (by rw [cnt_one hn1] at hn; show s.nx + _ ≤ _; omega))
theorem within_to {k : Nat} {e : Ex} {o c : List UInt8} {ta rest : List Tk} (B : ∀ k, Rto (exK k) e ta (tSg c :: rest)) (s : PS) (hu : s.ts.map Tk.er = tSg o :: (ta ++ tSg c :: rest)) (hn : s.nx + e.cnt ≤ 2000) :
  RtK (fun e' => e'.same e.bare = true) e.cnt rest s (within (dK k) o c s) := by
 unfold within
 rw [if_pos (show s.hd.tx = o from er_tx hu)]
 cases k with
 | zero => exact .inl ⟨_, rfl⟩
 | succ k =>
  show RtK _ _ _ _ ((exK k s.tk).bind _)
  rcases B k s.tk (er_tk hu) hn with ⟨q, hq⟩ | ⟨a, s1, a1, a2, a3, a4, a5⟩
  ·rw [hq]; exact .inl ⟨q, rfl⟩
  ·right
   refine ⟨a, s1.tk, ?_, a2, er_tk a3, a4, a5⟩
   rw [a1, bind_ok]
   unfold expT
   rw [if_pos (show s1.hd.tx = c from er_tx a3)]
   rfl
theorem sg_41 : ∀ n, n ≤ 4 → sgO n [41] = 0 := by decide
theorem sg_93 : ∀ n, n ≤ 4 → sgO n [93] = 0 := by decide
theorem nm_not {x : List UInt8} (h : NmOk x) : unT x = 0 ∧ x ≠ [40] := by
 obtain ⟨c, r, rfl, hc⟩ := nm_head h
 constructor
 ·unfold unT
  rw [if_neg, if_neg]
  ·intro e; cases e; exact absurd hc (by decide)
  ·intro e; cases e; exact absurd hc (by decide)
 ·intro e; cases e; exact absurd hc (by decide)
theorem rto_leaf {k : Nat} {e : Ex} {t : Tk} {rest : List Tk} (hn : e.h.s.n = 0) (hu : unT t.tx = 0) (_ : t.tx ≠ [40]) (h : ∀ s : PS, s.hd.er = t → s.nx + 1 ≤ 2000 → ∃ e', atom (dK k) s = whole e' s.tk ∧ e'.same e.bare = true) : Rto (unK k) e [t] rest := fun s hs hx => by
 rw [cnt_nil hn] at hx ⊢
 rw [unK_eq]
 unfold un
 rw [if_pos (by rw [er_tx hs]; exact hu)]
 obtain ⟨e', h1, h2⟩ := h s (er_hd hs) hx
 rw [h1, whole_is (by exact hx)]
 exact .inr ⟨e', _, rfl, h2, er_tk hs, rfl, rfl⟩
theorem rto_main (e : Ex) : e.pl → (∀ k rest, (hT rest).tx ≠ [91] → Rto (unK k) e (brkK e.bin e.tks) rest) ∧ (∀ k rest, (hT rest).tx ≠ [91] → (∀ n, n ≤ 4 → sgO n (hT rest).tx = 0) → Rto (exK k) e e.tks rest) := by
 induction e using Ex.ind with
 | H e ih =>
  intro hp
  have P : (e.bin = true ∧ ∀ k rest, (hT rest).tx ≠ [91] → (∀ n, n ≤ 4 → sgO n (hT rest).tx = 0) → Rto (exK k) e e.tks rest) ∨ (e.bin = false ∧ ∀ k rest, (hT rest).tx ≠ [91] → Rto (unK k) e e.tks rest) := by
   have fnB : ∀ x : List UInt8, e.h.s.n = 1 → 17 ≤ e.h.op → unT x = 0 → x ≠ [40] → atT (tWd x) = e.h.op → e.h.op = 19 ∨ e.h.op = 20 ∨ e.h.op = 21 → ∀ k rest, Rto (unK k) e (tWd x :: tSg [40] :: ((e.k 0).tks ++ [tSg [41]])) rest := fun x hn h17 hx1 hx2 hx3 hx4 k rest s hs hx => by
    have i0 := (ih 0 (by omega) (hp.ki (by omega))).2
    rw [unK_eq]
    unfold un
    rw [if_pos (by rw [er_tx hs]; exact hx1)]
    have ea : atT s.hd = e.h.op := (er_at hs).trans hx3
    unfold atom
    rw [if_neg (by rw [er_tx hs]; exact hx2), if_neg (by omega), if_neg (by omega), if_neg (by omega), if_neg (by omega), if_neg (by omega), ea]
    refine rt_one h17 rfl hn ⟨rfl, rfl⟩ hx (within_to (fun k' => i0 k' (tSg [41] :: rest) (show ([41] : List UInt8) ≠ [91] by decide) sg_41) s.tk ?_ (by rw [cnt_one hn] at hx; show s.nx + _ ≤ _; omega))
    rw [er_tk hs]
    simp
   cases hp.hd with
   | bin h0 h1 hn =>
    left
    have ob : opBin e.h.op = true := by unfold opBin; exact decide_eq_true ⟨h0, h1⟩
    refine ⟨ob, fun k rest hr hs => ?_⟩
    have i0 := (ih 0 (by omega) (hp.ki (by omega))).1
    have i1 := (ih 1 (by omega) (hp.ki (by omega))).1
    rw [Ex.tks_eq]
    unfold headK
    repeat rw [if_neg (show ¬ e.h.op = _ by omega)]
    rw [if_pos ob, if_pos (show 0 < e.h.s.n by omega), if_pos (show 1 < e.h.s.n by omega)]
    obtain ⟨hb, n, hn4, ho, hj⟩ := op_lv h0 h1
    have A := rto_up (j := 0) (i0 k (tSg (signB e.h.op) :: (brkK (e.k 1).bin (e.k 1).tks ++ rest)) hb) (4 - n) (fun i _ h2 => hj _ (by omega) (by omega))
    have B := rto_up (j := 0) (i1 k rest hr) (4 - n) (fun i _ h2 => hs _ (by omega))
    rw [Nat.zero_add] at A B
    have C := rto_bin h0 h1 hn A B (by rw [show 4 - (4 - n) = n by omega]; exact ho) (hs _ (by omega))
    have D := rto_up C n (fun i _ _ => hs _ (by omega))
    rw [show 4 - n + 1 + n = 5 by omega] at D
    exact D
   | neg h0 hn =>
    right
    refine ⟨by unfold Ex.bin opBin; rw [decide_eq_false]; omega, fun k rest hr => ?_⟩
    have i0 := (ih 0 (by omega) (hp.ki (by omega))).1
    rw [Ex.tks_eq]
    unfold headK
    rcases h0 with h0 | h0
    ·simp only [h0, if_pos (show 0 < e.h.s.n by omega)]
     exact rto_un (by omega) hn (by rw [h0]; rfl) fun k => i0 k rest hr
    ·simp only [h0, if_pos (show 0 < e.h.s.n by omega)]
     exact rto_un (by omega) hn (by rw [h0]; rfl) fun k => i0 k rest hr
   | fn h0 hn =>
    right
    refine ⟨by unfold Ex.bin opBin; rw [decide_eq_false]; omega, fun k rest hr => ?_⟩
    rw [Ex.tks_eq]
    unfold headK
    rcases h0 with h0 | h0 | h0
    ·simp only [h0, if_pos (show 0 < e.h.s.n by omega)]
     exact fnB _ hn (by omega) (by decide) (by decide) (by rw [h0]; decide) (by omega) k rest
    ·simp only [h0, if_pos (show 0 < e.h.s.n by omega)]
     exact fnB _ hn (by omega) (by decide) (by decide) (by rw [h0]; decide) (by omega) k rest
    ·simp only [h0, if_pos (show 0 < e.h.s.n by omega)]
     exact fnB _ hn (by omega) (by decide) (by decide) (by rw [h0]; decide) (by omega) k rest
   | nam h0 hn hm =>
    right
    refine ⟨by unfold Ex.bin opBin; rw [decide_eq_false]; omega, fun k rest hr => ?_⟩
    rw [Ex.tks_eq]
    unfold headK
    simp only [h0]
    show Rto (unK k) e (nameK e.h.nm e.h.s.n _) rest
    unfold nameK
    obtain ⟨m1, m2⟩ := nm_not hm
    intro s hs hx
    have hk : s.hd.kd = 1 := er_kd hs
    have htx : s.hd.tx = e.h.nm := er_tx hs
    rw [unK_eq]
    unfold un
    rw [if_pos (by rw [htx]; exact m1)]
    have ea : atT s.hd = 4 := by rw [er_at hs]; rfl
    unfold atom
    rw [if_neg (by rw [htx]; exact m2), if_neg (by omega), if_neg (by omega), if_neg (by omega), if_neg (by omega), if_pos (by omega), htx]
    by_cases c : 0 < e.h.s.n
    ·have i0 := (ih 0 c (hp.ki c)).2
     have hn1 : e.h.s.n = 1 := by omega
     rw [if_pos c, if_pos c] at hs
     have hs1 := er_tk hs
     have W := within_to (k := k) (o := [91]) (c := [93]) (rest := rest) (fun k' => i0 k' (tSg [93] :: rest) (show ([93] : List UInt8) ≠ [91] by decide) sg_93) s.tk (by rw [hs1]; simp) (by rw [cnt_one hn1] at hx; show s.nx + _ ≤ _; omega)
     unfold index
     rw [if_pos (show s.tk.hd.tx = [91] from er_tx hs1)]
     rw [cnt_one hn1] at hx ⊢
     rcases W with ⟨q, hq⟩ | ⟨a, s1, a1, a2, a3, a4, a5⟩
     ·rw [hq]; exact .inl ⟨q, rfl⟩
     ·right
      have a5' : s1.nx = s.nx + (e.k 0).cnt := a5
      refine ⟨nmX s.hd.ps e.h.nm [a], ⟨s1.ts, s1.ns, s1.nx + 1⟩, ?_, ?_, a3, a4, by show s1.nx + 1 = _; omega⟩
      ·rw [a1, bind_ok, bind_ok, whole_is (by omega)]
      ·refine same_bare h0.symm ?_ ?_ ?_ ?_ hn1.symm ?_
       ·rw [if_neg (by omega)]; rfl
       ·rw [if_neg (by omega)]; rfl
       ·rw [if_neg (by omega)]; rfl
       ·rw [if_pos h0]; rfl
       ·intro i hi
        obtain rfl : i = 0 := by omega
        exact a2
    ·have hn0 : e.h.s.n = 0 := by omega
     rw [if_neg c] at hs
     have hs1 : s.tk.ts.map Tk.er = rest := er_tk hs
     unfold index
     rw [if_neg (by rw [er_tx hs1]; exact hr), bind_ok]
     rw [cnt_nil hn0] at hx ⊢
     rw [whole_is (by exact hx)]
     refine .inr ⟨_, _, rfl, ?_, hs1, rfl, rfl⟩
     refine same_bare h0.symm ?_ ?_ ?_ ?_ hn0.symm (fun i hi => by omega)
     ·rw [if_neg (by omega)]; rfl
     ·rw [if_neg (by omega)]; rfl
     ·rw [if_neg (by omega)]; rfl
     ·rw [if_pos h0]; rfl
   | int h0 hn h1 h2 =>
    right
    refine ⟨by unfold Ex.bin opBin; rw [decide_eq_false]; omega, fun k rest hr => ?_⟩
    rw [Ex.tks_eq]
    unfold headK
    simp only [h0]
    refine rto_leaf hn rfl (by simp [tIn]) fun s hs _ => ⟨inX s.hd.ps s.hd.nn, ?_, ?_⟩
    ·have ea : atT s.hd = 2 := (congrArg atT hs).trans rfl
     have et : s.hd.tx = [] := (congrArg Tk.tx hs).trans rfl
     unfold atom
     rw [if_neg (by rw [et]; simp), if_neg (by omega), if_neg (by omega), if_pos ea]
    ·refine same_bare h0.symm ?_ ?_ ?_ ?_ hn.symm (fun i hi => by omega)
     ·rw [if_neg (by omega)]; rfl
     ·rw [if_pos h0]; exact (congrArg Tk.nn hs).trans rfl
     ·rw [if_neg (by omega)]; rfl
     ·rw [if_neg (by omega)]; rfl
   | flt h0 hn h1 h2 =>
    right
    refine ⟨by unfold Ex.bin opBin; rw [decide_eq_false]; omega, fun k rest hr => ?_⟩
    rw [Ex.tks_eq]
    unfold headK
    simp only [h0]
    refine rto_leaf hn rfl (by simp [tFl]) fun s hs _ => ⟨flX s.hd.ps s.hd.ff, ?_, ?_⟩
    ·have ea : atT s.hd = 3 := (congrArg atT hs).trans rfl
     have et : s.hd.tx = [] := (congrArg Tk.tx hs).trans rfl
     unfold atom
     rw [if_neg (by rw [et]; simp), if_neg (by omega), if_neg (by omega), if_neg (by omega), if_pos ea]
    ·refine same_bare h0.symm ?_ ?_ ?_ ?_ hn.symm (fun i hi => by omega)
     ·rw [if_neg (by omega)]; rfl
     ·rw [if_neg (by omega)]; rfl
     ·rw [if_pos h0]; exact (congrArg Tk.ff hs).trans rfl
     ·rw [if_neg (by omega)]; rfl
   | boo h0 hn =>
    right
    refine ⟨by unfold Ex.bin opBin; rw [decide_eq_false]; omega, fun k rest hr => ?_⟩
    rw [Ex.tks_eq]
    unfold headK
    simp only [h0]
    have D : ∀ b : Bool, unT (tWd (if b then [116, 114, 117, 101] else [102, 97, 108, 115, 101])).tx = 0 ∧ (tWd (if b then [116, 114, 117, 101] else [102, 97, 108, 115, 101])).tx ≠ [40] ∧ atT (tWd (if b then [116, 114, 117, 101] else [102, 97, 108, 115, 101])) = 1 ∧ ((tWd (if b then [116, 114, 117, 101] else [102, 97, 108, 115, 101])).tx == [116, 114, 117, 101]) = b := by decide
    obtain ⟨d1, d2, d3, d4⟩ := D e.h.bo
    refine rto_leaf hn d1 d2 fun s hs _ => ⟨boX s.hd.ps (s.hd.tx == [116, 114, 117, 101]), ?_, ?_⟩
    ·have ea : atT s.hd = 1 := (congrArg atT hs).trans d3
     have et : s.hd.tx = (tWd (if e.h.bo then [116, 114, 117, 101] else [102, 97, 108, 115, 101])).tx := (congrArg Tk.tx hs : s.hd.er.tx = _)
     unfold atom
     rw [if_neg (by rw [et]; exact d2), if_neg (by omega), if_pos ea]
    ·refine same_bare h0.symm ?_ ?_ ?_ ?_ hn.symm (fun i hi => by omega)
     ·rw [if_pos h0]
      show (s.hd.tx == _) = _
      rw [show s.hd.tx = (tWd (if e.h.bo then [116, 114, 117, 101] else [102, 97, 108, 115, 101])).tx from (congrArg Tk.tx hs : s.hd.er.tx = _)]
      exact d4
     ·rw [if_neg (by omega)]; rfl
     ·rw [if_neg (by omega)]; rfl
     ·rw [if_neg (by omega)]; rfl
  rcases P with ⟨hb, hx⟩ | ⟨hb, hu⟩
  ·refine ⟨fun k rest hr s hs hn => ?_, hx⟩
   rw [hb] at hs
   have hs' : s.ts.map Tk.er = tSg [40] :: (e.tks ++ tSg [41] :: rest) := by rw [hs]; simp [brkK]
   rw [unK_eq]
   unfold un
   rw [if_pos (by rw [show s.hd.tx = [40] from er_tx hs']; decide)]
   unfold atom
   rw [if_pos (show s.hd.tx = [40] from er_tx hs')]
   exact within_to (fun k' => hx k' (tSg [41] :: rest) (show ([41] : List UInt8) ≠ [91] by decide) sg_41) s hs' hn
  ·refine ⟨fun k rest hr => ?_, fun k rest hr hs => ?_⟩
   ·rw [hb]; exact hu k rest hr
   ·have := rto_up (j := 0) (hu k rest hr) 5 (fun i _ _ => hs _ (by omega))
    exact this
theorem rsX_back {e : Ex} (hp : e.pl) (hc : e.cnt ≤ 2000) (hl : (e.txt prT).length ≤ 16384) : (∃ q, (if (lexV (e.txt prT)).2.1 = 0 then oneX 24 ⟨(lexV (e.txt prT)).1, 0, 0⟩ else .no (lexV (e.txt prT)).2.1 ((lexV (e.txt prT)).2.2 : Nat)) = .no 111 q) ∨
  ∃ e' s', (if (lexV (e.txt prT)).2.1 = 0 then oneX 24 ⟨(lexV (e.txt prT)).1, 0, 0⟩ else .no (lexV (e.txt prT)).2.1 ((lexV (e.txt prT)).2.2 : Nat)) = .ok e' s' ∧ e'.same e.bare = true := by
 obtain ⟨ts, R, he⟩ := lexd_ex e hp [] [noT] stp_nil lexd_nil 0
 rw [List.append_nil, Nat.zero_add] at R
 rw [lexV_run hl R, if_pos rfl]
 rcases (rto_main e hp).2 24 [noT] (by decide) (by decide) ⟨ts, 0, 0⟩ he (by show 0 + _ ≤ _; omega) with ⟨q, hq⟩ | ⟨e', s', h1, h2, h3, -⟩
 ·left
  refine ⟨q, ?_⟩
  unfold oneX
  rw [hq]; rfl
 ·right
  refine ⟨e', s', ?_, h2⟩
  unfold oneX
  rw [h1, bind_ok]
  unfold endT
  rw [if_pos (show s'.hd.kd = 0 from er_kd h3)]
def rowE (K : Nat → Ex) : Nat → List Value
 | 0 => []
 | n + 1 => rowE K n ++ (K n).h.vs
theorem exvs_len (d : Ex) : d.h.vs.length = 7 := rfl
theorem rowE_len (K : Nat → Ex) (n : Nat) : (rowE K n).length = n * 7 := by
 induction n with
 | zero => rfl
 | succ n ih => rw [rowE, List.length_append, ih, exvs_len, Nat.succ_mul]
theorem rowE_congr {K J : Nat → Ex} {n : Nat} (h : ∀ i, i < n → K i = J i) : rowE K n = rowE J n := by
 induction n with
 | zero => rfl
 | succ n ih => rw [rowE, rowE, ih fun i hi => h i (by omega), h n (by omega)]
theorem rowE_at {K : Nat → Ex} {n i j : Nat} {v : Value} (hi : i < n) (hv : (K i).h.vs[j]? = some v) : (rowE K n)[i * 7 + j]? = some v := by
 induction n with
 | zero => omega
 | succ n ih =>
  rw [rowE]
  have hj : j < 7 := by
   have := (List.getElem?_eq_some_iff.1 hv).1
   rwa [exvs_len] at this
  by_cases h : i < n
  ·rw [List.getElem?_append_left (by rw [rowE_len]; omega)]
   exact ih h
  ·obtain rfl : i = n := by omega
   rw [List.getElem?_append_right (by rw [rowE_len]; omega), rowE_len, show i * 7 + j - i * 7 = j by omega]
   exact hv
theorem own_xl {w : World} {L n : Nat} {v : Value} {K : Nat → Ex} (h : w.ownsRow L 41 7 v n (rowE K n)) (hK : ∀ i, i < n → XO (Dr L v) (K i) w) : ∃ S : Sl, v = S.val ∧ S.n = n ∧ XL (Fro L) S K w := by
 have hk : ∀ i, i < n → XO (Fro L) (K i) w := fun i hi => (hK i hi).imp (fun k _ x => x.1)
 rcases h.2 with ⟨rfl, rfl⟩ | ⟨g, cap, cur, rfl, hb, hg, hn, hc, hcs, ht⟩
 ·exact ⟨⟨none, 0, 0⟩, rfl, rfl, ⟨sl_no, (fun a ha => by cases ha), fun i hi => absurd hi (Nat.not_lt_zero i)⟩⟩
 ·refine ⟨⟨some ⟨g, 0, none⟩, n, cap⟩, rfl, rfl, ⟨hn, hc, fun e => by cases e⟩, ?_, hk⟩
  intro a ha i hi
  cases ha
  have hi : i < n := hi
  refine ⟨(Array.getElem?_eq_some_iff.1 hg).1, fun j u hu => ?_⟩
  rw [up_cell]
  refine ⟨?_, h.cells (g := g) rfl _ _ (rowE_at hi hu)⟩
  rw [add_block]
  exact hb
theorem app_xo {w w' : World} {L : Nat} {v v' : Value} {d : Ex} (gr : w.grownBy w' v.ownBlock) (mv : RowAt w v v') (h : XO (Dr L v) d w) : XO (Dr L v') d w' := by
 have h2 : XO (fun k => Dr L v k ∧ v'.ownBlock ≠ some k) d w := h.imp fun k hk x => ⟨x, fun e => by
  rcases mv k e with h | h
  ·exact x.2 h
  ·omega⟩
 exact (h2.fx (gr_fx gr) (fun k hk x => x.1.2 hk)).imp fun k _ x => ⟨x.1.1, x.2⟩
theorem expr_info : (Tryz.prog.info? 41).map (fun i => (i.zero, i.size, i.bytes)) = some (some zeroH.v, 7, 72) := by kernel_rfl
theorem moreE_row {w : World} {B n : Nat} {K : Nat → Ex} {b : Ex} {v : Value} (h : w.ownsRow B 41 7 v (n + 1) (rowE K n ++ b.h.vs)) : w.ownsRow B 41 7 v (n + 1) (rowE (fun i => if i < n then K i else b) (n + 1)) := by
 have e : rowE (fun i => if i < n then K i else b) (n + 1) = rowE K n ++ b.h.vs := by
  rw [rowE, rowE_congr (J := K) (fun i hi => by rw [if_pos hi]), if_neg (Nat.lt_irrefl n)]
 rw [e]
 exact h
theorem moreE_x {D : Nat → Prop} {w : World} {n : Nat} {K : Nat → Ex} {b : Ex} (h : ∀ i, i < n → XO D (K i) w) (hb : XO D b w) : ∀ i, i < n + 1 → XO D ((fun i => if i < n then K i else b) i) w := by
 intro i hi
 dsimp only
 split
 ·rename_i h1; exact h i h1
 ·exact hb
theorem step_append_moved {P : Program} (w : World) {ops : Array Oper} {o : Oper} {a : Act} {K : Act → World → Prop} {Q : Exit → Act → World → Prop} {E : Prop} (hgd : o.guard = none) (s x : Operand) (t : TypeId)
  (ho : o.op = .call { callee := .builtin .append, args := #[s, x], argTypes := #[t, t] })
  (base : Nat) (e : TypeId) (i : TypeInfo) (z : Value) (size bytes : Nat) (ht : P.underlying t = some (.slice e)) (hi : P.info? e = some i) (hz : i.zero = some z)
  (hsize : i.size = size) (hby : i.bytes = bytes) (hzs : z.cells.size = size) (hsz : 0 < size)
  (v : Value) (n : Nat) (xs : List Value) (hs : a.eval s = v) (hown : w.ownsRow base e size v n xs)
  (ad : Addr) (m c : Nat) (news : List Value) (hx : a.eval x = .slice (some ad) m c) (hl : news.length = m * size) (hnews : ∀ j u, news[j]? = some u → w.cell? (ad.add j) = some u) (h1 : ∀ u ∈ news, u.oneCell' = true)
  (h63 : n + m ≤ maxLen) (hbytes : (n + m) * bytes ≤ 140737488355328) (hbase : base ≤ w.heap.size)
  (h : ∀ v' w', w'.ownsRow base e size v' (n + m) (xs ++ news) → w.grownBy w' v.ownBlock → RowAt w v v' → K (a.put o.dst v') w') : if Region.wanted o (yielded ops a.tmps) = true then Oper.wp P o a w K Q else E := by
 have hw : Region.wanted o (yielded ops a.tmps) = true := by simp [Region.wanted, hgd]
 rw [if_pos hw]
 exact wp_append_moved w s x t ho base e i z size bytes ht hi hz hsize hby hzs hsz v n xs hs hown ad m c news hx hl hnews h1 h63 hbytes hbase h
theorem new_oneE (w : World) (e : Ex) (j : Nat) (u : Value) (hu : e.h.vs[j]? = some u) : (w.alloc (.cells e.h.vs.toArray 41)).cell? ((⟨w.heap.size, 0, none⟩ : Addr).add j) = some u := by
 rw [Addr.add_mid, Nat.zero_add]
 exact ((Blk.new w 41 e.h.vs.toArray).cell j).trans (by rw [List.getElem?_toArray]; exact hu)
theorem app_below {B : Nat} {W w w' : World} {n z : Nat} {t : TypeId} {v : Value} {xs : List Value} (h : Below B W w) (gr : w.grownBy w' v.ownBlock) (own : w.ownsRow (B + 1) t z v n xs) (hB : B ≤ w.heap.size) : Below B W w' :=
 h.trans (((gr_fx gr).mono (C := B) (Y := fun k => v.ownBlock = some k) hB (fun _ _ x => x)).bel (fun k hk x => by have := (own_block own x).1; omega))
def bH (h : EH) (s : Sl) : EH := ⟨h.op, 0, if h.op = 1 then h.bo else false, if h.op = 2 then h.it else 0, if h.op = 3 then h.fl else 0, if h.op = 4 then h.nm else [], s⟩
def RetBare (e : Ex) (w : World) (r : Ending) (w' : World) : Prop := ∃ e' : Ex, r = .returned e'.h.v ∧ XO (Fro w.heap.size) e' w' ∧ e'.same e.bare = true ∧ Below w.heap.size w w'
def BaX (B : Nat) (e : Ex) : Prop := ∀ (w : World), e.In B w → B ≤ w.heap.size → Calls Tryz.prog 23 #[e.h.v] w (RetBare e w)
theorem bH_ok {h : EH} {s : Sl} (g : h.ok) (hs : s.ok) : (bH h s).ok := by
 refine ⟨g.op0, g.op1, (by show (-9223372036854775808 : Int) ≤ 0; decide), (by show (0 : Int) ≤ 9223372036854775807; decide), ?_, ?_, ?_, ?_, hs⟩
 ·show -2147483648 ≤ (if h.op = 2 then h.it else 0); split
  ·exact g.it0
  ·decide
 ·show (if h.op = 2 then h.it else 0) ≤ 2147483647; split
  ·exact g.it1
  ·decide
 ·show Word (if h.op = 3 then h.fl else 0); split
  ·exact g.fl
  ·exact ⟨by decide, by decide⟩
 ·show (if h.op = 4 then h.nm else []).length ≤ maxLen; split
  ·exact g.nm
  ·exact Nat.zero_le _
set_option maxHeartbeats 6400000 in
theorem bare_of (B : Nat) (e : Ex) (hn4 : e.h.s.n ≤ 100000) (ih : ∀ i, i < e.h.s.n → BaX B (e.k i)) : BaX B e := by
 intro w hI hB
 have hb : Below w.heap.size w ((bx w (xO e.h)).alloc zX) := bel_alloc (bx_bel (Below.refl _ _) (Nat.le_refl _) _) _
 have g0 : ((bx w (xO e.h)).alloc zX).heap[w.heap.size]? = some (xO e.h) := (Below.heap_alloc _ _ _ (by rw [bx_size]; omega)).trans (bx_new _ _)
 have g1 : Blk ((bx w (xO e.h)).alloc zX) (w.heap.size + 1) 41 zeroH.va := by
  have := Blk.new (bx w (xO e.h)) 41 zeroH.va
  rw [bx_size] at this
  exact this
 have z1 : ((bx w (xO e.h)).alloc zX).heap.size = w.heap.size + 2 := by rw [World.size_alloc, bx_size]
 have G0 := Hj g0
 have R1 := Hj g1
 have Z1 := Hj z1
 have HI := Hj (hI.xs.below hb hB)
 have BW := Hj hb
 have HB := Hj hB
 have IH := Hj ih
 have OK := Hj hI.ok
 have HN := Hj hn4
 clear hI hb hB ih hn4 g0 g1 z1
 show Calls Tryz.prog 23 #[.agg #[.int .u8 e.h.op, .int .i64 e.h.ps, .bool e.h.bo, .int .i32 e.h.it, .int .u64 e.h.fl, .string ⟨e.h.nm.toArray⟩, .slice e.h.s.ao e.h.s.n e.h.s.c]] w _
 go_enter Tryz.func23, Tryz.ntmps23
 go_upto_region 1 with fail
 rw [bx_x]
 change (Code.region 1 _ _).wp _ _ _ ((bx w (xO e.h)).alloc zX)
 generalize (bx w (xO e.h)).alloc zX = W at *
 obtain ⟨c0, c1, c2, c3, c4, c5, c6⟩ := x_cells G0.out
 have BLb := bx_bel (Below.refl W.heap.size W) (Nat.le_refl _) (xO ⟨e.h.op, 0, false, 0, 0, [], ⟨none, 0, 0⟩⟩)
 have XB : Hid (Blk (bx W (xO ⟨e.h.op, 0, false, 0, 0, [], ⟨none, 0, 0⟩⟩)) W.heap.size 41 #[.int .u8 e.h.op, .int .i64 0, .bool false, .int .i32 0, .int .u64 0, .string ⟨List.toArray []⟩, .slice none 0 0]) := bx_ex W _
 have BV := Hj BLb
 have HXZ : Hid (w.heap.size + 1 < W.heap.size) := by show _ < _; rw [Z1.out]; omega
 clear BLb
 go_upto_region 2 with fail
 change (Code.region 2 _ _).wp _ _ _ (bx W (xO ⟨e.h.op, 0, false, 0, 0, [], ⟨none, 0, 0⟩⟩))
 clear c0 c1 c2 c3 c4 c5 c6
 obtain ⟨c0, c1, c2, c3, c4, c5, c6⟩ := x_cells (kept_obj BV.out G0.out)
 generalize bx W (xO ⟨e.h.op, 0, false, 0, 0, [], ⟨none, 0, 0⟩⟩) = V at *
 generalize hxb : W.heap.size = xb at *
 have hne : w.heap.size ≠ xb := by have := HXZ.out; omega
 go_upto_block 0 with fail
 go_cut [10] (fun v wx => ∃ b : Bool, v = .bool b ∧ Hid (Blk wx xb 41 (EH.va (bH e.h ⟨none, 0, 0⟩))) ∧ Hid (Fx (On xb) V.heap.size V wx))
 case first =>
  by_cases h4 : e.h.op = 4
  ·have m : V.cell? ⟨xb, 5, none⟩ = some (.string ⟨List.toArray []⟩) := XB.out.cell 5
   have z : V.frozen? ⟨xb, 5, none⟩ = false := XB.out.frozen 5
   have e4 : bH e.h ⟨none, 0, 0⟩ = ⟨e.h.op, 0, false, 0, 0, e.h.nm, ⟨none, 0, 0⟩⟩ := by simp [bH, h4]
   have K : Hid (Blk (V.setCell ⟨xb, 5, none⟩ (.string ⟨e.h.nm.toArray⟩)) xb 41 (EH.va (bH e.h ⟨none, 0, 0⟩))) := by rw [e4]; exact XB.out.set_ 5 (.string ⟨e.h.nm.toArray⟩)
   have q := XB.out.lt
   have b4 : (e.h.op == 4) = true := by simp [h4]
   clear h4 e4
   go_wp2_with fail
   go_meet
   exact ⟨true, rfl, K.out, fx_set (Fx.refl (On xb) _ V) (p := ⟨xb, 5, none⟩) (.inl rfl) _⟩
  ·have b4 := neB h4
   by_cases h2 : e.h.op = 2
   ·have m : V.cell? ⟨xb, 3, none⟩ = some (.int .i32 0) := XB.out.cell 3
    have z : V.frozen? ⟨xb, 3, none⟩ = false := XB.out.frozen 3
    have e4 : bH e.h ⟨none, 0, 0⟩ = ⟨e.h.op, 0, false, e.h.it, 0, [], ⟨none, 0, 0⟩⟩ := by simp [bH, h2]
    have K : Hid (Blk (V.setCell ⟨xb, 3, none⟩ (.int .i32 e.h.it)) xb 41 (EH.va (bH e.h ⟨none, 0, 0⟩))) := by rw [e4]; exact XB.out.set_ 3 (.int .i32 e.h.it)
    have b2 : (e.h.op == 2) = true := by simp [h2]
    clear h4 e4 h2
    go_wp2_with fail
    go_meet
    exact ⟨false, rfl, K.out, fx_set (Fx.refl (On xb) _ V) (p := ⟨xb, 3, none⟩) (.inl rfl) _⟩
   ·have b2 := neB h2
    by_cases h3 : e.h.op = 3
    ·have m : V.cell? ⟨xb, 4, none⟩ = some (.int .u64 0) := XB.out.cell 4
     have z : V.frozen? ⟨xb, 4, none⟩ = false := XB.out.frozen 4
     have e4 : bH e.h ⟨none, 0, 0⟩ = ⟨e.h.op, 0, false, 0, e.h.fl, [], ⟨none, 0, 0⟩⟩ := by simp [bH, h3]
     have K : Hid (Blk (V.setCell ⟨xb, 4, none⟩ (.int .u64 e.h.fl)) xb 41 (EH.va (bH e.h ⟨none, 0, 0⟩))) := by rw [e4]; exact XB.out.set_ 4 (.int .u64 e.h.fl)
     have b3 : (e.h.op == 3) = true := by simp [h3]
     clear h4 e4 h2 h3
     go_wp2_with fail
     go_meet
     exact ⟨false, rfl, K.out, fx_set (Fx.refl (On xb) _ V) (p := ⟨xb, 4, none⟩) (.inl rfl) _⟩
    ·have b3 := neB h3
     by_cases h1 : e.h.op = 1
     ·have m : V.cell? ⟨xb, 2, none⟩ = some (.bool false) := XB.out.cell 2
      have z : V.frozen? ⟨xb, 2, none⟩ = false := XB.out.frozen 2
      have e4 : bH e.h ⟨none, 0, 0⟩ = ⟨e.h.op, 0, e.h.bo, 0, 0, [], ⟨none, 0, 0⟩⟩ := by simp [bH, h1]
      have K : Hid (Blk (V.setCell ⟨xb, 2, none⟩ (.bool e.h.bo)) xb 41 (EH.va (bH e.h ⟨none, 0, 0⟩))) := by rw [e4]; exact XB.out.set_ 2 (.bool e.h.bo)
      have b1 : (e.h.op == 1) = true := by simp [h1]
      clear h4 e4 h2 h3 h1
      go_wp2_with fail
      go_meet
      exact ⟨false, rfl, K.out, fx_set (Fx.refl (On xb) _ V) (p := ⟨xb, 2, none⟩) (.inl rfl) _⟩
     ·have b1 := neB h1
      have e4 : bH e.h ⟨none, 0, 0⟩ = ⟨e.h.op, 0, false, 0, 0, [], ⟨none, 0, 0⟩⟩ := by simp [bH, h1, h2, h3, h4]
      have K : Hid (Blk V xb 41 (EH.va (bH e.h ⟨none, 0, 0⟩))) := by rw [e4]; exact XB.out
      clear h4 e4 h2 h3 h1
      go_wp2_with fail
      go_meet
      exact ⟨false, rfl, K.out, Fx.refl _ _ _⟩
 case rest =>
  obtain ⟨bb, rfl, XC, FC⟩ := hcut
  have HXV := XB.out.lt
  have BC : Hid (Below xb W wc) := BV.out.trans ((FC.out.mono (C := xb) (Y := On xb) (Nat.le_of_lt HXV) (fun _ _ x => x)).bel (fun k hk (x : k = xb) => by omega))
  clear c0 c1 c2 c3 c4 c5 c6 XB hne HXV BV FC
  have MX : Hid (e.h.s.n ≤ 100000) := HN
  obtain ⟨i0, HI0, hi0⟩ : ∃ i, Tryz.prog.info? 41 = some i ∧ (i.zero = some zeroH.v ∧ i.size = 7 ∧ i.bytes = 72) := by
   have h := expr_info
   cases hh : Tryz.prog.info? 41 with
   | none => rw [hh] at h; cases h
   | some i =>
    rw [hh] at h
    have h := Option.some.inj h
    simp only [Prod.mk.injEq] at h
    exact ⟨i, rfl, h⟩
  have HIN := Hj (And.intro HI0 hi0)
  clear HI0 hi0
  have HOWN := Hj (World.ownsRow_nil wc (xb + 1) 41 7)
  go_wp2_with fail
  go_loopg [4] e.h.s.n (fun gk i wr => ∃ (j c : Nat) (A : Option Addr) (K : Nat → Ex), i = .int .i64 (j : Int) ∧ Hid (gk = e.h.s.n - j ∧ j ≤ e.h.s.n) ∧ Hid (Blk wr xb 41 (EH.va (bH e.h ⟨A, j, c⟩))) ∧ Hid (wr.ownsRow (xb + 1) 41 7 (.slice A j c) j (rowE K j)) ∧ Hid (∀ i, i < j → XO (Dr (xb + 1) (.slice A j c)) (K i) wr) ∧ Hid (∀ i, i < j → (K i).same (e.k i).bare = true) ∧ Hid (Below xb W wr))
  case atStart => exact ⟨0, 0, none, fun _ => .no, rfl, ⟨rfl, Nat.zero_le _⟩, XC.out, HOWN.out, (fun i hi => absurd hi (Nat.not_lt_zero i)), (fun i hi => absurd hi (Nat.not_lt_zero i)), BC.out⟩
  case round =>
   clear XC BC HOWN
   obtain ⟨j, c, A, K, rfl, HJ, XJ, OJ, KJ, SJ, BJ⟩ := hrel
   have WX : Hid (W.heap.size = xb) := hxb
   obtain ⟨-, -, -, -, -, -, c6⟩ := x_cells (kept_obj (show Below W.heap.size W wr by rw [hxb]; exact BJ.out) G0.out)
   by_cases hlt : j < e.h.s.n
   ·have z0 : (j : Int) < (e.h.s.n : Int) := by omega
    have ovi : IntKind.i64.wrap ((j : Int) + 1) = ((j + 1 : Nat) : Int) := by have := MX.out; rw [IntKind.wrap_i64]; omega
    have HBW : B ≤ xb := by have h1 := HB.out; have h2 := HXZ.out; omega
    obtain ⟨a, b, o, ha, hA, hb, X, I⟩ := XsIn.at (HI.out.below BJ.out HBW) (i := j) hlt
    rw [ha] at c6
    have x0 := X.c0; have x1 := X.c1; have x2 := X.c2; have x3 := X.c3; have x4 := X.c4; have x5 := X.c5; have x6 := X.c6
    have hsz : xb < wr.heap.size := XJ.out.lt
    have CP := Hj fun w' (hb : Below wr.heap.size wr w') => IH.out j hlt w' (I.below hb (Nat.le_of_lt (by omega))) (by have := hb.size; omega)
    have HLT := Hj hlt
    have KT := Hj fun w' (hb : Below wr.heap.size wr w') => (show w'.cell? ⟨xb, 6, none⟩ = some (.slice A j c) from (XJ.out.below hb XJ.out.lt).cell 6)
    have t6 : wr.cell? ⟨xb, 6, none⟩ = some (.slice A j c) := XJ.out.cell 6
    have LN : Hid (j + 1 ≤ maxLen) := by show _ ≤ _; have := MX.out; unfold maxLen; omega
    have LB : Hid ((j + 1) * 72 ≤ 140737488355328) := by show _ ≤ _; have := MX.out; omega
    have SZ : Hid (xb + 1 ≤ wr.heap.size) := hsz
    have ONE : Hid (∀ e' : Ex, ∀ u ∈ e'.h.vs, u.oneCell' = true) := fun e' => by simp [EH.vs, Value.oneCell']
    clear X hb I hlt ha hsz HBW hxb
    go_upto_region 14 with fail
    go_region_law (first
     | (go_simp; go_at_call 23; refine (CP.out _ ?_).mono ?_; (· repeat (first | exact Below.refl _ _ | refine bel_drew ?_)); rintro y w8 ⟨e', rfl, xe, se, b8⟩; have X1 : Below wr.heap.size wr w8 := (by refine bel_trans ?_ b8; repeat (first | exact Below.refl _ _ | refine bel_drew ?_)); have hfro := xe; unfold EH.v; have t8 := KT.out _ X1; have t9 := fun o => KT.out _ (bel_alloc X1 o))
     | (refine step_append_moved _ rfl _ _ 39 rfl (xb + 1) 41 i0 zeroH.v 7 72 Tryz.underlying39 HIN.out.1 HIN.out.2.1 HIN.out.2.2.1 HIN.out.2.2.2 rfl (by decide) (.slice A j c) j (rowE K j) rfl (own_belowK OJ.out (bel_alloc X1 (.cells e'.h.vs.toArray 41))) ⟨w8.heap.size, 0, none⟩ 1 1 e'.h.vs rfl rfl (new_oneE w8 e') (ONE.out e') LN.out LB.out (Nat.le_trans SZ.out (bel_alloc X1 (.cells e'.h.vs.toArray 41)).size) ?_; intro v' w10 own' hgrow mv; obtain ⟨D1, e1, rfl⟩ := own_form own'; have Q10 := app_blk hgrow (own_belowK OJ.out (bel_alloc X1 (.cells e'.h.vs.toArray 41))) (XJ.out.below (bel_alloc X1 (.cells e'.h.vs.toArray 41)) XJ.out.lt) (Nat.lt_succ_self xb); have t10 : w10.cell? ⟨xb, 6, none⟩ = some (.slice A j c) := Q10.cell 6; have f10 := Q10.frozen 6; have q10 := Q10.lt))
    all_goals
     have BA := bel_alloc X1 (.cells e'.h.vs.toArray 41)
     have OW := own_belowK OJ.out BA
     have R1' : Hid (Blk (w10.setCell ⟨xb, 6, none⟩ (.slice D1 (j + 1) e1)) xb 41 (EH.va (bH e.h ⟨D1, j + 1, e1⟩))) := Q10.set_ 6 (.slice D1 (j + 1) e1)
     have R2 := Hj (moreE_row (ownsRow_setCell_below own' (a := ⟨xb, 6, none⟩) (Nat.lt_succ_self _) (.slice D1 (j + 1) e1)))
     have xe' : XO (Dr (xb + 1) (.slice A j c)) e' (w8.alloc (.cells e'.h.vs.toArray 41)) := (xe.bel (bel_one w8 _)).imp (fun k hk (x : wr.heap.size ≤ k) => ⟨Nat.le_trans SZ.out x, fun h => Nat.lt_irrefl _ (Nat.lt_of_lt_of_le (own_block OJ.out h).2 x)⟩)
     have R3 := Hj (fun i hi => ((moreE_x (fun i hi => app_xo hgrow mv ((KJ.out i hi).bel BA)) (app_xo hgrow mv xe')) i hi).set (p := ⟨xb, 6, none⟩) (fun x => Nat.not_succ_le_self _ x.1) (.slice D1 (j + 1) e1))
     have R4 : Hid (∀ i, i < j + 1 → ((fun i => if i < j then K i else e') i).same (e.k i).bare = true) := fun i hi => by
      dsimp only
      split
      ·rename_i h1; exact SJ.out i h1
      ·obtain rfl : i = j := by omega
       exact se
     have R5 := Hj ((app_below (BJ.out.trans (BA.mono (Nat.le_of_lt SZ.out))) hgrow OW (Nat.le_trans (Nat.le_of_lt SZ.out) BA.size)).setCell (p := ⟨xb, 6, none⟩) (Nat.le_refl xb) (.slice D1 (j + 1) e1))
     clear BA OW Q10 own' hgrow mv t10 f10 q10 xe xe' se b8 X1 hfro t8 t9 x0 x1 x2 x3 x4 x5 x6 c6 t6 CP KT
     go_wp2_with fail
     go_roundg (e.h.s.n - (j + 1))
     case measure => have := HJ.out; have := HLT.out; omega
     case rel => exact ⟨j + 1, e1, D1, fun i => if i < j then K i else e', by go_num, ⟨rfl, HLT.out⟩, R1'.out, R2.out, R3.out, R4.out, R5.out⟩
   ·obtain rfl : j = e.h.s.n := by have := HJ.out; omega
    obtain ⟨S, hS, hSn, hXL⟩ := own_xl OJ.out KJ.out
    obtain ⟨Sa, Sn, Sc⟩ := S
    obtain ⟨rfl, -, rfl⟩ : A = Sa ∧ e.h.s.n = Sn ∧ c = Sc := by
     have h := hS
     unfold Sl.val at h
     injection h with h1 h2 h3
     exact ⟨h1, h2, h3⟩
    have hSn : Sn = e.h.s.n := hSn
    subst hSn
    have XF := Hj (row_in (h := bH e.h ⟨A, e.h.s.n, c⟩) (bH_ok OK.out hXL.1) hXL)
    have SM : Hid ((Ex.mk (bH e.h ⟨A, e.h.s.n, c⟩) K).same e.bare = true) := same_bare rfl rfl rfl rfl rfl rfl SJ.out
    have NR := Hj (R1.out.below (show Below W.heap.size W wr by rw [hxb]; exact BJ.out) R1.out.lt)
    have BB := Hj (BW.out.trans (BJ.out.mono (show w.heap.size ≤ xb by have := HXZ.out; omega)))
    clear hlt hS hXL KJ SJ OJ
    go_wp2_with (first
     | refine ld_ex (bH e.h ⟨A, e.h.s.n, c⟩) xb XJ.out rfl _ rfl rfl ?_
     | refine st_ex (bH e.h ⟨A, e.h.s.n, c⟩) (w.heap.size + 1) _ NR.out rfl rfl _ _ rfl rfl rfl ?_)
    refine bodyPost_ret (rs_ex rfl _ _ (w.heap.size + 1) (bH e.h ⟨A, e.h.s.n, c⟩) rfl (NR.out.rowS _)) rfl ⟨Ex.mk (bH e.h ⟨A, e.h.s.n, c⟩) K, rfl, ?_, SM.out, ?_⟩
    ·refine (XF.out.row (fun (x : xb + 1 ≤ w.heap.size + 1) => by have := HXZ.out; omega) _).imp (fun k _ (x : xb + 1 ≤ k) => ?_)
     show w.heap.size ≤ k
     have := HXZ.out
     omega
    ·exact BB.out.trans (((wr1_row wr (w.heap.size + 1) _).1.mono (C := w.heap.size) (Y := On (w.heap.size + 1)) BB.out.size (fun _ _ x => x)).bel (fun k hk (x : k = w.heap.size + 1) => by omega))
theorem bare_any (B : Nat) (e : Ex) : e.wt ≤ 100000 → BaX B e := by
 induction e using Ex.ind with
 | H e ih =>
  intro hw
  have h1 := Ex.wt_eq e
  have hs : ∀ n, n ≤ sm (fun i => (e.k i).wt) n := fun n => by
   induction n with
   | zero => exact Nat.le_refl _
   | succ n ihn =>
    have h3 : 1 ≤ (e.k n).wt := by rw [Ex.wt_eq]; omega
    show n + 1 ≤ sm _ n + _
    have h4 : (fun i => (e.k i).wt) n = (e.k n).wt := rfl
    omega
  have h2 := hs e.h.s.n
  exact bare_of B e (by omega) fun i hi => ih i hi (by have := wt_k e hi; omega)
end Go.Proofs.YthmlhkllbichgaaGreatDoor
