/-
  What a token looks like written anew, and what is read of that: the words of a text with gaps between give the same tokens but for their places. No function of the program.
-/
import Derived.Test.YtkhddadhkkffnaaGreatDoorMYm
import Derived.Test.YtkhddadhkkffnaaGreatDoorMXd
namespace Go.Proofs.YtkhddadhkkffnaaGreatDoor
open Go.RowKit
set_option maxRecDepth 100000

theorem dig_not {c : UInt8} (h : isDig c = true) : isAl c = false ∧ isWs c = false ∧ c ≠ 47 ∧ c ≠ 46 ∧ c ≠ 43 ∧ c ≠ 45 := by
  refine ⟨?_, ?_, ?_, ?_, ?_, ?_⟩
  · unfold isDig at h
    unfold isAl
    simp only [Bool.and_eq_true, decide_eq_true_eq] at h
    simp only [Bool.or_eq_false_iff, Bool.and_eq_false_iff, decide_eq_false_iff_not]
    omega
  · cases hw : isWs c
    · rfl
    · rw [(ws_not hw).2.1] at h
      cases h
  all_goals
    intro e
    rw [e] at h
    exact absurd h (by decide)
theorem dgL_app {d r : List UInt8} (hd : d.all isDig = true) (hr : ∀ c, r.head? = some c → isDig c = false) : dgL (d ++ r) = d.length := by
  unfold dgL
  rw [List.takeWhile_append_of_pos (fun a ha => List.all_eq_true.1 hd a ha), List.length_append]
  cases r with
  | nil => simp
  | cons c r => rw [List.takeWhile_cons, if_neg (by simp [hr c rfl])]; simp
theorem dgL_all {d : List UInt8} (hd : d.all isDig = true) : dgL d = d.length := by
  have := dgL_app (r := []) hd (fun c h => by simp at h)
  rw [List.append_nil] at this
  exact this
theorem digB_pos {d : List UInt8} (hd : digB d = true) : 1 ≤ d.length := by
  have := (digB_all hd).2
  cases d with
  | nil => exact absurd rfl this
  | cons c d => simp
theorem digB_head {d : List UInt8} (hd : digB d = true) : ∃ c r, d = c :: r ∧ isDig c = true := by
  obtain ⟨h1, h2⟩ := digB_all hd
  cases d with
  | nil => exact absurd rfl h2
  | cons c r =>
    rw [List.all_cons, Bool.and_eq_true] at h1
    exact ⟨c, r, rfl, h1.1⟩
/-- What may follow the digits: a point and digits; a letter and a power. -/
def ShF (f : List UInt8) : Prop := f = [] ∨ ∃ g, f = 46 :: g ∧ digB g = true
def ShX (x : List UInt8) : Prop := x = [] ∨ ∃ s e, x = 101 :: (s ++ e) ∧ (s = [] ∨ s = [45]) ∧ digB e = true
theorem exL_sh {x : List UInt8} (hx : ShX x) : exL x = x.length := by
  rcases hx with rfl | ⟨s, e, rfl, hs, he⟩
  · rfl
  · have h1 := (digB_all he).1
    have h2 := digB_pos he
    obtain ⟨c, r, e0, hc⟩ := digB_head he
    obtain ⟨-, -, -, -, n1, n2⟩ := dig_not hc
    have hs' : sgL (s ++ e) = s.length := by
      rcases hs with rfl | rfl
      · rw [List.nil_append, e0, sgL_cons, if_neg (by simp [n1, n2])]
        rfl
      · rw [List.cons_append, sgL_cons, if_pos (.inr rfl)]
        rfl
    rw [exL_cons, hs', List.drop_left, dgL_all h1, if_pos ⟨.inl rfl, by omega⟩]
    simp only [List.length_cons, List.length_append]
    omega
theorem frL_sh {f x : List UInt8} (hf : ShF f) (hx : ShX x) : frL (f ++ x) = f.length := by
  rcases hf with rfl | ⟨g, rfl, hg⟩
  · rw [List.nil_append]
    rcases hx with rfl | ⟨s, e, rfl, hs, he⟩
    · rfl
    · rw [frL_cons, if_neg (by rintro ⟨h, -⟩; exact absurd h (by decide))]
      rfl
  · have h2 := digB_pos hg
    have e1 : dgL (g ++ x) = g.length := dgL_app (digB_all hg).1 fun c hc => by
      rcases hx with rfl | ⟨s, e, rfl, hs, he⟩
      · simp at hc
      · simp only [List.head?_cons, Option.some.injEq] at hc
        rw [← hc]
        decide
    rw [List.cons_append, frL_cons, e1, if_pos ⟨rfl, by omega⟩, List.length_cons]
    omega
/-- A number of that shape is read whole; it is a float where anything follows its digits. -/
theorem nu_shape {d f x : List UInt8} (hd : digB d = true) (hf : ShF f) (hx : ShX x) : nuL (d ++ (f ++ x)) = (d ++ (f ++ x)).length ∧ nuF (d ++ (f ++ x)) = decide (f ++ x ≠ []) := by
  have h1 := digB_pos hd
  have e1 : dgL (d ++ (f ++ x)) = d.length := dgL_app (digB_all hd).1 fun c hc => by
    rcases hf with rfl | ⟨g, rfl, hg⟩
    · rcases hx with rfl | ⟨s, e, rfl, hs, he⟩
      · simp at hc
      · simp only [List.nil_append, List.head?_cons, Option.some.injEq] at hc
        rw [← hc]
        decide
    · simp only [List.cons_append, List.head?_cons, Option.some.injEq] at hc
      rw [← hc]
      decide
  have e2 : nuA (d ++ (f ++ x)) = d.length + f.length := by
    unfold nuA
    rw [e1, List.drop_left, frL_sh hf hx]
  have e3 : nuL (d ++ (f ++ x)) = (d ++ (f ++ x)).length := by
    unfold nuL
    rw [if_neg (by omega), e2, show (d ++ (f ++ x)).drop (d.length + f.length) = x by rw [← List.drop_drop, List.drop_left, List.drop_left], exL_sh hx]
    simp only [List.length_append]
    omega
  refine ⟨e3, ?_⟩
  unfold nuF
  rw [e3, e1]
  congr 1
  apply propext
  simp only [List.length_append]
  constructor
  · intro h e
    have := congrArg List.length e
    simp only [List.length_append, List.length_nil] at this
    omega
  · intro h
    have : (f ++ x).length ≠ 0 := fun e => h (List.eq_nil_of_length_eq_zero e)
    rw [List.length_append] at this
    omega
theorem nu_digits {d : List UInt8} (hd : digB d = true) : nuL d = d.length ∧ nuF d = false := by
  have := nu_shape (f := []) (x := []) hd (.inl rfl) (.inl rfl)
  simpa using this
theorem shx_itoa (z : Int) : ShX (101 :: Lib.itoa z) := by
  unfold Lib.itoa
  split
  · exact .inr ⟨[45], _, rfl, .inr rfl, dec_digB _⟩
  · exact .inr ⟨[], _, rfl, .inl rfl, dec_digB _⟩
/-- What is laid out is a float, whole. -/
theorem nu_lo {d : List UInt8} {q : Int} (hd : digB d = true) : nuL (loT d q) = (loT d q).length ∧ nuF (loT d q) = true ∧ ∃ c r, loT d q = c :: r ∧ isDig c = true := by
  obtain ⟨a, b⟩ := digB_all hd
  have l1 := digB_pos hd
  have K : ∀ {d f x : List UInt8}, digB d = true → ShF f → ShX x → f ++ x ≠ [] → nuL (d ++ (f ++ x)) = (d ++ (f ++ x)).length ∧ nuF (d ++ (f ++ x)) = true ∧ ∃ c r, d ++ (f ++ x) = c :: r ∧ isDig c = true := fun {d f x} hd hf hx hn => by
    obtain ⟨h1, h2⟩ := nu_shape hd hf hx
    obtain ⟨c, r, e, hc⟩ := digB_head hd
    exact ⟨h1, by rw [h2, decide_eq_true hn], c, r ++ (f ++ x), by rw [e]; rfl, hc⟩
  unfold loT
  by_cases c1 : 0 ≤ q ∧ d.length + q ≤ 21
  · rw [if_pos c1]
    obtain ⟨z1, z2⟩ := nts_dig q.toNat
    exact K (d := d ++ nts q.toNat) (f := [46, 48]) (x := []) (digB_of (by rw [List.all_append, a, z1]; rfl) (by simp [b])) (.inr ⟨[48], rfl, by decide⟩) (.inl rfl) (by simp)
  rw [if_neg c1]
  by_cases c2 : q < 0 ∧ 0 < d.length + q
  · rw [if_pos c2]
    have h1 : (d.take (d.length + q).toNat) ≠ [] := by
      intro e
      have := congrArg List.length e
      rw [List.length_take, List.length_nil] at this
      omega
    have h2 : (d.drop (d.length + q).toNat) ≠ [] := by
      intro e
      have := congrArg List.length e
      rw [List.length_drop, List.length_nil] at this
      omega
    have := K (f := 46 :: d.drop (d.length + q).toNat) (x := []) (digB_of (all_take a _) h1) (.inr ⟨_, rfl, digB_of (all_drop a _) h2⟩) (.inl rfl) (by simp)
    rw [List.append_nil] at this
    exact this
  rw [if_neg c2]
  by_cases c3 : d.length + q ≤ 0 ∧ -5 ≤ d.length + q
  · rw [if_pos c3]
    obtain ⟨z1, z2⟩ := nts_dig (-(d.length + q)).toNat
    have := K (d := [48]) (f := 46 :: (nts (-(d.length + q)).toNat ++ d)) (x := []) (by decide) (.inr ⟨_, rfl, digB_of (by rw [List.all_append, a, z1]; rfl) (by simp [b])⟩) (.inl rfl) (by simp)
    rw [List.append_nil] at this
    exact this
  rw [if_neg c3]
  have h1 : d.take 1 ≠ [] := by
    intro e
    have := congrArg List.length e
    rw [List.length_take, List.length_nil] at this
    omega
  by_cases c4 : d.drop 1 = []
  · rw [if_pos c4, c4, List.append_nil, List.append_nil]
    exact K (f := []) (digB_of (all_take a _) h1) (.inl rfl) (shx_itoa _) (by simp)
  · rw [if_neg c4, List.append_assoc, List.append_assoc]
    have := K (f := 46 :: d.drop 1) (digB_of (all_take a _) h1) (.inr ⟨_, rfl, digB_of (all_drop a _) c4⟩) (shx_itoa (d.length + q - 1)) (by simp)
    simpa using this

/-- A token's word: what may be written for it. -/
def IsWd (t : Tk) (x : List UInt8) : Prop :=
  ((t.kd = 1 ∨ t.kd = 4 ∨ t.kd = 5) ∧ x = t.tx) ∨ (t.kd = 2 ∧ IsRText (intR t.nn) x) ∨ (t.kd = 3 ∧ x = prT t.ff) ∨ (t.kd = 0 ∧ x = [])
/-- A float that is read is one: finite, not below nought. -/
theorem psF_fin {l : List UInt8} (h : psE l = 0) : Word (psF l) ∧ fC (psF l) < 3 ∧ fS (psF l) = false ∧ fAb (psF l) = psF l := by
  have hok : rdOk l = true ∧ ¬ fC (nearV (rdD l) (rdE l)) = 3 := by
    unfold psE at h
    split at h
    · omega
    · split at h
      · split at h
        · omega
        · refine ⟨by assumption, by assumption⟩
      · omega
  have e : psF l = nearV (rdD l) (rdE l) := by unfold psF; rw [if_pos h]
  obtain ⟨b0, b1⟩ := near_le (rdD l) (rdE l) (digB_all (rdD_dig hok.1)).1
  rw [e]
  have hinf := (not_congr (cls_inf b0 b1)).1 hok.2
  generalize nearV (rdD l) (rdE l) = f at *
  have hw : Word f := ⟨b0, by omega⟩
  have cb := cls_bd f
  have hn : ¬ fC f = 4 := by rw [nan_iff hw]; omega
  refine ⟨hw, by omega, ?_, ?_⟩
  · unfold fS
    rw [decide_eq_false]
    omega
  · unfold fAb
    rw [if_neg hn]
    omega
theorem gp_self {c : UInt8} {r : List UInt8} (h : gp (c :: r) = c :: r) : isWs c = false ∧ ¬ (c = 47 ∧ r.head? = some 47) := by
  have key : ∀ m, gpB m r ≠ c :: r := fun m e => by
    have h1 := gpB_len m r
    have h2 := congrArg List.length e
    rw [List.length_cons] at h2
    omega
  unfold gp at h
  constructor
  · cases hw : isWs c
    · rfl
    · rw [gpB, if_pos hw] at h
      exact absurd h (key _)
  · intro h'
    rw [gpB] at h
    by_cases hw : isWs c = true
    · rw [if_pos hw] at h
      exact absurd h (key _)
    · rw [if_neg hw, if_pos h'] at h
      exact absurd h (key _)
theorem gp_tok {c : UInt8} {x y : List UInt8} {b : UInt8} (h1 : isWs c = false) (h2 : ¬ (c = 47 ∧ x.head? = some 47)) (hb : isWs b = true) : gp ((c :: x) ++ b :: y) = (c :: x) ++ b :: y := by
  unfold gp
  rw [List.cons_append, gpB, if_neg (by simp [h1]), if_neg]
  rintro ⟨h3, h4⟩
  refine h2 ⟨h3, ?_⟩
  cases x with
  | nil =>
    simp only [List.nil_append, List.head?_cons, Option.some.injEq] at h4
    exact absurd h4 (ws_not hb).2.2.2.2.1
  | cons d x => exact h4
theorem gp_dig {c : UInt8} {x y : List UInt8} {b : UInt8} (hc : isDig c = true) (hb : isWs b = true) : gp ((c :: x) ++ b :: y) = (c :: x) ++ b :: y := by
  obtain ⟨-, n2, n3, -⟩ := dig_not hc
  exact gp_tok n2 (fun h => n3 h.1) hb
theorem nm_dig {c : UInt8} {r : List UInt8} (hc : isDig c = true) : nmL (c :: r) = 0 := by
  rw [nmL_cons, if_neg (by simp [(dig_not hc).1])]
theorem take_tw (p : UInt8 → Bool) : ∀ l : List UInt8, l.take (l.takeWhile p).length = l.takeWhile p
  | [] => by simp
  | b :: r => by
    rw [List.takeWhile_cons]
    split
    · rw [List.length_cons, List.take_succ_cons, take_tw p r]
    · simp
theorem tw_all (p : UInt8 → Bool) : ∀ l : List UInt8, (l.takeWhile p).all p = true
  | [] => by simp
  | b :: r => by
    rw [List.takeWhile_cons]
    split
    · rename_i h
      rw [List.all_cons, h, tw_all p r]
      rfl
    · simp
/-- What is written for a token is read as that token. -/
theorem wd_back {l x : List UInt8} {a : Int} (h0 : l ≠ []) (hg : gp l = l) (h : fiE l = 0) (hw : IsWd (fiT l a) x) :
    x ≠ [] ∧ x.length ≤ 400 ∧ fiE x = 0 ∧ fiN x = x.length ∧ (∀ a' : Int, fiT x a' = { fiT l a with ps := a' }) ∧ ∀ (b : UInt8) (y : List UInt8), isWs b = true → gp (x ++ b :: y) = x ++ b :: y := by
  have T := fi_take (j := fiN l) h (Nat.le_refl _)
  have hn := fiN_pos h
  have hl := fiN_le l
  have lt : (l.take (fiN l)).length = fiN l := by rw [List.length_take]; omega
  have hle : nmL l ≠ 0 ∨ (nmL l = 0 ∧ nuL l = 0) → fiN l ≤ 400 := fun c => by
    unfold fiN
    rcases c with c | ⟨c1, c2⟩
    · rw [if_pos c]
      unfold fiE at h
      rw [if_pos c] at h
      split at h <;> omega
    · rw [if_neg (by omega), if_neg (by omega)]
      have := (siL_le l).2
      omega
  have taken : x = l.take (fiN l) → (nmL l ≠ 0 ∨ (nmL l = 0 ∧ nuL l = 0)) → x ≠ [] ∧ x.length ≤ 400 ∧ fiE x = 0 ∧ fiN x = x.length ∧ (∀ a' : Int, fiT x a' = { fiT l a with ps := a' }) ∧ ∀ (b : UInt8) (y : List UInt8), isWs b = true → gp (x ++ b :: y) = x ++ b :: y := fun e c => by
    subst e
    refine ⟨fun e => ?_, by rw [lt]; exact hle c, T.1, by rw [T.2.1, lt], fun a' => ?_, fun b y hb => ?_⟩
    · rw [e] at lt
      simp at lt
      omega
    · rw [T.2.2]
      unfold fiT
      rcases c with c | ⟨c1, c2⟩
      · rw [if_pos c, if_pos c]
      · rw [if_neg (by omega), if_neg (by omega), if_neg (by omega), if_neg (by omega)]
    · obtain ⟨n, hn'⟩ : ∃ n, fiN l = n + 1 := ⟨fiN l - 1, by omega⟩
      rw [hn']
      cases l with
      | nil => exact absurd rfl h0
      | cons c r =>
        rw [List.take_succ_cons]
        obtain ⟨g1, g2⟩ := gp_self hg
        refine gp_tok g1 (fun h' => g2 ⟨h'.1, ?_⟩) hb
        have := h'.2
        cases r with
        | nil => simp at this
        | cons d r =>
          cases n with
          | zero => simp at this
          | succ n => simpa using this
  have number : ∀ {c : UInt8} {r : List UInt8}, x = c :: r → isDig c = true → nuL x = x.length → x.length ≤ 400 → (fiE x = 0) → (∀ a' : Int, fiT x a' = { fiT l a with ps := a' }) → x ≠ [] ∧ x.length ≤ 400 ∧ fiE x = 0 ∧ fiN x = x.length ∧ (∀ a' : Int, fiT x a' = { fiT l a with ps := a' }) ∧ ∀ (b : UInt8) (y : List UInt8), isWs b = true → gp (x ++ b :: y) = x ++ b :: y := fun {c r} e hc e1 e2 e3 e4 => by
    refine ⟨by rw [e]; simp, e2, e3, ?_, e4, fun b y hb => by rw [e]; exact gp_dig hc hb⟩
    unfold fiN
    rw [if_neg (by rw [e, nm_dig hc]; simp), if_pos (by rw [e1, e]; simp), e1]
  by_cases h1 : nmL l = 0
  · by_cases h2 : nuL l = 0
    · have hk : (fiT l a).kd = 5 ∧ (fiT l a).tx = l.take (fiN l) := by unfold fiT fiN; rw [if_neg (by omega), if_neg (by omega), if_neg (by omega), if_neg (by omega)]; exact ⟨rfl, rfl⟩
      rcases hw with ⟨-, e⟩ | ⟨e, -⟩ | ⟨e, -⟩ | ⟨e, -⟩
      · exact taken (e.trans hk.2) (.inr ⟨h1, h2⟩)
      all_goals omega
    · cases hF : nuF l
      · have ht : fiT l a = ⟨2, a, [], dval (l.take (nuL l)), 0⟩ := by unfold fiT; rw [if_neg (by omega), if_pos h2, hF]; rfl
        have hv : dval (l.take (nuL l)) ≤ 2147483647 := by
          unfold fiE at h
          rw [if_neg (by omega), if_pos h2, hF] at h
          split at h
          · omega
          · rw [if_neg (by decide)] at h
            split at h
            · assumption
            · omega
        have hv0 : 0 ≤ dval (l.take (nuL l)) := by
          have hdg : nuL l = dgL l := by
            have h4 : nuL l = nuA l + exL (l.drop (nuA l)) := by
              unfold nuL at h2 ⊢
              split at h2
              · omega
              · rename_i h3
                rw [if_neg h3]
            unfold nuF at hF
            rw [decide_eq_false_iff_not] at hF
            unfold nuA at h4
            omega
          have : (l.take (nuL l)).all isDig = true := by
            rw [hdg]
            unfold dgL
            rw [take_tw]
            exact tw_all _ _
          exact (dval_bd this).1
        rw [ht] at hw
        rcases hw with ⟨e, -⟩ | ⟨-, e⟩ | ⟨e, -⟩ | ⟨e, -⟩
        · simp at e
        · dsimp only at e
          rw [ht]
          generalize dval (l.take (nuL l)) = n at *
          obtain ⟨l1, l2, ta, -, ex⟩ := e
          obtain ⟨i1, i2, i3⟩ := intR_parts n
          rw [i1, i3, if_pos rfl, List.append_nil, decide_eq_false (by omega), if_neg (by decide), List.nil_append] at ex
          rw [i2] at ta
          subst ex
          have dg : digB x = true := digB_of ta.dig ta.ne
          have len : x.length ≤ 400 := by
            have := ta.len (b := 31) (by omega)
            omega
          obtain ⟨c, r, ec, hc⟩ := digB_head dg
          obtain ⟨n1, n2⟩ := nu_digits dg
          have hp := digB_pos dg
          have nm : nmL x = 0 := by rw [ec]; exact nm_dig hc
          have tv : dval (x.take (nuL x)) = n := by rw [n1, List.take_length, ta.val]; omega
          rw [ht] at number
          refine number ec hc n1 len ?_ fun a' => ?_
          · unfold fiE
            rw [if_neg (by omega), if_pos (by omega), if_neg (by omega), n2, if_neg (by decide), tv, if_pos hv]
          · unfold fiT
            rw [if_neg (by omega), if_pos (by omega), n2, if_neg (by decide), tv]
        · simp at e
        · simp at e
      · have ht : fiT l a = ⟨3, a, [], 0, psF (l.take (nuL l))⟩ := by unfold fiT; rw [if_neg (by omega), if_pos h2, hF]; rfl
        have hv : psE (l.take (nuL l)) = 0 := by
          unfold fiE at h
          rw [if_neg (by omega), if_pos h2, hF] at h
          split at h
          · omega
          · rw [if_pos rfl] at h
            split at h
            · assumption
            · omega
        obtain ⟨w1, w2, w3, w4⟩ := psF_fin hv
        rw [ht] at hw
        rcases hw with ⟨e, -⟩ | ⟨e, -⟩ | ⟨-, e⟩ | ⟨e, -⟩
        · simp at e
        · simp at e
        · dsimp only at e
          rw [ht] at number ⊢
          generalize psF (l.take (nuL l)) = f at *
          obtain ⟨p1, -, p3, p4, p5⟩ := prB_is w1 w2
          rw [w3, if_neg (by decide), List.nil_append, ← e] at p1
          subst p1
          rw [w4] at p4
          have S : nuL (prB f) = (prB f).length ∧ nuF (prB f) = true ∧ ∃ c r, prB f = c :: r ∧ isDig c = true := by
            by_cases hz : fC f = 0
            · have e2 : prB f = [48, 46, 48] := by unfold prB; rw [if_pos hz]
              rw [e2]
              exact ⟨by decide, by decide, 48, [46, 48], rfl, by decide⟩
            · have e2 : prB f = loT (dgD f) (dgQ f) := by unfold prB; rw [if_neg hz]
              rw [e2]
              exact nu_lo (dg_known w1 (by have := cls_bd f; omega)).1
          obtain ⟨n1, n2, c, r, ec, hc⟩ := S
          have nm : nmL (prB f) = 0 := by rw [ec]; exact nm_dig hc
          have hp : 1 ≤ (prB f).length := by rw [ec]; simp
          have tv : (prB f).take (nuL (prB f)) = prB f := by rw [n1, List.take_length]
          refine number ec hc n1 (by omega) ?_ fun a' => ?_
          · unfold fiE
            rw [if_neg (by omega), if_pos (by omega), if_neg (by omega), n2, if_pos rfl, tv, if_pos p5]
          · unfold fiT
            rw [if_neg (by omega), if_pos (by omega), n2, if_pos rfl, tv, p4]
        · simp at e
  · have hk : (fiT l a).tx = l.take (fiN l) ∧ ((fiT l a).kd = 1 ∨ (fiT l a).kd = 4) := by
      unfold fiT fiN
      rw [if_pos h1, if_pos h1]
      exact ⟨rfl, by dsimp only; split <;> simp⟩
    rcases hw with ⟨-, e⟩ | ⟨e, -⟩ | ⟨e, -⟩ | ⟨e, -⟩
    · exact taken (e.trans hk.1) (.inl h1)
    all_goals omega

/-- A gap: begins with white space, ends every comment that it opens. -/
def GapOk (g : List UInt8) : Prop := (∃ b r, g = b :: r ∧ isWs b = true) ∧ (∀ y, gp (g ++ y) = gp y) ∧ g.length ≤ 16
theorem gap_0 : GapOk [32] := ⟨⟨32, [], rfl, by decide⟩, fun y => rfl, by decide⟩
theorem gap_1 : GapOk [9, 13, 10, 32] := ⟨⟨9, _, rfl, by decide⟩, fun y => rfl, by decide⟩
theorem gap_2 : GapOk [32, 47, 47, 32, 120, 32, 61, 32, 49, 59, 10] := ⟨⟨32, _, rfl, by decide⟩, fun y => rfl, by decide⟩
theorem gap_3 : GapOk [32, 47, 47, 10, 47, 47, 10] := ⟨⟨32, _, rfl, by decide⟩, fun y => rfl, by decide⟩
theorem GapOk.len {g : List UInt8} (h : GapOk g) (y : List UInt8) : gpN (g ++ y) = g.length + gpN y := by
  have h1 := gpN_add (g ++ y)
  have h2 := gpN_add y
  rw [h.2.1, List.length_append] at h1
  omega
/-- Words one behind the other, a gap behind each. -/
def glue (g : List UInt8) : List (List UInt8) → List UInt8
  | [] => []
  | x :: xs => x ++ (g ++ glue g xs)
theorem glue_snoc (g x : List UInt8) : ∀ xs, glue g (xs ++ [x]) = glue g xs ++ (x ++ g)
  | [] => by simp [glue]
  | y :: xs => by
    show y ++ (g ++ glue g (xs ++ [x])) = (y ++ (g ++ glue g xs)) ++ (x ++ g)
    rw [glue_snoc g x xs]
    simp
def Wds (ts : List Tk) (xs : List (List UInt8)) : Prop := ∀ (j : Nat) (t : Tk) (x : List UInt8), ts[j]? = some t → xs[j]? = some x → IsWd t x
theorem wds_snoc {ts : List Tk} {xs : List (List UInt8)} {x : List UInt8} {t : Tk} (h : Wds ts xs) (ht : ts[xs.length]? = some t) (hx : IsWd t x) : Wds ts (xs ++ [x]) := fun j u y hu hy => by
  by_cases hj : j < xs.length
  · rw [List.getElem?_append_left hj] at hy
    exact h j u y hu hy
  · rw [List.getElem?_append_right (by omega)] at hy
    have : j - xs.length = 0 := by
      refine Classical.byContradiction fun hc => ?_
      obtain ⟨n, hn⟩ : ∃ n, j - xs.length = n + 1 := ⟨j - xs.length - 1, by omega⟩
      rw [hn] at hy
      simp at hy
    rw [this] at hy
    obtain rfl : x = y := by simpa using hy
    rw [show j = xs.length by omega, ht] at hu
    obtain rfl : t = u := by simpa using hu
    exact hx
/-- The same tokens, but for their places. -/
def Alike (ts us : List Tk) : Prop := ts.length = us.length ∧ ∀ (i : Nat) (t u : Tk), ts[i]? = some t → us[i]? = some u → u = { t with ps := u.ps }
theorem relex {g : List UInt8} (G : GapOk g) {l : List UInt8} {a : Nat} {ts : List Tk} (R : Run l a ts) : gp l = l → ∀ xs : List (List UInt8), xs.length = ts.length → Wds ts xs → ∀ a' : Nat, ∃ us, Run (gp (glue g xs)) (a' + gpN (glue g xs)) us ∧ Alike ts us := by
  induction R with
  | fin a =>
    intro _ xs hl hw a'
    cases xs with
    | nil => simp at hl
    | cons x xs =>
      obtain rfl : xs = [] := List.eq_nil_of_length_eq_zero (by simpa using hl)
      have : x = [] := by
        rcases hw 0 _ x rfl rfl with ⟨e, -⟩ | ⟨e, -⟩ | ⟨e, -⟩ | ⟨-, e⟩
        · unfold enT at e; dsimp only at e; omega
        · unfold enT at e; dsimp only at e; omega
        · unfold enT at e; dsimp only at e; omega
        · exact e
      subst this
      have e : glue g [[]] = g ++ [] := rfl
      rw [e, G.2.1, G.len]
      refine ⟨[enT (a' + (g.length + gpN []))], .fin _, rfl, fun i t u ht hu => ?_⟩
      cases i with
      | zero =>
        simp only [List.getElem?_cons_zero, Option.some.injEq] at ht hu
        subst ht hu
        rfl
      | succ i => simp at ht
  | tok l a ts h0 h1 r ih =>
    intro hg xs hl hw a'
    cases xs with
    | nil => simp at hl
    | cons x xs =>
      have hl' : xs.length = ts.length := by simpa using hl
      have hw' : Wds ts xs := fun j t y ht hy => hw (j + 1) t y (by simpa using ht) (by simpa using hy)
      obtain ⟨w1, w2, w3, w4, w5, w6⟩ := wd_back h0 hg h1 (hw 0 _ x rfl rfl)
      have GG := G
      obtain ⟨⟨b, gr, eg, hb⟩, G2, -⟩ := GG
      have eY : glue g (x :: xs) = x ++ b :: (gr ++ glue g xs) := by show x ++ (g ++ glue g xs) = _; rw [eg]; rfl
      have hgp : gp (glue g (x :: xs)) = glue g (x :: xs) := by rw [eY, w6 _ _ hb]
      have hgn : gpN (glue g (x :: xs)) = 0 := by
        have := gpN_add (glue g (x :: xs))
        rw [hgp] at this
        omega
      obtain ⟨b1, b2, b3⟩ := fi_blank hb x (gr ++ glue g xs)
      rw [← eY] at b1 b2 b3
      obtain ⟨us, ru, al, asm⟩ := ih (gp_idem _) xs hl' hw' (a' + x.length + g.length)
      have hd : (glue g (x :: xs)).drop x.length = g ++ glue g xs := by show (x ++ (g ++ glue g xs)).drop x.length = _; rw [List.drop_left]
      refine ⟨fiT (glue g (x :: xs)) ((a' : Nat) : Int) :: us, ?_, by simp [al], fun i t u ht hu => ?_⟩
      · rw [hgp, hgn, Nat.add_zero]
        refine .tok _ a' us ?_ (by rw [b1, w3]) ?_
        · rw [eY]
          simp
        · rw [b2, w4, hd, G2, G.len, ← Nat.add_assoc]
          exact ru
      · cases i with
        | zero =>
          simp only [List.getElem?_cons_zero, Option.some.injEq] at ht hu
          subst ht hu
          rw [b3, w5]
        | succ i =>
          rw [List.getElem?_cons_succ] at ht hu
          exact asm i t u ht hu
/-- A text's tokens, written anew behind a gap, a gap behind each, are read as the same tokens. -/
theorem relex_all {g s : List UInt8} (G : GapOk g) {ts : List Tk} (hs : s.length ≤ 16384) (h : lexV s = (ts, 0, 0)) {xs : List (List UInt8)} (hl : xs.length = ts.length) (hw : Wds ts xs) (hz : (g ++ glue g xs).length ≤ 16384) :
    ∃ us, lexV (g ++ glue g xs) = (us, 0, 0) ∧ Alike ts us := by
  obtain ⟨hR, -⟩ := lexV_good (s := s) hs (by rw [h])
  rw [h] at hR
  obtain ⟨us, ru, al⟩ := relex G hR (gp_idem _) xs hl hw g.length
  refine ⟨us, lexV_run hz ?_, al⟩
  rw [G.2.1, G.len]
  exact ru
theorem glue_len {g : List UInt8} (G : GapOk g) : ∀ xs : List (List UInt8), (∀ x ∈ xs, x.length ≤ 400) → (glue g xs).length ≤ xs.length * 416
  | [], _ => by simp [glue]
  | x :: xs, h => by
    have h1 := glue_len G xs fun y hy => h y (List.mem_cons_of_mem _ hy)
    have h2 := h x List.mem_cons_self
    have h3 := G.2.2
    show (x ++ (g ++ glue g xs)).length ≤ _
    simp only [List.length_append, List.length_cons]
    omega
end Go.Proofs.YtkhddadhkkffnaaGreatDoor
