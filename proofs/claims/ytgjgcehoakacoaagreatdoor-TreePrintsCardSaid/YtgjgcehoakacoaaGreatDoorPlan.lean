/-
  A region that draws its order, walked in ONE order: if the operations that only read come up whenever they like, and of the others one alone may come up at a time, then what holds of that one order holds of all. No function of the program.
-/
import Derived.Test.YtgjgcehoakacoaaGreatDoorBase
namespace Go.Proofs.YtgjgcehoakacoaaGreatDoor
open Go.RowKit
set_option maxRecDepth 100000

/-- What of an operation decides when it may come up: where it writes, what it looks at, whom it waits for. -/
structure Sk where
  dst : Option Nat
  looks : List Nat
  after : List Nat
def skel (md : Region.Mode) (ops : Array Oper) : List Sk := ops.toList.map fun o => ⟨o.dst, o.looksAt ops, (o.after.toList.filter (Region.binds md)).map (·.on)⟩
/-- May it come up, when those of the mask have? -/
def rdyS (s : Sk) (m i : Nat) : Bool := !m.testBit i && s.after.all fun j => m.testBit j
def apartS (x y : Sk) : Bool :=
  (match x.dst with
   | some d => !y.looks.contains d && y.dst != some d
   | none => true) &&
  (match y.dst with
   | some d => !x.looks.contains d
   | none => true)
def allI (f : Nat → Sk → Bool) : Nat → List Sk → Bool
  | _, [] => true
  | k, s :: r => f k s && allI f (k + 1) r
theorem allI_spec {f : Nat → Sk → Bool} : ∀ (l : List Sk) (k : Nat), allI f k l = true → ∀ i s, l[i]? = some s → f (k + i) s = true
  | [], _, _, i, s, h => by simp at h
  | t :: r, k, h, i, s, hi => by
    simp only [allI, Bool.and_eq_true] at h
    rcases i with _ | i
    · simp at hi
      subst hi
      exact h.1
    · have := allI_spec r (k + 1) h.2 i s (by simpa using hi)
      rw [show k + (i + 1) = k + 1 + i by omega]
      exact this
/-- Is the order (a number, and whether it is taken whenever it comes up) one that may be walked alone? -/
def chk (sk : List Sk) : List (Nat × Bool) → Nat → Bool
  | [], m => allI (fun j s => !rdyS s m j) 0 sk
  | (i, b) :: r, m => (match sk[i]? with
      | none => false
      | some s => rdyS s m i && (if b then allI (fun j t => j == i || m.testBit j || t.after.contains i || apartS s t) 0 sk else allI (fun j t => j == i || !rdyS t m j) 0 sk)) && chk sk r (m ||| 1 <<< i)

/-- The mask and the list of those that have come up say the same. -/
structure Agree (listed : Array Bool) (m n : Nat) : Prop where
  size : listed.size = n
  bit : ∀ j, listed.getD j false = m.testBit j
theorem Agree.start (n : Nat) : Agree (Array.replicate n false) 0 n := by
  refine ⟨by simp, fun j => ?_⟩
  rw [Nat.zero_testBit, Array.getD_eq_getD_getElem?]
  by_cases h : j < n
  · rw [Array.getElem?_replicate, if_pos h]; rfl
  · rw [Array.getElem?_replicate, if_neg h]; rfl
theorem Agree.set {listed : Array Bool} {m n i : Nat} (h : Agree listed m n) (hi : i < n) : Agree (listed.setIfInBounds i true) (m ||| 1 <<< i) n := by
  refine ⟨by rw [Array.size_setIfInBounds, h.size], fun j => ?_⟩
  rw [Nat.testBit_or, Nat.one_shiftLeft, Nat.testBit_two_pow, ← h.bit j, Array.getD_eq_getD_getElem?, Array.getD_eq_getD_getElem?, Array.getElem?_setIfInBounds]
  by_cases e : i = j
  · subst e
    rw [if_pos rfl, if_pos (by rw [h.size]; exact hi)]
    simp
  · rw [if_neg e]
    simp [e]
theorem Agree.open_ {listed : Array Bool} {m n j : Nat} (h : Agree listed m n) (hj : j < n) : listed.getD j true = m.testBit j := by
  rw [← h.bit j, Array.getD_eq_getD_getElem?, Array.getD_eq_getD_getElem?, Array.getElem?_eq_getElem (by rw [h.size]; exact hj)]
  rfl

section
variable {P : Program} {ops : Array Oper} {Q : Exit → Act → World → Prop} {S : World → Prop}
theorem skel_at {md : Region.Mode} {i : Nat} {s : Sk} (h : (skel md ops)[i]? = some s) : ∃ o, ops[i]? = some o ∧ s = ⟨o.dst, o.looksAt ops, (o.after.toList.filter (Region.binds md)).map (·.on)⟩ := by
  unfold skel at h
  rw [List.getElem?_map] at h
  rw [← Array.getElem?_toList]
  cases ho : ops.toList[i]? with
  | none => rw [ho] at h; cases h
  | some o =>
    rw [ho] at h
    exact ⟨o, rfl, (Option.some.inj h).symm⟩
theorem skel_of {md : Region.Mode} {i : Nat} {o : Oper} (h : ops[i]? = some o) : (skel md ops)[i]? = some ⟨o.dst, o.looksAt ops, (o.after.toList.filter (Region.binds md)).map (·.on)⟩ := by
  unfold skel
  rw [List.getElem?_map, Array.getElem?_toList, h]
  rfl
theorem rdy_iff {md : Region.Mode} {listed : Array Bool} {m i : Nat} {o : Oper} (ha : Agree listed m ops.size) (hi : ops[i]? = some o) : i ∈ Region.ready md ops listed ↔ rdyS ⟨o.dst, o.looksAt ops, (o.after.toList.filter (Region.binds md)).map (·.on)⟩ m i = true := by
  have hlt : i < ops.size := (Array.getElem?_eq_some_iff.1 hi).1
  rw [mem_ready, ha.open_ hlt]
  unfold rdyS
  simp only [Bool.and_eq_true, Bool.not_eq_true', List.all_eq_true, List.mem_map, List.mem_filter, forall_exists_index, and_imp]
  constructor
  · rintro ⟨h1, o', ho', h2⟩
    rw [hi] at ho'
    obtain rfl := Option.some.inj ho'
    exact ⟨h1, fun j e he hb hj => by rw [← hj, ← ha.bit]; exact h2 e (by simpa using he) hb⟩
  · rintro ⟨h1, h2⟩
    exact ⟨h1, o, hi, fun e he hb => by rw [ha.bit]; exact h2 _ e (by simpa using he) hb rfl⟩
/-- The walk of one order. -/
def Walk (P : Program) (ops : Array Oper) (Q : Exit → Act → World → Prop) (S : World → Prop) : List (Nat × Bool) → Act → World → Prop
  | [], a, w => Q .normal a w
  | (i, true) :: r, a, w => ∃ oi v, ops[i]? = some oi ∧ YieldsIf P ops S oi v a ∧ Walk P ops Q S r (a.put oi.dst v) w
  | (i, false) :: r, a, w => wpOp P ops Q i (fun a' w' => S w' ∧ Walk P ops Q S r a' w') a w
theorem walk_spec (hsel : Region.noSelect ops = true) (hQ : ∀ c a d v w, Q (.panic c) (Act.put a d v) w → Q (.panic c) a w) {md : Region.Mode} :
    ∀ (ord : List (Nat × Bool)) (fuel : Nat) (listed : Array Bool) (m : Nat) (a : Act) (w : World), chk (skel md ops) ord m = true → Agree listed m ops.size → ord.length ≤ fuel → S w → Walk P ops Q S ord a w → wpAnyH P md ops Q S fuel listed a w
  | [], fuel, listed, m, a, w, hc, ha, _, _, h => by
    refine wpAnyH_done ?_ h fuel
    rw [List.eq_nil_iff_forall_not_mem]
    intro i hi
    obtain ⟨_, o, ho, _⟩ := mem_ready.1 hi
    have h1 := (rdy_iff ha ho).1 hi
    have h2 := allI_spec _ 0 hc i _ (skel_of ho)
    rw [Nat.zero_add, h1] at h2
    cases h2
  | (i, b) :: r, 0, listed, m, a, w, hc, ha, hl, hS, h => by simp at hl
  | (i, b) :: r, fuel + 1, listed, m, a, w, hc, ha, hl, hS, h => by
    simp only [chk, Bool.and_eq_true] at hc
    obtain ⟨h1, h2⟩ := hc
    cases hs : (skel md ops)[i]? with
    | none => rw [hs] at h1; cases h1
    | some s =>
      rw [hs] at h1
      obtain ⟨o, ho, rfl⟩ := skel_at hs
      simp only [Bool.and_eq_true] at h1
      obtain ⟨h1, h3⟩ := h1
      have hlt : i < ops.size := (Array.getElem?_eq_some_iff.1 ho).1
      have hr := (rdy_iff ha ho).2 h1
      have ha2 := ha.set hlt
      have hl2 : r.length ≤ fuel := by simpa using hl
      cases b with
      | true =>
        obtain ⟨o', v, ho', hy, hw⟩ := h
        rw [ho] at ho'
        obtain rfl := Option.some.inj ho'
        simp only [if_true] at h3
        refine wpAnyH_first ho (Region.noSelect_spec hsel) (fun c a w h => hQ c a _ _ w h) fuel listed a w (fun j oj hj hne hun hno => ?_) hr hy hS (walk_spec hsel hQ r fuel _ _ _ _ h2 ha2 hl2 hS hw)
        have h4 := allI_spec _ 0 h3 j _ (skel_of hj)
        rw [Nat.zero_add] at h4
        have hjl : j < ops.size := (Array.getElem?_eq_some_iff.1 hj).1
        rw [ha.open_ hjl] at hun
        simp only [Bool.or_eq_true, beq_iff_eq, hne, hun, Bool.false_eq_true, false_or, List.contains_eq_mem, decide_eq_true_eq, List.mem_map, List.mem_filter] at h4
        rcases h4 with ⟨e, ⟨he, hb⟩, hei⟩ | h4
        · exact absurd hei (hno e (by simpa using he) hb)
        · exact h4
      | false =>
        simp only [Bool.false_eq_true, if_false] at h3
        refine wpAnyH_all rfl (fun e => by rw [e] at hr; cases hr) fun j hj => ?_
        obtain ⟨_, oj, hoj, _⟩ := mem_ready.1 hj
        have h4 := allI_spec _ 0 h3 j _ (skel_of hoj)
        rw [Nat.zero_add, (rdy_iff ha hoj).1 hj] at h4
        have hji : j = i := by simpa using h4
        subst hji
        exact wpOp_mono (fun a' w' h' => ⟨h'.1, walk_spec hsel hQ r fuel _ _ _ _ h2 ha2 hl2 h'.1 h'.2⟩) h
/-- A region that draws, by the walk of one order. -/
theorem region_plan {id : Nat} {a : Act} {w : World} (sk : List Sk) (ord : List (Nat × Bool)) (hm : P.follows .mixedOrders = true) (hsel : Region.noSelect ops = true) (hsk : skel .any ops = sk) (hc : chk sk ord 0 = true) (hl : decide (ord.length ≤ ops.size) = true)
    (hQ : ∀ c a d v w, Q (.panic c) (Act.put a d v) w → Q (.panic c) a w) (hS : S w.drew) (h : Walk P ops Q S ord a w.drew) : (Code.region id ops true).wp P Q a w :=
  wp_region_held (S := S) hm (walk_spec hsel hQ ord ops.size _ 0 a _ (by rw [hsk]; exact hc) (Agree.start _) (of_decide_eq_true hl) hS h)
theorem Walk.take {i : Nat} {oi : Oper} {v : Value} {r : List (Nat × Bool)} {a : Act} {w : World} (hi : ops.toList[i]? = some oi) (hw : Region.wanted oi (yielded ops a.tmps) = true) (hy : ∀ w, S w → (execOp a.eval oi).run P w = .ok (.value v) w)
    (h : Walk P ops Q S r (a.put oi.dst v) w) : Walk P ops Q S ((i, true) :: r) a w := ⟨oi, v, by rw [← Array.getElem?_toList]; exact hi, .inl ⟨hw, hy⟩, h⟩
theorem Walk.skip {i : Nat} {oi : Oper} {r : List (Nat × Bool)} {a : Act} {w : World} (hi : ops.toList[i]? = some oi) (hw : Region.wanted oi (yielded ops a.tmps) = false)
    (h : Walk P ops Q S r (a.put oi.dst undef) w) : Walk P ops Q S ((i, true) :: r) a w := ⟨oi, undef, by rw [← Array.getElem?_toList]; exact hi, .inr ⟨hw, rfl⟩, h⟩
theorem Walk.act {i : Nat} {oi : Oper} {r : List (Nat × Bool)} {a : Act} {w : World} (hi : ops.toList[i]? = some oi) (hw : Region.wanted oi (yielded ops a.tmps) = true)
    (h : ∀ K : Act → World → Prop, Hid (∀ a' w', S w' → Walk P ops Q S r a' w' → K a' w') → oi.wp P a w K Q) : Walk P ops Q S ((i, false) :: r) a w := by
  rw [Array.getElem?_toList] at hi
  show wpOp P ops Q i _ a w
  unfold wpOp
  simp only [hi, hw, if_true]
  exact .inl (h _ fun a' w' h1 h2 => ⟨h1, h2⟩)
theorem Walk.pass {i : Nat} {oi : Oper} {r : List (Nat × Bool)} {a : Act} {w : World} (hi : ops.toList[i]? = some oi) (hw : Region.wanted oi (yielded ops a.tmps) = false) (hS : S w)
    (h : Walk P ops Q S r (a.put oi.dst undef) w) : Walk P ops Q S ((i, false) :: r) a w := by
  rw [Array.getElem?_toList] at hi
  show wpOp P ops Q i _ a w
  unfold wpOp
  simp only [hi, hw, Bool.false_eq_true, if_false]
  exact ⟨hS, h⟩
theorem Walk.done {a : Act} {w : World} (h : Q .normal a w) : Walk P ops Q S [] a w := h
end
end Go.Proofs.YtgjgcehoakacoaaGreatDoor
