/-
  How long texts are: of a program that is not heavy, by far under 2^47 bytes.
  Layer 10's law: the document's example, and the law's own test of it. Conditions: the listed tables stand.
  Layer 10's law: its own test of the document's example. Conditions: the listed tables stand.
-/
import Derived.Test.YtgjgcehoakacoaaGreatDoorMTa
import Derived.Test.YtgjgcehoakacoaaGreatDoorMXd
import Derived.Test.YtgjgcehoakacoaaGreatDoorMTh
import Derived.Test.YtgjgcehoakacoaaGreatDoorMTd
import Derived.Test.YtgjgcehoakacoaaGreatDoorMTb
namespace Go.Proofs.YtgjgcehoakacoaaGreatDoor
open Go.RowKit
set_option maxRecDepth 100000

theorem itoa_len {n : Int} (h0 : -9223372036854775808 ≤ n) (h1 : n ≤ 9223372036854775807) : (Lib.itoa n).length ≤ 21 := by
  have key : ∀ u : Nat, u < 18446744073709551616 → (Lib.decDigits u).length ≤ 20 := fun u hu => by
    rw [Lib.decDigits_length]
    by_cases h : 1 ≤ u
    · have := Lib.numDigits_eq u h hu
      split at this <;> omega
    · obtain rfl : u = 0 := by omega
      decide +kernel
  unfold Lib.itoa
  split
  · have := key n.natAbs (by omega)
    first
      | (simp only [List.length_cons]; omega)
      | (simp only [List.length_append, List.length_cons, List.length_nil]; omega)
  · first
      | exact Nat.le_trans (key _ (by omega)) (by decide)
theorem prT_len {f : Int} (hf : Word f) : (prT f).length ≤ 30 := by
  by_cases hc : fC f < 3
  · obtain ⟨h1, -, h2, -⟩ := prB_is hf hc
    rw [h1, List.length_append]
    have : (if fS f = true then [45] else [] : List UInt8).length ≤ 1 := by split <;> decide
    omega
  · unfold prT
    by_cases h4 : fC f = 4
    · rw [if_pos h4]; decide
    · rw [if_neg h4]
      have := cls_bd f
      rw [if_pos (show fC f = 3 by omega)]
      cases fS f <;> decide
theorem brk_len (b : Bool) (l : List UInt8) : (brk b l).length ≤ l.length + 2 := by
  cases b <;> simp [brk]
theorem sign_len (op : Int) : (signB op).length ≤ 2 := by
  unfold signB
  repeat (split; decide)
  decide
theorem head_len {h : EH} (hk : h.ok) (a0 s0 s1 : List UInt8) (A0 A1 : Nat) (g0 : a0.length ≤ 40 * A0) (g1 : s0.length ≤ 40 * A0 + 2) (g2 : s1.length ≤ 40 * A1 + 2) : (headT prT h a0 s0 s1).length ≤ 40 + 40 * h.nm.length + 40 * A0 + 40 * A1 := by
  have i0 := itoa_len (n := h.it) (by have := hk.it0; omega) (by have := hk.it1; omega)
  have p0 := prT_len hk.fl
  have q0 := sign_len h.op
  unfold headT
  repeat' split
  all_goals first
    | omega
    | (simp only [List.length_append, List.length_cons, List.length_nil]; omega)
    | (simp only [nameT, List.length_append]; split <;> simp only [List.length_append, List.length_cons, List.length_nil] <;> omega)
theorem Ex.txt_len (B : Nat) (w : World) (e : Ex) : e.In B w → (e.txt prT).length ≤ 40 * e.wt := by
  induction e using Ex.ind with
  | H e ih =>
    intro hI
    rw [Ex.txt_eq, Ex.wt_eq]
    have hx := hI.xs.2.2
    have key : ∀ i, i < e.h.s.n → ((e.k i).txt prT).length ≤ 40 * (e.k i).wt := fun i hi => ih i hi (hx i hi)
    by_cases c1 : 1 < e.h.s.n
    · have c0 : 0 < e.h.s.n := by omega
      rw [if_pos c0, if_pos c0, if_pos c1]
      have k0 := key 0 c0
      have k1 := key 1 c1
      have b0 := brk_len (e.k 0).bin ((e.k 0).txt prT)
      have b1 := brk_len (e.k 1).bin ((e.k 1).txt prT)
      have := head_len hI.ok _ _ _ (e.k 0).wt (e.k 1).wt k0 (Nat.le_trans b0 (by omega)) (Nat.le_trans b1 (by omega))
      have h2 := sm_le (f := fun i => (e.k i).wt) (show 2 ≤ e.h.s.n by omega)
      simp only [sm] at h2
      omega
    · rw [if_neg c1]
      by_cases c0 : 0 < e.h.s.n
      · rw [if_pos c0, if_pos c0]
        have k0 := key 0 c0
        have b0 := brk_len (e.k 0).bin ((e.k 0).txt prT)
        have := head_len hI.ok _ _ [] (e.k 0).wt 0 k0 (Nat.le_trans b0 (by omega)) (by simp)
        have h2 := sm_le (f := fun i => (e.k i).wt) (show 1 ≤ e.h.s.n by omega)
        simp only [sm] at h2
        omega
      · rw [if_neg c0, if_neg c0]
        have := head_len hI.ok [] [] [] 0 0 (by simp) (by simp) (by simp)
        omega
theorem cat_bound {f : Nat → List UInt8} {g : Nat → Nat} {n : Nat} (h : ∀ i, i < n → (f i).length ≤ 7000 * g i) : (cat f n).length ≤ 7000 * sm g n := by
  rw [cat_len]
  have := sm_mono h
  have e : sm (fun i => 7000 * g i) n = 7000 * sm g n := by
    have := sm_mul (f := g) (c := 7000) (n := n)
    rw [Nat.mul_comm, ← this]
    congr 1
    funext i
    exact Nat.mul_comm _ _
  omega
theorem St.txt_len (B : Nat) (w : World) (s : St) : s.In B w → ∀ d, d + s.wt ≤ 2000 → (s.txt prT d).length ≤ 7000 * s.wt := by
  induction s using St.ind with
  | H s it il =>
    intro hI d hd
    have hok := hI.ok
    rw [St.txt_eq]
    rw [St.wt_eq] at hd ⊢
    have l0 := itoa_len (n := s.h.lo) (by have := hok.lo0; omega) (by have := hok.lo1; omega)
    have l1 := itoa_len (n := s.h.hi) (by have := hok.hi0; omega) (by have := hok.hi1; omega)
    have e0 := Ex.txt_len B w s.e hI.ex
    have t0 := cat_bound (f := fun i => (s.t i).txt prT (d + 1)) (g := fun i => (s.t i).wt) (n := s.h.ts.n) (fun i hi => it i hi (hI.ts.2.2 i hi) (d + 1) (by have := sm_one (f := fun i => (s.t i).wt) hi; omega))
    have t1 := cat_bound (f := fun i => (s.l i).txt prT (d + 1)) (g := fun i => (s.l i).wt) (n := s.h.es.n) (fun i hi => il i hi (hI.es.2.2 i hi) (d + 1) (by have := sm_one (f := fun i => (s.l i).wt) hi; omega))
    have x0 : (if 0 < s.h.xs.n then (s.x 0).txt prT else []).length ≤ 40 * sm (fun i => (s.x i).wt) s.h.xs.n := by
      split
      · rename_i h
        have := Ex.txt_len B w (s.x 0) (hI.xs.2.2 0 h)
        have h2 := sm_le (f := fun i => (s.x i).wt) (show 1 ≤ s.h.xs.n by omega)
        simp only [sm] at h2
        omega
      · simp
    generalize (if 0 < s.h.xs.n then (s.x 0).txt prT else []) = X at *
    generalize cat (fun i => (s.t i).txt prT (d + 1)) s.h.ts.n = T at *
    generalize cat (fun i => (s.l i).txt prT (d + 1)) s.h.es.n = L at *
    unfold lineT
    repeat' split
    all_goals simp only [nameT, tabs, List.length_append, List.length_cons, List.length_nil, List.length_replicate]
    all_goals first
      | omega
      | (split <;> simp only [List.length_append, List.length_cons, List.length_nil] <;> omega)
theorem De.txt_len (B : Nat) (w : World) (d : De) (h : d.In B w) : (d.txt prT).length ≤ 7000 * d.wt := by
  have l0 := itoa_len (n := d.len) h.1.len0 h.1.len1
  have e0 := Ex.txt_len B w d.lo h.2.1
  have e1 := Ex.txt_len B w d.hi h.2.2
  have t0 : (typT d.ty).length ≤ 5 := by
    unfold typT
    repeat' split
    all_goals decide
  unfold De.txt De.wt
  have a1 : (if d.inp = true then [105, 110, 112, 117, 116, 32] else [118, 97, 114, 32] : List UInt8).length ≤ 6 := by split <;> decide
  have a2 : (if 0 < d.len then [91] ++ Lib.itoa d.len ++ [93] else [] : List UInt8).length ≤ 23 := by split <;> simp only [List.length_append, List.length_cons, List.length_nil] <;> omega
  have a3 : (if d.rg = true then [32, 105, 110, 32, 91] ++ d.lo.txt prT ++ [44, 32] ++ d.hi.txt prT ++ [93] else [] : List UInt8).length ≤ 8 + 40 * d.lo.wt + 40 * d.hi.wt := by split <;> simp only [List.length_append, List.length_cons, List.length_nil] <;> omega
  simp only [List.length_append, List.length_cons, List.length_nil] at a1 a2 a3 ⊢
  omega
theorem Pr.txt_len (B : Nat) (w : World) (p : Pr) (h : p.In B w) (hw : p.wt ≤ 1500) : (p.txt prT).length ≤ 140737488355328 := by
  have l0 := itoa_len (n := p.ticks) h.1.1 h.1.2
  unfold Pr.wt at hw
  have t0 := cat_bound (f := fun i => (p.d i).txt prT) (g := fun i => (p.d i).wt) (n := p.ds.n) (fun i hi => De.txt_len B w _ (h.2.1.2.2 i hi))
  have t1 := cat_bound (f := fun i => (p.i i).txt prT 1) (g := fun i => (p.i i).wt) (n := p.is.n) (fun i hi => St.txt_len B w _ (h.2.2.1.2.2 i hi) 1 (by have := sm_one (f := fun i => (p.i i).wt) hi; omega))
  have t2 := cat_bound (f := fun i => (p.s i).txt prT 1) (g := fun i => (p.s i).wt) (n := p.ss.n) (fun i hi => St.txt_len B w _ (h.2.2.2.2.2 i hi) 1 (by have := sm_one (f := fun i => (p.s i).wt) hi; omega))
  unfold Pr.txt
  simp only [List.length_append, List.length_cons, List.length_nil]
  omega
end Go.Proofs.YtgjgcehoakacoaaGreatDoor
namespace Go.Proofs.YtgjgcehoakacoaaGreatDoor
open Go.RowKit
set_option maxRecDepth 100000

def lf (op it : Int) (nm : List UInt8) : Ex := .mk ⟨op, 0, false, it, 0, nm, ⟨none, 0, 0⟩⟩ fun _ => .no
def ix (a b : Ex) (i : Nat) : Ex := if i = 0 then a else b
def sumX (n1 : Nat) : Ex := .mk ⟨5, 0, false, 0, 0, [], ⟨some ⟨n1, 0, none⟩, 2, 2⟩⟩ (ix (lf 4 0 [97]) (lf 2 1 []))
def atX (n3 : Nat) : Ex := .mk ⟨4, 0, false, 0, 0, [98], ⟨some ⟨n3, 0, none⟩, 1, 1⟩⟩ fun _ => lf 4 0 [105]
def negX (n1 n5 : Nat) : Ex := .mk ⟨17, 0, false, 0, 0, [], ⟨some ⟨n5, 0, none⟩, 1, 1⟩⟩ fun _ => sumX n1
/-- The example, its operands in these blocks, at a place. -/
def smpX (ps : Int) (n1 n3 n5 n6 : Nat) : Ex := .mk ⟨7, ps, false, 0, 0, [], ⟨some ⟨n6, 0, none⟩, 2, 2⟩⟩ (ix (negX n1 n5) (atX n3))
structure SmpIn (w : World) (n1 n3 n5 n6 : Nat) : Prop where
  b1 : w.heap[n1]? = some (.cells #[.int .u8 4, .int .i64 0, .bool false, .int .i32 0, .int .u64 0, .string ⟨#[97]⟩, .slice none 0 0, .int .u8 2, .int .i64 0, .bool false, .int .i32 1, .int .u64 0, .string ⟨#[]⟩, .slice none 0 0] 41 (0, 0))
  b3 : w.heap[n3]? = some (.cells #[.int .u8 4, .int .i64 0, .bool false, .int .i32 0, .int .u64 0, .string ⟨#[105]⟩, .slice none 0 0] 41 (0, 0))
  b5 : w.heap[n5]? = some (.cells #[.int .u8 5, .int .i64 0, .bool false, .int .i32 0, .int .u64 0, .string ⟨#[]⟩, .slice (some ⟨n1, 0, none⟩) 2 2] 41 (0, 0))
  b6 : w.heap[n6]? = some (.cells #[.int .u8 17, .int .i64 0, .bool false, .int .i32 0, .int .u64 0, .string ⟨#[]⟩, .slice (some ⟨n5, 0, none⟩) 1 1, .int .u8 4, .int .i64 0, .bool false, .int .i32 0, .int .u64 0, .string ⟨#[98]⟩, .slice (some ⟨n3, 0, none⟩) 1 1] 41 (0, 0))
theorem hp_at (w : World) (o : Obj) (k : Nat) (hk : k = w.heap.size) : (w.alloc o).heap[k]? = some o := by rw [hk]; exact heap_alloc_new w o
theorem hp_old (w : World) (o : Obj) {k : Nat} {x : Obj} (h : w.heap[k]? = some x) : (w.alloc o).heap[k]? = some x := (Below.heap_alloc w o k (Array.getElem?_eq_some_iff.1 h).1).trans h
set_option maxHeartbeats 1600000 in
theorem sample_any (w : World) : Calls Tryz.prog 20 #[] w fun r w' => (∃ n1 n3 n5 n6 : Nat, r = .returned (smpX 0 n1 n3 n5 n6).h.v ∧ SmpIn w' n1 n3 n5 n6 ∧ w.heap.size ≤ n1 ∧ w.heap.size ≤ n3 ∧ w.heap.size ≤ n5 ∧ w.heap.size ≤ n6) ∧ Below w.heap.size w w' := by
  go_enter Tryz.func20, Tryz.ntmps20
  go_wp2_with fail
  refine bodyPost_ret (v := (smpX 0 (w.heap.size + 1) (w.heap.size + 1 + 1 + 1) (w.heap.size + 1 + 1 + 1 + 1 + 1) (w.heap.size + 1 + 1 + 1 + 1 + 1 + 1)).h.v) (by simp [results, Tryz.results20, go_sem]; (try rfl)) rfl ⟨⟨(w.heap.size + 1), (w.heap.size + 1 + 1 + 1), (w.heap.size + 1 + 1 + 1 + 1 + 1), (w.heap.size + 1 + 1 + 1 + 1 + 1 + 1), rfl, ⟨?_, ?_, ?_, ?_⟩, ?_, ?_, ?_, ?_⟩, ?_⟩
  · repeat (first | exact hp_at _ _ _ (by simp only [World.size_alloc]) | refine hp_old _ _ ?_)
  · repeat (first | exact hp_at _ _ _ (by simp only [World.size_alloc]) | refine hp_old _ _ ?_)
  · repeat (first | exact hp_at _ _ _ (by simp only [World.size_alloc]) | refine hp_old _ _ ?_)
  · repeat (first | exact hp_at _ _ _ (by simp only [World.size_alloc]) | refine hp_old _ _ ?_)
  · omega
  · omega
  · omega
  · omega
  · repeat (first | exact Below.refl _ _ | refine bel_alloc ?_ _)
theorem mk_in {B : Nat} {w : World} {op ps it : Int} {nm : List UInt8} {s : Sl} {k : Nat → Ex} (h0 : 0 ≤ op ∧ op ≤ 255) (h1 : -2147483648 ≤ it ∧ it ≤ 2147483647) (h2 : 0 ≤ ps ∧ ps ≤ 100) (hn : nm.length ≤ 100) (hs : s.ok)
    (hr : Rw w B s 7 (fun i => (k i).h.vs)) (hk : ∀ i, i < s.n → (k i).In B w) : (Ex.mk ⟨op, ps, false, it, 0, nm, s⟩ k).In B w :=
  ⟨⟨h0.1, h0.2, show -9223372036854775808 ≤ ps by omega, show ps ≤ 9223372036854775807 by omega, h1.1, h1.2, ⟨Int.le_refl 0, show (0 : Int) < 18446744073709551616 by decide⟩, Nat.le_trans hn (by unfold maxLen; decide), hs⟩, hr, hk⟩
theorem sl_ok {a : Addr} {n : Nat} (h : n ≤ 100) : (⟨some a, n, n⟩ : Sl).ok := ⟨Nat.le_refl _, Nat.le_trans h (by unfold maxLen; decide), fun h => by cases h⟩
theorem sl_nil : (⟨none, 0, 0⟩ : Sl).ok := ⟨Nat.le_refl _, Nat.zero_le _, fun _ => rfl⟩
theorem lf_in (B : Nat) (w : World) (op it : Int) (nm : List UInt8) (h0 : 0 ≤ op ∧ op ≤ 255) (h1 : -2147483648 ≤ it ∧ it ≤ 2147483647) (hn : nm.length ≤ 100) : (lf op it nm).In B w :=
  mk_in h0 h1 (by decide) hn sl_nil (fun a (ha : none = some a) => by cases ha) (fun i hi => absurd hi (Nat.not_lt_zero i))
theorem rw1 {w : World} {B n c : Nat} {h0 : EH} {k : Nat → Ex} (hb : w.heap[n]? = some (.cells h0.vs.toArray 41 (0, 0))) (hn : n < B) (hk : (k 0).h = h0) : Rw w B ⟨some ⟨n, 0, none⟩, 1, c⟩ 7 (fun i => (k i).h.vs) := by
  intro a ha
  obtain rfl := Option.some.inj ha
  refine fun i hi => ⟨hn, fun j v hv => ?_⟩
  obtain rfl : i = 0 := Nat.lt_one_iff.1 hi
  rw [Nat.zero_mul, Go.Addr.add_mid, Nat.zero_add, Nat.zero_add, cell_obj hb, ← Array.getElem?_toList]
  have hv' : (k 0).h.vs[j]? = some v := hv
  rw [hk] at hv'
  exact hv'
theorem rw2 {w : World} {B n c : Nat} {h0 h1 : EH} {k : Nat → Ex} (hb : w.heap[n]? = some (.cells (h0.vs ++ h1.vs).toArray 41 (0, 0))) (hn : n < B) (hk : (k 0).h = h0) (hk' : (k 1).h = h1) : Rw w B ⟨some ⟨n, 0, none⟩, 2, c⟩ 7 (fun i => (k i).h.vs) := by
  intro a ha
  obtain rfl := Option.some.inj ha
  refine fun i hi => ⟨hn, fun j v hv => ?_⟩
  rw [Go.Addr.add_mid, Nat.zero_add, cell_obj hb, ← Array.getElem?_toList]
  have hi' : i = 0 ∨ i = 1 := by have : i < 2 := hi; omega
  rcases hi' with rfl | rfl
  · have hv' : (k 0).h.vs[j]? = some v := hv
    rw [hk] at hv'
    rw [Nat.zero_mul, Nat.zero_add]
    show (h0.vs ++ h1.vs)[j]? = some v
    rw [List.getElem?_append_left (List.getElem?_eq_some_iff.1 hv').1]
    exact hv'
  · have hv' : (k 1).h.vs[j]? = some v := hv
    rw [hk'] at hv'
    show (h0.vs ++ h1.vs)[1 * 7 + j]? = some v
    rw [List.getElem?_append_right (by simp only [EH.vs, List.length_cons, List.length_nil]; omega)]
    rw [show 1 * 7 + j - h0.vs.length = j by simp only [EH.vs, List.length_cons, List.length_nil]; omega]
    exact hv'
theorem smp_in {w : World} {B n1 n3 n5 n6 : Nat} {ps : Int} (hp : 0 ≤ ps ∧ ps ≤ 100) (h : SmpIn w n1 n3 n5 n6) (hB : w.heap.size ≤ B) : (smpX ps n1 n3 n5 n6).In B w := by
  have lt : ∀ {k : Nat} {o : Obj}, w.heap[k]? = some o → k < B := fun h => Nat.lt_of_lt_of_le (Array.getElem?_eq_some_iff.1 h).1 hB
  have l1 : (lf 4 0 [97]).In B w := lf_in B w _ _ _ (by decide) (by decide) (by decide)
  have l2 : (lf 2 1 []).In B w := lf_in B w _ _ _ (by decide) (by decide) (by decide)
  have l3 : (lf 4 0 [105]).In B w := lf_in B w _ _ _ (by decide) (by decide) (by decide)
  have s1 : (sumX n1).In B w := mk_in (by decide) (by decide) (by decide) (by decide) (sl_ok (by decide)) (rw2 (h0 := (lf 4 0 [97]).h) (h1 := (lf 2 1 []).h) h.b1 (lt h.b1) rfl rfl) (fun i hi => by
    unfold ix; split
    · exact l1
    · exact l2)
  have s3 : (atX n3).In B w := mk_in (by decide) (by decide) (by decide) (by decide) (sl_ok (by decide)) (rw1 (h0 := (lf 4 0 [105]).h) h.b3 (lt h.b3) rfl) (fun i hi => l3)
  have s5 : (negX n1 n5).In B w := mk_in (by decide) (by decide) (by decide) (by decide) (sl_ok (by decide)) (rw1 (h0 := (sumX n1).h) h.b5 (lt h.b5) rfl) (fun i hi => s1)
  exact mk_in (by decide) (by decide) hp (by decide) (sl_ok (by decide)) (rw2 (h0 := (negX n1 n5).h) (h1 := (atX n3).h) h.b6 (lt h.b6) rfl rfl) (fun i hi => by
    unfold ix; split
    · exact s5
    · exact s3)
theorem itoa_1 : Lib.itoa 1 = [49] := by decide +kernel
theorem itoa_3 : Lib.itoa 3 = [51] := by decide +kernel
theorem smp_txt (F : Int → List UInt8) (ps : Int) (n1 n3 n5 n6 : Nat) : (smpX ps n1 n3 n5 n6).txt F = [45, 40, 97, 32, 43, 32, 49, 41, 32, 42, 32, 98, 91, 105, 93] := by
  simp [smpX, Ex.txt, headT, negX, sumX, atX, ix, lf, brk, Ex.bin, Ex.h, opBin, signB, nameT, itoa_1]
theorem smp_same (n1 n3 n5 n6 m1 m3 m5 m6 : Nat) : (smpX 0 n1 n3 n5 n6).same (smpX 9 m1 m3 m5 m6) = true := by rfl
theorem smp_no (n1 n3 n5 n6 : Nat) : (smpX 0 n1 n3 n5 n6).same .no = false := by rfl
theorem SmpIn.below {w w' : World} {n1 n3 n5 n6 : Nat} (h : SmpIn w n1 n3 n5 n6) (hb : Below w.heap.size w w') : SmpIn w' n1 n3 n5 n6 := ⟨kept_obj hb h.b1, kept_obj hb h.b3, kept_obj hb h.b5, kept_obj hb h.b6⟩
/-- The example in a program. -/
def smpS (n1 n3 n5 n6 : Nat) : St := .mk ⟨1, 0, [120], ⟨none, 0, 0⟩, 0, 0, ⟨none, 0, 0⟩, ⟨none, 0, 0⟩⟩ (fun _ => .no) (smpX 0 n1 n3 n5 n6) (fun _ => .no) (fun _ => .no)
def noD : De := ⟨0, false, [], 0, 0, false, .no, .no⟩
def noP : Pr := ⟨0, ⟨none, 0, 0⟩, fun _ => noD, ⟨none, 0, 0⟩, fun _ => .no, ⟨none, 0, 0⟩, fun _ => .no⟩
def smpP (n1 n3 n5 n6 n7 : Nat) : Pr := ⟨3, ⟨none, 0, 0⟩, fun _ => noD, ⟨none, 0, 0⟩, fun _ => .no, ⟨some ⟨n7, 0, none⟩, 1, 1⟩, fun _ => smpS n1 n3 n5 n6⟩
theorem smpP_txt (F : Int → List UInt8) (n1 n3 n5 n6 n7 : Nat) : (smpP n1 n3 n5 n6 n7).txt F = [116, 105, 99, 107, 115, 32, 51, 59, 10, 105, 110, 105, 116, 32, 123, 10, 125, 10, 115, 116, 101, 112, 32, 123, 10, 9, 120, 32, 61, 32, 45, 40, 97, 32, 43, 32, 49, 41, 32, 42, 32, 98, 91, 105, 93, 59, 10, 125, 10] := by
  simp [Pr.txt, smpP, smpS, St.txt, lineT, smp_txt, cat, tabs, nameT, itoa_3]
theorem smpP_cnt (n1 n3 n5 n6 n7 : Nat) : (smpP n1 n3 n5 n6 n7).cs = 1 ∧ (smpP n1 n3 n5 n6 n7).ce = 7 ∧ (smpP n1 n3 n5 n6 n7).wt ≤ 100 := ⟨rfl, rfl, Nat.le_trans (Nat.le_of_eq (show (smpP n1 n3 n5 n6 n7).wt = 12 from rfl)) (by decide)⟩
theorem smpP_no (n1 n3 n5 n6 n7 : Nat) : (smpP n1 n3 n5 n6 n7).same noP = false := by rfl
end Go.Proofs.YtgjgcehoakacoaaGreatDoor
namespace Go.Proofs.YtgjgcehoakacoaaGreatDoor
open Go.RowKit
set_option maxRecDepth 100000

def agX (n6 : Nat) : Value := .agg #[.int .u8 7, .int .i64 0, .bool false, .int .i32 0, .int .u64 0, .string ⟨#[]⟩, .slice (some ⟨n6, 0, none⟩) 2 2]
theorem sample_ag (w : World) : Calls Tryz.prog 20 #[] w fun r w' => (∃ n1 n3 n5 n6 : Nat, r = .returned (.agg #[.int .u8 7, .int .i64 0, .bool false, .int .i32 0, .int .u64 0, .string ⟨#[]⟩, .slice (some ⟨n6, 0, none⟩) 2 2]) ∧ SmpIn w' n1 n3 n5 n6 ∧ w.heap.size ≤ n1 ∧ w.heap.size ≤ n3 ∧ w.heap.size ≤ n5 ∧ w.heap.size ≤ n6) ∧ Below w.heap.size w w' := sample_any w
theorem row15 {w : World} {B n c : Nat} {s : St} {k : Nat → St} (hb : w.heap[n]? = some (.cells (stvs s.h s.e.h).toArray 43 (0, 0))) (hn : n < B) (hk : k 0 = s) : Rw w B ⟨some ⟨n, 0, none⟩, 1, c⟩ 15 (fun i => stvs (k i).h (k i).e.h) := by
  intro a ha
  obtain rfl := Option.some.inj ha
  refine fun i hi => ⟨hn, fun j v hv => ?_⟩
  obtain rfl : i = 0 := Nat.lt_one_iff.1 hi
  rw [Nat.zero_mul, Go.Addr.add_mid, Nat.zero_add, Nat.zero_add, cell_obj hb, ← Array.getElem?_toList]
  have hv' : (stvs (k 0).h (k 0).e.h)[j]? = some v := hv
  rw [hk] at hv'
  exact hv'
theorem ss_nil {B : Nat} {w : World} : SsIn B w ⟨none, 0, 0⟩ fun _ => .no := ⟨sl_nil, fun a (ha : none = some a) => (by cases ha), fun i hi => absurd hi (Nat.not_lt_zero i)⟩
theorem xs_nil {B : Nat} {w : World} : XsIn B w ⟨none, 0, 0⟩ fun _ => .no := ⟨sl_nil, fun a (ha : none = some a) => (by cases ha), fun i hi => absurd hi (Nat.not_lt_zero i)⟩
theorem ds_nil {B : Nat} {w : World} : DsIn B w ⟨none, 0, 0⟩ fun _ => noD := ⟨sl_nil, fun a (ha : none = some a) => (by cases ha), fun i hi => absurd hi (Nat.not_lt_zero i)⟩
theorem smpS_in {w : World} {B n1 n3 n5 n6 : Nat} (h : SmpIn w n1 n3 n5 n6) (hB : w.heap.size ≤ B) : (smpS n1 n3 n5 n6).In B w :=
  ⟨⟨by decide, by decide, by decide, by decide, by decide, by decide, by decide, by decide, show 1 ≤ maxLen by unfold maxLen; decide, sl_nil, sl_nil, sl_nil⟩, xs_nil, smp_in (by decide) h hB, ss_nil.2.1, ss_nil.2.2, ss_nil.2.1, ss_nil.2.2⟩
theorem smpP_in {w : World} {B n1 n3 n5 n6 n7 : Nat} (h : SmpIn w n1 n3 n5 n6) (hb : w.heap[n7]? = some (sO (smpS n1 n3 n5 n6).h (smpS n1 n3 n5 n6).e.h)) (hB : w.heap.size ≤ B) : (smpP n1 n3 n5 n6 n7).In B w :=
  ⟨⟨show (-9223372036854775808 : Int) ≤ 3 by decide, show (3 : Int) ≤ 9223372036854775807 by decide⟩, ds_nil, ss_nil, sl_ok (by decide), row15 (s := smpS n1 n3 n5 n6) hb (Nat.lt_of_lt_of_le (Array.getElem?_eq_some_iff.1 hb).1 hB) rfl, fun i _ => smpS_in h hB⟩
theorem Pr.In.mono' {w : World} {p : Pr} {B B' : Nat} (h : p.In B w) (hB : B ≤ B') : p.In B' w := ⟨h.1, h.2.1.mono (fun _ _ => rfl) hB, h.2.2.1.mono (fun _ _ => rfl) hB, h.2.2.2.mono (fun _ _ => rfl) hB⟩
theorem noP_in {B : Nat} {w : World} : noP.In B w := ⟨by decide, ds_nil, ss_nil, ss_nil⟩
set_option maxHeartbeats 3200000 in
theorem works10_any (w : World) (hE : EnvOk w) (hS : SgOk w) : Calls Tryz.prog 6 #[] w fun r w' => r = .returned (.bool true) ∧ Below w.heap.size w w' := by
  have HE := Lib.hid hE
  have HS := Lib.hid hS
  clear hE hS
  go_enter Tryz.func6, Tryz.ntmps6
  go_wp2_with fail
  refine (sample_ag _).mono ?_
  rintro r w1 ⟨⟨n1, n3, n5, n6, rfl, i1, -⟩, b1⟩
  have I1 := Lib.hid i1
  have B1 := Lib.hid b1
  clear i1 b1
  go_wp2_with fail
  refine (sample_ag _).mono ?_
  rintro r w2 ⟨⟨m1, m3, m5, m6, rfl, i2, -⟩, b2⟩
  rw [show w1.alloc (.cells #[.int .u8 7, .int .i64 0, .bool false, .int .i32 0, .int .u64 0, .string ⟨#[]⟩, .slice (some ⟨n6, 0, none⟩) 2 2] 41 (0, 0)) = bx w1 (xO (smpX 0 n1 n3 n5 n6).h) from rfl] at b2
  have X1 := kept_obj b2 (bx_new w1 (xO (smpX 0 n1 n3 n5 n6).h))
  have I2 := Lib.hid i2
  have J1 := Lib.hid ((I1.out.below (bx_bel (Below.refl _ _) (Nat.le_refl _) (xO (smpX 0 n1 n3 n5 n6).h))).below b2)
  have B2 := Lib.hid (bel_trans (bx_bel B1.out (Nat.le_refl _) (xO (smpX 0 n1 n3 n5 n6).h)) b2)
  have lt1 := (Array.getElem?_eq_some_iff.1 X1).1
  have x := fun o => x_cells ((Below.heap_alloc w2 o _ lt1).trans X1)
  have x0 := fun o => (x o).1
  have x1 := fun o => (x o).2.1
  have x2 := fun o => (x o).2.2.1
  have x3 := fun o => (x o).2.2.2.1
  have x4 := fun o => (x o).2.2.2.2.1
  have x5 := fun o => (x o).2.2.2.2.2.1
  have x6 := fun o => (x o).2.2.2.2.2.2
  have HX1 := Lib.hid X1
  clear i2 b2 x I1 B1 X1 lt1
  simp only [smpX, Ex.h] at x0 x1 x2 x3 x4 x5 x6
  go_upto_region 5 with fail
  rw [show ((w2.alloc (.cells #[.int .u8 7, .int .i64 9, .bool false, .int .i32 0, .int .u64 0, .string ⟨#[]⟩, .slice (some ⟨m6, 0, none⟩) 2 2] 41 (0, 0))).alloc (.cells #[.int .u8 1, .int .i64 0, .string ⟨#[120]⟩, .slice none 0 0, .int .u8 7, .int .i64 0, .bool false, .int .i32 0, .int .u64 0, .string ⟨#[]⟩, .slice (some ⟨n6, 0, none⟩) 2 2, .int .i32 0, .int .i32 0, .slice none 0 0, .slice none 0 0] 43 (0, 0))).alloc (.cells #[.int .i64 3, .slice none 0 0, .slice none 0 0, .slice (some ⟨w2.heap.size + 1, 0, none⟩) 1 1] 25 (0, 0)) = bx (bx (bx w2 (xO (smpX 9 m1 m3 m5 m6).h)) (sO (smpS n1 n3 n5 n6).h (smpS n1 n3 n5 n6).e.h)) (pO (smpP n1 n3 n5 n6 (w2.heap.size + 1))) from rfl]
  have BB : Below w2.heap.size w2 (bx (bx (bx w2 (xO (smpX 9 m1 m3 m5 m6).h)) (sO (smpS n1 n3 n5 n6).h (smpS n1 n3 n5 n6).e.h)) (pO (smpP n1 n3 n5 n6 (w2.heap.size + 1)))) := bx_bel (bx_bel (bx_bel (Below.refl _ _) (Nat.le_refl _) _) (Nat.le_refl _) _) (Nat.le_refl _) _
  have E1 := kept_obj BB HX1.out
  have E2 : (bx (bx (bx w2 (xO (smpX 9 m1 m3 m5 m6).h)) (sO (smpS n1 n3 n5 n6).h (smpS n1 n3 n5 n6).e.h)) (pO (smpP n1 n3 n5 n6 (w2.heap.size + 1)))).heap[w2.heap.size]? = some (xO (smpX 9 m1 m3 m5 m6).h) := hp_old _ _ (hp_old _ _ (hp_at _ _ _ rfl))
  have E3 : (bx (bx (bx w2 (xO (smpX 9 m1 m3 m5 m6).h)) (sO (smpS n1 n3 n5 n6).h (smpS n1 n3 n5 n6).e.h)) (pO (smpP n1 n3 n5 n6 (w2.heap.size + 1)))).heap[w2.heap.size + 1]? = some (sO (smpS n1 n3 n5 n6).h (smpS n1 n3 n5 n6).e.h) := hp_old _ _ (hp_at _ _ _ (bx_size _ _).symm)
  have E4 : (bx (bx (bx w2 (xO (smpX 9 m1 m3 m5 m6).h)) (sO (smpS n1 n3 n5 n6).h (smpS n1 n3 n5 n6).e.h)) (pO (smpP n1 n3 n5 n6 (w2.heap.size + 1)))).heap[w2.heap.size + 1 + 1]? = some (pO (smpP n1 n3 n5 n6 (w2.heap.size + 1))) := hp_at _ _ _ (by rw [bx_size, bx_size])
  have B3 := Lib.hid (bel_trans B2.out BB)
  have I3 := Lib.hid (I2.out.below BB)
  have J3 := Lib.hid (J1.out.below BB)
  clear BB x0 x1 x2 x3 x4 x5 x6 B2 I2 J1 HX1
  generalize bx (bx (bx w2 (xO (smpX 9 m1 m3 m5 m6).h)) (sO (smpS n1 n3 n5 n6).h (smpS n1 n3 n5 n6).e.h)) (pO (smpP n1 n3 n5 n6 (w2.heap.size + 1))) = W at *
  generalize w2.heap.size + 1 + 1 = np at *
  generalize w2.heap.size + 1 = n7 at *
  generalize w2.heap.size = nf at *
  generalize w1.heap.size = ne at *
  have HP := Lib.hid (smpP_in (B := W.heap.size) J3.out E3 (Nat.le_refl _))
  have HX := Lib.hid (smp_in (B := W.heap.size) (ps := 0) (by decide) J3.out (Nat.le_refl _))
  have HY := Lib.hid (smp_in (B := W.heap.size) (ps := 9) (by decide) I3.out (Nat.le_refl _))
  have HE3 := Lib.hid (HE.out.below B3.out)
  have HS3 := Lib.hid (HS.out.below B3.out)
  have KK := Lib.hid (And.intro E1 (And.intro E2 E4))
  have T1 := Lib.hid fun w' hI hB hE hS => tText_any (smpX 0 n1 n3 n5 n6) W.heap.size w' hI hB hE hS (by rw [smp_txt]; decide)
  have T2 := Lib.hid fun w' hI hE hS => tPrint_any (smpP n1 n3 n5 n6 n7) w' hI hE hS (Nat.le_trans (smpP_cnt n1 n3 n5 n6 n7).2.2 (by decide)) (by rw [smpP_txt]; decide)
  have C1 := Lib.hid (tCount_any (smpP n1 n3 n5 n6 n7) W.heap.size W HP.out (Nat.le_refl _) (by rw [(smpP_cnt n1 n3 n5 n6 n7).1]; decide) (by rw [(smpP_cnt n1 n3 n5 n6 n7).2.1]; decide))
  have S1 := Lib.hid fun w' hI hJ hB => tSameX_any W.heap.size (smpX 0 n1 n3 n5 n6) (smpX 9 m1 m3 m5 m6) w' hI hJ hB
  have S2 := Lib.hid fun w' hI hB => tSameX_any W.heap.size (smpX 0 n1 n3 n5 n6) .no w' hI trivial hB
  have S3 := Lib.hid fun w' hI hB => tSame_any W.heap.size (smpP n1 n3 n5 n6 n7) (smpP n1 n3 n5 n6 n7) w' hI hI hB
  have S4 := Lib.hid fun w' hI hB => tSame_any W.heap.size (smpP n1 n3 n5 n6 n7) noP w' hI noP_in hB
  rw [(smpP_cnt n1 n3 n5 n6 n7).1, (smpP_cnt n1 n3 n5 n6 n7).2.1] at C1
  rw [smp_txt] at T1
  rw [smpP_txt] at T2
  rw [smp_same] at S1
  rw [smp_no] at S2
  rw [Pr.refl] at S3
  rw [smpP_no] at S4
  obtain ⟨p0, p1, p2, p3⟩ := p_cells E4
  clear E1 E2 E3 E4
  simp only [smpP] at p0 p1 p2 p3
  go_wp2_with fail
  refine C1.out.mono ?_
  rintro r w4 ⟨rfl, b4⟩
  have B4 := Lib.hid b4
  obtain ⟨x0, x1, x2, x3, x4, x5, x6⟩ := x_cells (kept_obj b4 KK.out.1)
  clear b4 p0 p1 p2 p3 C1
  simp only [smpX, Ex.h] at x0 x1 x2 x3 x4 x5 x6
  go_wp2_with fail
  refine (T1.out _ (HX.out.below B4.out (Nat.le_refl _)) B4.out.size (HE3.out.below B4.out) (HS3.out.below B4.out)).mono ?_
  rintro r w5 ⟨rfl, b5⟩
  have B5 := Lib.hid (B4.out.trans (b5.mono B4.out.size))
  clear b5 T1 x0 x1 x2 x3 x4 x5 x6
  obtain ⟨p0, p1, p2, p3⟩ := p_cells (kept_obj B5.out KK.out.2.2)
  simp only [smpP] at p0 p1 p2 p3
  go_wp2_with fail
  refine (T2.out _ ((HP.out.below B5.out (Nat.le_refl _)).mono' B5.out.size) (HE3.out.below B5.out) (HS3.out.below B5.out)).mono ?_
  rintro r w6 ⟨rfl, b6⟩
  have B6 := Lib.hid (B5.out.trans (b6.mono B5.out.size))
  clear b6 T2 p0 p1 p2 p3
  obtain ⟨x0, x1, x2, x3, x4, x5, x6⟩ := x_cells (kept_obj B6.out KK.out.1)
  simp only [smpX, Ex.h] at x0 x1 x2 x3 x4 x5 x6
  obtain ⟨y0, y1, y2, y3, y4, y5, y6⟩ := x_cells (kept_obj B6.out KK.out.2.1)
  simp only [smpX, Ex.h] at y0 y1 y2 y3 y4 y5 y6
  go_wp2_with fail
  refine (S1.out _ (HX.out.below B6.out (Nat.le_refl _)) (HY.out.below B6.out (Nat.le_refl _)) B6.out.size).mono ?_
  rintro r w7 ⟨rfl, b7⟩
  have B7 := Lib.hid (B6.out.trans (b7.mono B6.out.size))
  clear b7 S1 x0 x1 x2 x3 x4 x5 x6 y0 y1 y2 y3 y4 y5 y6
  obtain ⟨x0, x1, x2, x3, x4, x5, x6⟩ := x_cells (kept_obj B7.out KK.out.1)
  simp only [smpX, Ex.h] at x0 x1 x2 x3 x4 x5 x6
  go_wp2_with fail
  refine (S2.out _ (HX.out.below B7.out (Nat.le_refl _)) B7.out.size).mono ?_
  rintro r w8 ⟨rfl, b8⟩
  have B8 := Lib.hid (B7.out.trans (b8.mono B7.out.size))
  clear b8 S2 x0 x1 x2 x3 x4 x5 x6
  obtain ⟨p0, p1, p2, p3⟩ := p_cells (kept_obj B8.out KK.out.2.2)
  simp only [smpP] at p0 p1 p2 p3
  go_wp2_with fail
  refine (S3.out _ (HP.out.below B8.out (Nat.le_refl _)) B8.out.size).mono ?_
  rintro r w9 ⟨rfl, b9⟩
  have B9 := Lib.hid (B8.out.trans (b9.mono B8.out.size))
  clear b9 S3 p0 p1 p2 p3
  obtain ⟨p0, p1, p2, p3⟩ := p_cells (kept_obj B9.out KK.out.2.2)
  simp only [smpP] at p0 p1 p2 p3
  go_wp2_with fail
  refine (S4.out _ (HP.out.below B9.out (Nat.le_refl _)) B9.out.size).mono ?_
  rintro r w10 ⟨rfl, b10⟩
  have B10 := Lib.hid (B9.out.trans (b10.mono B9.out.size))
  clear b10 S4 p0 p1 p2 p3
  go_wp2_with fail
  go_ret
  exact ⟨rfl, bel_trans B3.out B10.out⟩
end Go.Proofs.YtgjgcehoakacoaaGreatDoor
