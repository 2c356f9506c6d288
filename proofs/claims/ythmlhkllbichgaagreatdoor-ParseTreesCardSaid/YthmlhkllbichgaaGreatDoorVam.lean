/-
  ParseTrees holds, tied to the program's text. (part 13 of 35) Conditions: none beside what the card ties.
-/
import Derived.Test.YthmlhkllbichgaaGreatDoorVab
import Derived.Test.YthmlhkllbichgaaGreatDoorVal
namespace Go.Proofs.YthmlhkllbichgaaGreatDoor
open Go.RowKit
set_option maxRecDepth 100000
structure PS where
 ts : List Tk
 ns : Nat
 nx : Nat
inductive Rs (α : Type) where
 | ok (a : α) (s : PS)
 | no (e p : Int)
def Rs.bind {α β : Type} (r : Rs α) (f : α → PS → Rs β) : Rs β :=
 match r with
 | .ok a s => f a s
 | .no e p => .no e p
theorem bind_ok {α β : Type} (a : α) (s : PS) (f : α → PS → Rs β) : (Rs.ok a s).bind f = f a s := rfl
theorem bind_no {α β : Type} (e p : Int) (f : α → PS → Rs β) : (Rs.no e p : Rs α).bind f = .no e p := rfl
def PS.hd (s : PS) : Tk := s.ts.headD noT
def PS.tk (s : PS) : PS := ⟨s.ts.tail, s.ns, s.nx⟩
def bad {α : Type} (s : PS) : Rs α := .no 110 s.hd.ps
def expT (x : List UInt8) (s : PS) : Rs Unit := if s.hd.tx = x then .ok () s.tk else bad s
def kindT (k : Int) (s : PS) : Rs Tk := if s.hd.kd = k then .ok s.hd s.tk else bad s
def endT {α : Type} (a : α) (s : PS) : Rs α := if s.hd.kd = 0 then .ok a s else bad s
def whole (e : Ex) (s : PS) : Rs Ex := if s.nx = 2000 then .no 112 e.h.ps else .ok e ⟨s.ts, s.ns, s.nx + 1⟩
def opX (op ps : Int) (l : List Ex) : Ex := .mk ⟨op, ps, false, 0, 0, [], ⟨none, l.length, l.length⟩⟩ (fun i => l.getD i .no)
def nmX (ps : Int) (nm : List UInt8) (l : List Ex) : Ex := .mk ⟨4, ps, false, 0, 0, nm, ⟨none, l.length, l.length⟩⟩ (fun i => l.getD i .no)
def boX (ps : Int) (b : Bool) : Ex := .mk ⟨1, ps, b, 0, 0, [], ⟨none, 0, 0⟩⟩ (fun _ => .no)
def inX (ps : Int) (n : Int) : Ex := .mk ⟨2, ps, false, n, 0, [], ⟨none, 0, 0⟩⟩ (fun _ => .no)
def flX (ps : Int) (f : Int) : Ex := .mk ⟨3, ps, false, 0, f, [], ⟨none, 0, 0⟩⟩ (fun _ => .no)
def sgO (n : Nat) (x : List UInt8) : Int :=
 if n = 0 then (if x = [124, 124] then 16 else 0)
 else if n = 1 then (if x = [38, 38] then 15 else 0)
 else if n = 2 then (if x = [60] then 9 else if x = [60, 61] then 10 else if x = [61, 61] then 11 else if x = [33, 61] then 12 else if x = [62] then 13 else if x = [62, 61] then 14 else 0)
 else if n = 3 then (if x = [43] then 5 else if x = [45] then 6 else 0)
 else (if x = [42] then 7 else if x = [47] then 8 else 0)
def binr (n : Nat) (p : PS → Rs Ex) (e : Ex) (s : PS) : Rs Ex := (p s.tk).bind fun b s' => whole (opX (sgO n s.hd.tx) s.hd.ps [e, b]) s'
def chain (n : Nat) (p : PS → Rs Ex) : Nat → Ex → PS → Rs Ex
 | 0, _, _ => .no 0 0
 | f + 1, e, s => if sgO n s.hd.tx = 0 then .ok e s else (binr n p e s).bind fun e' s' => chain n p f e' s'
def lvl (u : PS → Rs Ex) : Nat → PS → Rs Ex
 | 0 => u
 | m + 1 => fun s => (lvl u m s).bind fun e s' => if m = 2 then (if sgO 2 s'.hd.tx = 0 then .ok e s' else binr 2 (lvl u m) e s') else chain (4 - m) (lvl u m) (s'.ts.length + 1) e s'
def unT (x : List UInt8) : Int := if x = [45] then 17 else if x = [33] then 18 else 0
def atT (t : Tk) : Int :=
 if t.kd = 2 then 2 else if t.kd = 3 then 3 else if t.kd = 1 then 4
 else if t.tx = [116, 114, 117, 101] ∨ t.tx = [102, 97, 108, 115, 101] then 1
 else if t.tx = [105, 110, 116] then 19 else if t.tx = [102, 108, 111, 97, 116] then 20 else if t.tx = [97, 98, 115] then 21 else 0
def within (d : Option (PS → Rs Ex)) (o c : List UInt8) (s : PS) : Rs Ex :=
 if s.hd.tx = o then
  (match d with
  | none => .no 111 s.hd.ps
  | some u => (lvl u 5 s.tk).bind fun e s' => (expT c s').bind fun _ s'' => .ok e s'')
 else bad s
def index (d : Option (PS → Rs Ex)) (s : PS) : Rs (List Ex) := if s.hd.tx = [91] then (within d [91] [93] s).bind fun e s' => .ok [e] s' else .ok [] s
def atom (d : Option (PS → Rs Ex)) (s : PS) : Rs Ex :=
 if s.hd.tx = [40] then within d [40] [41] s
 else if atT s.hd = 0 then bad s
 else if atT s.hd = 1 then whole (boX s.hd.ps (s.hd.tx == [116, 114, 117, 101])) s.tk
 else if atT s.hd = 2 then whole (inX s.hd.ps s.hd.nn) s.tk
 else if atT s.hd = 3 then whole (flX s.hd.ps s.hd.ff) s.tk
 else if atT s.hd = 4 then (index d s.tk).bind fun l s' => whole (nmX s.hd.ps s.hd.tx l) s'
 else (within d [40] [41] s.tk).bind fun e s' => whole (opX (atT s.hd) s.hd.ps [e]) s'
def un (d : Option (PS → Rs Ex)) (s : PS) : Rs Ex :=
 if unT s.hd.tx = 0 then atom d s
 else match d with
  | none => .no 111 s.hd.ps
  | some u => (u s.tk).bind fun e s' => whole (opX (unT s.hd.tx) s.hd.ps [e]) s'
def unK : Nat → PS → Rs Ex
 | 0 => un none
 | k + 1 => un (some (unK k))
def dK : Nat → Option (PS → Rs Ex)
 | 0 => none
 | k + 1 => some (unK k)
theorem unK_eq (k : Nat) : unK k = un (dK k) := by cases k <;> rfl
def exK (k : Nat) : PS → Rs Ex := lvl (unK k) 5
def oneX (k : Nat) (s : PS) : Rs Ex := (exK k s).bind fun e s' => endT e s'
def intT (m : Bool) (s : PS) : Rs Int := (kindT 2 s).bind fun t s' => .ok (if m then -t.nn else t.nn) s'
def minus (s : PS) : Bool × PS := if s.hd.tx = [45] then (true, s.tk) else (false, s)
def whl (s : PS) : Rs Int := intT (minus s).1 (minus s).2
def neF (m : Bool) (f : Int) : Int := if m then (if f < 9223372036854775808 then f + 9223372036854775808 else f) else f
def numb (s : PS) : Rs Ex :=
 if (minus s).2.hd.kd = 3 then .ok (flX s.hd.ps (neF (minus s).1 (minus s).2.hd.ff)) (minus s).2.tk
 else (intT (minus s).1 (minus s).2).bind fun n s' => .ok (inX s.hd.ps n) s'
def typN (s : PS) : Rs Int :=
 if s.hd.tx = [98, 111, 111, 108] then .ok 1 s.tk
 else if s.hd.tx = [105, 110, 116] then .ok 2 s.tk
 else (expT [102, 108, 111, 97, 116] s).bind fun _ s' => .ok 3 s'
def inpW : List UInt8 := [105, 110, 112, 117, 116]
def varW : List UInt8 := [118, 97, 114]
def deT (ps : Int) (i : Bool) (nm : List UInt8) (ty : Int) (s : PS) : Rs De :=
 if i ∧ s.hd.tx = [105, 110] then
  (expT [91] s.tk).bind fun _ s => (numb s).bind fun a s => (expT [44] s).bind fun _ s => (numb s).bind fun b s => (expT [93] s).bind fun _ s => (expT [59] s).bind fun _ s => .ok ⟨ps, i, nm, ty, 0, true, a, b⟩ s
 else if i = false ∧ s.hd.tx = [91] then
  (kindT 2 s.tk).bind fun t s => (expT [93] s).bind fun _ s => (expT [59] s).bind fun _ s => .ok ⟨ps, i, nm, ty, t.nn, false, .no, .no⟩ s
 else (expT [59] s).bind fun _ s => .ok ⟨ps, i, nm, ty, 0, false, .no, .no⟩ s
def decl (s : PS) : Rs De :=
 (kindT 1 s.tk).bind fun t s' => (expT [58] s').bind fun _ s' => (typN s').bind fun ty s' => deT s.hd.ps (s.hd.tx == inpW) t.tx ty s'
def decls : Nat → List De → PS → Rs (List De)
 | 0, _, _ => .no 0 0
 | f + 1, l, s =>
  if s.hd.tx = inpW ∨ s.hd.tx = varW then
   (if l.length = 96 then .no 112 s.hd.ps else (decl s).bind fun d s' => decls f (l ++ [d]) s')
  else .ok l s
def many (p : PS → Rs St) : Nat → List St → PS → Rs (List St)
 | 0, _, _ => .no 0 0
 | f + 1, l, s => if s.hd.tx = [125] then .ok l s.tk else (p s).bind fun x s' => many p f (l ++ [x]) s'
def blk (d : Option (PS → Rs St)) (s : PS) : Rs (List St) :=
 if s.hd.tx = [123] then
  (match d with
  | none => .no 111 s.hd.ps
  | some p => many p (s.ts.length + 1) [] s.tk)
 else bad s
def sl (n : Nat) : Sl := ⟨none, n, n⟩
def asS (ps : Int) (nm : List UInt8) (l : List Ex) (e : Ex) : St := .mk ⟨1, ps, nm, sl l.length, 0, 0, sl 0, sl 0⟩ (fun i => l.getD i .no) e (fun _ => .no) (fun _ => .no)
def ifS (ps : Int) (e : Ex) (t l : List St) : St := .mk ⟨2, ps, [], sl 0, 0, 0, sl t.length, sl l.length⟩ (fun _ => .no) e (fun i => t.getD i .no) (fun i => l.getD i .no)
def foS (ps : Int) (nm : List UInt8) (lo hi : Int) (t : List St) : St := .mk ⟨3, ps, nm, sl 0, lo, hi, sl t.length, sl 0⟩ (fun _ => .no) .no (fun i => t.getD i .no) (fun _ => .no)
def ifW : List UInt8 := [105, 102]
def forW : List UInt8 := [102, 111, 114]
def elseW : List UInt8 := [101, 108, 115, 101]
def elsS (d : Option (PS → Rs St)) (s : PS) : Rs (List St) :=
 if s.hd.tx = ifW then
  (match d with
  | none => .no 111 s.hd.ps
  | some p => (p s).bind fun x s' => .ok [x] s')
 else blk d s
def stm (k : Nat) (d : Option (PS → Rs St)) (s : PS) : Rs St :=
 if s.hd.kd ≠ 1 ∧ s.hd.tx ≠ ifW ∧ s.hd.tx ≠ forW then bad s
 else if s.ns = 200 then .no 112 s.hd.ps
 else
  let s1 : PS := ⟨s.ts.tail, s.ns + 1, s.nx⟩
  if s.hd.tx = ifW then
   (exK k s1).bind fun e s2 => (blk d s2).bind fun t s3 =>
    if s3.hd.tx = elseW then (elsS d s3.tk).bind fun l s4 => .ok (ifS s.hd.ps e t l) s4 else .ok (ifS s.hd.ps e t []) s3
  else if s.hd.tx = forW then
   (kindT 1 s1).bind fun n s2 => (expT [61] s2).bind fun _ s3 => (whl s3).bind fun lo s4 => (expT [46, 46] s4).bind fun _ s5 => (whl s5).bind fun hi s6 => (blk d s6).bind fun t s7 => .ok (foS s.hd.ps n.tx lo hi t) s7
  else
   (index (dK k) s1).bind fun l s2 => (expT [61] s2).bind fun _ s3 => (exK k s3).bind fun e s4 => (expT [59] s4).bind fun _ s5 => .ok (asS s.hd.ps s.hd.tx l e) s5
def stK : Nat → PS → Rs St
 | 0 => stm 0 none
 | k + 1 => stm (k + 1) (some (stK k))
def sK : Nat → Option (PS → Rs St)
 | 0 => none
 | k + 1 => some (stK k)
theorem stK_eq (k : Nat) : stK k = stm k (sK k) := by cases k <;> rfl
def prX (ticks : Int) (d : List De) (i s : List St) : Pr := ⟨ticks, sl d.length, fun j => d.getD j ⟨0, false, [], 0, 0, false, .no, .no⟩, sl i.length, fun j => i.getD j .no, sl s.length, fun j => s.getD j .no⟩
def ticksW : List UInt8 := [116, 105, 99, 107, 115]
def initW : List UInt8 := [105, 110, 105, 116]
def stepW : List UInt8 := [115, 116, 101, 112]
def prog (s : PS) : Rs Pr :=
 (expT ticksW s).bind fun _ s => (kindT 2 s).bind fun t s => (expT [59] s).bind fun _ s => (decls (s.ts.length + 1) [] s).bind fun d s => (expT initW s).bind fun _ s => (blk (sK 24) s).bind fun i s => (expT stepW s).bind fun _ s =>
  (blk (sK 24) s).bind fun b s => endT (prX t.nn d i b) s
def resW : List (List UInt8) := kwS ++ twoS ++ oneS.map fun b => [b]
structure Tg (t : Tk) : Prop where
 ps0 : 0 ≤ t.ps
 ps1 : t.ps ≤ 16384
 kd : t.kd = 1 ∨ t.kd = 2 ∨ t.kd = 3 ∨ t.kd = 4 ∨ t.kd = 5
 tx : t.kd = 1 ∨ t.kd = 2 ∨ t.kd = 3 → t.tx ∉ resW
 nn0 : 0 ≤ t.nn
 nn1 : t.nn ≤ 2147483647
 ff0 : 0 ≤ t.ff
 ff1 : t.ff < 9223372036854775808
 len : t.tx.length ≤ 16384
structure Te (t : Tk) : Prop where
 ps0 : 0 ≤ t.ps
 ps1 : t.ps ≤ 16384
 kd : t.kd = 0
 tx : t.tx = []
 nn : t.nn = 0
 ff : t.ff = 0
def Good : List Tk → Prop
 | [] => False
 | t :: r => (r = [] ∧ Te t) ∨ (Tg t ∧ Good r)
theorem Good.ne {l : List Tk} (h : Good l) : l ≠ [] := by
 cases l with
 | nil => exact h.elim
 | cons t r => exact fun e => by cases e
theorem Good.pos {l : List Tk} (h : Good l) : 0 < l.length := List.length_pos_iff.2 h.ne
theorem Good.tail {l : List Tk} (h : Good l) (hk : (l.headD noT).kd ≠ 0) : Good l.tail := by
 cases l with
 | nil => exact h.elim
 | cons t r =>
  rcases h with ⟨-, h⟩ | ⟨-, h⟩
  ·exact absurd h.kd hk
  ·exact h
theorem Good.kd {l : List Tk} (h : Good l) (hx : (l.headD noT).tx ≠ []) : (l.headD noT).kd ≠ 0 := by
 cases l with
 | nil => exact h.elim
 | cons t r =>
  rcases h with ⟨-, h⟩ | ⟨h, -⟩
  ·exact absurd h.tx hx
  ·intro e
   have := h.kd
   simp only [List.headD_cons] at e
   omega
theorem Good.tail' {l : List Tk} (h : Good l) (hx : (l.headD noT).tx ≠ []) : Good l.tail := h.tail (h.kd hx)
structure Hd (t : Tk) : Prop where
 ps0 : 0 ≤ t.ps
 ps1 : t.ps ≤ 16384
 kd0 : 0 ≤ t.kd
 kd1 : t.kd ≤ 5
 nn0 : 0 ≤ t.nn
 nn1 : t.nn ≤ 2147483647
 ff0 : 0 ≤ t.ff
 ff1 : t.ff < 9223372036854775808
 len : t.tx.length ≤ 16384
theorem Good.hd {l : List Tk} (h : Good l) : Hd (l.headD noT) := by
 cases l with
 | nil => exact h.elim
 | cons t r =>
  rcases h with ⟨-, h⟩ | ⟨h, -⟩
  ·exact ⟨h.ps0, h.ps1, by simp [h.kd], by simp [h.kd], by simp [h.nn], by simp [h.nn], by simp [h.ff], by simp [h.ff], by simp [h.tx]⟩
  ·exact ⟨h.ps0, h.ps1, by have := h.kd; simp only [List.headD_cons]; omega, by have := h.kd; simp only [List.headD_cons]; omega, h.nn0, h.nn1, h.ff0, h.ff1, h.len⟩
def Lf {α : Type} (n m : Nat) (r : Rs α) : Prop := ∀ a s, r = .ok a s → Good s.ts ∧ s.ts.length ≤ n ∧ m ≤ s.ns
theorem lf_no {α : Type} {n m : Nat} {e p : Int} : Lf n m (.no e p : Rs α) := fun _ _ h => by cases h
theorem lf_bad {α : Type} {n m : Nat} {s : PS} : Lf n m (bad s : Rs α) := fun _ _ h => by cases h
theorem lf_ok {α : Type} {n m : Nat} {a : α} {s : PS} (h : Good s.ts) (hn : s.ts.length ≤ n) (hm : m ≤ s.ns) : Lf n m (.ok a s) := fun _ _ e => by cases e; exact ⟨h, hn, hm⟩
theorem Lf.mono {α : Type} {n m n' m' : Nat} {r : Rs α} (h : Lf n m r) (hn : n ≤ n') (hm : m' ≤ m) : Lf n' m' r := fun a s e => ⟨(h a s e).1, Nat.le_trans (h a s e).2.1 hn, Nat.le_trans hm (h a s e).2.2⟩
theorem Lf.bind {α β : Type} {n m n' m' : Nat} {r : Rs α} {f : α → PS → Rs β} (h : Lf n m r) (hf : ∀ a s, Good s.ts → s.ts.length ≤ n → m ≤ s.ns → Lf n' m' (f a s)) : Lf n' m' (r.bind f) := by
 cases r with
 | no e p => exact lf_no
 | ok a s => exact hf a s (h a s rfl).1 (h a s rfl).2.1 (h a s rfl).2.2
theorem tk_len {s : PS} (h : Good s.ts) : s.tk.ts.length + 1 = s.ts.length := by
 have := h.pos
 simp only [PS.tk, List.length_tail]
 omega
theorem lf_exp {x : List UInt8} {s : PS} (h : Good s.ts) (hx : x ≠ []) : Lf (s.ts.length - 1) s.ns (expT x s) := by
 unfold expT
 split
 ·rename_i e
  have := tk_len h
  exact lf_ok (h.tail' (by rw [← PS.hd, e]; exact hx)) (by omega) (Nat.le_refl _)
 ·exact lf_bad
theorem lf_kind {k : Int} {s : PS} (h : Good s.ts) (hk : k ≠ 0) : Lf (s.ts.length - 1) s.ns (kindT k s) := by
 unfold kindT
 split
 ·rename_i e
  have := tk_len h
  exact lf_ok (h.tail (by rw [← PS.hd, e]; exact hk)) (by omega) (Nat.le_refl _)
 ·exact lf_bad
theorem lf_whole {e : Ex} {s : PS} {n m : Nat} (h : Good s.ts) (hn : s.ts.length ≤ n) (hm : m ≤ s.ns) : Lf n m (whole e s) := by
 unfold whole
 split
 ·exact lf_no
 ·exact lf_ok h hn hm
theorem sgO_ne {n : Nat} {x : List UInt8} (h : sgO n x ≠ 0) : x ≠ [] := by
 rintro rfl
 exact h (by unfold sgO; (repeat' split) <;> first | rfl | (rename_i e; exact nomatch e))
def Rdx (p : PS → Rs Ex) : Prop := ∀ s : PS, Good s.ts → Lf (s.ts.length - 1) s.ns (p s)
theorem tk_ns (s : PS) : s.tk.ns = s.ns := rfl
theorem lf_bin {n : Nat} {p : PS → Rs Ex} (hp : Rdx p) {e : Ex} {s : PS} (h : Good s.ts) (hs : sgO n s.hd.tx ≠ 0) : Lf (s.ts.length - 1) s.ns (binr n p e s) := by
 have g : Good s.tk.ts := h.tail' (sgO_ne hs)
 have := tk_len h
 exact (hp _ g).bind fun b s' g' hl hm => lf_whole g' (by omega) hm
theorem lf_chain {n : Nat} {p : PS → Rs Ex} (hp : Rdx p) : ∀ (f : Nat) (e : Ex) (s : PS), Good s.ts → Lf s.ts.length s.ns (chain n p f e s) := by
 intro f
 induction f with
 | zero => exact fun _ _ _ => lf_no
 | succ f ih =>
  intro e s h
  rw [chain]
  split
  ·exact lf_ok h (Nat.le_refl _) (Nat.le_refl _)
  ·rename_i hs
   exact (lf_bin hp h hs).bind fun e' s' g' hl hm => (ih e' s' g').mono (by omega) hm
theorem rdx_lvl {u : PS → Rs Ex} (hu : Rdx u) : ∀ m, Rdx (lvl u m) := by
 intro m
 induction m with
 | zero => exact hu
 | succ m ih =>
  intro s h
  rw [lvl]
  refine (ih s h).bind fun e s' g hl hm => ?_
  split
  ·split
   ·exact lf_ok g hl hm
   ·rename_i hs
    exact (lf_bin ih g hs).mono (by omega) hm
  ·exact (lf_chain ih _ _ _ g).mono hl hm
def RdO (d : Option (PS → Rs Ex)) : Prop := ∀ u, d = some u → Rdx u
theorem lf_within {d : Option (PS → Rs Ex)} (hd : RdO d) {o c : List UInt8} (ho : o ≠ []) (hc : c ≠ []) {s : PS} (h : Good s.ts) : Lf (s.ts.length - 1) s.ns (within d o c s) := by
 unfold within
 split
 ·rename_i e
  have g : Good s.tk.ts := h.tail' (by rw [← PS.hd, e]; exact ho)
  have := tk_len h
  cases d with
  | none => exact lf_no
  | some u => exact ((rdx_lvl (hd u rfl) 5) _ g).bind fun e s' g' hl hm => (lf_exp g' hc).bind fun _ s'' g'' hl' hm' => lf_ok g'' (by omega) (Nat.le_trans hm hm')
 ·exact lf_bad
theorem lf_index {d : Option (PS → Rs Ex)} (hd : RdO d) {s : PS} (h : Good s.ts) : Lf s.ts.length s.ns (index d s) := by
 unfold index
 split
 ·exact (lf_within hd (by simp) (by simp) h).bind fun e s' g hl hm => lf_ok g (by omega) hm
 ·exact lf_ok h (Nat.le_refl _) (Nat.le_refl _)
theorem atT_ne {s : PS} (h : Good s.ts) (ha : atT s.hd ≠ 0) : s.hd.kd ≠ 0 := by
 intro e
 have ht : s.hd.tx = [] := by
  apply Classical.byContradiction
  exact fun hx => h.kd hx e
 exact ha (by simp [atT, e, ht])
theorem rd_atom {d : Option (PS → Rs Ex)} (hd : RdO d) : Rdx (atom d) := by
 intro s h
 unfold atom
 split
 ·exact lf_within hd (by simp) (by simp) h
 ·split
  ·exact lf_bad
  ·rename_i h0
   have g : Good s.tk.ts := h.tail (atT_ne h h0)
   have := tk_len h
   split
   ·exact lf_whole g (by omega) (Nat.le_refl _)
   ·split
    ·exact lf_whole g (by omega) (Nat.le_refl _)
    ·split
     ·exact lf_whole g (by omega) (Nat.le_refl _)
     ·split
      ·exact (lf_index hd g).bind fun l s' g' hl hm => lf_whole g' (by omega) hm
      ·exact (lf_within hd (by simp) (by simp) g).bind fun e s' g' hl hm => lf_whole g' (by omega) hm
theorem unT_ne {x : List UInt8} (h : unT x ≠ 0) : x ≠ [] := by
 rintro rfl
 exact h (by simp [unT])
theorem rd_un {d : Option (PS → Rs Ex)} (hd : RdO d) : Rdx (un d) := by
 intro s h
 unfold un
 split
 ·exact rd_atom hd s h
 ·rename_i h0
  have g : Good s.tk.ts := h.tail' (unT_ne h0)
  have := tk_len h
  cases d with
  | none => exact lf_no
  | some u => exact (hd u rfl _ g).bind fun e s' g' hl hm => lf_whole g' (by omega) hm
theorem rd_unK (k : Nat) : Rdx (unK k) := by
 induction k with
 | zero => exact rd_un fun u h => by cases h
 | succ k ih => exact rd_un fun u h => by cases h; exact ih
theorem rd_dK (k : Nat) : RdO (dK k) := by
 intro u h
 cases k with
 | zero => cases h
 | succ k => cases h; exact rd_unK k
theorem rd_exK (k : Nat) : Rdx (exK k) := rdx_lvl (rd_unK k) 5
theorem lf_int {b : Bool} {s : PS} (h : Good s.ts) : Lf (s.ts.length - 1) s.ns (intT b s) :=
 (lf_kind h (by decide)).bind fun _ _ g hl hm => lf_ok g hl hm
theorem lf_whl {s : PS} (h : Good s.ts) : Lf (s.ts.length - 1) s.ns (whl s) := by
 unfold whl minus
 split
 ·rename_i e
  have g : Good s.tk.ts := h.tail' (by rw [← PS.hd, e]; simp)
  have := tk_len h
  exact (lf_int g).mono (by omega) (Nat.le_refl _)
 ·exact lf_int h
def Rdy (p : PS → Rs St) : Prop := ∀ s : PS, Good s.ts → Lf (s.ts.length - 1) (s.ns + 1) (p s)
def RdS (d : Option (PS → Rs St)) : Prop := ∀ p, d = some p → Rdy p
theorem lf_many {p : PS → Rs St} (hp : Rdy p) : ∀ (f : Nat) (l : List St) (s : PS), Good s.ts → Lf (s.ts.length - 1) s.ns (many p f l s) := by
 intro f
 induction f with
 | zero => exact fun _ _ _ => lf_no
 | succ f ih =>
  intro l s h
  rw [many]
  split
  ·rename_i e
   have := tk_len h
   exact lf_ok (h.tail' (by rw [← PS.hd, e]; simp)) (by omega) (Nat.le_refl _)
  ·exact (hp s h).bind fun x s' g hl hm => (ih (l ++ [x]) s' g).mono (by omega) (by omega)
theorem lf_blk {d : Option (PS → Rs St)} (hd : RdS d) {s : PS} (h : Good s.ts) : Lf (s.ts.length - 1) s.ns (blk d s) := by
 unfold blk
 split
 ·rename_i e
  have g : Good s.tk.ts := h.tail' (by rw [← PS.hd, e]; simp)
  have := tk_len h
  cases d with
  | none => exact lf_no
  | some p => exact (lf_many (hd p rfl) _ [] _ g).mono (by omega) (Nat.le_refl _)
 ·exact lf_bad
theorem lf_els {d : Option (PS → Rs St)} (hd : RdS d) {s : PS} (h : Good s.ts) : Lf (s.ts.length - 1) s.ns (elsS d s) := by
 unfold elsS
 split
 ·cases d with
  | none => exact lf_no
  | some p => exact (hd p rfl s h).bind fun x s' g hl hm => lf_ok g hl (by omega)
 ·exact lf_blk hd h
theorem rd_stm (k : Nat) {d : Option (PS → Rs St)} (hd : RdS d) : Rdy (stm k d) := by
 intro s h
 unfold stm
 split
 ·exact lf_bad
 ·split
  ·exact lf_no
  ·rename_i h1 h2
   have hk : s.hd.kd ≠ 0 := by
    by_cases c : s.hd.kd = 1
    ·omega
    ·refine h.kd ?_
     intro e
     apply h1
     have e : s.hd.tx = [] := e
     refine ⟨c, ?_, ?_⟩ <;> rw [e] <;> decide
   have g : Good s.tk.ts := h.tail hk
   have hl := tk_len h
   have g1 : Good (⟨s.ts.tail, s.ns + 1, s.nx⟩ : PS).ts := g
   have l1 : (⟨s.ts.tail, s.ns + 1, s.nx⟩ : PS).ts.length + 1 = s.ts.length := hl
   dsimp only
   generalize hs1 : (⟨s.ts.tail, s.ns + 1, s.nx⟩ : PS) = s1 at *
   have n1 : s.ns + 1 ≤ s1.ns := by rw [← hs1]; exact Nat.le_refl _
   split
   ·refine (rd_exK k s1 g1).bind fun e s2 g2 l2 m2 => (lf_blk hd g2).bind fun t s3 g3 l3 m3 => ?_
    split
    ·rename_i e4
     have g4 : Good s3.tk.ts := g3.tail' (by rw [← PS.hd, e4]; decide)
     have l4 := tk_len g3
     exact (lf_els hd g4).bind fun l s5 g5 l5 m5 => lf_ok g5 (by omega) (by have := tk_ns s3; omega)
    ·exact lf_ok g3 (by omega) (by omega)
   ·split
    ·exact (lf_kind g1 (by decide)).bind fun n s2 g2 l2 m2 => (lf_exp g2 (by simp)).bind fun _ s3 g3 l3 m3 => (lf_whl g3).bind fun lo s4 g4 l4 m4 => (lf_exp g4 (by simp)).bind fun _ s5 g5 l5 m5 => (lf_whl g5).bind fun hi s6 g6 l6 m6 => (lf_blk hd g6).bind fun t s7 g7 l7 m7 => lf_ok g7 (by omega) (by omega)
    ·exact (lf_index (rd_dK k) g1).bind fun l s2 g2 l2 m2 => (lf_exp g2 (by simp)).bind fun _ s3 g3 l3 m3 => (rd_exK k s3 g3).bind fun e s4 g4 l4 m4 => (lf_exp g4 (by simp)).bind fun _ s5 g5 l5 m5 => lf_ok g5 (by omega) (by omega)
theorem rd_stK (k : Nat) : Rdy (stK k) := by
 induction k with
 | zero => exact rd_stm 0 fun u h => by cases h
 | succ k ih => exact rd_stm (k + 1) fun u h => by cases h; exact ih
end Go.Proofs.YthmlhkllbichgaaGreatDoor
