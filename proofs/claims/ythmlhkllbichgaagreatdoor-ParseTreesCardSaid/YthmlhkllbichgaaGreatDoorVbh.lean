/-
  ParseTrees holds, tied to the program's text. (part 34 of 35) Conditions: none beside what the card ties.
-/
import Derived.Test.YthmlhkllbichgaaGreatDoorVbe
import Derived.Test.YthmlhkllbichgaaGreatDoorVbg
import Derived.Test.YthmlhkllbichgaaGreatDoorVah
import Derived.Test.YthmlhkllbichgaaGreatDoorVaj
import Derived.ProofKit
import Derived.OpenShut
import Derived.ChangeOld
import Derived.LaidMore
import Derived.Stop.Joined
import Derived.Lib.SmallJoins
import Derived.Test.YthmlhkllbichgaaGreatDoorVag
import Derived.Deep.Slices
import Derived.Deep.Fields
import Derived.ChangeSame
import Derived.Test.YthmlhkllbichgaaGreatDoorVab
import Derived.Lay
import Derived.HandedShaped
import Derived.LaidLaws
import Derived.Shelf.Vars
import Derived.Test.YthmlhkllbichgaaGreatDoorVao
import Derived.Test.YthmlhkllbichgaaGreatDoorVbf
namespace Go.Proofs.YthmlhkllbichgaaGreatDoor
open Go.RowKit
set_option maxRecDepth 100000
theorem cnt_wt (e : Ex) : e.cnt ≤ e.wt := by
 induction e using Ex.ind with
 | H e ih =>
  rw [Ex.cnt_eq, Ex.wt_eq]
  have := sm_mono ih
  omega
theorem wt_two {e : Ex} (h : e.h.s.n = 2) : e.wt = 1 + e.h.nm.length + (e.k 0).wt + (e.k 1).wt := by
 rw [Ex.wt_eq, h]; simp only [sm]; omega
theorem wt_one {e : Ex} (h : e.h.s.n = 1) : e.wt = 1 + e.h.nm.length + (e.k 0).wt := by
 rw [Ex.wt_eq, h]; simp only [sm]; omega
theorem txt_bd (e : Ex) : e.pl → (e.txt prT).length ≤ 27 * e.wt + 3 := by
 induction e using Ex.ind with
 | H e ih =>
  intro hp
  have hw : 1 + e.h.nm.length ≤ e.wt := by rw [Ex.wt_eq]; omega
  rw [Ex.txt_eq]
  unfold headT
  cases hp.hd with
  | bin h0 h1 hn =>
   have i0 := ih 0 (by omega) (hp.ki (by omega))
   have i1 := ih 1 (by omega) (hp.ki (by omega))
   have b0 := brk_len (e.k 0).bin ((e.k 0).txt prT)
   have b1 := brk_len (e.k 1).bin ((e.k 1).txt prT)
   have s0 := sign_len e.h.op
   have w2 := wt_two hn
   rw [if_neg (by omega), if_neg (by omega), if_neg (by omega), if_neg (by omega), if_neg (by omega), if_neg (by omega), if_neg (by omega), if_neg (by omega), if_neg (by omega), if_pos (by unfold opBin; exact decide_eq_true ⟨h0, h1⟩), if_pos (by omega), if_pos (by omega)]
   simp only [List.length_append, List.length_cons, List.length_nil]
   omega
  | neg h0 hn =>
   have i0 := ih 0 (by omega) (hp.ki (by omega))
   have b0 := brk_len (e.k 0).bin ((e.k 0).txt prT)
   have w1 := wt_one hn
   rw [if_neg (by omega), if_neg (by omega), if_neg (by omega), if_neg (by omega), if_neg (by omega), if_neg (by omega), if_neg (by omega)]
   simp only [if_pos (show 0 < e.h.s.n by omega)]
   split
   ·simp only [List.length_cons]; omega
   ·rw [if_pos (by omega)]; simp only [List.length_cons]; omega
  | fn h0 hn =>
   have i0 := ih 0 (by omega) (hp.ki (by omega))
   have w1 := wt_one hn
   rw [if_neg (by omega), if_neg (by omega), if_neg (by omega), if_neg (by omega)]
   simp only [if_pos (show 0 < e.h.s.n by omega)]
   split
   ·simp only [List.length_append, List.length_cons, List.length_nil]; omega
   ·split
    ·simp only [List.length_append, List.length_cons, List.length_nil]; omega
    ·rw [if_pos (by omega)]; simp only [List.length_append, List.length_cons, List.length_nil]; omega
  | nam h0 hn hm =>
   rw [if_neg (by omega), if_neg (by omega), if_neg (by omega), if_pos h0]
   unfold nameT
   by_cases c : 0 < e.h.s.n
   ·have i0 := ih 0 c (hp.ki c)
    have w1 := wt_one (show e.h.s.n = 1 by omega)
    simp only [if_pos c, List.length_append, List.length_cons, List.length_nil]
    omega
   ·simp only [if_neg c, List.length_append, List.length_nil]
    omega
  | int h0 hn h1 h2 =>
   rw [if_neg (by omega), if_pos h0]
   have := itoa_len (n := e.h.it) (by omega) (by omega)
   omega
  | flt h0 hn h1 h2 =>
   rw [if_neg (by omega), if_neg (by omega), if_pos h0]
   have := prT_len (f := e.h.fl) ⟨h1, by omega⟩
   omega
  | boo h0 hn =>
   rw [if_pos h0]
   split
   ·show 4 ≤ _; omega
   ·show 5 ≤ _; omega
set_option maxHeartbeats 6400000 in
theorem ltrees_walk (e : Ex) (w : World) (hI : e.In w.heap.size w) (hE : Env9 w) (hS : SgOk w) : Calls Tryz.prog 6 #[e.h.v] w fun r w' => r = .returned (.bool true) ∧ Below w.heap.size w w' := by
 have G0 : Hid ((bx w (xO e.h)).heap[w.heap.size]? = some (xO e.h)) := bx_new _ _
 have hb : Below w.heap.size w (bx w (xO e.h)) := bx_bel (Below.refl _ _) (Nat.le_refl _) _
 have HI := Hj (hI.below hb (Nat.le_refl _))
 have HZ : Hid (w.heap.size ≤ (bx w (xO e.h)).heap.size) := hb.size
 have BW := Hj hb
 have HE := Hj (hE.below hb)
 have HS := Hj (hS.below hb)
 clear hI hb hE hS
 show Calls Tryz.prog 6 #[.agg #[.int .u8 e.h.op, .int .i64 e.h.ps, .bool e.h.bo, .int .i32 e.h.it, .int .u64 e.h.fl, .string ⟨e.h.nm.toArray⟩, .slice e.h.s.ao e.h.s.n e.h.s.c]] w _
 go_enter Tryz.func6, Tryz.ntmps6
 go_upto_region 1 with fail
 rw [bx_x]
 change (Code.region 1 _ _).wp _ _ _ (bx w (xO e.h))
 generalize bx w (xO e.h) = W at *
 go_wp2_with fail
 refine (works11_any W HE.out HS.out).mono ?_
 rintro r w1 ⟨rfl, b1⟩
 have B1 := Hj b1
 obtain ⟨x0, x1, x2, x3, x4, x5, x6⟩ := x_cells (kept_obj b1 G0.out)
 clear b1
 go_wp2_with fail
 refine (gWgX_any w.heap.size e 600 w1 (HI.out.below B1.out HZ.out) (Nat.le_trans HZ.out B1.out.size) (by decide)).mono ?_
 rintro r w2 ⟨⟨x, rfl, hx⟩, b2⟩
 have B2 := Hj (bel_trans B1.out b2)
 clear b2 B1 x0 x1 x2 x3 x4 x5 x6
 obtain ⟨x0, x1, x2, x3, x4, x5, x6⟩ := x_cells (kept_obj B2.out G0.out)
 by_cases cw : (600 : Int) < (x : Int)
 ·clear hx
  go_wp2_with fail
  go_ret
  exact ⟨rfl, bel_trans BW.out B2.out⟩
 ·have HW : Hid (e.wt ≤ 600) := by
   show e.wt ≤ 600
   obtain ⟨h1, h2, h3⟩ := hx
   refine Classical.byContradiction fun hc => ?_
   have := h3 (by omega)
   omega
  clear hx
  go_wp2_with fail
  refine (plain_any w.heap.size e (by have := HW.out; omega) w2 (HI.out.below B2.out HZ.out) (Nat.le_trans HZ.out B2.out.size) (HE.out.below B2.out)).mono ?_
  rintro r w3 ⟨b, rfl, hp, b3⟩
  have B3 := Hj (bel_trans B2.out b3)
  have HP := Hj hp
  clear b3 B2 x0 x1 x2 x3 x4 x5 x6 hp
  obtain ⟨x0, x1, x2, x3, x4, x5, x6⟩ := x_cells (kept_obj B3.out G0.out)
  cases b with
  | false =>
   go_wp2_with fail
   go_ret
   exact ⟨rfl, bel_trans BW.out B3.out⟩
  | true =>
   have PL : Hid e.pl := HP.out rfl
   have TL : Hid ((e.txt prT).length ≤ 16384) := by
    have h1 := txt_bd e PL.out
    have h2 := HW.out
    show _ ≤ _
    omega
   clear HP
   go_wp2_with fail
   refine (tText_any e w.heap.size w3 (HI.out.below B3.out HZ.out) (Nat.le_trans HZ.out B3.out.size) (HE.out.below B3.out).env (HS.out.below B3.out) (by have := TL.out; omega)).mono ?_
   rintro r w4 ⟨rfl, b4⟩
   have B4 := Hj (bel_trans B3.out b4)
   clear b4 B3 x0 x1 x2 x3 x4 x5 x6
   have RB : Hid (_ ∨ _) := rsX_back PL.out (Nat.le_trans (cnt_wt e) (by have := HW.out; omega)) TL.out
   change Hid ((∃ q, rsX (e.txt prT) = .no 111 q) ∨ ∃ e' s', rsX (e.txt prT) = .ok e' s' ∧ e'.same e.bare = true) at RB
   have PE := Hj (ppExpr_top ⟨(e.txt prT).toArray⟩ w4 (HE.out.below B4.out))
   change Hid (Calls _ _ _ _ (PTop w4 (rsX (e.txt prT)) .no (VX w4.heap.size))) at PE
   generalize rsX (e.txt prT) = Z at *
   generalize e.txt prT = T at *
   go_wp2_with fail
   refine PE.out.mono ?_
   rintro r w5 ⟨v, rfl, ⟨a', rfl, xa, ea⟩, b5⟩
   have BLb := bx_bel (Below.refl w5.heap.size w5) (Nat.le_refl _) (xO a'.h)
   have XA := Hj ((xa.bel BLb).out)
   have GA : Hid ((bx w5 (xO a'.h)).heap[w5.heap.size]? = some (xO a'.h)) := bx_new w5 _
   have B5 := Hj (bel_trans B4.out (bel_trans b5 BLb))
   have EA := Hj ea
   clear xa ea b5 BLb PE B4
   unfold EH.v
   go_upto_region 8 with fail
   rw [bx_x]
   change Code.wp _ _ _ _ (bx w5 (xO a'.h))
   generalize w5.heap.size = ga at *
   generalize bx w5 (xO a'.h) = w6 at *
   cases Z with
   | no c q =>
    have hc : c = 111 := by
     rcases RB.out with ⟨q', h⟩ | ⟨e', s', h, -⟩
     ·cases h; rfl
     ·cases h
    subst hc
    dsimp only [Rs.er, Rs.pl]
    go_wp2_with fail
    go_ret
    exact ⟨rfl, bel_trans BW.out B5.out⟩
   | ok a s =>
    have SM : Hid (a'.same e.bare = true) := by
     rcases RB.out with ⟨q', h⟩ | ⟨e', s', h, hs⟩
     ·cases h
     ·cases h; exact Ex.trans (Ex.eqv_same EA.out) hs
    clear RB EA
    dsimp only [Rs.er, Rs.pl]
    have KE := Hj fun w' (hb : Below w6.heap.size w6 w') => x_cells (kept_obj (bel_trans B5.out hb) G0.out)
    have KA := Hj fun w' (hb : Below w6.heap.size w6 w') => x_cells (kept_obj hb GA.out)
    obtain ⟨x0, x1, x2, x3, x4, x5, x6⟩ := KE.out _ (bel_drew (Below.refl _ _))
    obtain ⟨y0, y1, y2, y3, y4, y5, y6⟩ := KA.out _ (bel_drew (Below.refl _ _))
    go_upto_region 10 with fail
    have CB := Hj fun w' (hb : Below w6.heap.size w6 w') => bare_any w.heap.size e (by have := HW.out; omega) w' (HI.out.below (bel_trans B5.out hb) HZ.out) (Nat.le_trans HZ.out (Nat.le_trans B5.out.size hb.size))
    have CS := Hj fun (e' : Ex) w' (hb : Below w6.heap.size w6 w') (he : e'.In w'.heap.size w') (hs : e'.same e.bare = true) => (show Calls Tryz.prog 22 #[a'.h.v, e'.h.v] w' (fun r w'' => r = .returned (.bool true) ∧ Below w'.heap.size w' w'') from by
     have h := tSameX_any w'.heap.size a' e' w' (Ex.In.mono (fun _ _ => rfl) hb.size (XA.out.below hb (Nat.le_refl _))) he (Nat.le_refl _)
     rw [Ex.trans SM.out (Ex.symm hs)] at h
     exact h)
    clear HI HE HS XA SM PL TL HW
    go_region_law (first
     | (go_simp; go_at_call 23; refine (CB.out _ ?_).mono ?_; (· repeat (first | exact Below.refl _ _ | refine bel_drew ?_)); rintro y w8 ⟨e', rfl, xe, se, b8⟩; have X1 : Below w6.heap.size w6 w8 := (by refine bel_trans ?_ b8; repeat (first | exact Below.refl _ _ | refine bel_drew ?_)); have XE := xe.out; clear xe b8; obtain ⟨z0, z1, z2, z3, z4, z5, z6⟩ := KA.out _ X1; unfold EH.v)
     | (go_simp; go_at_call 22; refine (CS.out e' _ X1 XE se).mono ?_; rintro y w9 ⟨rfl, b9⟩))
    all_goals
     have B9 := Hj (bel_trans BW.out (bel_trans B5.out (bel_trans X1 b9)))
     clear X1 XE se b9 CB CS KE KA
     go_wp2_with fail
     go_ret
     exact ⟨rfl, B9.out⟩
theorem ltrees_card (e : Ex) (w : World) (hI : e.In w.heap.size w) (hE : Env9 w ∧ SgOk w) : Calls Tryz.prog 6 #[e.h.v] w fun r w' => r = .returned (.bool true) ∧ Below w.heap.size w w' := ltrees_walk e w hI hE.1 hE.2
end Go.Proofs.YthmlhkllbichgaaGreatDoor
namespace Go.Proofs.YthmlhkllbichgaaGreatDoor
open Go.ChangeShapes Go.WideShapes Go.ChangeAt Go.RowKit Go.Joins
set_option maxRecDepth 100000
theorem own : ownKnob Tryz.prog.godebug = none := by kernel_rfl
theorem laidOut : laidOutB Tryz.prog = true := by kernel_rfl
theorem word_of_wf {x : Int} (h : (Lit.int .u64 x).wf = true) : Word x := by
 simp [Lit.wf, IntKind.min, IntKind.max, IntKind.signed, IntKind.bits] at h
 exact ⟨by omega, by omega⟩
theorem i64_of_wf {x : Int} (h : (Lit.int .i64 x).wf = true) : -9223372036854775808 ≤ x ∧ x ≤ 9223372036854775807 := by
 simp [Lit.wf, IntKind.min, IntKind.max, IntKind.signed, IntKind.bits] at h
 exact ⟨by omega, by omega⟩
section
variable {H : Type} {enc : TypeId × Value → H} {w : World} {base : Nat} {spare : Nat → Bool} {held : Bool} {r : Reach} {bb : Nat} {v : Value} {d : DataW H} {p : List MemPlace}
end
theorem gTab : Tryz.prog.globalNamed "math/bits.deBruijn32tab" = some 10 := by kernel_rfl
theorem tTab : (Tryz.prog.globals[10]?).map (·.type) = some 313 := by kernel_rfl
theorem tab_at (l : List (DataW Unit)) (hl : Rows.laid_math_bits_deBruijn32tab = DataW.agg l) (j : Nat) (hj : j < 32) : l[j]? = some (.lit (.int .u8 ((Lib.deBruijn32tab.getD j 0 : Nat) : Int))) := by
 unfold Rows.laid_math_bits_deBruijn32tab at hl
 injection hl with hl
 subst hl
 match j, hj with
 | 0, _ => rfl
 | 1, _ => rfl
 | 2, _ => rfl
 | 3, _ => rfl
 | 4, _ => rfl
 | 5, _ => rfl
 | 6, _ => rfl
 | 7, _ => rfl
 | 8, _ => rfl
 | 9, _ => rfl
 | 10, _ => rfl
 | 11, _ => rfl
 | 12, _ => rfl
 | 13, _ => rfl
 | 14, _ => rfl
 | 15, _ => rfl
 | 16, _ => rfl
 | 17, _ => rfl
 | 18, _ => rfl
 | 19, _ => rfl
 | 20, _ => rfl
 | 21, _ => rfl
 | 22, _ => rfl
 | 23, _ => rfl
 | 24, _ => rfl
 | 25, _ => rfl
 | 26, _ => rfl
 | 27, _ => rfl
 | 28, _ => rfl
 | 29, _ => rfl
 | 30, _ => rfl
 | 31, _ => rfl
 | n + 32, h => omega
end Go.Proofs.YthmlhkllbichgaaGreatDoor
namespace Go.Proofs.YthmlhkllbichgaaGreatDoor
open Go.ChangeShapes Go.WideShapes Go.ChangeAt Go.RowKit Go.Joins Go.Deep
set_option maxRecDepth 100000
section
variable {H : Type} {enc : TypeId × Value → H} {w : World} {base : Nat} {spare : Nat → Bool} {held : Bool} {r : Reach} {bb : Nat} {v : Value} {d : DataW H} {p : List MemPlace}
end
end Go.Proofs.YthmlhkllbichgaaGreatDoor
namespace Go.Proofs.YthmlhkllbichgaaGreatDoor
open Go.ChangeShapes Go.WideShapes Go.ChangeAt Go.RowKit Go.Joins
set_option maxRecDepth 100000
instance : Inhabited Ex := ⟨.no⟩
instance : Inhabited St := ⟨.no⟩
instance : Inhabited De := ⟨⟨0, false, [], 0, 0, false, .no, .no⟩⟩
theorem u8_of_wf {x : Int} (h : (Lit.int .u8 x).wf = true) : 0 ≤ x ∧ x ≤ 255 := by
 simp [Lit.wf, IntKind.min, IntKind.max, IntKind.signed, IntKind.bits] at h
 omega
theorem i32_of_wf {x : Int} (h : (Lit.int .i32 x).wf = true) : -2147483648 ≤ x ∧ x ≤ 2147483647 := by
 simp [Lit.wf, IntKind.min, IntKind.max, IntKind.signed, IntKind.bits] at h
 omega
section
variable {H : Type} {enc : TypeId × Value → H} {w : World} {base : Nat} {spare : Nat → Bool} {held : Bool}
theorem open_list {α : Type} [Inhabited α] {ts te : TypeId} {sz : Nat} (hsz : 0 < sz) (ht : Tryz.prog.underlying ts = some (.slice te)) (hc : Tryz.prog.cellsOf te = sz) (vs : α → List Value) (P : α → Prop) {fuel : Nat} {cs : List Value} {x : DataW H × List MemPlace}
  (ih : ∀ n, n < fuel → ∀ cs x, DataW.trod enc Tryz.prog w base spare held n te cs = some x → ∃ a : α, cs = vs a ∧ P a) (h : DataW.trod enc Tryz.prog w base spare held fuel ts cs = some x) :
  ∃ (s : Sl) (k : Nat → α), cs = [.slice s.ao s.n s.c] ∧ s.ok ∧ Rw w w.heap.size s sz (fun i => vs (k i)) ∧ ∀ i, i < s.n → P (k i) := by
 rcases DataW.trod_slice ht h with ⟨rfl, -⟩ | ⟨a, len, cap, elems, rest, n, hn, rfl, -, hb, hl, hm, hlen, hel, -⟩
 ·exact ⟨⟨none, 0, 0⟩, fun _ => default, rfl, ⟨Nat.le_refl _, Nat.zero_le _, fun _ => rfl⟩, fun a (ha : none = some a) => (by cases ha), fun i hi => absurd hi (Nat.not_lt_zero i)⟩
 ·have key : ∀ i, i < len → ∃ e : α, (∃ cs', w.cells? base (a.add (i * sz)) sz = some cs' ∧ cs' = vs e) ∧ P e := fun i hi => by
   have h1 := hel i hi
   rw [hc, List.getElem?_eq_getElem (by omega)] at h1
   obtain ⟨cs', h2, h3⟩ := Option.bind_eq_some_iff.1 h1
   obtain ⟨e, h4, h5⟩ := ih n (by omega) cs' _ h3
   exact ⟨e, ⟨cs', h2, h4⟩, h5⟩
  obtain ⟨f, hf⟩ := Go.Deep.choose_lt key
  refine ⟨⟨some a, len, cap⟩, f, rfl, ⟨hl, hm, fun h => by cases h⟩, fun b hb' i hi => ?_, fun i hi => (hf i hi).2⟩
  obtain rfl := Option.some.inj hb'
  obtain ⟨cs', h1, h2⟩ := (hf i hi).1
  have hblk := World.cells?_block h1 hsz
  refine ⟨by rw [add_block] at hblk; exact hblk, fun j v hv => ?_⟩
  have h3 := World.cells?_some h1
  rw [← Go.Deep.add_add]
  have hj : j < sz := by
   rw [← h3.2.1, h2]
   exact (List.getElem?_eq_some_iff.1 hv).1
  rw [h3.2.2 j hj, h2]
  exact hv
theorem field_of {t : TypeId} {fs : Array Field} {n : Nat} {cs : List Value} {xs : List (DataW H × List MemPlace)} (hl : xs.length = fs.size) (h : ∀ (i : Nat) (f : Field), fs[i]? = some f → DataW.trod enc Tryz.prog w base spare held n f.type ((cs.drop f.offset).take (Tryz.prog.cellsOf f.type)) = xs[i]?)
  (i : Nat) (f : Field) (hf : fs[i]? = some f) (hc : Tryz.prog.cellsOf f.type = t) : ∃ y, DataW.trod enc Tryz.prog w base spare held n f.type ((cs.drop f.offset).take t) = some y := by
 have h1 := h i f hf
 rw [hc] at h1
 have hi : i < xs.length := by rw [hl]; exact (Array.getElem?_eq_some_iff.1 hf).1
 rw [List.getElem?_eq_getElem hi] at h1
 exact ⟨_, h1⟩
theorem open_x : ∀ (fuel : Nat) (cs : List Value) (x : DataW H × List MemPlace), DataW.trod enc Tryz.prog w base spare held fuel 41 cs = some x → ∃ e : Ex, cs = e.h.vs ∧ e.In w.heap.size w := by
 intro fuel
 induction fuel using Nat.strongRecOn with
 | ind fuel ih =>
  intro cs x h
  obtain ⟨xs, n, rfl, -, hl, hxl, hf⟩ := DataW.trod_struct Tryz.underlying41 h
  rw [show Tryz.prog.cellsOf 41 = 7 by kernel_rfl] at hl
  obtain ⟨c0, c1, c2, c3, c4, c5, c6, rfl⟩ : ∃ c0 c1 c2 c3 c4 c5 c6, cs = [c0, c1, c2, c3, c4, c5, c6] := by
   match cs, hl with
   | [c0, c1, c2, c3, c4, c5, c6], _ => exact ⟨_, _, _, _, _, _, _, rfl⟩
  obtain ⟨y0, f0⟩ := field_of hxl hf 0 _ rfl (t := 1) (by kernel_rfl)
  obtain ⟨y1, f1⟩ := field_of hxl hf 1 _ rfl (t := 1) (by kernel_rfl)
  obtain ⟨y2, f2⟩ := field_of hxl hf 2 _ rfl (t := 1) (by kernel_rfl)
  obtain ⟨y3, f3⟩ := field_of hxl hf 3 _ rfl (t := 1) (by kernel_rfl)
  obtain ⟨y4, f4⟩ := field_of hxl hf 4 _ rfl (t := 1) (by kernel_rfl)
  obtain ⟨y5, f5⟩ := field_of hxl hf 5 _ rfl (t := 1) (by kernel_rfl)
  obtain ⟨y6, f6⟩ := field_of hxl hf 6 _ rfl (t := 1) (by kernel_rfl)
  obtain ⟨op, e0, -, w0⟩ := DataW.trod_int Tryz.underlying36 f0
  obtain ⟨ps, e1, -, w1⟩ := DataW.trod_int Tryz.underlying3 f1
  obtain ⟨bo, e2, -⟩ := DataW.trod_bool Tryz.underlying4 f2
  obtain ⟨it, e3, -, w3⟩ := DataW.trod_int Tryz.underlying21 f3
  obtain ⟨fl, e4, -, w4⟩ := DataW.trod_int Tryz.underlying38 f4
  obtain ⟨nm, e5, -, w5⟩ := DataW.trod_string Tryz.underlying9 f5
  obtain ⟨s, k, e6, hs, hr, hk⟩ := open_list (sz := 7) (by decide) Tryz.underlying39 (by kernel_rfl) (fun e : Ex => e.h.vs) (fun e => e.In w.heap.size w) (fun m hm cs x h => ih m (by omega) cs x h) f6
  obtain rfl : c0 = _ := List.head_eq_of_cons_eq e0
  obtain rfl : c1 = _ := List.head_eq_of_cons_eq e1
  obtain rfl : c2 = _ := List.head_eq_of_cons_eq e2
  obtain rfl : c3 = _ := List.head_eq_of_cons_eq e3
  obtain rfl : c4 = _ := List.head_eq_of_cons_eq e4
  obtain rfl : c5 = _ := List.head_eq_of_cons_eq e5
  obtain rfl : c6 = _ := List.head_eq_of_cons_eq e6
  exact ⟨.mk ⟨op, ps, bo, it, fl, nm.data.toList, s⟩ k, rfl, ⟨(u8_of_wf w0).1, (u8_of_wf w0).2, (i64_of_wf w1).1, (i64_of_wf w1).2, (i32_of_wf w3).1, (i32_of_wf w3).2, word_of_wf w4, by rw [← Lib.size_eq]; exact w5, hs⟩, hr, hk⟩
end
abbrev theLaid8 : List (String × DataW Unit) := [("math/bits.deBruijn32tab", Rows.laid_math_bits_deBruijn32tab), ("math/bits.deBruijn64tab", Rows.laid_math_bits_deBruijn64tab), ("internal/strconv.uint64pow10", Rows.laid_internal_strconv_uint64pow10), ("unicode/utf8.acceptRanges", Rows.laid_unicode_utf8_acceptRanges), ("strconv.ErrRange", Rows.laid_strconv_ErrRange), ("strconv.ErrSyntax", Rows.laid_strconv_ErrSyntax), ("unicode.White_Space", Rows.laid_unicode_White_Space), ("strings.asciiSpace", Rows.laid_strings_asciiSpace), ("flyball/tree.signs", Rows.laid_flyball_tree_signs), ("unicode/utf8.first", Rows.laid_unicode_utf8_first)]
theorem pow10_type : (Tryz.prog.globals[8]?).map (·.type) = some 289 := by kernel_rfl
theorem pow10_laid : (Rows.laid_internal_strconv_uint64pow10 : DataW Unit) = Lib.tabData .u64 Lib.pow10Tab := by kernel_rfl
theorem sign_at (xs : List (DataW Unit)) (h : (Rows.laid_flyball_tree_signs : DataW Unit) = .agg xs) (j : Nat) (hj : j < 12) : xs[j]? = some (.lit (.string (signB ((j : Int) + 5)))) := by
 have e : xs = [.lit (.string [43]), .lit (.string [45]), .lit (.string [42]), .lit (.string [47]), .lit (.string [60]), .lit (.string [60, 61]), .lit (.string [61, 61]), .lit (.string [33, 61]), .lit (.string [62]), .lit (.string [62, 61]), .lit (.string [38, 38]), .lit (.string [124, 124])] := (DataW.agg.inj h).symm
 subst e
 match j, hj with
 | 0, _ => rfl
 | 1, _ => rfl
 | 2, _ => rfl
 | 3, _ => rfl
 | 4, _ => rfl
 | 5, _ => rfl
 | 6, _ => rfl
 | 7, _ => rfl
 | 8, _ => rfl
 | 9, _ => rfl
 | 10, _ => rfl
 | 11, _ => rfl
def E11 (W : World) : Prop := Env9 W ∧ SgOk W
theorem tabs_of_laid8 {W : World} (h : laidMetH Tryz.prog theLaid8 W) : (TabOk W ∧ Lib.TabIs Tryz.prog W "internal/strconv.uint64pow10" .u64 Lib.pow10Tab) ∧ Lib.TabIs Tryz.prog W "strings.asciiSpace" .u8 Lib.asciiSpaceTab ∧ (∃ ev, W.cell? ⟨7, 0, none⟩ = some ev ∧ (ev = .nilIface ∨ ∃ te pe, ev = .iface te pe)) ∧ SgOk W := by
 rw [MakeChecks.laidMetH_plain _ _ _ (by kernel_rfl)] at h
 obtain ⟨ps, ⟨g0, t0, cs0, f0, p0, q0, hg0, ht0, hv0, hd0, ⟨g1, t1, cs1, f1, p1, q1, hg1, ht1, hv1, hd1, ⟨g2, t2, cs2, f2, p2, q2, hg2, ht2, hv2, hd2, ⟨g3, t3, cs3, f3, p3, q3, hg3, ht3, hv3, hd3, ⟨g4, t4, cs4, f4, p4, q4, hg4, ht4, hv4, hd4, ⟨g5, t5, cs5, f5, p5, q5, hg5, ht5, hv5, hd5, ⟨g6, t6, cs6, f6, p6, q6, hg6, ht6, hv6, hd6, ⟨g7, t7, cs7, f7, p7, q7, hg7, ht7, hv7, hd7, ⟨g8, t8, cs8, f8, p8, q8, hg8, ht8, hv8, hd8, _, _⟩, _⟩, _⟩, _⟩, _⟩, _⟩, _⟩, _⟩, _⟩, _⟩ := h
 refine ⟨⟨?_, ?_⟩, ?_, ?_, ?_⟩
 ·obtain rfl := Option.some.inj (gTab.symm.trans hg0)
  obtain rfl := Option.some.inj (tTab.symm.trans ht0)
  obtain ⟨xs, m1, rfl, hx1, hlen, hn, hel⟩ := DataW.trod_array Tryz.underlying313 hd0
  have c5 : Tryz.prog.cellsOf 5 = 1 := by kernel_rfl
  simp only [Prod.mk.injEq] at hx1
  have hx2 : Rows.laid_math_bits_deBruijn32tab = DataW.agg (xs.map (·.1)) := hx1.1
  intro j hj
  rw [World.var?_cell hg0 hv0 j]
  have he := hel j hj
  rw [c5, Nat.mul_one] at he
  have hjx : j < xs.length := by omega
  rw [List.getElem?_eq_getElem hjx] at he
  obtain ⟨k, e1, e2, _⟩ := DataW.trod_int Tryz.underlying5 he
  have e3 : (xs.map (·.1))[j]? = some (.lit (.int .u8 k)) := by rw [List.getElem?_map, List.getElem?_eq_getElem hjx, e2]; rfl
  have e5 := (tab_at _ hx2 j hj).symm.trans e3
  simp only [Option.some.injEq, DataW.lit.injEq, Lit.int.injEq, true_and] at e5
  have e6 : cs0.toList[j]? = some (.int .u8 k) := by
   have : ((cs0.toList.drop j).take 1)[0]? = some (.int .u8 k) := by rw [e1]; rfl
   rw [List.getElem?_take, if_pos (by decide), List.getElem?_drop] at this
   simpa using this
  rw [← Array.getElem?_toList, e6, e5]
 ·obtain rfl := Option.some.inj (pow10_var.symm.trans hg2)
  obtain rfl := Option.some.inj (pow10_type.symm.trans ht2)
  rw [pow10_laid] at hd2
  unfold Lib.TabIs
  rw [hv2, ← Lib.cells_of_tab Tryz.underlying289 Tryz.underlying37 (by kernel_rfl) (by kernel_rfl) hd2]
 ·obtain rfl := Option.some.inj ((show Tryz.prog.globalNamed "strings.asciiSpace" = some 0 by kernel_rfl).symm.trans hg7)
  obtain rfl := Option.some.inj ((show (Tryz.prog.globals[0]?).map (·.type) = some 132 by kernel_rfl).symm.trans ht7)
  rw [show (Rows.laid_strings_asciiSpace : DataW Unit) = Lib.tabData .u8 Lib.asciiSpaceTab by kernel_rfl] at hd7
  unfold Lib.TabIs
  rw [hv7, ← Lib.cells_of_tab Tryz.underlying132 Tryz.underlying5 (by kernel_rfl) (by kernel_rfl) hd7]
 ·obtain rfl := Option.some.inj ((show Tryz.prog.globalNamed "strconv.ErrRange" = some 7 by kernel_rfl).symm.trans hg4)
  obtain rfl := Option.some.inj ((show (Tryz.prog.globals[7]?).map (·.type) = some 120 by kernel_rfl).symm.trans ht4)
  obtain ⟨f', u, v, e, -, -⟩ := iface_of_trod Tryz.underlying120 hd4
  have hc := World.var?_cell hg4 hv4 0
  have e0 : cs4[0]? = some (.iface u v) := by rw [← Array.getElem?_toList, e]; rfl
  exact ⟨_, hc.trans e0, .inr ⟨u, v, rfl⟩⟩
 ·obtain rfl := Option.some.inj ((show Tryz.prog.globalNamed "flyball/tree.signs" = some 1 by kernel_rfl).symm.trans hg8)
  obtain rfl := Option.some.inj ((show (Tryz.prog.globals[1]?).map (·.type) = some 166 by kernel_rfl).symm.trans ht8)
  obtain ⟨xs, m1, rfl, hx1, hlen, hn, hel⟩ := DataW.trod_array Tryz.underlying166 hd8
  have c9 : Tryz.prog.cellsOf 9 = 1 := by kernel_rfl
  simp only [Prod.mk.injEq] at hx1
  have hx2 : Rows.laid_flyball_tree_signs = DataW.agg (xs.map (·.1)) := hx1.1
  intro j hj
  rw [World.var?_cell hg8 hv8 j]
  have he := hel j hj
  rw [c9, Nat.mul_one] at he
  have hjx : j < xs.length := by omega
  rw [List.getElem?_eq_getElem hjx] at he
  obtain ⟨s, e1, e2, _⟩ := DataW.trod_string Tryz.underlying9 he
  have e3 : (xs.map (·.1))[j]? = some (.lit (.string s.data.toList)) := by rw [List.getElem?_map, List.getElem?_eq_getElem hjx, e2]; rfl
  have e5 := (sign_at _ hx2 j hj).symm.trans e3
  simp only [Option.some.injEq, DataW.lit.injEq, Lit.string.injEq] at e5
  have e6 : cs8.toList[j]? = some (.string s) := by
   have : ((cs8.toList.drop j).take 1)[0]? = some (.string s) := by rw [e1]; rfl
   rw [List.getElem?_take, if_pos (by decide), List.getElem?_drop] at this
   simpa using this
  rw [← Array.getElem?_toList, e6, e5]
theorem env_of8 {W : World} (h : laidMetH Tryz.prog theLaid8 W) (hs : W.ShapedOpen Tryz.prog) : E11 W :=
 ⟨⟨⟨(tabs_of_laid8 h).1.1, (tabs_of_laid8 h).1.2, cell_of_shapedOpen_int (zero := #[.int .i64 0]) (t := 3) hs (of_decide_eq_true (by kernel_rfl)) (by kernel_rfl) rfl (by kernel_rfl) (by kernel_rfl) Tryz.underlying3⟩, (tabs_of_laid8 h).2.1, (tabs_of_laid8 h).2.2.1⟩, (tabs_of_laid8 h).2.2.2⟩
theorem laid8_met (os : Os) (args : Array Value) : laidMetH Tryz.prog theLaid8 ((World.laidAll Tryz.prog os theLaid8).forCall (fun _ _ => 0) ⟨#[], args, []⟩).memory := by
 rw [MakeChecks.laidMetH_plain _ _ _ (by kernel_rfl)]
 exact laidMet_laidAll _ (by kernel_rfl) (by kernel_rfl)
theorem lift8 {H : Type} {enc : TypeId × Value → H} {os : Os} {f : FuncId} {fn : Func} {s : ChangeSpec} (started : os.Started) (noInit : Tryz.checked.prog.inits.idxOf? f = none) (hfn : Tryz.checked.prog.funcs[f]? = some fn)
  (witness : ∃ (w : World) (tape : Tape) (i : Input), w.os = os ∧ (w.forCall tape i).Shaped Tryz.checked.prog ∧ i.vars = [] ∧ Input.okWide Tryz.checked.prog (w.forCall tape i) .any w.heap.size f i ∧
   ((s.pre enc Tryz.checked.prog fn [] false (w.forCall tape i).memory i.args ∧ laidMetH Tryz.prog theLaid8 (w.forCall tape i).memory) ∧ sizedMet enc Tryz.checked.prog fn (OpenSpec.ofChange s) false (w.forCall tape i).memory i.args) ∧ ({} : Assume).holds Tryz.checked.prog (lone (Frame.enter Tryz.checked.prog f i.args .normal) [] (w.forCall tape i)))
  (walk : ∀ (W : World) (base : Nat) (args : Array Value) (ds gs : List (DataW H)) (before : List MemPlace),
   (∀ (j : Nat) t v, fn.params[j]? = some t → args[j]? = some v → Value.okWide Tryz.checked.prog W .any base t v) → DataW.Whole enc Tryz.checked.prog fn.params.toList s.vars false W args.toList ds gs before → E11 W →
   Calls Tryz.checked.prog f args W fun e W' => ∃ v, e = .returned v ∧ s.post enc Tryz.checked.prog fn false true false false W args v W') :
  ReturnsInHanded {} Tryz.checked os f .any (fun w args => (s.pre enc Tryz.checked.prog fn [] false w args ∧ laidMetH Tryz.prog theLaid8 w) ∧ sizedMet enc Tryz.checked.prog fn (OpenSpec.ofChange s) false w args) (s.post enc Tryz.checked.prog fn false true false false) := by
 refine returnsInHanded_of_calls own started noInit witness ?_
 intro w tape i _ hsh _ hok hpre _
 obtain ⟨_, _, _, fn', hfn', _, _, _, _, hval⟩ := hok
 obtain rfl : fn' = fn := Option.some.inj (hfn'.symm.trans hfn)
 obtain ⟨⟨⟨ds, gs, before, hw, -⟩, hx⟩, -⟩ := hpre
 refine (walk (w.forCall tape i) w.heap.size i.args ds gs before hval (DataW.Whole.of_heap (w' := w.forCall tape i) (by rfl) hw) (env_of8 (hx.of_heap (by rfl)) hsh)).mono fun e W' ⟨v, he, hp⟩ => ?_
 subst he
 exact ChangeSpec.post_blind hp
theorem open_expr {H : Type} {enc : TypeId × Value → H} {w : World} {base : Nat} {spare : Nat → Bool} {held : Bool} {r : Reach} {bb : Nat} {v : Value} {d : DataW H} {p : List MemPlace} (hv : Value.okWide Tryz.prog w r bb 41 v) (h : DataW.Trod enc Tryz.prog w base spare held 41 v d p) : ∃ q : Ex, v = q.h.v ∧ q.In w.heap.size w := by
 unfold Value.okWide at hv
 rw [Tryz.underlying41] at hv
 obtain ⟨cs, rfl, -, -⟩ := hv
 obtain ⟨fuel, hf⟩ := h
 obtain ⟨q, e, hq⟩ := open_x fuel _ _ hf
 refine ⟨q, ?_, hq⟩
 have e' : cs.toList = _ := e
 unfold EH.v
 congr 1
 exact Array.ext' e'
end Go.Proofs.YthmlhkllbichgaaGreatDoor
