/-
  The contract of the reference's Sub on rows of bits: a row of the difference, and the borrow. Conditions: the rows are shorter than 2^40.
-/
import Derived.Test.YtaollppieonmbaaDoorRadd
namespace Go.Proofs.YtaollppieonmbaaDoor
open Go.RowKit

/-- So far so many bits of the difference, and the borrow. -/
structure SubTo (xs ys zs : List Bool) (k : Nat) (c : Bool) : Prop where
  len : zs.length = k
  eq : val zs - (if c then 2 ^ k else 0) = val (xs.take k) - val (ys.take k)
theorem SubTo.next {xs ys zs : List Bool} {k : Nat} {c : Bool} (h : SubTo xs ys zs k c) (x y : Bool) (ex : xs.getD k false = x) (ey : ys.getD k false = y) :
    SubTo xs ys (zs ++ [(x != y) != c]) (k + 1) (!x && (y || c) || x && y && c) := by
  obtain ⟨h1, h2⟩ := h
  refine ⟨by simp [h1], ?_⟩
  rw [val_snoc, val_take_succ, val_take_succ, ex, ey, h1, Int.pow_succ]
  generalize (2 : Int) ^ k = P at *
  revert h2
  cases x <;> cases y <;> cases c <;> simp <;> omega

/-- A call came back with a row and a bool of which P holds; nothing that was there has changed. -/
def RetRowB (P : List Bool → Bool → Prop) (w : World) (e : Ending) (w' : World) : Prop := ∃ (xs : List Bool) (b : Bool) (A : Option Addr) (c : Nat), P xs b ∧ e = .returned (.tuple #[.slice A xs.length c, .bool b]) ∧ xs.length ≤ c ∧ c ≤ maxLen ∧ Rd w' A xs ∧ Below w.heap.size w w'

set_option maxHeartbeats 3200000 in
theorem rsub_any (A B : Option Addr) (n m c d : Nat) (xs ys : List Bool) (N : Int) (w : World) (hn : xs.length = n) (hm : ys.length = m) (hx : Rd w A xs) (hy : Rd w B ys) (ln : n ≤ 1099511627775) (lm : m ≤ 1099511627775) (hN0 : 0 ≤ N) (hN1 : N ≤ 1099511627775) :
    Calls Tryd.prog 48 #[.slice A n c, .slice B m d, .int .i64 N] w (RetRowB (fun zs b => SubTo xs ys zs N.toNat b) w) := by
  obtain ⟨i0, hi, hz0, hz1, hz2⟩ := info_parts bool_info
  have HN := Lib.hid hn
  have HM := Lib.hid hm
  have HI := Lib.hid hi
  have HZ0 := Lib.hid hz0
  have HZ1 := Lib.hid hz1
  have HZ2 := Lib.hid hz2
  clear hn hm hi hz0 hz1 hz2
  go_enter Tryd.func48, Tryd.ntmps48
  go_wp2_with fail
  go_loopw [8, 9, 10] (fun s8 s9 s10 wr => ∃ (k : Nat) (zs : List Bool) (cr : Bool), s9 = .bool cr ∧ s10 = .int .i64 (k : Int) ∧ (k : Int) ≤ N ∧ SubTo xs ys zs k cr ∧ wr.ownsRow w.heap.size 4 1 s8 k (zs.map Value.bool) ∧ Hid (Below w.heap.size w wr)) (fun _ _ s10 _ => (N - intOf s10).toNat)
  case atStart => exact ⟨0, [], false, rfl, rfl, hN0, ⟨rfl, by simp [val]⟩, ⟨rfl, .inl ⟨rfl, rfl⟩⟩, Below.refl _ _⟩
  case round =>
    obtain ⟨k, zs, cr, rfl, rfl, hk, T, own, HB⟩ := hrel
    by_cases hlt : (k : Int) < N
    · have hxr := hx.below HB.out (Nat.le_refl _)
      have hyr := hy.below HB.out (Nat.le_refl _)
      have bx := bit_any A n c xs (k : Int) wr HN.out hxr (by omega)
      have by_ := bit_any B m d ys (k : Int) wr HM.out hyr (by omega)
      rw [bitAt_nat] at bx by_
      have TN := Lib.hid (fun x y ex ey => T.next x y ex ey)
      generalize ex : xs.getD k false = x at *
      generalize ey : ys.getD k false = y at *
      have TN2 := Lib.hid (TN.out x y rfl rfl)
      have BX := Lib.hid bx
      have BY := Lib.hid by_
      clear bx by_ TN ex ey T
      go_wp2_with fail
      refine BX.out.mono ?_
      rintro e w1 ⟨rfl, rfl⟩
      go_wp2_with fail
      refine BY.out.mono ?_
      rintro e w1 ⟨rfl, rfl⟩
      clear BX BY
      cases x <;> cases y <;> cases cr
      all_goals
        go_wp2_with (at_builtin; refine wpList_append_own _ rfl _ _ 28 rfl w.heap.size 4 i0 (.bool false) 1 1 Tryd.underlying28 HI.out HZ0.out HZ1.out HZ2.out rfl (by decide) _ _ _ rfl (own.alloc _) ⟨wr.heap.size, 0, none⟩ 1 1 [_] rfl rfl (cell_one_new _ _ _) ?c2 ?c3 ?c4 ?c5 ?_)
        case c2 => intro u hu; simp at hu; subst hu; rfl
        case c3 => unfold maxLen; omega
        case c4 => omega
        case c5 => have := HB.out.size; simp; omega
        intro v' w1 own' hgrow hnil
        clear hnil
        have HB' := Lib.hid (own_grown HB.out own hgrow)
        have own2 := own_snoc own'
        clear own' hgrow own HB hxr hyr hx hy
        go_wp2_with fail
        go_roundw
        case rel => exact ⟨k + 1, _, _, rfl, by go_num, by omega, TN2.out, own2, HB'⟩
        case measure => simp [intOf]; omega
    · have eN : N = (k : Int) := by omega
      have T2 : SubTo xs ys zs N.toNat cr := by rw [eN, Int.toNat_natCast]; exact T
      obtain ⟨A', c', rfl, hc', hm', hr'⟩ := own_row own
      clear own eN T
      go_wp2_with fail
      go_ret2
      exact ⟨zs, cr, A', c', T2, rfl, hc', hm', hr', HB.out⟩
end Go.Proofs.YtaollppieonmbaaDoor
