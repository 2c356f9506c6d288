/-
  The contract of the reference's Add on rows of bits: a row of the sum. Conditions: the rows are shorter than 2^40.
-/
import Derived.Test.YtaollppieonmbaaDoorRlen
import Derived.Maps.AppendAt
namespace Go.Proofs.YtaollppieonmbaaDoor
open Go.RowKit

theorem bool_info : (Tryd.prog.info? 4).map (fun i => (i.zero, i.size, i.bytes)) = some (some (.bool false), 1, 1) := by kernel_rfl
theorem val_take_succ (xs : List Bool) (k : Nat) : val (xs.take (k + 1)) = val (xs.take k) + if xs.getD k false then 2 ^ k else 0 := by
  by_cases h : k < xs.length
  · rw [List.take_succ_eq_append_getElem h, val_snoc, List.length_take, Nat.min_eq_left (by omega), List.getD_eq_getElem?_getD, List.getElem?_eq_getElem h]
    rfl
  · rw [List.take_of_length_le (by omega), List.take_of_length_le (by omega), getD_past xs k (by omega)]
    simp

/-- So far so many bits of the sum, and the carry. -/
structure AddTo (xs ys zs : List Bool) (k : Nat) (c : Bool) : Prop where
  len : zs.length = k
  eq : val zs + (if c then 2 ^ k else 0) = val (xs.take k) + val (ys.take k)
  le : k ≤ max xs.length ys.length + 1
  end_ : max xs.length ys.length < k → c = false
theorem AddTo.next {xs ys zs : List Bool} {k : Nat} {c : Bool} (h : AddTo xs ys zs k c) (hc : k < xs.length ∨ k < ys.length ∨ c = true) (x y : Bool) (ex : xs.getD k false = x) (ey : ys.getD k false = y) :
    AddTo xs ys (zs ++ [(x != y) != c]) (k + 1) (x && y || x && c || y && c) := by
  obtain ⟨h1, h2, h3, h4⟩ := h
  have hk : k ≤ max xs.length ys.length := by
    rcases hc with hc | hc | hc
    · omega
    · omega
    · rcases Nat.lt_or_ge (max xs.length ys.length) k with h | h
      · have := h4 h
        rw [this] at hc
        cases hc
      · exact h
  refine ⟨by simp [h1], ?_, by omega, fun hk' => ?_⟩
  · rw [val_snoc, val_take_succ, val_take_succ, ex, ey, h1, Int.pow_succ]
    generalize (2 : Int) ^ k = P at *
    revert h2
    cases x <;> cases y <;> cases c <;> simp <;> omega
  · have e1 : x = false := by rw [← ex]; exact getD_past xs k (by omega)
    have e2 : y = false := by rw [← ey]; exact getD_past ys k (by omega)
    rw [e1, e2]
    rfl
theorem AddTo.done {xs ys zs : List Bool} {k : Nat} (h : AddTo xs ys zs k false) (h1 : xs.length ≤ k) (h2 : ys.length ≤ k) : val zs = val xs + val ys := by
  have := h.eq
  rw [List.take_of_length_le h1, List.take_of_length_le h2] at this
  simpa using this

/-- Behind an append onto a row of the call's own nothing that was there has changed. -/
theorem own_grown {w wr w1 : World} {t : TypeId} {v : Value} {n : Nat} {xs : List Value} {o : Obj} (HB : Below w.heap.size w wr) (own : wr.ownsRow w.heap.size t 1 v n xs) (hg : (wr.alloc o).grownBy w1 v.ownBlock) : Below w.heap.size w w1 := by
  refine (bel_alloc HB o).grown hg (by have := HB.size; simp; omega) fun g e => ?_
  rcases own.2 with ⟨rfl, _⟩ | ⟨g', cap, cur, rfl, hb, _⟩
  · cases e
  · simp [Value.ownBlock] at e
    omega

theorem own_snoc {w1 : World} {B : Nat} {t : TypeId} {v : Value} {n : Nat} {zs : List Bool} {b : Bool} (h : w1.ownsRow B t 1 v n (zs.map Value.bool ++ [Value.bool b])) : w1.ownsRow B t 1 v n ((zs ++ [b]).map Value.bool) := by
  rw [List.map_append]
  exact h

/-- What Add hands back. -/
def IsSum (xs ys zs : List Bool) : Prop := val zs = val xs + val ys ∧ max xs.length ys.length ≤ zs.length ∧ zs.length ≤ max xs.length ys.length + 1

set_option maxHeartbeats 3200000 in
theorem radd_any (A B : Option Addr) (n m c d : Nat) (xs ys : List Bool) (w : World) (hn : xs.length = n) (hm : ys.length = m) (hx : Rd w A xs) (hy : Rd w B ys) (ln : n ≤ 1099511627775) (lm : m ≤ 1099511627775) :
    Calls Tryd.prog 46 #[.slice A n c, .slice B m d] w (RetRow (IsSum xs ys) w) := by
  obtain ⟨i0, hi, hz0, hz1, hz2⟩ := info_parts bool_info
  have HN := Lib.hid hn
  have HM := Lib.hid hm
  have HI := Lib.hid hi
  have HZ0 := Lib.hid hz0
  have HZ1 := Lib.hid hz1
  have HZ2 := Lib.hid hz2
  clear hn hm hi hz0 hz1 hz2
  go_enter Tryd.func46, Tryd.ntmps46
  go_wp2_with fail
  go_loopw [5, 6, 7] (fun s5 s6 s7 wr => ∃ (k : Nat) (zs : List Bool) (cr : Bool), s6 = .bool cr ∧ s7 = .int .i64 (k : Int) ∧ AddTo xs ys zs k cr ∧ wr.ownsRow w.heap.size 4 1 s5 k (zs.map Value.bool) ∧ Hid (Below w.heap.size w wr)) (fun _ _ s7 _ => (max n m + 1 - (intOf s7).toNat))
  case atStart => exact ⟨0, [], false, rfl, rfl, ⟨rfl, by simp [val], by omega, fun _ => rfl⟩, ⟨rfl, .inl ⟨rfl, rfl⟩⟩, Below.refl _ _⟩
  case round =>
    obtain ⟨k, zs, cr, rfl, rfl, T, own, HB⟩ := hrel
    have hk := T.le
    rw [HN.out, HM.out] at hk
    have hxr := hx.below HB.out (Nat.le_refl _)
    have hyr := hy.below HB.out (Nat.le_refl _)
    generalize hG : (decide (k < n) || decide (k < m) || cr) = go
    have HG := Lib.hid hG
    clear hG
    go_upto_region 4 with fail
    go_cut [22] (fun s22 wx => s22 = .bool go ∧ wr = wx)
    case first =>
      by_cases kn : k < n
      · have hG : go = true := by rw [← HG.out]; simp [kn]
        subst hG
        go_wp2_with fail
        go_meet
        exact ⟨rfl, rfl⟩
      · have kn' : decide ((k : Int) < (n : Int)) = false := by simp; omega
        by_cases km : k < m
        · have hG : go = true := by rw [← HG.out]; simp [km]
          subst hG
          go_wp2_with fail
          go_meet
          exact ⟨rfl, rfl⟩
        · have km' : decide ((k : Int) < (m : Int)) = false := by simp; omega
          have hG : go = cr := by rw [← HG.out]; simp [kn, km]
          subst hG
          go_wp2_with fail
          go_meet
          exact ⟨rfl, rfl⟩
    case rest =>
      obtain ⟨rfl, rfl⟩ := hcut
      cases go
      · have hG := HG.out
        simp at hG
        obtain ⟨⟨g1, g2⟩, rfl⟩ := hG
        have fin : IsSum xs ys zs := ⟨T.done (by rw [HN.out]; exact g1) (by rw [HM.out]; exact g2), by rw [HN.out, HM.out, T.len]; omega, by rw [T.len, HN.out, HM.out]; exact hk⟩
        obtain ⟨A', c', rfl, hc', hm', hr'⟩ := own_row own
        clear own
        go_wp2_with fail
        go_ret
        exact ⟨zs, A', c', fin, rfl, hc', hm', hr', HB.out⟩
      · have hG := HG.out
        have hgo : k < xs.length ∨ k < ys.length ∨ cr = true := by
          rw [HN.out, HM.out]
          simp at hG
          rcases hG with (hG | hG) | hG
          · exact .inl hG
          · exact .inr (.inl hG)
          · exact .inr (.inr hG)
        have bx := bit_any A n c xs (k : Int) wr HN.out hxr (by omega)
        have by_ := bit_any B m d ys (k : Int) wr HM.out hyr (by omega)
        rw [bitAt_nat] at bx by_
        have hk2 : k + 1 ≤ max n m + 1 := by have := (T.next hgo _ _ rfl rfl).le; rw [HN.out, HM.out] at this; exact this
        have TN := Lib.hid (fun x y ex ey => T.next hgo x y ex ey)
        clear hgo
        generalize ex : xs.getD k false = x at *
        generalize ey : ys.getD k false = y at *
        have TN2 := Lib.hid (TN.out x y rfl rfl)
        have BX := Lib.hid bx
        have BY := Lib.hid by_
        clear bx by_ TN hG ex ey
        go_wp2_with fail
        refine BX.out.mono ?_
        rintro e w1 ⟨rfl, rfl⟩
        go_wp2_with fail
        refine BY.out.mono ?_
        rintro e w1 ⟨rfl, rfl⟩
        clear BX BY
        cases x <;> cases y <;> cases cr
        all_goals
          go_wp2_with (at_builtin; refine wpList_append_own _ rfl _ _ 28 rfl w.heap.size 4 i0 (.bool false) 1 1 Tryd.underlying28 HI.out HZ0.out HZ1.out HZ2.out rfl (by decide) _ _ _ rfl (own.alloc _) ⟨wr.heap.size, 0, none⟩ 1 1 [_] rfl rfl (cell_one_new _ _ _) ?c2 ?c3 ?c4 ?c5 ?_)
          case c2 => intro u hu; simp at hu; subst hu; rfl
          case c3 => unfold maxLen; omega
          case c4 => omega
          case c5 => have := HB.out.size; simp; omega
          intro v' w1 own' hgrow hnil
          clear hnil
          have HB' := Lib.hid (own_grown HB.out own hgrow)
          have own2 := own_snoc own'
          clear own' hgrow own HB hxr hyr hx hy
          go_wp2_with fail
          go_roundw
          case rel => exact ⟨k + 1, _, _, rfl, by go_num, TN2.out, own2, HB'⟩
          case measure => simp [intOf]; omega
end Go.Proofs.YtaollppieonmbaaDoor
