/-
  The contract of the reference's Shl on rows of bits: so many noughts ahead. Conditions: the row and the shift are shorter than 2^40.
-/
import Derived.Test.YtaollppieonmbaaDoorRsub
import Derived.Deep.AppendLies
namespace Go.Proofs.YtaollppieonmbaaDoor
open Go.RowKit

/-- An append of a row that is read onto a row of the call's own. -/
theorem run_append_row {P : Program} (w : World) (base : Nat) (t ty e : TypeId) (i : TypeInfo) (z : Value) (ht : P.underlying t = some (.slice e)) (hi : P.info? e = some i) (hz : i.zero = some z)
    (hsize : i.size = 1) (hby : i.bytes = 1) (hzs : z.cells.size = 1) (v : Value) (n : Nat) (xs : List Value) (hown : w.ownsRow base e 1 v n xs)
    (A : Option Addr) (c : Nat) (ys : List Bool) (hr : Rd w A ys) (h63 : n + ys.length ≤ maxLen) (hbytes : (n + ys.length) * 1 ≤ 140737488355328) (hbase : base ≤ w.heap.size) :
    ∃ v' w', (Builtin.append_ #[t, t] ty #[v, .slice A ys.length c]).run P w = .ok v' w' ∧ w'.ownsRow base e 1 v' (n + ys.length) (xs ++ ys.map Value.bool) ∧ w.grownBy w' v.ownBlock := by
  rcases A with _ | ad
  · have hy : ys = [] := by
      rcases hr with h | ⟨g, off, h, _⟩
      · exact h
      · cases h
    subst hy
    refine ⟨v, w, ?_, by simpa using hown, World.grownBy.refl w _⟩
    rcases hown.2 with ⟨rfl, rfl⟩ | ⟨g, cap, cur, rfl, _, _, hnc, _⟩
    · simp [Builtin.append_, run_underlying ht, sizeOf, typeInfo, hi, Builtin.lenOf, Builtin.firstCells]
    · simp [Builtin.append_, run_underlying ht, sizeOf, typeInfo, hi, Builtin.lenOf, Builtin.firstCells, hnc, storeCells]
  · have hcells : ∀ j u, (ys.map Value.bool)[j]? = some u → w.cell? (ad.add j) = some u := by
      intro j u hu
      rw [List.getElem?_map] at hu
      cases hj : ys[j]? with
      | none => rw [hj] at hu; cases hu
      | some b =>
        rw [hj] at hu
        injection hu with hu
        subst hu
        rcases hr with h | ⟨g, off, h, _, hc⟩
        · subst h; simp at hj
        · injection h with h
          subst h
          have := hc j b hj
          unfold Addr.add
          split
          · rename_i h0
            subst h0
            simpa using this
          · exact this
    have h1 : ∀ u ∈ ys.map Value.bool, u.oneCell' = true := by
      intro u hu
      obtain ⟨b, _, rfl⟩ := List.mem_map.1 hu
      rfl
    obtain ⟨v', w', hrun, h2, h3, _, _⟩ := run_append_own_at (P := P) w base t ty e i z 1 1 ht hi hz hsize hby hzs (by decide) v n xs hown ad ys.length c (ys.map Value.bool) (by simp) hcells h1 h63 hbytes hbase
    exact ⟨v', w', hrun, h2, h3⟩
theorem wpList_append_row {P : Program} (w : World) {ops : Array Oper} {rest : List Oper} {o : Oper} {a : Act} {Q : Exit → Act → World → Prop} (hgd : o.guard = none) (s x : Operand) (t : TypeId)
    (ho : o.op = .call { callee := .builtin .append, args := #[s, x], argTypes := #[t, t] })
    (base : Nat) (e : TypeId) (i : TypeInfo) (z : Value) (ht : P.underlying t = some (.slice e)) (hi : P.info? e = some i) (hz : i.zero = some z)
    (hsize : i.size = 1) (hby : i.bytes = 1) (hzs : z.cells.size = 1) (v : Value) (n : Nat) (xs : List Value) (hs : a.eval s = v) (hown : w.ownsRow base e 1 v n xs)
    (A : Option Addr) (c m : Nat) (ys : List Bool) (hm : ys.length = m) (hx : a.eval x = .slice A m c) (hr : Rd w A ys) (h63 : n + m ≤ maxLen) (hbytes : (n + m) * 1 ≤ 140737488355328) (hbase : base ≤ w.heap.size)
    (h : ∀ v' w', w'.ownsRow base e 1 v' (n + m) (xs ++ ys.map Value.bool) → w.grownBy w' v.ownBlock → wpList P ops Q rest (a.put o.dst v') w') : wpList P ops Q (o :: rest) a w := by
  subst hm
  refine wpList_plain hgd fun K hK => ?_
  obtain ⟨v', w', hrun, h2, h3⟩ := run_append_row (P := P) w base t o.type e i z ht hi hz hsize hby hzs v n xs hown A c ys hr h63 hbytes hbase
  unfold Oper.wp execOp
  simp only [ho, resolve, invoke, builtin, Sem.run_bind, Sem.run_pure, Result.andThen_ok, List.map_toArray, List.map_cons, List.map_nil, hs, hx, hrun]
  exact hK _ _ (h v' w' h2 h3)
theorem own_grown0 {w wr w1 : World} {t : TypeId} {v : Value} {n : Nat} {xs : List Value} (HB : Below w.heap.size w wr) (own : wr.ownsRow w.heap.size t 1 v n xs) (hg : wr.grownBy w1 v.ownBlock) : Below w.heap.size w w1 := by
  refine HB.grown hg HB.size fun g e => ?_
  rcases own.2 with ⟨rfl, _⟩ | ⟨g', cap, cur, rfl, hb, _⟩
  · cases e
  · simp [Value.ownBlock] at e
    omega

/-- The row, so many noughts ahead. -/
def IsShl (k : Nat) (xs zs : List Bool) : Prop := zs = List.replicate k false ++ xs
theorem IsShl.val {k : Nat} {xs zs : List Bool} (h : IsShl k xs zs) : val zs = 2 ^ k * YtaollppieonmbaaDoor.val xs ∧ zs.length = k + xs.length := by
  unfold IsShl at h
  subst h
  refine ⟨?_, by simp⟩
  rw [val_append, val_replicate, List.length_replicate]
  omega

set_option maxHeartbeats 3200000 in
theorem rshl_any (A : Option Addr) (n c : Nat) (xs : List Bool) (N : Int) (w : World) (hn : xs.length = n) (hx : Rd w A xs) (ln : n ≤ 1099511627775) (hN0 : 0 ≤ N) (hN1 : N ≤ 1099511627775) :
    Calls Tryd.prog 37 #[.slice A n c, .int .i64 N] w (RetRow (IsShl N.toNat xs) w) := by
  obtain ⟨i0, hi, hz0, hz1, hz2⟩ := info_parts bool_info
  have HN := Lib.hid hn
  have HI := Lib.hid hi
  have HZ0 := Lib.hid hz0
  have HZ1 := Lib.hid hz1
  have HZ2 := Lib.hid hz2
  clear hn hi hz0 hz1 hz2
  go_enter Tryd.func37, Tryd.ntmps37
  go_wp2_with fail
  go_loopw [5, 6] (fun s5 s6 wr => ∃ (k : Nat) (zs : List Bool), s6 = .int .i64 (k : Int) ∧ (k : Int) ≤ N ∧ Hid (zs = List.replicate k false) ∧ wr.ownsRow w.heap.size 4 1 s5 k (zs.map Value.bool) ∧ Hid (Below w.heap.size w wr)) (fun _ s6 _ => (N - intOf s6).toNat)
  case atStart => exact ⟨0, [], rfl, hN0, rfl, ⟨rfl, .inl ⟨rfl, rfl⟩⟩, Below.refl _ _⟩
  case round =>
    obtain ⟨k, zs, rfl, hk, HR, own, HB⟩ := hrel
    by_cases hlt : (k : Int) < N
    · go_wp2_with (at_builtin; refine wpList_append_own _ rfl _ _ 28 rfl w.heap.size 4 i0 (.bool false) 1 1 Tryd.underlying28 HI.out HZ0.out HZ1.out HZ2.out rfl (by decide) _ _ _ rfl (own.alloc _) ⟨wr.heap.size, 0, none⟩ 1 1 [_] rfl rfl (cell_one_new _ _ _) ?c2 ?c3 ?c4 ?c5 ?_)
      case c2 => intro u hu; simp at hu; subst hu; rfl
      case c3 => unfold maxLen; omega
      case c4 => omega
      case c5 => have := HB.out.size; simp; omega
      intro v' w1 own' hgrow hnil
      clear hnil
      have HB' := Lib.hid (own_grown HB.out own hgrow)
      have own2 := own_snoc own'
      have HR2 : Hid (zs ++ [false] = List.replicate (k + 1) false) := by show _ = _; rw [HR.out, List.replicate_succ']
      clear own' hgrow own HB hx
      go_wp2_with fail
      go_roundw
      case rel => exact ⟨k + 1, _, by go_num, by omega, HR2, own2, HB'⟩
      case measure => simp [intOf]; omega
    · have eN : N = (k : Int) := by omega
      subst eN
      have hxr := hx.below HB.out (Nat.le_refl _)
      go_wp2_with (at_builtin; refine wpList_append_row _ rfl _ _ 28 rfl w.heap.size 4 i0 (.bool false) Tryd.underlying28 HI.out HZ0.out HZ1.out HZ2.out rfl _ _ _ rfl own A c n xs HN.out rfl hxr ?c3 ?c4 HB.out.size ?_)
      case c3 => unfold maxLen; omega
      case c4 => omega
      intro v' w1 own' hgrow
      have HB' := Lib.hid (own_grown0 HB.out own hgrow)
      rw [← List.map_append] at own'
      obtain ⟨A', c', rfl, hc', hm', hr'⟩ := own_row own'
      clear own own' hgrow HB hxr hx
      go_wp2_with fail
      go_ret
      exact ⟨_, A', c', by rw [Int.toNat_natCast, HR.out]; rfl, rfl, hc', hm', hr', HB'.out⟩
end Go.Proofs.YtaollppieonmbaaDoor
