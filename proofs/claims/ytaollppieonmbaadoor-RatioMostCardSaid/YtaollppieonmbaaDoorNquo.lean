/-
  Contracts of slices.Clone at numbers and of nat's Div. Conditions: at most 2^20 words, each of 32 bits.
-/
import Derived.Test.YtaollppieonmbaaDoorNdiv
import Derived.Laws.Cover3
namespace Go.Proofs.YtaollppieonmbaaDoor
open Go.RowKit
set_option maxRecDepth 100000

/-- An append of words that are read onto a row of the call's own. -/
theorem run_append_words {P : Program} (w : World) (base : Nat) (t ty e : TypeId) (i : TypeInfo) (z : Value) (ht : P.underlying t = some (.slice e)) (hi : P.info? e = some i) (hz : i.zero = some z)
    (hsize : i.size = 1) (hby : i.bytes = 4) (hzs : z.cells.size = 1) (v : Value) (n : Nat) (xs : List Value) (hown : w.ownsRow base e 1 v n xs)
    (A : Option Addr) (c : Nat) (ys : List Int) (hr : Rn w A ys) (h63 : n + ys.length ≤ maxLen) (hbytes : (n + ys.length) * 4 ≤ 140737488355328) (hbase : base ≤ w.heap.size) :
    ∃ v' w', (Builtin.append_ #[t, t] ty #[v, .slice A ys.length c]).run P w = .ok v' w' ∧ w'.ownsRow base e 1 v' (n + ys.length) (xs ++ ys.map (Value.int .u32)) ∧ w.grownBy w' v.ownBlock := by
  rcases A with _ | ad
  · have hy : ys = [] := by
      rcases hr with h | ⟨g, off, h, _⟩
      · exact h
      · cases h
    subst hy
    refine ⟨v, w, ?_, by simpa using hown, World.grownBy.refl w _⟩
    rcases hown.2 with ⟨rfl, rfl⟩ | ⟨g, cap, cur, rfl, _, _, hnc, _⟩
    · simp [Builtin.append_, run_underlying ht, sizeOf, typeInfo, hi, Builtin.lenOf, Builtin.firstCells]
    · simp [Builtin.append_, run_underlying ht, sizeOf, typeInfo, hi, Builtin.lenOf, Builtin.firstCells, hnc, storeCells]
  · have hcells : ∀ j u, (ys.map (Value.int .u32))[j]? = some u → w.cell? (ad.add j) = some u := by
      intro j u hu
      rw [List.getElem?_map] at hu
      cases hj : ys[j]? with
      | none => rw [hj] at hu; cases hu
      | some b =>
        rw [hj] at hu
        injection hu with hu
        subst hu
        rcases hr with h | ⟨g, off, h, _, hc⟩
        · subst h; simp at hj
        · injection h with h
          subst h
          have := hc j b hj
          unfold Addr.add
          split
          · rename_i h0
            subst h0
            simpa using this
          · exact this
    have h1 : ∀ u ∈ ys.map (Value.int .u32), u.oneCell' = true := by
      intro u hu
      obtain ⟨b, _, rfl⟩ := List.mem_map.1 hu
      rfl
    obtain ⟨v', w', hrun, h2, h3, _, _⟩ := run_append_own_at (P := P) w base t ty e i z 1 4 ht hi hz hsize hby hzs (by decide) v n xs hown ad ys.length c (ys.map (Value.int .u32)) (by simp) hcells h1 h63 hbytes hbase
    exact ⟨v', w', hrun, h2, h3⟩
theorem wpList_append_words {P : Program} (w : World) {ops : Array Oper} {rest : List Oper} {o : Oper} {a : Act} {Q : Exit → Act → World → Prop} (hgd : o.guard = none) (s x : Operand) (t : TypeId)
    (ho : o.op = .call { callee := .builtin .append, args := #[s, x], argTypes := #[t, t] })
    (base : Nat) (e : TypeId) (i : TypeInfo) (z : Value) (ht : P.underlying t = some (.slice e)) (hi : P.info? e = some i) (hz : i.zero = some z)
    (hsize : i.size = 1) (hby : i.bytes = 4) (hzs : z.cells.size = 1) (v : Value) (n : Nat) (xs : List Value) (hs : a.eval s = v) (hown : w.ownsRow base e 1 v n xs)
    (A : Option Addr) (c m : Nat) (ys : List Int) (hm : ys.length = m) (hx : a.eval x = .slice A m c) (hr : Rn w A ys) (h63 : n + m ≤ maxLen) (hbytes : (n + m) * 4 ≤ 140737488355328) (hbase : base ≤ w.heap.size)
    (h : ∀ v' w', w'.ownsRow base e 1 v' (n + m) (xs ++ ys.map (Value.int .u32)) → w.grownBy w' v.ownBlock → wpList P ops Q rest (a.put o.dst v') w') : wpList P ops Q (o :: rest) a w := by
  subst hm
  refine wpList_plain hgd fun K hK => ?_
  obtain ⟨v', w', hrun, h2, h3⟩ := run_append_words (P := P) w base t o.type e i z ht hi hz hsize hby hzs v n xs hown A c ys hr h63 hbytes hbase
  unfold Oper.wp execOp
  simp only [ho, resolve, invoke, builtin, Sem.run_bind, Sem.run_pure, Result.andThen_ok, List.map_toArray, List.map_cons, List.map_nil, hs, hx, hrun]
  exact hK _ _ (h v' w' h2 h3)
/-- A row of the call's own, read. -/
theorem own_words {w : World} {base : Nat} {v : Value} {n : Nat} {ws : List Int} (h : w.ownsRow base 80 1 v n (ws.map (Value.int .u32))) : ws.length = n ∧ ∃ (A : Option Addr) (c : Nat), v = .slice A n c ∧ n ≤ c ∧ Rn w A ws ∧ ∀ a, A = some a → base ≤ a.block := by
  have hl : ws.length = n := by have := h.1; simpa using this
  refine ⟨hl, ?_⟩
  rcases h.2 with ⟨rfl, rfl⟩ | ⟨g, cap, cur, rfl, hb, hh, hc, hm, hs, ht⟩
  · have : ws = [] := List.eq_nil_of_length_eq_zero hl
    subst this
    exact ⟨none, 0, rfl, Nat.le_refl _, .inl rfl, fun a h => by cases h⟩
  · subst hl
    refine ⟨some ⟨g, 0, none⟩, cap, rfl, hc, ?_, fun a h => by injection h with h; subst h; exact hb⟩
    by_cases hx : ws = []
    · exact .inl hx
    · refine .inr ⟨g, 0, rfl, ?_, fun i b hi => ?_⟩
      · rcases Nat.lt_or_ge g w.heap.size with hlt | hge
        · exact hlt
        · rw [Array.getElem?_eq_none hge] at hh; cases hh
      · rw [cell_of_row w g (0 + i) cur 80 (0, 0) hh]
        have e : (cur.toList.take (ws.length * 1))[i]? = some (.int .u32 b) := by rw [ht, List.getElem?_map, hi]; rfl
        rw [List.getElem?_take] at e
        split at e
        · simpa using e
        · cases e
theorem own_grown1 {B : Nat} {w wr w1 : World} {t : TypeId} {v : Value} {n : Nat} {xs : List Value} (HB : Below B w wr) (hB : B ≤ wr.heap.size) (own : wr.ownsRow B t 1 v n xs) (hg : wr.grownBy w1 v.ownBlock) : Below B w w1 := by
  refine HB.grown hg hB fun g e => ?_
  rcases own.2 with ⟨rfl, _⟩ | ⟨g', cap, cur, rfl, hb, _⟩
  · cases e
  · simp [Value.ownBlock] at e
    omega

theorem eql_nil (a : Option Addr) (l c : Nat) (w : World) : (binOp .eql 23 (.slice a l c) (.slice none 0 0)).run Tryd.prog w = .ok (.bool a.isNone) w := by
  simp only [binOp]
  simp [run_equal_slice_nil w 23 _ a l c Tryd.underlying23]

set_option maxRecDepth 100000 in
set_option maxHeartbeats 1600000 in
theorem clone_any (A : Option Addr) (n c : Nat) (us : List Int) (v : Int) (w : World) (hn : us.length = n) (hx : Rn w A us) (hu : IsNat v us) (ln : n ≤ 1048577) :
    Calls Tryd.prog 80 #[.slice A n c] w (RetN v w) := by
  obtain ⟨i0, hi, hz0, hz1, hz2⟩ := info_parts u32_info
  have HN := Lib.hid hn
  have HI := Lib.hid hi
  have HZ0 := Lib.hid hz0
  have HZ1 := Lib.hid hz1
  have HZ2 := Lib.hid hz2
  clear hn hi hz0 hz1 hz2
  rcases A with _ | a
  · have h0 : us = [] := by
      rcases hx with h | ⟨g, off, h, _⟩
      · exact h
      · cases h
    subst h0
    have en := eql_nil none n c
    go_enter Tryd.func80, Tryd.ntmps80
    go_wp2_with fail
    go_ret
    exact ⟨[], none, 0, 0, hu, rfl, rfl, Nat.le_refl _, .inl rfl, (fun a h => by cases h), Below.refl _ _⟩
  · have en := eql_nil (some a) n c
    go_enter Tryd.func80, Tryd.ntmps80
    have own0 : (w.alloc (.cells #[] 80)).ownsRow w.heap.size 80 1 (.slice (some ⟨w.heap.size, 0, none⟩) 0 0) 0 (([] : List Int).map (Value.int .u32)) :=
      ⟨rfl, .inr ⟨w.heap.size, 0, #[], rfl, Nat.le_refl _, heap_alloc_new w _, Nat.le_refl _, by simp [maxLen], rfl, rfl⟩⟩
    have hx1 := hx.alloc (.cells #[] 80)
    go_wp2_with (at_builtin; refine wpList_append_words _ rfl _ _ 23 rfl w.heap.size 80 i0 (.int .u32 0) Tryd.underlying23 HI.out HZ0.out HZ1.out HZ2.out rfl _ _ _ rfl own0 _ c n us HN.out rfl hx1 ?c3 ?c4 (by simp) ?_)
    case c3 => unfold maxLen; omega
    case c4 => omega
    intro v' w1 own' hgrow
    have HB := Lib.hid (own_grown1 (bel_alloc (Below.refl w.heap.size w) _) (by simp) own0 hgrow)
    obtain ⟨hl, A', c', rfl, hc', hr', hf⟩ := own_words own'
    have HL := Lib.hid hl
    clear own0 own' hgrow hx hx1 hl
    go_wp2_with fail
    go_ret
    exact ⟨us, A', n, c', hu, HL.out, rfl, hc', hr', hf, HB.out⟩

/-- A call came back with two numbers in memory of its own, and an error's number. -/
def RetDiv (q r er : Int) (w : World) (e : Ending) (w' : World) : Prop :=
  ∃ (us vs : List Int) (A B : Option Addr) (n m c d : Nat), IsNat q us ∧ IsNat r vs ∧ us.length = n ∧ vs.length = m ∧ e = .returned (.tuple #[.slice A n c, .slice B m d, .int .i64 er]) ∧ n ≤ c ∧ m ≤ d ∧ Rn w' A us ∧ Rn w' B vs ∧ (∀ a, A = some a → w.heap.size ≤ a.block) ∧ (∀ a, B = some a → w.heap.size ≤ a.block) ∧ Below w.heap.size w w'

theorem ndiv_zero (A B : Option Addr) (n m c d : Nat) (us vs : List Int) (w : World) (hn : us.length = n) (hm : vs.length = m) (hc : n ≤ c) (hd : m ≤ d) (hx : Rn w A us) (hy : Rn w B vs) (hv : AllW vs) (ln : n ≤ 1048576) (lm : m ≤ 1048576) (h0 : nv vs = 0) :
    Calls Tryd.prog 68 #[.slice A n c, .slice B m d] w (RetDiv 0 0 21 w) := by
  have HN := Lib.hid hn
  have HM := Lib.hid hm
  have H0 := Lib.hid h0
  clear hn hm h0
  go_enter Tryd.func68, Tryd.ntmps68
  go_wp2_with fail
  refine (trim_any A n c us w HN.out hc hx (by omega)).mono ?_
  rintro e w1 ⟨us', A1, n1, c1, TU, rfl, hc1, hx1, -, rfl⟩
  clear TU hx1
  go_wp2_with fail
  refine (trim_any B m d vs w HM.out hd hy (by omega)).mono ?_
  rintro e w1 ⟨vs', B1, m1, d1, TV, rfl, hd1, hy1, -, rfl⟩
  have hz : IsNat 0 vs' := by have := TV.nat hv; rw [H0.out] at this; exact this
  obtain rfl : m1 = 0 := by have := TV.len; rw [hz.zero] at this; simpa using this.symm
  clear TV hy1 hz
  go_wp2_with fail
  go_ret3
  exact ⟨[], [], none, none, 0, 0, 0, 0, IsNat.nil, IsNat.nil, rfl, rfl, rfl, Nat.le_refl _, Nat.le_refl _, .inl rfl, .inl rfl, (fun a h => by cases h), (fun a h => by cases h), Below.refl _ _⟩

theorem div_of {q b r v : Int} (e : q * b + r = v) (h0 : 0 ≤ r) (h1 : r < b) : v / b = q ∧ v % b = r := by
  have hb : 0 < b := by omega
  rw [← e]
  constructor
  · rw [Int.add_comm, Int.add_mul_ediv_right _ _ (Int.ne_of_gt hb), Int.ediv_eq_zero_of_lt h0 h1, Int.zero_add]
  · rw [Int.add_comm, Int.add_mul_emod_self_right, Int.emod_eq_of_lt h0 h1]

set_option maxHeartbeats 1600000 in
theorem ndiv_pos (A B : Option Addr) (n m c d : Nat) (us vs : List Int) (w : World) (hn : us.length = n) (hm : vs.length = m) (hc : n ≤ c) (hd : m ≤ d) (hx : Rn w A us) (hy : Rn w B vs) (hu : AllW us) (hv : AllW vs) (ln : n ≤ 1048576) (lm : m ≤ 1048576) (h0 : nv vs ≠ 0) :
    Calls Tryd.prog 68 #[.slice A n c, .slice B m d] w (RetDiv (nv us / nv vs) (nv us % nv vs) 0 w) := by
  have HN := Lib.hid hn
  have HM := Lib.hid hm
  obtain ⟨U, hU⟩ : ∃ U, nv us = U := ⟨_, rfl⟩
  obtain ⟨V, hV⟩ : ∃ V, nv vs = V := ⟨_, rfl⟩
  rw [hU, hV]
  rw [hV] at h0
  have HU := Lib.hid hU
  have HV := Lib.hid hV
  clear hn hm hU hV
  go_enter Tryd.func68, Tryd.ntmps68
  go_wp2_with fail
  refine (trim_any A n c us w HN.out hc hx (by omega)).mono ?_
  rintro e w1 ⟨us', A1, n1, c1, TU, rfl, hc1, hx1, -, rfl⟩
  have NU : IsNat U us' := by have := TU.nat hu; rw [HU.out] at this; exact this
  have ln1 := TU.le HN.out
  have HN1 := Lib.hid TU.len
  clear TU
  go_wp2_with fail
  refine (trim_any B m d vs w HM.out hd hy (by omega)).mono ?_
  rintro e w1 ⟨vs', B1, m1, d1, TV, rfl, hd1, hy1, -, rfl⟩
  have NV : IsNat V vs' := by have := TV.nat hv; rw [HV.out] at this; exact this
  have lm1 := TV.le HM.out
  have HM1 := Lib.hid TV.len
  have hm0 : m1 ≠ 0 := fun h => h0 (by
    have h2 := TV.len
    rw [h] at h2
    have := List.eq_nil_of_length_eq_zero h2
    rw [this] at NV
    exact NV.val.symm)
  clear TV HU HV hx hy hu hv h0
  by_cases h1 : m1 = 1
  · subst h1
    obtain ⟨g, off, rfl, hg, hcell⟩ := hy1.at_ (i := 0) (by rw [HM1.out]; decide)
    have hcell' : w.cell? ⟨g, off, none⟩ = some (.int .u32 (vs'.getD 0 0)) := hcell
    have wb := NV.all.getD 0
    have eV : vs'.getD 0 0 = V := by
      have := NV.val
      rw [nv_tail, List.eq_nil_of_length_eq_zero (l := vs'.tail) (by rw [List.length_tail, HM1.out])] at this
      simpa [nv] using this
    have hV0 : 0 < V := NV.pos (by rw [HM1.out]; decide)
    rw [eV] at hcell' wb
    clear eV hcell
    go_wp2_with fail
    refine (ndivWord_any A1 n1 c1 us' V w HN1.out hx1 NU.all (by omega) wb (by omega)).mono ?_
    rintro e w1 ⟨qs, A2, n2, c2, q, r, hq, heq, hr0, hr1, hl, rfl, hc2, hr2, hf2, -, hb2⟩
    rw [NU.val] at heq
    obtain ⟨d1', d2'⟩ := div_of heq hr0 hr1
    have HQ : IsNat (U / V) qs := by rw [d1']; exact hq
    have HL := Lib.hid hl
    have ER : Hid (U % V = r) := d2'
    have hr3 : r < 4294967296 := by have := wb.2; omega
    clear hl d1' d2' heq hcell' hq
    go_wp2_with fail
    refine (new_any r ⟨hr0, by omega⟩ _).mono ?_
    rintro e w2 ⟨rs, A3, n3, c3, hr, hl3, rfl, hc3, hr3', hf3, hb3⟩
    have HR : IsNat (U % V) rs := by rw [ER.out]; exact hr
    have hr4 := hr2.below hb3 (Nat.le_refl _)
    have HB := Lib.hid (bel_trans hb2 hb3)
    have HL3 := Lib.hid hl3
    have HF3 : Hid (∀ a, A3 = some a → w.heap.size ≤ a.block) := fun a h => Nat.le_trans hb2.size (hf3 a h)
    have HF2 := Lib.hid hf2
    clear hl3 hf3 hf2 hb2 hb3 hr ER hr2
    go_wp2_with fail
    go_ret3
    exact ⟨qs, rs, A2, A3, n2, n3, c2, c3, HQ, HR, HL.out, HL3.out, rfl, hc2, hc3, hr4, hr3', HF2.out, HF3.out, HB.out⟩
  · have h2 : ((m1 : Int) == 0) = false := by simp; omega
    have h3 : ((m1 : Int) == 1) = false := by simp; omega
    have hm2 : 2 ≤ m1 := by omega
    clear h1 hm0
    by_cases hlt : n1 < m1
    · have hV1 := nv_lt us' NU.all
      rw [NU.val, HN1.out] at hV1
      have hV2 := tlen_pos NV.all (by rw [NV.trim, HM1.out]; omega)
      rw [NV.trim, HM1.out, NV.val] at hV2
      have hV3 := pow_mono (32 * n1) (32 * (m1 - 1)) (by omega)
      have hU0 := NU.nonneg
      have HQ : Hid (U / V = 0) := Int.ediv_eq_zero_of_lt hU0 (by omega)
      have HR : Hid (U % V = U) := Int.emod_eq_of_lt hU0 (by omega)
      have hlt' : (n1 : Int) < (m1 : Int) := by omega
      clear hV1 hV2 hV3
      go_wp2_with fail
      refine (clone_any A1 n1 c1 us' U w HN1.out hx1 NU (by omega)).mono ?_
      rintro e w2 ⟨rs, A3, n3, c3, hr, hl3, rfl, hc3, hr3', hf3, hb3⟩
      have HL3 := Lib.hid hl3
      have HF3 := Lib.hid hf3
      have F1 : Hid (IsNat (U / V) []) := by show IsNat _ _; rw [HQ.out]; exact IsNat.nil
      have F2 : Hid (IsNat (U % V) rs) := by show IsNat _ _; rw [HR.out]; exact hr
      clear hl3 hf3 HQ HR
      go_wp2_with fail
      go_ret3
      exact ⟨[], rs, none, A3, 0, n3, 0, c3, F1.out, F2.out, rfl, HL3.out, rfl, Nat.le_refl _, hc3, .inl rfl, hr3', (fun a h => by cases h), HF3.out, hb3⟩
    · have hlt' : decide ((n1 : Int) < (m1 : Int)) = false := by simp; omega
      have hlt2 : decide (n1 < m1) = false := by simp; omega
      go_wp2_with fail
      refine (divLong_any A1 B1 n1 m1 c1 d1 us' vs' U V w HN1.out HM1.out hx1 hy1 NU NV (by omega) (by omega) (by omega)).mono ?_
      rintro e w2 ⟨qs, rs, A2, A3, n2, n3, c2, c3, hq, hr, hl2, hl3, rfl, hc2, hc3, hr2, hr3, hf2, hf3, hb⟩
      have HL2 := Lib.hid hl2
      have HL3 := Lib.hid hl3
      have HF2 := Lib.hid hf2
      have HF3 := Lib.hid hf3
      clear hl2 hl3 hf2 hf3
      go_wp2_with fail
      go_ret3
      exact ⟨qs, rs, A2, A3, n2, n3, c2, c3, hq, hr, HL2.out, HL3.out, rfl, hc2, hc3, hr2, hr3, HF2.out, HF3.out, hb⟩
end Go.Proofs.YtaollppieonmbaaDoor
