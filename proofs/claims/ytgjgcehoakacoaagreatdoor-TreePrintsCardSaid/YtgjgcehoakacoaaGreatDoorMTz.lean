/-
  flyballref10's numerals (positive, Digits). Conditions: none.
  flyballref10's FloatsExpr: the floats of an expression, in a row of the call's own.
  flyballref10's floats and Floats: the floats of a block, of a program, in a row of the call's own.
  flyballref10's Floats: the floats of a program, in a row of the call's own.
-/
import Derived.Test.YtgjgcehoakacoaaGreatDoorMTl
namespace Go.Proofs.YtgjgcehoakacoaaGreatDoor
open Go.RowKit
set_option maxRecDepth 100000

theorem dd_len {u : Nat} (hu : u < 18446744073709551616) : (Lib.decDigits u).length ≤ 20 := by
  rw [Lib.decDigits_length]
  by_cases h : 1 ≤ u
  · have := Lib.numDigits_eq u h hu
    split at this <;> omega
  · obtain rfl : u = 0 := by omega
    decide +kernel
/-- What is still ahead. -/
def zpre (m : Nat) : List UInt8 := if m < 10 then [] else Lib.decDigits (m / 10)
theorem zpre_is (m : Nat) : Lib.decDigits m = zpre m ++ [UInt8.ofNat (48 + m % 10)] := by
  unfold zpre
  rw [Lib.decDigits]
  by_cases h : m < 10
  · rw [dif_pos h, if_pos h, Nat.mod_eq_of_lt h]
    rfl
  · rw [dif_neg h, if_neg h]
theorem zone (m : Nat) : (strOfNums [48 + (m : Int) % 10]).data.toList = [UInt8.ofNat (48 + m % 10)] := by
  rw [strOfNums_data]
  show [toU8 (48 + (m : Int) % 10)] = _
  unfold toU8
  rw [show (48 + (m : Int) % 10).toNat = 48 + m % 10 by omega]
theorem zbytes {s : ByteArray} {l : List UInt8} (h : s.data.toList = l) : s = ⟨l.toArray⟩ := by
  obtain ⟨⟨s⟩⟩ := s
  simp at h
  rw [h]
set_option maxHeartbeats 8000000 in
theorem gPositive_any (n : Int) (N : Nat) (hN : N < 18446744073709551616) (hn : IntKind.u64.wrap n = (N : Int)) (w : World) :
    Calls Tryz.prog 62 #[.int .i64 n] w fun r w' => r = .returned (.string ⟨(Lib.decDigits N).toArray⟩) ∧ Below w.heap.size w w' := by
  have CV := run_convert_bytes_arg (P := Tryz.prog) (w.alloc (.cells #[.int .u8 (48 + (N : Int) % 10)] 5)) 67 5 Tryz.underlying67 Tryz.underlying5 w.heap.size 0 1 1 [48 + (N : Int) % 10] rfl (fun j hj => by
    obtain rfl : j = 0 := by omega
    simp [go_sem]) 9 Tryz.underlying9
  have o1 : IntKind.u8.wrap (48 + (N : Int) % 10) = 48 + (N : Int) % 10 := by rw [IntKind.wrap_u8]; omega
  have ST : Hid (Lib.decDigits N = zpre N ++ (strOfNums [48 + (N : Int) % 10]).data.toList) := by show _ = _; rw [zone]; exact zpre_is N
  have HB0 := Lib.hid (bel_alloc (Below.refl w.heap.size w) (.cells #[.int .u8 (48 + (N : Int) % 10)] 5))
  have DL := Lib.hid (dd_len hN)
  go_enter Tryz.func62, Tryz.ntmps62
  go_wp2_with fail
  go_loopw [3, 4] (fun s0 s3 wr => ∃ (m : Nat) (t : ByteArray), s0 = .int .u64 (m : Int) ∧ s3 = .string t ∧ m ≤ N ∧ Hid (Lib.decDigits N = zpre m ++ t.data.toList) ∧ Hid (Below w.heap.size w wr)) (fun s0 _ _ => (intOf s0).toNat)
  case atStart => exact ⟨N, _, rfl, rfl, Nat.le_refl _, ST, HB0⟩
  case round =>
    clear CV o1 ST HB0
    obtain ⟨m, t, rfl, rfl, hm, ST, HB⟩ := hrel
    by_cases hlt : 10 ≤ m
    · have hl1 : (10 : Int) ≤ (m : Int) := by omega
      have em : (m : Int) / 10 = ((m / 10 : Nat) : Int) := by omega
      obtain ⟨q, hq⟩ : ∃ q, m / 10 = q := ⟨_, rfl⟩
      have PD : zpre m = Lib.decDigits q := by unfold zpre; rw [if_neg (by omega), hq]
      rw [hq] at em
      have ST' := ST.out
      rw [PD, zpre_is q, List.append_assoc, ← zone q] at ST'
      have hts : t.size ≤ 20 := by
        have h1 := congrArg List.length ST.out
        rw [List.length_append, ← Lib.size_eq] at h1
        have := DL.out
        omega
      have hqm : q < m ∧ q ≤ N := by omega
      have CV := run_convert_bytes_arg (P := Tryz.prog) (wr.alloc (.cells #[.int .u8 (48 + (q : Int) % 10)] 5)) 67 5 Tryz.underlying67 Tryz.underlying5 wr.heap.size 0 1 1 [48 + (q : Int) % 10] rfl (fun j hj => by
        obtain rfl : j = 0 := by omega
        simp [go_sem]) 9 Tryz.underlying9
      have o1 : IntKind.u8.wrap (48 + (q : Int) % 10) = 48 + (q : Int) % 10 := by rw [IntKind.wrap_u8]; omega
      have z1 : (strOfNums [48 + (q : Int) % 10]).size = 1 := by rw [strOfNums_size]; rfl
      have hsz2 : ¬ 9223372036854775807 < (strOfNums [48 + (q : Int) % 10]).size + t.size := by omega
      have T2 : Hid (Lib.decDigits N = zpre q ++ (strOfNums [48 + (q : Int) % 10] ++ t).data.toList) := by
        show _ = _
        rw [ST', ByteArray.data_append, Array.toList_append]
      have HB2 := Lib.hid (bel_alloc HB.out (.cells #[.int .u8 (48 + (q : Int) % 10)] 5))
      clear ST ST' PD hq z1 HB hts
      go_wp2_with fail
      go_roundw
      case rel => exact ⟨q, _, rfl, rfl, hqm.2, T2, HB2⟩
      case measure => simp [intOf]; omega
    · have hl1 : ¬ (10 : Int) ≤ (m : Int) := by omega
      have PD : zpre m = [] := by unfold zpre; rw [if_pos (by omega)]
      have ST' := ST.out
      rw [PD, List.nil_append] at ST'
      have E := Lib.hid (zbytes ST'.symm)
      clear ST ST' PD
      go_wp2_with fail
      go_ret
      exact ⟨by rw [← E.out]; rfl, HB.out⟩
set_option maxHeartbeats 3200000 in
theorem gDigits_any (n : Int) (h0 : -9223372036854775808 ≤ n) (h1 : n ≤ 9223372036854775807) (w : World) :
    Calls Tryz.prog 32 #[.int .i64 n] w fun r w' => r = .returned (.string ⟨(Lib.itoa n).toArray⟩) ∧ Below w.heap.size w w' := by
  by_cases hn : n < 0
  · have hN : IntKind.u64.wrap (IntKind.i64.wrap (0 - n)) = ((n.natAbs : Nat) : Int) := by rw [IntKind.wrap_i64, IntKind.wrap_u64]; omega
    obtain ⟨m, hm⟩ : ∃ m, IntKind.i64.wrap (0 - n) = m := ⟨_, rfl⟩
    rw [hm] at hN
    have hm' : IntKind.i64.wrap (-n) = m := by rw [← hm, Int.zero_sub]
    have C := Lib.hid (gPositive_any m n.natAbs (by omega) hN w)
    have e : Lib.itoa n = 45 :: Lib.decDigits n.natAbs := by unfold Lib.itoa; rw [if_pos hn]
    have hz : (⟨(Lib.decDigits n.natAbs).toArray⟩ : ByteArray).size ≤ 20 := by rw [str_size]; exact dd_len (by omega)
    have E : Hid ((⟨#[45]⟩ : ByteArray) ++ ⟨(Lib.decDigits n.natAbs).toArray⟩ = ⟨(Lib.itoa n).toArray⟩) := by
      show _ = _
      rw [e]
      apply zbytes
      simp [ByteArray.data_append]
    generalize (⟨(Lib.decDigits n.natAbs).toArray⟩ : ByteArray) = z at *
    generalize (⟨(Lib.itoa n).toArray⟩ : ByteArray) = y at *
    clear e hN
    go_enter Tryz.func32, Tryz.ntmps32
    go_wp2_with fail
    refine C.out.mono ?_
    rintro x w1 ⟨rfl, b1⟩
    have hsz2 : ¬ 9223372036854775807 < (⟨#[45]⟩ : ByteArray).size + z.size := by have : (⟨#[45]⟩ : ByteArray).size = 1 := rfl; omega
    go_wp2_with fail
    go_ret
    exact ⟨by rw [← E.out]; rfl, b1⟩
  · have C := Lib.hid (gPositive_any n n.toNat (by omega) (by rw [IntKind.wrap_u64]; omega) w)
    have e : Lib.itoa n = Lib.decDigits n.toNat := by unfold Lib.itoa; rw [if_neg hn]
    rw [← e] at C
    clear e
    go_enter Tryz.func32, Tryz.ntmps32
    go_wp2_with fail
    refine C.out.mono ?_
    rintro x w1 ⟨rfl, b1⟩
    go_wp2_with fail
    go_ret
    exact ⟨rfl, b1⟩
end Go.Proofs.YtgjgcehoakacoaaGreatDoor
namespace Go.Proofs.YtgjgcehoakacoaaGreatDoor
open Go.RowKit
set_option maxRecDepth 100000

/-- An append of a row that some call made onto a row of the call's own. -/
theorem run_append_two {P : Program} (w : World) (base base2 : Nat) (t ty e : TypeId) (i : TypeInfo) (z : Value) (bytes : Nat) (ht : P.underlying t = some (.slice e)) (hi : P.info? e = some i) (hz : i.zero = some z)
    (hsize : i.size = 1) (hby : i.bytes = bytes) (hzs : z.cells.size = 1) (v : Value) (n : Nat) (xs : List Value) (hown : w.ownsRow base e 1 v n xs)
    (v2 : Value) (m : Nat) (ys : List Value) (hown2 : w.ownsRow base2 e 1 v2 m ys) (h1 : ∀ u ∈ ys, u.oneCell' = true) (h63 : n + m ≤ maxLen) (hbytes : (n + m) * bytes ≤ 140737488355328) (hbase : base ≤ w.heap.size) :
    ∃ v' w', (Builtin.append_ #[t, t] ty #[v, v2]).run P w = .ok v' w' ∧ w'.ownsRow base e 1 v' (n + m) (xs ++ ys) ∧ w.grownBy w' v.ownBlock := by
  have hl : ys.length = m := by have := hown2.1; simpa using this
  rcases hown2.2 with ⟨rfl, rfl⟩ | ⟨g, cap, cur, rfl, _⟩
  · have hy : ys = [] := List.eq_nil_of_length_eq_zero hl
    subst hy
    refine ⟨v, w, ?_, by simpa using hown, World.grownBy.refl w _⟩
    rcases hown.2 with ⟨rfl, rfl⟩ | ⟨g, cap, cur, rfl, _, _, hnc, _⟩
    · simp [Builtin.append_, run_underlying ht, sizeOf, typeInfo, hi, Builtin.lenOf, Builtin.firstCells]
    · simp [Builtin.append_, run_underlying ht, sizeOf, typeInfo, hi, Builtin.lenOf, Builtin.firstCells, hnc, storeCells]
  · obtain ⟨v', w', hrun, h2, h3, _, _⟩ := run_append_own_at (P := P) w base t ty e i z 1 bytes ht hi hz hsize hby hzs (by decide) v n xs hown ⟨g, 0, none⟩ m cap ys (by rw [hl]; simp) (hown2.cells rfl) h1 h63 hbytes hbase
    exact ⟨v', w', hrun, h2, h3⟩
theorem wpList_append_two {P : Program} (w : World) {ops : Array Oper} {rest : List Oper} {o : Oper} {a : Act} {Q : Exit → Act → World → Prop} (hgd : o.guard = none) (s x : Operand) (t : TypeId)
    (ho : o.op = .call { callee := .builtin .append, args := #[s, x], argTypes := #[t, t] })
    (base base2 : Nat) (e : TypeId) (i : TypeInfo) (z : Value) (bytes : Nat) (ht : P.underlying t = some (.slice e)) (hi : P.info? e = some i) (hz : i.zero = some z)
    (hsize : i.size = 1) (hby : i.bytes = bytes) (hzs : z.cells.size = 1) (v : Value) (n : Nat) (xs : List Value) (hs : a.eval s = v) (hown : w.ownsRow base e 1 v n xs)
    (v2 : Value) (m : Nat) (ys : List Value) (hx : a.eval x = v2) (hown2 : w.ownsRow base2 e 1 v2 m ys) (h1 : ∀ u ∈ ys, u.oneCell' = true) (h63 : n + m ≤ maxLen) (hbytes : (n + m) * bytes ≤ 140737488355328) (hbase : base ≤ w.heap.size)
    (h : ∀ v' w', w'.ownsRow base e 1 v' (n + m) (xs ++ ys) → w.grownBy w' v.ownBlock → wpList P ops Q rest (a.put o.dst v') w') : wpList P ops Q (o :: rest) a w := by
  refine wpList_plain hgd fun K hK => ?_
  obtain ⟨v', w', hrun, h2, h3⟩ := run_append_two (P := P) w base base2 t o.type e i z bytes ht hi hz hsize hby hzs v n xs hown v2 m ys hown2 h1 h63 hbytes hbase
  unfold Oper.wp execOp
  simp only [ho, resolve, invoke, builtin, Sem.run_bind, Sem.run_pure, Result.andThen_ok, List.map_toArray, List.map_cons, List.map_nil, hs, hx, hrun]
  exact hK _ _ (h v' w' h2 h3)
theorem own_slice {w : World} {base : Nat} {t : TypeId} {v : Value} {n : Nat} {xs : List Value} (h : w.ownsRow base t 1 v n xs) : ∃ A c, v = .slice A n c ∧ ∀ a, A = some a → base ≤ a.block := by
  rcases h.2 with ⟨rfl, rfl⟩ | ⟨g, cap, cur, rfl, hb, _⟩
  · exact ⟨none, 0, rfl, fun a h => by cases h⟩
  · exact ⟨_, _, rfl, fun a h => by injection h with h; subst h; exact hb⟩
theorem own_base {w : World} {base base' : Nat} {t : TypeId} {v : Value} {n : Nat} {xs : List Value} (h : w.ownsRow base t 1 v n xs) (hb : base' ≤ base) : w.ownsRow base' t 1 v n xs := by
  refine ⟨h.1, ?_⟩
  rcases h.2 with h | ⟨g, cap, cur, e, h1, h2⟩
  · exact .inl h
  · exact .inr ⟨g, cap, cur, e, Nat.le_trans hb h1, h2⟩
theorem flt_info : (Tryz.prog.info? 35).map (fun i => (i.zero, i.size, i.bytes)) = some (some (.int .u64 0), 1, 8) := by kernel_rfl
def fvs (l : List Int) : List Value := l.map (Value.int .u64)
theorem fvs_one (l : List Int) : ∀ u ∈ fvs l, u.oneCell' = true := by
  intro u hu
  obtain ⟨b, _, rfl⟩ := List.mem_map.1 hu
  rfl
theorem fvs_app (l m : List Int) : fvs l ++ fvs m = fvs (l ++ m) := List.map_append.symm
/-- Floats, in a row of the call's own. -/
def FlR (l : List Int) (w : World) (r : Ending) (w' : World) : Prop := (∃ A c, r = .returned (.slice A l.length c) ∧ w'.ownsRow w.heap.size 35 1 (.slice A l.length c) l.length (fvs l)) ∧ Below w.heap.size w w'
def FlsX (B : Nat) (e : Ex) : Prop := ∀ w : World, e.In B w → B ≤ w.heap.size → e.fls.length ≤ 100000 → Calls Tryz.prog 23 #[e.h.v] w (FlR e.fls w)
set_option maxHeartbeats 6400000 in
theorem gFlsX_of (B : Nat) (h : EH) (k : Nat → Ex) (ih : ∀ i, i < h.s.n → FlsX B (k i)) (w : World) (hok : h.ok) (hX0 : XsIn B w h.s k) (hB : B ≤ w.heap.size) (hl : ((if h.op = 3 then [h.fl] else []) ++ cat (fun i => (k i).fls) h.s.n).length ≤ 100000) :
    Calls Tryz.prog 23 #[h.v] w (FlR ((if h.op = 3 then [h.fl] else []) ++ cat (fun i => (k i).fls) h.s.n) w) := by
  obtain ⟨op, ps, bo, it, fl, nm, ⟨ao, n, c⟩⟩ := h
  dsimp only at ih hX0 hl ⊢
  generalize hL0 : (if op = 3 then [fl] else []) = L0 at hl ⊢
  have E0 := Lib.hid hL0
  clear hL0
  obtain ⟨i0, hi, hz0, hz1, hz2⟩ := info_parts flt_info
  have HI0 := Lib.hid (And.intro hi (And.intro hz0 (And.intro hz1 hz2)))
  have hX : XsIn B w ⟨ao, n, c⟩ k := hX0
  have HI := Lib.hid hX
  have IH := Lib.hid ih
  have HB := Lib.hid hB
  have HL := Lib.hid hl
  have hc := hok.s
  have hmx : n ≤ maxLen := Nat.le_trans hc.1 hc.2.1
  unfold maxLen at hmx
  have HM := Lib.hid hmx
  have C := x_cells (bx_new w (xO ⟨op, ps, bo, it, fl, nm, ⟨ao, n, c⟩⟩))
  obtain ⟨c0, -, -, -, c4, -, -⟩ := C
  dsimp only at c0 c4
  have hz : (bx w (xO ⟨op, ps, bo, it, fl, nm, ⟨ao, n, c⟩⟩)).heap.size = w.heap.size + 1 := bx_size _ _
  clear ih hok hX0 hX hB hc hmx hi hz0 hz1 hz2 hl
  show Calls Tryz.prog 23 #[.agg #[.int .u8 op, .int .i64 ps, .bool bo, .int .i32 it, .int .u64 fl, .string ⟨nm.toArray⟩, .slice ao n c]] w _
  go_enter Tryz.func23, Tryz.ntmps23
  go_upto_region 1 with fail
  rw [bx_x w ⟨op, ps, bo, it, fl, nm, ⟨ao, n, c⟩⟩]
  have BX := Lib.hid (bx_bel (Below.refl w.heap.size w) (Nat.le_refl _) (xO ⟨op, ps, bo, it, fl, nm, ⟨ao, n, c⟩⟩))
  have GX := Lib.hid (bx_new w (xO ⟨op, ps, bo, it, fl, nm, ⟨ao, n, c⟩⟩))
  generalize bx w (xO ⟨op, ps, bo, it, fl, nm, ⟨ao, n, c⟩⟩) = W at *
  go_upto_if 7 with fail
  go_cut [3] (fun t wr => ∃ (A : Option Addr) (m cc : Nat), t = .slice A m cc ∧ Hid (m = L0.length) ∧ Hid (wr.ownsRow (w.heap.size + 1) 35 1 (.slice A m cc) m (fvs L0)) ∧ Hid (Below w.heap.size w wr) ∧ Hid (wr.heap[w.heap.size]? = some (xO ⟨op, ps, bo, it, fl, nm, ⟨ao, n, c⟩⟩)))
  case first =>
    by_cases h3 : op = 3
    · subst h3
      obtain rfl : [fl] = L0 := by have := E0.out; simpa using this
      have own0 := (World.ownsRow_nil W (w.heap.size + 1) 35 1).alloc (.cells #[.int .u64 fl] 35)
      have lit := World.ownsRow_lit (base := w.heap.size + 1) (e := 35) (size := 1) W #[.int .u64 fl] 1 (by omega) (by decide) rfl
      rw [hz] at lit
      go_wp2_with (at_builtin; refine wpList_append_two _ rfl _ _ 28 rfl (w.heap.size + 1) (w.heap.size + 1) 35 i0 (.int .u64 0) 8 Tryz.underlying28 HI0.out.1 HI0.out.2.1 HI0.out.2.2.1 HI0.out.2.2.2 rfl _ 0 [] rfl own0 _ 1 _ rfl lit (fvs_one [fl]) (by decide) (by decide) (by simp; omega) ?_)
      intro v' w1 own' hgrow
      obtain ⟨A, cc, rfl, -⟩ := own_slice own'
      have OW := Lib.hid own'
      have BB := Lib.hid (bel_alloc BX.out (.cells #[.int .u64 fl] 35))
      have BG := Lib.hid (BB.out.grown hgrow (by simp; omega) (fun g e => by cases e))
      have HG := Lib.hid ((hgrow.block w.heap.size (by simp; omega) (fun e => by cases e)).trans ((heap_alloc_old W _ (show w.heap.size < W.heap.size by omega)).trans GX.out))
      clear own' hgrow own0 lit
      go_wp2_with fail
      go_meet
      exact ⟨A, 1, cc, rfl, rfl, OW.out, BG.out, HG.out⟩
    · have b0 : (op == 3) = false := by simp [h3]
      obtain rfl : [] = L0 := by have := E0.out; simpa [h3] using this
      go_wp2_with fail
      go_meet
      exact ⟨none, 0, 0, rfl, rfl, World.ownsRow_nil _ _ _ _, BX.out, GX.out⟩
  case rest =>
    obtain ⟨A0, m0, cc0, rfl, HM0, OW1, BW1, GX1⟩ := hcut
    clear c0 c4 GX hz BX
    go_wp2_with fail
    go_loopg [3, 4] n (fun gk t i wr => ∃ (j : Nat) (A : Option Addr) (m cc : Nat), t = .slice A m cc ∧ i = .int .i64 (j : Int) ∧ Hid (gk = n - j ∧ j ≤ n) ∧ Hid (m = (L0 ++ cat (fun i => (k i).fls) j).length) ∧ Hid (wr.ownsRow (w.heap.size + 1) 35 1 (.slice A m cc) m (fvs (L0 ++ cat (fun i => (k i).fls) j))) ∧ Hid (Below w.heap.size w wr) ∧ Hid (wr.heap[w.heap.size]? = some (xO ⟨op, ps, bo, it, fl, nm, ⟨ao, n, c⟩⟩)))
    case atStart => exact ⟨0, A0, m0, cc0, rfl, rfl, ⟨rfl, Nat.zero_le _⟩, by show _ = _; rw [HM0.out]; simp [cat], by show World.ownsRow _ _ _ _ _ _ _; simpa [cat] using OW1.out, BW1, GX1⟩
    case round =>
      clear OW1 BW1 GX1 HM0
      obtain ⟨j, A, m, cc, rfl, rfl, HJ, HMM, OW, BEL, GX⟩ := hrel
      have c6 : wr.cell? ⟨w.heap.size, 6, none⟩ = some (.slice ao n c) := (x_cells GX.out).2.2.2.2.2.2
      by_cases hlt : j < n
      · have z0 : (j : Int) < (n : Int) := by omega
        have ovi : IntKind.i64.wrap ((j : Int) + 1) = ((j + 1 : Nat) : Int) := by have := HM.out; rw [IntKind.wrap_i64]; omega
        obtain ⟨a, b, o, rfl, hA, hb, X, I⟩ := XsIn.at (HI.out.below BEL.out HB.out) (i := j) hlt
        have d0 := X.c0; have d1 := X.c1; have d2 := X.c2; have d3 := X.c3; have d4 := X.c4; have d5 := X.c5; have d6 := X.c6
        have hsz : (L0 ++ cat (fun i => (k i).fls) j).length + (k j).fls.length ≤ 100000 := by
          have h1 := HL.out
          have h2 := sm_one (f := fun i => ((k i).fls).length) hlt
          rw [List.length_append, cat_len] at h1 ⊢
          omega
        have C := Lib.hid (IH.out j hlt wr I (Nat.le_trans HB.out BEL.out.size) (by omega))
        have HLT := Lib.hid hlt
        have HSZ := Lib.hid hsz
        clear X I hb hlt hsz
        go_upto_region 7 with fail
        go_wp2_with fail
        refine C.out.mono ?_
        rintro r w1 ⟨⟨A2, c2, rfl, own2⟩, hb1⟩
        have own1 := own_below OW.out hb1
        have OWN := Lib.hid (And.intro own1 own2)
        have B1 := Lib.hid (bel_trans BEL.out hb1)
        have HX1 := Lib.hid ((hb1.block _ (Array.getElem?_eq_some_iff.1 GX.out).1).trans GX.out)
        have SZ1 : Hid (w.heap.size + 1 ≤ w1.heap.size) := (Array.getElem?_eq_some_iff.1 HX1.out).1
        clear own1 own2 hb1 C BEL GX
        go_wp2_with (at_builtin; refine wpList_append_two _ rfl _ _ 28 rfl (w.heap.size + 1) wr.heap.size 35 i0 (.int .u64 0) 8 Tryz.underlying28 HI0.out.1 HI0.out.2.1 HI0.out.2.2.1 HI0.out.2.2.2 rfl _ m _ rfl OWN.out.1 _ _ _ rfl OWN.out.2 (fvs_one _) ?c3 ?c4 SZ1.out ?_)
        case c3 => have := HSZ.out; have := HMM.out; unfold maxLen; omega
        case c4 => have := HSZ.out; have := HMM.out; omega
        intro v' w2 own' hgrow
        rw [fvs_app] at own'
        obtain ⟨A', c', rfl, -⟩ := own_slice own'
        have NE : ∀ g, (Value.slice A m cc).ownBlock = some g → w.heap.size + 1 ≤ g := fun g e => by
          exact (OWN.out.1.lt g e).1
        have OW' := Lib.hid own'
        have B2 := Lib.hid (B1.out.grown hgrow B1.out.size (fun g e => by have := NE g e; omega))
        have HX2 := Lib.hid ((hgrow.block _ (Array.getElem?_eq_some_iff.1 HX1.out).1 (fun e => by have := NE _ e.symm; omega)).trans HX1.out)
        have E2 := Lib.hid HMM.out
        clear own' hgrow NE OWN
        go_wp2_with fail
        go_roundg (n - (j + 1))
        case measure => have := HJ.out; have := HLT.out; omega
        case rel =>
          refine ⟨j + 1, A', _, c', rfl, by go_num, ⟨rfl, HLT.out⟩, ?_, ?_, B2.out, HX2.out⟩
          · show _ = _
            rw [E2.out]
            simp [cat, Nat.add_assoc]
          · show World.ownsRow _ _ _ _ _ _ _
            have := OW'.out
            rw [List.append_assoc] at this
            exact this
      · obtain rfl : j = n := by have := HJ.out; omega
        have z0 : ¬ (j : Int) < (j : Int) := by omega
        have E := Lib.hid HMM.out
        clear hlt
        go_wp2_with fail
        go_ret
        refine ⟨⟨A, cc, ?_, ?_⟩, BEL.out⟩
        · rw [← E.out]; rfl
        · rw [← E.out]; exact own_base OW.out (Nat.le_succ _)
theorem gFlsX_any (B : Nat) (e : Ex) : FlsX B e := by
  induction e using Ex.ind with
  | H e ih =>
    intro w hI hB hl
    rw [Ex.fls_eq] at hl ⊢
    exact gFlsX_of B e.h e.k ih w hI.ok hI.xs hB hl
end Go.Proofs.YtgjgcehoakacoaaGreatDoor
namespace Go.Proofs.YtgjgcehoakacoaaGreatDoor
open Go.RowKit
set_option maxRecDepth 100000

def FlsS (B : Nat) (s : Sl) (k : Nat → St) : Prop := ∀ w : World, SsIn B w s k → B ≤ w.heap.size → (cat (fun i => (k i).fls) s.n).length ≤ 100000 → Calls Tryz.prog 24 #[s.val] w (FlR (cat (fun i => (k i).fls) s.n) w)
set_option maxHeartbeats 6400000 in
theorem gFlsS_of (B : Nat) (s : Sl) (k : Nat → St) (ih : ∀ i, i < s.n → FlsS B (k i).h.ts (k i).t ∧ FlsS B (k i).h.es (k i).l) : FlsS B s k := by
  intro w hX hB hl
  obtain ⟨ao, n, c⟩ := s
  dsimp only at ih hl ⊢
  obtain ⟨i0, hi, hz0, hz1, hz2⟩ := info_parts flt_info
  have HI0 := Lib.hid (And.intro hi (And.intro hz0 (And.intro hz1 hz2)))
  have HI := Lib.hid hX
  have IH := Lib.hid ih
  have HB := Lib.hid hB
  have HL := Lib.hid hl
  have hc := hX.1
  have hmx : n ≤ maxLen := Nat.le_trans hc.1 hc.2.1
  unfold maxLen at hmx
  have HM := Lib.hid hmx
  have CX := Lib.hid fun (e : Ex) (w' : World) hI hB hl => gFlsX_any B e w' hI hB hl
  clear ih hX hB hc hmx hi hz0 hz1 hz2 hl
  show Calls Tryz.prog 24 #[.slice ao n c] w _
  go_enter Tryz.func24, Tryz.ntmps24
  go_wp2_with fail
  go_loopg [3, 4, 5] n (fun gk t i _ wr => ∃ (j : Nat) (A : Option Addr) (m cc : Nat), t = .slice A m cc ∧ i = .int .i64 (j : Int) ∧ Hid (gk = n - j ∧ j ≤ n) ∧ Hid (m = (cat (fun i => (k i).fls) j).length) ∧ Hid (wr.ownsRow w.heap.size 35 1 (.slice A m cc) m (fvs (cat (fun i => (k i).fls) j))) ∧ Hid (Below w.heap.size w wr))
  case atStart => exact ⟨0, none, 0, 0, rfl, rfl, ⟨rfl, Nat.zero_le _⟩, rfl, World.ownsRow_nil _ _ _ _, Below.refl _ _⟩
  case round =>
    obtain ⟨j, A, m, cc, rfl, rfl, HJ, HMM, OW, BEL⟩ := hrel
    by_cases hlt : j < n
    · have z0 : (j : Int) < (n : Int) := by omega
      have ovi : IntKind.i64.wrap ((j : Int) + 1) = ((j + 1 : Nat) : Int) := by have := HM.out; rw [IntKind.wrap_i64]; omega
      have HSZ : Hid ((cat (fun i => (k i).fls) j).length + (k j).fls.length ≤ 100000) := by
        show _ ≤ _
        have h1 := HL.out
        have h2 := sm_one (f := fun i => ((k i).fls).length) hlt
        rw [cat_len] at h1 ⊢
        omega
      obtain ⟨a, b, o, rfl, hA, hb, X, I⟩ := SsIn.at HI.out (i := j) hlt
      have IHJ := Lib.hid (IH.out j hlt)
      have HLT := Lib.hid hlt
      have e1 := St.fls_eq (k j)
      have HO := I.ok
      have XI := Lib.hid I.xs
      have EI := Lib.hid I.ex
      have TI := Lib.hid I.ts
      have LI := Lib.hid I.es
      have hnx : (k j).h.xs.n ≤ maxLen := Nat.le_trans HO.xs.1 HO.xs.2.1
      unfold maxLen at hnx
      have HNX := Lib.hid hnx
      have XX := Lib.hid X
      have hbw : b < w.heap.size := Nat.lt_of_lt_of_le hb HB.out
      have HBW := Lib.hid hbw
      have S1 : Hid ((cat (fun i => (k i).fls) j).length + (cat (fun i => ((k j).x i).fls) (k j).h.xs.n).length + (k j).e.fls.length + (cat (fun i => ((k j).t i).fls) (k j).h.ts.n).length + (cat (fun i => ((k j).l i).fls) (k j).h.es.n).length ≤ 100000) := by
        show _ ≤ _
        have := HSZ.out
        rw [e1] at this
        simp only [List.length_append] at this
        omega
      have FE : Hid (cat (fun i => (k i).fls) (j + 1) = cat (fun i => (k i).fls) j ++ cat (fun i => ((k j).x i).fls) (k j).h.xs.n ++ (k j).e.fls ++ cat (fun i => ((k j).t i).fls) (k j).h.ts.n ++ cat (fun i => ((k j).l i).fls) (k j).h.es.n) := by
        show _ = _
        simp only [cat]
        rw [e1]
        simp only [List.append_assoc]
      have d3 := (X.below hbw BEL.out (Nat.le_refl _)).c3
      clear X I e1 hb hlt HSZ hnx HO hbw
      generalize cat (fun i => (k i).fls) j = L at *
      generalize hxs : (k j).h.xs = xs at *
      obtain ⟨xa, xn, xc⟩ := xs
      dsimp only at *
      go_wp2_with fail
      go_loopg [3, 5] xn (fun gk t i wq => ∃ (q : Nat) (A : Option Addr) (m cc : Nat), t = .slice A m cc ∧ i = .int .i64 (q : Int) ∧ Hid (gk = xn - q ∧ q ≤ xn) ∧ Hid (m = (L ++ cat (fun i => ((k j).x i).fls) q).length) ∧ Hid (wq.ownsRow w.heap.size 35 1 (.slice A m cc) m (fvs (L ++ cat (fun i => ((k j).x i).fls) q))) ∧ Hid (Below w.heap.size w wq))
      case atStart => exact ⟨0, A, m, cc, rfl, rfl, ⟨rfl, Nat.zero_le _⟩, by show _ = _; rw [HMM.out]; simp [cat], by show World.ownsRow _ _ _ _ _ _ _; simpa [cat] using OW.out, BEL⟩
      case round =>
        clear OW HMM BEL d3
        obtain ⟨q, A', m', cc', rfl, rfl, HQ, HMQ, OWQ, BQ⟩ := hrel
        have Y := XX.out.below HBW.out BQ.out (Nat.le_refl _)
        have d3 := Y.c3
        rw [hxs] at d3
        dsimp only at d3
        by_cases hq : q < xn
        · have z1 : (q : Int) < (xn : Int) := by omega
          have ovq : IntKind.i64.wrap ((q : Int) + 1) = ((q + 1 : Nat) : Int) := by have := HNX.out; rw [IntKind.wrap_i64]; omega
          obtain ⟨a', b', o', rfl, hA', hb', X', I'⟩ := XsIn.at (XI.out.below BQ.out HB.out) (i := q) hq
          have d10 := X'.c0; have d11 := X'.c1; have d12 := X'.c2; have d13 := X'.c3; have d14 := X'.c4; have d15 := X'.c5; have d16 := X'.c6
          have SQ : Hid ((cat (fun i => ((k j).x i).fls) q).length + ((k j).x q).fls.length ≤ (cat (fun i => ((k j).x i).fls) xn).length) := by
            show _ ≤ _
            have h2 := sm_one (f := fun i => (((k j).x i).fls).length) hq
            rw [cat_len, cat_len]
            omega
          have HQLT := Lib.hid hq
          have II := Lib.hid I'
          clear Y X' I' hb' hq
          go_wp2_with fail
          refine (CX.out ((k j).x q) wr II.out (Nat.le_trans HB.out BQ.out.size) (by have h1 := S1.out; have h2 := SQ.out; omega)).mono ?_
          rintro r w1 ⟨⟨A1, c1, rfl, own2⟩, hb1⟩
          have OWN1 := Lib.hid (And.intro (own_below OWQ.out hb1) own2)
          have B1 := Lib.hid (bel_trans BQ.out hb1)
          clear own2 hb1
          go_wp2_with (at_builtin; refine wpList_append_two _ rfl _ _ 28 rfl w.heap.size wr.heap.size 35 i0 (.int .u64 0) 8 Tryz.underlying28 HI0.out.1 HI0.out.2.1 HI0.out.2.2.1 HI0.out.2.2.2 rfl _ m' _ rfl OWN1.out.1 _ _ _ rfl OWN1.out.2 (fvs_one _) ?a1 ?b1 B1.out.size ?_)
          case a1 => (have h1 := S1.out; have h2 := And.intro HMQ.out SQ.out; (try simp only [List.length_append] at h1 h2); unfold maxLen; omega)
          case b1 => (have h1 := S1.out; have h2 := And.intro HMQ.out SQ.out; (try simp only [List.length_append] at h1 h2); omega)
          intro v' x1 own' hgrow
          rw [fvs_app] at own'
          obtain ⟨D1, e1, rfl, -⟩ := own_slice own'
          have OW1 := Lib.hid own'
          have BB1 := Lib.hid (B1.out.grown hgrow B1.out.size (fun g e => (OWN1.out.1.lt g e).1))
          clear own' hgrow OWN1 B1
          go_wp2_with fail
          go_roundg (xn - (q + 1))
          case measure => have := HQ.out; have := HQLT.out; omega
          case rel =>
            refine ⟨q + 1, D1, _, e1, rfl, by go_num, ⟨rfl, HQLT.out⟩, ?_, ?_, BB1.out⟩
            · show _ = _
              rw [HMQ.out]
              simp [cat, Nat.add_assoc]
            · show World.ownsRow _ _ _ _ _ _ _
              have := OW1.out
              rw [List.append_assoc] at this
              exact this
        · obtain rfl : q = xn := by have := HQ.out; omega
          have z1 : ¬ (q : Int) < (q : Int) := by omega
          have d4 := Y.c4; have d5 := Y.c5; have d6 := Y.c6; have d7 := Y.c7; have d8 := Y.c8; have d9 := Y.c9; have d10 := Y.c10; have d13 := Y.c13; have d14 := Y.c14
          clear Y hq
          go_wp2_with fail
          refine (CX.out (k j).e wr (EI.out.below BQ.out HB.out) (Nat.le_trans HB.out BQ.out.size) (by have h1 := S1.out; omega)).mono ?_
          rintro r w1 ⟨⟨A1, c1, rfl, own2⟩, hb1⟩
          have OWN1 := Lib.hid (And.intro (own_below OWQ.out hb1) own2)
          have B1 := Lib.hid (bel_trans BQ.out hb1)
          clear own2 hb1
          go_wp2_with (at_builtin; refine wpList_append_two _ rfl _ _ 28 rfl w.heap.size wr.heap.size 35 i0 (.int .u64 0) 8 Tryz.underlying28 HI0.out.1 HI0.out.2.1 HI0.out.2.2.1 HI0.out.2.2.2 rfl _ m' _ rfl OWN1.out.1 _ _ _ rfl OWN1.out.2 (fvs_one _) ?a1 ?b1 B1.out.size ?_)
          case a1 => (have h1 := S1.out; have h2 := HMQ.out; (try simp only [List.length_append] at h1 h2); unfold maxLen; omega)
          case b1 => (have h1 := S1.out; have h2 := HMQ.out; (try simp only [List.length_append] at h1 h2); omega)
          intro v' x1 own' hgrow
          rw [fvs_app] at own'
          obtain ⟨D1, e1, rfl, -⟩ := own_slice own'
          have OW1 := Lib.hid own'
          have BB1 := Lib.hid (B1.out.grown hgrow B1.out.size (fun g e => (OWN1.out.1.lt g e).1))
          clear own' hgrow OWN1 B1
          have Y := XX.out.below HBW.out BB1.out (Nat.le_refl _)
          clear d3 d4 d5 d6 d7 d8 d9 d10 d13 d14
          have d13 := Y.c13
          clear Y
          go_wp2_with fail
          refine (IHJ.out.1 x1 (TI.out.below BB1.out HB.out) (Nat.le_trans HB.out BB1.out.size) (by have h1 := S1.out; omega)).mono ?_
          rintro r w2 ⟨⟨A2, c2, rfl, own2⟩, hb1⟩
          have OWN2 := Lib.hid (And.intro (own_below OW1.out hb1) own2)
          have B2 := Lib.hid (bel_trans BB1.out hb1)
          clear own2 hb1
          go_wp2_with (at_builtin; refine wpList_append_two _ rfl _ _ 28 rfl w.heap.size x1.heap.size 35 i0 (.int .u64 0) 8 Tryz.underlying28 HI0.out.1 HI0.out.2.1 HI0.out.2.2.1 HI0.out.2.2.2 rfl _ (m' + (k j).e.fls.length) _ rfl OWN2.out.1 _ _ _ rfl OWN2.out.2 (fvs_one _) ?a2 ?b2 B2.out.size ?_)
          case a2 => (have h1 := S1.out; have h2 := HMQ.out; (try simp only [List.length_append] at h1 h2); unfold maxLen; omega)
          case b2 => (have h1 := S1.out; have h2 := HMQ.out; (try simp only [List.length_append] at h1 h2); omega)
          intro v' x2 own' hgrow
          rw [fvs_app] at own'
          obtain ⟨D2, e2, rfl, -⟩ := own_slice own'
          have OW2 := Lib.hid own'
          have BB2 := Lib.hid (B2.out.grown hgrow B2.out.size (fun g e => (OWN2.out.1.lt g e).1))
          clear own' hgrow OWN2 B2
          have Y := XX.out.below HBW.out BB2.out (Nat.le_refl _)
          clear d13
          have d14 := Y.c14
          clear Y
          go_wp2_with fail
          refine (IHJ.out.2 x2 (LI.out.below BB2.out HB.out) (Nat.le_trans HB.out BB2.out.size) (by have h1 := S1.out; omega)).mono ?_
          rintro r w3 ⟨⟨A3, c3, rfl, own2⟩, hb1⟩
          have OWN3 := Lib.hid (And.intro (own_below OW2.out hb1) own2)
          have B3 := Lib.hid (bel_trans BB2.out hb1)
          clear own2 hb1
          go_wp2_with (at_builtin; refine wpList_append_two _ rfl _ _ 28 rfl w.heap.size x2.heap.size 35 i0 (.int .u64 0) 8 Tryz.underlying28 HI0.out.1 HI0.out.2.1 HI0.out.2.2.1 HI0.out.2.2.2 rfl _ (m' + (k j).e.fls.length + (cat (fun i => ((k j).t i).fls) (k j).h.ts.n).length) _ rfl OWN3.out.1 _ _ _ rfl OWN3.out.2 (fvs_one _) ?a3 ?b3 B3.out.size ?_)
          case a3 => (have h1 := S1.out; have h2 := HMQ.out; (try simp only [List.length_append] at h1 h2); unfold maxLen; omega)
          case b3 => (have h1 := S1.out; have h2 := HMQ.out; (try simp only [List.length_append] at h1 h2); omega)
          intro v' x3 own' hgrow
          rw [fvs_app] at own'
          obtain ⟨D3, e3, rfl, -⟩ := own_slice own'
          have OW3 := Lib.hid own'
          have BB3 := Lib.hid (B3.out.grown hgrow B3.out.size (fun g e => (OWN3.out.1.lt g e).1))
          clear own' hgrow OWN3 B3
          clear d14
          go_wp2_with fail
          go_roundg (n - (j + 1))
          case measure => have := HJ.out; have := HLT.out; omega
          case rel =>
            refine ⟨j + 1, D3, _, e3, rfl, by go_num, ⟨rfl, HLT.out⟩, ?_, ?_, BB3.out⟩
            · show _ = _
              rw [FE.out]
              rw [HMQ.out]
              simp only [List.length_append]
            · show World.ownsRow _ _ _ _ _ _ _
              rw [FE.out]
              have h := OW3.out
              simp only [List.append_assoc] at h ⊢
              exact h
    · obtain rfl : j = n := by have := HJ.out; omega
      have z0 : ¬ (j : Int) < (j : Int) := by omega
      have E := Lib.hid HMM.out
      clear hlt
      go_wp2_with fail
      go_ret
      refine ⟨⟨A, cc, ?_, ?_⟩, BEL.out⟩
      · rw [← E.out]; rfl
      · rw [← E.out]; exact OW.out
theorem gFlsS_e (B : Nat) (s : St) : FlsS B s.h.ts s.t ∧ FlsS B s.h.es s.l := by
  induction s using St.ind with
  | H s it il => exact ⟨gFlsS_of B _ _ fun i hi => it i hi, gFlsS_of B _ _ fun i hi => il i hi⟩
theorem gFlsS_any (B : Nat) (s : Sl) (k : Nat → St) : FlsS B s k := gFlsS_of B s k fun i _ => gFlsS_e B (k i)
end Go.Proofs.YtgjgcehoakacoaaGreatDoor
namespace Go.Proofs.YtgjgcehoakacoaaGreatDoor
open Go.RowKit
set_option maxRecDepth 100000

theorem gx_size {w : World} {b : Nat} {o : Obj} (h : w.heap[b]? = some o) : b + 1 ≤ w.heap.size := (Array.getElem?_eq_some_iff.1 h).1
set_option maxHeartbeats 6400000 in
theorem gFls_any (B : Nat) (p : Pr) (w : World) (hp : p.In B w) (hB : B ≤ w.heap.size) (hl : p.fls.length ≤ 100000) : Calls Tryz.prog 8 #[p.v] w (FlR p.fls w) := by
  obtain ⟨tk, ⟨ao, n, c⟩, k, is, ki, ss, ks⟩ := p
  obtain ⟨i0, hi, hz0, hz1, hz2⟩ := info_parts flt_info
  have HI0 := Lib.hid (And.intro hi (And.intro hz0 (And.intro hz1 hz2)))
  have HI : Hid (DsIn B w ⟨ao, n, c⟩ k) := hp.2.1
  have I1 : Hid (SsIn B w is ki) := hp.2.2.1
  have I2 : Hid (SsIn B w ss ks) := hp.2.2.2
  have HB := Lib.hid hB
  have S1 : Hid ((cat (fun i => (k i).fls) n).length + (cat (fun i => (ki i).fls) is.n).length + (cat (fun i => (ks i).fls) ss.n).length ≤ 100000) := by
    show _ ≤ _
    unfold Pr.fls at hl
    simp only [List.length_append] at hl
    omega
  have FE : Hid (Pr.fls ⟨tk, ⟨ao, n, c⟩, k, is, ki, ss, ks⟩ = cat (fun i => (k i).fls) n ++ cat (fun i => (ki i).fls) is.n ++ cat (fun i => (ks i).fls) ss.n) := rfl
  have hmx : n ≤ maxLen := Nat.le_trans HI.out.1.1 HI.out.1.2.1
  unfold maxLen at hmx
  have HM := Lib.hid hmx
  have CX := Lib.hid fun (e : Ex) (w' : World) hI hB hl => gFlsX_any B e w' hI hB hl
  have CS := Lib.hid fun (s : Sl) (k : Nat → St) (w' : World) hI hB hl => gFlsS_any B s k w' hI hB hl
  generalize Pr.fls ⟨tk, ⟨ao, n, c⟩, k, is, ki, ss, ks⟩ = FL at *
  clear hp hB hmx hi hz0 hz1 hz2 hl
  show Calls Tryz.prog 8 #[.agg #[.int .i64 tk, .slice ao n c, .slice is.ao is.n is.c, .slice ss.ao ss.n ss.c]] w _
  go_enter Tryz.func8, Tryz.ntmps8
  go_upto_region 1 with fail
  rw [bx_p w ⟨tk, ⟨ao, n, c⟩, k, is, ki, ss, ks⟩]
  have BX := Lib.hid (bx_bel (Below.refl w.heap.size w) (Nat.le_refl _) (pO ⟨tk, ⟨ao, n, c⟩, k, is, ki, ss, ks⟩))
  have GX := Lib.hid (bx_new w (pO ⟨tk, ⟨ao, n, c⟩, k, is, ki, ss, ks⟩))
  generalize bx w (pO ⟨tk, ⟨ao, n, c⟩, k, is, ki, ss, ks⟩) = W at *
  obtain ⟨-, p1, -, -⟩ := p_cells GX.out
  dsimp only at p1
  go_wp2_with fail
  go_loopg [3, 4] n (fun gk t i wr => ∃ (j : Nat) (A : Option Addr) (m cc : Nat), t = .slice A m cc ∧ i = .int .i64 (j : Int) ∧ Hid (gk = n - j ∧ j ≤ n) ∧ Hid (m = (cat (fun i => (k i).fls) j).length) ∧ Hid (wr.ownsRow (w.heap.size + 1) 35 1 (.slice A m cc) m (fvs (cat (fun i => (k i).fls) j))) ∧ Hid (Below w.heap.size w wr) ∧ Hid (wr.heap[w.heap.size]? = some (pO ⟨tk, ⟨ao, n, c⟩, k, is, ki, ss, ks⟩)))
  case atStart => exact ⟨0, none, 0, 0, rfl, rfl, ⟨rfl, Nat.zero_le _⟩, rfl, World.ownsRow_nil _ _ _ _, BX, GX⟩
  case round =>
    clear BX GX p1
    obtain ⟨j, A, m, cc, rfl, rfl, HJ, HMM, OW, BEL, GX⟩ := hrel
    obtain ⟨-, p1, -, -⟩ := p_cells GX.out
    dsimp only at p1
    by_cases hlt : j < n
    · have z0 : (j : Int) < (n : Int) := by omega
      have ovi : IntKind.i64.wrap ((j : Int) + 1) = ((j + 1 : Nat) : Int) := by have := HM.out; rw [IntKind.wrap_i64]; omega
      have HSZ : Hid ((cat (fun i => (k i).fls) j).length + ((k j).lo.fls.length + (k j).hi.fls.length) ≤ (cat (fun i => (k i).fls) n).length) := by
        show _ ≤ _
        have h2 := sm_one (f := fun i => ((k i).fls).length) hlt
        have h3 : (k j).fls.length = (k j).lo.fls.length + (k j).hi.fls.length := by unfold De.fls; rw [List.length_append]
        rw [cat_len, cat_len]
        omega
      obtain ⟨a, b, o, rfl, hA, hb, X, I⟩ := DsIn.at HI.out (i := j) hlt
      have HLT := Lib.hid hlt
      have II := Lib.hid I
      have hbw : b < w.heap.size := Nat.lt_of_lt_of_le hb HB.out
      have XX := Lib.hid X
      have HBW := Lib.hid hbw
      have Y := X.below hbw BEL.out (Nat.le_refl _)
      have d6 := Y.c6; have d7 := Y.c7; have d8 := Y.c8; have d9 := Y.c9; have d10 := Y.c10; have d11 := Y.c11; have d12 := Y.c12
      clear X Y I hb hlt hbw
      go_wp2_with fail
      refine (CX.out (k j).lo wr (II.out.2.1.below BEL.out HB.out) (Nat.le_trans HB.out BEL.out.size) (by have h1 := S1.out; have h2 := HSZ.out; omega)).mono ?_
      rintro r w1 ⟨⟨A1, c1, rfl, own2⟩, hb1⟩
      have OWN1 := Lib.hid (And.intro (own_below OW.out hb1) own2)
      have B1 := Lib.hid (bel_trans BEL.out hb1)
      have HG1 := Lib.hid (kept_obj hb1 GX.out)
      clear own2 hb1
      go_wp2_with (at_builtin; refine wpList_append_two _ rfl _ _ 28 rfl (w.heap.size + 1) wr.heap.size 35 i0 (.int .u64 0) 8 Tryz.underlying28 HI0.out.1 HI0.out.2.1 HI0.out.2.2.1 HI0.out.2.2.2 rfl _ m _ rfl OWN1.out.1 _ _ _ rfl OWN1.out.2 (fvs_one _) ?a1 ?b1 (gx_size HG1.out) ?_)
      case a1 => (have h1 := S1.out; have h2 := And.intro HMM.out HSZ.out; (try simp only [List.length_append] at h1 h2); unfold maxLen; omega)
      case b1 => (have h1 := S1.out; have h2 := And.intro HMM.out HSZ.out; (try simp only [List.length_append] at h1 h2); omega)
      intro v' x1 own' hgrow
      rw [fvs_app] at own'
      obtain ⟨D1, e1, rfl, -⟩ := own_slice own'
      have OW1 := Lib.hid own'
      have BB1 := Lib.hid (B1.out.grown hgrow B1.out.size (fun g e => Nat.le_of_succ_le (OWN1.out.1.lt g e).1))
      have GX1 := Lib.hid ((hgrow.block _ (gx_size HG1.out) (fun e => by have := (OWN1.out.1.lt _ e.symm).1; omega)).trans HG1.out)
      clear own' hgrow HG1 OWN1 B1
      clear d6 d7 d8 d9 d10 d11 d12 p1
      have Y := XX.out.below HBW.out BB1.out (Nat.le_refl _)
      have d13 := Y.c13; have d14 := Y.c14; have d15 := Y.c15; have d16 := Y.c16; have d17 := Y.c17; have d18 := Y.c18; have d19 := Y.c19
      obtain ⟨-, p1, -, -⟩ := p_cells GX1.out
      dsimp only at p1
      clear Y
      go_wp2_with fail
      refine (CX.out (k j).hi x1 (II.out.2.2.below BB1.out HB.out) (Nat.le_trans HB.out BB1.out.size) (by have h1 := S1.out; have h2 := HSZ.out; omega)).mono ?_
      rintro r w2 ⟨⟨A2, c2, rfl, own2⟩, hb1⟩
      have OWN2 := Lib.hid (And.intro (own_below OW1.out hb1) own2)
      have B2 := Lib.hid (bel_trans BB1.out hb1)
      have HG2 := Lib.hid (kept_obj hb1 GX1.out)
      clear own2 hb1
      go_wp2_with (at_builtin; refine wpList_append_two _ rfl _ _ 28 rfl (w.heap.size + 1) x1.heap.size 35 i0 (.int .u64 0) 8 Tryz.underlying28 HI0.out.1 HI0.out.2.1 HI0.out.2.2.1 HI0.out.2.2.2 rfl _ (m + (k j).lo.fls.length) _ rfl OWN2.out.1 _ _ _ rfl OWN2.out.2 (fvs_one _) ?a2 ?b2 (gx_size HG2.out) ?_)
      case a2 => (have h1 := S1.out; have h2 := And.intro HMM.out HSZ.out; (try simp only [List.length_append] at h1 h2); unfold maxLen; omega)
      case b2 => (have h1 := S1.out; have h2 := And.intro HMM.out HSZ.out; (try simp only [List.length_append] at h1 h2); omega)
      intro v' x2 own' hgrow
      rw [fvs_app] at own'
      obtain ⟨D2, e2, rfl, -⟩ := own_slice own'
      have OW2 := Lib.hid own'
      have BB2 := Lib.hid (B2.out.grown hgrow B2.out.size (fun g e => Nat.le_of_succ_le (OWN2.out.1.lt g e).1))
      have GX2 := Lib.hid ((hgrow.block _ (gx_size HG2.out) (fun e => by have := (OWN2.out.1.lt _ e.symm).1; omega)).trans HG2.out)
      clear own' hgrow HG2 OWN2 B2
      clear d13 d14 d15 d16 d17 d18 d19 p1
      go_wp2_with fail
      go_roundg (n - (j + 1))
      case measure => have := HJ.out; have := HLT.out; omega
      case rel =>
        refine ⟨j + 1, D2, _, e2, rfl, by go_num, ⟨rfl, HLT.out⟩, ?_, ?_, BB2.out, GX2.out⟩
        · show _ = _
          rw [HMM.out]
          simp [cat, De.fls, Nat.add_assoc]
        · show World.ownsRow _ _ _ _ _ _ _
          have h := OW2.out
          simp only [cat, De.fls, List.append_assoc] at h ⊢
          exact h
    · obtain rfl : j = n := by have := HJ.out; omega
      have z0 : ¬ (j : Int) < (j : Int) := by omega
      obtain ⟨-, -, p2, -⟩ := p_cells GX.out
      dsimp only at p2
      clear hlt
      go_wp2_with fail
      refine (CS.out is ki wr (I1.out.below BEL.out HB.out) (Nat.le_trans HB.out BEL.out.size) (by have h1 := S1.out; omega)).mono ?_
      rintro r w1 ⟨⟨A1, c1, rfl, own2⟩, hb1⟩
      have OWN1 := Lib.hid (And.intro (own_below OW.out hb1) own2)
      have B1 := Lib.hid (bel_trans BEL.out hb1)
      have HG1 := Lib.hid (kept_obj hb1 GX.out)
      clear own2 hb1
      go_wp2_with (at_builtin; refine wpList_append_two _ rfl _ _ 28 rfl (w.heap.size + 1) wr.heap.size 35 i0 (.int .u64 0) 8 Tryz.underlying28 HI0.out.1 HI0.out.2.1 HI0.out.2.2.1 HI0.out.2.2.2 rfl _ m _ rfl OWN1.out.1 _ _ _ rfl OWN1.out.2 (fvs_one _) ?a1 ?b1 (gx_size HG1.out) ?_)
      case a1 => (have h1 := S1.out; have h2 := HMM.out; (try simp only [List.length_append] at h1 h2); unfold maxLen; omega)
      case b1 => (have h1 := S1.out; have h2 := HMM.out; (try simp only [List.length_append] at h1 h2); omega)
      intro v' x1 own' hgrow
      rw [fvs_app] at own'
      obtain ⟨D1, e1, rfl, -⟩ := own_slice own'
      have OW1 := Lib.hid own'
      have BB1 := Lib.hid (B1.out.grown hgrow B1.out.size (fun g e => Nat.le_of_succ_le (OWN1.out.1.lt g e).1))
      have GX1 := Lib.hid ((hgrow.block _ (gx_size HG1.out) (fun e => by have := (OWN1.out.1.lt _ e.symm).1; omega)).trans HG1.out)
      clear own' hgrow HG1 OWN1 B1
      clear p1 p2
      obtain ⟨-, -, -, p3⟩ := p_cells GX1.out
      dsimp only at p3
      go_wp2_with fail
      refine (CS.out ss ks x1 (I2.out.below BB1.out HB.out) (Nat.le_trans HB.out BB1.out.size) (by have h1 := S1.out; omega)).mono ?_
      rintro r w2 ⟨⟨A2, c2, rfl, own2⟩, hb1⟩
      have OWN2 := Lib.hid (And.intro (own_below OW1.out hb1) own2)
      have B2 := Lib.hid (bel_trans BB1.out hb1)
      have HG2 := Lib.hid (kept_obj hb1 GX1.out)
      clear own2 hb1
      go_wp2_with (at_builtin; refine wpList_append_two _ rfl _ _ 28 rfl (w.heap.size + 1) x1.heap.size 35 i0 (.int .u64 0) 8 Tryz.underlying28 HI0.out.1 HI0.out.2.1 HI0.out.2.2.1 HI0.out.2.2.2 rfl _ (m + (cat (fun i => (ki i).fls) is.n).length) _ rfl OWN2.out.1 _ _ _ rfl OWN2.out.2 (fvs_one _) ?a2 ?b2 (gx_size HG2.out) ?_)
      case a2 => (have h1 := S1.out; have h2 := HMM.out; (try simp only [List.length_append] at h1 h2); unfold maxLen; omega)
      case b2 => (have h1 := S1.out; have h2 := HMM.out; (try simp only [List.length_append] at h1 h2); omega)
      intro v' x2 own' hgrow
      rw [fvs_app] at own'
      obtain ⟨D2, e2, rfl, -⟩ := own_slice own'
      have OW2 := Lib.hid own'
      have BB2 := Lib.hid (B2.out.grown hgrow B2.out.size (fun g e => Nat.le_of_succ_le (OWN2.out.1.lt g e).1))
      have GX2 := Lib.hid ((hgrow.block _ (gx_size HG2.out) (fun e => by have := (OWN2.out.1.lt _ e.symm).1; omega)).trans HG2.out)
      clear own' hgrow HG2 OWN2 B2
      clear p3
      have E : Hid (m + (cat (fun i => (ki i).fls) is.n).length + (cat (fun i => (ks i).fls) ss.n).length = FL.length) := by
        show _ = _
        rw [FE.out, HMM.out]
        simp only [List.length_append]
      have OWF : Hid (x2.ownsRow w.heap.size 35 1 (.slice D2 (m + (cat (fun i => (ki i).fls) is.n).length + (cat (fun i => (ks i).fls) ss.n).length) e2) (m + (cat (fun i => (ki i).fls) is.n).length + (cat (fun i => (ks i).fls) ss.n).length) (fvs FL)) := by
        show World.ownsRow _ _ _ _ _ _ _
        have h := own_base OW2.out (Nat.le_succ _)
        rw [FE.out]
        simp only [List.append_assoc] at h ⊢
        exact h
      clear OW2 FE
      generalize m + (cat (fun i => (ki i).fls) is.n).length + (cat (fun i => (ks i).fls) ss.n).length = mm at *
      go_wp2_with fail
      go_ret
      refine ⟨⟨D2, e2, ?_, ?_⟩, BB2.out⟩
      · rw [← E.out]; rfl
      · rw [← E.out]; exact OWF.out
end Go.Proofs.YtgjgcehoakacoaaGreatDoor
