/-
  Contracts of the reference's Bits (words of 32 bits as a row of bits, without noughts ahead), Words (back), Same and Is. Conditions: at most 2^15 words, rows of at most 2^20 bits.
  Contracts of the reference's Words (a row of bits as words of 32 bits, none of them nought at the end), Same and Is. Conditions: rows of at most 2^20 bits.
  The contract of the examples of layer 2: they hold. Condition: the table of math/bits stands in its variable.
  The contract of layer 2's helper 'small', and what bounds numbers. Conditions: none.
  Small laws of numbers, and the contract of the reference's Gcd on rows of bits. Conditions: rows of at most 2^20 bits.
  Contracts of the reference's Words (one word) and Text on rows of bits. Conditions: rows of at most 2^19 bits.
-/
import Derived.Test.YtnicecpmpnhmfaaDoorMNd
import Derived.Test.YtnicecpmpnhmfaaDoorMR
namespace Go.Proofs.YtnicecpmpnhmfaaDoor
open Go.RowKit
set_option maxRecDepth 100000

/-- So many bits of the word x behind the words before. -/
structure OfTo32 (ws : List Int) (i : Nat) (x : Int) (zs : List Bool) (j : Nat) : Prop where
  len : zs.length = 32 * i + j
  eq : val zs = nv (ws.take i) + 2 ^ (32 * i) * (x % 2 ^ j)
theorem OfTo32.next {ws : List Int} {i : Nat} {x : Int} {zs : List Bool} {j : Nat} (h : OfTo32 ws i x zs j) (b : Bool) (hb : decide (x / 2 ^ j % 2 = 1) = b) : OfTo32 ws i x (zs ++ [b]) (j + 1) := by
  obtain ⟨h1, h2⟩ := h
  refine ⟨by simp [h1]; omega, ?_⟩
  rw [val_snoc, mod_bit, h2, h1, Int.mul_add, Int.pow_add, ← hb]
  by_cases hx : x / 2 ^ j % 2 = 1
  · simp [hx]
    omega
  · simp [hx]
theorem OfTo32.done {ws : List Int} {i : Nat} {x : Int} {zs : List Bool} (h : OfTo32 ws i x zs 32) (hx : ws.getD i 0 = x) (hw : W32 x) : val zs = nv (ws.take (i + 1)) := by
  rw [h.eq, nv_take_succ, hx, Int.emod_eq_of_lt hw.1 (by have := hw.2; rw [show (2 : Int) ^ 32 = 4294967296 by decide]; exact this)]

/-- A row of the bits of a number, without noughts ahead. -/
structure IsBitsOf (v : Int) (xs : List Bool) : Prop where
  val : val xs = v
  len : (xs.length : Int) = blen v

theorem and_one_u32 (a : Int) (h0 : 0 ≤ a) (h1 : a < 4294967296) : bits BinOp.and IntKind.u32 a 1 = a % 2 := by
  obtain ⟨k, rfl⟩ := Int.eq_ofNat_of_zero_le h0
  have : bits BinOp.and IntKind.u32 (k : Int) ((1 : Nat) : Int) = ((k &&& 1 : Nat) : Int) := u32_and_nat k 1 (by omega) (by decide)
  rw [show ((1 : Nat) : Int) = 1 by rfl] at this
  rw [this, Nat.and_one_is_mod]
  omega

end Go.Proofs.YtnicecpmpnhmfaaDoor
namespace Go.Proofs.YtnicecpmpnhmfaaDoor
open Go.RowKit
set_option maxRecDepth 100000

theorem run_make_u32s (N : Int) (n : Nat) (hN : N = (n : Int)) (hn : n ≤ 1099511627776) (rs : List Int) (hr : rs = List.replicate n 0) (w : World) :
    (Instr.makeSlice 36 (.int .i64 N) (.int .i64 N)).run Tryd.prog w = .ok (.slice (some ⟨w.heap.size, 0, none⟩) n n) (w.alloc (.cells (wordArr rs) 87)) := by
  obtain ⟨i0, hi, hz0, hz1, hz2⟩ := info_parts u32_info
  subst hN hr
  have h := run_make (P := Tryd.prog) w 36 87 i0 (.int .u32 0) Tryd.underlying36 hi hz0 .i64 .i64 (n : Int) (n : Int) (by omega) (by omega) (by rw [hz2]; omega) (by omega)
  rw [Int.toNat_natCast, hz1, Nat.mul_one] at h
  rw [← wordArr_made]
  exact h

/-- So many bits lie in the words. -/
structure WdTo (xs : List Bool) (zs : List Int) (L i : Nat) : Prop where
  len : zs.length = L
  all : AllW zs
  eq : nv zs = val (xs.take i)
theorem WdTo.room {xs : List Bool} {zs : List Int} {L i : Nat} (h : WdTo xs zs L i) : zs.getD (i / 32) 0 < 2 ^ (i % 32) := by
  obtain ⟨h1, h2, h3⟩ := h
  have l1 := val_lt (xs.take i)
  have l2 := pow_mono (xs.take i).length i (by rw [List.length_take]; omega)
  have e1 : nv zs / 2 ^ (32 * (i / 32)) = nv (zs.drop (i / 32)) := nv_div zs h2 _
  have e2 : zs.getD (i / 32) 0 ≤ nv (zs.drop (i / 32)) := by
    rw [nv_tail (zs.drop (i / 32)), getD0_drop, Nat.add_zero]
    have := nv_nonneg (zs.drop (i / 32)).tail fun y hy => (h2.drop _) y (List.mem_of_mem_tail hy)
    omega
  have e3 : nv zs / 2 ^ (32 * (i / 32)) < 2 ^ (i % 32) := by
    rw [Int.ediv_lt_iff_lt_mul (pow_pos' _), ← Int.pow_add, show i % 32 + 32 * (i / 32) = i by omega]
    omega
  omega
theorem WdTo.yes {xs : List Bool} {zs : List Int} {L i : Nat} {z : Int} (h : WdTo xs zs L i) (hi : i / 32 < L) (hx : xs.getD i false = true) (ez : zs.getD (i / 32) 0 = z) : WdTo xs (zs.set (i / 32) (z + 2 ^ (i % 32))) L (i + 1) := by
  have hr := h.room
  rw [ez] at hr
  obtain ⟨h1, h2, h3⟩ := h
  have wz := h2.getD (i / 32)
  rw [ez] at wz
  have p2 : (2 : Int) ^ (i % 32) + 2 ^ (i % 32) ≤ 4294967296 := by
    have := pow_mono (i % 32 + 1) 32 (by omega)
    rw [Int.pow_succ, show (2 : Int) ^ 32 = 4294967296 by decide] at this
    omega
  have p1 := pow_pos' (i % 32)
  refine ⟨by rw [List.length_set, h1], h2.set _ ⟨by have := wz.1; omega, by omega⟩, ?_⟩
  rw [nv_set _ _ _ (by omega), ez, val_take_succ, hx, h3, if_pos rfl, show z + 2 ^ (i % 32) - z = 2 ^ (i % 32) by omega, ← Int.pow_add, show 32 * (i / 32) + i % 32 = i by omega]
theorem WdTo.no {xs : List Bool} {zs : List Int} {L i : Nat} (h : WdTo xs zs L i) (hx : xs.getD i false = false) : WdTo xs zs L (i + 1) := by
  obtain ⟨h1, h2, h3⟩ := h
  exact ⟨h1, h2, by rw [val_take_succ, hx, h3]; simp⟩

/-- What Words hands back. -/
def RetWs (v : Int) (w : World) (e : Ending) (w' : World) : Prop :=
  ∃ (ws : List Int) (A : Option Addr) (n c : Nat), IsNat v ws ∧ ws.length = n ∧ e = .returned (.slice A n c) ∧ n ≤ c ∧ Rn w' A ws ∧ Below w.heap.size w w'

set_option maxHeartbeats 3200000 in
theorem rwords_any (A : Option Addr) (n c : Nat) (xs : List Bool) (w : World) (hn : xs.length = n) (hx : Rd w A xs) (ln : n ≤ 1048576) :
    Calls Tryd.prog 44 #[.slice A n c] w (RetWs (val xs) w) := by
  have HN := Lib.hid hn
  have x0 := val_nonneg xs
  obtain ⟨b, hb, hbn, hbv⟩ := blen_bound x0 (val_lt xs)
  rw [hn] at hbn
  have CL := Lib.hid (rlen_any A n c xs w HN.out hx (by omega))
  rw [hb] at CL
  have BTOP : Hid (0 < b → (2 : Int) ^ (b - 1) ≤ val xs) := fun h => by
    obtain ⟨k, e, lt, ge, z⟩ := blen_spec x0
    have ek : k = b := by rw [hb] at e; omega
    subst ek
    rcases Int.lt_or_le 0 (val xs) with h2 | h2
    · exact (ge h2).1
    · have := z (by omega)
      omega
  obtain ⟨L, hL⟩ : ∃ L, (b + 31) / 32 = L := ⟨_, rfl⟩
  have eL : ((b : Int) + 31) / 32 = (L : Int) := by omega
  have hL1 : L ≤ 32768 := by omega
  have HL : Hid ((b + 31) / 32 = L) := hL
  obtain ⟨r0, hr0⟩ : ∃ r0, r0 = List.replicate L (0 : Int) := ⟨_, rfl⟩
  have hmk := run_make_u32s (L : Int) L rfl (by omega) r0 hr0
  have HR0 := Lib.hid hr0
  have HMK := Lib.hid hmk
  obtain ⟨v, hv⟩ : ∃ v, val xs = v := ⟨_, rfl⟩
  rw [hv]
  have HV := Lib.hid hv
  have FV : Hid (val (xs.take b) = v) := by show _ = _; rw [val_take_small hbv]; exact hv
  clear hn hb hL hr0 hmk hv hbv
  go_enter Tryd.func44, Tryd.ntmps44
  go_wp2_with fail
  refine CL.out.mono ?_
  rintro e w1 ⟨rfl, rfl⟩
  clear CL
  have hmk := HMK.out
  go_wp2_with fail
  clear hmk eL
  go_loopw [5] (fun s5 wr => ∃ (i : Nat) (zs : List Int), s5 = .int .i64 (i : Int) ∧ i ≤ b ∧ WdTo xs zs L i ∧ Blk wr w.heap.size 87 (wordArr zs) ∧ Hid (Below w.heap.size w wr)) (fun s5 _ => b - (intOf s5).toNat)
  case atStart => exact ⟨0, r0, rfl, Nat.zero_le _, ⟨by rw [HR0.out]; simp, by rw [HR0.out]; exact AllW.zeros _, by rw [HR0.out, nv_zeros]; simp [val]⟩, Blk.new _ _ _, bel_alloc (Below.refl _ _) _⟩
  case round =>
    obtain ⟨i, zs, rfl, hi, T, BZ, HB⟩ := hrel
    by_cases hlt : i < b
    · have hxr := hx.below HB.out (Nat.le_refl _)
      obtain ⟨g, off, rfl, hg, hcell⟩ := hxr.at_ (i := i) (by rw [HN.out]; omega)
      have hl1 : (i : Int) < (b : Int) := by omega
      have hl2 : (i : Int) < (n : Int) := by omega
      cases ex : xs.getD i false
      · have TN := Lib.hid (T.no ex)
        rw [ex] at hcell
        clear T ex hxr
        go_wp2_with fail
        go_roundw
        case rel => exact ⟨i + 1, zs, by go_num, by omega, TN.out, BZ, HB⟩
        case measure => simp [intOf]; omega
      · have hq : i / 32 < L := by have := HL.out; omega
        have TN := Lib.hid (T.yes hq ex rfl)
        have room := T.room
        have wz := T.all.getD (i / 32)
        have q0 := BZ.word (i := i / 32) (by rw [T.len]; exact hq)
        have q1 := BZ.frozen (i / 32)
        rw [ex] at hcell
        generalize zs.getD (i / 32) 0 = z at *
        have p1 := pow_pos' (i % 32)
        have p2 : (2 : Int) ^ (i % 32) < 4294967296 := by
          have := pow_mono (i % 32 + 1) 32 (by omega)
          rw [Int.pow_succ, show (2 : Int) ^ 32 = 4294967296 by decide] at this
          omega
        have hor := or_shl 1 z wz.1 (i % 32) (by omega) room
        have hwr : IntKind.u32.wrap (1 * (2 : Int) ^ (i % 32)) = 2 ^ (i % 32) := by rw [Int.one_mul, IntKind.wrap_u32, Int.emod_eq_of_lt (by omega) p2]
        rw [hwr] at hor
        have hwr2 : (2 : Int) ^ (i % 32) % 4294967296 = 2 ^ (i % 32) := Int.emod_eq_of_lt (by omega) p2
        have BZ2 := BZ.set_ (i / 32) (.int .u32 (z + 2 ^ (i % 32)))
        rw [wordArr_set] at BZ2
        have HB2 : Hid (Below w.heap.size w (wr.setCell ⟨w.heap.size, i / 32, none⟩ (.int .u32 (z + 2 ^ (i % 32))))) := bel_set HB.out (Nat.le_refl _) _
        have ei : (i : Int) / 32 < (L : Int) := by omega
        clear T ex hxr BZ HB
        go_wp2_with fail
        go_roundw
        case rel => exact ⟨i + 1, _, by go_num, by omega, TN.out, BZ2, HB2⟩
        case measure => simp [intOf]; omega
    · have ei : i = b := by omega
      subst ei
      have FIN : IsNat v zs := by
        refine ⟨by rw [T.eq]; exact FV.out, T.all, ?_⟩
        rw [T.len]
        have h1 := tlen_le zs
        rw [T.len] at h1
        rcases Nat.lt_or_ge (tlen zs) L with h2 | h2
        · exfalso
          have h3 := tlen_lt zs T.all
          rw [T.eq, FV.out] at h3
          have h4 := HL.out
          have h5 := BTOP.out (by omega)
          rw [HV.out] at h5
          have h6 := pow_mono (32 * tlen zs) (i - 1) (by omega)
          omega
        · omega
      have HLz := Lib.hid T.len
      clear T
      go_wp2_with fail
      go_ret
      exact ⟨zs, some ⟨w.heap.size, 0, none⟩, L, L, FIN, HLz.out, rfl, Nat.le_refl _, BZ.words, HB.out⟩

set_option maxHeartbeats 1600000 in
theorem same_any (A B : Option Addr) (n m c d : Nat) (us vs : List Int) (w : World) (hn : us.length = n) (hm : vs.length = m) (hx : Rn w A us) (hy : Rn w B vs) (ln : n ≤ 1048577) :
    Calls Tryd.prog 43 #[.slice A n c, .slice B m d] w fun e w' => e = .returned (.bool (decide (us = vs))) ∧ Below w.heap.size w w' := by
  have HN := Lib.hid hn
  have HM := Lib.hid hm
  obtain ⟨bb, hbb⟩ : ∃ bb, decide (us = vs) = bb := ⟨_, rfl⟩
  rw [hbb]
  have HBB := Lib.hid hbb
  clear hn hm hbb
  by_cases hnm : n = m
  · subst hnm
    go_enter Tryd.func43, Tryd.ntmps43
    go_wp2_with fail
    go_loopw [5] (fun s5 wr => ∃ i : Nat, s5 = .int .i64 (i : Int) ∧ i ≤ n ∧ Hid (∀ j, j < i → us.getD j 0 = vs.getD j 0) ∧ Hid (Below w.heap.size w wr)) (fun s5 _ => n - (intOf s5).toNat)
    case atStart => exact ⟨0, rfl, Nat.zero_le _, fun j hj => by omega, Below.refl _ _⟩
    case round =>
      obtain ⟨i, rfl, hi, H, HB⟩ := hrel
      by_cases hlt : i < n
      · have hxr := hx.below HB.out (Nat.le_refl _)
        have hyr := hy.below HB.out (Nat.le_refl _)
        obtain ⟨g, off, rfl, hg, hc1⟩ := hxr.at_ (i := i) (by rw [HN.out]; exact hlt)
        obtain ⟨g2, off2, rfl, hg2, hc2⟩ := hyr.at_ (i := i) (by rw [HM.out]; exact hlt)
        have hl1 : (i : Int) < (n : Int) := by omega
        by_cases he : us.getD i 0 = vs.getD i 0
        · have H2 : Hid (∀ j, j < i + 1 → us.getD j 0 = vs.getD j 0) := fun j hj => by
            rcases Nat.lt_or_ge j i with h | h
            · exact H.out j h
            · obtain rfl : j = i := by omega
              exact he
          rw [← he] at hc2
          generalize us.getD i 0 = x at *
          clear he H hxr hyr
          go_upto_region 6 with fail
          go_quiet (fail)
          go_wp2_with fail
          go_roundw
          case rel => exact ⟨i + 1, by go_num, by omega, H2, bel_drewN HB.out _⟩
          case measure => simp [intOf]; omega
        · have F : Hid (false = bb) := by
            show _ = _
            rw [← HBB.out]
            symm
            exact decide_eq_false fun h => he (by rw [h])
          have hne : (us.getD i 0 != vs.getD i 0) = true := by simpa using he
          have hne2 : (us.getD i 0 == vs.getD i 0) = false := by simpa using he
          generalize us.getD i 0 = x at *
          generalize vs.getD i 0 = y at *
          clear he H hxr hyr
          go_upto_region 6 with fail
          go_quiet (fail)
          go_wp2_with fail
          go_ret
          exact ⟨ret_bool F.out, bel_drewN HB.out _⟩
      · have F : Hid (true = bb) := by
          show _ = _
          rw [← HBB.out]
          symm
          refine decide_eq_true ?_
          apply List.ext_getElem?
          intro j
          rcases Nat.lt_or_ge j n with h | h
          · have e := H.out j (by omega)
            rw [List.getD_eq_getElem?_getD, List.getD_eq_getElem?_getD, List.getElem?_eq_getElem (by rw [HN.out]; exact h), List.getElem?_eq_getElem (by rw [HM.out]; exact h)] at e
            rw [List.getElem?_eq_getElem (by rw [HN.out]; exact h), List.getElem?_eq_getElem (by rw [HM.out]; exact h)]
            simpa using e
          · rw [List.getElem?_eq_none (by rw [HN.out]; exact h), List.getElem?_eq_none (by rw [HM.out]; exact h)]
        go_wp2_with fail
        go_ret
        exact ⟨ret_bool F.out, HB.out⟩
  · have F : Hid (false = bb) := by
      show _ = _
      rw [← HBB.out]
      symm
      exact decide_eq_false fun h => hnm (by rw [← HN.out, ← HM.out, h])
    have hnm' : ((n : Int) != (m : Int)) = true := by simp; omega
    go_enter Tryd.func43, Tryd.ntmps43
    go_wp2_with fail
    go_ret
    exact ⟨ret_bool F.out, Below.refl _ _⟩

theorem isr_any (A B : Option Addr) (n m c d : Nat) (us : List Int) (xs : List Bool) (w : World) (hn : us.length = n) (hm : xs.length = m) (hx : Rn w A us) (hy : Rd w B xs) (ln : n ≤ 1048577) (lm : m ≤ 1048576) (hu : IsNat (val xs) us) :
    Calls Tryd.prog 21 #[.slice A n c, .slice B m d] w fun e w' => e = .returned (.bool true) ∧ Below w.heap.size w w' := by
  have HN := Lib.hid hn
  have HM := Lib.hid hm
  clear hn hm
  go_enter Tryd.func21, Tryd.ntmps21
  go_wp2_with fail
  refine (rwords_any B m d xs w HM.out hy lm).mono ?_
  rintro e w1 ⟨ws, A1, n1, c1, h1, h2, rfl, h3, h4, hb⟩
  have e : us = ws := hu.eq h1
  have F : Hid (decide (us = ws) = true) := by show _ = _; exact decide_eq_true e
  have HL := Lib.hid h2
  have hx1 := hx.below hb (Nat.le_refl _)
  clear e h2
  go_wp2_with fail
  refine (same_any A A1 n n1 c c1 us ws w1 HN.out HL.out hx1 h4 ln).mono ?_
  rw [F.out]
  rintro e w2 ⟨rfl, hb2⟩
  have HB := Lib.hid (bel_trans hb hb2)
  go_wp2_with fail
  go_ret
  exact ⟨rfl, HB.out⟩
end Go.Proofs.YtnicecpmpnhmfaaDoor
namespace Go.Proofs.YtnicecpmpnhmfaaDoor
open Go.RowKit
set_option maxRecDepth 100000

theorem isNat_of (v : Int) (ws : List Int) (h1 : nv ws = v) (h2 : ws.all (fun x => decide (0 ≤ x) && decide (x < 4294967296)) = true) (h3 : tlen ws = ws.length) : IsNat v ws := by
  refine ⟨h1, fun x hx => ?_, h3⟩
  have := List.all_eq_true.1 h2 x hx
  simp only [Bool.and_eq_true, decide_eq_true_eq] at this
  exact this
theorem bytes_eq {s : ByteArray} {l : List UInt8} (h : s.data.toList = l) : s = ⟨l.toArray⟩ := by
  obtain ⟨⟨d⟩⟩ := s
  simp at h
  rw [h]

end Go.Proofs.YtnicecpmpnhmfaaDoor
namespace Go.Proofs.YtnicecpmpnhmfaaDoor
open Go.RowKit
set_option maxRecDepth 100000

/-- Are the slices short enough? -/
def smallB (ls : List (Option Addr × Nat × Nat)) : Bool := ls.all fun p => decide (p.2.1 ≤ 24)
theorem add_bd {x y : Int} {a b c : Nat} (h1 : x < 2 ^ (32 * a)) (h2 : y < 2 ^ (32 * b)) (h3 : a < c) (h4 : b < c) : x + y < 2 ^ (32 * c) := by
  have l1 := pow_mono (32 * a) (32 * (c - 1)) (by omega)
  have l2 := pow_mono (32 * b) (32 * (c - 1)) (by omega)
  have l3 := pow32 (c - 1)
  rw [show c - 1 + 1 = c by omega] at l3
  have := pow_pos' (32 * (c - 1))
  omega
theorem mul_bd {x y : Int} {a b c : Nat} (h0 : 0 ≤ x) (h1 : x < 2 ^ (32 * a)) (h2 : y < 2 ^ (32 * b)) (h3 : a + b = c) : x * y < 2 ^ (32 * c) := by
  subst h3
  rw [pow_off]
  have a1 : x * y ≤ x * 2 ^ (32 * b) := Int.mul_le_mul_of_nonneg_left (by omega) h0
  have a2 : x * 2 ^ (32 * b) < 2 ^ (32 * a) * 2 ^ (32 * b) := Int.mul_lt_mul_of_pos_right h1 (pow_pos' _)
  omega
/-- What is known of a number that was handed in: at most 24 words. -/
theorem in_bd {us : List Int} {n : Nat} (hu : AllW us) (hn : us.length = n) (h : n ≤ 24) (B : Nat) (hB : 24 ≤ B) : nv us < 2 ^ (32 * B) := by
  have := nv_lt us hu
  rw [hn] at this
  have := pow_mono (32 * n) (32 * B) (by omega)
  omega
/-- Of a row of a number's bits. -/
theorem IsBitsOf.le {v : Int} {xs : List Bool} {B : Nat} (h : IsBitsOf v xs) (h0 : 0 ≤ v) (h1 : v < 2 ^ B) : xs.length ≤ B := by
  have := (blen_bd h0 h1).2
  have := h.len
  omega
end Go.Proofs.YtnicecpmpnhmfaaDoor
namespace Go.Proofs.YtnicecpmpnhmfaaDoor
open Go.RowKit
set_option maxRecDepth 100000

theorem blen_pos {v : Int} (h : 0 < v) : (blen v == 0) = false := by
  obtain ⟨k, e, _, ge, _⟩ := blen_spec (Int.le_of_lt h)
  have := (ge h).2
  rw [e]
  simp
  omega
theorem gcd_nonneg (a b : Int) : 0 ≤ gcdI a b := by unfold gcdI; omega
theorem gcd_bd {a b : Int} {k : Nat} (ha : 0 ≤ a) (hb : 0 ≤ b) (h1 : a < 2 ^ k) (h2 : b < 2 ^ k) : gcdI a b < 2 ^ k := by
  by_cases h0 : a = 0
  · rw [h0, gcdI_zero_left hb]
    exact h2
  · have := (gcdI_le (a := a) (b := b) (by omega)).2
    omega
theorem gcd_zero {a b : Int} (ha : 0 ≤ a) (hb : 0 ≤ b) (h : gcdI a b = 0) : a = 0 ∧ b = 0 := by
  unfold gcdI at h
  have h1 : Nat.gcd a.toNat b.toNat = 0 := by omega
  rw [Nat.gcd_eq_zero_iff] at h1
  omega
theorem gcd_comm (a b : Int) : gcdI b a = gcdI a b := by unfold gcdI; rw [Nat.gcd_comm]
theorem gcd_rests {a b : Int} (ha : 0 ≤ a) (hb : 0 ≤ b) (h : gcdI a b ≠ 0) : a % gcdI a b = 0 ∧ b % gcdI a b = 0 ∧ gcdI (a / gcdI a b) (b / gcdI a b) = 1 := by
  obtain ⟨x, rfl⟩ := Int.eq_ofNat_of_zero_le ha
  obtain ⟨y, rfl⟩ := Int.eq_ofNat_of_zero_le hb
  unfold gcdI at h ⊢
  simp only [Int.toNat_natCast] at h ⊢
  have hg : 0 < Nat.gcd x y := by omega
  rw [← Int.natCast_emod, ← Int.natCast_emod, ← Int.natCast_ediv, ← Int.natCast_ediv]
  simp only [Int.toNat_natCast]
  refine ⟨?_, ?_, ?_⟩
  · rw [Nat.mod_eq_zero_of_dvd (Nat.gcd_dvd_left x y)]; rfl
  · rw [Nat.mod_eq_zero_of_dvd (Nat.gcd_dvd_right x y)]; rfl
  · rw [Nat.gcd_div (Nat.gcd_dvd_left x y) (Nat.gcd_dvd_right x y), Nat.div_self hg]; rfl

/-- A call came back with a row of which P holds. -/
def RetRw (P : List Bool → Prop) (w : World) (e : Ending) (w' : World) : Prop := ∃ (xs : List Bool) (A : Option Addr) (c : Nat), P xs ∧ e = .returned (.slice A xs.length c) ∧ xs.length ≤ c ∧ Rd w' A xs ∧ Below w.heap.size w w'
def IsGcdR (v : Int) (n : Nat) (xs : List Bool) : Prop := val xs = v ∧ xs.length ≤ n

set_option maxHeartbeats 3200000 in
theorem rgcd_any (A B : Option Addr) (n m c d : Nat) (xs ys : List Bool) (w : World) (hn : xs.length = n) (hm : ys.length = m) (hcn : n ≤ c) (hdm : m ≤ d) (hx : Rd w A xs) (hy : Rd w B ys) (N : Nat) (hN : N ≤ 1048576) (ln : n ≤ N) (lm : m ≤ N) :
    Calls Tryd.prog 65 #[.slice A n c, .slice B m d] w (RetRw (IsGcdR (gcdI (val xs) (val ys)) N) w) := by
  have HN := Lib.hid hn
  have HM := Lib.hid hm
  obtain ⟨G, hG⟩ : ∃ G, gcdI (val xs) (val ys) = G := ⟨_, rfl⟩
  rw [hG]
  have HG := Lib.hid hG
  clear hn hm hG
  go_enter Tryd.func65, Tryd.ntmps65
  go_wp2_with fail
  go_loopg [0, 1] (val ys).toNat (fun gk s0 s1 wr => ∃ (ps qs : List Bool) (P Q : Option Addr) (a b ca cb : Nat), s0 = .slice P a ca ∧ s1 = .slice Q b cb ∧ gk = (val qs).toNat ∧ Hid (ps.length = a) ∧ Hid (qs.length = b) ∧ a ≤ ca ∧ a ≤ N ∧ b ≤ N ∧ Rd wr P ps ∧ Rd wr Q qs ∧ Hid (gcdI (val ps) (val qs) = G) ∧ Hid (Below w.heap.size w wr) ∧ b ≤ cb)
  case atStart => exact ⟨xs, ys, A, B, n, m, c, d, rfl, rfl, rfl, HN, HM, hcn, ln, lm, hx, hy, HG, Below.refl _ _, hdm⟩
  case round =>
    clear hx hy
    obtain ⟨ps, qs, P, Q, a, b, ca, cb, rfl, rfl, hgk, lp, lq, hca, la, lb, hP, hQ, HG2, HB, hcb⟩ := hrel
    have GK := Lib.hid hgk
    have q0 := val_nonneg qs
    have p0 := val_nonneg ps
    have CL := Lib.hid (rlen_any Q b cb qs wr lq.out hQ (by omega))
    clear hgk
    by_cases h0 : val qs = 0
    · have F : Hid (IsGcdR G N ps) := by
        refine ⟨?_, by rw [lp.out]; exact la⟩
        rw [← HG2.out, h0, gcdI_zero_right p0]
      rw [h0, show blen 0 = 0 from rfl] at CL
      clear h0 HG2 GK
      go_wp2_with fail
      refine CL.out.mono ?_
      rintro e w1 ⟨rfl, rfl⟩
      clear CL
      go_wp2_with fail
      have hpl := lp.out
      subst hpl
      go_ret
      exact ⟨ps, P, ca, F.out, rfl, hca, hP, HB.out⟩
    · have hq0 : 0 < val qs := by omega
      obtain ⟨bl, hbl, _, ge, _⟩ := blen_spec q0
      have hbl1 := (ge hq0).2
      rw [hbl] at CL
      clear hbl ge
      have hbl2 : (0 : Int) < (bl : Int) := by omega
      go_wp2_with fail
      refine CL.out.mono ?_
      rintro e w1 ⟨rfl, rfl⟩
      clear CL
      go_wp2_with fail
      refine (rdiv_any P Q a b ca cb ps qs wr lp.out lq.out hP hQ (by omega) (by omega) hq0).mono ?_
      rintro e w2 ⟨ds, es, A2, B2, c2, d2, hp, rfl, hc2, hd2, hr2, hs2, hb2⟩
      obtain ⟨e1, e2, e3, _, e5⟩ := hp
      obtain ⟨_, em⟩ := div_of e1 e2 e3
      have HG3 : Hid (gcdI (val qs) (val es) = G) := by
        show _ = _
        rw [← em, gcdI_step p0 q0]
        exact HG2.out
      have MS : Hid ((val es).toNat < (val qs).toNat) := by show _ < _; omega
      have hQ2 := hQ.below hb2 (Nat.le_refl _)
      have HB2 := Lib.hid (bel_trans HB.out hb2)
      obtain ⟨el, hel⟩ : ∃ el, es.length = el := ⟨_, rfl⟩
      obtain ⟨dl, hdl⟩ : ∃ dl, ds.length = dl := ⟨_, rfl⟩
      rw [hel] at hd2 e5 ⊢
      rw [hdl]
      have EL := Lib.hid hel
      clear hel hdl e1 e2 e3 em hb2 HB hr2 hP hQ HG2 h0
      go_wp2_with fail
      go_roundg (val es).toNat
      case measure => rw [GK.out]; exact MS.out
      case rel => exact ⟨qs, es, Q, B2, b, el, cb, d2, rfl, rfl, rfl, lq, EL, hcb, lb, by omega, hQ2, hs2, HG3, HB2, hd2⟩
end Go.Proofs.YtnicecpmpnhmfaaDoor
namespace Go.Proofs.YtnicecpmpnhmfaaDoor
open Go.RowKit
set_option maxRecDepth 100000

theorem u64_info : (Tryd.prog.info? 22).map (fun i => (i.zero, i.size, i.bytes)) = some (some (.int .u64 0), 1, 8) := by kernel_rfl
theorem run_make_one (w : World) : (Instr.makeSlice 62 (.int .i64 1) (.int .i64 1)).run Tryd.prog w = .ok (.slice (some ⟨w.heap.size, 0, none⟩) 1 1) (w.alloc (.cells #[.int .u64 0] 22)) := by
  obtain ⟨i0, hi, hz0, hz1, hz2⟩ := info_parts u64_info
  have h := run_make (P := Tryd.prog) w 62 22 i0 (.int .u64 0) Tryd.underlying62 hi hz0 .i64 .i64 (1 : Int) (1 : Int) (by omega) (by omega) (by rw [hz2]; omega) (by omega)
  rw [hz1] at h
  have e : madeCells #[Value.int .u64 0] 1 = #[Value.int .u64 0] := by
    apply Array.ext'
    rw [toList_madeCells_one]
    rfl
  exact h.trans (by rw [← e]; rfl)
theorem or_bit64 (z : Int) (i : Nat) (h0 : 0 ≤ z) (h1 : z < 2 ^ i) (hi : i < 64) : bits BinOp.or IntKind.u64 z (2 ^ i) = z + 2 ^ i := by
  obtain ⟨z, rfl⟩ := Int.eq_ofNat_of_zero_le h0
  have h2 : z < 2 ^ i := by
    have : (z : Int) < ((2 ^ i : Nat) : Int) := by simpa using h1
    omega
  have h3 : 2 ^ i ≤ 2 ^ 63 := Nat.pow_le_pow_right (by decide) (by omega)
  have h4 : (2 : Nat) ^ 63 = 9223372036854775808 := by decide
  have e : (2 : Int) ^ i = ((2 ^ i : Nat) : Int) := by simp
  have e2 : 2 ^ i * 1 + z = 2 ^ i * 1 ||| z := Nat.two_pow_add_eq_or_of_lt h2 1
  rw [Nat.mul_one] at e2
  rw [e, bits_or_u64_nat _ _ (by omega) (by omega), Nat.or_comm, ← e2, Int.natCast_add, Int.add_comm]

/-- One word comes back, in a block of its own. -/
def RetW1 (v : Int) (w : World) (e : Ending) (w' : World) : Prop :=
  ∃ g : Nat, e = .returned (.slice (some ⟨g, 0, none⟩) 1 1) ∧ w.heap.size ≤ g ∧ Blk w' g 22 #[.int .u64 v] ∧ Below w.heap.size w w'

/-- So many digits of V, the last ones; v is what is left. -/
structure TxR (V v : Int) (l : List UInt8) : Prop where
  dig : l.all isDig = true
  eq : v * 10 ^ l.length + dval l = V
  v0 : 0 ≤ v
  head : v = 0 → ∀ c, l.head? = some c → c.toNat ≠ 48
theorem TxR.next {V v q r : Int} {l : List UInt8} (h : TxR V v l) (e : q * 10 + r = v) (h0 : 0 ≤ r) (h1 : r < 10) (hv : 0 < v) (c : UInt8) (hc : (c.toNat : Int) = 48 + r) : TxR V q (c :: l) := by
  obtain ⟨a1, a2, a3, a4⟩ := h
  refine ⟨?_, ?_, by omega, fun hq c' hc' => ?_⟩
  · simp only [List.all_cons, Bool.and_eq_true]
    refine ⟨?_, a1⟩
    unfold isDig
    simp only [Bool.and_eq_true, decide_eq_true_eq]
    omega
  · rw [dval_cons, List.length_cons, Int.pow_succ, hc, show 48 + r - 48 = r by omega, ← a2, ← e, Int.add_mul, Int.mul_assoc q, Int.mul_comm 10]
    omega
  · simp at hc'
    subst hc'
    omega
theorem TxR.done {V : Int} {l : List UInt8} (h : TxR V 0 l) (hl : l ≠ []) : IsText V l := by
  obtain ⟨a1, a2, a3, a4⟩ := h
  rcases l with _ | ⟨c, l⟩
  · exact absurd rfl hl
  have hc := a4 rfl c rfl
  have h1 := dval_low a1 hc
  have hp : (0 : Int) < 10 ^ l.length := Int.pow_pos (by decide)
  have e : dval (c :: l) = V := by rw [Int.zero_mul] at a2; omega
  exact ⟨a1, e, hl, fun h => by omega, fun _ d hd => by simp at hd; rw [← hd]; exact hc⟩

end Go.Proofs.YtnicecpmpnhmfaaDoor
