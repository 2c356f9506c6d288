/-
  Contracts of the reference's Words (a row of bits as words of 32 bits, none of them nought at the end), Same and Is. Conditions: rows of at most 2^20 bits.
-/
import Derived.Test.YtaollppieonmbaaDoorQbits
namespace Go.Proofs.YtaollppieonmbaaDoor
open Go.RowKit
set_option maxRecDepth 100000

theorem run_make_u32s (N : Int) (n : Nat) (hN : N = (n : Int)) (hn : n ≤ 1099511627776) (rs : List Int) (hr : rs = List.replicate n 0) (w : World) :
    (Instr.makeSlice 22 (.int .i64 N) (.int .i64 N)).run Tryd.prog w = .ok (.slice (some ⟨w.heap.size, 0, none⟩) n n) (w.alloc (.cells (wordArr rs) 80)) := by
  obtain ⟨i0, hi, hz0, hz1, hz2⟩ := info_parts u32_info
  subst hN hr
  have h := run_make (P := Tryd.prog) w 22 80 i0 (.int .u32 0) Tryd.underlying22 hi hz0 .i64 .i64 (n : Int) (n : Int) (by omega) (by omega) (by rw [hz2]; omega) (by omega)
  rw [Int.toNat_natCast, hz1, Nat.mul_one] at h
  rw [← wordArr_made]
  exact h

/-- So many bits lie in the words. -/
structure WdTo (xs : List Bool) (zs : List Int) (L i : Nat) : Prop where
  len : zs.length = L
  all : AllW zs
  eq : nv zs = val (xs.take i)
theorem WdTo.room {xs : List Bool} {zs : List Int} {L i : Nat} (h : WdTo xs zs L i) : zs.getD (i / 32) 0 < 2 ^ (i % 32) := by
  obtain ⟨h1, h2, h3⟩ := h
  have l1 := val_lt (xs.take i)
  have l2 := pow_mono (xs.take i).length i (by rw [List.length_take]; omega)
  have e1 : nv zs / 2 ^ (32 * (i / 32)) = nv (zs.drop (i / 32)) := nv_div zs h2 _
  have e2 : zs.getD (i / 32) 0 ≤ nv (zs.drop (i / 32)) := by
    rw [nv_tail (zs.drop (i / 32)), getD0_drop, Nat.add_zero]
    have := nv_nonneg (zs.drop (i / 32)).tail fun y hy => (h2.drop _) y (List.mem_of_mem_tail hy)
    omega
  have e3 : nv zs / 2 ^ (32 * (i / 32)) < 2 ^ (i % 32) := by
    rw [Int.ediv_lt_iff_lt_mul (pow_pos' _), ← Int.pow_add, show i % 32 + 32 * (i / 32) = i by omega]
    omega
  omega
theorem WdTo.yes {xs : List Bool} {zs : List Int} {L i : Nat} {z : Int} (h : WdTo xs zs L i) (hi : i / 32 < L) (hx : xs.getD i false = true) (ez : zs.getD (i / 32) 0 = z) : WdTo xs (zs.set (i / 32) (z + 2 ^ (i % 32))) L (i + 1) := by
  have hr := h.room
  rw [ez] at hr
  obtain ⟨h1, h2, h3⟩ := h
  have wz := h2.getD (i / 32)
  rw [ez] at wz
  have p2 : (2 : Int) ^ (i % 32) + 2 ^ (i % 32) ≤ 4294967296 := by
    have := pow_mono (i % 32 + 1) 32 (by omega)
    rw [Int.pow_succ, show (2 : Int) ^ 32 = 4294967296 by decide] at this
    omega
  have p1 := pow_pos' (i % 32)
  refine ⟨by rw [List.length_set, h1], h2.set _ ⟨by have := wz.1; omega, by omega⟩, ?_⟩
  rw [nv_set _ _ _ (by omega), ez, val_take_succ, hx, h3, if_pos rfl, show z + 2 ^ (i % 32) - z = 2 ^ (i % 32) by omega, ← Int.pow_add, show 32 * (i / 32) + i % 32 = i by omega]
theorem WdTo.no {xs : List Bool} {zs : List Int} {L i : Nat} (h : WdTo xs zs L i) (hx : xs.getD i false = false) : WdTo xs zs L (i + 1) := by
  obtain ⟨h1, h2, h3⟩ := h
  exact ⟨h1, h2, by rw [val_take_succ, hx, h3]; simp⟩

/-- What Words hands back. -/
def RetWs (v : Int) (w : World) (e : Ending) (w' : World) : Prop :=
  ∃ (ws : List Int) (A : Option Addr) (n c : Nat), IsNat v ws ∧ ws.length = n ∧ e = .returned (.slice A n c) ∧ n ≤ c ∧ Rn w' A ws ∧ Below w.heap.size w w'

set_option maxHeartbeats 3200000 in
theorem rwords_any (A : Option Addr) (n c : Nat) (xs : List Bool) (w : World) (hn : xs.length = n) (hx : Rd w A xs) (ln : n ≤ 1048576) :
    Calls Tryd.prog 63 #[.slice A n c] w (RetWs (val xs) w) := by
  have HN := Lib.hid hn
  have x0 := val_nonneg xs
  obtain ⟨b, hb, hbn, hbv⟩ := blen_bound x0 (val_lt xs)
  rw [hn] at hbn
  have CL := Lib.hid (rlen_any A n c xs w HN.out hx (by omega))
  rw [hb] at CL
  have BTOP : Hid (0 < b → (2 : Int) ^ (b - 1) ≤ val xs) := fun h => by
    obtain ⟨k, e, lt, ge, z⟩ := blen_spec x0
    have ek : k = b := by rw [hb] at e; omega
    subst ek
    rcases Int.lt_or_le 0 (val xs) with h2 | h2
    · exact (ge h2).1
    · have := z (by omega)
      omega
  obtain ⟨L, hL⟩ : ∃ L, (b + 31) / 32 = L := ⟨_, rfl⟩
  have eL : ((b : Int) + 31) / 32 = (L : Int) := by omega
  have hL1 : L ≤ 32768 := by omega
  have HL : Hid ((b + 31) / 32 = L) := hL
  obtain ⟨r0, hr0⟩ : ∃ r0, r0 = List.replicate L (0 : Int) := ⟨_, rfl⟩
  have hmk := run_make_u32s (L : Int) L rfl (by omega) r0 hr0
  have HR0 := Lib.hid hr0
  have HMK := Lib.hid hmk
  obtain ⟨v, hv⟩ : ∃ v, val xs = v := ⟨_, rfl⟩
  rw [hv]
  have HV := Lib.hid hv
  have FV : Hid (val (xs.take b) = v) := by show _ = _; rw [val_take_small hbv]; exact hv
  clear hn hb hL hr0 hmk hv hbv
  go_enter Tryd.func63, Tryd.ntmps63
  go_wp2_with fail
  refine CL.out.mono ?_
  rintro e w1 ⟨rfl, rfl⟩
  clear CL
  have hmk := HMK.out
  go_wp2_with fail
  clear hmk eL
  go_loopw [5] (fun s5 wr => ∃ (i : Nat) (zs : List Int), s5 = .int .i64 (i : Int) ∧ i ≤ b ∧ WdTo xs zs L i ∧ Blk wr w.heap.size 80 (wordArr zs) ∧ Hid (Below w.heap.size w wr)) (fun s5 _ => b - (intOf s5).toNat)
  case atStart => exact ⟨0, r0, rfl, Nat.zero_le _, ⟨by rw [HR0.out]; simp, by rw [HR0.out]; exact AllW.zeros _, by rw [HR0.out, nv_zeros]; simp [val]⟩, Blk.new _ _ _, bel_alloc (Below.refl _ _) _⟩
  case round =>
    obtain ⟨i, zs, rfl, hi, T, BZ, HB⟩ := hrel
    by_cases hlt : i < b
    · have hxr := hx.below HB.out (Nat.le_refl _)
      obtain ⟨g, off, rfl, hg, hcell⟩ := hxr.at_ (i := i) (by rw [HN.out]; omega)
      have hl1 : (i : Int) < (b : Int) := by omega
      have hl2 : (i : Int) < (n : Int) := by omega
      cases ex : xs.getD i false
      · have TN := Lib.hid (T.no ex)
        rw [ex] at hcell
        clear T ex hxr
        go_wp2_with fail
        go_roundw
        case rel => exact ⟨i + 1, zs, by go_num, by omega, TN.out, BZ, HB⟩
        case measure => simp [intOf]; omega
      · have hq : i / 32 < L := by have := HL.out; omega
        have TN := Lib.hid (T.yes hq ex rfl)
        have room := T.room
        have wz := T.all.getD (i / 32)
        have q0 := BZ.word (i := i / 32) (by rw [T.len]; exact hq)
        have q1 := BZ.frozen (i / 32)
        rw [ex] at hcell
        generalize zs.getD (i / 32) 0 = z at *
        have p1 := pow_pos' (i % 32)
        have p2 : (2 : Int) ^ (i % 32) < 4294967296 := by
          have := pow_mono (i % 32 + 1) 32 (by omega)
          rw [Int.pow_succ, show (2 : Int) ^ 32 = 4294967296 by decide] at this
          omega
        have hor := or_shl 1 z wz.1 (i % 32) (by omega) room
        have hwr : IntKind.u32.wrap (1 * (2 : Int) ^ (i % 32)) = 2 ^ (i % 32) := by rw [Int.one_mul, IntKind.wrap_u32, Int.emod_eq_of_lt (by omega) p2]
        rw [hwr] at hor
        have hwr2 : (2 : Int) ^ (i % 32) % 4294967296 = 2 ^ (i % 32) := Int.emod_eq_of_lt (by omega) p2
        have BZ2 := BZ.set_ (i / 32) (.int .u32 (z + 2 ^ (i % 32)))
        rw [wordArr_set] at BZ2
        have HB2 : Hid (Below w.heap.size w (wr.setCell ⟨w.heap.size, i / 32, none⟩ (.int .u32 (z + 2 ^ (i % 32))))) := bel_set HB.out (Nat.le_refl _) _
        have ei : (i : Int) / 32 < (L : Int) := by omega
        clear T ex hxr BZ HB
        go_wp2_with fail
        go_roundw
        case rel => exact ⟨i + 1, _, by go_num, by omega, TN.out, BZ2, HB2⟩
        case measure => simp [intOf]; omega
    · have ei : i = b := by omega
      subst ei
      have FIN : IsNat v zs := by
        refine ⟨by rw [T.eq]; exact FV.out, T.all, ?_⟩
        rw [T.len]
        have h1 := tlen_le zs
        rw [T.len] at h1
        rcases Nat.lt_or_ge (tlen zs) L with h2 | h2
        · exfalso
          have h3 := tlen_lt zs T.all
          rw [T.eq, FV.out] at h3
          have h4 := HL.out
          have h5 := BTOP.out (by omega)
          rw [HV.out] at h5
          have h6 := pow_mono (32 * tlen zs) (i - 1) (by omega)
          omega
        · omega
      have HLz := Lib.hid T.len
      clear T
      go_wp2_with fail
      go_ret
      exact ⟨zs, some ⟨w.heap.size, 0, none⟩, L, L, FIN, HLz.out, rfl, Nat.le_refl _, BZ.words, HB.out⟩

set_option maxHeartbeats 1600000 in
theorem same_any (A B : Option Addr) (n m c d : Nat) (us vs : List Int) (w : World) (hn : us.length = n) (hm : vs.length = m) (hx : Rn w A us) (hy : Rn w B vs) (ln : n ≤ 1048577) :
    Calls Tryd.prog 62 #[.slice A n c, .slice B m d] w fun e w' => e = .returned (.bool (decide (us = vs))) ∧ Below w.heap.size w w' := by
  have HN := Lib.hid hn
  have HM := Lib.hid hm
  obtain ⟨bb, hbb⟩ : ∃ bb, decide (us = vs) = bb := ⟨_, rfl⟩
  rw [hbb]
  have HBB := Lib.hid hbb
  clear hn hm hbb
  by_cases hnm : n = m
  · subst hnm
    go_enter Tryd.func62, Tryd.ntmps62
    go_wp2_with fail
    go_loopw [5] (fun s5 wr => ∃ i : Nat, s5 = .int .i64 (i : Int) ∧ i ≤ n ∧ Hid (∀ j, j < i → us.getD j 0 = vs.getD j 0) ∧ Hid (Below w.heap.size w wr)) (fun s5 _ => n - (intOf s5).toNat)
    case atStart => exact ⟨0, rfl, Nat.zero_le _, fun j hj => by omega, Below.refl _ _⟩
    case round =>
      obtain ⟨i, rfl, hi, H, HB⟩ := hrel
      by_cases hlt : i < n
      · have hxr := hx.below HB.out (Nat.le_refl _)
        have hyr := hy.below HB.out (Nat.le_refl _)
        obtain ⟨g, off, rfl, hg, hc1⟩ := hxr.at_ (i := i) (by rw [HN.out]; exact hlt)
        obtain ⟨g2, off2, rfl, hg2, hc2⟩ := hyr.at_ (i := i) (by rw [HM.out]; exact hlt)
        have hl1 : (i : Int) < (n : Int) := by omega
        by_cases he : us.getD i 0 = vs.getD i 0
        · have H2 : Hid (∀ j, j < i + 1 → us.getD j 0 = vs.getD j 0) := fun j hj => by
            rcases Nat.lt_or_ge j i with h | h
            · exact H.out j h
            · obtain rfl : j = i := by omega
              exact he
          rw [← he] at hc2
          generalize us.getD i 0 = x at *
          clear he H hxr hyr
          go_upto_region 6 with fail
          go_quiet (fail)
          go_wp2_with fail
          go_roundw
          case rel => exact ⟨i + 1, by go_num, by omega, H2, bel_drewN HB.out _⟩
          case measure => simp [intOf]; omega
        · have F : Hid (false = bb) := by
            show _ = _
            rw [← HBB.out]
            symm
            exact decide_eq_false fun h => he (by rw [h])
          have hne : (us.getD i 0 != vs.getD i 0) = true := by simpa using he
          have hne2 : (us.getD i 0 == vs.getD i 0) = false := by simpa using he
          generalize us.getD i 0 = x at *
          generalize vs.getD i 0 = y at *
          clear he H hxr hyr
          go_upto_region 6 with fail
          go_quiet (fail)
          go_wp2_with fail
          go_ret
          exact ⟨ret_bool F.out, bel_drewN HB.out _⟩
      · have F : Hid (true = bb) := by
          show _ = _
          rw [← HBB.out]
          symm
          refine decide_eq_true ?_
          apply List.ext_getElem?
          intro j
          rcases Nat.lt_or_ge j n with h | h
          · have e := H.out j (by omega)
            rw [List.getD_eq_getElem?_getD, List.getD_eq_getElem?_getD, List.getElem?_eq_getElem (by rw [HN.out]; exact h), List.getElem?_eq_getElem (by rw [HM.out]; exact h)] at e
            rw [List.getElem?_eq_getElem (by rw [HN.out]; exact h), List.getElem?_eq_getElem (by rw [HM.out]; exact h)]
            simpa using e
          · rw [List.getElem?_eq_none (by rw [HN.out]; exact h), List.getElem?_eq_none (by rw [HM.out]; exact h)]
        go_wp2_with fail
        go_ret
        exact ⟨ret_bool F.out, HB.out⟩
  · have F : Hid (false = bb) := by
      show _ = _
      rw [← HBB.out]
      symm
      exact decide_eq_false fun h => hnm (by rw [← HN.out, ← HM.out, h])
    have hnm' : ((n : Int) != (m : Int)) = true := by simp; omega
    go_enter Tryd.func62, Tryd.ntmps62
    go_wp2_with fail
    go_ret
    exact ⟨ret_bool F.out, Below.refl _ _⟩

theorem isr_any (A B : Option Addr) (n m c d : Nat) (us : List Int) (xs : List Bool) (w : World) (hn : us.length = n) (hm : xs.length = m) (hx : Rn w A us) (hy : Rd w B xs) (ln : n ≤ 1048577) (lm : m ≤ 1048576) (hu : IsNat (val xs) us) :
    Calls Tryd.prog 40 #[.slice A n c, .slice B m d] w fun e w' => e = .returned (.bool true) ∧ Below w.heap.size w w' := by
  have HN := Lib.hid hn
  have HM := Lib.hid hm
  clear hn hm
  go_enter Tryd.func40, Tryd.ntmps40
  go_wp2_with fail
  refine (rwords_any B m d xs w HM.out hy lm).mono ?_
  rintro e w1 ⟨ws, A1, n1, c1, h1, h2, rfl, h3, h4, hb⟩
  have e : us = ws := hu.eq h1
  have F : Hid (decide (us = ws) = true) := by show _ = _; exact decide_eq_true e
  have HL := Lib.hid h2
  have hx1 := hx.below hb (Nat.le_refl _)
  clear e h2
  go_wp2_with fail
  refine (same_any A A1 n n1 c c1 us ws w1 HN.out HL.out hx1 h4 ln).mono ?_
  rw [F.out]
  rintro e w2 ⟨rfl, hb2⟩
  have HB := Lib.hid (bel_trans hb hb2)
  go_wp2_with fail
  go_ret
  exact ⟨rfl, HB.out⟩
end Go.Proofs.YtaollppieonmbaaDoor
