/-
  Contracts of nat's Shr and Shl, for every shift. Conditions: at most 2^20 words, each of 32 bits.
-/
import Derived.Test.YtaollppieonmbaaDoorNsh
import Derived.IntWalk
namespace Go.Proofs.YtaollppieonmbaaDoor
open Go.RowKit
set_option maxRecDepth 100000

set_option maxHeartbeats 3200000 in
theorem nshr_any (A : Option Addr) (n c : Nat) (us : List Int) (N : Int) (w : World) (hn : us.length = n) (hc : n ≤ c) (hx : Rn w A us) (hu : AllW us) (ln : n ≤ 1048577) (hN1 : N ≤ 9223372036854775807) :
    Calls Tryd.prog 82 #[.slice A n c, .int .i64 N] w (RetN (nv us / 2 ^ (max N 0).toNat) w) := by
  have HN := Lib.hid hn
  obtain ⟨M, hM⟩ := Int.eq_ofNat_of_zero_le (show 0 ≤ max N 0 by omega)
  rw [hM, Int.toNat_natCast]
  obtain ⟨s, hs⟩ : ∃ s, M / 32 = s := ⟨_, rfl⟩
  have e1 : (M : Int) / 32 = (s : Int) := by omega
  have hMs : Hid (M = 32 * s + M % 32) := by show _ = _; omega
  have hM1 : M ≤ 9223372036854775807 := by omega
  clear hn hs hN1
  by_cases hsn : s < n
  · have HV : Hid (nv us / 2 ^ M = nv (us.drop s) / 2 ^ (M % 32)) := by
      show _ = _
      rw [hMs.out, Int.pow_add, ← Int.ediv_ediv_of_nonneg (Int.le_of_lt (pow_pos' _)), nv_div us hu s, ← hMs.out]
    obtain ⟨m, hm⟩ : ∃ m, n - s = m := ⟨_, rfl⟩
    have hd1 : (us.drop s).length = m := by rw [List.length_drop, HN.out]; exact hm
    have HD1 := Lib.hid hd1
    obtain ⟨g, off, rfl, hg, _⟩ := hx.at_ (i := s) (by rw [HN.out]; exact hsn)
    have hx1 := hx.dropAt s
    have hu1 := hu.drop s
    generalize us.drop s = vs at *
    have hm1 : (n : Int) - (s : Int) = (m : Int) := by omega
    have hm2 : 0 < m := by omega
    have hm3 : m ≤ 1048577 := by omega
    obtain ⟨d, hd⟩ : ∃ d, c - s = d := ⟨_, rfl⟩
    have hsc : (s : Int) < (c : Int) := by omega
    have hsn' : (s : Int) < (n : Int) := by omega
    have hsn2 : decide (n ≤ s) = false := by simp; omega
    obtain ⟨r0, hr0⟩ : ∃ r0, r0 = List.replicate m (0 : Int) := ⟨_, rfl⟩
    have hmk := run_make_nat (m : Int) m rfl (by omega) r0 hr0
    have HR0 := Lib.hid hr0
    clear hd1 hr0
    generalize nv us / 2 ^ M = va at *
    go_enter Tryd.func82, Tryd.ntmps82
    go_wp2_with fail
    clear hmk e1 hM hd hm1
    go_loopw [26] (fun s26 wr => ∃ (k : Nat) (zs : List Int), s26 = .int .i64 (k : Int) ∧ k ≤ m ∧ ShrTo vs zs m (M % 32) k ∧ Blk wr w.heap.size 80 (wordArr zs) ∧ Hid (Below w.heap.size w wr)) (fun s26 _ => m - (intOf s26).toNat)
    case atStart => exact ⟨0, r0, rfl, Nat.zero_le _, ⟨by rw [HR0.out]; simp, by rw [HR0.out]; exact AllW.zeros _, by simp [nv]⟩, Blk.new _ _ _, bel_alloc (Below.refl _ _) _⟩
    case round =>
      obtain ⟨k, zs, rfl, hk, T, BZ, HB⟩ := hrel
      by_cases hlt : k < m
      · have hxr := hx1.below HB.out (Nat.le_refl _)
        have hcell : wr.drew.cell? ⟨g, off + s + k, none⟩ = some (.int .u32 (vs.getD k 0)) := hxr.cell (i := k) (by rw [HD1.out]; exact hlt)
        have wx := hu1.getD k
        have wy := hu1.getD (k + 1)
        have TN := Lib.hid (T.next (by omega) wx rfl rfl hlt)
        have q0 : ∃ z, wr.drew.cell? ⟨w.heap.size, k, none⟩ = some (.int .u32 z) := ⟨_, BZ.word (by rw [T.len]; exact hlt)⟩
        obtain ⟨z, q0⟩ := q0
        have q1 : wr.drew.frozen? ⟨w.heap.size, k, none⟩ = false := BZ.frozen k
        have C := Lib.hid (back (word_any (some ⟨g, off + s, none⟩) m d vs (k + 1) wr.drew HD1.out hxr.drew (by omega) (by omega)))
        rw [show ((k + 1 : Nat) : Int) = (k : Int) + 1 by omega] at C
        generalize vs.getD k 0 = x at *
        generalize vs.getD (k + 1) 0 = y at *
        have b2 := shr_lt wx (32 - M % 32) (by omega)
        rw [show 32 - (32 - M % 32) = M % 32 by omega] at b2
        have hor := or_shl y (x / 2 ^ (M % 32)) b2.1 (32 - M % 32) (by omega) b2.2
        have wrm := wrap_room y (32 - M % 32) (by omega)
        rw [IntKind.wrap_u32] at hor wrm TN
        have BZ2 := BZ.drew.set_ k (.int .u32 (x / 2 ^ (M % 32) + y * 2 ^ (32 - M % 32) % 4294967296))
        rw [wordArr_set] at BZ2
        have HB2 : Hid (Below w.heap.size w (wr.drew.setCell ⟨w.heap.size, k, none⟩ (.int .u32 (x / 2 ^ (M % 32) + y * 2 ^ (32 - M % 32) % 4294967296)))) := bel_set (bel_drew HB.out) (Nat.le_refl _) _
        have ehh : (32 - (M : Int) % 32).toNat = 32 - M % 32 := by omega
        have hl1 : (k : Int) < (m : Int) := by omega
        have hl2 : (k : Int) + 1 ≤ 1048577 := by omega
        have HOR := Lib.hid hor
        clear hor T BZ HB hxr hu1
        obtain ⟨x0, x1⟩ := wx
        obtain ⟨y0, y1⟩ := wy
        go_upto_region 10 with fail
        have ew : IntKind.i64.wrap ((k : Int) + 1) = (k : Int) + 1 := IntWalk.i64_in _ ⟨by omega, by omega⟩
        have ew2 : IntKind.i64.wrap (32 - (M : Int) % 32) = 32 - (M : Int) % 32 := IntWalk.i64_in _ ⟨by omega, by omega⟩
        have et : ((M : Int) % 32).toNat = M % 32 := by omega
        refine wp_region_still_tail 17 (by kernel_rfl) (by kernel_rfl) ?_
        simp only [List.take_succ_cons, List.take_zero, List.drop_succ_cons, List.drop_zero]
        repeat still_step
        still_call C.out
        repeat still_step
        refine wpStill_nil ?_
        rw [IntKind.wrap_u32, HOR.out]
        change wpList _ _ _ _ _ wr.drew
        clear C hcell ew ew2 et ehh
        generalize wr.drew = w2 at *
        go_wp2_with fail
        go_roundw
        case rel => exact ⟨k + 1, _, by go_num, by omega, TN.out, BZ2, HB2⟩
        case measure => simp [intOf]; omega
      · have ek : k = m := by omega
        subst ek
        have FIN : Hid (nv zs = va) := by
          show _ = _
          rw [HV.out]
          exact T.done HD1.out
        have ha := T.all
        have HL := Lib.hid T.len
        clear T
        go_wp2_with fail
        refine (trim_any (some ⟨w.heap.size, 0, none⟩) k k zs wr HL.out (Nat.le_refl _) BZ.words (by omega)).mono ?_
        rintro e w1 ⟨ts, A', m', c', T, rfl, hmc, hra, hfr, rfl⟩
        have fin2 : IsNat va ts := by
          rw [← FIN.out]
          exact T.nat ha
        go_wp2_with fail
        go_ret
        exact ret_nat fin2 T.len hmc hra hfr (Nat.le_refl _) HB.out
  · have F : Hid (nv us / 2 ^ M = 0) := by
      show _ = _
      have := nv_lt us hu
      rw [HN.out] at this
      have := pow_mono (32 * n) M (by have := hMs.out; omega)
      exact Int.ediv_eq_zero_of_lt (nv_nonneg us hu) (by omega)
    have hsn' : decide ((n : Int) ≤ (s : Int)) = true := by simp; omega
    generalize nv us / 2 ^ M = va at *
    go_enter Tryd.func82, Tryd.ntmps82
    go_wp2_with fail
    go_ret
    exact ⟨[], none, 0, 0, by rw [F.out]; exact IsNat.nil, rfl, rfl, Nat.le_refl _, .inl rfl, (fun a h => by cases h), Below.refl _ _⟩

/-- What Shl hands back. -/
def RetShl (v : Int) (er : Int) (w : World) (e : Ending) (w' : World) : Prop :=
  ∃ (ws : List Int) (A : Option Addr) (n c : Nat), IsNat v ws ∧ ws.length = n ∧ e = .returned (.tuple #[.slice A n c, .int .i64 er]) ∧ n ≤ c ∧ Rn w' A ws ∧ Below w.heap.size w w'
theorem nshl_zero (A : Option Addr) (n c : Nat) (us : List Int) (N : Int) (w : World) (hn : us.length = n) (hc : n ≤ c) (hx : Rn w A us) (hu : AllW us) (ln : n ≤ 1048577) (hv : nv us = 0) :
    Calls Tryd.prog 59 #[.slice A n c, .int .i64 N] w (RetShl 0 0 w) := by
  have HN := Lib.hid hn
  have L := nlen_any A n c us w HN.out hc hx hu ln
  rw [hv, show blen 0 = 0 by rfl] at L
  clear hn hv
  go_enter Tryd.func59, Tryd.ntmps59
  go_wp2_with fail
  refine L.mono ?_
  rintro e w1 ⟨rfl, rfl⟩
  clear L
  go_wp2_with fail
  go_ret2
  exact ⟨[], none, 0, 0, IsNat.nil, rfl, rfl, Nat.le_refl _, .inl rfl, Below.refl _ _⟩
theorem nshl_long (A : Option Addr) (n c : Nat) (us : List Int) (N : Int) (w : World) (hn : us.length = n) (hc : n ≤ c) (hx : Rn w A us) (hu : AllW us) (ln : n ≤ 1048577) (hN : N ≤ 9223372036854775807) (hv : nv us ≠ 0) (hl : 65536 - max N 0 < blen (nv us)) :
    Calls Tryd.prog 59 #[.slice A n c, .int .i64 N] w (RetShl 0 20 w) := by
  have HN := Lib.hid hn
  have L := nlen_any A n c us w HN.out hc hx hu ln
  have h0 := nv_nonneg us hu
  obtain ⟨b, eb, _, ge, _⟩ := blen_spec h0
  have g2 := (ge (by omega)).2
  have h1 := nv_lt us hu
  rw [hn] at h1
  have h2 := (blen_bd h0 h1).2
  rw [eb] at L hl h2
  have hb1 : ((b : Int) == 0) = false := by simp; omega
  obtain ⟨M, hM⟩ := Int.eq_ofNat_of_zero_le (show 0 ≤ max N 0 by omega)
  rw [hM] at hl
  have hM1 : M ≤ 9223372036854775807 := by omega
  clear hn hv eb ge h0 h1
  go_enter Tryd.func59, Tryd.ntmps59
  go_wp2_with fail
  refine L.mono ?_
  rintro e w1 ⟨rfl, rfl⟩
  clear L
  go_wp2_with fail
  go_ret2
  exact ⟨[], none, 0, 0, IsNat.nil, rfl, rfl, Nat.le_refl _, .inl rfl, Below.refl _ _⟩
theorem nshl_ok (A : Option Addr) (n c : Nat) (us : List Int) (N : Int) (w : World) (hn : us.length = n) (hc : n ≤ c) (hx : Rn w A us) (hu : AllW us) (ln : n ≤ 1048576) (hv : nv us ≠ 0) (hl : ¬ 65536 - max N 0 < blen (nv us)) :
    Calls Tryd.prog 59 #[.slice A n c, .int .i64 N] w (RetShl (2 ^ (max N 0).toNat * nv us) 0 w) := by
  have HN := Lib.hid hn
  have L := nlen_any A n c us w HN.out hc hx hu (by omega)
  have h0 := nv_nonneg us hu
  obtain ⟨b, eb, _, ge, _⟩ := blen_spec h0
  have g2 := (ge (by omega)).2
  have h1 := nv_lt us hu
  rw [hn] at h1
  have h2 := (blen_bd h0 h1).2
  rw [eb] at L hl h2
  have hb1 : ((b : Int) == 0) = false := by simp; omega
  obtain ⟨M, hM⟩ := Int.eq_ofNat_of_zero_le (show 0 ≤ max N 0 by omega)
  rw [hM] at hl ⊢
  rw [Int.toNat_natCast]
  have hM1 : M ≤ 65536 := by omega
  obtain ⟨s, hs⟩ : ∃ s, M / 32 = s := ⟨_, rfl⟩
  obtain ⟨LL, hLL⟩ : ∃ LL, s + n + 1 = LL := ⟨_, rfl⟩
  have hLL1 : LL ≤ 1060000 := by omega
  have LC := Lib.hid (fun w hx => lift_any A n c M s LL us w HN.out hx hu (by omega) hs (by omega) hLL)
  clear hn hv eb ge h0 h1 hs hLL
  generalize 2 ^ M * nv us = va at *
  go_enter Tryd.func59, Tryd.ntmps59
  go_wp2_with fail
  refine L.mono ?_
  rintro e w1 ⟨rfl, rfl⟩
  clear L
  go_wp2_with fail
  refine (LC.out w hx).mono ?_
  rintro e w1 ⟨zs, g, Z, rfl, hg, BZ, HB⟩
  have hl := Lib.hid Z.len
  go_wp2_with fail
  refine (trim_any (some ⟨g, 0, none⟩) LL LL zs w1 hl.out (Nat.le_refl _) BZ.words (by omega)).mono ?_
  rintro e w2 ⟨ts, A', m', c', T, rfl, hmc, hra, hfr, rfl⟩
  have fin2 : IsNat va ts := by have := T.nat Z.all; rw [Z.val] at this; exact this
  go_wp2_with fail
  go_ret2
  exact ⟨ts, A', m', c', fin2, T.len, rfl, hmc, hra, HB⟩
end Go.Proofs.YtaollppieonmbaaDoor
