/-
  Contracts of the reference of layer 7: Scaled, Words of one word, parts, FromInt. Conditions: floats are words; rows are of at most 2^20 bits.
-/
import Derived.Test.YtmeobamfjcjbhaaMath7
import Derived.Test.YtmeobamfjcjbhaaPlan
import Derived.Test.YtmeobamfjcjbhaaMQ
import Derived.Test.YtmeobamfjcjbhaaConu
namespace Go.Proofs.Ytmeobamfjcjbhaa
open Go.RowKit
set_option maxRecDepth 100000

/-- A call came back with a row of its own of which P holds. -/
def RetOwn (P : List Bool → Prop) (w : World) (e : Ending) (w' : World) : Prop := ∃ (xs : List Bool) (v : Value), P xs ∧ e = .returned v ∧ w'.ownsRow w.heap.size 4 1 v xs.length (xs.map Value.bool) ∧ Below w.heap.size w w'
theorem own_mono {B C : Nat} {t : TypeId} {k : Nat} {v : Value} {n : Nat} {xs : List Value} {w : World} (hBC : C ≤ B) (h : w.ownsRow B t k v n xs) : w.ownsRow C t k v n xs := by
  refine ⟨h.1, ?_⟩
  rcases h.2 with h2 | ⟨g, cap, cur, e, hb, r⟩
  · exact .inl h2
  · exact .inr ⟨g, cap, cur, e, Nat.le_trans hBC hb, r⟩

set_option maxHeartbeats 3200000 in
theorem rshl_own (A : Option Addr) (n c : Nat) (xs : List Bool) (N : Int) (w : World) (hn : xs.length = n) (hx : Rd w A xs) (ln : n ≤ 1099511627775) (hN0 : 0 ≤ N) (hN1 : N ≤ 1099511627775) :
    Calls Try.prog 21 #[.slice A n c, .int .i64 N] w (RetOwn (IsShl N.toNat xs) w) := by
  obtain ⟨i0, hi, hz0, hz1, hz2⟩ := info_parts bool_info
  have HN := Lib.hid hn
  have HI := Lib.hid hi
  have HZ0 := Lib.hid hz0
  have HZ1 := Lib.hid hz1
  have HZ2 := Lib.hid hz2
  clear hn hi hz0 hz1 hz2
  go_enter Try.func21, Try.ntmps21
  go_wp2_with fail
  go_loopw [5, 6] (fun s5 s6 wr => ∃ (k : Nat) (zs : List Bool), s6 = .int .i64 (k : Int) ∧ (k : Int) ≤ N ∧ Hid (zs = List.replicate k false) ∧ wr.ownsRow w.heap.size 4 1 s5 k (zs.map Value.bool) ∧ Hid (Below w.heap.size w wr)) (fun _ s6 _ => (N - intOf s6).toNat)
  case atStart => exact ⟨0, [], rfl, hN0, rfl, ⟨rfl, .inl ⟨rfl, rfl⟩⟩, Below.refl _ _⟩
  case round =>
    obtain ⟨k, zs, rfl, hk, HR, own, HB⟩ := hrel
    by_cases hlt : (k : Int) < N
    · go_wp2_with (at_builtin; refine wpList_append_own _ rfl _ _ 43 rfl w.heap.size 4 i0 (.bool false) 1 1 Try.underlying43 HI.out HZ0.out HZ1.out HZ2.out rfl (by decide) _ _ _ rfl (own.alloc _) ⟨wr.heap.size, 0, none⟩ 1 1 [_] rfl rfl (cell_one_new _ _ _) ?c2 ?c3 ?c4 ?c5 ?_)
      case c2 => intro u hu; simp at hu; subst hu; rfl
      case c3 => unfold maxLen; omega
      case c4 => omega
      case c5 => have := HB.out.size; simp; omega
      intro v' w1 own' hgrow hnil
      clear hnil
      have HB' := Lib.hid (own_grown HB.out own hgrow)
      have own2 := own_snoc own'
      have HR2 : Hid (zs ++ [false] = List.replicate (k + 1) false) := by show _ = _; rw [HR.out, List.replicate_succ']
      clear own' hgrow own HB hx
      go_wp2_with fail
      go_roundw
      case rel => exact ⟨k + 1, _, by go_num, by omega, HR2, own2, HB'⟩
      case measure => simp [intOf]; omega
    · have eN : N = (k : Int) := by omega
      subst eN
      have hxr := hx.below HB.out (Nat.le_refl _)
      go_wp2_with (at_builtin; refine wpList_append_row _ rfl _ _ 43 rfl w.heap.size 4 i0 (.bool false) Try.underlying43 HI.out HZ0.out HZ1.out HZ2.out rfl _ _ _ rfl own A c n xs HN.out rfl hxr ?c3 ?c4 HB.out.size ?_)
      case c3 => unfold maxLen; omega
      case c4 => omega
      intro v' w1 own' hgrow
      have HB' := Lib.hid (own_grown0 HB.out own hgrow)
      rw [← List.map_append] at own'
      have hlen : k + n = (zs ++ xs).length := by rw [HR.out, List.length_append, List.length_replicate, HN.out]
      rw [hlen] at own'
      obtain ⟨A', c', rfl, hc', hm', hr'⟩ := own_row own'
      have OW := Lib.hid own'
      clear own own' hgrow HB hxr hx hr'
      go_wp2_with fail
      go_ret
      exact ⟨_, _, by rw [Int.toNat_natCast, HR.out]; rfl, rfl, OW.out, HB'.out⟩

set_option maxHeartbeats 2000000 in
theorem gscaled_any (f : Int) (hf : Word f) (hc : fC f < 3) (w : World) : Calls Try.prog 45 #[.int .u64 f] w (RetOwn (fun zs => val zs = fMg f ∧ zs.length ≤ 2200) w) := by
  have SF := Lib.hid (gsplit_any f hf)
  have yb := fY_bd f
  have wx := fX_word f
  have FM := Lib.hid (fMg_is hf hc)
  have FZ := Lib.hid (fMg_zero hf hc)
  generalize fMg f = M at *
  generalize fX f = X at *
  generalize fY f = Y at *
  go_enter Try.func45, Try.ntmps45
  go_wp2_with fail
  refine (SF.out _).mono ?_
  rintro e w1 ⟨rfl, rfl⟩
  go_wp2_with fail
  refine (ofV (rdw_one _ _ X) wx).mono ?_
  rintro e w1 ⟨v, rv, rfl, hb⟩
  obtain ⟨A, n, c, xs, rfl, hl, hcc, hr, hv, hn⟩ := rv
  have B := bel_trans (bel_alloc (Below.refl _ _) _) hb
  have HB := Lib.hid B
  clear hb B
  have vl := val_lt xs
  rw [hl] at vl
  obtain ⟨K, hK, hKm, hKv⟩ := blen_bound (val_nonneg xs) vl
  have CL := Lib.hid (rlen_any A n c xs w1 hl hr (by omega))
  rw [hK] at CL
  have HL : Hid ((xs.take K).length = K) := by show _ = _; rw [List.length_take, hl, Nat.min_eq_left hKm]
  have HV : Hid (val (xs.take K) = X) := by show _ = _; rw [val_take_small hKv, hv]
  have hrt := hr.take K
  have hKc : (K : Int) ≤ (c : Int) := by omega
  clear hK hKv vl hr hv hl
  generalize xs.take K = ys at *
  go_wp2_with fail
  refine CL.out.mono ?_
  rintro e w2 ⟨rfl, rfl⟩
  clear CL
  by_cases hz : X = 0
  · have hM : M = 0 := FZ.out.2 hz
    subst hz hM
    go_wp2_with fail
    go_ret
    exact ⟨[], _, ⟨rfl, by simp⟩, rfl, ⟨rfl, .inl ⟨rfl, rfl⟩⟩, HB.out⟩
  · have hz' : (X == 0) = false := by simp [hz]
    have SH := fun N (h0 : 0 ≤ N) (h1 : N ≤ 2100) => rshl_own A K c ys N w1 HL.out hrt (by omega) h0 (by omega)
    go_wp2_with fail
    refine (SH (Y + 1074) (by omega) (by omega)).mono ?_
    rintro e w3 ⟨zs, v, hs, rfl, own, hb⟩
    obtain ⟨e1, e2⟩ := hs.val
    have own2 := own_mono HB.out.size own
    have HO := Lib.hid own2
    have HB2 := Lib.hid (bel_trans HB.out hb)
    have hv : val zs = M := by rw [e1, HV.out, Int.mul_comm]; exact FM.out
    have hl2 : zs.length ≤ 2200 := by rw [e2, HL.out]; omega
    have HP := Lib.hid (And.intro hv hl2)
    clear own own2 hb hs e1 e2 hv hl2
    go_wp2_with fail
    go_ret
    exact ⟨zs, v, HP.out, rfl, HO.out, HB2.out⟩

theorem or_bit {z : Int} {j : Nat} (h0 : 0 ≤ z) (h1 : z < 2 ^ j) (hj : j < 64) : bits BinOp.or IntKind.u64 z (2 ^ j) = z + 2 ^ j := by
  obtain ⟨k, rfl⟩ := Int.eq_ofNat_of_zero_le h0
  have hk : k < 2 ^ j := by
    have : (k : Int) < ((2 ^ j : Nat) : Int) := by simpa using h1
    omega
  have hp : (2 : Nat) ^ j < 18446744073709551616 := by
    have := Nat.pow_lt_pow_right (a := 2) (by decide) hj
    exact this
  have e : ((2 : Int) ^ j) = ((2 ^ j : Nat) : Int) := by simp
  rw [e]
  refine (bits_or_u64_nat k (2 ^ j) (by omega) hp).trans ?_
  have := Nat.two_pow_add_eq_or_of_lt hk 1
  rw [Nat.or_comm, show (2 : Nat) ^ j = 2 ^ j * 1 by omega, ← this]
  omega

set_option maxHeartbeats 3200000 in
theorem words1_any (A : Option Addr) (n c : Nat) (xs : List Bool) (w : World) (hn : xs.length = n) (hx : Rd w A xs) (h64 : val xs < 18446744073709551616) :
    Calls Try.prog 23 #[.slice A n c, .int .i64 1] w fun e w' => e = .returned (.slice (some ⟨w.heap.size, 0, none⟩) 1 1) ∧ w'.cell? ⟨w.heap.size, 0, none⟩ = some (.int .u64 (val xs)) ∧ Below w.heap.size w w' := by
  have HN := Lib.hid hn
  have HX := Lib.hid h64
  have hmk := run_make_one w
  clear hn h64
  go_enter Try.func23, Try.ntmps23
  go_wp2_with fail
  clear hmk
  go_loopw [6] (fun s6 wr => ∃ i : Nat, s6 = .int .i64 (i : Int) ∧ i ≤ n ∧ i ≤ 64 ∧ Blk wr w.heap.size 24 #[.int .u64 (val (xs.take i))] ∧ Hid (Below w.heap.size w wr)) (fun s6 _ => 64 - (intOf s6).toNat)
  case atStart => exact ⟨0, rfl, Nat.zero_le _, by omega, Blk.new _ _ _, bel_alloc (Below.refl _ _) _⟩
  case round =>
    obtain ⟨i, rfl, hi, hi2, BZ, HB⟩ := hrel
    by_cases hlt : i < n ∧ i < 64
    · obtain ⟨hl, hl2⟩ := hlt
      have hxr := hx.below HB.out (Nat.le_refl _)
      obtain ⟨g, off, rfl, hg, hcell⟩ := hxr.at_ (i := i) (by rw [HN.out]; omega)
      have hl1 : (i : Int) < (n : Int) := by omega
      have hl3 : (i : Int) < 64 := by omega
      have TS := val_take_succ xs i
      have z0 := val_nonneg (xs.take i)
      have z1 : val (xs.take i) < 2 ^ i := by
        have l1 := val_lt (xs.take i)
        have l2 := pow_mono (xs.take i).length i (by rw [List.length_take]; omega)
        omega
      have z2 : (2 : Int) ^ i + 2 ^ i ≤ 18446744073709551616 := by
        have := pow_mono (i + 1) 64 (by omega)
        rw [Int.pow_succ, show (2 : Int) ^ 64 = 18446744073709551616 by decide] at this
        omega
      have z3 := pow_pos' i
      cases ex : xs.getD i false
      · rw [ex] at hcell TS
        have TS2 : Hid (val (xs.take (i + 1)) = val (xs.take i)) := by show _ = _; rw [TS]; simp
        clear TS ex hxr
        go_wp2_with fail
        go_roundw
        case rel => exact ⟨i + 1, by go_num, by omega, by omega, by rw [TS2.out]; exact BZ, HB⟩
        case measure => simp [intOf]; omega
      · rw [ex] at hcell TS
        have TS2 : Hid (val (xs.take (i + 1)) = val (xs.take i) + 2 ^ i) := by show _ = _; rw [TS]; simp
        have hor := or_bit z0 z1 hl2
        have q0 := BZ.cell 0
        have q1 := BZ.frozen 0
        generalize val (xs.take i) = z at *
        have d0 : i / 64 = 0 := by omega
        have m0 : i % 64 = i := by omega
        have hwr : IntKind.u64.wrap (1 * (2 : Int) ^ i) = 2 ^ i := by rw [Int.one_mul, IntKind.wrap_u64, Int.emod_eq_of_lt (by omega) (by omega)]
        have hwr2 : (2 : Int) ^ i % 18446744073709551616 = 2 ^ i := Int.emod_eq_of_lt (by omega) (by omega)
        have BZ2 := BZ.set_ 0 (.int .u64 (z + 2 ^ i))
        have HB2 : Hid (Below w.heap.size w (wr.setCell ⟨w.heap.size, 0, none⟩ (.int .u64 (z + 2 ^ i)))) := bel_set HB.out (Nat.le_refl _) _
        clear TS ex hxr BZ HB
        simp at q0 BZ2
        go_wp2_with fail
        go_roundw
        case rel => exact ⟨i + 1, by go_num, by omega, by omega, by rw [TS2.out]; exact BZ2, HB2⟩
        case measure => simp [intOf]; omega
    · have hv : Hid (val (xs.take i) = val xs) := by
        show _ = _
        by_cases h : i < n
        · have : i = 64 := by omega
          subst this
          exact val_take_small HX.out
        · rw [List.take_of_length_le (by rw [HN.out]; omega)]
      rw [hv.out] at BZ
      have q0 := BZ.cell 0
      simp at q0
      clear hx HX HN hv
      by_cases h : i < n
      · have h6 : ¬ (i : Int) < 64 := by omega
        have h7 : (i : Int) < (n : Int) := by omega
        clear hlt
        go_wp2_with fail
        go_ret
        exact ⟨rfl, q0, HB.out⟩
      · have h7 : ¬ (i : Int) < (n : Int) := by omega
        clear hlt
        go_wp2_with fail
        go_ret
        exact ⟨rfl, q0, HB.out⟩
end Go.Proofs.Ytmeobamfjcjbhaa
