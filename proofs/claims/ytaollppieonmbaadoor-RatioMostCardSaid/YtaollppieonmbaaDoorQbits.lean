/-
  Contracts of the reference's Bits (words of 32 bits as a row of bits, without noughts ahead), Words (back), Same and Is. Conditions: at most 2^15 words, rows of at most 2^20 bits.
-/
import Derived.Test.YtaollppieonmbaaDoorNtext
import Derived.Test.YtaollppieonmbaaDoorRmul
import Derived.Test.YtaollppieonmbaaDoorRof
namespace Go.Proofs.YtaollppieonmbaaDoor
open Go.RowKit
set_option maxRecDepth 100000

/-- So many bits of the word x behind the words before. -/
structure OfTo32 (ws : List Int) (i : Nat) (x : Int) (zs : List Bool) (j : Nat) : Prop where
  len : zs.length = 32 * i + j
  eq : val zs = nv (ws.take i) + 2 ^ (32 * i) * (x % 2 ^ j)
theorem OfTo32.next {ws : List Int} {i : Nat} {x : Int} {zs : List Bool} {j : Nat} (h : OfTo32 ws i x zs j) (b : Bool) (hb : decide (x / 2 ^ j % 2 = 1) = b) : OfTo32 ws i x (zs ++ [b]) (j + 1) := by
  obtain ⟨h1, h2⟩ := h
  refine ⟨by simp [h1]; omega, ?_⟩
  rw [val_snoc, mod_bit, h2, h1, Int.mul_add, Int.pow_add, ← hb]
  by_cases hx : x / 2 ^ j % 2 = 1
  · simp [hx]
    omega
  · simp [hx]
theorem OfTo32.done {ws : List Int} {i : Nat} {x : Int} {zs : List Bool} (h : OfTo32 ws i x zs 32) (hx : ws.getD i 0 = x) (hw : W32 x) : val zs = nv (ws.take (i + 1)) := by
  rw [h.eq, nv_take_succ, hx, Int.emod_eq_of_lt hw.1 (by have := hw.2; rw [show (2 : Int) ^ 32 = 4294967296 by decide]; exact this)]

/-- A row of the bits of a number, without noughts ahead. -/
structure IsBitsOf (v : Int) (xs : List Bool) : Prop where
  val : val xs = v
  len : (xs.length : Int) = blen v

theorem and_one_u32 (a : Int) (h0 : 0 ≤ a) (h1 : a < 4294967296) : bits BinOp.and IntKind.u32 a 1 = a % 2 := by
  obtain ⟨k, rfl⟩ := Int.eq_ofNat_of_zero_le h0
  have : bits BinOp.and IntKind.u32 (k : Int) ((1 : Nat) : Int) = ((k &&& 1 : Nat) : Int) := u32_and_nat k 1 (by omega) (by decide)
  rw [show ((1 : Nat) : Int) = 1 by rfl] at this
  rw [this, Nat.and_one_is_mod]
  omega

set_option maxHeartbeats 3200000 in
theorem rbits_any (A : Option Addr) (n c : Nat) (ws : List Int) (w : World) (hn : ws.length = n) (hx : Rn w A ws) (hw : AllW ws) (ln : n ≤ 32768) :
    Calls Tryd.prog 32 #[.slice A n c] w (RetRow (IsBitsOf (nv ws)) w) := by
  obtain ⟨i0, hi, hz0, hz1, hz2⟩ := info_parts bool_info
  have HN := Lib.hid hn
  have HI := Lib.hid hi
  have HZ0 := Lib.hid hz0
  have HZ1 := Lib.hid hz1
  have HZ2 := Lib.hid hz2
  clear hn hi hz0 hz1 hz2
  go_enter Tryd.func32, Tryd.ntmps32
  go_wp2_with fail
  go_loopw [3, 4, 5] (fun s3 s4 _ wr => ∃ (i : Nat) (zs : List Bool), s4 = .int .i64 (i : Int) ∧ i ≤ n ∧ Hid (zs.length = 32 * i) ∧ Hid (val zs = nv (ws.take i)) ∧ wr.ownsRow w.heap.size 4 1 s3 zs.length (zs.map Value.bool) ∧ Hid (Below w.heap.size w wr)) (fun _ s4 _ _ => n - (intOf s4).toNat)
  case atStart => exact ⟨0, [], rfl, Nat.zero_le _, rfl, by show _ = _; simp [nv, val], ⟨rfl, .inl ⟨rfl, rfl⟩⟩, Below.refl _ _⟩
  case round =>
    obtain ⟨i, zs, rfl, hin, HL, HV, own, HB⟩ := hrel
    by_cases hlt : i < n
    · obtain ⟨g, off, rfl, hg, hcell⟩ := hx.at_ (i := i) (by rw [HN.out]; exact hlt)
      have wx := hw.getD i
      obtain ⟨x, hxi⟩ : ∃ x, ws.getD i 0 = x := ⟨_, rfl⟩
      rw [hxi] at hcell wx
      have HXI := Lib.hid hxi
      have hi' : (i : Int) < (n : Int) := by omega
      clear hxi
      go_wp2_with fail
      go_loopw [3, 5] (fun s3 s5 wq => ∃ (j : Nat) (zs : List Bool), s5 = .int .i64 (j : Int) ∧ j ≤ 32 ∧ OfTo32 ws i x zs j ∧ wq.ownsRow w.heap.size 4 1 s3 zs.length (zs.map Value.bool) ∧ Hid (Below w.heap.size w wq)) (fun _ s5 _ => 32 - (intOf s5).toNat)
      case atStart => exact ⟨0, zs, rfl, by omega, ⟨by rw [HL.out]; rfl, by rw [HV.out]; simp⟩, own, HB⟩
      case round =>
        clear own HB HV HL
        obtain ⟨j, zs, rfl, hj, T, own, HB⟩ := hrel
        have hl := T.len
        have hcr : wr.cell? ⟨g, off + i, none⟩ = some (.int .u32 x) := (HB.out.cell (p := ⟨g, off + i, none⟩) hg).trans hcell
        have hg' : g < wr.heap.size := Nat.lt_of_lt_of_le hg HB.out.size
        by_cases hj' : j < 32
        · obtain ⟨b, hb⟩ : ∃ b : Bool, decide (x / 2 ^ j % 2 = 1) = b := ⟨_, rfl⟩
          have T2 := T.next b hb
          have rb : (bits BinOp.and IntKind.u32 (x / 2 ^ j) 1 == 1) = b := by
            have w0 : 0 ≤ x / 2 ^ j := Int.ediv_nonneg wx.1 (Int.le_of_lt (pow_pos' _))
            have w1 := Int.ediv_le_self (2 ^ j) wx.1
            rw [and_one_u32 _ w0 (by have := wx.2; omega), ← hb]
            rfl
          have hlb : zs.length + 1 ≤ 1048608 := by omega
          clear T hb hl
          generalize hmz : zs.length = m at *
          have HMZ := Lib.hid hmz
          clear hmz
          go_wp2_with (at_builtin; refine wpList_append_own _ rfl _ _ 28 rfl w.heap.size 4 i0 (.bool false) 1 1 Tryd.underlying28 HI.out HZ0.out HZ1.out HZ2.out rfl (by decide) _ _ _ rfl (own.alloc _) ⟨wr.heap.size, 0, none⟩ 1 1 [_] rfl rfl (cell_one_new _ _ _) ?c2 ?c3 ?c4 ?c5 ?_)
          case c2 => intro u hu; simp at hu; subst hu; rfl
          case c3 => unfold maxLen; omega
          case c4 => omega
          case c5 => have := HB.out.size; simp; omega
          intro v' w1 own' hgrow hnil
          clear hnil
          have HB' := Lib.hid (own_grown HB.out own hgrow)
          have own2 := own_snoc own'
          clear own' hgrow own HB hcr
          have own3 : w1.ownsRow w.heap.size 4 1 v' (zs ++ [b]).length ((zs ++ [b]).map Value.bool) := by
            have e : (zs ++ [b]).length = m + 1 := by rw [List.length_append, HMZ.out]; rfl
            rw [e]
            exact own2
          clear own2 rb
          go_wp2_with fail
          go_roundw
          case rel => exact ⟨j + 1, zs ++ [b], by go_num, by omega, T2, own3, HB'⟩
          case measure => simp [intOf]; omega
        · have ej : j = 32 := by omega
          subst ej
          have D := Lib.hid (T.done HXI.out wx)
          have HL2 : Hid (zs.length = 32 * (i + 1)) := by show _ = _; omega
          clear T hl
          go_wp2_with fail
          go_roundw
          case rel => exact ⟨i + 1, zs, by go_num, by omega, HL2, D, own, HB⟩
          case measure => simp [intOf]; omega
    · have ei : i = n := by omega
      subst ei
      have ht : ws.take i = ws := List.take_of_length_le (by rw [HN.out]; omega)
      have FV : Hid (val zs = nv ws) := by show _ = _; rw [HV.out, ht]
      clear ht HV
      obtain ⟨A', c', rfl, hc', hm', hr'⟩ := own_row own
      clear own
      have hzl : zs.length ≤ 1048576 := by rw [HL.out]; omega
      obtain ⟨L, hL, hLm, hLv⟩ := blen_bound (val_nonneg zs) (val_lt zs)
      have FIN : Hid (IsBitsOf (nv ws) (zs.take L)) := by
        refine ⟨by rw [val_take_small hLv]; exact FV.out, ?_⟩
        rw [List.length_take, Nat.min_eq_left hLm, ← FV.out, hL]
      have HLT : Hid ((zs.take L).length = L) := by show _ = _; rw [List.length_take, Nat.min_eq_left hLm]
      have CL := Lib.hid (rlen_any A' zs.length c' zs wr rfl hr' (by omega))
      rw [hL] at CL
      have hLc : (L : Int) ≤ (c' : Int) := by omega
      clear hL hLv HL
      generalize zs.length = zl at *
      go_wp2_with fail
      refine CL.out.mono ?_
      rintro e w1 ⟨rfl, rfl⟩
      clear CL
      have hrt := hr'.take L
      generalize zs.take L = ys at *
      go_wp2_with fail
      have hyl := HLT.out
      subst hyl
      go_ret
      exact ⟨ys, A', c', FIN.out, rfl, by omega, hm', hrt, HB.out⟩
end Go.Proofs.YtaollppieonmbaaDoor
