/-
  Contract of nat's lift: a number times a power of two, in a block of its own. Conditions: at most 2^20 words, each of 32 bits; a shift of at most 2^24.
-/
import Derived.Test.YtaollppieonmbaaDoorNmul
namespace Go.Proofs.YtaollppieonmbaaDoor
open Go.RowKit

theorem pow_split (j : Nat) (hj : j ≤ 32) : (2 : Int) ^ (32 - j) * 2 ^ j = 4294967296 := by
  rw [← Int.pow_add, show 32 - j + j = 32 by omega]
  decide
theorem pow_le32 (j : Nat) (hj : j ≤ 32) : (2 : Int) ^ j ≤ 4294967296 := by
  have := pow_mono j 32 hj
  simpa using this
theorem shl_split (x : Int) (j : Nat) (hj : j ≤ 32) : x / 2 ^ (32 - j) * 4294967296 + IntKind.u32.wrap (x * 2 ^ j) = x * 2 ^ j := by
  have e : x * 2 ^ j / 4294967296 = x / 2 ^ (32 - j) := by
    rw [← pow_split j hj]
    exact Int.mul_ediv_mul_of_pos_left _ _ (pow_pos' j)
  rw [IntKind.wrap_u32, ← e]
  omega
theorem shr_lt {x : Int} (hx : W32 x) (j : Nat) (hj : j ≤ 32) : 0 ≤ x / 2 ^ (32 - j) ∧ x / 2 ^ (32 - j) < 2 ^ j := by
  refine ⟨Int.ediv_nonneg hx.1 (Int.le_of_lt (pow_pos' _)), ?_⟩
  have := pow_split j hj
  rw [Int.ediv_lt_iff_lt_mul (pow_pos' _), Int.mul_comm, this]
  exact hx.2
theorem wrap_mul (x : Int) (j : Nat) (hj : j ≤ 32) : IntKind.u32.wrap (x * 2 ^ j) = x % 2 ^ (32 - j) * 2 ^ j := by
  rw [IntKind.wrap_u32, ← pow_split j hj, Int.mul_comm x, Int.mul_comm (2 ^ (32 - j)), Int.mul_emod_mul_of_pos _ _ (pow_pos' j), Int.mul_comm]
theorem wrap_room (x : Int) (j : Nat) (hj : j ≤ 32) : 0 ≤ IntKind.u32.wrap (x * 2 ^ j) ∧ IntKind.u32.wrap (x * 2 ^ j) + 2 ^ j ≤ 4294967296 := by
  refine ⟨by rw [IntKind.wrap_u32]; omega, ?_⟩
  have h1 := Int.emod_lt_of_pos x (pow_pos' (32 - j))
  have h2 : (x % 2 ^ (32 - j) + 1) * 2 ^ j ≤ 2 ^ (32 - j) * 2 ^ j := Int.mul_le_mul_of_nonneg_right (by omega) (Int.le_of_lt (pow_pos' j))
  rw [pow_split j hj, Int.add_mul] at h2
  rw [wrap_mul x j hj]
  omega
/-- What is shifted up and what lies below have no bit in common. -/
theorem or_shl (x y : Int) (hy : 0 ≤ y) (j : Nat) (hj : j ≤ 32) (hy' : y < 2 ^ j) : bits .or .u32 y (IntKind.u32.wrap (x * 2 ^ j)) = y + IntKind.u32.wrap (x * 2 ^ j) := by
  obtain ⟨y, rfl⟩ := Int.eq_ofNat_of_zero_le hy
  have hp := pow_le32 j hj
  have hr := wrap_room x j hj
  obtain ⟨m, hm⟩ := Int.eq_ofNat_of_zero_le (Int.emod_nonneg x (Int.ne_of_gt (pow_pos' (32 - j))))
  have e : IntKind.u32.wrap (x * 2 ^ j) = ((2 ^ j * m : Nat) : Int) := by
    rw [wrap_mul x j hj, hm, Int.natCast_mul, Int.mul_comm]
    simp
  have hyn : y < 2 ^ j := by
    have : (y : Int) < ((2 ^ j : Nat) : Int) := by simpa using hy'
    omega
  rw [e] at hr ⊢
  have l1 : 2 ^ j * m < 4294967296 := by have := pow_pos' j; omega
  rw [u32_or_nat _ _ (by omega) l1, Nat.or_comm, ← Nat.two_pow_add_eq_or_of_lt hyn, Int.natCast_add, Int.add_comm]

/-- So many words have been shifted up. -/
structure LiftTo (us zs : List Int) (L s r k : Nat) : Prop where
  len : zs.length = L
  all : AllW zs
  eq : nv zs = 2 ^ (32 * s + r) * nv (us.take k)
  high : ∀ j, s + k < j → zs.getD j 0 = 0
  top : zs.getD (s + k) 0 < 2 ^ r
theorem LiftTo.next {us zs : List Int} {L s r k : Nat} {x t : Int} (h : LiftTo us zs L s r k) (hr : r ≤ 32) (hx : W32 x) (ex : us.getD k 0 = x) (et : zs.getD (s + k) 0 = t) (hk : s + k + 1 < L) :
    LiftTo us ((zs.set (s + k) (t + IntKind.u32.wrap (x * 2 ^ r))).set (s + k + 1) (x / 2 ^ (32 - r))) L s r (k + 1) := by
  obtain ⟨h1, h2, h3, h4, h5⟩ := h
  have b1 := wrap_room x r hr
  have b2 := shr_lt hx r hr
  have b3 := pow_le32 r hr
  have wt := h2.getD (s + k)
  rw [et] at wt h5
  obtain ⟨t0, t1⟩ := wt
  refine ⟨by rw [List.length_set, List.length_set, h1], (h2.set _ ⟨by omega, by omega⟩).set _ ⟨b2.1, by omega⟩, ?_, fun j hj => ?_, ?_⟩
  · rw [nv_set _ _ _ (by rw [List.length_set]; omega), nv_set _ _ _ (by omega), getD_set_ne _ _ _ _ (by omega), h4 (s + k + 1) (by omega), et, nv_take_succ, ex, h3, pow32]
    have e1 := mul_car (2 ^ (32 * (s + k))) (shl_split x r hr)
    have e2 : (2 : Int) ^ (32 * (s + k)) * (x * 2 ^ r) = 2 ^ (32 * s + r) * (2 ^ (32 * k) * x) := by
      rw [pow_off, Int.pow_add, Int.mul_assoc, Int.mul_assoc, ← Int.mul_assoc (2 ^ (32 * k)), Int.mul_comm _ (2 ^ r)]
    rw [e2] at e1
    rw [Int.mul_add, Int.sub_zero, show t + IntKind.u32.wrap (x * 2 ^ r) - t = IntKind.u32.wrap (x * 2 ^ r) by omega]
    omega
  · rw [getD_set_ne _ _ _ _ (by omega), getD_set_ne _ _ _ _ (by omega)]
    exact h4 j (by omega)
  · rw [show s + (k + 1) = s + k + 1 by omega, getD_set _ _ _ (by rw [List.length_set]; omega)]
    exact b2.2

/-- Words of a number, L of them. -/
structure LiftOf (v : Int) (L : Nat) (zs : List Int) : Prop where
  len : zs.length = L
  all : AllW zs
  val : nv zs = v
/-- What lift hands back. -/
def RetLift (v : Int) (L : Nat) (w : World) (e : Ending) (w' : World) : Prop :=
  ∃ (zs : List Int) (g : Nat), LiftOf v L zs ∧ e = .returned (.slice (some ⟨g, 0, none⟩) L L) ∧ w.heap.size ≤ g ∧ Blk w' g 80 (wordArr zs) ∧ Below w.heap.size w w'

set_option maxHeartbeats 3200000 in
theorem lift_any (A : Option Addr) (n c N s L : Nat) (us : List Int) (w : World) (hn : us.length = n) (hx : Rn w A us) (hu : AllW us) (ln : n ≤ 1048576) (hs : N / 32 = s) (hN : N ≤ 16777216) (hL : s + n + 1 = L) :
    Calls Tryd.prog 76 #[.slice A n c, .int .i64 (N : Int)] w (RetLift (2 ^ N * nv us) L w) := by
  have HN := Lib.hid hn
  have e1 : (N : Int) / 32 = (s : Int) := by omega
  have hr32 : N % 32 < 32 := by omega
  have hNN : Hid (N = 32 * s + N % 32) := by show _ = _; omega
  obtain ⟨r0, hr0⟩ : ∃ r0, r0 = List.replicate L (0 : Int) := ⟨_, rfl⟩
  have hmk := run_make_nat ((s : Int) + (n : Int) + 1) L (by omega) (by omega) r0 hr0
  have HR0 := Lib.hid hr0
  have hL1 : s + n + 1 ≤ L := by omega
  have hL2 : L ≤ s + n + 1 := by omega
  have hs1 : s ≤ 524288 := by omega
  clear hn hr0 hs hL
  go_enter Tryd.func76, Tryd.ntmps76
  go_wp2_with fail
  clear hmk e1
  go_loopw [20] (fun s20 wr => ∃ (k : Nat) (zs : List Int), s20 = .int .i64 (k : Int) ∧ k ≤ n ∧ LiftTo us zs L s (N % 32) k ∧ Blk wr w.heap.size 80 (wordArr zs) ∧ Hid (Below w.heap.size w wr)) (fun s20 _ => n - (intOf s20).toNat)
  case atStart =>
    have z : ∀ j, r0.getD j 0 = 0 := fun j => by rw [HR0.out, List.getD_eq_getElem?_getD, List.getElem?_replicate]; split <;> rfl
    exact ⟨0, r0, rfl, Nat.zero_le _, ⟨by rw [HR0.out]; simp, by rw [HR0.out]; exact AllW.zeros _, by rw [HR0.out, nv_zeros]; simp [nv], fun j _ => z j, by rw [z]; exact pow_pos' _⟩, Blk.new _ _ _, bel_alloc (Below.refl _ _) _⟩
  case round =>
    obtain ⟨k, zs, rfl, hk, T, BZ, HB⟩ := hrel
    by_cases hlt : k < n
    · have hxr := hx.below HB.out (Nat.le_refl _)
      obtain ⟨g, off, rfl, hg, hcell⟩ := hxr.at_ (i := k) (by rw [HN.out]; exact hlt)
      have hne : g ≠ w.heap.size := by
        rcases hx with h | ⟨g', off', e, hg', _⟩
        · have := HN.out; rw [h] at this; simp at this; omega
        · injection e with e; injection e with e3 e4; omega
      have wx := hu.getD k
      have TN := Lib.hid (T.next (by omega) wx rfl rfl (by omega))
      have q0 := BZ.word (i := s + k) (by rw [T.len]; omega)
      have q1 := BZ.frozen (s + k)
      have wt := T.all.getD (s + k)
      have top := T.top
      have q5 : ∃ z, wr.cell? ⟨w.heap.size, s + k + 1, none⟩ = some (.int .u32 z) := ⟨_, BZ.word (by rw [T.len]; omega)⟩
      obtain ⟨z, q5⟩ := q5
      have q6 := BZ.frozen (s + k + 1)
      generalize us.getD k 0 = x at *
      generalize zs.getD (s + k) 0 = t at *
      have hor := or_shl x t wt.1 (N % 32) (by omega) top
      have wrm := wrap_room x (N % 32) (by omega)
      rw [IntKind.wrap_u32] at hor wrm TN
      have ehh : (32 - (N : Int) % 32).toNat = 32 - N % 32 := by omega
      have hl1 : (k : Int) < (n : Int) := by omega
      have hl2 : (s : Int) + (k : Int) < (L : Int) := by omega
      have hl3 : (s : Int) + (k : Int) + 1 < (L : Int) := by omega
      have p0 : wr.drew.cell? ⟨w.heap.size, s + k, none⟩ = some (.int .u32 t) := q0
      have p1 : wr.drew.frozen? ⟨w.heap.size, s + k, none⟩ = false := q1
      have HOR := Lib.hid hor
      clear hor
      go_upto_region 6 with fail
      go_region
      rw [HOR.out]
      clear HOR q5 q6
      generalize x * 2 ^ (N % 32) % 4294967296 = y at *
      have BZ1 := (BZ.set_ (s + k) (.int .u32 (t + y))).drew
      rw [wordArr_set] at BZ1
      have HB1 : Hid (Below w.heap.size w (wr.setCell ⟨w.heap.size, s + k, none⟩ (.int .u32 (t + y))).drew) := bel_drew (bel_set HB.out (Nat.le_refl _) _)
      have hc1 : (wr.setCell ⟨w.heap.size, s + k, none⟩ (.int .u32 (t + y))).drew.cell? ⟨g, off + k, none⟩ = some (.int .u32 x) := (World.cell?_setCell_other wr ⟨w.heap.size, s + k, none⟩ ⟨g, off + k, none⟩ (.int .u32 (t + y)) (fun e => hne (by injection e with e; exact e.symm))).trans hcell
      have hg1 : g < (wr.setCell ⟨w.heap.size, s + k, none⟩ (.int .u32 (t + y))).drew.heap.size := by
        have := HB1.out.size
        rcases hx with h | ⟨g', off', e, hg', _⟩
        · have h2 := HN.out; rw [h] at h2; simp at h2; omega
        · injection e with e; injection e with e3 e4; omega
      have hl := T.len
      clear p0 p1 q0 q1 hcell BZ HB T hxr
      generalize (wr.setCell ⟨w.heap.size, s + k, none⟩ (.int .u32 (t + y))).drew = w1 at *
      obtain ⟨z1, q5⟩ : ∃ z, w1.cell? ⟨w.heap.size, s + k + 1, none⟩ = some (.int .u32 z) := ⟨_, BZ1.word (by rw [List.length_set, hl]; omega)⟩
      have q6 := BZ1.frozen (s + k + 1)
      have BZ2 := BZ1.set_ (s + k + 1) (.int .u32 (x / 2 ^ (32 - N % 32)))
      rw [wordArr_set] at BZ2
      have HB2 : Hid (Below w.heap.size w (w1.setCell ⟨w.heap.size, s + k + 1, none⟩ (.int .u32 (x / 2 ^ (32 - N % 32))))) := bel_set HB1.out (Nat.le_refl _) _
      clear hl hx
      go_wp2_with fail
      go_roundw
      case rel => exact ⟨k + 1, _, by go_num, by omega, TN.out, BZ2, HB2⟩
      case measure => simp [intOf]; omega
    · have ek : k = n := by omega
      subst ek
      have FIN : LiftOf (2 ^ N * nv us) L zs := ⟨T.len, T.all, by rw [T.eq, List.take_of_length_le (by rw [HN.out]; exact Nat.le_refl _), ← hNN.out]⟩
      clear T
      go_wp2_with fail
      go_ret
      exact ⟨zs, w.heap.size, FIN, rfl, Nat.le_refl _, BZ, HB.out⟩
end Go.Proofs.YtaollppieonmbaaDoor
