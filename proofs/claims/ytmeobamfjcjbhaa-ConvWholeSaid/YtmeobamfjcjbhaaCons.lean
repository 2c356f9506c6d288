/-
  The contract of the reference's parts: what of a finite float is ahead of the point, and behind it. Conditions: the float is a word, and finite.
-/
import Derived.Test.YtmeobamfjcjbhaaConr
namespace Go.Proofs.Ytmeobamfjcjbhaa
open Go.RowKit
set_option maxRecDepth 100000

def lenOf : Value → Nat
  | .slice _ n _ => n
  | _ => 0
def RetParts (f : Int) (w : World) (e : Ending) (w' : World) : Prop := ∃ v, RowV w' v (vT f) 2200 ∧ e = .returned (.tuple #[v, .bool (!decide (vR f = 0)), .int .i64 (cmpI (2 * vR f) dD)]) ∧ Below w.heap.size w w'
theorem blen_pos7 {x : Int} (h : 0 ≤ x) : decide (0 < blen x) = !decide (x = 0) := by
  rw [Bool.eq_iff_iff, decide_eq_true_eq, Bool.not_eq_true', decide_eq_false_iff_not]
  rcases Int.lt_or_eq_of_le h with k | k
  · obtain ⟨j, e, -, -⟩ := blen_at k
    omega
  · rw [← k, blen_nought]
    omega
theorem ret_parts {v : Value} {b c : Bool} {k : Int} (h : b = c) : Ending.returned (.tuple #[v, .bool b, .int .i64 k]) = .returned (.tuple #[v, .bool c, .int .i64 k]) := by rw [h]

set_option maxHeartbeats 8000000 in
theorem jparts_any (f : Int) (hf : Word f) (hc : fC f < 3) (w : World) : Calls Try.prog 20 #[.int .u64 f] w (RetParts f w) := by
  have SC := Lib.hid (gscaled_any f hf hc)
  have HT : Hid (∀ M : Int, M = fMg f → M / 2 ^ 1074 = vT f ∧ M % 2 ^ 1074 = vR f) := fun M h => by
    subst h
    unfold vT vR
    rw [← dD_is]
    exact ⟨rfl, rfl⟩
  have HC : Hid (cmpI (vR f) (2 ^ 1073) = cmpI (2 * vR f) dD) := by
    show _ = _
    rw [dD_is, show (2 : Int) ^ 1074 = 2 ^ 1073 * 2 from Int.pow_succ 2 1073, Int.mul_comm 2 (vR f), cmpI_scale (c := 2) (by decide)]
  have HP := Lib.hid (blen_pos7 (vR_bd f).1)
  obtain ⟨i0, hi, hz0, hz1, hz2⟩ := info_parts bool_info
  have HI := Lib.hid hi
  have HZ0 := Lib.hid hz0
  have HZ1 := Lib.hid hz1
  have HZ2 := Lib.hid hz2
  clear hi hz0 hz1 hz2
  unfold RetParts
  generalize cmpI (2 * vR f) dD = cc at *
  generalize hM : fMg f = M at *
  have HTM := Lib.hid (HT.out M rfl)
  clear HT hM
  generalize vT f = T at *
  generalize vR f = R at *
  go_enter Try.func20, Try.ntmps20
  go_wp2_with fail
  refine (SC.out _).mono ?_
  rintro e w1 ⟨zs0, v0, ⟨hv0, hl0⟩, rfl, own0, hb0⟩
  have HB0 := Lib.hid hb0
  have HV0 := Lib.hid hv0
  clear hb0 hv0
  go_wp2_with fail
  go_loopw [5] (fun s5 wr => ∃ zs : List Bool, Hid (val zs = M) ∧ zs.length ≤ 2200 ∧ wr.ownsRow w.heap.size 4 1 s5 zs.length (zs.map Value.bool) ∧ Hid (Below w.heap.size w wr)) (fun s5 _ => 1074 - lenOf s5)
  case atStart => exact ⟨zs0, HV0.out, hl0, own0, HB0.out⟩
  case round =>
    obtain ⟨zs, hv, hl, own, HB⟩ := hrel
    clear own0 HB0 HV0 hl0
    obtain ⟨A, c, rfl, hcc, hm, hr⟩ := own_row own
    by_cases hlt : zs.length < 1074
    · have h1 : (zs.length : Int) < 1074 := by omega
      go_wp2_with (at_builtin; refine wpList_append_own _ rfl _ _ 43 rfl w.heap.size 4 i0 (.bool false) 1 1 Try.underlying43 HI.out HZ0.out HZ1.out HZ2.out rfl (by decide) _ _ _ rfl (own.alloc _) ⟨wr.heap.size, 0, none⟩ 1 1 [_] rfl rfl (cell_one_new _ _ _) ?c2 ?c3 ?c4 ?c5 ?_)
      case c2 => intro u hu; simp at hu; subst hu; rfl
      case c3 => unfold maxLen; omega
      case c4 => omega
      case c5 => have := HB.out.size; simp; omega
      intro v' w1 own' hgrow hnil
      clear hnil
      have HB' := Lib.hid (own_grown HB.out own hgrow)
      have own2 := own_snoc own'
      have hv2 : Hid (val (zs ++ [false]) = M) := by show _ = _; rw [val_snoc, hv.out]; simp
      have hlen : zs.length + 1 = (zs ++ [false]).length := by simp
      rw [hlen] at own2
      obtain ⟨A', c', rfl, hc', hm', hr'⟩ := own_row own2
      clear own' hgrow own HB hr hr'
      go_wp2_with fail
      go_roundw
      case rel => exact ⟨_, hv2, by simp; omega, own2, HB'⟩
      case measure => simp [lenOf]; omega
    · have h1 : ¬ (zs.length : Int) < 1074 := by omega
      rcases hr with rfl | ⟨g, off, rfl, hg, hcells⟩
      · simp at hlt
      have hr : Rd wr (some ⟨g, off, none⟩) zs := .inr ⟨g, off, rfl, hg, hcells⟩
      obtain ⟨d1, d2⟩ := val_drop zs 1074 (by omega)
      rw [hv.out, HTM.out.1] at d1
      rw [hv.out, HTM.out.2] at d2
      have D1 := Lib.hid d1
      have D2 := Lib.hid d2
      clear d1 d2 hv hcells hg own
      go_wp2_with fail
      refine (shl_one (row_one _) (by decide) (by decide) 1100 (by decide)).mono ?_
      rintro e w2 ⟨y, hy, rfl, hb⟩
      have B2 := bel_trans (bel_alloc HB.out (.cells #[.bool true] 4)) hb
      have hr2 := hr.below (bel_trans (bel_alloc (Below.refl _ _) (.cells #[.bool true] 4)) hb) (Nat.le_refl _)
      have HB2 := Lib.hid B2
      clear hb B2 HB hr
      have hn1 : (1074 : Int) ≤ (zs.length : Int) := by omega
      have hn2 : (1074 : Int) ≤ (c : Int) := by omega
      have LT : (zs.take 1074).length = 1074 := by rw [List.length_take]; omega
      have CL := rlen_any (some ⟨g, off, none⟩) 1074 c (zs.take 1074) w2.drew LT (hr2.take 1074).drew (by decide)
      rw [D2.out] at CL
      have CL := Lib.hid CL
      have RV : RowV w2.drew (.slice (some ⟨g, off, none⟩) 1074 c) R 1074 := ⟨_, 1074, c, zs.take 1074, rfl, LT, by omega, (hr2.take 1074).drew, D2.out, Nat.le_refl _⟩
      have RD : RowV w2 (.slice (some ⟨g, off + 1074, none⟩) (zs.length - 1074) (c - 1074)) T 2200 := ⟨_, _, _, zs.drop 1074, rfl, by simp, by omega, hr2.dropAt 1074, D1.out, by omega⟩
      have HY : RowV w2.drew y (2 ^ 1073) 1100 := hy.v.below (bel_drew (Below.refl w2.heap.size w2))
      have CC := rcmpV RV HY (by decide) (by decide)
      rw [HC.out] at CC
      have CC := Lib.hid CC
      obtain ⟨B, m, d, rfl⟩ := hy.v.form
      have RDD := Lib.hid (RD.below (bel_drew (Below.refl w2.heap.size w2)))
      have RD0 : Hid (c = 1074 → RowV w2.drew (.slice (some ⟨g, off, none⟩) (zs.length - 1074) 0) T 2200) := fun hc1 => by
        have hz : zs.drop 1074 = [] := List.drop_eq_nil_of_le (by omega)
        have e1 := D1.out
        rw [hz] at e1
        exact ⟨_, _, _, [], rfl, by simp; omega, by omega, .inl rfl, e1, by omega⟩
      have HK : Hid (∀ w', Below w2.heap.size w2 w' → True) := fun _ _ => trivial
      clear hy HY RV RD hr2 LT D1 D2 hcc hm
      go_upto_region 5 with fail
      refine region_plan (S := fun _ => True) _ [(0, true), (1, true), (2, true), (3, true), (6, true), (7, true), (8, true), (4, false), (5, true), (9, false), (10, true), (11, true), (12, true)] (by kernel_rfl) (by kernel_rfl) rfl (by kernel_rfl) (by kernel_rfl) (fun _ _ d _ _ h => by cases d <;> exact h) (HK.out _ (bel_drew (Below.refl _ _))) ?_
      refine Walk.take (v := ?_) rfl (by rfl) ?_ ?_
      rotate_left
      · (intro w' hSw; (try dsimp only at hSw); go_simp <;> with_reducible rfl)
      try simp only [Act.put, List.setIfInBounds_toArray, List.set_cons_zero, List.set_cons_succ]
      refine Walk.take (v := ?_) rfl (by rfl) ?_ ?_
      rotate_left
      · (intro w' hSw; (try dsimp only at hSw); go_simp <;> with_reducible rfl)
      try simp only [Act.put, List.setIfInBounds_toArray, List.set_cons_zero, List.set_cons_succ]
      refine Walk.take (v := ?_) rfl (by rfl) ?_ ?_
      rotate_left
      · (intro w' hSw; (try dsimp only at hSw); go_simp <;> with_reducible rfl)
      try simp only [Act.put, List.setIfInBounds_toArray, List.set_cons_zero, List.set_cons_succ]
      refine Walk.take (v := ?_) rfl (by rfl) ?_ ?_
      rotate_left
      · (intro w' hSw; (try dsimp only at hSw); go_simp <;> with_reducible rfl)
      try simp only [Act.put, List.setIfInBounds_toArray, List.set_cons_zero, List.set_cons_succ]
      refine Walk.take (v := ?_) rfl (by rfl) ?_ ?_
      rotate_left
      · (intro w' hSw; (try dsimp only at hSw); go_simp <;> with_reducible rfl)
      try simp only [Act.put, List.setIfInBounds_toArray, List.set_cons_zero, List.set_cons_succ]
      refine Walk.take (v := ?_) rfl (by rfl) ?_ ?_
      rotate_left
      · (intro w' hSw; (try dsimp only at hSw); go_simp <;> with_reducible rfl)
      try simp only [Act.put, List.setIfInBounds_toArray, List.set_cons_zero, List.set_cons_succ]
      refine Walk.take (v := ?_) rfl (by rfl) ?_ ?_
      rotate_left
      · (intro w' hSw; (try dsimp only at hSw); go_simp <;> with_reducible rfl)
      try simp only [Act.put, List.setIfInBounds_toArray, List.set_cons_zero, List.set_cons_succ]
      refine Walk.act rfl (by rfl) (fun K hK => ?_)
      go_simp
      go_at_call 37
      refine CL.out.mono ?_
      rintro e t1 ⟨rfl, rfl⟩
      have X1 : Below w2.heap.size w2 w2.drew := bel_drew (Below.refl _ _)
      refine hK.out _ _ (HK.out _ X1) ?_
      clear hK K
      try simp only [Act.put, List.setIfInBounds_toArray, List.set_cons_zero, List.set_cons_succ]
      refine Walk.take (v := ?_) rfl (by rfl) ?_ ?_
      rotate_left
      · (intro w' hSw; (try dsimp only at hSw); go_simp <;> with_reducible rfl)
      try simp only [Act.put, List.setIfInBounds_toArray, List.set_cons_zero, List.set_cons_succ]
      refine Walk.act rfl (by rfl) (fun K hK => ?_)
      go_simp
      go_at_call 22
      refine CC.out.mono ?_
      rintro e t2 ⟨rfl, rfl⟩
      have X2 : Below w2.heap.size w2 w2.drew := X1
      refine hK.out _ _ (HK.out _ X2) ?_
      clear hK K
      try simp only [Act.put, List.setIfInBounds_toArray, List.set_cons_zero, List.set_cons_succ]
      refine Walk.take (v := ?_) rfl (by rfl) ?_ ?_
      rotate_left
      · (intro w' hSw; (try dsimp only at hSw); go_simp <;> with_reducible rfl)
      try simp only [Act.put, List.setIfInBounds_toArray, List.set_cons_zero, List.set_cons_succ]
      refine Walk.take (v := ?_) rfl (by rfl) ?_ ?_
      rotate_left
      · (intro w' hSw; (try dsimp only at hSw); go_simp <;> with_reducible rfl)
      try simp only [Act.put, List.setIfInBounds_toArray, List.set_cons_zero, List.set_cons_succ]
      refine Walk.take (v := ?_) rfl (by rfl) ?_ ?_
      rotate_left
      · (intro w' hSw; (try dsimp only at hSw); go_simp <;> with_reducible rfl)
      try simp only [Act.put, List.setIfInBounds_toArray, List.set_cons_zero, List.set_cons_succ]
      refine Walk.done ?_
      have HE := Lib.hid (bel_trans HB2.out (bel_drew (Below.refl _ _)))
      go_wp2_with fail
      all_goals
        go_ret3
        first
          | exact ⟨_, RDD.out, ret_parts HP.out, HE.out⟩
          | exact ⟨_, RD0.out (by omega), ret_parts HP.out, HE.out⟩
end Go.Proofs.Ytmeobamfjcjbhaa
