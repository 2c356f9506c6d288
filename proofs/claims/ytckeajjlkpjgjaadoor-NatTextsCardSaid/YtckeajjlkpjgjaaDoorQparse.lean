/-
  Contract of the reference's Parse, on texts of at most 200 bytes.
-/
import Derived.Test.YtckeajjlkpjgjaaDoorQtext
namespace Go.Proofs.YtckeajjlkpjgjaaDoor
open Go.RowKit

theorem rdw_new (W : World) (d : Int) : RdW (W.alloc (.cells #[.int .u64 d] 47)) (some ⟨W.heap.size, 0, none⟩) [d] := by
  refine .inr ⟨_, 0, rfl, by simp, fun i y hi => ?_⟩
  rcases i with _ | i
  · simp at hi; subst hi; simp [go_sem]
  · simp at hi
theorem RdW.below' {w w' : World} {A : Option Addr} {xs : List Int} {B : Nat} (h : RdW w A xs) (hb : Below B w w') (hB : w.heap.size ≤ B) : RdW w' A xs := by
  rcases h with h | ⟨g, off, e, hg, hc⟩
  · exact .inl h
  · exact .inr ⟨g, off, e, Nat.lt_of_lt_of_le hg hb.size, fun i b hi => (hb.cell (p := ⟨g, off + i, none⟩) (by show g < B; omega)).trans (hc i b hi)⟩
theorem ten_pow (k : Nat) : (10 : Int) ^ k ≤ 2 ^ (4 * k) := by
  have h : 10 ^ k ≤ 16 ^ k := Nat.pow_le_pow_left (by decide) k
  have e : (16 : Nat) ^ k = 2 ^ (4 * k) := by rw [Nat.pow_mul]
  rw [e] at h
  have : ((10 ^ k : Nat) : Int) ≤ ((2 ^ (4 * k) : Nat) : Int) := Int.ofNat_le.2 h
  simpa using this

/-- What Parse hands back. -/
def RetP (l : List UInt8) (w : World) (e : Ending) (w' : World) : Prop :=
  ∃ (bs : List Bool) (P : Option Addr) (a ca : Nat), e = .returned (.tuple #[.slice P a ca, .bool (digB l)]) ∧ (digB l = true → bs.length = a ∧ a ≤ 800 ∧ val bs = dval l ∧ Rd w' P bs) ∧ Below w.heap.size w w'

set_option maxRecDepth 100000 in
set_option maxHeartbeats 6400000 in
theorem rparse_any (s : ByteArray) (w : World) (hs : s.size ≤ 200) :
    Calls Tryd.prog 36 #[.string s] w (RetP s.data.toList w) := by
  go_enter Tryd.func36, Tryd.ntmps36
  go_wp2_with fail
  refine (rof_any _ 1 1 [10] _ rfl (rdw_new _ _) ?hw (by decide)).mono ?_
  case hw =>
    intro y hy
    simp at hy
    subst hy
    exact ⟨by decide, by decide⟩
  rintro e w1 ⟨ts, TA, tc, ⟨v1, l1⟩, rfl, hc1, hm1, rt, hb1⟩
  have HB1 := Lib.hid (bel_trans (bel_alloc (Below.refl w.heap.size w) (.cells #[.int .u64 10] 47)) hb1)
  rw [l1] at hc1 ⊢
  have VT : Hid (val ts = 10) := by show _ = _; rw [v1]; rfl
  have LT : Hid (ts.length = 64) := by show _ = _; rw [l1]; rfl
  clear v1 l1 hb1
  go_wp2_with fail
  go_loopg [4, 6] s.size (fun gk s4 s6 wr => ∃ (bs : List Bool) (P : Option Addr) (a ca k : Nat), s4 = .slice P a ca ∧ s6 = .int .i64 (k : Int) ∧ Hid (gk = s.size - k) ∧ k ≤ s.size ∧ Hid ((s.data.toList.take k).all isDig = true) ∧ Hid (bs.length = a) ∧ a ≤ 800 ∧ Hid (val bs = dval (s.data.toList.take k)) ∧ Rd wr P bs ∧ Rd wr TA ts ∧ Hid (Below w.heap.size w wr))
  case atStart => exact ⟨[], none, 0, 0, 0, rfl, rfl, by show _ = _; omega, Nat.zero_le _, by show _ = _; simp, rfl, by omega, by show _ = _; simp [val, dval_nil], .inl rfl, rt, HB1⟩
  case round =>
    clear rt HB1
    obtain ⟨bs, P, a, ca, k, rfl, rfl, GK, hk, H, LB, la, VB, rP, rt, HB⟩ := hrel
    by_cases hlt : k < s.size
    · have hts := take_snoc s k hlt
      have hmem : s[k] ∈ s.data.toList := by
        have : s[k] ∈ s.data.toList.take (k + 1) := by rw [hts]; simp
        exact List.mem_of_mem_take this
      have hl1 : (k : Int) < (s.size : Int) := by omega
      by_cases hd : isDig s[k] = true
      · have H2 : Hid ((s.data.toList.take (k + 1)).all isDig = true) := by
          show _ = _
          rw [hts, List.all_append, H.out]
          simp [hd]
        unfold isDig at hd
        simp only [Bool.and_eq_true, decide_eq_true_eq] at hd
        obtain ⟨d1, d2⟩ := hd
        have DV : Hid (dval (s.data.toList.take (k + 1)) = val bs * 10 + ((s[k].toNat : Int) - 48)) := by show _ = _; rw [hts, dval_snoc, VB.out]
        have DB : Hid (0 ≤ dval (s.data.toList.take (k + 1)) ∧ dval (s.data.toList.take (k + 1)) < 2 ^ 800) := by
          show _ ∧ _
          have h1 := dval_bd H2.out
          have h2 := ten_pow (s.data.toList.take (k + 1)).length
          have h3 : (s.data.toList.take (k + 1)).length ≤ 200 := by
            rw [List.length_take]
            have : s.data.toList.length = s.size := (Lib.size_eq s).symm
            omega
          have h4 := pow_mono (4 * (s.data.toList.take (k + 1)).length) 800 (by omega)
          exact ⟨h1.1, by omega⟩
        have d3 : (48 : Int) ≤ (s[k].toNat : Int) := by omega
        have d4 : (s[k].toNat : Int) ≤ 57 := by omega
        clear hts H hmem VB
        obtain ⟨d, hd⟩ : ∃ d : Int, (s[k].toNat : Int) - 48 = d := ⟨_, rfl⟩
        have d5 : 0 ≤ d := by omega
        have d6 : d ≤ 9 := by omega
        rw [hd] at DV
        have RM : Hid (∀ W, Rd W P bs → Rd W TA ts → Calls Tryd.prog 18 #[.slice P a ca, .slice TA 64 tc] W (RetRow (IsProd bs ts) W)) := fun W h1 h2 => rmul_any P TA a 64 ca tc bs ts W LB.out LT.out h1 h2 (by omega) (by omega)
        have RO : Hid (∀ W B, RdW W B [d] → Calls Tryd.prog 38 #[.slice B 1 1] W (RetRow (IsOf [d]) W)) := fun W B h1 => rof_any B 1 1 [d] W rfl h1 (fun y hy => by simp at hy; subst hy; exact ⟨by omega, by omega⟩) (by decide)
        have RA : Hid (∀ W A B n m c e (xs ys : List Bool), xs.length = n → ys.length = m → n ≤ 2000 → m ≤ 2000 → Rd W A xs → Rd W B ys → Calls Tryd.prog 16 #[.slice A n c, .slice B m e] W (RetRow (IsSum xs ys) W)) := fun W A B n m c e xs ys h1 h2 h3 h4 h5 h6 => radd_any A B n m c e xs ys W h1 h2 h5 h6 (by omega) (by omega)
        have hw1 : IntKind.u8.wrap d = d := by rw [IntKind.wrap_u8]; exact Int.emod_eq_of_lt (by omega) (by omega)
        have hw2 : IntKind.u64.wrap d = d := by rw [IntKind.wrap_u64]; exact Int.emod_eq_of_lt (by omega) (by omega)
        go_upto_region 8 with fail
        go_cut [4] (fun s4 wx => ∃ (cs : List Bool) (Q : Option Addr) (m cm : Nat), s4 = .slice Q m cm ∧ m ≤ cm ∧ m ≤ 1000 ∧ Hid (cs.length = m) ∧ Hid (val cs = val bs * 10 + d) ∧ Rd wx Q cs ∧ Rd wx TA ts ∧ Hid (Below w.heap.size w wx))
        case first =>
          go_region_with
            (first
              | (go_at_call 18; refine Calls.mono (RM.out _ ?_ ?_) ?_; (first | exact rP.drew | exact rP.drew.alloc _ | exact (rP.drew.alloc _).below hbo (Nat.le_refl _)); (first | exact rt.drew | exact rt.drew.alloc _ | exact (rt.drew.alloc _).below hbo (Nat.le_refl _)); rintro e wm ⟨ms, MA, cm, pm, rfl, hcm, hmm, rM, hbm⟩; have lm : ms.length ≤ 2000 := by (have h := pm.2; rw [LB.out, LT.out] at h; omega))
              | (go_at_call 38; refine Calls.mono (RO.out _ _ ?_) ?_; (first | exact rdw_new _ _ | exact RdW.below' (rdw_new wr.drew d) hbm (Nat.le_refl _)); rintro e wo ⟨os, OA, co, po, rfl, hco, hmo, rO, hbo⟩; have lo : os.length ≤ 2000 := by (have h : os.length = 64 := po.2; omega))
              | (go_at_call 16; refine Calls.mono (RA.out _ MA OA ms.length os.length cm co ms os rfl rfl lm lo ?_ ?_) ?_; (first | exact rM | exact rM.below hbo (Nat.le_refl _) | exact (rM.alloc _).below hbo (Nat.le_refl _)); (first | exact rO | exact rO.below hbm (Nat.le_refl _)); rintro e wa ⟨cs, QA, cq, pa, rfl, hcq, hmq, rQ, hba⟩))
          all_goals
            go_wp2_with fail
            go_meet
            refine ⟨cs, QA, cs.length, cq, rfl, hcq, ?_, rfl, ?_, rQ, ?_, ?_⟩
            · have h := pa.2.2
              have h1 := pm.2
              have h2 : os.length = 64 := po.2
              rw [LB.out, LT.out] at h1
              omega
            · show _ = _
              rw [pa.1, pm.1, po.1, VT.out]
              simp [wv]
            · refine Rd.below ?_ hba (Nat.le_refl _)
              first
                | exact ((rt.drew.below hbm (Nat.le_refl _)).alloc _).below hbo (Nat.le_refl _)
                | exact ((rt.drew.alloc _).below hbm (Nat.le_refl _)).below hbo (Nat.le_refl _)
                | exact ((rt.drew.alloc _).below hbo (Nat.le_refl _)).below hbm (Nat.le_refl _)
            · first
                | exact bel_trans (bel_trans (bel_alloc (bel_trans (bel_drew HB.out) hbm) _) hbo) hba
                | exact bel_trans (bel_trans (bel_trans (bel_alloc (bel_drew HB.out) _) hbm) hbo) hba
                | exact bel_trans (bel_trans (bel_trans (bel_alloc (bel_drew HB.out) _) hbo) hbm) hba
        case rest =>
          obtain ⟨cs, Q, m, cm, rfl, hmc, lm, LC, VC, rQ, rt2, HB2⟩ := hcut
          clear RM RO RA rP rt HB
          generalize wc = w4 at *
          have v0 := val_nonneg cs
          have VC2 : Hid (val cs = dval (s.data.toList.take (k + 1))) := by show _ = _; rw [VC.out, DV.out]
          obtain ⟨K, hK, hKm, hKv⟩ := blen_bound v0 (val_lt cs)
          rw [LC.out] at hKm
          have K8 : K ≤ 800 := by
            have h := (blen_bd (k := 800) v0 (by rw [VC2.out]; exact DB.out.2)).2
            rw [hK] at h
            omega
          have CL := Lib.hid (rlen_any Q m cm cs w4 LC.out rQ (by omega))
          rw [hK] at CL
          have r6 := rQ.take K
          have VK : Hid (val (cs.take K) = dval (s.data.toList.take (k + 1))) := by show _ = _; rw [val_take_small hKv, VC2.out]
          have LK : Hid ((cs.take K).length = K) := by show _ = _; rw [List.length_take, LC.out]; omega
          have hKc : (K : Int) ≤ (cm : Int) := by omega
          clear hK hKv VC VC2 rQ DB DV v0 hd
          generalize cs.take K = ks at *
          go_wp2_with fail
          refine CL.out.mono ?_
          rintro e w5 ⟨rfl, rfl⟩
          clear CL
          go_wp2_with fail
          go_roundg (s.size - (k + 1))
          case measure => rw [GK.out]; omega
          case rel => exact ⟨ks, Q, K, cm, k + 1, rfl, by go_num, rfl, by omega, H2, LK, K8, VK, r6, rt2, HB2⟩
      · have F : Hid (digB s.data.toList = false) := by
          show _ = _
          unfold digB
          have : s.data.toList.all isDig = false := by
            rw [List.all_eq_false]
            exact ⟨_, hmem, hd⟩
          rw [this, Bool.and_false]
        unfold isDig at hd
        simp only [Bool.and_eq_true, decide_eq_true_eq] at hd
        clear hts H hmem
        by_cases d1 : 48 ≤ s[k].toNat
        · have d2 : 57 < s[k].toNat := by omega
          have d3 : (57 : Int) < (s[k].toNat : Int) := by omega
          have d4 : ¬ (s[k].toNat : Int) < 48 := by omega
          clear hd
          go_wp2_with fail
          go_ret2
          refine ⟨[], none, 0, 0, ?_, ?_, HB.out⟩
          · rw [F.out]; rfl
          · rw [F.out]; intro h; cases h
        · have d3 : (s[k].toNat : Int) < 48 := by omega
          clear hd
          go_wp2_with fail
          go_ret2
          refine ⟨[], none, 0, 0, ?_, ?_, HB.out⟩
          · rw [F.out]; rfl
          · rw [F.out]; intro h; cases h
    · have ek : k = s.size := by omega
      have ht : s.data.toList.take k = s.data.toList := List.take_of_length_le (by simp; omega)
      rw [ht] at H VB
      have F : Hid (decide (0 < s.size) = digB s.data.toList) := by
        show _ = _
        unfold digB
        rw [H.out, Bool.and_true]
        have hsz : s.data.toList.length = s.size := (Lib.size_eq s).symm
        cases hl : s.data.toList with
        | nil => rw [hl] at hsz; simp at hsz; simp [← hsz]
        | cons b l => rw [hl] at hsz; simp at hsz; simp; omega
      have hdl : decide ((k : Int) < (s.size : Int)) = false := decide_eq_false (by omega)
      clear ht ek
      have FV := Lib.hid (show digB s.data.toList = true → bs.length = a ∧ a ≤ 800 ∧ val bs = dval s.data.toList ∧ Rd wr P bs from fun _ => ⟨LB.out, la, VB.out, rP⟩)
      clear VB H
      go_wp2_with fail
      go_ret2
      refine ⟨bs, P, a, ca, ?_, FV.out, HB.out⟩
      rw [← F.out]; rfl
end Go.Proofs.YtckeajjlkpjgjaaDoor
