/-
  The walk of NatCommon: for all numbers the law answers true, and nothing that was there has changed. Condition: the table of math/bits stands in its variable.
-/
import Derived.Test.YtckeajjlkpjgjaaDoorQmore
namespace Go.Proofs.YtckeajjlkpjgjaaDoor
open Go.RowKit

set_option maxRecDepth 100000 in
set_option maxHeartbeats 40000000 in
theorem common_walk (A B : Option Addr) (n c m d : Nat) (us vs : List Int) (w : World) (hn : us.length = n) (hc : n ≤ c) (hx : Rn w A us) (hu : AllW us) (hm : vs.length = m) (hd : m ≤ d) (hy : Rn w B vs) (hv : AllW vs) (hT : TabOk w) :
    Calls Tryd.prog 9 #[.slice A n c, .slice B m d] w fun e w' => e = .returned (.bool true) ∧ Below w.heap.size w w' := by
  have HA := Lib.hid hn
  have HB := Lib.hid hm
  have HT := Lib.hid hT
  clear hn hm hT
  go_enter Tryd.func9, Tryd.ntmps9
  go_wp2_with fail
  refine (works2 w HT.out).mono ?_
  rintro e w1 ⟨rfl, hb1⟩
  have hx1 := hx.below hb1 (Nat.le_refl _)
  have hy1 := hy.below hb1 (Nat.le_refl _)
  go_wp2_with fail
  refine (small_any w1.heap.size 2 [(A, n, c), (B, m, d)] rfl (by decide) _ (by simp) ?hc).mono ?_
  case hc =>
    intro i p hp
    rcases i with _ | _ | i
    · simp at hp; subst hp; simp [go_sem]
    · simp at hp; subst hp; simp [go_sem]
    · simp at hp
  rintro e w2 ⟨rfl, rfl⟩
  have HB2 := Lib.hid (bel_alloc hb1 (.cells #[.slice A n c, .slice B m d] 23))
  have hx2 := hx1.alloc (.cells #[.slice A n c, .slice B m d] 23)
  have hy2 := hy1.alloc (.cells #[.slice A n c, .slice B m d] 23)
  generalize w1.alloc (.cells #[.slice A n c, .slice B m d] 23) = w2 at *
  clear hb1 hx1 hy1 hx hy
  by_cases hs : n ≤ 24 ∧ m ≤ 24
  · have e0 : smallB [(A, n, c), (B, m, d)] = true := by simp [smallB]; omega
    rw [e0]
    clear e0
    obtain ⟨BB, hBB⟩ : ∃ BB : Nat, BB = 24 := ⟨_, rfl⟩
    have hB1 : 24 ≤ BB := by omega
    have hB2 : BB ≤ 24 := by omega
    clear hBB
    obtain ⟨xa, ha⟩ : ∃ xa, nv us = xa := ⟨_, rfl⟩
    have Va := Lib.hid ha
    have za : 0 ≤ xa := by rw [← ha]; exact nv_nonneg _ hu
    have ba : Hid (xa < 2 ^ (32 * BB)) := by show _ < _; rw [← ha]; exact in_bd hu HA.out (by omega) BB hB1
    have lna : n ≤ BB := by omega
    clear ha
    obtain ⟨xb, hb⟩ : ∃ xb, nv vs = xb := ⟨_, rfl⟩
    have Vb := Lib.hid hb
    have zb : 0 ≤ xb := by rw [← hb]; exact nv_nonneg _ hv
    have bb : Hid (xb < 2 ^ (32 * BB)) := by show _ < _; rw [← hb]; exact in_bd hv HB.out (by omega) BB hB1
    have lnb : m ≤ BB := by omega
    clear hb
    go_wp2_with fail
    refine (ngcd_any A B n m c d us vs _ HA.out HB.out hc hd hx2 hy2 hu hv (by omega) (by omega) (HT.out.below HB2.out)).mono ?_
    rw [Va.out, Vb.out]
    rintro e w101 ⟨u101, A101, n101, c101, hn101, hl101, rfl, hc101, r101, -, hb101⟩
    have hx2x := hx2.below hb101 (Nat.le_refl _)
    clear hx2
    have hy2x := hy2.below hb101 (Nat.le_refl _)
    clear hy2
    have HB102 := Lib.hid (bel_trans HB2.out hb101)
    clear hb101
    have V101 := Lib.hid hn101.val
    have L101 := Lib.hid hl101
    clear hl101
    have z101 : 0 ≤ gcdI xa xb := gcd_nonneg _ _
    have b101 : Hid (gcdI xa xb < 2 ^ (32 * BB)) := gcd_bd za zb ba.out bb.out
    have ln101 : n101 ≤ BB := by have h := hn101.le b101.out; rw [L101.out] at h; exact h
    have GC := Lib.hid (gcd_comm xa xb)
    have GZ := Lib.hid (fun h => gcd_zero (a := xa) (b := xb) za zb h)
    have GR := Lib.hid (fun h => gcd_rests (a := xa) (b := xb) za zb h)
    generalize hgg : gcdI xa xb = gg at *
    have HGG := Lib.hid hgg
    clear hgg
    by_cases h0 : gg = 0
    · have hbl : blen gg = 0 := by rw [h0]; rfl
      obtain ⟨ea, eb⟩ := GZ.out h0
      have hba : blen xa = 0 := by rw [ea]; rfl
      have hbb : blen xb = 0 := by rw [eb]; rfl
      have HBL := Lib.hid hbl
      have HBA := Lib.hid hba
      have HBB2 := Lib.hid hbb
      clear hbl hba hbb ea eb h0
      go_wp2_with fail
      refine (nlen_any A101 n101 c101 u101 _ L101.out hc101 r101 hn101.all (by omega)).mono ?_
      rw [V101.out]
      rw [HBL.out]
      rintro e w103 ⟨rfl, rfl⟩
      go_wp2_with fail
      refine (nlen_any A n c us _ HA.out hc hx2x hu (by omega)).mono ?_
      rw [Va.out]
      rw [HBA.out]
      rintro e w104 ⟨rfl, rfl⟩
      go_wp2_with fail
      refine (nlen_any B m d vs _ HB.out hd hy2x hv (by omega)).mono ?_
      rw [Vb.out]
      rw [HBB2.out]
      rintro e w105 ⟨rfl, rfl⟩
      go_wp2_with fail
      go_ret
      exact ⟨rfl, HB102.out⟩
    · have hp : 0 < gg := by have := z101; omega
      have hbl := blen_pos hp
      obtain ⟨g1, g2, g3⟩ := GR.out h0
      have G1 := Lib.hid g1
      have G2 := Lib.hid g2
      have G3 := Lib.hid g3
      clear g1 g2 g3
      obtain ⟨bl, ebl⟩ : ∃ bl, blen gg = bl := ⟨_, rfl⟩
      have EBL := Lib.hid ebl
      rw [ebl] at hbl
      clear ebl
      go_wp2_with fail
      refine (nlen_any A101 n101 c101 u101 _ L101.out hc101 r101 hn101.all (by omega)).mono ?_
      rw [V101.out]
      rw [EBL.out]
      rintro e w701 ⟨rfl, rfl⟩
      go_wp2_with fail
      refine (ndiv_pos A A101 n n101 c c101 us u101 _ HA.out L101.out hc hc101 hx2x r101 hu hn101.all (by omega) (by omega) (by rw [V101.out]; exact h0)).mono ?_
      rw [Va.out, V101.out]
      rintro e w702 ⟨u702, v702, A702, B702, n702, m702, c702, d702, hn702, hm702, hl702, hk702, rfl, hc702, hd702, r702, s702, -, -, hb702⟩
      have hx2xx := hx2x.below hb702 (Nat.le_refl _)
      clear hx2x
      have hy2xx := hy2x.below hb702 (Nat.le_refl _)
      clear hy2x
      have r101x := r101.below hb702 (Nat.le_refl _)
      clear r101
      have HB703 := Lib.hid (bel_trans HB102.out hb702)
      clear hb702
      rw [G1.out] at hm702
      have qa0 := Int.ediv_nonneg za (Int.le_of_lt hp)
      have qa1 := Int.ediv_le_self gg za
      obtain ⟨pa, epa⟩ : ∃ pa, xa / gg = pa := ⟨_, rfl⟩
      rw [epa] at hn702 qa0 qa1 G3
      clear epa
      have V702 := Lib.hid hn702.val
      have L702 := Lib.hid hl702
      clear hl702
      have z702 : 0 ≤ pa := qa0
      have b702 : Hid (pa < 2 ^ (32 * BB)) := by show _ < _; have h := ba.out; omega
      have ln702 : n702 ≤ BB := by have h := hn702.le b702.out; rw [L702.out] at h; exact h
      have Vr702 := Lib.hid hm702.val
      have Lr702 := Lib.hid hk702
      clear hk702
      have zr702 : 0 ≤ (0 : Int) := Int.le_refl _
      have br702 : Hid ((0 : Int) < 2 ^ (32 * 0)) := pow_pos' _
      have lnr702 : m702 ≤ 0 := by have h := hm702.le br702.out; rw [Lr702.out] at h; exact h
      go_wp2_with fail
      refine (ndiv_pos B A101 m n101 d c101 vs u101 _ HB.out L101.out hd hc101 hy2xx r101x hv hn101.all (by omega) (by omega) (by rw [V101.out]; exact h0)).mono ?_
      rw [Vb.out, V101.out]
      rintro e w704 ⟨u704, v704, A704, B704, n704, m704, c704, d704, hn704, hm704, hl704, hk704, rfl, hc704, hd704, r704, s704, -, -, hb704⟩
      have hx2xxx := hx2xx.below hb704 (Nat.le_refl _)
      clear hx2xx
      have hy2xxx := hy2xx.below hb704 (Nat.le_refl _)
      clear hy2xx
      have r101xx := r101x.below hb704 (Nat.le_refl _)
      clear r101x
      have r702x := r702.below hb704 (Nat.le_refl _)
      clear r702
      have s702x := s702.below hb704 (Nat.le_refl _)
      clear s702
      have HB705 := Lib.hid (bel_trans HB703.out hb704)
      clear hb704
      rw [G2.out] at hm704
      have qb0 := Int.ediv_nonneg zb (Int.le_of_lt hp)
      have qb1 := Int.ediv_le_self gg zb
      obtain ⟨pb, epb⟩ : ∃ pb, xb / gg = pb := ⟨_, rfl⟩
      rw [epb] at hn704 qb0 qb1 G3
      clear epb
      have V704 := Lib.hid hn704.val
      have L704 := Lib.hid hl704
      clear hl704
      have z704 : 0 ≤ pb := qb0
      have b704 : Hid (pb < 2 ^ (32 * BB)) := by show _ < _; have h := bb.out; omega
      have ln704 : n704 ≤ BB := by have h := hn704.le b704.out; rw [L704.out] at h; exact h
      have Vr704 := Lib.hid hm704.val
      have Lr704 := Lib.hid hk704
      clear hk704
      have zr704 : 0 ≤ (0 : Int) := Int.le_refl _
      have br704 : Hid ((0 : Int) < 2 ^ (32 * 0)) := pow_pos' _
      have lnr704 : m704 ≤ 0 := by have h := hm704.le br704.out; rw [Lr704.out] at h; exact h
      go_wp2_with fail
      refine (ngcd_any A702 A704 n702 n704 c702 c704 u702 u704 _ L702.out L704.out hc702 hc704 r702x r704 hn702.all hn704.all (by omega) (by omega) (HT.out.below HB705.out)).mono ?_
      rw [V702.out, V704.out]
      rw [G3.out]
      rintro e w706 ⟨u706, A706, n706, c706, hn706, hl706, rfl, hc706, r706, -, hb706⟩
      have hx2xxxx := hx2xxx.below hb706 (Nat.le_refl _)
      clear hx2xxx
      have hy2xxxx := hy2xxx.below hb706 (Nat.le_refl _)
      clear hy2xxx
      have r101xxx := r101xx.below hb706 (Nat.le_refl _)
      clear r101xx
      have r702xx := r702x.below hb706 (Nat.le_refl _)
      clear r702x
      have s702xx := s702x.below hb706 (Nat.le_refl _)
      clear s702x
      have r704x := r704.below hb706 (Nat.le_refl _)
      clear r704
      have s704x := s704.below hb706 (Nat.le_refl _)
      clear s704
      have HB707 := Lib.hid (bel_trans HB705.out hb706)
      clear hb706
      have V706 := Lib.hid hn706.val
      have L706 := Lib.hid hl706
      clear hl706
      have z706 : 0 ≤ (1 : Int) := by decide
      have b706 : Hid ((1 : Int) < 2 ^ (32 * 1)) := by show _ < _; have h := pow_mono 1 (32 * 1) (by decide); omega
      have ln706 : n706 ≤ 1 := by have h := hn706.le b706.out; rw [L706.out] at h; exact h
      go_wp2_with fail
      refine (nlen_any B702 m702 d702 v702 _ Lr702.out hd702 s702xx hm702.all (by omega)).mono ?_
      rw [Vr702.out]
      rw [show blen 0 = 0 from rfl]
      rintro e w708 ⟨rfl, rfl⟩
      go_wp2_with fail
      refine (nlen_any B704 m704 d704 v704 _ Lr704.out hd704 s704x hm704.all (by omega)).mono ?_
      rw [Vr704.out]
      rw [show blen 0 = 0 from rfl]
      rintro e w709 ⟨rfl, rfl⟩
      go_wp2_with fail
      refine (nlen_any A706 n706 c706 u706 _ L706.out hc706 r706 hn706.all (by omega)).mono ?_
      rw [V706.out]
      rw [show blen 1 = 1 from by decide +kernel]
      rintro e w710 ⟨rfl, rfl⟩
      go_wp2_with fail
      refine (ngcd_any B A m n d c vs us _ HB.out HA.out hd hc hy2xxxx hx2xxxx hv hu (by omega) (by omega) (HT.out.below HB707.out)).mono ?_
      rw [Vb.out, Va.out]
      rw [GC.out]
      rintro e w711 ⟨u711, A711, n711, c711, hn711, hl711, rfl, hc711, r711, -, hb711⟩
      have hx2xxxxx := hx2xxxx.below hb711 (Nat.le_refl _)
      clear hx2xxxx
      have hy2xxxxx := hy2xxxx.below hb711 (Nat.le_refl _)
      clear hy2xxxx
      have r101xxxx := r101xxx.below hb711 (Nat.le_refl _)
      clear r101xxx
      have r702xxx := r702xx.below hb711 (Nat.le_refl _)
      clear r702xx
      have s702xxx := s702xx.below hb711 (Nat.le_refl _)
      clear s702xx
      have r704xx := r704x.below hb711 (Nat.le_refl _)
      clear r704x
      have s704xx := s704x.below hb711 (Nat.le_refl _)
      clear s704x
      have r706x := r706.below hb711 (Nat.le_refl _)
      clear r706
      have HB712 := Lib.hid (bel_trans HB707.out hb711)
      clear hb711
      have V711 := Lib.hid hn711.val
      have L711 := Lib.hid hl711
      clear hl711
      have z711 : 0 ≤ gg := z101
      have b711 : Hid (gg < 2 ^ (32 * BB)) := b101
      have ln711 : n711 ≤ BB := by have h := hn711.le b711.out; rw [L711.out] at h; exact h
      go_wp2_with fail
      refine (ncmp_any A711 A101 n711 n101 c711 c101 u711 u101 _ L711.out L101.out hc711 hc101 r711 r101xxxx hn711.all hn101.all (by omega) (by omega)).mono ?_
      rw [V711.out, V101.out]
      rw [show cmpI (gg) (gg) = 0 from by rw [show (gg : Int) = gg from rfl]; exact cmpI_eq _]
      rintro e w713 ⟨rfl, hb713⟩
      have hx2xxxxxx := hx2xxxxx.below hb713 (Nat.le_refl _)
      clear hx2xxxxx
      have hy2xxxxxx := hy2xxxxx.below hb713 (Nat.le_refl _)
      clear hy2xxxxx
      have r101xxxxx := r101xxxx.below hb713 (Nat.le_refl _)
      clear r101xxxx
      have r702xxxx := r702xxx.below hb713 (Nat.le_refl _)
      clear r702xxx
      have s702xxxx := s702xxx.below hb713 (Nat.le_refl _)
      clear s702xxx
      have r704xxx := r704xx.below hb713 (Nat.le_refl _)
      clear r704xx
      have s704xxx := s704xx.below hb713 (Nat.le_refl _)
      clear s704xx
      have r706xx := r706x.below hb713 (Nat.le_refl _)
      clear r706x
      have r711x := r711.below hb713 (Nat.le_refl _)
      clear r711
      have HB714 := Lib.hid (bel_trans HB712.out hb713)
      clear hb713
      go_wp2_with fail
      go_ret
      exact ⟨rfl, HB714.out⟩
  · have e0 : smallB [(A, n, c), (B, m, d)] = false := by
      rw [Bool.eq_false_iff]
      intro h
      simp [smallB] at h
      omega
    rw [e0]
    clear e0
    go_wp2_with fail
    go_ret
    exact ⟨rfl, HB2.out⟩
end Go.Proofs.YtckeajjlkpjgjaaDoor
