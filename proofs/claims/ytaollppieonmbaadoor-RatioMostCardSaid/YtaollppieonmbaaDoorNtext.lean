/-
  Contract of nat's Text: the digits of a number. Conditions: at most 2^20 words, each of 32 bits.
-/
import Derived.Test.YtaollppieonmbaaDoorNrev
namespace Go.Proofs.YtaollppieonmbaaDoor
open Go.RowKit
set_option maxRecDepth 100000

/-- The number of digits, the least one first, as numbers of bytes. -/
def rvI : List Int → Int
  | [] => 0
  | d :: r => (d - 48) + 10 * rvI r
theorem rvI_snoc : ∀ (ds : List Int) (d : Int), rvI (ds ++ [d]) = rvI ds + 10 ^ ds.length * (d - 48)
  | [], d => by simp [rvI]
  | e :: r, d => by
    simp only [List.cons_append, rvI, rvI_snoc r d, List.length_cons, Int.pow_succ]
    rw [Int.mul_add, ← Int.mul_assoc, Int.mul_comm 10 (10 ^ r.length)]
    omega
/-- Each is a digit. -/
def AllD (ds : List Int) : Prop := ∀ d ∈ ds, 48 ≤ d ∧ d ≤ 57
def toU8 (d : Int) : UInt8 := UInt8.ofNat d.toNat
theorem toU8_nat {d : Int} (h : 48 ≤ d ∧ d ≤ 57) : ((toU8 d).toNat : Int) = d := by
  unfold toU8
  rw [UInt8.toNat_ofNat']
  omega
theorem dval_rev : ∀ (ds : List Int), AllD ds → dval (ds.reverse.map toU8) = rvI ds
  | [], _ => rfl
  | d :: r, h => by
    have ih := dval_rev r fun e he => h e (by simp [he])
    rw [List.reverse_cons, List.map_append, List.map_singleton, dval_snoc, ih, toU8_nat (h d (by simp))]
    simp only [rvI]
    omega
theorem dig_rev {ds : List Int} (h : AllD ds) : (ds.reverse.map toU8).all isDig = true := by
  rw [List.all_eq_true]
  intro c hc
  obtain ⟨d, hd, rfl⟩ := List.mem_map.1 hc
  have hd' := h d (by simpa using hd)
  have := toU8_nat hd'
  unfold isDig
  simp only [Bool.and_eq_true, decide_eq_true_eq]
  omega
theorem rvI_nonneg : ∀ ds : List Int, AllD ds → 0 ≤ rvI ds
  | [], _ => by simp [rvI]
  | d :: r, h => by
    have := rvI_nonneg r fun e he => h e (by simp [he])
    have := (h d (by simp)).1
    simp only [rvI]
    omega

/-- The text of a number: digits, no nought ahead. -/
structure IsText (v : Int) (l : List UInt8) : Prop where
  dig : l.all isDig = true
  val : dval l = v
  ne : l ≠ []
  zero : v = 0 → l = [48]
  head : v ≠ 0 → ∀ c, l.head? = some c → c.toNat ≠ 48
theorem dval_low {c : UInt8} {m : List UInt8} (h : (c :: m).all isDig = true) (hc : c.toNat ≠ 48) : (10 : Int) ^ m.length ≤ dval (c :: m) := by
  simp only [List.all_cons, Bool.and_eq_true] at h
  obtain ⟨h1, h2⟩ := dval_bd h.2
  have h3 := h.1
  unfold isDig at h3
  simp only [Bool.and_eq_true, decide_eq_true_eq] at h3
  have hp : (0 : Int) < 10 ^ m.length := Int.pow_pos (by decide)
  have h5 : 1 * (10 : Int) ^ m.length ≤ ((c.toNat : Int) - 48) * 10 ^ m.length := Int.mul_le_mul_of_nonneg_right (by omega) (Int.le_of_lt hp)
  rw [dval_cons]
  omega
theorem pow10_mono (a b : Nat) (h : a ≤ b) : (10 : Int) ^ a ≤ 10 ^ b := by
  have h4 : 10 ^ a ≤ 10 ^ b := Nat.pow_le_pow_right (by decide) h
  have h5 : ((10 ^ a : Nat) : Int) ≤ ((10 ^ b : Nat) : Int) := Int.ofNat_le.2 h4
  simpa using h5
theorem dval_inj : ∀ (l m : List UInt8), l.all isDig = true → m.all isDig = true → l.length = m.length → dval l = dval m → l = m
  | [], [], _, _, _, _ => rfl
  | [], _ :: _, _, _, h, _ => by simp at h
  | _ :: _, [], _, _, h, _ => by simp at h
  | c :: l, d :: m, hl, hm, hlen, h => by
    simp only [List.all_cons, Bool.and_eq_true] at hl hm
    obtain ⟨a1, a2⟩ := dval_bd hl.2
    obtain ⟨b1, b2⟩ := dval_bd hm.2
    have hc := hl.1
    have hd := hm.1
    unfold isDig at hc hd
    simp only [Bool.and_eq_true, decide_eq_true_eq] at hc hd
    have hlen' : l.length = m.length := by simpa using hlen
    rw [dval_cons, dval_cons, hlen'] at h
    rw [hlen'] at a2
    have e : c.toNat = d.toNat := by
      rcases Nat.lt_trichotomy c.toNat d.toNat with hh | hh | hh
      · have : ((c.toNat : Int) - 48 + 1) * 10 ^ m.length ≤ ((d.toNat : Int) - 48) * 10 ^ m.length := Int.mul_le_mul_of_nonneg_right (by omega) (Int.le_of_lt (Int.pow_pos (by decide)))
        rw [Int.add_mul, Int.one_mul] at this
        omega
      · exact hh
      · have : ((d.toNat : Int) - 48 + 1) * 10 ^ m.length ≤ ((c.toNat : Int) - 48) * 10 ^ m.length := Int.mul_le_mul_of_nonneg_right (by omega) (Int.le_of_lt (Int.pow_pos (by decide)))
        rw [Int.add_mul, Int.one_mul] at this
        omega
    have e2 : c = d := UInt8.toNat_inj.1 e
    subst e2
    rw [dval_inj l m hl.2 hm.2 hlen' (by omega)]
theorem IsText.eq {v : Int} {l m : List UInt8} (h : IsText v l) (k : IsText v m) : l = m := by
  by_cases hv : v = 0
  · rw [h.zero hv, k.zero hv]
  · refine dval_inj l m h.dig k.dig ?_ (by rw [h.val, k.val])
    rcases l with _ | ⟨c, l⟩
    · exact absurd rfl h.ne
    rcases m with _ | ⟨d, m⟩
    · exact absurd rfl k.ne
    have h1 := dval_low h.dig (h.head hv c rfl)
    have h2 := dval_low k.dig (k.head hv d rfl)
    have h3 := (dval_bd h.dig).2
    have h4 := (dval_bd k.dig).2
    rw [h.val] at h1 h3
    rw [k.val] at h2 h4
    simp only [List.length_cons] at h3 h4 ⊢
    rcases Nat.lt_trichotomy l.length m.length with hh | hh | hh
    · have := pow10_mono (l.length + 1) m.length (by omega)
      omega
    · omega
    · have := pow10_mono (m.length + 1) l.length (by omega)
      omega

theorem u8_info : (Tryd.prog.info? 5).map (fun i => (i.zero, i.size, i.bytes)) = some (some (.int .u8 0), 1, 1) := by kernel_rfl

theorem own_below {B : Nat} {e : TypeId} {k : Nat} {v : Value} {n : Nat} {xs : List Value} {w w' : World} (h : w.ownsRow B e k v n xs) (hb : Below w.heap.size w w') : w'.ownsRow B e k v n xs :=
  h.kept (row := none) ⟨hb.os, hb.tape, hb.output, hb.size, fun j hj _ => hb.block j hj⟩ (by cases hv : v.ownBlock <;> simp)
/-- A row of bytes grows: words stay. -/
theorem TB.ne {w : World} {A : Option Addr} {B n : Nat} {v : Value} {xs : List Value} (h : TB w A) (own : w.ownsRow B 5 1 v n xs) : ∀ a, A = some a → some a.block ≠ v.ownBlock := fun a ha e => by
  obtain ⟨cs, hb⟩ := h a ha
  rcases own.2 with ⟨rfl, _⟩ | ⟨g, cap, cur, rfl, _, hh, _⟩
  · cases e
  · simp only [Value.ownBlock, Option.some.injEq] at e
    unfold Blk at hb
    rw [e, hh] at hb
    injection hb with hb
    injection hb with _ h2 _
    exact absurd h2 (by decide)
theorem TB.alloc {w : World} {A : Option Addr} (h : TB w A) (o : Obj) : TB (w.alloc o) A := fun a ha => by
  obtain ⟨cs, hb⟩ := h a ha
  exact ⟨cs, hb.alloc o⟩
theorem TB.grown {w w' : World} {A : Option Addr} {row : Option Nat} (h : TB w A) (hg : w.grownBy w' row) (hne : ∀ a, A = some a → some a.block ≠ row) : TB w' A := fun a ha => by
  obtain ⟨cs, hb⟩ := h a ha
  exact ⟨cs, (hg.block a.block hb.lt (hne a ha)).trans hb⟩
theorem Rn.grown {w w' : World} {A : Option Addr} {ws : List Int} {row : Option Nat} (h : Rn w A ws) (hg : w.grownBy w' row) (hne : ∀ a, A = some a → some a.block ≠ row) : Rn w' A ws := by
  rcases h with h | ⟨g, off, e, hl, hc⟩
  · exact .inl h
  · refine .inr ⟨g, off, e, Nat.lt_of_lt_of_le hl hg.size, fun i x hi => ?_⟩
    exact hg.cell (hc i x hi) (show some g ≠ row from hne _ e)

/-- The group so far, behind the digits. -/
structure TxIn (V v g : Int) (ds : List Int) (m j : Nat) : Prop where
  len : ds.length = m + j
  dig : AllD ds
  eq : v * 10 ^ (m + 9) + g * 10 ^ (m + j) + rvI ds = V
  g0 : 0 ≤ g
  g1 : g < 10 ^ (9 - j)
  le : j ≤ 9
theorem TxIn.next {V v g : Int} {ds : List Int} {m j : Nat} (h : TxIn V v g ds m j) (hj : j < 9) : TxIn V v (g / 10) (ds ++ [48 + g % 10]) m (j + 1) := by
  obtain ⟨h1, h2, h3, h4, h5, h6⟩ := h
  refine ⟨by rw [List.length_append, h1]; simp; omega, fun d hd => ?_, ?_, by omega, ?_, hj⟩
  · rcases List.mem_append.1 hd with hd | hd
    · exact h2 d hd
    · simp at hd
      omega
  · rw [rvI_snoc, h1, ← Nat.add_assoc, Int.pow_succ 10 (m + j)]
    have e : g * 10 ^ (m + j) = g / 10 * (10 ^ (m + j) * 10) + 10 ^ (m + j) * (g % 10) := by
      have e1 : g = g / 10 * 10 + g % 10 := by omega
      have e2 : g * 10 ^ (m + j) = (g / 10 * 10 + g % 10) * 10 ^ (m + j) := by rw [← e1]
      rw [e2, Int.add_mul, Int.mul_assoc, Int.mul_comm 10, Int.mul_comm (g % 10)]
    rw [show 48 + g % 10 - 48 = g % 10 by omega]
    omega
  · have e : (10 : Int) ^ (9 - j) = 10 ^ (9 - (j + 1)) * 10 := by rw [show 9 - j = (9 - (j + 1)) + 1 by omega, Int.pow_succ]
    rw [e] at h5
    omega

theorem pow2_10 (m : Nat) : (2 : Int) ^ m ≤ 10 ^ m := by
  have h4 : 2 ^ m ≤ 10 ^ m := Nat.pow_le_pow_left (by decide) m
  have h5 : ((2 ^ m : Nat) : Int) ≤ ((10 ^ m : Nat) : Int) := Int.ofNat_le.2 h4
  simpa using h5
/-- Not more digits than bits. -/
theorem dig_bound {V v r : Int} {m b : Nat} (e : v * 10 ^ m + r = V) (hv : 0 < v) (hr : 0 ≤ r) (hV : V < 2 ^ b) : m < b := by
  have h1 := pow2_10 m
  have h2 : 1 * (10 : Int) ^ m ≤ v * 10 ^ m := Int.mul_le_mul_of_nonneg_right (by omega) (Int.le_of_lt (Int.pow_pos (by decide)))
  rcases Nat.lt_or_ge m b with h | h
  · exact h
  · have := pow_mono b m h
    omega

set_option maxHeartbeats 6400000 in
theorem ntext_any (A : Option Addr) (n c : Nat) (us : List Int) (w : World) (hn : us.length = n) (hc : n ≤ c) (hx : Rn w A us) (hu : AllW us) (ln : n ≤ 1048577) :
    Calls Tryd.prog 57 #[.slice A n c] w fun e w' => (∃ s : ByteArray, IsText (nv us) s.data.toList ∧ e = .returned (.string s)) ∧ Below w.heap.size w w' := by
  obtain ⟨i0, hi, hz0, hz1, hz2⟩ := info_parts u8_info
  have HI := Lib.hid hi
  have HZ0 := Lib.hid hz0
  have HZ1 := Lib.hid hz1
  have HZ2 := Lib.hid hz2
  have HN := Lib.hid hn
  obtain ⟨V, hV⟩ : ∃ V, nv us = V := ⟨_, rfl⟩
  have HV := Lib.hid hV
  have hV0 := nv_nonneg us hu
  have hV1 := nv_lt us hu
  rw [hV, hn] at hV1
  rw [hV] at hV0
  rw [hV]
  have HV1 := Lib.hid hV1
  clear hn hi hz0 hz1 hz2 hV hV1
  go_enter Tryd.func57, Tryd.ntmps57
  go_wp2_with fail
  refine (trim_any A n c us w HN.out hc hx (by omega)).mono ?_
  rintro e w1 ⟨us', A1, n1, c1, TU, rfl, hc1, hx1, -, rfl⟩
  have NU : IsNat V us' := by have := TU.nat hu; rw [HV.out] at this; exact this
  have ln1 := TU.le HN.out
  have HN1 := Lib.hid TU.len
  clear TU HV hx hu
  by_cases h0 : n1 = 0
  · subst h0
    have F : V = 0 := by
      have := List.eq_nil_of_length_eq_zero HN1.out
      rw [this] at NU
      exact NU.val.symm
    have FT : Hid (IsText V [48]) := by
      show IsText _ _
      rw [F]
      exact ⟨by decide, by decide, by simp, fun _ => rfl, fun h => absurd rfl h⟩
    clear F
    go_wp2_with fail
    go_ret
    exact ⟨⟨_, FT.out, rfl⟩, Below.refl _ _⟩
  · have h0' : ((n1 : Int) == 0) = false := by simp; omega
    have hVp : 0 < V := NU.pos (by rw [HN1.out]; exact h0)
    clear h0
    go_wp2_with fail
    go_loopg [0, 3] V.toNat (fun gk s0 s3 wr => ∃ (v : Int) (vs ds : List Int) (P : Option Addr) (a ca m : Nat), s0 = .slice P a ca ∧ gk = v.toNat ∧ IsNat v vs ∧ Hid (vs.length = a) ∧ a ≤ ca ∧ Rn wr P vs ∧ v ≤ V ∧ Hid (v * 10 ^ m + rvI ds = V) ∧ AllD ds ∧ m ≤ 32 * n + 9 ∧ wr.ownsRow w.heap.size 5 1 s3 m (ds.map (Value.int .u8)) ∧ Hid (Below w.heap.size w wr))
    case atStart => exact ⟨V, us', [], A1, n1, c1, 0, rfl, rfl, NU, HN1, hc1, hx1, Int.le_refl _, by show _ = _; simp [rvI], (fun d hd => by cases hd), by omega, ⟨rfl, .inl ⟨rfl, rfl⟩⟩, Below.refl _ _⟩
    case round =>
      clear NU HN1 hc1 hx1
      obtain ⟨v, vs, ds, P, a, ca, m, rfl, hgk, nv_, lv, hca, hP, hvV, HE, AD, hm, own, HB⟩ := hrel
      have la : a ≤ n := by
        have := nv_.le (k := n) (by have := HV1.out; omega)
        rw [lv.out] at this
        exact this
      by_cases ha : a = 0
      · subst ha
        have v0 : v = 0 := by
          have := List.eq_nil_of_length_eq_zero lv.out
          rw [this] at nv_
          exact nv_.val.symm
        have ER : Hid (rvI ds = V) := by show _ = _; have := HE.out; rw [v0] at this; omega
        have hm0 : 0 < m := by
          rcases Nat.eq_zero_or_pos m with h | h
          · exfalso
            have h1 := own.1
            rw [h] at h1
            have h2 : ds = [] := List.eq_nil_of_length_eq_zero (by simpa using h1)
            have h3 := ER.out
            rw [h2] at h3
            simp [rvI] at h3
            omega
          · exact h
        obtain ⟨g, cap, rfl⟩ : ∃ g cap, _ = Value.slice (some ⟨g, 0, none⟩) m cap := by
          rcases own.2 with ⟨_, e⟩ | ⟨g, cap, cur, e, _⟩
          · omega
          · exact ⟨g, cap, e⟩
        clear HE v0 hgk nv_ lv hca hP hvV
        go_wp2_with fail
        go_loopg [3] m (fun gk s3 wr => ∃ (ds : List Int) (m cap : Nat), s3 = .slice (some ⟨g, 0, none⟩) m cap ∧ gk = m ∧ 0 < m ∧ m ≤ 32 * n + 9 ∧ Hid (rvI ds = V) ∧ AllD ds ∧ wr.ownsRow w.heap.size 5 1 (.slice (some ⟨g, 0, none⟩) m cap) m (ds.map (Value.int .u8)) ∧ Hid (Below w.heap.size w wr))
        case atStart => exact ⟨ds, m, cap, rfl, rfl, hm0, hm, ER, AD, own, HB⟩
        case round =>
          clear ER AD own HB hm0 hm
          obtain ⟨ds, m, cap, rfl, hgk, hm0, hm, ER, AD, own, HB⟩ := hrel
          obtain ⟨i, rfl⟩ : ∃ i, m = i + 1 := ⟨m - 1, by omega⟩
          have hdl : ds.length = i + 1 := by have := own.1; simpa using this
          have q0 : wr.cell? ⟨g, i, none⟩ = some (.int .u8 (ds.getD i 0)) := by
            rw [own.cellAt i (by omega), List.getElem?_map, List.getD_eq_getElem?_getD, List.getElem?_eq_getElem (by omega)]
            rfl
          obtain ⟨xs, d, hxs, hxl⟩ : ∃ xs d, ds = xs ++ [d] ∧ xs.length = i := by
            refine ⟨ds.take i, ds.getD i 0, ?_, by rw [List.length_take]; omega⟩
            have := List.take_succ_eq_append_getElem (l := ds) (i := i) (by omega)
            rw [List.take_of_length_le (by omega)] at this
            rw [List.getD_eq_getElem?_getD, List.getElem?_eq_getElem (by omega)]
            exact this
          have hdi : ds.getD i 0 = d := by rw [hxs, List.getD_eq_getElem?_getD, ← hxl]; simp
          have hdd := AD d (by rw [hxs]; simp)
          rw [hdi] at q0
          have hcap : i + 1 ≤ cap := by
            rcases own.2 with ⟨e, _⟩ | ⟨g', cap', cur, e, _, _, hc', _⟩
            · cases e
            · injection e with _ _ e3
              omega
          have GK := Lib.hid hgk
          by_cases h48 : d = 48
          · subst h48
            have own2 : wr.ownsRow w.heap.size 5 1 (.slice (some ⟨g, 0, none⟩) i cap) i (xs.map (Value.int .u8)) := by
              rw [hxs, List.map_append] at own
              exact ownsRow_pop (by rw [List.length_map, hxl]; omega) own
            have ER2 : Hid (rvI xs = V) := by
              show _ = _
              have := ER.out
              rw [hxs, rvI_snoc] at this
              simpa using this
            have AD2 : AllD xs := fun e he => AD e (by rw [hxs]; simp [he])
            have hi0 : 0 < i := by
              rcases Nat.eq_zero_or_pos i with h | h
              · exfalso
                rw [h] at hxl
                have h2 := List.eq_nil_of_length_eq_zero hxl
                have h3 := ER2.out
                rw [h2] at h3
                simp [rvI] at h3
                omega
              · exact h
            clear hxs hxl hdi hgk own ER AD hdl
            go_wp2_with fail
            go_roundg i
            case measure => rw [GK.out]; omega
            case rel => exact ⟨xs, i, cap, rfl, rfl, hi0, by omega, ER2, AD2, own2, HB⟩
          · have h48' : (d == 48) = false := by simp; exact h48
            have FT : Hid (IsText V (strOfNums ds.reverse).data.toList) := by
              show IsText _ _
              rw [strOfNums_data]
              show IsText V (ds.reverse.map toU8)
              refine ⟨dig_rev AD, by rw [dval_rev ds AD]; exact ER.out, ?_, fun h => by omega, fun _ c hc => ?_⟩
              · rw [hxs]; simp
              · rw [hxs] at hc
                simp at hc
                have := toU8_nat hdd
                rw [hc] at this
                omega
            have hml : i + 1 ≤ 1099511627776 := by omega
            clear hxs hxl hdi hgk GK hdl ER AD hdd
            go_wp2_with fail
            refine (reverse_any g (i + 1) cap w.heap.size ds wr own (by omega) hml).mono ?_
            rintro e w4 ⟨rfl, own4, hb4⟩
            have HB4 := Lib.hid (HB.out.trans hb4)
            have HL4 : Hid (ds.reverse.length = i + 1) := by have := own4.1; show _ = _; simpa using this
            have CV := run_convert_bytes_arg (P := Tryd.prog) w4 98 5 Tryd.underlying98 Tryd.underlying5 g 0 (i + 1) cap ds.reverse HL4.out (fun j hj => by
              rw [Nat.zero_add, own4.cellAt j (by omega), List.getElem?_map, List.getD_eq_getElem?_getD, List.getElem?_eq_getElem (by rw [HL4.out]; exact hj)]
              rfl) 9 Tryd.underlying9
            generalize strOfNums ds.reverse = st at *
            clear own4 hb4 HB own q0 HL4
            go_wp2_with fail
            go_ret
            exact ⟨⟨st, FT.out, rfl⟩, HB4.out⟩
      · have ha0 : (0 : Int) < (a : Int) := by omega
        have hv0 : 0 < v := nv_.pos (by rw [lv.out]; exact ha)
        have hmb : m < 32 * n := dig_bound HE.out hv0 (rvI_nonneg ds AD) HV1.out
        have VV := Lib.hid nv_.val
        have GK := Lib.hid hgk
        clear ha hgk
        go_wp2_with fail
        refine (ndivWord_any P a ca vs 1000000000 wr lv.out hP nv_.all (by omega) ⟨by decide, by decide⟩ (by decide)).mono ?_
        rw [VV.out]
        rintro e w2 ⟨qs, P2, n2, c2, q, r, hq, heq, hr0, hr1, hl2, rfl, hc2, hr2, -, tb2, hb2⟩
        have T0 : TxIn V q r ds m 0 := by
          refine ⟨by have := own.1; simpa using this, AD, ?_, hr0, by rw [Nat.sub_zero, show (10 : Int) ^ 9 = 1000000000 by decide]; exact hr1, by decide⟩
          have h1 := HE.out
          have e9 : (10 : Int) ^ (m + 9) = 1000000000 * 10 ^ m := by rw [Int.pow_add, Int.mul_comm]; rfl
          rw [e9, ← Int.mul_assoc, show m + 0 = m by omega, ← Int.add_mul, heq]
          exact h1
        have hq0 := hq.nonneg
        have hqv : q ≤ v ∧ q < v := by omega
        have HQ : Hid (q ≤ v ∧ q < v) := hqv
        have hl := Lib.hid hl2
        have own1 : w2.ownsRow w.heap.size 5 1 _ m (ds.map (Value.int .u8)) := own_below own hb2
        have HB2 := Lib.hid (bel_trans HB.out hb2)
        clear heq hl2 own HB hb2 HE hqv lv nv_ VV hP AD
        go_wp2_with fail
        go_loopw [3, 5, 19] (fun s3 s5 s19 wq => ∃ (j : Nat) (es : List Int) (gv : Int), s5 = .int .u32 gv ∧ s19 = .int .i64 (j : Int) ∧ TxIn V q gv es m j ∧ wq.ownsRow w.heap.size 5 1 s3 (m + j) (es.map (Value.int .u8)) ∧ Hid (Below w.heap.size w wq) ∧ Rn wq P2 qs ∧ TB wq P2) (fun _ _ s19 _ => 9 - (intOf s19).toNat)
        case atStart => exact ⟨0, ds, r, rfl, rfl, T0, own1, HB2, hr2, tb2⟩
        case round =>
          clear T0 own1 HB2 hr2 tb2
          obtain ⟨j, es, gv, rfl, rfl, T, own, HB, hr2, tb2⟩ := hrel
          have g0 := T.g0
          have jl := T.le
          have g1 : gv < 1000000000 := by
            have h1 := T.g1
            have h2 := pow10_mono (9 - j) 9 (by omega)
            rw [show (10 : Int) ^ 9 = 1000000000 by decide] at h2
            omega
          by_cases hj : j < 9
          · have TN := Lib.hid (T.next hj)
            clear T
            go_wp2_with (at_builtin; refine wpList_append_own _ rfl _ _ 98 rfl w.heap.size 5 i0 (.int .u8 0) 1 1 Tryd.underlying98 HI.out HZ0.out HZ1.out HZ2.out rfl (by decide) _ _ _ rfl (own.alloc _) ⟨wr.heap.size, 0, none⟩ 1 1 [_] rfl rfl (cell_one_new _ _ _) ?c2 ?c3 ?c4 ?c5 ?_)
            case c2 => intro u hu; simp at hu; subst hu; rfl
            case c3 => unfold maxLen; omega
            case c4 => omega
            case c5 => have := HB.out.size; simp; omega
            intro v' w3 own' hgrow hnil
            clear hnil
            have HB' := Lib.hid (own_grown HB.out own hgrow)
            have tba := tb2.alloc (.cells #[.int .u8 (48 + gv % 10)] 5)
            have hr3 := (hr2.alloc (.cells #[.int .u8 (48 + gv % 10)] 5)).grown hgrow (tba.ne (own.alloc _))
            have tb3 := tba.grown hgrow (tba.ne (own.alloc _))
            have own2 : w3.ownsRow w.heap.size 5 1 v' (m + (j + 1)) ((es ++ [48 + gv % 10]).map (Value.int .u8)) := by rw [List.map_append]; exact own'
            clear own' hgrow own HB hr2 tb2 tba
            go_wp2_with fail
            go_roundw
            case rel => exact ⟨j + 1, _, gv / 10, rfl, by go_num, TN.out, own2, HB', hr3, tb3⟩
            case measure => simp [intOf]; omega
          · have ej : j = 9 := by omega
            subst ej
            have gz : gv = 0 := by have := T.g1; simp at this; omega
            subst gz
            have HE2 : Hid (q * 10 ^ (m + 9) + rvI es = V) := by show _ = _; have := T.eq; rw [Int.zero_mul] at this; omega
            have AD2 := T.dig
            clear T
            go_wp2_with fail
            go_roundg q.toNat
            case measure => rw [GK.out]; have := HQ.out; omega
            case rel => exact ⟨q, qs, es, P2, n2, c2, m + 9, rfl, rfl, hq, hl, hc2, hr2, by have := HQ.out; omega, HE2, AD2, by omega, own, HB⟩
end Go.Proofs.YtaollppieonmbaaDoor
