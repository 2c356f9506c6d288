/-
  Contracts of deci.decimalOf and around. Conditions: the number is below 2^64, the power at most 5000 either way; around's number of digits is at most 18; the listed tables stand.
-/
import Derived.Test.YthofjlgngandoaaGreatDoorDecp
import Derived.Test.YthofjlgngandoaaGreatDoorPlan
import Derived.Deep.RegionHeld3
namespace Go.Proofs.YthofjlgngandoaaGreatDoor
open Go.RowKit
set_option maxRecDepth 100000

/-- The digits of a number without the noughts at their end, and the power that the last one counts. -/
def dcD (x : Nat) : List UInt8 := Lib.trimRightB (decF 20 x) 48
def dcE (x : Nat) (e : Int) : Int := e + (decF 20 x).length - (dcD x).length
theorem dec20 {x : Nat} (h : x < 18446744073709551616) : Lib.decDigits x = decF 20 x := decF_is 20 x (by omega)
theorem dec20_len {x : Nat} (h : x < 18446744073709551616) : 1 ≤ (decF 20 x).length ∧ (decF 20 x).length ≤ 20 := by
  rw [← dec20 h]
  refine ⟨dec_len x, ?_⟩
  rw [Lib.decDigits_length]
  by_cases h1 : 1 ≤ x
  · have := Lib.numDigits_eq x h1 h; split at this <;> omega
  · obtain rfl : x = 0 := by omega
    rw [Lib.nDigits_small (by decide)]
    decide
theorem trim_len (l : List UInt8) (c : UInt8) : (Lib.trimRightB l c).length ≤ l.length := by
  unfold Lib.trimRightB
  rw [List.length_reverse]
  exact Nat.le_trans (List.Sublist.length_le (List.dropWhile_sublist _)) (by rw [List.length_reverse]; exact Nat.le_refl _)
theorem dcE_bd {x : Nat} (h : x < 18446744073709551616) (e : Int) : e ≤ dcE x e ∧ dcE x e ≤ e + 20 := by
  have h1 := trim_len (decF 20 x) 48
  have h2 := dec20_len h
  unfold dcE dcD
  omega
set_option maxHeartbeats 2000000 in
theorem decimalOf_any (x : Nat) (e : Int) (hx : x < 18446744073709551616) (he : -5000 ≤ e) (he' : e ≤ 5000) (w : World) (hE : EnvOk w) :
    Calls Tryz.prog 96 #[.int .u64 (x : Int), .int .i64 e] w (RetV (fun _ v => v = .agg #[.string ⟨(dcD x).toArray⟩, .int .i64 (dcE x e)]) w) := by
  have FM := Lib.hid fun w hE => format_any x hx w hE
  obtain ⟨t, ht⟩ : ∃ t : ByteArray, t = ⟨(Lib.decDigits x).toArray⟩ := ⟨_, rfl⟩
  obtain ⟨d, hd⟩ : ∃ t : ByteArray, t = ⟨(dcD x).toArray⟩ := ⟨_, rfl⟩
  have st : t.size = (decF 20 x).length := by rw [ht, str_size, dec20 hx]
  have sd : d.size = (dcD x).length := by rw [hd, str_size]
  have b1 := dec20_len hx
  have b2 := trim_len (decF 20 x) 48
  have FM' : Hid (∀ w, EnvOk w → Calls Tryz.prog 63 #[.int .u64 (x : Int), .int .i64 10] w fun e w' => e = .returned (.string t) ∧ Below w.heap.size w w') := by rw [ht]; exact FM.out
  have TR : Hid (∀ w, Calls Tryz.prog 122 #[.string t, .string ⟨#[48]⟩] w fun e w' => e = .returned (.string d) ∧ w' = w) := by
    intro w
    have := sh_strings_TrimRight_one t 48 (by decide) w (by omega)
    rw [ht, str_data, dec20 hx] at this
    rw [ht, dec20 hx, hd]
    exact this
  have EE : Hid (dcE x e = e + t.size - d.size) := by show _ = _; rw [st, sd]; rfl
  have o1 : IntKind.i64.wrap (e + (t.size : Int)) = e + t.size := by rw [IntKind.wrap_i64]; omega
  have bt : t.size ≤ 20 := by omega
  have bd : d.size ≤ 20 := by rw [sd]; unfold dcD; omega
  have o2 : IntKind.i64.wrap (e + (t.size : Int) - (d.size : Int)) = e + t.size - d.size := by rw [IntKind.wrap_i64]; omega
  rw [← hd]
  clear FM ht hd st sd b1 b2
  generalize dcE x e = r at *
  go_enter Tryz.func96, Tryz.ntmps96
  go_wp2_with fail
  refine (FM'.out _ (hE.alloc _)).mono ?_
  rintro y w1 ⟨rfl, hb1⟩
  have K1 := Blk.made hb1
  have HB1 := Lib.hid (bel_trans (bel_alloc (Below.refl _ _) _) hb1)
  clear hb1
  go_wp2_with fail
  refine (TR.out _).mono ?_
  rintro y w2 ⟨rfl, rfl⟩
  obtain ⟨c0, c1, f0, f1⟩ := K1.two
  go_wp2_with fail
  have K2 := K1.put2 (.string d) (.int .i64 (e + t.size - d.size))
  have HB2 := Lib.hid (bel_put2 HB1.out (Nat.le_refl _) (.string d) (.int .i64 (e + t.size - d.size)))
  unfold wput2 at K2 HB2
  obtain ⟨q0, q1, -, -⟩ := K2.two
  refine bodyPost_ret (by simp [results, Tryz.results96, go_sem, q0, q1]; (try rfl)) rfl ⟨_, ?_, rfl, HB2.out⟩
  rw [EE.out]

/-- An array's four cells are written anew. -/
def wput4 (w : World) (g : Nat) (a b c d : Value) : World := (((w.setCell ⟨g, 0, none⟩ a).setCell ⟨g, 1, none⟩ b).setCell ⟨g, 2, none⟩ c).setCell ⟨g, 3, none⟩ d
section
variable {w w' : World} {g : Nat} {t : TypeId}
theorem Blk.put4 {x y z u : Value} (k : Blk w g t #[x, y, z, u]) (a b c d : Value) : Blk (wput4 w g a b c d) g t #[a, b, c, d] := by
  have h1 := (((k.set_ 0 a).set_ 1 b).set_ 2 c).set_ 3 d
  unfold wput4
  simpa using h1
theorem Blk.put4_far {cs : Array Value} {g' : Nat} {t' : TypeId} (k : Blk w g' t' cs) (hg : g' ≠ g) (a b c d : Value) : Blk (wput4 w g a b c d) g' t' cs :=
  (((k.far (p := ⟨g, 0, none⟩) hg a).far (p := ⟨g, 1, none⟩) hg b).far (p := ⟨g, 2, none⟩) hg c).far (p := ⟨g, 3, none⟩) hg d
theorem bel_put4 {B : Nat} (h : Below B w w') (hg : B ≤ g) (a b c d : Value) : Below B w (wput4 w' g a b c d) :=
  (((h.setCell (p := ⟨g, 0, none⟩) hg a).setCell (p := ⟨g, 1, none⟩) hg b).setCell (p := ⟨g, 2, none⟩) hg c).setCell (p := ⟨g, 3, none⟩) hg d
theorem Blk.four {a b c d : Value} (h : Blk w g t #[a, b, c, d]) : w.cell? ⟨g, 0, none⟩ = some a ∧ w.cell? ⟨g, 1, none⟩ = some b ∧ w.cell? ⟨g, 2, none⟩ = some c ∧ w.cell? ⟨g, 3, none⟩ = some d ∧ w.frozen? ⟨g, 0, none⟩ = false ∧ w.frozen? ⟨g, 1, none⟩ = false ∧ w.frozen? ⟨g, 2, none⟩ = false ∧ w.frozen? ⟨g, 3, none⟩ = false :=
  ⟨h.cell 0, h.cell 1, h.cell 2, h.cell 3, h.frozen 0, h.frozen 1, h.frozen 2, h.frozen 3⟩
end
/-- The two numbers next to whole (and something, if r) that lack its last n digits: is the upper one the nearer? -/
def arS (w : Nat) (r : Bool) (n : Nat) : Bool := decide (10 ^ n < w % 10 ^ n * 2) || (decide (w % 10 ^ n * 2 = 10 ^ n) && (r || decide (w / 10 ^ n % 2 = 1)))
def arA (w : Nat) (r : Bool) (n : Nat) : Nat := if arS w r n then w / 10 ^ n + 1 else w / 10 ^ n
def arB (w : Nat) (r : Bool) (n : Nat) : Nat := if arS w r n then w / 10 ^ n else w / 10 ^ n + 1
set_option maxHeartbeats 8000000 in
theorem around_any (W : Nat) (x : Int) (r : Bool) (n : Nat) (hW : W < 18446744073709551615) (hx : -4000 ≤ x) (hx' : x ≤ 4000) (hn : n ≤ 18) (w : World) (hE : EnvOk w) :
    Calls Tryz.prog 64 #[.agg #[.int .u64 (W : Int), .int .i64 x, .bool r], .int .i64 (n : Int)] w (RetV (fun _ v => v = .agg #[.string ⟨(dcD (arA W r n)).toArray⟩, .int .i64 (dcE (arA W r n) (x + n)), .string ⟨(dcD (arB W r n)).toArray⟩, .int .i64 (dcE (arB W r n) (x + n))]) w) := by
  have U : Hid (∀ k, k ≤ n → 1 ≤ 10 ^ k ∧ 10 ^ k ≤ 1000000000000000000) := fun k hk => by
    have h1 : 10 ^ 0 ≤ 10 ^ k := Nat.pow_le_pow_right (by decide) (by omega)
    have h2 : 10 ^ k ≤ 10 ^ 18 := Nat.pow_le_pow_right (by decide) (by omega)
    omega
  have DF : Hid (arS W r n = (decide (10 ^ n < W % 10 ^ n * 2) || (decide (W % 10 ^ n * 2 = 10 ^ n) && (r || decide (W / 10 ^ n % 2 = 1))))) := rfl
  have DA : Hid (arA W r n = if arS W r n then W / 10 ^ n + 1 else W / 10 ^ n) := rfl
  have DB : Hid (arB W r n = if arS W r n then W / 10 ^ n else W / 10 ^ n + 1) := rfl
  generalize arA W r n = aA at *
  generalize arB W r n = aB at *
  generalize arS W r n = aS at *
  obtain ⟨rs, hrs⟩ : ∃ v : Array Value, v = #[.string ⟨(dcD aA).toArray⟩, .int .i64 (dcE aA (x + n)), .string ⟨(dcD aB).toArray⟩, .int .i64 (dcE aB (x + n))] := ⟨_, rfl⟩
  have GG : Hid (∀ y : Nat, ∀ z : Nat, aA = y → aB = z → rs = #[.string ⟨(dcD y).toArray⟩, .int .i64 (dcE y (x + n)), .string ⟨(dcD z).toArray⟩, .int .i64 (dcE z (x + n))]) := fun y z h1 h2 => by rw [hrs, h1, h2]
  rw [← hrs]
  clear hrs
  go_enter Tryz.func64, Tryz.ntmps64
  go_wp2_with fail
  go_loop [5, 10] (fun s5 s10 => ∃ k : Nat, s10 = .int .i64 (k : Int) ∧ k ≤ n ∧ s5 = .int .u64 ((10 ^ k : Nat) : Int)) (fun _ s10 => n - (intOf s10).toNat)
  case atStart => exact ⟨0, rfl, Nat.zero_le _, rfl⟩
  obtain ⟨k, rfl, hk, rfl⟩ := hrel
  by_cases hlt : k < n
  · obtain ⟨u1, u2⟩ := U.out (k + 1) hlt
    have P := Lib.hid (Nat.pow_succ (n := 10) (m := k))
    rw [Nat.pow_succ] at u1 u2
    have hl1 : (k : Int) < (n : Int) := by omega
    clear U
    generalize 10 ^ k = u at *
    go_wp2_with fail
    go_round
    case rel => exact ⟨k + 1, by go_num, by omega, by rw [P.out]; simp⟩
    case measure => simp [intOf]; omega
  · obtain rfl : k = n := by omega
    obtain ⟨u1, u2⟩ := U.out k (Nat.le_refl _)
    clear U hlt hk
    have DS := DF.out
    generalize 10 ^ k = u at *
    have u0 : ¬ u = 0 := by omega
    have WR : IntKind.u64.wrap ((W : Int) / (u : Int)) = (W : Int) / (u : Int) := by
      have e1 := Int.ediv_le_self (u : Int) (show (0 : Int) ≤ W by omega)
      have e2 : (0 : Int) ≤ (W : Int) / u := Int.ediv_nonneg (by omega) (by omega)
      rw [IntKind.wrap_u64]
      omega
    have K1 := (Blk.new w 78 #[.int .u64 (W : Int), .int .i64 x, .bool r]).alloc (.cells #[.string ⟨#[]⟩, .int .i64 0, .string ⟨#[]⟩, .int .i64 0] 101)
    have KR : Blk ((w.alloc (.cells #[.int .u64 (W : Int), .int .i64 x, .bool r] 78)).alloc (.cells #[.string ⟨#[]⟩, .int .i64 0, .string ⟨#[]⟩, .int .i64 0] 101)) (w.heap.size + 1) 101 #[.string ⟨#[]⟩, .int .i64 0, .string ⟨#[]⟩, .int .i64 0] := by
      have := Blk.new (w.alloc (.cells #[.int .u64 (W : Int), .int .i64 x, .bool r] 78)) 101 #[.string ⟨#[]⟩, .int .i64 0, .string ⟨#[]⟩, .int .i64 0]
      simpa using this
    have HB1 := Lib.hid (bel_alloc (bel_alloc (Below.refl w.heap.size w) (.cells #[.int .u64 (W : Int), .int .i64 x, .bool r] 78)) (.cells #[.string ⟨#[]⟩, .int .i64 0, .string ⟨#[]⟩, .int .i64 0] 101))
    go_upto_region 6 with fail
    obtain ⟨w1, hw1⟩ : ∃ v, v = (w.alloc (.cells #[.int .u64 (W : Int), .int .i64 x, .bool r] 78)).alloc (.cells #[.string ⟨#[]⟩, .int .i64 0, .string ⟨#[]⟩, .int .i64 0] 101) := ⟨_, rfl⟩
    rw [← hw1] at K1 KR HB1 ⊢
    clear hw1
    obtain ⟨g, hg⟩ : ∃ g, w.heap.size = g := ⟨_, rfl⟩
    rw [hg] at K1 KR ⊢
    have HGQ := Lib.hid hg
    clear hg
    obtain ⟨c0, c1, c2, -, -, -⟩ := K1.three
    have HK : Hid (∀ w', Below w1.heap.size w1 w' → (w'.cell? ⟨g, 0, none⟩ = some (.int .u64 (W : Int)) ∧ w'.cell? ⟨g, 1, none⟩ = some (.int .i64 x))) := fun w' hb => kpd2 hb c0 c1
    clear c0 c1 c2
    refine region_plan (S := fun w' => w'.cell? ⟨g, 0, none⟩ = some (.int .u64 (W : Int)) ∧ w'.cell? ⟨g, 1, none⟩ = some (.int .i64 x)) _ [(0, true), (1, true), (2, true), (3, true), (4, true), (5, true), (6, true), (7, true), (8, true), (9, true)] (by kernel_rfl) (by kernel_rfl) rfl (by kernel_rfl) (by kernel_rfl) (fun _ _ d _ _ h => by cases d <;> exact h) (HK.out _ (bel_drew (Below.refl _ _))) ?_
    refine Walk.take (v := ?_) rfl (by rfl) ?_ ?_
    rotate_left
    · (intro w' hSw; (try dsimp only at hSw); go_simp <;> with_reducible rfl)
    try simp only [Act.put, List.setIfInBounds_toArray, List.set_cons_zero, List.set_cons_succ]
    refine Walk.take (v := ?_) rfl (by rfl) ?_ ?_
    rotate_left
    · (intro w' hSw; (try dsimp only at hSw); go_simp <;> with_reducible rfl)
    try simp only [Act.put, List.setIfInBounds_toArray, List.set_cons_zero, List.set_cons_succ]
    refine Walk.take (v := ?_) rfl (by rfl) ?_ ?_
    rotate_left
    · (intro w' hSw; (try dsimp only at hSw); go_simp <;> with_reducible rfl)
    try simp only [Act.put, List.setIfInBounds_toArray, List.set_cons_zero, List.set_cons_succ]
    refine Walk.take (v := ?_) rfl (by rfl) ?_ ?_
    rotate_left
    · (intro w' hSw; (try dsimp only at hSw); go_simp <;> with_reducible rfl)
    try simp only [Act.put, List.setIfInBounds_toArray, List.set_cons_zero, List.set_cons_succ]
    refine Walk.take (v := ?_) rfl (by rfl) ?_ ?_
    rotate_left
    · (intro w' hSw; (try dsimp only at hSw); go_simp <;> with_reducible rfl)
    try simp only [Act.put, List.setIfInBounds_toArray, List.set_cons_zero, List.set_cons_succ]
    refine Walk.take (v := ?_) rfl (by rfl) ?_ ?_
    rotate_left
    · (intro w' hSw; (try dsimp only at hSw); go_simp <;> with_reducible rfl)
    try simp only [Act.put, List.setIfInBounds_toArray, List.set_cons_zero, List.set_cons_succ]
    refine Walk.take (v := ?_) rfl (by rfl) ?_ ?_
    rotate_left
    · (intro w' hSw; (try dsimp only at hSw); go_simp <;> with_reducible rfl)
    try simp only [Act.put, List.setIfInBounds_toArray, List.set_cons_zero, List.set_cons_succ]
    refine Walk.take (v := ?_) rfl (by rfl) ?_ ?_
    rotate_left
    · (intro w' hSw; (try dsimp only at hSw); go_simp <;> with_reducible rfl)
    try simp only [Act.put, List.setIfInBounds_toArray, List.set_cons_zero, List.set_cons_succ]
    refine Walk.take (v := ?_) rfl (by rfl) ?_ ?_
    rotate_left
    · (intro w' hSw; (try dsimp only at hSw); go_simp <;> with_reducible rfl)
    try simp only [Act.put, List.setIfInBounds_toArray, List.set_cons_zero, List.set_cons_succ]
    refine Walk.take (v := ?_) rfl (by rfl) ?_ ?_
    rotate_left
    · (intro w' hSw; (try dsimp only at hSw); go_simp <;> with_reducible rfl)
    try simp only [Act.put, List.setIfInBounds_toArray, List.set_cons_zero, List.set_cons_succ]
    refine Walk.done ?_
    clear HK
    have QU : (W : Int) / (u : Int) = ((W / u : Nat) : Int) := rfl
    have RU : Int.tmod (W : Int) (u : Int) = ((W % u : Nat) : Int) := by rw [Int.tmod_eq_emod_of_nonneg (by omega)]; rfl
    rw [QU, RU]
    have CB : W % u < u := Nat.mod_lt _ (by omega)
    have DB1 : W / u ≤ W := Nat.div_le_self _ _
    clear QU RU WR u0
    generalize W / u = D at *
    generalize W % u = C at *
    have E1 := Lib.hid fun w' (hb : Below w1.heap.size w1 w') => decimalOf_any D (x + k) (by omega) (by omega) (by omega) w' (hE.below (bel_trans HB1.out hb))
    have E2 := Lib.hid fun w' (hb : Below w1.heap.size w1 w') => decimalOf_any (D + 1) (x + k) (by omega) (by omega) (by omega) w' (hE.below (bel_trans HB1.out hb))
    have FA : Hid (aA = if aS then D + 1 else D) := DA
    have FB : Hid (aB = if aS then D else D + 1) := DB
    have G0 : Hid (aS = false → rs = #[.string ⟨(dcD D).toArray⟩, .int .i64 (dcE D (x + k)), .string ⟨(dcD (D + 1)).toArray⟩, .int .i64 (dcE (D + 1) (x + k))]) := fun h => GG.out _ _ (by rw [FA.out, h]; rfl) (by rw [FB.out, h]; rfl)
    have G1 : Hid (aS = true → rs = #[.string ⟨(dcD (D + 1)).toArray⟩, .int .i64 (dcE (D + 1) (x + k)), .string ⟨(dcD D).toArray⟩, .int .i64 (dcE D (x + k))]) := fun h => GG.out _ _ (by rw [FA.out, h]; rfl) (by rw [FB.out, h]; rfl)
    have KD := Lib.hid KR
    have HDS := Lib.hid DS
    have GLT := K1.lt
    have GLT2 := KR.lt
    clear DA DB DF hE GG FA FB DS
    generalize (⟨(dcD D).toArray⟩ : ByteArray) = s1 at *
    generalize dcE D (x + k) = e1 at *
    generalize (⟨(dcD (D + 1)).toArray⟩ : ByteArray) = s2 at *
    generalize dcE (D + 1) (x + k) = e2 at *
    have xk : IntKind.i64.wrap (x + (k : Int)) = x + k := by rw [IntKind.wrap_i64]; omega
    have dk : IntKind.u64.wrap ((D : Int) + 1) = ((D + 1 : Nat) : Int) := by rw [IntKind.wrap_u64]; omega
    obtain ⟨c0, c1, c2, -, -, -⟩ := K1.three
    go_upto_region 7 with fail
    have KG : Hid (∀ w', Below w1.heap.size w1 w' → w'.cell? ⟨g, 1, none⟩ = some (.int .i64 x)) := fun w' hb => (hb.cell (World.block_lt_of_cell? _ _ c1)).trans c1
    clear c0 c1 c2
    go_cut [8] (fun s8 wx => ∃ G : Nat, s8 = .pointer (some ⟨G, 0, none⟩) ∧ Blk wx G 101 #[.string s1, .int .i64 e1, .string s2, .int .i64 e2] ∧ Hid (Below w1.heap.size w1 wx) ∧ Hid (w1.heap.size ≤ G))
    case first =>
      go_region_held3 (fun w' => w'.cell? ⟨g, 1, none⟩ = some (.int .i64 x))
        (first | (refine KG.out _ ?_; (repeat (first | exact Below.refl _ _ | exact X2 | exact X1 | refine bel_drew ?_ | refine bel_alloc ?_ _ | refine Below.setCell ?_ ?_ _ | exact Nat.le_refl _ | exact X1.size | exact X2.size)); done))
        (first
          | (go_at_call 96; first
              | (have _ := X1; refine (E2.out _ ?_).mono ?_; (· repeat (first | exact Below.refl _ _ | exact X1 | refine bel_drew ?_ | refine bel_alloc ?_ _)); rintro y w3 ⟨v3, rfl, rfl, hb3⟩; have X2 : Below w1.heap.size w1 w3 := (by refine bel_trans ?_ hb3; repeat (first | exact Below.refl _ _ | exact X1 | refine bel_drew ?_ | refine bel_alloc ?_ _)); first
                  | (have Kq2 := Kq.below hb3 Kq.lt; obtain ⟨z0, z1, z2, z3, f0, f1, f2, f3⟩ := Kq2.four)
                  | (have Kq2 : Blk w3 w2.heap.size 101 #[.string ⟨#[]⟩, .int .i64 0, .string ⟨#[]⟩, .int .i64 0] := (by exact Blk.made (w := w2) hb3); obtain ⟨z0, z1, z2, z3, f0, f1, f2, f3⟩ := Kq2.four)
                  | skip)
              | (refine (E1.out _ ?_).mono ?_; (· repeat (first | exact Below.refl _ _ | refine bel_drew ?_ | refine bel_alloc ?_ _)); rintro y w2 ⟨v2, rfl, rfl, hb2⟩; have X1 : Below w1.heap.size w1 w2 := (by refine bel_trans ?_ hb2; repeat (first | exact Below.refl _ _ | refine bel_drew ?_ | refine bel_alloc ?_ _)); first
                  | (have Kq : Blk w2 w1.heap.size 101 #[.string ⟨#[]⟩, .int .i64 0, .string ⟨#[]⟩, .int .i64 0] := (by first | exact Blk.made (w := w1) hb2 | exact Blk.made (w := w1.drew) hb2 | exact Blk.made (w := w1.drew.drew) hb2))
                  | skip)))
      all_goals go_wp2_with fail
      all_goals go_meet
      all_goals first
        | (have K5 := Kq2.put4 (.string s1) (.int .i64 e1) (.string s2) (.int .i64 e2); have B5 := bel_put4 (g := w1.heap.size) X2 (Nat.le_refl _) (.string s1) (.int .i64 e1) (.string s2) (.int .i64 e2); unfold wput4 at K5 B5; exact ⟨_, rfl, K5, B5, Nat.le_refl _⟩)
        | (have K5 := Kq2.put4 (.string s1) (.int .i64 e1) (.string s2) (.int .i64 e2); have B5 := bel_put4 (g := w2.heap.size) X2 X1.size (.string s1) (.int .i64 e1) (.string s2) (.int .i64 e2); unfold wput4 at K5 B5; exact ⟨_, rfl, K5, B5, X1.size⟩)
        | exact ⟨_, rfl, Blk.new _ _ _, bel_alloc X2 _, X2.size⟩
    case rest =>
      obtain ⟨G, rfl, KQ, HBc, HG⟩ := hcut
      have K1c := K1.below HBc.out K1.lt
      have KRc := KD.out.below HBc.out GLT2
      have HBB := Lib.hid (bel_trans HB1.out HBc.out)
      have GLE : Hid (w.heap.size ≤ g + 1) := by show _ ≤ _; rw [HGQ.out]; omega
      have GLQ : Hid (w.heap.size ≤ G) := Nat.le_trans HB1.out.size HG.out
      have NE : g + 1 ≠ G := by have := HG.out; omega
      have hgG : ¬ g = G := by have := HG.out; omega
      clear K1 KR KD HBc HB1 KG E1 E2 GLT GLT2 HGQ dk xk
      obtain ⟨k0, k1, k2, -, -, -⟩ := K1c.three
      obtain ⟨c0, c1, c2, c3, f0, f1, f2, f3⟩ := KQ.four
      obtain ⟨d0, d1, d2, d3, g0, g1, g2, g3⟩ := KRc.four
      have hc2 : IntKind.u64.wrap ((C : Int) * 2) = (C : Int) * 2 := by rw [IntKind.wrap_u64]; omega
      by_cases b1 : u < C * 2
      · have HS : aS = true := by rw [HDS.out, decide_eq_true b1]; rfl
        have b1' : (u : Int) < (C : Int) * 2 := by omega
        clear K1c HG hgG b1
        have hS : aS = true := HS
        have K4 := KRc.put4_far NE (.string s2) (.int .i64 e2) (.string s1) (.int .i64 e1)
        have B4 := bel_put4 HBB.out GLQ.out (.string s2) (.int .i64 e2) (.string s1) (.int .i64 e1)
        have K5 := K4.put4 (.string s2) (.int .i64 e2) (.string s1) (.int .i64 e1)
        have B5 := Lib.hid (bel_put4 B4 GLE.out (.string s2) (.int .i64 e2) (.string s1) (.int .i64 e1))
        have KQ5 := KQ.put4 (.string s2) (.int .i64 e2) (.string s1) (.int .i64 e1)
        unfold wput4 at K4 K5 B5 KQ5
        obtain ⟨y0, y1, y2, y3, h0, h1, h2, h3⟩ := K4.four
        obtain ⟨x0, x1, x2, x3, -, -, -, -⟩ := KQ5.four
        clear HDS B4
        go_wp2_with fail
        obtain ⟨q0, q1, q2, q3, -, -, -, -⟩ := K5.four
        refine bodyPost_ret (by simp [results, Tryz.results64, go_sem, q0, q1, q2, q3]; (try rfl)) rfl ⟨_, ?_, rfl, B5.out⟩
        rw [G1.out hS]
      · by_cases b2 : C * 2 = u
        · have b1' : ¬ (u : Int) < (C : Int) * 2 := by omega
          have b2' : (((C : Int) * 2) == (u : Int)) = true := by simp; omega
          cases r
          · by_cases b3 : D % 2 = 1
            · have HS : aS = true := by rw [HDS.out, decide_eq_true b2, decide_eq_true b3]; simp
              have b3' : (((D : Int) % 2) == 1) = true := by simp; omega
              clear K1c HG hgG b1 b2 b3
              have hS : aS = true := HS
              have K4 := KRc.put4_far NE (.string s2) (.int .i64 e2) (.string s1) (.int .i64 e1)
              have B4 := bel_put4 HBB.out GLQ.out (.string s2) (.int .i64 e2) (.string s1) (.int .i64 e1)
              have K5 := K4.put4 (.string s2) (.int .i64 e2) (.string s1) (.int .i64 e1)
              have B5 := Lib.hid (bel_put4 B4 GLE.out (.string s2) (.int .i64 e2) (.string s1) (.int .i64 e1))
              have KQ5 := KQ.put4 (.string s2) (.int .i64 e2) (.string s1) (.int .i64 e1)
              unfold wput4 at K4 K5 B5 KQ5
              obtain ⟨y0, y1, y2, y3, h0, h1, h2, h3⟩ := K4.four
              obtain ⟨x0, x1, x2, x3, -, -, -, -⟩ := KQ5.four
              clear HDS B4
              go_wp2_with fail
              obtain ⟨q0, q1, q2, q3, -, -, -, -⟩ := K5.four
              refine bodyPost_ret (by simp [results, Tryz.results64, go_sem, q0, q1, q2, q3]; (try rfl)) rfl ⟨_, ?_, rfl, B5.out⟩
              rw [G1.out hS]
            · have HS : aS = false := by rw [HDS.out, decide_eq_false b1, decide_eq_false b3]; simp
              have b3' : (((D : Int) % 2) == 1) = false := by simp; omega
              clear K1c HG hgG b1 b2 b3
              have hS : aS = false := HS
              have K5 := KRc.put4 (.string s1) (.int .i64 e1) (.string s2) (.int .i64 e2)
              have B5 := Lib.hid (bel_put4 HBB.out GLE.out (.string s1) (.int .i64 e1) (.string s2) (.int .i64 e2))
              unfold wput4 at K5 B5
              clear HDS
              go_wp2_with fail
              obtain ⟨q0, q1, q2, q3, -, -, -, -⟩ := K5.four
              refine bodyPost_ret (by simp [results, Tryz.results64, go_sem, q0, q1, q2, q3]; (try rfl)) rfl ⟨_, ?_, rfl, B5.out⟩
              rw [G0.out hS]
          · have HS : aS = true := by rw [HDS.out, decide_eq_true b2]; simp
            clear K1c HG hgG b1 b2
            have hS : aS = true := HS
            have K4 := KRc.put4_far NE (.string s2) (.int .i64 e2) (.string s1) (.int .i64 e1)
            have B4 := bel_put4 HBB.out GLQ.out (.string s2) (.int .i64 e2) (.string s1) (.int .i64 e1)
            have K5 := K4.put4 (.string s2) (.int .i64 e2) (.string s1) (.int .i64 e1)
            have B5 := Lib.hid (bel_put4 B4 GLE.out (.string s2) (.int .i64 e2) (.string s1) (.int .i64 e1))
            have KQ5 := KQ.put4 (.string s2) (.int .i64 e2) (.string s1) (.int .i64 e1)
            unfold wput4 at K4 K5 B5 KQ5
            obtain ⟨y0, y1, y2, y3, h0, h1, h2, h3⟩ := K4.four
            obtain ⟨x0, x1, x2, x3, -, -, -, -⟩ := KQ5.four
            clear HDS B4
            go_wp2_with fail
            obtain ⟨q0, q1, q2, q3, -, -, -, -⟩ := K5.four
            refine bodyPost_ret (by simp [results, Tryz.results64, go_sem, q0, q1, q2, q3]; (try rfl)) rfl ⟨_, ?_, rfl, B5.out⟩
            rw [G1.out hS]
        · have b1' : ¬ (u : Int) < (C : Int) * 2 := by omega
          have b2' : (((C : Int) * 2) == (u : Int)) = false := by simp; omega
          have HS : aS = false := by rw [HDS.out, decide_eq_false b1, decide_eq_false b2]; rfl
          clear K1c HG hgG b1 b2
          have hS : aS = false := HS
          have K5 := KRc.put4 (.string s1) (.int .i64 e1) (.string s2) (.int .i64 e2)
          have B5 := Lib.hid (bel_put4 HBB.out GLE.out (.string s1) (.int .i64 e1) (.string s2) (.int .i64 e2))
          unfold wput4 at K5 B5
          clear HDS
          go_wp2_with fail
          obtain ⟨q0, q1, q2, q3, -, -, -, -⟩ := K5.four
          refine bodyPost_ret (by simp [results, Tryz.results64, go_sem, q0, q1, q2, q3]; (try rfl)) rfl ⟨_, ?_, rfl, B5.out⟩
          rw [G0.out hS]
end Go.Proofs.YthofjlgngandoaaGreatDoor
