/-
  Contracts of the reference's noughts, digits and Form: the same text as layOut's. Conditions: digits of 1 to 20 bytes, a power of at most 2000 either way.
-/
import Derived.Test.YthofjlgngandoaaGreatDoorDigh
import Derived.Test.YthofjlgngandoaaGreatDoorMQ
namespace Go.Proofs.YthofjlgngandoaaGreatDoor
open Go.RowKit
set_option maxRecDepth 100000

theorem nts_snoc : ∀ k, nts k ++ [48] = nts (k + 1)
  | 0 => rfl
  | k + 1 => by
    show 48 :: (nts k ++ [48]) = 48 :: nts (k + 1)
    rw [nts_snoc k]
set_option maxHeartbeats 4000000 in
theorem knoughts_any (n : Int) (h0 : 0 ≤ n) (h1 : n ≤ 5000) (w : World) : Calls Tryz.prog 44 #[.int .i64 n] w fun e w' => e = .returned (.string ⟨(nts n.toNat).toArray⟩) ∧ w = w' := by
  obtain ⟨m, rfl⟩ : ∃ m : Nat, n = (m : Int) := ⟨n.toNat, by omega⟩
  rw [Int.toNat_natCast]
  go_enter Tryz.func44, Tryz.ntmps44
  go_wp2_with fail
  go_loop [3, 4] (fun s3 s4 => ∃ k : Nat, s4 = .int .i64 (k : Int) ∧ k ≤ m ∧ s3 = .string ⟨(nts k).toArray⟩) (fun _ s4 => m - (intOf s4).toNat)
  case atStart => exact ⟨0, rfl, Nat.zero_le _, rfl⟩
  case round =>
    obtain ⟨k, rfl, hk, rfl⟩ := hrel
    by_cases hlt : k < m
    · have hz : (⟨(nts k).toArray⟩ : ByteArray).size ≤ 6000 := by rw [str_size, (nts_dig k).2]; omega
      have ez : Hid ((⟨(nts k).toArray⟩ : ByteArray) ++ ⟨#[48]⟩ = ⟨(nts (k + 1)).toArray⟩) := str_of (by rw [← nts_snoc]; simp)
      generalize (⟨(nts k).toArray⟩ : ByteArray) = z at *
      have hl1 : (k : Int) < (m : Int) := by omega
      go_wp2_with fail
      go_round
      case rel => exact ⟨k + 1, by go_num, by omega, by rw [← ez.out]⟩
      case measure => simp [intOf]; omega
    · obtain rfl : k = m := by omega
      go_wp2_with fail
      go_ret
      exact ⟨rfl, rfl⟩
/-- What is still ahead. -/
def preD (m : Nat) : List UInt8 := if m < 10 then [] else Lib.decDigits (m / 10)
theorem preD_is (m : Nat) : Lib.decDigits m = preD m ++ [UInt8.ofNat (48 + m % 10)] := by
  unfold preD
  rw [Lib.decDigits]
  by_cases h : m < 10
  · rw [dif_pos h, if_pos h, Nat.mod_eq_of_lt h]
    rfl
  · rw [dif_neg h, if_neg h]
theorem one_dig (m : Nat) : (strOfNums [48 + (m : Int) % 10]).data.toList = [UInt8.ofNat (48 + m % 10)] := by
  rw [strOfNums_data]
  show [toU8 (48 + (m : Int) % 10)] = _
  unfold toU8
  rw [show (48 + (m : Int) % 10).toNat = 48 + m % 10 by omega]
set_option maxHeartbeats 8000000 in
theorem kdigits_any (n : Int) (h0 : 0 ≤ n) (h1 : n ≤ 1000000) (w : World) : Calls Tryz.prog 45 #[.int .i64 n] w fun e w' => e = .returned (.string ⟨(Lib.decDigits n.toNat).toArray⟩) ∧ Below w.heap.size w w' := by
  obtain ⟨N, rfl⟩ : ∃ m : Nat, n = (m : Int) := ⟨n.toNat, by omega⟩
  rw [Int.toNat_natCast]
  have CV := run_convert_bytes_arg (P := Tryz.prog) (w.alloc (.cells #[.int .u8 (48 + (N : Int) % 10)] 5)) 103 5 Tryz.underlying103 Tryz.underlying5 w.heap.size 0 1 1 [48 + (N : Int) % 10] rfl (fun j hj => by
    obtain rfl : j = 0 := by omega
    simp [go_sem]) 9 Tryz.underlying9
  have o1 : IntKind.u8.wrap (48 + (N : Int) % 10) = 48 + (N : Int) % 10 := by rw [IntKind.wrap_u8]; omega
  have ST : Hid (Lib.decDigits N = preD N ++ (strOfNums [48 + (N : Int) % 10]).data.toList) := by show _ = _; rw [one_dig]; exact preD_is N
  have SS : (strOfNums [48 + (N : Int) % 10]).size ≤ 1 + (1000000 - N) := by rw [strOfNums_size]; simp
  have HB0 := Lib.hid (bel_alloc (Below.refl w.heap.size w) (.cells #[.int .u8 (48 + (N : Int) % 10)] 5))
  go_enter Tryz.func45, Tryz.ntmps45
  go_wp2_with fail
  go_loopw [0, 3] (fun s0 s3 wr => ∃ (m : Nat) (t : ByteArray), s0 = .int .i64 (m : Int) ∧ s3 = .string t ∧ m ≤ N ∧ t.size ≤ 1 + (1000000 - m) ∧ Hid (Lib.decDigits N = preD m ++ t.data.toList) ∧ Hid (Below w.heap.size w wr)) (fun s0 _ _ => (intOf s0).toNat)
  case atStart => exact ⟨N, _, rfl, rfl, Nat.le_refl _, SS, ST, HB0⟩
  case round =>
    clear CV o1 ST SS HB0
    obtain ⟨m, t, rfl, rfl, hm, hs, ST, HB⟩ := hrel
    by_cases hlt : 10 ≤ m
    · have hl1 : (10 : Int) ≤ (m : Int) := by omega
      have em : (m : Int) / 10 = ((m / 10 : Nat) : Int) := by omega
      obtain ⟨q, hq⟩ : ∃ q, m / 10 = q := ⟨_, rfl⟩
      have PD : preD m = Lib.decDigits q := by unfold preD; rw [if_neg (by omega), hq]
      rw [hq] at em
      have ST' := ST.out
      rw [PD, preD_is q, List.append_assoc, ← one_dig q] at ST'
      have hqm : q < m ∧ q ≤ N := by omega
      have CV := run_convert_bytes_arg (P := Tryz.prog) (wr.alloc (.cells #[.int .u8 (48 + (q : Int) % 10)] 5)) 103 5 Tryz.underlying103 Tryz.underlying5 wr.heap.size 0 1 1 [48 + (q : Int) % 10] rfl (fun j hj => by
        obtain rfl : j = 0 := by omega
        simp [go_sem]) 9 Tryz.underlying9
      have o1 : IntKind.u8.wrap (48 + (q : Int) % 10) = 48 + (q : Int) % 10 := by rw [IntKind.wrap_u8]; omega
      have z1 : (strOfNums [48 + (q : Int) % 10]).size = 1 := by rw [strOfNums_size]; rfl
      have hsz2 : ¬ 9223372036854775807 < (strOfNums [48 + (q : Int) % 10]).size + t.size := by omega
      have S2 : Hid ((strOfNums [48 + (q : Int) % 10] ++ t).size ≤ 1 + (1000000 - q)) := by show _ ≤ _; rw [ByteArray.size_append, z1]; omega
      have T2 : Hid (Lib.decDigits N = preD q ++ (strOfNums [48 + (q : Int) % 10] ++ t).data.toList) := by
        show _ = _
        rw [ST', ByteArray.data_append, Array.toList_append]
      have HB2 := Lib.hid (bel_alloc HB.out (.cells #[.int .u8 (48 + (q : Int) % 10)] 5))
      clear ST ST' PD hq z1 HB
      go_wp2_with fail
      go_roundw
      case rel => exact ⟨q, _, rfl, rfl, hqm.2, S2.out, T2, HB2⟩
      case measure => simp [intOf]; omega
    · have hl1 : ¬ (10 : Int) ≤ (m : Int) := by omega
      have PD : preD m = [] := by unfold preD; rw [if_pos (by omega)]
      have ST' := ST.out
      rw [PD, List.nil_append] at ST'
      have E := Lib.hid (str_of ST'.symm)
      clear ST ST' PD
      go_wp2_with fail
      go_ret
      exact ⟨by rw [← E.out]; rfl, HB.out⟩
set_option maxHeartbeats 4000000 in
theorem kform1 (d r : ByteArray) (q P : Int) (w : World) (hP : (d.size : Int) + q = P) (hd : 1 ≤ d.size) (hd' : d.size ≤ 20) (hq : -2000 ≤ q) (hq' : q ≤ 2000) (k : Nat) (hk : q = (k : Int)) (h1 : P ≤ 21) (F : d ++ ⟨(nts k).toArray⟩ ++ ⟨#[46, 48]⟩ = r) :
    Calls Tryz.prog 19 #[.string d, .int .i64 q] w fun x w' => x = .returned (.string r) ∧ Below w.heap.size w w' := by
  subst hk
  have RP := Lib.hid fun w => knoughts_any (k : Int) (by omega) (by omega) w
  rw [Int.toNat_natCast] at RP
  have FF := Lib.hid F
  clear F
  have hz : (⟨(nts k).toArray⟩ : ByteArray).size ≤ 3000 := by rw [str_size, (nts_dig k).2]; omega
  generalize (⟨(nts k).toArray⟩ : ByteArray) = z at *
  have hz2 : (d ++ z).size ≤ 4000 := by rw [ByteArray.size_append]; omega
  have h2 : (0 : Int) ≤ (k : Int) := by omega
  have o1 : IntKind.i64.wrap ((d.size : Int) + (k : Int)) = P := by rw [IntKind.wrap_i64]; omega
  go_enter Tryz.func19, Tryz.ntmps19
  go_wp2_with fail
  refine (RP.out _).mono ?_
  rintro x w1 ⟨rfl, rfl⟩
  go_wp2_with fail
  go_ret
  exact ⟨by rw [← FF.out]; rfl, Below.refl _ _⟩
set_option maxHeartbeats 4000000 in
theorem kform2 (d r : ByteArray) (q P : Int) (w : World) (hP : (d.size : Int) + q = P) (hd : 1 ≤ d.size) (hd' : d.size ≤ 20) (hq : -2000 ≤ q) (hq' : q ≤ 2000) (k : Nat) (hk : P = (k : Int)) (h1 : q < 0) (h2 : 0 < P) (F : d.extract 0 k ++ ⟨#[46]⟩ ++ d.extract k d.size = r) :
    Calls Tryz.prog 19 #[.string d, .int .i64 q] w fun x w' => x = .returned (.string r) ∧ Below w.heap.size w w' := by
  subst hk
  have FF := Lib.hid F
  clear F
  have h3 : k ≤ d.size := by omega
  have h4 : ¬ (0 ≤ q) := by omega
  have h5 : (0 : Int) ≤ (k : Int) := by omega
  have h6 : (k : Int) ≤ (d.size : Int) := by omega
  have o1 : IntKind.i64.wrap ((d.size : Int) + q) = (k : Int) := by rw [IntKind.wrap_i64]; omega
  go_enter Tryz.func19, Tryz.ntmps19
  go_upto_region 5 with fail
  have h7 : 0 < k := by omega
  go_quiet (fail)
  go_wp2_with fail
  go_ret
  exact ⟨by rw [← FF.out]; rfl, below_drewN _ _⟩
set_option maxHeartbeats 4000000 in
theorem kform3 (d r : ByteArray) (q P : Int) (w : World) (hP : (d.size : Int) + q = P) (hd : 1 ≤ d.size) (hd' : d.size ≤ 20) (hq : -2000 ≤ q) (hq' : q ≤ 2000) (k : Nat) (hk : P = -(k : Int)) (h2 : k ≤ 5) (F : (⟨#[48, 46]⟩ : ByteArray) ++ ⟨(nts k).toArray⟩ ++ d = r) :
    Calls Tryz.prog 19 #[.string d, .int .i64 q] w fun x w' => x = .returned (.string r) ∧ Below w.heap.size w w' := by
  subst hk
  have RP := Lib.hid fun w => knoughts_any (k : Int) (by omega) (by omega) w
  rw [Int.toNat_natCast] at RP
  have FF := Lib.hid F
  clear F
  have hz : (⟨(nts k).toArray⟩ : ByteArray).size ≤ 3000 := by rw [str_size, (nts_dig k).2]; omega
  generalize (⟨(nts k).toArray⟩ : ByteArray) = z at *
  have hz2 : ((⟨#[48, 46]⟩ : ByteArray) ++ z).size ≤ 4000 := by rw [ByteArray.size_append, show (⟨#[48, 46]⟩ : ByteArray).size = 2 from rfl]; omega
  have h4 : ¬ (0 ≤ q) := by omega
  have h5 : q < 0 := by omega
  have h6 : ¬ (0 < -(k : Int)) := by omega
  have h7 : -(k : Int) ≤ 0 := by omega
  have h8 : -5 ≤ -(k : Int) := by omega
  have o1 : IntKind.i64.wrap ((d.size : Int) + q) = -(k : Int) := by rw [IntKind.wrap_i64]; omega
  have o2 : IntKind.i64.wrap (k : Int) = (k : Int) := by rw [IntKind.wrap_i64]; omega
  go_enter Tryz.func19, Tryz.ntmps19
  go_wp2_with fail
  refine (RP.out _).mono ?_
  rintro x w1 ⟨rfl, rfl⟩
  go_wp2_with fail
  go_ret
  exact ⟨by rw [← FF.out]; rfl, Below.refl _ _⟩
theorem dec_small (n : Nat) (h : n < 10000) : (Lib.decDigits n).length ≤ 4 := by
  rw [Lib.decDigits_length]
  by_cases h0 : n < 10
  · rw [Lib.nDigits_small h0]; omega
  · rw [Lib.nDigits_big h0]
    by_cases h' : n / 10 < 10
    · rw [Lib.nDigits_small h']; omega
    · rw [Lib.nDigits_big h']
      by_cases h'' : n / 10 / 10 < 10
      · rw [Lib.nDigits_small h'']; omega
      · rw [Lib.nDigits_big h'', Lib.nDigits_small (by omega)]; omega
set_option maxHeartbeats 4000000 in
theorem kform4 (d r : ByteArray) (q P : Int) (w : World) (hP : (d.size : Int) + q = P) (hd : 1 ≤ d.size) (hd' : d.size ≤ 20) (hq : -2000 ≤ q) (hq' : q ≤ 2000) (hh : 0 ≤ q ∧ 21 < P ∨ q < 0 ∧ P < -5)
    (F : (if d.size = 1 then d.extract 0 1 else d.extract 0 1 ++ ⟨#[46]⟩ ++ d.extract 1 d.size) ++ (if P - 1 < 0 then ⟨#[101, 45]⟩ else ⟨#[101]⟩) ++ ⟨(Lib.decDigits (P - 1).natAbs).toArray⟩ = r) :
    Calls Tryz.prog 19 #[.string d, .int .i64 q] w fun x w' => x = .returned (.string r) ∧ Below w.heap.size w w' := by
  have FF := Lib.hid F
  have hi : (⟨(Lib.decDigits (P - 1).natAbs).toArray⟩ : ByteArray).size ≤ 4 := by rw [str_size]; exact dec_small _ (by omega)
  have o1 : IntKind.i64.wrap ((d.size : Int) + q) = P := by rw [IntKind.wrap_i64]; omega
  have o2 : IntKind.i64.wrap (P - 1) = P - 1 := by rw [IntKind.wrap_i64]; omega
  have hd1 : (1 : Int) ≤ (d.size : Int) := by omega
  clear F
  have x1 : (d.extract 0 1).size ≤ 20 := by rw [ByteArray.size_extract]; omega
  have x2 : (d.extract 1 d.size).size ≤ 20 := by rw [ByteArray.size_extract]; omega
  have x3 : (d.extract 0 1 ++ ⟨#[46]⟩ : ByteArray).size ≤ 21 := by rw [ByteArray.size_append, show (⟨#[46]⟩ : ByteArray).size = 1 from rfl]; omega
  have x4 : (d.extract 0 1 ++ ⟨#[46]⟩ ++ d.extract 1 d.size : ByteArray).size ≤ 41 := by rw [ByteArray.size_append]; omega
  have x5 : (d.extract 0 1 ++ ⟨#[46]⟩ ++ d.extract 1 d.size ++ ⟨#[101]⟩ : ByteArray).size ≤ 43 := by rw [ByteArray.size_append, show (⟨#[101]⟩ : ByteArray).size = 1 from rfl]; omega
  have x6 : (d.extract 0 1 ++ ⟨#[46]⟩ ++ d.extract 1 d.size ++ ⟨#[101, 45]⟩ : ByteArray).size ≤ 43 := by rw [ByteArray.size_append, show (⟨#[101, 45]⟩ : ByteArray).size = 2 from rfl]; omega
  have x7 : (d.extract 0 1 ++ ⟨#[101]⟩ : ByteArray).size ≤ 43 := by rw [ByteArray.size_append, show (⟨#[101]⟩ : ByteArray).size = 1 from rfl]; omega
  have x8 : (d.extract 0 1 ++ ⟨#[101, 45]⟩ : ByteArray).size ≤ 43 := by rw [ByteArray.size_append, show (⟨#[101, 45]⟩ : ByteArray).size = 2 from rfl]; omega
  obtain ⟨h, h1, h2, h3⟩ | ⟨h, h1, h2, h3, h4⟩ : (0 ≤ q ∧ ¬ P ≤ 21 ∧ ¬ q < 0 ∧ ¬ P ≤ 0) ∨ (¬ 0 ≤ q ∧ q < 0 ∧ ¬ 0 < P ∧ P ≤ 0 ∧ ¬ -5 ≤ P) := by omega
  · have RP := Lib.hid fun w => kdigits_any (P - 1) (by omega) (by omega) w
    rw [show (P - 1).toNat = (P - 1).natAbs by omega] at RP
    rw [if_neg (show ¬ P - 1 < 0 by omega)] at FF
    have n1 : ¬ P - 1 < 0 := by omega
    generalize (⟨(Lib.decDigits (P - 1).natAbs).toArray⟩ : ByteArray) = z at *
    by_cases h1s : d.size = 1
    · have g1 : ¬ (1 : Int) < (d.size : Int) := by omega
      rw [if_pos h1s] at FF
      clear h1s
      go_enter Tryz.func19, Tryz.ntmps19
      go_wp2_with fail
      refine (RP.out _).mono ?_
      rintro x w1 ⟨rfl, hb1⟩
      have HB := Lib.hid hb1
      clear hb1
      go_wp2_with fail
      go_ret
      exact ⟨by rw [← FF.out]; rfl, HB.out⟩
    · have g1 : (1 : Int) < (d.size : Int) := by omega
      rw [if_neg h1s] at FF
      clear h1s
      go_enter Tryz.func19, Tryz.ntmps19
      go_wp2_with fail
      refine (RP.out _).mono ?_
      rintro x w1 ⟨rfl, hb1⟩
      have HB := Lib.hid hb1
      clear hb1
      go_wp2_with fail
      go_ret
      exact ⟨by rw [← FF.out]; rfl, HB.out⟩
  · have RP := Lib.hid fun w => kdigits_any (-(P - 1)) (by omega) (by omega) w
    rw [show (-(P - 1)).toNat = (P - 1).natAbs by omega] at RP
    rw [if_pos (show P - 1 < 0 by omega)] at FF
    have n1 : P - 1 < 0 := by omega
    have o3 : IntKind.i64.wrap (-(P - 1)) = -(P - 1) := by rw [IntKind.wrap_i64]; omega
    generalize (⟨(Lib.decDigits (P - 1).natAbs).toArray⟩ : ByteArray) = z at *
    by_cases h1s : d.size = 1
    · have g1 : ¬ (1 : Int) < (d.size : Int) := by omega
      rw [if_pos h1s] at FF
      clear h1s
      go_enter Tryz.func19, Tryz.ntmps19
      go_wp2_with fail
      refine (RP.out _).mono ?_
      rintro x w1 ⟨rfl, hb1⟩
      have HB := Lib.hid hb1
      clear hb1
      go_wp2_with fail
      go_ret
      exact ⟨by rw [← FF.out]; rfl, HB.out⟩
    · have g1 : (1 : Int) < (d.size : Int) := by omega
      rw [if_neg h1s] at FF
      clear h1s
      go_enter Tryz.func19, Tryz.ntmps19
      go_wp2_with fail
      refine (RP.out _).mono ?_
      rintro x w1 ⟨rfl, hb1⟩
      have HB := Lib.hid hb1
      clear hb1
      go_wp2_with fail
      go_ret
      exact ⟨by rw [← FF.out]; rfl, HB.out⟩
theorem kform_any (d : List UInt8) (q : Int) (w : World) (hd : 1 ≤ d.length) (hd' : d.length ≤ 20) (hq : -2000 ≤ q) (hq' : q ≤ 2000) :
    Calls Tryz.prog 19 #[.string ⟨d.toArray⟩, .int .i64 q] w fun x w' => x = .returned (.string ⟨(loT d q).toArray⟩) ∧ Below w.heap.size w w' := by
  have sz := str_size d
  have sd := str_data d
  obtain ⟨D, hD⟩ : ∃ D : ByteArray, D = ⟨d.toArray⟩ := ⟨_, rfl⟩
  rw [← hD] at sz sd ⊢
  clear hD
  obtain ⟨P, hP⟩ : ∃ P : Int, (D.size : Int) + q = P := ⟨_, rfl⟩
  have hP' : (d.length : Int) + q = P := by rw [← sz]; exact hP
  unfold loT
  rw [hP']
  by_cases c1 : 0 ≤ q ∧ P ≤ 21
  · rw [if_pos c1]
    exact kform1 D _ q P w hP (by omega) (by omega) hq hq' q.toNat (by omega) c1.2 (str_of (by simp [sd]))
  rw [if_neg c1]
  by_cases c2 : q < 0 ∧ 0 < P
  · rw [if_pos c2]
    exact kform2 D _ q P w hP (by omega) (by omega) hq hq' P.toNat (by omega) c2.1 c2.2 (str_of (by
      simp only [ByteArray.data_append, Array.toList_append, ext_front, ext_back, sd]
      simp))
  rw [if_neg c2]
  by_cases c3 : P ≤ 0 ∧ -5 ≤ P
  · rw [if_pos c3]
    exact kform3 D _ q P w hP (by omega) (by omega) hq hq' (-P).toNat (by omega) (by omega) (str_of (by simp [sd]))
  rw [if_neg c3]
  refine kform4 D _ q P w hP (by omega) (by omega) hq hq' (by omega) (str_of ?_)
  have hit : Lib.itoa (P - 1) = (if P - 1 < 0 then [45] else []) ++ Lib.decDigits (P - 1).natAbs := by
    unfold Lib.itoa
    split
    · rfl
    · rw [show (P - 1).toNat = (P - 1).natAbs by omega]; rfl
  rw [hit]
  by_cases h1 : D.size = 1
  · have e : d.drop 1 = [] := by rw [List.drop_eq_nil_iff]; omega
    rw [if_pos h1, if_pos e, e]
    split
    · simp only [ByteArray.data_append, Array.toList_append, ext_front, sd]
      simp
    · simp only [ByteArray.data_append, Array.toList_append, ext_front, sd]
      simp
  · have e : ¬ d.drop 1 = [] := by rw [List.drop_eq_nil_iff]; omega
    rw [if_neg h1, if_neg e]
    split
    · simp only [ByteArray.data_append, Array.toList_append, ext_front, ext_back, sd]
      simp
    · simp only [ByteArray.data_append, Array.toList_append, ext_front, ext_back, sd]
      simp
end Go.Proofs.YthofjlgngandoaaGreatDoor
