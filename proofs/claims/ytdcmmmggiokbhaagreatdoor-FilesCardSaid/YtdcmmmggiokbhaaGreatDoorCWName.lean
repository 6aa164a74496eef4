/- The walks of the two functions that ask whether a text is a name. -/
import Derived.Test.YtdcmmmggiokbhaaGreatDoorCBase
import Derived.Test.YtdcmmmggiokbhaaGreatDoorCMem
namespace Go.Proofs.YtdcmmmggiokbhaaGreatDoor
open Go.RowKit

theorem nb_step {s : ByteArray} {k : Nat} {c : UInt8} (Hts : s.data.toList.take (k + 1) = s.data.toList.take k ++ [c]) (Hall : (s.data.toList.take k).all Ov.nameByte = true) (h : Ov.nameByte c = true) :
    (s.data.toList.take (k + 1)).all Ov.nameByte = true := by
  rw [Hts, List.all_append, Hall]; simp [h]

set_option maxHeartbeats 400000 in
theorem rIsName_calls (s : ByteArray) (w : World) :
    Calls Tryz.prog 66 #[.string s] w fun e w' => e = .returned (.bool (Ov.nameB s)) ∧ w' = w := by
  by_cases h1 : s.size < 1
  · have Hf := hide (Ov.isName_short (l := s.data.toList) (by simpa using h1))
    go_enter Tryz.func66, Tryz.ntmps66
    go_wp2
    go_ret
    exact ⟨by rw [Ov.nameB, unhide Hf]; rfl, rfl⟩
  by_cases h8 : 8 < s.size
  · have Hf := hide (Ov.isName_long (l := s.data.toList) (by simpa using h8))
    go_enter Tryz.func66, Tryz.ntmps66
    go_wp2
    go_ret
    exact ⟨by rw [Ov.nameB, unhide Hf]; rfl, rfl⟩
  go_enter Tryz.func66, Tryz.ntmps66
  go_wp2
  go_loop [3, 4] (fun i _ => ∃ k : Nat, k ≤ s.size ∧ i = .int .i64 k ∧ (s.data.toList.take k).all Ov.nameByte = true) (fun i _ => s.size - (intOf i).toNat)
  case atStart => exact ⟨0, Nat.zero_le _, rfl, rfl⟩
  case round =>
    obtain ⟨k, hk, rfl, hall⟩ := hrel
    have Hall := hide hall
    clear hall
    by_cases hlt : k < s.size
    · have Hts := hide (Ov.take_snoc s k hlt)
      have Hm := hide (Ov.mem_at s k hlt)
      have hcls : ((97 : Int) ≤ (s[k].toNat : Int) ∧ (s[k].toNat : Int) ≤ 122) ∨ ((s[k].toNat : Int) < 97 ∧ (48 : Int) ≤ (s[k].toNat : Int) ∧ (s[k].toNat : Int) ≤ 57) ∨ (122 : Int) < (s[k].toNat : Int) ∨ ((57 : Int) < (s[k].toNat : Int) ∧ (s[k].toNat : Int) < 97) ∨ (s[k].toNat : Int) < 48 := by omega
      rcases hcls with hc | hc | hc | hc | hc
      · have Hn := hide (Ov.nameByte_yes (c := s[k]) (by omega))
        go_wp2
        go_round
        case rel => exact ⟨k + 1, by omega, by go_num, nb_step (unhide Hts) (unhide Hall) (unhide Hn)⟩
        case measure => simp [intOf]; omega
      · have Hn := hide (Ov.nameByte_yes (c := s[k]) (by omega))
        go_wp2
        go_round
        case rel => exact ⟨k + 1, by omega, by go_num, nb_step (unhide Hts) (unhide Hall) (unhide Hn)⟩
        case measure => simp [intOf]; omega
      · have Hend := hide (Ov.isName_bad (l := s.data.toList) (unhide Hm) (Ov.nameByte_no (c := s[k]) (by omega)))
        have d1 : decide ((s[k].toNat : Int) ≤ 122) = false := decide_eq_false (by omega)
        have d2 : decide ((s[k].toNat : Int) ≤ 57) = false := decide_eq_false (by omega)
        go_wp2
        go_ret
        exact ⟨by rw [Ov.nameB, unhide Hend]; rfl, rfl⟩
      · have Hend := hide (Ov.isName_bad (l := s.data.toList) (unhide Hm) (Ov.nameByte_no (c := s[k]) (by omega)))
        have d2 : decide ((s[k].toNat : Int) ≤ 57) = false := decide_eq_false (by omega)
        go_wp2
        go_ret
        exact ⟨by rw [Ov.nameB, unhide Hend]; rfl, rfl⟩
      · have Hend := hide (Ov.isName_bad (l := s.data.toList) (unhide Hm) (Ov.nameByte_no (c := s[k]) (by omega)))
        go_wp2
        go_ret
        exact ⟨by rw [Ov.nameB, unhide Hend]; rfl, rfl⟩
    · have Hend := hide (Ov.isName_all (l := s.data.toList) (by simp; omega) (by simp; omega) (by have := unhide Hall; rw [List.take_of_length_le (by simp; omega)] at this; exact this))
      go_wp2
      go_ret
      exact ⟨by rw [Ov.nameB, unhide Hend]; rfl, rfl⟩

set_option maxHeartbeats 400000 in
theorem oisName_calls (s : ByteArray) (w : World) :
    Calls Tryz.prog 62 #[.string s] w fun e w' => e = .returned (.bool (Ov.nameB s)) ∧ w' = w := by
  by_cases h1 : s.size < 1
  · have Hf := hide (Ov.isName_short (l := s.data.toList) (by simpa using h1))
    go_enter Tryz.func62, Tryz.ntmps62
    go_wp2
    go_ret
    exact ⟨by rw [Ov.nameB, unhide Hf]; rfl, rfl⟩
  by_cases h8 : 8 < s.size
  · have Hf := hide (Ov.isName_long (l := s.data.toList) (by simpa using h8))
    go_enter Tryz.func62, Tryz.ntmps62
    go_wp2
    go_ret
    exact ⟨by rw [Ov.nameB, unhide Hf]; rfl, rfl⟩
  go_enter Tryz.func62, Tryz.ntmps62
  go_wp2
  go_loop [15, 3, 4] (fun i _ _ => ∃ k : Nat, k ≤ s.size ∧ i = .int .i64 k ∧ (s.data.toList.take k).all Ov.nameByte = true) (fun i _ _ => s.size - (intOf i).toNat)
  case atStart => exact ⟨0, Nat.zero_le _, rfl, rfl⟩
  case round =>
    obtain ⟨k, hk, rfl, hall⟩ := hrel
    have Hall := hide hall
    clear hall
    by_cases hlt : k < s.size
    · have Hts := hide (Ov.take_snoc s k hlt)
      have Hm := hide (Ov.mem_at s k hlt)
      have hcls : ((97 : Int) ≤ (s[k].toNat : Int) ∧ (s[k].toNat : Int) ≤ 122) ∨ ((s[k].toNat : Int) < 97 ∧ (48 : Int) ≤ (s[k].toNat : Int) ∧ (s[k].toNat : Int) ≤ 57) ∨ (122 : Int) < (s[k].toNat : Int) ∨ ((57 : Int) < (s[k].toNat : Int) ∧ (s[k].toNat : Int) < 97) ∨ (s[k].toNat : Int) < 48 := by omega
      rcases hcls with hc | hc | hc | hc | hc
      · have Hn := hide (Ov.nameByte_yes (c := s[k]) (by omega))
        go_wp2
        go_round
        case rel => exact ⟨k + 1, by omega, by go_num, nb_step (unhide Hts) (unhide Hall) (unhide Hn)⟩
        case measure => simp [intOf]; omega
      · have Hn := hide (Ov.nameByte_yes (c := s[k]) (by omega))
        go_wp2
        go_round
        case rel => exact ⟨k + 1, by omega, by go_num, nb_step (unhide Hts) (unhide Hall) (unhide Hn)⟩
        case measure => simp [intOf]; omega
      · have Hend := hide (Ov.isName_bad (l := s.data.toList) (unhide Hm) (Ov.nameByte_no (c := s[k]) (by omega)))
        have d1 : decide ((s[k].toNat : Int) ≤ 122) = false := decide_eq_false (by omega)
        have d2 : decide ((s[k].toNat : Int) ≤ 57) = false := decide_eq_false (by omega)
        go_wp2
        go_ret
        exact ⟨by rw [Ov.nameB, unhide Hend]; rfl, rfl⟩
      · have Hend := hide (Ov.isName_bad (l := s.data.toList) (unhide Hm) (Ov.nameByte_no (c := s[k]) (by omega)))
        have d2 : decide ((s[k].toNat : Int) ≤ 57) = false := decide_eq_false (by omega)
        go_wp2
        go_ret
        exact ⟨by rw [Ov.nameB, unhide Hend]; rfl, rfl⟩
      · have Hend := hide (Ov.isName_bad (l := s.data.toList) (unhide Hm) (Ov.nameByte_no (c := s[k]) (by omega)))
        go_wp2
        go_ret
        exact ⟨by rw [Ov.nameB, unhide Hend]; rfl, rfl⟩
    · have Hend := hide (Ov.isName_all (l := s.data.toList) (by simp; omega) (by simp; omega) (by have := unhide Hall; rw [List.take_of_length_le (by simp; omega)] at this; exact this))
      go_wp2
      go_ret
      exact ⟨by rw [Ov.nameB, unhide Hend]; rfl, rfl⟩

end Go.Proofs.YtdcmmmggiokbhaaGreatDoor

/- The walk of the reference's Decimal, for numbers below a hundred. -/
namespace Go.Proofs.YtdcmmmggiokbhaaGreatDoor
open Go.RowKit Go.Joins

def digits : ByteArray := ⟨#[48, 49, 50, 51, 52, 53, 54, 55, 56, 57]⟩
/-- The digits of a number below a hundred. -/
def dec (n : Nat) : ByteArray := if n < 10 then ⟨#[UInt8.ofNat (48 + n)]⟩ else ⟨#[UInt8.ofNat (48 + n / 10), UInt8.ofNat (48 + n % 10)]⟩
theorem dec1 : ∀ n : Fin 10, digits.extract n.val (n.val + 1) = ⟨#[UInt8.ofNat (48 + n.val)]⟩ := by decide +kernel
theorem dec_small {n : Nat} (h : n < 10) : digits.extract n (n + 1) ++ ⟨#[]⟩ = dec n := by
  rw [dec1 ⟨n, h⟩]
  unfold dec; rw [if_pos h]; rfl
theorem dec_large {n : Nat} (h1 : 10 ≤ n) (h2 : n < 100) : digits.extract (n / 10) (n / 10 + 1) ++ (digits.extract (n % 10) (n % 10 + 1) ++ ⟨#[]⟩) = dec n := by
  rw [dec1 ⟨n / 10, by omega⟩, dec1 ⟨n % 10, by omega⟩]
  unfold dec; rw [if_neg (by omega)]; rfl
theorem digits_size : digits.size = 10 := rfl
theorem dec_size (n : Nat) : (dec n).size ≤ 2 := by unfold dec; split <;> simp [ByteArray.size]

set_option maxRecDepth 100000 in
set_option maxHeartbeats 400000 in
theorem rDecimal_calls (n : Nat) (w : World) (hn : n < 100) : Calls Tryz.prog 76 #[.int .i64 n] w fun e w' => e = .returned (.string (dec n)) ∧ w = w' := by
  by_cases h : n < 10
  · have Hd := hide (dec_small h)
    go_enter Tryz.func76, Tryz.ntmps76
    go_wp2
    go_loop [0, 3, 4] (fun i s _ => i = .int .i64 n ∧ s = .string ⟨#[]⟩) (fun _ _ _ => 0)
    case atStart => exact ⟨rfl, rfl⟩
    case round =>
      obtain ⟨rfl, rfl⟩ := hrel
      go_wp2
      go_ret
      exact ⟨by rw [← unhide Hd]; rfl, rfl⟩
  · have Hd := hide (dec_large (by omega) hn)
    go_enter Tryz.func76, Tryz.ntmps76
    go_wp2
    go_loop [0, 3, 4] (fun i s _ => (i = .int .i64 n ∧ s = .string ⟨#[]⟩) ∨ (i = .int .i64 (n / 10 : Nat) ∧ s = .string (digits.extract (n % 10) (n % 10 + 1) ++ ⟨#[]⟩))) (fun i _ _ => (intOf i).toNat)
    case atStart => exact Or.inl ⟨rfl, rfl⟩
    case round =>
      rcases hrel with ⟨rfl, rfl⟩ | ⟨rfl, rfl⟩
      · go_wp2
        go_round
        case rel => exact Or.inr ⟨by go_num, rfl⟩
        case measure => simp [intOf]; omega
      · have hsz : (digits.extract (n % 10) (n % 10 + 1) ++ ⟨#[]⟩).size ≤ 10 := by
          rw [ByteArray.size_append, ByteArray.size_extract, digits_size]; simp [ByteArray.size]; omega
        obtain ⟨t, ht⟩ : ∃ t, digits.extract (n % 10) (n % 10 + 1) ++ ⟨#[]⟩ = t := ⟨_, rfl⟩
        obtain ⟨q, hq⟩ : ∃ q, n / 10 = q := ⟨_, rfl⟩
        rw [ht] at hsz Hd ⊢
        rw [hq] at Hd ⊢
        have hq1 : 1 ≤ q := by omega
        have hq9 : q ≤ 9 := by omega
        clear ht hq h hn
        go_wp2
        go_ret
        exact ⟨by rw [← unhide Hd]; rfl, rfl⟩

/-- The same over any number in range, and its text by a name. -/
theorem rDecimal_is {n : Int} {t : ByteArray} (h0 : 0 ≤ n) (h1 : n < 100) (ht : dec n.toNat = t) (w : World) : Calls Tryz.prog 76 #[.int .i64 n] w fun e w' => e = .returned (.string t) ∧ w' = w := by
  obtain ⟨k, rfl⟩ := Int.eq_ofNat_of_zero_le h0
  subst ht
  refine (rDecimal_calls k w (by omega)).mono ?_
  rintro e w' ⟨rfl, rfl⟩
  exact ⟨rfl, rfl⟩

end Go.Proofs.YtdcmmmggiokbhaaGreatDoor
