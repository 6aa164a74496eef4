/- What all walks of this seat import, and small helpers. -/
import Derived.Test.YtomiepknmmpflaaGreatDoorRows
import Derived.Test.YtomiepknmmpflaaGreatDoorCSpec
import Derived.WalkKit
import Derived.WalkSpells
import Derived.WalkLawsBesides
import Derived.Deep.QuietTactic
import Derived.BigQuiet
import Derived.Deep.RegionWith
import Derived.Deep.DeepFit
import Derived.Laws.CopyOwn
import Derived.Lib.SmallJoins
namespace Go.Proofs.YtomiepknmmpflaaGreatDoor
open Go.RowKit

theorem hide {p : Prop} (h : p) : Hid p := h
theorem unhide {p : Prop} (h : Hid p) : p := h
theorem ret_int {k : IntKind} {a b : Int} (h : a = b) : Ending.returned (.int k a) = .returned (.int k b) := by rw [h]

end Go.Proofs.YtomiepknmmpflaaGreatDoor

/- Small laws on worlds that all walks of this seat use. -/
namespace Go.Proofs.YtomiepknmmpflaaGreatDoor
open Go.RowKit Go.Joins

theorem Tryz.infoInt : (Tryz.prog.info? 3).map (fun i => (i.zero, i.size, i.bytes)) = some (some (.int .i64 0), 1, 8) := by kernel_rfl
theorem Tryz.infoString : (Tryz.prog.info? 9).map (fun i => (i.zero, i.size, i.bytes)) = some (some (.string ⟨#[]⟩), 1, 16) := by kernel_rfl

/-- A block that is no constant's: its cells, and that none is frozen. -/
theorem blk_cell {w : World} {b i : Nat} {cs : Array Value} {t : TypeId} {v : Value} (h : w.heap[b]? = some (.cells cs t (0, 0))) (hv : cs[i]? = some v) : w.cell? ⟨b, i, none⟩ = some v := by rw [cell_of_block h, hv]
theorem blk_frozen {w : World} {b : Nat} {cs : Array Value} {t : TypeId} (h : w.heap[b]? = some (.cells cs t (0, 0))) (i : Nat) : w.frozen? ⟨b, i, none⟩ = false := unfrozen_of_block h i
theorem blk_lt {w : World} {b : Nat} {o : Obj} (h : w.heap[b]? = some o) : b < w.heap.size := by
  by_cases hb : b < w.heap.size
  · exact hb
  · rw [Array.getElem?_eq_none (by omega)] at h; cases h
theorem blk_alloc {w : World} {b : Nat} {o : Obj} (h : w.heap[b]? = some o) (n : Obj) : (w.alloc n).heap[b]? = some o := by
  rw [Below.heap_alloc _ _ _ (blk_lt h)]; exact h
theorem blk_grown {w w' : World} {b : Nat} {o : Obj} {row : Option Nat} (h : w.heap[b]? = some o) (hg : w.grownBy w' row) (hne : some b ≠ row) : w'.heap[b]? = some o := by
  rw [hg.block b (blk_lt h) hne]; exact h
theorem blk_set_other {w : World} {b : Nat} {o : Obj} (h : w.heap[b]? = some o) {a : Addr} (hne : b ≠ a.block) (u : Value) : (w.setCell a u).heap[b]? = some o := by
  rw [Below.heap_setCell _ _ _ _ hne]; exact h
theorem blk_set_same {w : World} {b i : Nat} {cs : Array Value} {t : TypeId} (h : w.heap[b]? = some (.cells cs t (0, 0))) (u : Value) : (w.setCell ⟨b, i, none⟩ u).heap[b]? = some (.cells (cs.setIfInBounds i u) t (0, 0)) := block_setCell h u
theorem owns_ne {w : World} {base e size n : Nat} {v : Value} {xs : List Value} (h : w.ownsRow base e size v n xs) {b : Nat} (hb : b < base) : some b ≠ v.ownBlock := fun he => by
  have := (h.lt b he.symm).1; omega
/-- An owned row outlives a store into another block. -/
theorem owns_set {w : World} {base e size n : Nat} {v : Value} {xs : List Value} (h : w.ownsRow base e size v n xs) {a : Addr} (hne : some a.block ≠ v.ownBlock) (u : Value) : (w.setCell a u).ownsRow base e size v n xs := by
  obtain ⟨h1, h2⟩ := h
  refine ⟨h1, ?_⟩
  rcases h2 with h2 | ⟨g, cap, cur, hv, hg, hh, r⟩
  · exact Or.inl h2
  · refine Or.inr ⟨g, cap, cur, hv, hg, ?_, r⟩
    rw [Below.heap_setCell _ _ _ _ (fun e => hne (by rw [hv, ← e]; rfl))]; exact hh
theorem owns_grown {w w' : World} {base e size n : Nat} {v : Value} {xs : List Value} {row : Option Nat} (h : w.ownsRow base e size v n xs) (hg : w.grownBy w' row) (hne : v.ownBlock = none ∨ v.ownBlock ≠ row) : w'.ownsRow base e size v n xs := h.kept hg hne
/-- The form of a slice that owns its row. -/
theorem owns_slice {w : World} {base e size n : Nat} {v : Value} {xs : List Value} (h : w.ownsRow base e size v n xs) : ∃ a c, v = .slice a n c := by
  rcases h.2 with ⟨rfl, rfl⟩ | ⟨g, cap, cur, rfl, _⟩
  · exact ⟨_, _, rfl⟩
  · exact ⟨_, _, rfl⟩
/-- Rows of two element types are two. -/
theorem owns_apart {w : World} {b1 b2 e1 e2 s1 s2 n1 n2 : Nat} {v1 v2 : Value} {x1 x2 : List Value} (h1 : w.ownsRow b1 e1 s1 v1 n1 x1) (h2 : w.ownsRow b2 e2 s2 v2 n2 x2) (hne : e1 ≠ e2) : v1.ownBlock = none ∨ v1.ownBlock ≠ v2.ownBlock := by
  obtain ⟨_, h1⟩ := h1
  obtain ⟨_, h2⟩ := h2
  rcases h1 with ⟨rfl, _⟩ | ⟨g1, c1, cur1, rfl, _, hh1, _⟩
  · exact Or.inl rfl
  · rcases h2 with ⟨rfl, _⟩ | ⟨g2, c2, cur2, rfl, _, hh2, _⟩
    · exact Or.inr (by simp [Value.ownBlock])
    · refine Or.inr fun e => hne ?_
      simp only [Value.ownBlock, Option.some.injEq] at e
      rw [e, hh2] at hh1
      simp only [Option.some.injEq, Obj.cells.injEq] at hh1
      exact hh1.2.1.symm
/-- The one new cell that an append takes its element from. -/
theorem one_new {w : World} {x : Value} {t : TypeId} {b : Nat} (hb : b = w.heap.size) : ∀ (j : Nat) (u : Value), [x][j]? = some u → (w.alloc (.cells #[x] t)).cell? ((⟨b, 0, none⟩ : Addr).add j) = some u := by
  subst hb; exact cell_one_new _ _ _

end Go.Proofs.YtomiepknmmpflaaGreatDoor

/- The walks of the two functions that ask whether a text is a name. -/
namespace Go.Proofs.YtomiepknmmpflaaGreatDoor
open Go.RowKit

theorem nb_step {s : ByteArray} {k : Nat} {c : UInt8} (Hts : s.data.toList.take (k + 1) = s.data.toList.take k ++ [c]) (Hall : (s.data.toList.take k).all Ov.nameByte = true) (h : Ov.nameByte c = true) :
    (s.data.toList.take (k + 1)).all Ov.nameByte = true := by
  rw [Hts, List.all_append, Hall]; simp [h]

set_option maxHeartbeats 400000 in
theorem rIsName_calls (s : ByteArray) (w : World) :
    Calls Tryz.prog 168 #[.string s] w fun e w' => e = .returned (.bool (Ov.nameB s)) ∧ w' = w := by
  by_cases h1 : s.size < 1
  · have Hf := hide (Ov.isName_short (l := s.data.toList) (by simpa using h1))
    go_enter Tryz.func168, Tryz.ntmps168
    go_wp2
    go_ret
    exact ⟨by rw [Ov.nameB, unhide Hf]; rfl, rfl⟩
  by_cases h8 : 8 < s.size
  · have Hf := hide (Ov.isName_long (l := s.data.toList) (by simpa using h8))
    go_enter Tryz.func168, Tryz.ntmps168
    go_wp2
    go_ret
    exact ⟨by rw [Ov.nameB, unhide Hf]; rfl, rfl⟩
  go_enter Tryz.func168, Tryz.ntmps168
  go_wp2
  go_loop [3, 4] (fun i _ => ∃ k : Nat, k ≤ s.size ∧ i = .int .i64 k ∧ (s.data.toList.take k).all Ov.nameByte = true) (fun i _ => s.size - (intOf i).toNat)
  case atStart => exact ⟨0, Nat.zero_le _, rfl, rfl⟩
  case round =>
    obtain ⟨k, hk, rfl, hall⟩ := hrel
    have Hall := hide hall
    clear hall
    by_cases hlt : k < s.size
    · have Hts := hide (Ov.take_snoc s k hlt)
      have Hm := hide (Ov.mem_at s k hlt)
      have hcls : ((97 : Int) ≤ (s[k].toNat : Int) ∧ (s[k].toNat : Int) ≤ 122) ∨ ((s[k].toNat : Int) < 97 ∧ (48 : Int) ≤ (s[k].toNat : Int) ∧ (s[k].toNat : Int) ≤ 57) ∨ (122 : Int) < (s[k].toNat : Int) ∨ ((57 : Int) < (s[k].toNat : Int) ∧ (s[k].toNat : Int) < 97) ∨ (s[k].toNat : Int) < 48 := by omega
      rcases hcls with hc | hc | hc | hc | hc
      · have Hn := hide (Ov.nameByte_yes (c := s[k]) (by omega))
        go_wp2
        go_round
        case rel => exact ⟨k + 1, by omega, by go_num, nb_step (unhide Hts) (unhide Hall) (unhide Hn)⟩
        case measure => simp [intOf]; omega
      · have Hn := hide (Ov.nameByte_yes (c := s[k]) (by omega))
        go_wp2
        go_round
        case rel => exact ⟨k + 1, by omega, by go_num, nb_step (unhide Hts) (unhide Hall) (unhide Hn)⟩
        case measure => simp [intOf]; omega
      · have Hend := hide (Ov.isName_bad (l := s.data.toList) (unhide Hm) (Ov.nameByte_no (c := s[k]) (by omega)))
        have d1 : decide ((s[k].toNat : Int) ≤ 122) = false := decide_eq_false (by omega)
        have d2 : decide ((s[k].toNat : Int) ≤ 57) = false := decide_eq_false (by omega)
        go_wp2
        go_ret
        exact ⟨by rw [Ov.nameB, unhide Hend]; rfl, rfl⟩
      · have Hend := hide (Ov.isName_bad (l := s.data.toList) (unhide Hm) (Ov.nameByte_no (c := s[k]) (by omega)))
        have d2 : decide ((s[k].toNat : Int) ≤ 57) = false := decide_eq_false (by omega)
        go_wp2
        go_ret
        exact ⟨by rw [Ov.nameB, unhide Hend]; rfl, rfl⟩
      · have Hend := hide (Ov.isName_bad (l := s.data.toList) (unhide Hm) (Ov.nameByte_no (c := s[k]) (by omega)))
        go_wp2
        go_ret
        exact ⟨by rw [Ov.nameB, unhide Hend]; rfl, rfl⟩
    · have Hend := hide (Ov.isName_all (l := s.data.toList) (by simp; omega) (by simp; omega) (by have := unhide Hall; rw [List.take_of_length_le (by simp; omega)] at this; exact this))
      go_wp2
      go_ret
      exact ⟨by rw [Ov.nameB, unhide Hend]; rfl, rfl⟩

set_option maxHeartbeats 400000 in
theorem oisName_calls (s : ByteArray) (w : World) :
    Calls Tryz.prog 64 #[.string s] w fun e w' => e = .returned (.bool (Ov.nameB s)) ∧ w' = w := by
  by_cases h1 : s.size < 1
  · have Hf := hide (Ov.isName_short (l := s.data.toList) (by simpa using h1))
    go_enter Tryz.func64, Tryz.ntmps64
    go_wp2
    go_ret
    exact ⟨by rw [Ov.nameB, unhide Hf]; rfl, rfl⟩
  by_cases h8 : 8 < s.size
  · have Hf := hide (Ov.isName_long (l := s.data.toList) (by simpa using h8))
    go_enter Tryz.func64, Tryz.ntmps64
    go_wp2
    go_ret
    exact ⟨by rw [Ov.nameB, unhide Hf]; rfl, rfl⟩
  go_enter Tryz.func64, Tryz.ntmps64
  go_wp2
  go_loop [15, 3, 4] (fun i _ _ => ∃ k : Nat, k ≤ s.size ∧ i = .int .i64 k ∧ (s.data.toList.take k).all Ov.nameByte = true) (fun i _ _ => s.size - (intOf i).toNat)
  case atStart => exact ⟨0, Nat.zero_le _, rfl, rfl⟩
  case round =>
    obtain ⟨k, hk, rfl, hall⟩ := hrel
    have Hall := hide hall
    clear hall
    by_cases hlt : k < s.size
    · have Hts := hide (Ov.take_snoc s k hlt)
      have Hm := hide (Ov.mem_at s k hlt)
      have hcls : ((97 : Int) ≤ (s[k].toNat : Int) ∧ (s[k].toNat : Int) ≤ 122) ∨ ((s[k].toNat : Int) < 97 ∧ (48 : Int) ≤ (s[k].toNat : Int) ∧ (s[k].toNat : Int) ≤ 57) ∨ (122 : Int) < (s[k].toNat : Int) ∨ ((57 : Int) < (s[k].toNat : Int) ∧ (s[k].toNat : Int) < 97) ∨ (s[k].toNat : Int) < 48 := by omega
      rcases hcls with hc | hc | hc | hc | hc
      · have Hn := hide (Ov.nameByte_yes (c := s[k]) (by omega))
        go_wp2
        go_round
        case rel => exact ⟨k + 1, by omega, by go_num, nb_step (unhide Hts) (unhide Hall) (unhide Hn)⟩
        case measure => simp [intOf]; omega
      · have Hn := hide (Ov.nameByte_yes (c := s[k]) (by omega))
        go_wp2
        go_round
        case rel => exact ⟨k + 1, by omega, by go_num, nb_step (unhide Hts) (unhide Hall) (unhide Hn)⟩
        case measure => simp [intOf]; omega
      · have Hend := hide (Ov.isName_bad (l := s.data.toList) (unhide Hm) (Ov.nameByte_no (c := s[k]) (by omega)))
        have d1 : decide ((s[k].toNat : Int) ≤ 122) = false := decide_eq_false (by omega)
        have d2 : decide ((s[k].toNat : Int) ≤ 57) = false := decide_eq_false (by omega)
        go_wp2
        go_ret
        exact ⟨by rw [Ov.nameB, unhide Hend]; rfl, rfl⟩
      · have Hend := hide (Ov.isName_bad (l := s.data.toList) (unhide Hm) (Ov.nameByte_no (c := s[k]) (by omega)))
        have d2 : decide ((s[k].toNat : Int) ≤ 57) = false := decide_eq_false (by omega)
        go_wp2
        go_ret
        exact ⟨by rw [Ov.nameB, unhide Hend]; rfl, rfl⟩
      · have Hend := hide (Ov.isName_bad (l := s.data.toList) (unhide Hm) (Ov.nameByte_no (c := s[k]) (by omega)))
        go_wp2
        go_ret
        exact ⟨by rw [Ov.nameB, unhide Hend]; rfl, rfl⟩
    · have Hend := hide (Ov.isName_all (l := s.data.toList) (by simp; omega) (by simp; omega) (by have := unhide Hall; rw [List.take_of_length_le (by simp; omega)] at this; exact this))
      go_wp2
      go_ret
      exact ⟨by rw [Ov.nameB, unhide Hend]; rfl, rfl⟩

end Go.Proofs.YtomiepknmmpflaaGreatDoor

/- The walk of the reference's Decimal, for numbers below a hundred. -/
namespace Go.Proofs.YtomiepknmmpflaaGreatDoor
open Go.RowKit Go.Joins

def digits : ByteArray := ⟨#[48, 49, 50, 51, 52, 53, 54, 55, 56, 57]⟩
/-- The digits of a number below a hundred. -/
def dec (n : Nat) : ByteArray := if n < 10 then ⟨#[UInt8.ofNat (48 + n)]⟩ else ⟨#[UInt8.ofNat (48 + n / 10), UInt8.ofNat (48 + n % 10)]⟩
theorem dec1 : ∀ n : Fin 10, digits.extract n.val (n.val + 1) = ⟨#[UInt8.ofNat (48 + n.val)]⟩ := by decide +kernel
theorem dec_small {n : Nat} (h : n < 10) : digits.extract n (n + 1) ++ ⟨#[]⟩ = dec n := by
  rw [dec1 ⟨n, h⟩]
  unfold dec; rw [if_pos h]; rfl
theorem dec_large {n : Nat} (h1 : 10 ≤ n) (h2 : n < 100) : digits.extract (n / 10) (n / 10 + 1) ++ (digits.extract (n % 10) (n % 10 + 1) ++ ⟨#[]⟩) = dec n := by
  rw [dec1 ⟨n / 10, by omega⟩, dec1 ⟨n % 10, by omega⟩]
  unfold dec; rw [if_neg (by omega)]; rfl
theorem digits_size : digits.size = 10 := rfl
theorem dec_size (n : Nat) : (dec n).size ≤ 2 := by unfold dec; split <;> simp [ByteArray.size]

set_option maxRecDepth 100000 in
set_option maxHeartbeats 400000 in
theorem rDecimal_calls (n : Nat) (w : World) (hn : n < 100) : Calls Tryz.prog 170 #[.int .i64 n] w fun e w' => e = .returned (.string (dec n)) ∧ w = w' := by
  by_cases h : n < 10
  · have Hd := hide (dec_small h)
    go_enter Tryz.func170, Tryz.ntmps170
    go_wp2
    go_loop [0, 3, 4] (fun i s _ => i = .int .i64 n ∧ s = .string ⟨#[]⟩) (fun _ _ _ => 0)
    case atStart => exact ⟨rfl, rfl⟩
    case round =>
      obtain ⟨rfl, rfl⟩ := hrel
      go_wp2
      go_ret
      exact ⟨by rw [← unhide Hd]; rfl, rfl⟩
  · have Hd := hide (dec_large (by omega) hn)
    go_enter Tryz.func170, Tryz.ntmps170
    go_wp2
    go_loop [0, 3, 4] (fun i s _ => (i = .int .i64 n ∧ s = .string ⟨#[]⟩) ∨ (i = .int .i64 (n / 10 : Nat) ∧ s = .string (digits.extract (n % 10) (n % 10 + 1) ++ ⟨#[]⟩))) (fun i _ _ => (intOf i).toNat)
    case atStart => exact Or.inl ⟨rfl, rfl⟩
    case round =>
      rcases hrel with ⟨rfl, rfl⟩ | ⟨rfl, rfl⟩
      · go_wp2
        go_round
        case rel => exact Or.inr ⟨by go_num, rfl⟩
        case measure => simp [intOf]; omega
      · have hsz : (digits.extract (n % 10) (n % 10 + 1) ++ ⟨#[]⟩).size ≤ 10 := by
          rw [ByteArray.size_append, ByteArray.size_extract, digits_size]; simp [ByteArray.size]; omega
        obtain ⟨t, ht⟩ : ∃ t, digits.extract (n % 10) (n % 10 + 1) ++ ⟨#[]⟩ = t := ⟨_, rfl⟩
        obtain ⟨q, hq⟩ : ∃ q, n / 10 = q := ⟨_, rfl⟩
        rw [ht] at hsz Hd ⊢
        rw [hq] at Hd ⊢
        have hq1 : 1 ≤ q := by omega
        have hq9 : q ≤ 9 := by omega
        clear ht hq h hn
        go_wp2
        go_ret
        exact ⟨by rw [← unhide Hd]; rfl, rfl⟩

/-- The same over any number in range, and its text by a name. -/
theorem rDecimal_is {n : Int} {t : ByteArray} (h0 : 0 ≤ n) (h1 : n < 100) (ht : dec n.toNat = t) (w : World) : Calls Tryz.prog 170 #[.int .i64 n] w fun e w' => e = .returned (.string t) ∧ w' = w := by
  obtain ⟨k, rfl⟩ := Int.eq_ofNat_of_zero_le h0
  subst ht
  refine (rDecimal_calls k w (by omega)).mono ?_
  rintro e w' ⟨rfl, rfl⟩
  exact ⟨rfl, rfl⟩

end Go.Proofs.YtomiepknmmpflaaGreatDoor
