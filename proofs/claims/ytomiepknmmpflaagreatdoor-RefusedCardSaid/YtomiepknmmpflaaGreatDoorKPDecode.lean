/- The plain functions of the document: names, images, stores, over lists of bytes. Imports nothing of the program. -/
import Derived.Test.YtomiepknmmpflaaGreatDoorRows
import Derived.WalkKit
import Derived.WalkSpells
import Derived.WalkLawsBesides
import Derived.Deep.QuietTactic
import Derived.BigQuiet
import Derived.Deep.RegionWith
import Derived.Deep.DeepFit
import Derived.Laws.CopyOwn
import Derived.Lib.SmallJoins
namespace Go.Proofs.YtomiepknmmpflaaGreatDoor
namespace Ov

def nameByte (c : UInt8) : Bool := (97 ≤ c && c ≤ 122) || (48 ≤ c && c ≤ 57)
def isName (l : List UInt8) : Bool := decide (1 ≤ l.length) && (decide (l.length ≤ 8) && l.all nameByte)

def nameB (s : ByteArray) : Bool := isName s.data.toList
theorem isName_short {l : List UInt8} (h : l.length < 1) : isName l = false := by
  unfold isName; rw [decide_eq_false (by omega)]; rfl
theorem isName_long {l : List UInt8} (h : 8 < l.length) : isName l = false := by
  unfold isName; rw [decide_eq_false (p := l.length ≤ 8) (by omega)]; simp
theorem isName_all {l : List UInt8} (h1 : 1 ≤ l.length) (h2 : l.length ≤ 8) (h : l.all nameByte = true) : isName l = true := by
  unfold isName; rw [decide_eq_true h1, decide_eq_true h2, h]; rfl
theorem isName_bad {l : List UInt8} {c : UInt8} (hc : c ∈ l) (h : nameByte c = false) : isName l = false := by
  have : l.all nameByte = false := by
    rw [List.all_eq_false]; exact ⟨c, hc, by simp [h]⟩
  unfold isName; rw [this]; simp
theorem nameByte_yes {c : UInt8} (h : ((97 : Int) ≤ (c.toNat : Int) ∧ (c.toNat : Int) ≤ 122) ∨ ((48 : Int) ≤ (c.toNat : Int) ∧ (c.toNat : Int) ≤ 57)) : nameByte c = true := by
  unfold nameByte
  rw [Bool.or_eq_true, Bool.and_eq_true, Bool.and_eq_true, decide_eq_true_iff, decide_eq_true_iff, decide_eq_true_iff, decide_eq_true_iff, UInt8.le_iff_toNat_le, UInt8.le_iff_toNat_le, UInt8.le_iff_toNat_le, UInt8.le_iff_toNat_le]
  show (97 ≤ _ ∧ _ ≤ 122) ∨ (48 ≤ _ ∧ _ ≤ 57)
  omega
theorem nameByte_no {c : UInt8} (h : ¬ (((97 : Int) ≤ (c.toNat : Int) ∧ (c.toNat : Int) ≤ 122) ∨ ((48 : Int) ≤ (c.toNat : Int) ∧ (c.toNat : Int) ≤ 57))) : nameByte c = false := by
  rw [← Bool.not_eq_true]
  unfold nameByte
  rw [Bool.or_eq_true, Bool.and_eq_true, Bool.and_eq_true, decide_eq_true_iff, decide_eq_true_iff, decide_eq_true_iff, decide_eq_true_iff, UInt8.le_iff_toNat_le, UInt8.le_iff_toNat_le, UInt8.le_iff_toNat_le, UInt8.le_iff_toNat_le]
  show ¬ ((97 ≤ _ ∧ _ ≤ 122) ∨ (48 ≤ _ ∧ _ ≤ 57))
  omega
theorem take_snoc (s : ByteArray) (k : Nat) (h : k < s.size) : s.data.toList.take (k + 1) = s.data.toList.take k ++ [s[k]] := by
  rw [List.take_succ_eq_append_getElem (by simpa using h)]; rfl
theorem mem_at (s : ByteArray) (k : Nat) (h : k < s.size) : s[k] ∈ s.data.toList := by
  have : s[k] = s.data.toList[k]'(by simpa using h) := rfl
  rw [this]; exact List.getElem_mem _

def byteAt (s : ByteArray) (k : Nat) : Nat := (s.data.toList.getD k 0).toNat
theorem byteAt_lt (s : ByteArray) (k : Nat) : byteAt s k < 256 := UInt8.toNat_lt _
theorem byteAt_eq (s : ByteArray) (k : Nat) (h : k < s.size) : (s[k]'h).toNat = byteAt s k := by
  unfold byteAt
  rw [List.getD_eq_getElem?_getD, List.getElem?_eq_getElem (by simpa using h)]
  rfl

def many (s : ByteArray) : Nat := byteAt s 3
def long (s : ByteArray) : Nat := byteAt s 4
def backing (s : ByteArray) : ByteArray := s.extract 5 (5 + long s)
def datas (s : ByteArray) : Nat := byteAt s (5 + long s + many s)
def base (s : ByteArray) : Nat := 5 + long s + many s + 1
def ent (s : ByteArray) (i : Nat) : Nat := byteAt s (5 + long s + i)
def headOk (s : ByteArray) : Prop := 5 ≤ s.size ∧ byteAt s 0 = 79 ∧ byteAt s 1 = 86 ∧ byteAt s 2 = 1 ∧ 1 ≤ many s ∧ many s ≤ 30 ∧ long s ≤ 8 ∧ base s ≤ s.size ∧ (0 < long s → nameB (backing s) = true) ∧ datas s ≤ 60 ∧ s.size = base s + 8 * datas s
def entOk (s : ByteArray) (k : Nat) : Prop := ent s k = 0 ∨ ent s k = 255 ∨ (ent s k ≤ datas s ∧ ∀ j, j < k → ent s j ≠ ent s k)
def goodTo (s : ByteArray) (k : Nat) : Prop := ∀ i, i < k → entOk s i
def isImage (s : ByteArray) : Prop := headOk s ∧ goodTo s (many s)

def kindOf (e : Nat) : Int := if e = 0 then 0 else if e = 255 then 255 else 1
def blockOf (s : ByteArray) (e : Nat) : ByteArray := if e = 0 ∨ e = 255 then ⟨#[]⟩ else s.extract (base s + 8 * (e - 1)) (base s + 8 * e)
def kindsTo (s : ByteArray) (k : Nat) : List Int := (List.range k).map fun i => kindOf (ent s i)
def blocksTo (s : ByteArray) (k : Nat) : List ByteArray := (List.range k).map fun i => blockOf s (ent s i)
def usedAt (s : ByteArray) (k j : Nat) : Int := if (List.range k).any (fun i => ent s i == j + 1) then 1 else 0
def usedTo (s : ByteArray) (k : Nat) : List Int := (List.range (datas s)).map fun j => usedAt s k j
def lostTo (s : ByteArray) : Nat → Int
  | 0 => 0
  | j + 1 => lostTo s j + 1 - usedAt s (many s) j
def lost (s : ByteArray) : Int := lostTo s (datas s)

theorem kindsTo_succ (s : ByteArray) (k : Nat) : kindsTo s (k + 1) = kindsTo s k ++ [kindOf (ent s k)] := by simp [kindsTo, List.range_succ]
theorem blocksTo_succ (s : ByteArray) (k : Nat) : blocksTo s (k + 1) = blocksTo s k ++ [blockOf s (ent s k)] := by simp [blocksTo, List.range_succ]
theorem usedAt_succ (s : ByteArray) (k j : Nat) : usedAt s (k + 1) j = if ent s k = j + 1 then 1 else usedAt s k j := by
  unfold usedAt
  rw [List.range_succ, List.any_append]
  by_cases h : ent s k = j + 1 <;> simp [h]
theorem usedAt_01 (s : ByteArray) (k j : Nat) : usedAt s k j = 0 ∨ usedAt s k j = 1 := by
  unfold usedAt; split <;> simp
theorem usedAt_pos {s : ByteArray} {k j : Nat} : 0 < usedAt s k j ↔ ∃ i, i < k ∧ ent s i = j + 1 := by
  unfold usedAt
  by_cases h : (List.range k).any (fun i => ent s i == j + 1) = true
  · rw [if_pos h]
    rw [List.any_eq_true] at h
    obtain ⟨i, h1, h2⟩ := h
    exact ⟨fun _ => ⟨i, by simpa using h1, by simpa using h2⟩, fun _ => by omega⟩
  · rw [if_neg h]
    refine ⟨fun h0 => by omega, fun ⟨i, h1, h2⟩ => absurd ?_ h⟩
    rw [List.any_eq_true]
    exact ⟨i, by simpa using h1, by simpa using h2⟩
theorem usedTo_same {s : ByteArray} {k : Nat} (h : ent s k = 0 ∨ datas s < ent s k) : usedTo s (k + 1) = usedTo s k := by
  unfold usedTo
  refine List.map_congr_left fun j hj => ?_
  rw [usedAt_succ, if_neg]
  have : j < datas s := by simpa using hj
  omega
theorem usedTo_set {s : ByteArray} {k e : Nat} (h : ent s k = e + 1) : usedTo s (k + 1) = (usedTo s k).set e 1 := by
  unfold usedTo
  refine List.ext_getElem (by simp) fun j h1 h2 => ?_
  rw [List.getElem_set]
  simp only [List.getElem_map, List.getElem_range]
  rw [usedAt_succ]
  by_cases hj : e = j
  · rw [if_pos hj, if_pos (by omega)]
  · rw [if_neg hj, if_neg (by omega)]
theorem lostTo_bd (s : ByteArray) (j : Nat) : 0 ≤ lostTo s j ∧ lostTo s j ≤ j := by
  induction j with
  | zero => simp [lostTo]
  | succ j ih => rcases usedAt_01 s (many s) j with h | h <;> simp only [lostTo, h] <;> omega
theorem entOk_free {s : ByteArray} {k e : Nat} (he : ent s k = e + 1) (hn : e < datas s) (hu : usedAt s k e = 0) : entOk s k := by
  refine Or.inr (Or.inr ⟨by omega, fun j hj hje => ?_⟩)
  have : 0 < usedAt s k e := usedAt_pos.2 ⟨j, hj, by omega⟩
  omega
theorem not_entOk_used {s : ByteArray} {k e : Nat} (he : ent s k = e + 1) (h255 : e + 1 ≠ 255) (hu : 0 < usedAt s k e) : ¬ entOk s k := by
  obtain ⟨j, hj, hje⟩ := usedAt_pos.1 hu
  rintro (h | h | ⟨_, h⟩)
  · omega
  · omega
  · exact h j hj (by omega)
theorem not_entOk_high {s : ByteArray} {k : Nat} (h255 : ent s k ≠ 255) (hn : datas s < ent s k) : ¬ entOk s k := by
  rintro (h | h | ⟨h, _⟩) <;> omega
theorem kindOf_data {e : Nat} (h0 : e ≠ 0) (h255 : e ≠ 255) : kindOf e = 1 := by simp [kindOf, h0, h255]
theorem blockOf_data {s : ByteArray} {e : Nat} (h0 : e ≠ 0) (h255 : e ≠ 255) : blockOf s e = s.extract (base s + 8 * (e - 1)) (base s + 8 * e) := by simp [blockOf, h0, h255]
theorem goodTo_succ {s : ByteArray} {k : Nat} (h : goodTo s k) (hk : entOk s k) : goodTo s (k + 1) := fun i hi => by
  by_cases e : i = k
  · subst e; exact hk
  · exact h i (by omega)

end Ov
end Go.Proofs.YtomiepknmmpflaaGreatDoor

namespace Go.Proofs.YtomiepknmmpflaaGreatDoor
open Go.RowKit

theorem hide {p : Prop} (h : p) : Hid p := h
theorem unhide {p : Prop} (h : Hid p) : p := h
end Go.Proofs.YtomiepknmmpflaaGreatDoor

namespace Go.Proofs.YtomiepknmmpflaaGreatDoor
open Go.RowKit Go.Joins

theorem Tryz.infoString : (Tryz.prog.info? 9).map (fun i => (i.zero, i.size, i.bytes)) = some (some (.string ⟨#[]⟩), 1, 16) := by kernel_rfl

theorem blk_cell {w : World} {b i : Nat} {cs : Array Value} {t : TypeId} {v : Value} (h : w.heap[b]? = some (.cells cs t (0, 0))) (hv : cs[i]? = some v) : w.cell? ⟨b, i, none⟩ = some v := by rw [cell_of_block h, hv]
theorem blk_frozen {w : World} {b : Nat} {cs : Array Value} {t : TypeId} (h : w.heap[b]? = some (.cells cs t (0, 0))) (i : Nat) : w.frozen? ⟨b, i, none⟩ = false := unfrozen_of_block h i
theorem blk_lt {w : World} {b : Nat} {o : Obj} (h : w.heap[b]? = some o) : b < w.heap.size := by
  by_cases hb : b < w.heap.size
  · exact hb
  · rw [Array.getElem?_eq_none (by omega)] at h; cases h
theorem blk_alloc {w : World} {b : Nat} {o : Obj} (h : w.heap[b]? = some o) (n : Obj) : (w.alloc n).heap[b]? = some o := by
  rw [Below.heap_alloc _ _ _ (blk_lt h)]; exact h
theorem blk_grown {w w' : World} {b : Nat} {o : Obj} {row : Option Nat} (h : w.heap[b]? = some o) (hg : w.grownBy w' row) (hne : some b ≠ row) : w'.heap[b]? = some o := by
  rw [hg.block b (blk_lt h) hne]; exact h
theorem blk_set_other {w : World} {b : Nat} {o : Obj} (h : w.heap[b]? = some o) {a : Addr} (hne : b ≠ a.block) (u : Value) : (w.setCell a u).heap[b]? = some o := by
  rw [Below.heap_setCell _ _ _ _ hne]; exact h
theorem blk_set_same {w : World} {b i : Nat} {cs : Array Value} {t : TypeId} (h : w.heap[b]? = some (.cells cs t (0, 0))) (u : Value) : (w.setCell ⟨b, i, none⟩ u).heap[b]? = some (.cells (cs.setIfInBounds i u) t (0, 0)) := block_setCell h u
theorem owns_ne {w : World} {base e size n : Nat} {v : Value} {xs : List Value} (h : w.ownsRow base e size v n xs) {b : Nat} (hb : b < base) : some b ≠ v.ownBlock := fun he => by
  have := (h.lt b he.symm).1; omega
theorem owns_set {w : World} {base e size n : Nat} {v : Value} {xs : List Value} (h : w.ownsRow base e size v n xs) {a : Addr} (hne : some a.block ≠ v.ownBlock) (u : Value) : (w.setCell a u).ownsRow base e size v n xs := by
  obtain ⟨h1, h2⟩ := h
  refine ⟨h1, ?_⟩
  rcases h2 with h2 | ⟨g, cap, cur, hv, hg, hh, r⟩
  · exact Or.inl h2
  · refine Or.inr ⟨g, cap, cur, hv, hg, ?_, r⟩
    rw [Below.heap_setCell _ _ _ _ (fun e => hne (by rw [hv, ← e]; rfl))]; exact hh
theorem owns_grown {w w' : World} {base e size n : Nat} {v : Value} {xs : List Value} {row : Option Nat} (h : w.ownsRow base e size v n xs) (hg : w.grownBy w' row) (hne : v.ownBlock = none ∨ v.ownBlock ≠ row) : w'.ownsRow base e size v n xs := h.kept hg hne
theorem owns_slice {w : World} {base e size n : Nat} {v : Value} {xs : List Value} (h : w.ownsRow base e size v n xs) : ∃ a c, v = .slice a n c := by
  rcases h.2 with ⟨rfl, rfl⟩ | ⟨g, cap, cur, rfl, _⟩
  · exact ⟨_, _, rfl⟩
  · exact ⟨_, _, rfl⟩
theorem owns_apart {w : World} {b1 b2 e1 e2 s1 s2 n1 n2 : Nat} {v1 v2 : Value} {x1 x2 : List Value} (h1 : w.ownsRow b1 e1 s1 v1 n1 x1) (h2 : w.ownsRow b2 e2 s2 v2 n2 x2) (hne : e1 ≠ e2) : v1.ownBlock = none ∨ v1.ownBlock ≠ v2.ownBlock := by
  obtain ⟨_, h1⟩ := h1
  obtain ⟨_, h2⟩ := h2
  rcases h1 with ⟨rfl, _⟩ | ⟨g1, c1, cur1, rfl, _, hh1, _⟩
  · exact Or.inl rfl
  · rcases h2 with ⟨rfl, _⟩ | ⟨g2, c2, cur2, rfl, _, hh2, _⟩
    · exact Or.inr (by simp [Value.ownBlock])
    · refine Or.inr fun e => hne ?_
      simp only [Value.ownBlock, Option.some.injEq] at e
      rw [e, hh2] at hh1
      simp only [Option.some.injEq, Obj.cells.injEq] at hh1
      exact hh1.2.1.symm
theorem one_new {w : World} {x : Value} {t : TypeId} {b : Nat} (hb : b = w.heap.size) : ∀ (j : Nat) (u : Value), [x][j]? = some u → (w.alloc (.cells #[x] t)).cell? ((⟨b, 0, none⟩ : Addr).add j) = some u := by
  subst hb; exact cell_one_new _ _ _

end Go.Proofs.YtomiepknmmpflaaGreatDoor

namespace Go.Proofs.YtomiepknmmpflaaGreatDoor
open Go.RowKit

theorem nb_step {s : ByteArray} {k : Nat} {c : UInt8} (Hts : s.data.toList.take (k + 1) = s.data.toList.take k ++ [c]) (Hall : (s.data.toList.take k).all Ov.nameByte = true) (h : Ov.nameByte c = true) :
    (s.data.toList.take (k + 1)).all Ov.nameByte = true := by
  rw [Hts, List.all_append, Hall]; simp [h]

set_option maxHeartbeats 400000 in
theorem oisName_calls (s : ByteArray) (w : World) :
    Calls Tryz.prog 64 #[.string s] w fun e w' => e = .returned (.bool (Ov.nameB s)) ∧ w' = w := by
  by_cases h1 : s.size < 1
  · have Hf := hide (Ov.isName_short (l := s.data.toList) (by simpa using h1))
    go_enter Tryz.func64, Tryz.ntmps64
    go_wp2
    go_ret
    exact ⟨by rw [Ov.nameB, unhide Hf]; rfl, rfl⟩
  by_cases h8 : 8 < s.size
  · have Hf := hide (Ov.isName_long (l := s.data.toList) (by simpa using h8))
    go_enter Tryz.func64, Tryz.ntmps64
    go_wp2
    go_ret
    exact ⟨by rw [Ov.nameB, unhide Hf]; rfl, rfl⟩
  go_enter Tryz.func64, Tryz.ntmps64
  go_wp2
  go_loop [15, 3, 4] (fun i _ _ => ∃ k : Nat, k ≤ s.size ∧ i = .int .i64 k ∧ (s.data.toList.take k).all Ov.nameByte = true) (fun i _ _ => s.size - (intOf i).toNat)
  case atStart => exact ⟨0, Nat.zero_le _, rfl, rfl⟩
  case round =>
    obtain ⟨k, hk, rfl, hall⟩ := hrel
    have Hall := hide hall
    clear hall
    by_cases hlt : k < s.size
    · have Hts := hide (Ov.take_snoc s k hlt)
      have Hm := hide (Ov.mem_at s k hlt)
      have hcls : ((97 : Int) ≤ (s[k].toNat : Int) ∧ (s[k].toNat : Int) ≤ 122) ∨ ((s[k].toNat : Int) < 97 ∧ (48 : Int) ≤ (s[k].toNat : Int) ∧ (s[k].toNat : Int) ≤ 57) ∨ (122 : Int) < (s[k].toNat : Int) ∨ ((57 : Int) < (s[k].toNat : Int) ∧ (s[k].toNat : Int) < 97) ∨ (s[k].toNat : Int) < 48 := by omega
      rcases hcls with hc | hc | hc | hc | hc
      · have Hn := hide (Ov.nameByte_yes (c := s[k]) (by omega))
        go_wp2
        go_round
        case rel => exact ⟨k + 1, by omega, by go_num, nb_step (unhide Hts) (unhide Hall) (unhide Hn)⟩
        case measure => simp [intOf]; omega
      · have Hn := hide (Ov.nameByte_yes (c := s[k]) (by omega))
        go_wp2
        go_round
        case rel => exact ⟨k + 1, by omega, by go_num, nb_step (unhide Hts) (unhide Hall) (unhide Hn)⟩
        case measure => simp [intOf]; omega
      · have Hend := hide (Ov.isName_bad (l := s.data.toList) (unhide Hm) (Ov.nameByte_no (c := s[k]) (by omega)))
        have d1 : decide ((s[k].toNat : Int) ≤ 122) = false := decide_eq_false (by omega)
        have d2 : decide ((s[k].toNat : Int) ≤ 57) = false := decide_eq_false (by omega)
        go_wp2
        go_ret
        exact ⟨by rw [Ov.nameB, unhide Hend]; rfl, rfl⟩
      · have Hend := hide (Ov.isName_bad (l := s.data.toList) (unhide Hm) (Ov.nameByte_no (c := s[k]) (by omega)))
        have d2 : decide ((s[k].toNat : Int) ≤ 57) = false := decide_eq_false (by omega)
        go_wp2
        go_ret
        exact ⟨by rw [Ov.nameB, unhide Hend]; rfl, rfl⟩
      · have Hend := hide (Ov.isName_bad (l := s.data.toList) (unhide Hm) (Ov.nameByte_no (c := s[k]) (by omega)))
        go_wp2
        go_ret
        exact ⟨by rw [Ov.nameB, unhide Hend]; rfl, rfl⟩
    · have Hend := hide (Ov.isName_all (l := s.data.toList) (by simp; omega) (by simp; omega) (by have := unhide Hall; rw [List.take_of_length_le (by simp; omega)] at this; exact this))
      go_wp2
      go_ret
      exact ⟨by rw [Ov.nameB, unhide Hend]; rfl, rfl⟩

end Go.Proofs.YtomiepknmmpflaaGreatDoor

namespace Go.Proofs.YtomiepknmmpflaaGreatDoor
open Go.RowKit Go.Joins

structure DI (s : ByteArray) (w : World) (X ku k : Nat) (ev bv : Value) (wr : World) : Prop where
  good : Ov.goodTo s ku
  res : wr.heap[X]? = some (.cells #[.string ⟨#[]⟩, .slice none 0 0, .slice none 0 0, .int .i64 0] 240 (0, 0))
  x : wr.heap[X + 1]? = some (.cells #[.string (Ov.backing s), ev, bv, .int .i64 0] 240 (0, 0))
  used : wr.ownsRow (X + 1 + 1) 3 1 (.slice (some ⟨X + 1 + 1, 0, none⟩) (Ov.datas s) (Ov.datas s)) (Ov.datas s) ((Ov.usedTo s ku).map (Value.int .i64))
  evs : wr.ownsRow (X + 1 + 1 + 1) 3 1 ev k ((Ov.kindsTo s k).map (Value.int .i64))
  bvs : wr.ownsRow (X + 1 + 1 + 1) 9 1 bv k ((Ov.blocksTo s k).map Value.string)
  size : X + 1 + 1 + 1 ≤ wr.heap.size
  below : Below X w wr

section
variable {s : ByteArray} {w wr w1 w2 : World} {X ku k : Nat} {ev bv v1 v2 : Value} {E : Int} {b : ByteArray} {o1 o2 : Obj}

theorem DI.plain (h : DI s w X k k ev bv wr) (he : Ov.ent s k = 0 ∨ Ov.ent s k = 255) (hd : Ov.datas s ≤ 60) : DI s w X (k + 1) k ev bv wr :=
  ⟨Ov.goodTo_succ h.good (by rcases he with h | h; exact Or.inl h; exact Or.inr (Or.inl h)), h.res, h.x, by rw [Ov.usedTo_same (by omega)]; exact h.used, h.evs, h.bvs, h.size, h.below⟩
theorem DI.mark (h : DI s w X k k ev bv wr) {e : Nat} (he : Ov.ent s k = e + 1) (hok : Ov.entOk s k) : DI s w X (k + 1) k ev bv (wr.setCell ⟨X + 1 + 1, e, none⟩ (.int .i64 1)) := by
  have ne1 : ∀ b, b < X + 1 + 1 + 1 → some b ≠ ev.ownBlock := fun b hb => owns_ne h.evs hb
  have ne2 : ∀ b, b < X + 1 + 1 + 1 → some b ≠ bv.ownBlock := fun b hb => owns_ne h.bvs hb
  refine ⟨Ov.goodTo_succ h.good hok, blk_set_other h.res (by show X ≠ X + 1 + 1; omega) _, blk_set_other h.x (by show X + 1 ≠ X + 1 + 1; omega) _, ?_, owns_set h.evs (ne1 _ (by show X + 1 + 1 < _; omega)) _, owns_set h.bvs (ne2 _ (by show X + 1 + 1 < _; omega)) _, by simpa using h.size, h.below.setCell (by show X ≤ X + 1 + 1; omega) _⟩
  rw [Ov.usedTo_set he, List.map_set]
  exact (h.used.stored e (.int .i64 1)).1
theorem DI.x1 (h : DI s w X ku k ev bv wr) (hg1 : (wr.alloc o1).grownBy w1 ev.ownBlock) : w1.heap[X + 1]? = some (.cells #[.string (Ov.backing s), ev, bv, .int .i64 0] 240 (0, 0)) :=
  blk_grown (blk_alloc h.x o1) hg1 (owns_ne h.evs (by omega))
theorem DI.b1 (h : DI s w X ku k ev bv wr) (hg1 : (wr.alloc o1).grownBy w1 ev.ownBlock) (v1 : Value) : (w1.setCell ⟨X + 1, 1, none⟩ v1).ownsRow (X + 1 + 1 + 1) 9 1 bv k ((Ov.blocksTo s k).map Value.string) :=
  owns_set (owns_grown (h.bvs.alloc o1) hg1 (owns_apart h.bvs h.evs (by decide))) (owns_ne h.bvs (by show X + 1 < _; omega)) v1
theorem DI.x2 (h : DI s w X ku k ev bv wr) (hg1 : (wr.alloc o1).grownBy w1 ev.ownBlock) (hg2 : ((w1.setCell ⟨X + 1, 1, none⟩ v1).alloc o2).grownBy w2 bv.ownBlock) :
    w2.heap[X + 1]? = some (.cells #[.string (Ov.backing s), v1, bv, .int .i64 0] 240 (0, 0)) := by
  have x1' := blk_set_same (i := 1) (h.x1 hg1) v1
  exact blk_grown (blk_alloc x1' o2) hg2 (owns_ne h.bvs (by omega))
theorem DI.step (h : DI s w X (k + 1) k ev bv wr) (hE : E = Ov.kindOf (Ov.ent s k)) (hb : b = Ov.blockOf s (Ov.ent s k))
    (ho1 : w1.ownsRow (X + 1 + 1 + 1) 3 1 v1 (k + 1) ((Ov.kindsTo s k).map (Value.int .i64) ++ [.int .i64 E])) (hg1 : (wr.alloc o1).grownBy w1 ev.ownBlock)
    (ho2 : w2.ownsRow (X + 1 + 1 + 1) 9 1 v2 (k + 1) ((Ov.blocksTo s k).map Value.string ++ [.string b])) (hg2 : ((w1.setCell ⟨X + 1, 1, none⟩ v1).alloc o2).grownBy w2 bv.ownBlock) :
    DI s w X (k + 1) (k + 1) v1 v2 (w2.setCell ⟨X + 1, 2, none⟩ v2) := by
  have ne1 : ∀ b, b < X + 1 + 1 + 1 → some b ≠ ev.ownBlock := fun b hb => owns_ne h.evs hb
  have ne2 : ∀ b, b < X + 1 + 1 + 1 → some b ≠ bv.ownBlock := fun b hb => owns_ne h.bvs hb
  have x2' := blk_set_same (i := 2) (h.x2 hg1 hg2) v2
  have r1 := blk_set_other (blk_grown (blk_alloc h.res o1) hg1 (ne1 _ (by omega))) (a := ⟨X + 1, 1, none⟩) (by show X ≠ X + 1; omega) v1
  have r2 := blk_set_other (blk_grown (blk_alloc r1 o2) hg2 (ne2 _ (by omega))) (a := ⟨X + 1, 2, none⟩) (by show X ≠ X + 1; omega) v2
  have u1 := owns_grown (h.used.alloc o1) hg1 (Or.inr (ne1 (X + 1 + 1) (by omega)))
  have u1' := owns_set u1 (a := ⟨X + 1, 1, none⟩) (by show some (X + 1) ≠ some (X + 1 + 1); simp) v1
  have u2 := owns_grown (u1'.alloc o2) hg2 (Or.inr (ne2 (X + 1 + 1) (by omega)))
  have u2' := owns_set u2 (a := ⟨X + 1, 2, none⟩) (by show some (X + 1) ≠ some (X + 1 + 1); simp) v2
  have n1 : ∀ c, c < X + 1 + 1 + 1 → some c ≠ v1.ownBlock := fun c hc => owns_ne ho1 hc
  have n2 : ∀ c, c < X + 1 + 1 + 1 → some c ≠ v2.ownBlock := fun c hc => owns_ne ho2 hc
  have e1' := owns_set ho1 (a := ⟨X + 1, 1, none⟩) (n1 (X + 1) (by omega)) v1
  have e2 := owns_grown (e1'.alloc o2) hg2 (owns_apart e1' (h.b1 hg1 v1) (by decide))
  have e2' := owns_set e2 (a := ⟨X + 1, 2, none⟩) (n1 (X + 1) (by omega)) v2
  have b2' := owns_set ho2 (a := ⟨X + 1, 2, none⟩) (n2 (X + 1) (by omega)) v2
  have hs0 := h.size
  have sz1 := hg1.size
  have sz2 := hg2.size
  simp only [World.size_alloc, World.size_setCell] at sz1 sz2
  have bl1 : Below X w w1 := (h.below.alloc (by omega) o1).grown hg1 (by simp; omega) (fun k hk => by have := (h.evs.lt k hk).1; omega)
  have bl1' := bl1.setCell (p := ⟨X + 1, 1, none⟩) (by show X ≤ X + 1; omega) v1
  have bl2 : Below X w w2 := (bl1'.alloc (by simp; omega) o2).grown hg2 (by simp; omega) (fun k hk => by have := ((h.b1 hg1 v1).lt k hk).1; omega)
  refine ⟨h.good, r2, x2', u2', ?_, ?_, by simp; omega, bl2.setCell (p := ⟨X + 1, 2, none⟩) (by show X ≤ X + 1; omega) v2⟩
  · rw [Ov.kindsTo_succ, List.map_append, ← hE]; exact e2'
  · rw [Ov.blocksTo_succ, List.map_append, ← hb]; exact b2'
end

structure DL (s : ByteArray) (w : World) (X j : Nat) (ev bv : Value) (wr : World) : Prop where
  res : wr.heap[X]? = some (.cells #[.string ⟨#[]⟩, .slice none 0 0, .slice none 0 0, .int .i64 0] 240 (0, 0))
  x : wr.heap[X + 1]? = some (.cells #[.string (Ov.backing s), ev, bv, .int .i64 (Ov.lostTo s j)] 240 (0, 0))
  used : wr.ownsRow (X + 1 + 1) 3 1 (.slice (some ⟨X + 1 + 1, 0, none⟩) (Ov.datas s) (Ov.datas s)) (Ov.datas s) ((Ov.usedTo s (Ov.many s)).map (Value.int .i64))
  evs : wr.ownsRow (X + 1 + 1 + 1) 3 1 ev (Ov.many s) ((Ov.kindsTo s (Ov.many s)).map (Value.int .i64))
  bvs : wr.ownsRow (X + 1 + 1 + 1) 9 1 bv (Ov.many s) ((Ov.blocksTo s (Ov.many s)).map Value.string)
  size : X + 1 + 1 + 1 ≤ wr.heap.size
  below : Below X w wr
theorem DL.step {s : ByteArray} {w wr : World} {X j : Nat} {ev bv : Value} {L : Int} (h : DL s w X j ev bv wr) (hL : L = Ov.lostTo s (j + 1)) : DL s w X (j + 1) ev bv (wr.setCell ⟨X + 1, 3, none⟩ (.int .i64 L)) := by
  subst hL
  refine ⟨blk_set_other h.res (by show X ≠ X + 1; omega) _, blk_set_same (i := 3) h.x _, owns_set h.used (by show some (X + 1) ≠ some (X + 1 + 1); simp) _, owns_set h.evs (owns_ne h.evs (by show X + 1 < _; omega)) _, owns_set h.bvs (owns_ne h.bvs (by show X + 1 < _; omega)) _, by simpa using h.size, h.below.setCell (by show X ≤ X + 1; omega) _⟩
theorem DL.drew {s : ByteArray} {w wr : World} {X j : Nat} {ev bv : Value} (h : DL s w X j ev bv wr) : DL s w X j ev bv wr.drew := ⟨h.res, h.x, h.used, h.evs, h.bvs, h.size, h.below.drew⟩
end Go.Proofs.YtomiepknmmpflaaGreatDoor

namespace Go.Proofs.YtomiepknmmpflaaGreatDoor
open Go.RowKit Go.Joins

def dec (n : Nat) : ByteArray := if n < 10 then ⟨#[UInt8.ofNat (48 + n)]⟩ else ⟨#[UInt8.ofNat (48 + n / 10), UInt8.ofNat (48 + n % 10)]⟩
theorem dec_size (n : Nat) : (dec n).size ≤ 2 := by unfold dec; split <;> simp [ByteArray.size]

end Go.Proofs.YtomiepknmmpflaaGreatDoor

