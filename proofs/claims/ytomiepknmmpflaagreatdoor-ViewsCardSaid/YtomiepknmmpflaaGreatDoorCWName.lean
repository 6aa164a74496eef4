/- The plain functions of the document: names, images, stores, over lists of bytes. Imports nothing of the program. -/
import Derived.Test.YtomiepknmmpflaaGreatDoorRows
import Derived.WalkKit
import Derived.WalkSpells
import Derived.WalkLawsBesides
import Derived.Deep.QuietTactic
import Derived.BigQuiet
import Derived.Deep.RegionWith
import Derived.Deep.DeepFit
import Derived.Laws.CopyOwn
import Derived.Lib.SmallJoins
namespace Go.Proofs.YtomiepknmmpflaaGreatDoor
namespace Ov

/-- A byte of a name. -/
def nameByte (c : UInt8) : Bool := (97 ≤ c && c ≤ 122) || (48 ≤ c && c ≤ 57)
/-- Is it a name? -/
def isName (l : List UInt8) : Bool := decide (1 ≤ l.length) && (decide (l.length ≤ 8) && l.all nameByte)

/-- Of a text as it lies in the model. -/
def nameB (s : ByteArray) : Bool := isName s.data.toList
theorem isName_short {l : List UInt8} (h : l.length < 1) : isName l = false := by
  unfold isName; rw [decide_eq_false (by omega)]; rfl
theorem isName_long {l : List UInt8} (h : 8 < l.length) : isName l = false := by
  unfold isName; rw [decide_eq_false (p := l.length ≤ 8) (by omega)]; simp
theorem isName_all {l : List UInt8} (h1 : 1 ≤ l.length) (h2 : l.length ≤ 8) (h : l.all nameByte = true) : isName l = true := by
  unfold isName; rw [decide_eq_true h1, decide_eq_true h2, h]; rfl
theorem isName_bad {l : List UInt8} {c : UInt8} (hc : c ∈ l) (h : nameByte c = false) : isName l = false := by
  have : l.all nameByte = false := by
    rw [List.all_eq_false]; exact ⟨c, hc, by simp [h]⟩
  unfold isName; rw [this]; simp
theorem nameByte_yes {c : UInt8} (h : ((97 : Int) ≤ (c.toNat : Int) ∧ (c.toNat : Int) ≤ 122) ∨ ((48 : Int) ≤ (c.toNat : Int) ∧ (c.toNat : Int) ≤ 57)) : nameByte c = true := by
  unfold nameByte
  rw [Bool.or_eq_true, Bool.and_eq_true, Bool.and_eq_true, decide_eq_true_iff, decide_eq_true_iff, decide_eq_true_iff, decide_eq_true_iff, UInt8.le_iff_toNat_le, UInt8.le_iff_toNat_le, UInt8.le_iff_toNat_le, UInt8.le_iff_toNat_le]
  show (97 ≤ _ ∧ _ ≤ 122) ∨ (48 ≤ _ ∧ _ ≤ 57)
  omega
theorem nameByte_no {c : UInt8} (h : ¬ (((97 : Int) ≤ (c.toNat : Int) ∧ (c.toNat : Int) ≤ 122) ∨ ((48 : Int) ≤ (c.toNat : Int) ∧ (c.toNat : Int) ≤ 57))) : nameByte c = false := by
  rw [← Bool.not_eq_true]
  unfold nameByte
  rw [Bool.or_eq_true, Bool.and_eq_true, Bool.and_eq_true, decide_eq_true_iff, decide_eq_true_iff, decide_eq_true_iff, decide_eq_true_iff, UInt8.le_iff_toNat_le, UInt8.le_iff_toNat_le, UInt8.le_iff_toNat_le, UInt8.le_iff_toNat_le]
  show ¬ ((97 ≤ _ ∧ _ ≤ 122) ∨ (48 ≤ _ ∧ _ ≤ 57))
  omega
/-- The first bytes of a text, one more. -/
theorem take_snoc (s : ByteArray) (k : Nat) (h : k < s.size) : s.data.toList.take (k + 1) = s.data.toList.take k ++ [s[k]] := by
  rw [List.take_succ_eq_append_getElem (by simpa using h)]; rfl
theorem mem_at (s : ByteArray) (k : Nat) (h : k < s.size) : s[k] ∈ s.data.toList := by
  have : s[k] = s.data.toList[k]'(by simpa using h) := rfl
  rw [this]; exact List.getElem_mem _

/-- A byte of a text, as a number; 0 behind its end. -/
def byteAt (s : ByteArray) (k : Nat) : Nat := (s.data.toList.getD k 0).toNat
theorem byteAt_lt (s : ByteArray) (k : Nat) : byteAt s k < 256 := UInt8.toNat_lt _
theorem byteAt_eq (s : ByteArray) (k : Nat) (h : k < s.size) : (s[k]'h).toNat = byteAt s k := by
  unfold byteAt
  rw [List.getD_eq_getElem?_getD, List.getElem?_eq_getElem (by simpa using h)]
  rfl

/- AN IMAGE's FILE, by its parts. -/
def many (s : ByteArray) : Nat := byteAt s 3
def long (s : ByteArray) : Nat := byteAt s 4
def backing (s : ByteArray) : ByteArray := s.extract 5 (5 + long s)
def datas (s : ByteArray) : Nat := byteAt s (5 + long s + many s)
def base (s : ByteArray) : Nat := 5 + long s + many s + 1
def ent (s : ByteArray) (i : Nat) : Nat := byteAt s (5 + long s + i)
/-- All that is asked of a file but for its entries. -/
def headOk (s : ByteArray) : Prop := 5 ≤ s.size ∧ byteAt s 0 = 79 ∧ byteAt s 1 = 86 ∧ byteAt s 2 = 1 ∧ 1 ≤ many s ∧ many s ≤ 30 ∧ long s ≤ 8 ∧ base s ≤ s.size ∧ (0 < long s → nameB (backing s) = true) ∧ datas s ≤ 60 ∧ s.size = base s + 8 * datas s
/-- One entry beside those ahead of it. -/
def entOk (s : ByteArray) (k : Nat) : Prop := ent s k = 0 ∨ ent s k = 255 ∨ (ent s k ≤ datas s ∧ ∀ j, j < k → ent s j ≠ ent s k)
def goodTo (s : ByteArray) (k : Nat) : Prop := ∀ i, i < k → entOk s i
def isImage (s : ByteArray) : Prop := headOk s ∧ goodTo s (many s)

/- What an image's entries tell: of each its kind (0 open, 255 zero, 1 data) and its bytes; which data clusters are named; how many are lost. -/
def kindOf (e : Nat) : Int := if e = 0 then 0 else if e = 255 then 255 else 1
def blockOf (s : ByteArray) (e : Nat) : ByteArray := if e = 0 ∨ e = 255 then ⟨#[]⟩ else s.extract (base s + 8 * (e - 1)) (base s + 8 * e)
def kindsTo (s : ByteArray) (k : Nat) : List Int := (List.range k).map fun i => kindOf (ent s i)
def blocksTo (s : ByteArray) (k : Nat) : List ByteArray := (List.range k).map fun i => blockOf s (ent s i)
def usedAt (s : ByteArray) (k j : Nat) : Int := if (List.range k).any (fun i => ent s i == j + 1) then 1 else 0
def usedTo (s : ByteArray) (k : Nat) : List Int := (List.range (datas s)).map fun j => usedAt s k j
def lostTo (s : ByteArray) : Nat → Int
  | 0 => 0
  | j + 1 => lostTo s j + 1 - usedAt s (many s) j
def lost (s : ByteArray) : Int := lostTo s (datas s)

theorem kindsTo_succ (s : ByteArray) (k : Nat) : kindsTo s (k + 1) = kindsTo s k ++ [kindOf (ent s k)] := by simp [kindsTo, List.range_succ]
theorem blocksTo_succ (s : ByteArray) (k : Nat) : blocksTo s (k + 1) = blocksTo s k ++ [blockOf s (ent s k)] := by simp [blocksTo, List.range_succ]
theorem kindsTo_length (s : ByteArray) (k : Nat) : (kindsTo s k).length = k := by simp [kindsTo]
theorem blocksTo_length (s : ByteArray) (k : Nat) : (blocksTo s k).length = k := by simp [blocksTo]
theorem usedTo_length (s : ByteArray) (k : Nat) : (usedTo s k).length = datas s := by simp [usedTo]
theorem usedAt_succ (s : ByteArray) (k j : Nat) : usedAt s (k + 1) j = if ent s k = j + 1 then 1 else usedAt s k j := by
  unfold usedAt
  rw [List.range_succ, List.any_append]
  by_cases h : ent s k = j + 1 <;> simp [h]
theorem usedAt_01 (s : ByteArray) (k j : Nat) : usedAt s k j = 0 ∨ usedAt s k j = 1 := by
  unfold usedAt; split <;> simp
theorem usedAt_pos {s : ByteArray} {k j : Nat} : 0 < usedAt s k j ↔ ∃ i, i < k ∧ ent s i = j + 1 := by
  unfold usedAt
  by_cases h : (List.range k).any (fun i => ent s i == j + 1) = true
  · rw [if_pos h]
    rw [List.any_eq_true] at h
    obtain ⟨i, h1, h2⟩ := h
    exact ⟨fun _ => ⟨i, by simpa using h1, by simpa using h2⟩, fun _ => by omega⟩
  · rw [if_neg h]
    refine ⟨fun h0 => by omega, fun ⟨i, h1, h2⟩ => absurd ?_ h⟩
    rw [List.any_eq_true]
    exact ⟨i, by simpa using h1, by simpa using h2⟩
/-- An entry that names no data turns nothing. -/
theorem usedTo_same {s : ByteArray} {k : Nat} (h : ent s k = 0 ∨ datas s < ent s k) : usedTo s (k + 1) = usedTo s k := by
  unfold usedTo
  refine List.map_congr_left fun j hj => ?_
  rw [usedAt_succ, if_neg]
  have : j < datas s := by simpa using hj
  omega
theorem usedTo_set {s : ByteArray} {k e : Nat} (h : ent s k = e + 1) : usedTo s (k + 1) = (usedTo s k).set e 1 := by
  unfold usedTo
  refine List.ext_getElem (by simp) fun j h1 h2 => ?_
  rw [List.getElem_set]
  simp only [List.getElem_map, List.getElem_range]
  rw [usedAt_succ]
  by_cases hj : e = j
  · rw [if_pos hj, if_pos (by omega)]
  · rw [if_neg hj, if_neg (by omega)]
theorem usedTo_getD {s : ByteArray} {k e : Nat} (he : e < datas s) : (usedTo s k).getD e 0 = usedAt s k e := by
  unfold usedTo
  simp [List.getD_eq_getElem?_getD, he]
theorem lostTo_bd (s : ByteArray) (j : Nat) : 0 ≤ lostTo s j ∧ lostTo s j ≤ j := by
  induction j with
  | zero => simp [lostTo]
  | succ j ih => rcases usedAt_01 s (many s) j with h | h <;> simp only [lostTo, h] <;> omega
theorem entOk_free {s : ByteArray} {k e : Nat} (he : ent s k = e + 1) (hn : e < datas s) (hu : usedAt s k e = 0) : entOk s k := by
  refine Or.inr (Or.inr ⟨by omega, fun j hj hje => ?_⟩)
  have : 0 < usedAt s k e := usedAt_pos.2 ⟨j, hj, by omega⟩
  omega
theorem not_entOk_used {s : ByteArray} {k e : Nat} (he : ent s k = e + 1) (h255 : e + 1 ≠ 255) (hu : 0 < usedAt s k e) : ¬ entOk s k := by
  obtain ⟨j, hj, hje⟩ := usedAt_pos.1 hu
  rintro (h | h | ⟨_, h⟩)
  · omega
  · omega
  · exact h j hj (by omega)
theorem not_entOk_high {s : ByteArray} {k : Nat} (h255 : ent s k ≠ 255) (hn : datas s < ent s k) : ¬ entOk s k := by
  rintro (h | h | ⟨h, _⟩) <;> omega
theorem not_isImage_of {s : ByteArray} {k : Nat} (hk : k < many s) (h : ¬ entOk s k) : ¬ isImage s := fun hi => h (hi.2 k hk)
theorem kindOf_data {e : Nat} (h0 : e ≠ 0) (h255 : e ≠ 255) : kindOf e = 1 := by simp [kindOf, h0, h255]
theorem blockOf_data {s : ByteArray} {e : Nat} (h0 : e ≠ 0) (h255 : e ≠ 255) : blockOf s e = s.extract (base s + 8 * (e - 1)) (base s + 8 * e) := by simp [blockOf, h0, h255]
theorem goodTo_succ {s : ByteArray} {k : Nat} (h : goodTo s k) (hk : entOk s k) : goodTo s (k + 1) := fun i hi => by
  by_cases e : i = k
  · subst e; exact hk
  · exact h i (by omega)

end Ov
end Go.Proofs.YtomiepknmmpflaaGreatDoor

/- What all walks of this seat import, and small helpers. -/
namespace Go.Proofs.YtomiepknmmpflaaGreatDoor
open Go.RowKit

theorem hide {p : Prop} (h : p) : Hid p := h
theorem unhide {p : Prop} (h : Hid p) : p := h
theorem ret_int {k : IntKind} {a b : Int} (h : a = b) : Ending.returned (.int k a) = .returned (.int k b) := by rw [h]

end Go.Proofs.YtomiepknmmpflaaGreatDoor

/- Small laws on worlds that all walks of this seat use. -/
namespace Go.Proofs.YtomiepknmmpflaaGreatDoor
open Go.RowKit Go.Joins

theorem Tryz.infoInt : (Tryz.prog.info? 3).map (fun i => (i.zero, i.size, i.bytes)) = some (some (.int .i64 0), 1, 8) := by kernel_rfl
theorem Tryz.infoString : (Tryz.prog.info? 9).map (fun i => (i.zero, i.size, i.bytes)) = some (some (.string ⟨#[]⟩), 1, 16) := by kernel_rfl

/-- A block that is no constant's: its cells, and that none is frozen. -/
theorem blk_cell {w : World} {b i : Nat} {cs : Array Value} {t : TypeId} {v : Value} (h : w.heap[b]? = some (.cells cs t (0, 0))) (hv : cs[i]? = some v) : w.cell? ⟨b, i, none⟩ = some v := by rw [cell_of_block h, hv]
theorem blk_frozen {w : World} {b : Nat} {cs : Array Value} {t : TypeId} (h : w.heap[b]? = some (.cells cs t (0, 0))) (i : Nat) : w.frozen? ⟨b, i, none⟩ = false := unfrozen_of_block h i
theorem blk_lt {w : World} {b : Nat} {o : Obj} (h : w.heap[b]? = some o) : b < w.heap.size := by
  by_cases hb : b < w.heap.size
  · exact hb
  · rw [Array.getElem?_eq_none (by omega)] at h; cases h
theorem blk_alloc {w : World} {b : Nat} {o : Obj} (h : w.heap[b]? = some o) (n : Obj) : (w.alloc n).heap[b]? = some o := by
  rw [Below.heap_alloc _ _ _ (blk_lt h)]; exact h
theorem blk_grown {w w' : World} {b : Nat} {o : Obj} {row : Option Nat} (h : w.heap[b]? = some o) (hg : w.grownBy w' row) (hne : some b ≠ row) : w'.heap[b]? = some o := by
  rw [hg.block b (blk_lt h) hne]; exact h
theorem blk_set_other {w : World} {b : Nat} {o : Obj} (h : w.heap[b]? = some o) {a : Addr} (hne : b ≠ a.block) (u : Value) : (w.setCell a u).heap[b]? = some o := by
  rw [Below.heap_setCell _ _ _ _ hne]; exact h
theorem blk_set_same {w : World} {b i : Nat} {cs : Array Value} {t : TypeId} (h : w.heap[b]? = some (.cells cs t (0, 0))) (u : Value) : (w.setCell ⟨b, i, none⟩ u).heap[b]? = some (.cells (cs.setIfInBounds i u) t (0, 0)) := block_setCell h u
theorem owns_ne {w : World} {base e size n : Nat} {v : Value} {xs : List Value} (h : w.ownsRow base e size v n xs) {b : Nat} (hb : b < base) : some b ≠ v.ownBlock := fun he => by
  have := (h.lt b he.symm).1; omega
/-- An owned row outlives a store into another block. -/
theorem owns_set {w : World} {base e size n : Nat} {v : Value} {xs : List Value} (h : w.ownsRow base e size v n xs) {a : Addr} (hne : some a.block ≠ v.ownBlock) (u : Value) : (w.setCell a u).ownsRow base e size v n xs := by
  obtain ⟨h1, h2⟩ := h
  refine ⟨h1, ?_⟩
  rcases h2 with h2 | ⟨g, cap, cur, hv, hg, hh, r⟩
  · exact Or.inl h2
  · refine Or.inr ⟨g, cap, cur, hv, hg, ?_, r⟩
    rw [Below.heap_setCell _ _ _ _ (fun e => hne (by rw [hv, ← e]; rfl))]; exact hh
theorem owns_grown {w w' : World} {base e size n : Nat} {v : Value} {xs : List Value} {row : Option Nat} (h : w.ownsRow base e size v n xs) (hg : w.grownBy w' row) (hne : v.ownBlock = none ∨ v.ownBlock ≠ row) : w'.ownsRow base e size v n xs := h.kept hg hne
/-- The form of a slice that owns its row. -/
theorem owns_slice {w : World} {base e size n : Nat} {v : Value} {xs : List Value} (h : w.ownsRow base e size v n xs) : ∃ a c, v = .slice a n c := by
  rcases h.2 with ⟨rfl, rfl⟩ | ⟨g, cap, cur, rfl, _⟩
  · exact ⟨_, _, rfl⟩
  · exact ⟨_, _, rfl⟩
/-- Rows of two element types are two. -/
theorem owns_apart {w : World} {b1 b2 e1 e2 s1 s2 n1 n2 : Nat} {v1 v2 : Value} {x1 x2 : List Value} (h1 : w.ownsRow b1 e1 s1 v1 n1 x1) (h2 : w.ownsRow b2 e2 s2 v2 n2 x2) (hne : e1 ≠ e2) : v1.ownBlock = none ∨ v1.ownBlock ≠ v2.ownBlock := by
  obtain ⟨_, h1⟩ := h1
  obtain ⟨_, h2⟩ := h2
  rcases h1 with ⟨rfl, _⟩ | ⟨g1, c1, cur1, rfl, _, hh1, _⟩
  · exact Or.inl rfl
  · rcases h2 with ⟨rfl, _⟩ | ⟨g2, c2, cur2, rfl, _, hh2, _⟩
    · exact Or.inr (by simp [Value.ownBlock])
    · refine Or.inr fun e => hne ?_
      simp only [Value.ownBlock, Option.some.injEq] at e
      rw [e, hh2] at hh1
      simp only [Option.some.injEq, Obj.cells.injEq] at hh1
      exact hh1.2.1.symm
/-- The one new cell that an append takes its element from. -/
theorem one_new {w : World} {x : Value} {t : TypeId} {b : Nat} (hb : b = w.heap.size) : ∀ (j : Nat) (u : Value), [x][j]? = some u → (w.alloc (.cells #[x] t)).cell? ((⟨b, 0, none⟩ : Addr).add j) = some u := by
  subst hb; exact cell_one_new _ _ _

end Go.Proofs.YtomiepknmmpflaaGreatDoor

/- The walks of the two functions that ask whether a text is a name. -/
namespace Go.Proofs.YtomiepknmmpflaaGreatDoor
open Go.RowKit

theorem nb_step {s : ByteArray} {k : Nat} {c : UInt8} (Hts : s.data.toList.take (k + 1) = s.data.toList.take k ++ [c]) (Hall : (s.data.toList.take k).all Ov.nameByte = true) (h : Ov.nameByte c = true) :
    (s.data.toList.take (k + 1)).all Ov.nameByte = true := by
  rw [Hts, List.all_append, Hall]; simp [h]

set_option maxHeartbeats 400000 in
theorem rIsName_calls (s : ByteArray) (w : World) :
    Calls Tryz.prog 168 #[.string s] w fun e w' => e = .returned (.bool (Ov.nameB s)) ∧ w' = w := by
  by_cases h1 : s.size < 1
  · have Hf := hide (Ov.isName_short (l := s.data.toList) (by simpa using h1))
    go_enter Tryz.func168, Tryz.ntmps168
    go_wp2
    go_ret
    exact ⟨by rw [Ov.nameB, unhide Hf]; rfl, rfl⟩
  by_cases h8 : 8 < s.size
  · have Hf := hide (Ov.isName_long (l := s.data.toList) (by simpa using h8))
    go_enter Tryz.func168, Tryz.ntmps168
    go_wp2
    go_ret
    exact ⟨by rw [Ov.nameB, unhide Hf]; rfl, rfl⟩
  go_enter Tryz.func168, Tryz.ntmps168
  go_wp2
  go_loop [3, 4] (fun i _ => ∃ k : Nat, k ≤ s.size ∧ i = .int .i64 k ∧ (s.data.toList.take k).all Ov.nameByte = true) (fun i _ => s.size - (intOf i).toNat)
  case atStart => exact ⟨0, Nat.zero_le _, rfl, rfl⟩
  case round =>
    obtain ⟨k, hk, rfl, hall⟩ := hrel
    have Hall := hide hall
    clear hall
    by_cases hlt : k < s.size
    · have Hts := hide (Ov.take_snoc s k hlt)
      have Hm := hide (Ov.mem_at s k hlt)
      have hcls : ((97 : Int) ≤ (s[k].toNat : Int) ∧ (s[k].toNat : Int) ≤ 122) ∨ ((s[k].toNat : Int) < 97 ∧ (48 : Int) ≤ (s[k].toNat : Int) ∧ (s[k].toNat : Int) ≤ 57) ∨ (122 : Int) < (s[k].toNat : Int) ∨ ((57 : Int) < (s[k].toNat : Int) ∧ (s[k].toNat : Int) < 97) ∨ (s[k].toNat : Int) < 48 := by omega
      rcases hcls with hc | hc | hc | hc | hc
      · have Hn := hide (Ov.nameByte_yes (c := s[k]) (by omega))
        go_wp2
        go_round
        case rel => exact ⟨k + 1, by omega, by go_num, nb_step (unhide Hts) (unhide Hall) (unhide Hn)⟩
        case measure => simp [intOf]; omega
      · have Hn := hide (Ov.nameByte_yes (c := s[k]) (by omega))
        go_wp2
        go_round
        case rel => exact ⟨k + 1, by omega, by go_num, nb_step (unhide Hts) (unhide Hall) (unhide Hn)⟩
        case measure => simp [intOf]; omega
      · have Hend := hide (Ov.isName_bad (l := s.data.toList) (unhide Hm) (Ov.nameByte_no (c := s[k]) (by omega)))
        have d1 : decide ((s[k].toNat : Int) ≤ 122) = false := decide_eq_false (by omega)
        have d2 : decide ((s[k].toNat : Int) ≤ 57) = false := decide_eq_false (by omega)
        go_wp2
        go_ret
        exact ⟨by rw [Ov.nameB, unhide Hend]; rfl, rfl⟩
      · have Hend := hide (Ov.isName_bad (l := s.data.toList) (unhide Hm) (Ov.nameByte_no (c := s[k]) (by omega)))
        have d2 : decide ((s[k].toNat : Int) ≤ 57) = false := decide_eq_false (by omega)
        go_wp2
        go_ret
        exact ⟨by rw [Ov.nameB, unhide Hend]; rfl, rfl⟩
      · have Hend := hide (Ov.isName_bad (l := s.data.toList) (unhide Hm) (Ov.nameByte_no (c := s[k]) (by omega)))
        go_wp2
        go_ret
        exact ⟨by rw [Ov.nameB, unhide Hend]; rfl, rfl⟩
    · have Hend := hide (Ov.isName_all (l := s.data.toList) (by simp; omega) (by simp; omega) (by have := unhide Hall; rw [List.take_of_length_le (by simp; omega)] at this; exact this))
      go_wp2
      go_ret
      exact ⟨by rw [Ov.nameB, unhide Hend]; rfl, rfl⟩

set_option maxHeartbeats 400000 in
theorem oisName_calls (s : ByteArray) (w : World) :
    Calls Tryz.prog 64 #[.string s] w fun e w' => e = .returned (.bool (Ov.nameB s)) ∧ w' = w := by
  by_cases h1 : s.size < 1
  · have Hf := hide (Ov.isName_short (l := s.data.toList) (by simpa using h1))
    go_enter Tryz.func64, Tryz.ntmps64
    go_wp2
    go_ret
    exact ⟨by rw [Ov.nameB, unhide Hf]; rfl, rfl⟩
  by_cases h8 : 8 < s.size
  · have Hf := hide (Ov.isName_long (l := s.data.toList) (by simpa using h8))
    go_enter Tryz.func64, Tryz.ntmps64
    go_wp2
    go_ret
    exact ⟨by rw [Ov.nameB, unhide Hf]; rfl, rfl⟩
  go_enter Tryz.func64, Tryz.ntmps64
  go_wp2
  go_loop [15, 3, 4] (fun i _ _ => ∃ k : Nat, k ≤ s.size ∧ i = .int .i64 k ∧ (s.data.toList.take k).all Ov.nameByte = true) (fun i _ _ => s.size - (intOf i).toNat)
  case atStart => exact ⟨0, Nat.zero_le _, rfl, rfl⟩
  case round =>
    obtain ⟨k, hk, rfl, hall⟩ := hrel
    have Hall := hide hall
    clear hall
    by_cases hlt : k < s.size
    · have Hts := hide (Ov.take_snoc s k hlt)
      have Hm := hide (Ov.mem_at s k hlt)
      have hcls : ((97 : Int) ≤ (s[k].toNat : Int) ∧ (s[k].toNat : Int) ≤ 122) ∨ ((s[k].toNat : Int) < 97 ∧ (48 : Int) ≤ (s[k].toNat : Int) ∧ (s[k].toNat : Int) ≤ 57) ∨ (122 : Int) < (s[k].toNat : Int) ∨ ((57 : Int) < (s[k].toNat : Int) ∧ (s[k].toNat : Int) < 97) ∨ (s[k].toNat : Int) < 48 := by omega
      rcases hcls with hc | hc | hc | hc | hc
      · have Hn := hide (Ov.nameByte_yes (c := s[k]) (by omega))
        go_wp2
        go_round
        case rel => exact ⟨k + 1, by omega, by go_num, nb_step (unhide Hts) (unhide Hall) (unhide Hn)⟩
        case measure => simp [intOf]; omega
      · have Hn := hide (Ov.nameByte_yes (c := s[k]) (by omega))
        go_wp2
        go_round
        case rel => exact ⟨k + 1, by omega, by go_num, nb_step (unhide Hts) (unhide Hall) (unhide Hn)⟩
        case measure => simp [intOf]; omega
      · have Hend := hide (Ov.isName_bad (l := s.data.toList) (unhide Hm) (Ov.nameByte_no (c := s[k]) (by omega)))
        have d1 : decide ((s[k].toNat : Int) ≤ 122) = false := decide_eq_false (by omega)
        have d2 : decide ((s[k].toNat : Int) ≤ 57) = false := decide_eq_false (by omega)
        go_wp2
        go_ret
        exact ⟨by rw [Ov.nameB, unhide Hend]; rfl, rfl⟩
      · have Hend := hide (Ov.isName_bad (l := s.data.toList) (unhide Hm) (Ov.nameByte_no (c := s[k]) (by omega)))
        have d2 : decide ((s[k].toNat : Int) ≤ 57) = false := decide_eq_false (by omega)
        go_wp2
        go_ret
        exact ⟨by rw [Ov.nameB, unhide Hend]; rfl, rfl⟩
      · have Hend := hide (Ov.isName_bad (l := s.data.toList) (unhide Hm) (Ov.nameByte_no (c := s[k]) (by omega)))
        go_wp2
        go_ret
        exact ⟨by rw [Ov.nameB, unhide Hend]; rfl, rfl⟩
    · have Hend := hide (Ov.isName_all (l := s.data.toList) (by simp; omega) (by simp; omega) (by have := unhide Hall; rw [List.take_of_length_le (by simp; omega)] at this; exact this))
      go_wp2
      go_ret
      exact ⟨by rw [Ov.nameB, unhide Hend]; rfl, rfl⟩

end Go.Proofs.YtomiepknmmpflaaGreatDoor

/- The walk of the reference's Decimal, for numbers below a hundred. -/
namespace Go.Proofs.YtomiepknmmpflaaGreatDoor
open Go.RowKit Go.Joins

def digits : ByteArray := ⟨#[48, 49, 50, 51, 52, 53, 54, 55, 56, 57]⟩
/-- The digits of a number below a hundred. -/
def dec (n : Nat) : ByteArray := if n < 10 then ⟨#[UInt8.ofNat (48 + n)]⟩ else ⟨#[UInt8.ofNat (48 + n / 10), UInt8.ofNat (48 + n % 10)]⟩
theorem dec1 : ∀ n : Fin 10, digits.extract n.val (n.val + 1) = ⟨#[UInt8.ofNat (48 + n.val)]⟩ := by decide +kernel
theorem dec_small {n : Nat} (h : n < 10) : digits.extract n (n + 1) ++ ⟨#[]⟩ = dec n := by
  rw [dec1 ⟨n, h⟩]
  unfold dec; rw [if_pos h]; rfl
theorem dec_large {n : Nat} (h1 : 10 ≤ n) (h2 : n < 100) : digits.extract (n / 10) (n / 10 + 1) ++ (digits.extract (n % 10) (n % 10 + 1) ++ ⟨#[]⟩) = dec n := by
  rw [dec1 ⟨n / 10, by omega⟩, dec1 ⟨n % 10, by omega⟩]
  unfold dec; rw [if_neg (by omega)]; rfl
theorem digits_size : digits.size = 10 := rfl
theorem dec_size (n : Nat) : (dec n).size ≤ 2 := by unfold dec; split <;> simp [ByteArray.size]

set_option maxRecDepth 100000 in
set_option maxHeartbeats 400000 in
theorem rDecimal_calls (n : Nat) (w : World) (hn : n < 100) : Calls Tryz.prog 170 #[.int .i64 n] w fun e w' => e = .returned (.string (dec n)) ∧ w = w' := by
  by_cases h : n < 10
  · have Hd := hide (dec_small h)
    go_enter Tryz.func170, Tryz.ntmps170
    go_wp2
    go_loop [0, 3, 4] (fun i s _ => i = .int .i64 n ∧ s = .string ⟨#[]⟩) (fun _ _ _ => 0)
    case atStart => exact ⟨rfl, rfl⟩
    case round =>
      obtain ⟨rfl, rfl⟩ := hrel
      go_wp2
      go_ret
      exact ⟨by rw [← unhide Hd]; rfl, rfl⟩
  · have Hd := hide (dec_large (by omega) hn)
    go_enter Tryz.func170, Tryz.ntmps170
    go_wp2
    go_loop [0, 3, 4] (fun i s _ => (i = .int .i64 n ∧ s = .string ⟨#[]⟩) ∨ (i = .int .i64 (n / 10 : Nat) ∧ s = .string (digits.extract (n % 10) (n % 10 + 1) ++ ⟨#[]⟩))) (fun i _ _ => (intOf i).toNat)
    case atStart => exact Or.inl ⟨rfl, rfl⟩
    case round =>
      rcases hrel with ⟨rfl, rfl⟩ | ⟨rfl, rfl⟩
      · go_wp2
        go_round
        case rel => exact Or.inr ⟨by go_num, rfl⟩
        case measure => simp [intOf]; omega
      · have hsz : (digits.extract (n % 10) (n % 10 + 1) ++ ⟨#[]⟩).size ≤ 10 := by
          rw [ByteArray.size_append, ByteArray.size_extract, digits_size]; simp [ByteArray.size]; omega
        obtain ⟨t, ht⟩ : ∃ t, digits.extract (n % 10) (n % 10 + 1) ++ ⟨#[]⟩ = t := ⟨_, rfl⟩
        obtain ⟨q, hq⟩ : ∃ q, n / 10 = q := ⟨_, rfl⟩
        rw [ht] at hsz Hd ⊢
        rw [hq] at Hd ⊢
        have hq1 : 1 ≤ q := by omega
        have hq9 : q ≤ 9 := by omega
        clear ht hq h hn
        go_wp2
        go_ret
        exact ⟨by rw [← unhide Hd]; rfl, rfl⟩

/-- The same over any number in range, and its text by a name. -/
theorem rDecimal_is {n : Int} {t : ByteArray} (h0 : 0 ≤ n) (h1 : n < 100) (ht : dec n.toNat = t) (w : World) : Calls Tryz.prog 170 #[.int .i64 n] w fun e w' => e = .returned (.string t) ∧ w' = w := by
  obtain ⟨k, rfl⟩ := Int.eq_ofNat_of_zero_le h0
  subst ht
  refine (rDecimal_calls k w (by omega)).mono ?_
  rintro e w' ⟨rfl, rfl⟩
  exact ⟨rfl, rfl⟩

end Go.Proofs.YtomiepknmmpflaaGreatDoor
