/- The plain functions of the document: names, images, stores, over lists of bytes. Imports nothing of the program. -/

namespace Go.Proofs.YtomiepknmmpflaaGreatDoor
namespace Ov

/-- A byte of a name. -/
def nameByte (c : UInt8) : Bool := (97 ≤ c && c ≤ 122) || (48 ≤ c && c ≤ 57)
/-- Is it a name? -/
def isName (l : List UInt8) : Bool := decide (1 ≤ l.length) && (decide (l.length ≤ 8) && l.all nameByte)

/-- Of a text as it lies in the model. -/
def nameB (s : ByteArray) : Bool := isName s.data.toList
theorem isName_short {l : List UInt8} (h : l.length < 1) : isName l = false := by
  unfold isName; rw [decide_eq_false (by omega)]; rfl
theorem isName_long {l : List UInt8} (h : 8 < l.length) : isName l = false := by
  unfold isName; rw [decide_eq_false (p := l.length ≤ 8) (by omega)]; simp
theorem isName_all {l : List UInt8} (h1 : 1 ≤ l.length) (h2 : l.length ≤ 8) (h : l.all nameByte = true) : isName l = true := by
  unfold isName; rw [decide_eq_true h1, decide_eq_true h2, h]; rfl
theorem isName_bad {l : List UInt8} {c : UInt8} (hc : c ∈ l) (h : nameByte c = false) : isName l = false := by
  have : l.all nameByte = false := by
    rw [List.all_eq_false]; exact ⟨c, hc, by simp [h]⟩
  unfold isName; rw [this]; simp
theorem nameByte_yes {c : UInt8} (h : ((97 : Int) ≤ (c.toNat : Int) ∧ (c.toNat : Int) ≤ 122) ∨ ((48 : Int) ≤ (c.toNat : Int) ∧ (c.toNat : Int) ≤ 57)) : nameByte c = true := by
  unfold nameByte
  rw [Bool.or_eq_true, Bool.and_eq_true, Bool.and_eq_true, decide_eq_true_iff, decide_eq_true_iff, decide_eq_true_iff, decide_eq_true_iff, UInt8.le_iff_toNat_le, UInt8.le_iff_toNat_le, UInt8.le_iff_toNat_le, UInt8.le_iff_toNat_le]
  show (97 ≤ _ ∧ _ ≤ 122) ∨ (48 ≤ _ ∧ _ ≤ 57)
  omega
theorem nameByte_no {c : UInt8} (h : ¬ (((97 : Int) ≤ (c.toNat : Int) ∧ (c.toNat : Int) ≤ 122) ∨ ((48 : Int) ≤ (c.toNat : Int) ∧ (c.toNat : Int) ≤ 57))) : nameByte c = false := by
  rw [← Bool.not_eq_true]
  unfold nameByte
  rw [Bool.or_eq_true, Bool.and_eq_true, Bool.and_eq_true, decide_eq_true_iff, decide_eq_true_iff, decide_eq_true_iff, decide_eq_true_iff, UInt8.le_iff_toNat_le, UInt8.le_iff_toNat_le, UInt8.le_iff_toNat_le, UInt8.le_iff_toNat_le]
  show ¬ ((97 ≤ _ ∧ _ ≤ 122) ∨ (48 ≤ _ ∧ _ ≤ 57))
  omega
/-- The first bytes of a text, one more. -/
theorem take_snoc (s : ByteArray) (k : Nat) (h : k < s.size) : s.data.toList.take (k + 1) = s.data.toList.take k ++ [s[k]] := by
  rw [List.take_succ_eq_append_getElem (by simpa using h)]; rfl
theorem mem_at (s : ByteArray) (k : Nat) (h : k < s.size) : s[k] ∈ s.data.toList := by
  have : s[k] = s.data.toList[k]'(by simpa using h) := rfl
  rw [this]; exact List.getElem_mem _

/-- A byte of a text, as a number; 0 behind its end. -/
def byteAt (s : ByteArray) (k : Nat) : Nat := (s.data.toList.getD k 0).toNat
theorem byteAt_lt (s : ByteArray) (k : Nat) : byteAt s k < 256 := UInt8.toNat_lt _
theorem byteAt_eq (s : ByteArray) (k : Nat) (h : k < s.size) : (s[k]'h).toNat = byteAt s k := by
  unfold byteAt
  rw [List.getD_eq_getElem?_getD, List.getElem?_eq_getElem (by simpa using h)]
  rfl

/- AN IMAGE's FILE, by its parts. -/
def many (s : ByteArray) : Nat := byteAt s 3
def long (s : ByteArray) : Nat := byteAt s 4
def backing (s : ByteArray) : ByteArray := s.extract 5 (5 + long s)
def datas (s : ByteArray) : Nat := byteAt s (5 + long s + many s)
def base (s : ByteArray) : Nat := 5 + long s + many s + 1
def ent (s : ByteArray) (i : Nat) : Nat := byteAt s (5 + long s + i)
/-- All that is asked of a file but for its entries. -/
def headOk (s : ByteArray) : Prop := 5 ≤ s.size ∧ byteAt s 0 = 79 ∧ byteAt s 1 = 86 ∧ byteAt s 2 = 1 ∧ 1 ≤ many s ∧ many s ≤ 30 ∧ long s ≤ 8 ∧ base s ≤ s.size ∧ (0 < long s → nameB (backing s) = true) ∧ datas s ≤ 60 ∧ s.size = base s + 8 * datas s
/-- One entry beside those ahead of it. -/
def entOk (s : ByteArray) (k : Nat) : Prop := ent s k = 0 ∨ ent s k = 255 ∨ (ent s k ≤ datas s ∧ ∀ j, j < k → ent s j ≠ ent s k)
def goodTo (s : ByteArray) (k : Nat) : Prop := ∀ i, i < k → entOk s i
def isImage (s : ByteArray) : Prop := headOk s ∧ goodTo s (many s)

/- What an image's entries tell: of each its kind (0 open, 255 zero, 1 data) and its bytes; which data clusters are named; how many are lost. -/
def kindOf (e : Nat) : Int := if e = 0 then 0 else if e = 255 then 255 else 1
def blockOf (s : ByteArray) (e : Nat) : ByteArray := if e = 0 ∨ e = 255 then ⟨#[]⟩ else s.extract (base s + 8 * (e - 1)) (base s + 8 * e)
def kindsTo (s : ByteArray) (k : Nat) : List Int := (List.range k).map fun i => kindOf (ent s i)
def blocksTo (s : ByteArray) (k : Nat) : List ByteArray := (List.range k).map fun i => blockOf s (ent s i)
def usedAt (s : ByteArray) (k j : Nat) : Int := if (List.range k).any (fun i => ent s i == j + 1) then 1 else 0
def usedTo (s : ByteArray) (k : Nat) : List Int := (List.range (datas s)).map fun j => usedAt s k j
def lostTo (s : ByteArray) : Nat → Int
  | 0 => 0
  | j + 1 => lostTo s j + 1 - usedAt s (many s) j
def lost (s : ByteArray) : Int := lostTo s (datas s)

theorem kindsTo_succ (s : ByteArray) (k : Nat) : kindsTo s (k + 1) = kindsTo s k ++ [kindOf (ent s k)] := by simp [kindsTo, List.range_succ]
theorem blocksTo_succ (s : ByteArray) (k : Nat) : blocksTo s (k + 1) = blocksTo s k ++ [blockOf s (ent s k)] := by simp [blocksTo, List.range_succ]
theorem kindsTo_length (s : ByteArray) (k : Nat) : (kindsTo s k).length = k := by simp [kindsTo]
theorem blocksTo_length (s : ByteArray) (k : Nat) : (blocksTo s k).length = k := by simp [blocksTo]
theorem usedTo_length (s : ByteArray) (k : Nat) : (usedTo s k).length = datas s := by simp [usedTo]
theorem usedAt_succ (s : ByteArray) (k j : Nat) : usedAt s (k + 1) j = if ent s k = j + 1 then 1 else usedAt s k j := by
  unfold usedAt
  rw [List.range_succ, List.any_append]
  by_cases h : ent s k = j + 1 <;> simp [h]
theorem usedAt_01 (s : ByteArray) (k j : Nat) : usedAt s k j = 0 ∨ usedAt s k j = 1 := by
  unfold usedAt; split <;> simp
theorem usedAt_pos {s : ByteArray} {k j : Nat} : 0 < usedAt s k j ↔ ∃ i, i < k ∧ ent s i = j + 1 := by
  unfold usedAt
  by_cases h : (List.range k).any (fun i => ent s i == j + 1) = true
  · rw [if_pos h]
    rw [List.any_eq_true] at h
    obtain ⟨i, h1, h2⟩ := h
    exact ⟨fun _ => ⟨i, by simpa using h1, by simpa using h2⟩, fun _ => by omega⟩
  · rw [if_neg h]
    refine ⟨fun h0 => by omega, fun ⟨i, h1, h2⟩ => absurd ?_ h⟩
    rw [List.any_eq_true]
    exact ⟨i, by simpa using h1, by simpa using h2⟩
/-- An entry that names no data turns nothing. -/
theorem usedTo_same {s : ByteArray} {k : Nat} (h : ent s k = 0 ∨ datas s < ent s k) : usedTo s (k + 1) = usedTo s k := by
  unfold usedTo
  refine List.map_congr_left fun j hj => ?_
  rw [usedAt_succ, if_neg]
  have : j < datas s := by simpa using hj
  omega
theorem usedTo_set {s : ByteArray} {k e : Nat} (h : ent s k = e + 1) : usedTo s (k + 1) = (usedTo s k).set e 1 := by
  unfold usedTo
  refine List.ext_getElem (by simp) fun j h1 h2 => ?_
  rw [List.getElem_set]
  simp only [List.getElem_map, List.getElem_range]
  rw [usedAt_succ]
  by_cases hj : e = j
  · rw [if_pos hj, if_pos (by omega)]
  · rw [if_neg hj, if_neg (by omega)]
theorem usedTo_getD {s : ByteArray} {k e : Nat} (he : e < datas s) : (usedTo s k).getD e 0 = usedAt s k e := by
  unfold usedTo
  simp [List.getD_eq_getElem?_getD, he]
theorem lostTo_bd (s : ByteArray) (j : Nat) : 0 ≤ lostTo s j ∧ lostTo s j ≤ j := by
  induction j with
  | zero => simp [lostTo]
  | succ j ih => rcases usedAt_01 s (many s) j with h | h <;> simp only [lostTo, h] <;> omega
theorem entOk_free {s : ByteArray} {k e : Nat} (he : ent s k = e + 1) (hn : e < datas s) (hu : usedAt s k e = 0) : entOk s k := by
  refine Or.inr (Or.inr ⟨by omega, fun j hj hje => ?_⟩)
  have : 0 < usedAt s k e := usedAt_pos.2 ⟨j, hj, by omega⟩
  omega
theorem not_entOk_used {s : ByteArray} {k e : Nat} (he : ent s k = e + 1) (h255 : e + 1 ≠ 255) (hu : 0 < usedAt s k e) : ¬ entOk s k := by
  obtain ⟨j, hj, hje⟩ := usedAt_pos.1 hu
  rintro (h | h | ⟨_, h⟩)
  · omega
  · omega
  · exact h j hj (by omega)
theorem not_entOk_high {s : ByteArray} {k : Nat} (h255 : ent s k ≠ 255) (hn : datas s < ent s k) : ¬ entOk s k := by
  rintro (h | h | ⟨h, _⟩) <;> omega
theorem not_isImage_of {s : ByteArray} {k : Nat} (hk : k < many s) (h : ¬ entOk s k) : ¬ isImage s := fun hi => h (hi.2 k hk)
theorem kindOf_data {e : Nat} (h0 : e ≠ 0) (h255 : e ≠ 255) : kindOf e = 1 := by simp [kindOf, h0, h255]
theorem blockOf_data {s : ByteArray} {e : Nat} (h0 : e ≠ 0) (h255 : e ≠ 255) : blockOf s e = s.extract (base s + 8 * (e - 1)) (base s + 8 * e) := by simp [blockOf, h0, h255]
theorem goodTo_succ {s : ByteArray} {k : Nat} (h : goodTo s k) (hk : entOk s k) : goodTo s (k + 1) := fun i hi => by
  by_cases e : i = k
  · subst e; exact hk
  · exact h i (by omega)

end Ov
end Go.Proofs.YtomiepknmmpflaaGreatDoor
