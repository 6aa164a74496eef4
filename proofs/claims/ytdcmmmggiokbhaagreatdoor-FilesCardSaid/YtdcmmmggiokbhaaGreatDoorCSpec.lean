/- The plain functions of the document: names, images, stores, over lists of bytes. Imports nothing of the program. -/

namespace Go.Proofs.YtdcmmmggiokbhaaGreatDoor
namespace Ov

/-- A byte of a name. -/
def nameByte (c : UInt8) : Bool := (97 ≤ c && c ≤ 122) || (48 ≤ c && c ≤ 57)
/-- Is it a name? -/
def isName (l : List UInt8) : Bool := decide (1 ≤ l.length) && (decide (l.length ≤ 8) && l.all nameByte)

/-- Of a text as it lies in the model. -/
def nameB (s : ByteArray) : Bool := isName s.data.toList
theorem isName_short {l : List UInt8} (h : l.length < 1) : isName l = false := by
  unfold isName; rw [decide_eq_false (by omega)]; rfl
theorem isName_long {l : List UInt8} (h : 8 < l.length) : isName l = false := by
  unfold isName; rw [decide_eq_false (p := l.length ≤ 8) (by omega)]; simp
theorem isName_all {l : List UInt8} (h1 : 1 ≤ l.length) (h2 : l.length ≤ 8) (h : l.all nameByte = true) : isName l = true := by
  unfold isName; rw [decide_eq_true h1, decide_eq_true h2, h]; rfl
theorem isName_bad {l : List UInt8} {c : UInt8} (hc : c ∈ l) (h : nameByte c = false) : isName l = false := by
  have : l.all nameByte = false := by
    rw [List.all_eq_false]; exact ⟨c, hc, by simp [h]⟩
  unfold isName; rw [this]; simp
theorem nameByte_yes {c : UInt8} (h : ((97 : Int) ≤ (c.toNat : Int) ∧ (c.toNat : Int) ≤ 122) ∨ ((48 : Int) ≤ (c.toNat : Int) ∧ (c.toNat : Int) ≤ 57)) : nameByte c = true := by
  unfold nameByte
  rw [Bool.or_eq_true, Bool.and_eq_true, Bool.and_eq_true, decide_eq_true_iff, decide_eq_true_iff, decide_eq_true_iff, decide_eq_true_iff, UInt8.le_iff_toNat_le, UInt8.le_iff_toNat_le, UInt8.le_iff_toNat_le, UInt8.le_iff_toNat_le]
  show (97 ≤ _ ∧ _ ≤ 122) ∨ (48 ≤ _ ∧ _ ≤ 57)
  omega
theorem nameByte_no {c : UInt8} (h : ¬ (((97 : Int) ≤ (c.toNat : Int) ∧ (c.toNat : Int) ≤ 122) ∨ ((48 : Int) ≤ (c.toNat : Int) ∧ (c.toNat : Int) ≤ 57))) : nameByte c = false := by
  rw [← Bool.not_eq_true]
  unfold nameByte
  rw [Bool.or_eq_true, Bool.and_eq_true, Bool.and_eq_true, decide_eq_true_iff, decide_eq_true_iff, decide_eq_true_iff, decide_eq_true_iff, UInt8.le_iff_toNat_le, UInt8.le_iff_toNat_le, UInt8.le_iff_toNat_le, UInt8.le_iff_toNat_le]
  show ¬ ((97 ≤ _ ∧ _ ≤ 122) ∨ (48 ≤ _ ∧ _ ≤ 57))
  omega
/-- The first bytes of a text, one more. -/
theorem take_snoc (s : ByteArray) (k : Nat) (h : k < s.size) : s.data.toList.take (k + 1) = s.data.toList.take k ++ [s[k]] := by
  rw [List.take_succ_eq_append_getElem (by simpa using h)]; rfl
theorem mem_at (s : ByteArray) (k : Nat) (h : k < s.size) : s[k] ∈ s.data.toList := by
  have : s[k] = s.data.toList[k]'(by simpa using h) := rfl
  rw [this]; exact List.getElem_mem _

/-- A byte of a text, as a number; 0 behind its end. -/
def byteAt (s : ByteArray) (k : Nat) : Nat := (s.data.toList.getD k 0).toNat
theorem byteAt_lt (s : ByteArray) (k : Nat) : byteAt s k < 256 := UInt8.toNat_lt _
theorem byteAt_eq (s : ByteArray) (k : Nat) (h : k < s.size) : (s[k]'h).toNat = byteAt s k := by
  unfold byteAt
  rw [List.getD_eq_getElem?_getD, List.getElem?_eq_getElem (by simpa using h)]
  rfl

/- AN IMAGE's FILE, by its parts. -/
def many (s : ByteArray) : Nat := byteAt s 3
def long (s : ByteArray) : Nat := byteAt s 4
def backing (s : ByteArray) : ByteArray := s.extract 5 (5 + long s)
def datas (s : ByteArray) : Nat := byteAt s (5 + long s + many s)
def base (s : ByteArray) : Nat := 5 + long s + many s + 1
def ent (s : ByteArray) (i : Nat) : Nat := byteAt s (5 + long s + i)
/-- All that is asked of a file but for its entries. -/
def headOk (s : ByteArray) : Prop := 5 ≤ s.size ∧ byteAt s 0 = 79 ∧ byteAt s 1 = 86 ∧ byteAt s 2 = 1 ∧ 1 ≤ many s ∧ many s ≤ 30 ∧ long s ≤ 8 ∧ base s ≤ s.size ∧ (0 < long s → nameB (backing s) = true) ∧ datas s ≤ 60 ∧ s.size = base s + 8 * datas s
/-- One entry beside those ahead of it. -/
def entOk (s : ByteArray) (k : Nat) : Prop := ent s k = 0 ∨ ent s k = 255 ∨ (ent s k ≤ datas s ∧ ∀ j, j < k → ent s j ≠ ent s k)
def goodTo (s : ByteArray) (k : Nat) : Prop := ∀ i, i < k → entOk s i
def isImage (s : ByteArray) : Prop := headOk s ∧ goodTo s (many s)

/- What an image's entries tell: of each its kind (0 open, 255 zero, 1 data) and its bytes; which data clusters are named; how many are lost. -/
def kindOf (e : Nat) : Int := if e = 0 then 0 else if e = 255 then 255 else 1
def blockOf (s : ByteArray) (e : Nat) : ByteArray := if e = 0 ∨ e = 255 then ⟨#[]⟩ else s.extract (base s + 8 * (e - 1)) (base s + 8 * e)
def kindsTo (s : ByteArray) (k : Nat) : List Int := (List.range k).map fun i => kindOf (ent s i)
def blocksTo (s : ByteArray) (k : Nat) : List ByteArray := (List.range k).map fun i => blockOf s (ent s i)
def usedAt (s : ByteArray) (k j : Nat) : Int := if (List.range k).any (fun i => ent s i == j + 1) then 1 else 0
def usedTo (s : ByteArray) (k : Nat) : List Int := (List.range (datas s)).map fun j => usedAt s k j
def lostTo (s : ByteArray) : Nat → Int
  | 0 => 0
  | j + 1 => lostTo s j + 1 - usedAt s (many s) j
def lost (s : ByteArray) : Int := lostTo s (datas s)

theorem kindsTo_succ (s : ByteArray) (k : Nat) : kindsTo s (k + 1) = kindsTo s k ++ [kindOf (ent s k)] := by simp [kindsTo, List.range_succ]
theorem blocksTo_succ (s : ByteArray) (k : Nat) : blocksTo s (k + 1) = blocksTo s k ++ [blockOf s (ent s k)] := by simp [blocksTo, List.range_succ]
theorem kindsTo_length (s : ByteArray) (k : Nat) : (kindsTo s k).length = k := by simp [kindsTo]
theorem blocksTo_length (s : ByteArray) (k : Nat) : (blocksTo s k).length = k := by simp [blocksTo]
theorem usedTo_length (s : ByteArray) (k : Nat) : (usedTo s k).length = datas s := by simp [usedTo]
theorem usedAt_succ (s : ByteArray) (k j : Nat) : usedAt s (k + 1) j = if ent s k = j + 1 then 1 else usedAt s k j := by
  unfold usedAt
  rw [List.range_succ, List.any_append]
  by_cases h : ent s k = j + 1 <;> simp [h]
theorem usedAt_01 (s : ByteArray) (k j : Nat) : usedAt s k j = 0 ∨ usedAt s k j = 1 := by
  unfold usedAt; split <;> simp
theorem usedAt_pos {s : ByteArray} {k j : Nat} : 0 < usedAt s k j ↔ ∃ i, i < k ∧ ent s i = j + 1 := by
  unfold usedAt
  by_cases h : (List.range k).any (fun i => ent s i == j + 1) = true
  · rw [if_pos h]
    rw [List.any_eq_true] at h
    obtain ⟨i, h1, h2⟩ := h
    exact ⟨fun _ => ⟨i, by simpa using h1, by simpa using h2⟩, fun _ => by omega⟩
  · rw [if_neg h]
    refine ⟨fun h0 => by omega, fun ⟨i, h1, h2⟩ => absurd ?_ h⟩
    rw [List.any_eq_true]
    exact ⟨i, by simpa using h1, by simpa using h2⟩
/-- An entry that names no data turns nothing. -/
theorem usedTo_same {s : ByteArray} {k : Nat} (h : ent s k = 0 ∨ datas s < ent s k) : usedTo s (k + 1) = usedTo s k := by
  unfold usedTo
  refine List.map_congr_left fun j hj => ?_
  rw [usedAt_succ, if_neg]
  have : j < datas s := by simpa using hj
  omega
theorem usedTo_set {s : ByteArray} {k e : Nat} (h : ent s k = e + 1) : usedTo s (k + 1) = (usedTo s k).set e 1 := by
  unfold usedTo
  refine List.ext_getElem (by simp) fun j h1 h2 => ?_
  rw [List.getElem_set]
  simp only [List.getElem_map, List.getElem_range]
  rw [usedAt_succ]
  by_cases hj : e = j
  · rw [if_pos hj, if_pos (by omega)]
  · rw [if_neg hj, if_neg (by omega)]
theorem usedTo_getD {s : ByteArray} {k e : Nat} (he : e < datas s) : (usedTo s k).getD e 0 = usedAt s k e := by
  unfold usedTo
  simp [List.getD_eq_getElem?_getD, he]
theorem lostTo_bd (s : ByteArray) (j : Nat) : 0 ≤ lostTo s j ∧ lostTo s j ≤ j := by
  induction j with
  | zero => simp [lostTo]
  | succ j ih => rcases usedAt_01 s (many s) j with h | h <;> simp only [lostTo, h] <;> omega
theorem entOk_free {s : ByteArray} {k e : Nat} (he : ent s k = e + 1) (hn : e < datas s) (hu : usedAt s k e = 0) : entOk s k := by
  refine Or.inr (Or.inr ⟨by omega, fun j hj hje => ?_⟩)
  have : 0 < usedAt s k e := usedAt_pos.2 ⟨j, hj, by omega⟩
  omega
theorem not_entOk_used {s : ByteArray} {k e : Nat} (he : ent s k = e + 1) (h255 : e + 1 ≠ 255) (hu : 0 < usedAt s k e) : ¬ entOk s k := by
  obtain ⟨j, hj, hje⟩ := usedAt_pos.1 hu
  rintro (h | h | ⟨_, h⟩)
  · omega
  · omega
  · exact h j hj (by omega)
theorem not_entOk_high {s : ByteArray} {k : Nat} (h255 : ent s k ≠ 255) (hn : datas s < ent s k) : ¬ entOk s k := by
  rintro (h | h | ⟨h, _⟩) <;> omega
theorem not_isImage_of {s : ByteArray} {k : Nat} (hk : k < many s) (h : ¬ entOk s k) : ¬ isImage s := fun hi => h (hi.2 k hk)
theorem kindOf_data {e : Nat} (h0 : e ≠ 0) (h255 : e ≠ 255) : kindOf e = 1 := by simp [kindOf, h0, h255]
theorem blockOf_data {s : ByteArray} {e : Nat} (h0 : e ≠ 0) (h255 : e ≠ 255) : blockOf s e = s.extract (base s + 8 * (e - 1)) (base s + 8 * e) := by simp [blockOf, h0, h255]
theorem goodTo_succ {s : ByteArray} {k : Nat} (h : goodTo s k) (hk : entOk s k) : goodTo s (k + 1) := fun i hi => by
  by_cases e : i = k
  · subst e; exact hk
  · exact h i (by omega)

end Ov
end Go.Proofs.YtdcmmmggiokbhaaGreatDoor

/- The plain functions of a store's files. -/
namespace Go.Proofs.YtdcmmmggiokbhaaGreatDoor
namespace Ov

/- FILES, by their names, in their order. -/
abbrev Files := List (ByteArray × ByteArray)
def nameAt (l : Files) (k : Nat) : ByteArray := (l.getD k (⟨#[]⟩, ⟨#[]⟩)).1
def fileAt (l : Files) (k : Nat) : ByteArray := (l.getD k (⟨#[]⟩, ⟨#[]⟩)).2
/-- The place of a file; how many there are, if there is none of this name. -/
def place : Files → ByteArray → Nat
  | [], _ => 0
  | f :: l, x => if f.1 = x then 0 else place l x + 1
def has (l : Files) (x : ByteArray) : Bool := decide (place l x < l.length)
theorem place_le (l : Files) (x : ByteArray) : place l x ≤ l.length := by
  induction l with
  | nil => simp [place]
  | cons f l ih => unfold place; split <;> simp <;> omega
theorem place_ne {l : Files} {x : ByteArray} {k : Nat} (h : ∀ j, j < k → nameAt l j ≠ x) (hk : k ≤ l.length) : k ≤ place l x := by
  induction l generalizing k with
  | nil => simpa [place] using hk
  | cons f l ih =>
    cases k with
    | zero => omega
    | succ k =>
      have h0 : f.1 ≠ x := by simpa [nameAt] using h 0 (by omega)
      unfold place
      rw [if_neg h0]
      have := ih (k := k) (fun j hj => by simpa [nameAt] using h (j + 1) (by omega)) (by simpa using hk)
      omega
theorem place_eq {l : Files} {x : ByteArray} {k : Nat} (h : ∀ j, j < k → nameAt l j ≠ x) (hk : k < l.length) (hx : nameAt l k = x) : place l x = k := by
  induction l generalizing k with
  | nil => simp at hk
  | cons f l ih =>
    cases k with
    | zero => unfold place; rw [if_pos (by simpa [nameAt] using hx)]
    | succ k =>
      have h0 : f.1 ≠ x := by simpa [nameAt] using h 0 (by omega)
      unfold place
      rw [if_neg h0, ih (k := k) (fun j hj => by simpa [nameAt] using h (j + 1) (by omega)) (by simpa using hk) (by simpa [nameAt] using hx)]
theorem place_name {l : Files} {x : ByteArray} (h : place l x < l.length) : nameAt l (place l x) = x := by
  induction l with
  | nil => simp at h
  | cons f l ih =>
    by_cases e : f.1 = x
    · simp [place, e, nameAt]
    · have : place (f :: l) x = place l x + 1 := by rw [place, if_neg e]
      rw [this] at h ⊢
      simpa [nameAt] using ih (by simpa using h)
/-- Find's answer. -/
def find (l : Files) (x : ByteArray) : Int := if place l x < l.length then (place l x : Int) else -1
theorem find_eq {l : Files} {x : ByteArray} {k : Nat} (h : ∀ j, j < k → nameAt l j ≠ x) (hk : k < l.length) (hx : nameAt l k = x) : find l x = k := by
  have := place_eq h hk hx
  unfold find; rw [this, if_pos hk]
theorem find_none {l : Files} {x : ByteArray} (h : ∀ j, j < l.length → nameAt l j ≠ x) : find l x = -1 := by
  have := place_ne h (Nat.le_refl _)
  unfold find; rw [if_neg (by omega)]

/-- Files with one more, or one in place of another of its name. -/
def withF (l : Files) (x b : ByteArray) : Files := if place l x < l.length then l.set (place l x) (x, b) else l ++ [(x, b)]
theorem find_yes {l : Files} {x : ByteArray} (h : place l x < l.length) : find l x = (place l x : Int) := by unfold find; rw [if_pos h]
theorem find_no {l : Files} {x : ByteArray} (h : ¬ place l x < l.length) : find l x = -1 := by unfold find; rw [if_neg h]
/-- How many bytes files have together. -/
def total : Files → Nat
  | [] => 0
  | f :: l => f.2.size + total l
theorem total_append (l m : Files) : total (l ++ m) = total l + total m := by
  induction l with
  | nil => simp [total]
  | cons f l ih => simp [total, ih]; omega
theorem total_take_succ (l : Files) (k : Nat) (h : k < l.length) : total (l.take (k + 1)) = total (l.take k) + (fileAt l k).size := by
  rw [List.take_succ_eq_append_getElem h, total_append]
  simp [total, fileAt, h]
theorem total_take_le (l : Files) (k : Nat) (hb : ∀ j, j < l.length → (fileAt l j).size ≤ 1000) (hk : k ≤ l.length) : total (l.take k) ≤ k * 1000 := by
  induction k with
  | zero => simp [total]
  | succ k ih =>
    rw [total_take_succ l k (by omega)]
    have := ih (by omega)
    have := hb k (by omega)
    omega

end Ov
end Go.Proofs.YtdcmmmggiokbhaaGreatDoor

/- Chains, as plain functions. -/
namespace Go.Proofs.YtdcmmmggiokbhaaGreatDoor
namespace Ov

def headDec (s : ByteArray) : Decidable (headOk s) := by unfold headOk; infer_instance
def entB (s : ByteArray) (k : Nat) : Bool := ent s k == 0 || (ent s k == 255 || (decide (ent s k ≤ datas s) && (List.range k).all fun j => ent s j != ent s k))
/-- Is a file an image? -/
def imageB (s : ByteArray) : Bool := @decide (headOk s) (headDec s) && (List.range (many s)).all fun k => entB s k
theorem entB_iff (s : ByteArray) (k : Nat) : entB s k = true ↔ entOk s k := by
  unfold entB entOk
  simp only [Bool.or_eq_true, beq_iff_eq, Bool.and_eq_true, decide_eq_true_eq, List.all_eq_true, List.mem_range, bne_iff_ne]
theorem imageB_iff (s : ByteArray) : imageB s = true ↔ isImage s := by
  unfold imageB isImage goodTo
  rw [Bool.and_eq_true]
  constructor
  · rintro ⟨h1, h2⟩
    refine ⟨@of_decide_eq_true _ (headDec s) h1, fun i hi => ?_⟩
    rw [List.all_eq_true] at h2
    exact (entB_iff s i).1 (h2 i (by simpa using hi))
  · rintro ⟨h1, h2⟩
    refine ⟨@decide_eq_true _ (headDec s) h1, ?_⟩
    rw [List.all_eq_true]
    exact fun i hi => (entB_iff s i).2 (h2 i (by simpa using hi))

/-- Was a name met? -/
def metB (seen : List ByteArray) (x : ByteArray) : Bool := seen.any fun y => decide (y = x)
theorem metB_iff {seen : List ByteArray} {x : ByteArray} : metB seen x = true ↔ x ∈ seen := by
  unfold metB
  rw [List.any_eq_true]
  constructor
  · rintro ⟨y, hy, h⟩; rw [← of_decide_eq_true h]; exact hy
  · exact fun h => ⟨x, h, decide_eq_true rfl⟩
theorem metB_no {seen : List ByteArray} {x : ByteArray} (h : ∀ j, j < seen.length → seen.getD j ⟨#[]⟩ ≠ x) : metB seen x = false := by
  rw [← Bool.not_eq_true, metB_iff]
  intro hm
  obtain ⟨j, hj, e⟩ := List.mem_iff_getElem.1 hm
  exact h j hj (by simp [hj, e])
theorem metB_at {seen : List ByteArray} {x : ByteArray} {j : Nat} (hj : j < seen.length) (h : seen.getD j ⟨#[]⟩ = x) : metB seen x = true := by
  rw [metB_iff, ← h]
  simp [hj]
/-- The names of a chain, or the error, and where: from a file that there is, with names that were met already. -/
def down (l : Files) : Nat → List ByteArray → ByteArray → List ByteArray × Int × ByteArray
  | 0, _, x => ([], 0, x)
  | f + 1, seen, x =>
    if imageB (fileAt l (place l x)) = false then ([], 5, x)
    else if (backing (fileAt l (place l x))).size = 0 then (seen ++ [x], 0, ⟨#[]⟩)
    else if metB (seen ++ [x]) (backing (fileAt l (place l x))) = true then ([], 7, x)
    else if ¬ place l (backing (fileAt l (place l x))) < l.length then ([], 6, x)
    else down l f (seen ++ [x]) (backing (fileAt l (place l x)))
def downOf (l : Files) (x : ByteArray) : List ByteArray × Int × ByteArray := down l l.length [] x

theorem nodup_lt {l : List Nat} {n : Nat} (h : l.Nodup) (hn : ∀ x ∈ l, x < n) : l.length ≤ n := by
  induction n generalizing l with
  | zero =>
    cases l with
    | nil => simp
    | cons a l => exact absurd (hn a (by simp)) (by omega)
  | succ n ih =>
    have h1 := ih (l := l.erase n) (h.erase n) (fun x hx => by
      have := (h.mem_erase_iff).1 hx
      have := hn x this.2
      omega)
    rw [List.length_erase] at h1
    split at h1 <;> omega
/-- Names that were met: all of files, each once. -/
structure Met (l : Files) (seen : List ByteArray) : Prop where
  nodup : seen.Nodup
  here : ∀ x ∈ seen, place l x < l.length
theorem Met.length {l : Files} {seen : List ByteArray} (h : Met l seen) : seen.length ≤ l.length := by
  have := nodup_lt (l := seen.map (place l)) (n := l.length) (by
    rw [List.Nodup, List.pairwise_map]
    refine List.Pairwise.imp_of_mem ?_ h.nodup
    intro a b ha hb hab e
    exact hab (by rw [← place_name (h.here a ha), ← place_name (h.here b hb), e])) (fun x hx => by
    simp only [List.mem_map] at hx
    obtain ⟨a, ha, rfl⟩ := hx
    exact h.here a ha)
  simpa using this
theorem Met.snoc {l : Files} {seen : List ByteArray} {x : ByteArray} (h : Met l seen) (hx : x ∉ seen) (hp : place l x < l.length) : Met l (seen ++ [x]) := by
  refine ⟨?_, fun y hy => ?_⟩
  · rw [List.nodup_append]
    exact ⟨h.nodup, by simp, fun a ha b hb e => by simp at hb; subst hb; subst e; exact hx ha⟩
  · simp only [List.mem_append, List.mem_singleton] at hy
    rcases hy with hy | rfl
    · exact h.here y hy
    · exact hp

end Ov
end Go.Proofs.YtdcmmmggiokbhaaGreatDoor

/- The calls of a store, as plain functions: what is answered, and the files behind it. -/
namespace Go.Proofs.YtdcmmmggiokbhaaGreatDoor
namespace Ov

/-- What a store's files always are. -/
structure LI (room : Nat) (l : Files) : Prop where
  len : l.length ≤ 8
  size : ∀ j, j < l.length → (fileAt l j).size ≤ 1000
  room : room ≤ 4000
  names : ∀ j, j < l.length → nameB (nameAt l j) = true
  nodup : (l.map Prod.fst).Nodup
/-- Files are taken, if there is room. -/
def putF (room : Nat) (l m : Files) : Int × Files := if room < total m then (9, l) else (0, m)
def loadF (room : Nat) (l : Files) (x f : ByteArray) : Int × Files :=
  if nameB x = false then (2, l)
  else if 1000 < f.size ∨ (l.length = 8 ∧ ¬ place l x < l.length) then (1, l)
  else putF room l (withF l x f)
def dumpF (l : Files) (x : ByteArray) : ByteArray × Int := if place l x < l.length then (fileAt l (place l x), 0) else (⟨#[]⟩, 4)
def dropF (l : Files) (x : ByteArray) : Int × Files := if place l x < l.length then (0, l.filter fun f => !decide (f.1 = x)) else (4, l)

theorem withF_length (l : Files) (x b : ByteArray) : (withF l x b).length = if place l x < l.length then l.length else l.length + 1 := by
  unfold withF; split <;> simp
theorem fileAt_set (l : Files) (k j : Nat) (x b : ByteArray) (hk : k < l.length) (hj : j < l.length) : fileAt (l.set k (x, b)) j = if j = k then b else fileAt l j := by
  unfold fileAt
  rw [List.getD_eq_getElem?_getD, List.getD_eq_getElem?_getD, List.getElem?_set]
  by_cases h : k = j
  · subst h; simp [hk]
  · simp [h, Ne.symm h]
theorem fileAt_snoc (l : Files) (j : Nat) (x b : ByteArray) (hj : j < l.length + 1) : fileAt (l ++ [(x, b)]) j = if j = l.length then b else fileAt l j := by
  unfold fileAt
  rw [List.getD_eq_getElem?_getD, List.getD_eq_getElem?_getD]
  by_cases h : j < l.length
  · rw [List.getElem?_append_left h, if_neg (by omega)]
  · have : j = l.length := by omega
    subst this
    simp
theorem withF_size {l : Files} {x b : ByteArray} (h : ∀ j, j < l.length → (fileAt l j).size ≤ 1000) (hb : b.size ≤ 1000) : ∀ j, j < (withF l x b).length → (fileAt (withF l x b) j).size ≤ 1000 := by
  intro j hj
  rw [withF_length] at hj
  unfold withF
  by_cases hp : place l x < l.length
  · rw [if_pos hp] at hj ⊢
    rw [fileAt_set _ _ _ _ _ hp hj]
    split
    · exact hb
    · exact h j hj
  · rw [if_neg hp] at hj ⊢
    rw [fileAt_snoc _ _ _ _ hj]
    split
    · exact hb
    · exact h j (by omega)
theorem nameAt_set (l : Files) (k j : Nat) (x b : ByteArray) (hk : k < l.length) (hj : j < l.length) : nameAt (l.set k (x, b)) j = if j = k then x else nameAt l j := by
  unfold nameAt
  rw [List.getD_eq_getElem?_getD, List.getD_eq_getElem?_getD, List.getElem?_set]
  by_cases h : k = j
  · subst h; simp [hk]
  · simp [h, Ne.symm h]
theorem nameAt_snoc (l : Files) (j : Nat) (x b : ByteArray) (hj : j < l.length + 1) : nameAt (l ++ [(x, b)]) j = if j = l.length then x else nameAt l j := by
  unfold nameAt
  rw [List.getD_eq_getElem?_getD, List.getD_eq_getElem?_getD]
  by_cases h : j < l.length
  · rw [List.getElem?_append_left h, if_neg (by omega)]
  · have : j = l.length := by omega
    subst this
    simp
theorem withF_names {l : Files} {x b : ByteArray} (h : ∀ j, j < l.length → nameB (nameAt l j) = true) (hx : nameB x = true) : ∀ j, j < (withF l x b).length → nameB (nameAt (withF l x b) j) = true := by
  intro j hj
  rw [withF_length] at hj
  unfold withF
  by_cases hp : place l x < l.length
  · rw [if_pos hp] at hj ⊢
    rw [nameAt_set _ _ _ _ _ hp hj]
    split
    · exact hx
    · exact h j hj
  · rw [if_neg hp] at hj ⊢
    rw [nameAt_snoc _ _ _ _ hj]
    split
    · exact hx
    · exact h j (by omega)
theorem nameB_size {x : ByteArray} (h : nameB x = true) : x.size ≤ 8 := by
  unfold nameB isName at h
  simp only [Bool.and_eq_true, decide_eq_true_eq] at h
  simpa using h.2.1
theorem place_mem {l : Files} {x : ByteArray} : place l x < l.length ↔ x ∈ l.map Prod.fst := by
  induction l with
  | nil => simp [place]
  | cons f l ih =>
    by_cases e : f.1 = x
    · simp [place, e]
    · rw [show place (f :: l) x = place l x + 1 from by rw [place, if_neg e]]
      simp only [List.length_cons, List.map_cons, List.mem_cons, Ne.symm e, false_or]
      rw [← ih]; omega
theorem withF_fst {l : Files} {x b : ByteArray} : (withF l x b).map Prod.fst = if place l x < l.length then l.map Prod.fst else l.map Prod.fst ++ [x] := by
  unfold withF
  by_cases hp : place l x < l.length
  · rw [if_pos hp, if_pos hp, List.map_set]
    have hn := place_name hp
    refine List.ext_getElem (by simp) fun i h1 h2 => ?_
    rw [List.getElem_set]
    split
    · rename_i e
      subst e
      have : nameAt l (place l x) = (l.map Prod.fst)[place l x]'h2 := by simp [nameAt, hp]
      rw [← this, hn]
    · rfl
  · rw [if_neg hp, if_neg hp, List.map_append]; rfl
theorem withF_nodup {l : Files} {x b : ByteArray} (h : (l.map Prod.fst).Nodup) : ((withF l x b).map Prod.fst).Nodup := by
  rw [withF_fst]
  split
  · exact h
  · rename_i hp
    rw [place_mem] at hp
    rw [List.nodup_append]
    exact ⟨h, by simp, fun a ha c hc e => by simp at hc; subst hc; subst e; exact hp ha⟩
/-- With names that are all different, a file that is dropped is the one at its place. -/
theorem filter_erase {l : Files} {x : ByteArray} (h : (l.map Prod.fst).Nodup) (hp : place l x < l.length) : (l.filter fun f => !decide (f.1 = x)) = l.eraseIdx (place l x) := by
  induction l with
  | nil => rfl
  | cons f l ih =>
    rw [List.map_cons, List.nodup_cons] at h
    by_cases e : f.1 = x
    · have hx : place (f :: l) x = 0 := by rw [place, if_pos e]
      rw [hx]
      have hall : (l.filter fun g => !decide (g.1 = x)) = l := by
        rw [List.filter_eq_self]
        intro g hg
        have : g.1 ≠ x := fun e2 => h.1 (by rw [e, ← e2]; exact List.mem_map_of_mem hg)
        simp [this]
      simp [e, hall]
    · have hx : place (f :: l) x = place l x + 1 := by rw [place, if_neg e]
      rw [hx] at hp ⊢
      rw [List.filter_cons, if_pos (by simp [e]), ih h.2 (by simpa using hp)]
      rfl
theorem LI.put {room : Nat} {l m : Files} (h : LI room l) (hm : m.length ≤ 8) (hs : ∀ j, j < m.length → (fileAt m j).size ≤ 1000) (hn : ∀ j, j < m.length → nameB (nameAt m j) = true) (hd : (m.map Prod.fst).Nodup) : LI room (putF room l m).2 := by
  unfold putF; split
  · exact h
  · exact ⟨hm, hs, h.room, hn, hd⟩
theorem LI.load {room : Nat} {l : Files} (h : LI room l) (x f : ByteArray) : LI room (loadF room l x f).2 := by
  unfold loadF
  split
  · exact h
  · split
    · exact h
    · rename_i h1 h2
      have hl := h.len
      refine h.put ?_ (withF_size h.size (by omega)) (withF_names h.names (by simpa using h1)) (withF_nodup h.nodup)
      rw [withF_length]; split <;> omega
theorem nameAt_mem {l : Files} {j : Nat} (hj : j < l.length) : ∃ f ∈ l, nameAt l j = f.1 := ⟨l[j], List.getElem_mem hj, by simp [nameAt, hj]⟩
theorem LI.name_size {room : Nat} {l : Files} (h : LI room l) {x : ByteArray} (hx : place l x < l.length) : x.size ≤ 8 := by
  have := h.names _ hx
  rw [place_name hx] at this
  exact nameB_size this
theorem fileAt_mem {l : Files} {j : Nat} (hj : j < l.length) : ∃ f ∈ l, fileAt l j = f.2 := ⟨l[j], List.getElem_mem hj, by simp [fileAt, hj]⟩
theorem LI.drop {room : Nat} {l : Files} (h : LI room l) (x : ByteArray) : LI room (dropF l x).2 := by
  unfold dropF; split
  · refine ⟨?_, fun j hj => ?_, h.room, fun j hj => ?_, (h.nodup).sublist (List.Sublist.map Prod.fst List.filter_sublist)⟩
    · have := List.length_filter_le (fun f : ByteArray × ByteArray => !decide (f.1 = x)) l
      have := h.len
      show (l.filter _).length ≤ 8
      omega
    · obtain ⟨f, hf, e⟩ := fileAt_mem hj
      rw [e]
      obtain ⟨i, hi, e2⟩ := List.mem_iff_getElem.1 (List.mem_filter.1 hf).1
      have := h.size i hi
      rw [show fileAt l i = f.2 from by simp [fileAt, hi, e2]] at this
      exact this
    · obtain ⟨f, hf, e⟩ := nameAt_mem hj
      rw [e]
      obtain ⟨i, hi, e2⟩ := List.mem_iff_getElem.1 (List.mem_filter.1 hf).1
      have := h.names i hi
      rw [show nameAt l i = f.1 from by simp [nameAt, hi, e2]] at this
      exact this
  · exact h

/-- The names of a chain are names of files. -/
theorem down_here {l : Files} (f : Nat) {seen : List ByteArray} {x : ByteArray} (hs : ∀ y ∈ seen, place l y < l.length) (hx : place l x < l.length) : ∀ y ∈ (down l f seen x).1, place l y < l.length := by
  induction f generalizing seen x with
  | zero => intro y hy; simp [down] at hy
  | succ f ih =>
    have h2 : ∀ y ∈ seen ++ [x], place l y < l.length := by
      intro y hy
      simp only [List.mem_append, List.mem_singleton] at hy
      rcases hy with hy | rfl
      · exact hs y hy
      · exact hx
    unfold down
    repeat' split
    · intro y hy; cases hy
    · exact h2
    · intro y hy; cases hy
    · intro y hy; cases hy
    · rename_i h; exact ih h2 (by omega)
def soundF (l : Files) (x : ByteArray) : Int := if place l x < l.length then (downOf l x).2.1 else 4
/-- Names with commas between. -/
def joinTo (ns : List ByteArray) : Nat → ByteArray
  | 0 => ⟨#[]⟩
  | k + 1 => (if 0 < k then joinTo ns k ++ ⟨#[44]⟩ else joinTo ns k) ++ ns.getD k ⟨#[]⟩
theorem joinTo_size {ns : List ByteArray} (h : ∀ y ∈ ns, y.size ≤ 8) (k : Nat) (hk : k ≤ ns.length) : (joinTo ns k).size ≤ 9 * k := by
  induction k with
  | zero => exact Nat.le_refl 0
  | succ k ih =>
    have h1 := ih (by omega)
    have h2 : (ns.getD k ⟨#[]⟩).size ≤ 8 := by
      rw [List.getD_eq_getElem?_getD, List.getElem?_eq_getElem (by omega)]
      exact h _ (List.getElem_mem _)
    have h3 : (⟨#[44]⟩ : ByteArray).size = 1 := rfl
    simp only [joinTo]
    split
    · rw [ByteArray.size_append, ByteArray.size_append, h3]; omega
    · rw [ByteArray.size_append]; omega
def chainF (l : Files) (x : ByteArray) : ByteArray × ByteArray × Int :=
  if place l x < l.length then (joinTo (downOf l x).1 (downOf l x).1.length, (downOf l x).2.2, (downOf l x).2.1) else (⟨#[]⟩, ⟨#[]⟩, 4)
theorem LI.down_size {room : Nat} {l : Files} (h : LI room l) {x : ByteArray} (hx : place l x < l.length) : ∀ y ∈ (downOf l x).1, y.size ≤ 8 := fun y hy =>
  h.name_size (down_here l.length (by simp) hx y hy)
theorem down_length {l : Files} (f : Nat) {seen : List ByteArray} {x : ByteArray} : (down l f seen x).1.length ≤ f + seen.length := by
  induction f generalizing seen x with
  | zero => simp [down]
  | succ f ih =>
    unfold down
    repeat' split
    · simp
    · simp; omega
    · simp
    · simp
    · have := ih (seen := seen ++ [x]) (x := backing (fileAt l (place l x)))
      simp at this; omega

end Ov
end Go.Proofs.YtdcmmmggiokbhaaGreatDoor
