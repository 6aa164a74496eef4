/- The plain functions of a store's files. -/
import Derived.Test.YtomiepknmmpflaaGreatDoorKPDecode
import Derived.Laws.AppendOwnNone
namespace Go.Proofs.YtomiepknmmpflaaGreatDoor
namespace Ov

abbrev Files := List (ByteArray × ByteArray)
def nameAt (l : Files) (k : Nat) : ByteArray := (l.getD k (⟨#[]⟩, ⟨#[]⟩)).1
def fileAt (l : Files) (k : Nat) : ByteArray := (l.getD k (⟨#[]⟩, ⟨#[]⟩)).2
def place : Files → ByteArray → Nat
  | [], _ => 0
  | f :: l, x => if f.1 = x then 0 else place l x + 1
def has (l : Files) (x : ByteArray) : Bool := decide (place l x < l.length)
theorem place_ne {l : Files} {x : ByteArray} {k : Nat} (h : ∀ j, j < k → nameAt l j ≠ x) (hk : k ≤ l.length) : k ≤ place l x := by
  induction l generalizing k with
  | nil => simpa [place] using hk
  | cons f l ih =>
    cases k with
    | zero => omega
    | succ k =>
      have h0 : f.1 ≠ x := by simpa [nameAt] using h 0 (by omega)
      unfold place
      rw [if_neg h0]
      have := ih (k := k) (fun j hj => by simpa [nameAt] using h (j + 1) (by omega)) (by simpa using hk)
      omega
theorem place_eq {l : Files} {x : ByteArray} {k : Nat} (h : ∀ j, j < k → nameAt l j ≠ x) (hk : k < l.length) (hx : nameAt l k = x) : place l x = k := by
  induction l generalizing k with
  | nil => simp at hk
  | cons f l ih =>
    cases k with
    | zero => unfold place; rw [if_pos (by simpa [nameAt] using hx)]
    | succ k =>
      have h0 : f.1 ≠ x := by simpa [nameAt] using h 0 (by omega)
      unfold place
      rw [if_neg h0, ih (k := k) (fun j hj => by simpa [nameAt] using h (j + 1) (by omega)) (by simpa using hk) (by simpa [nameAt] using hx)]
theorem place_name {l : Files} {x : ByteArray} (h : place l x < l.length) : nameAt l (place l x) = x := by
  induction l with
  | nil => simp at h
  | cons f l ih =>
    by_cases e : f.1 = x
    · simp [place, e, nameAt]
    · have : place (f :: l) x = place l x + 1 := by rw [place, if_neg e]
      rw [this] at h ⊢
      simpa [nameAt] using ih (by simpa using h)
def find (l : Files) (x : ByteArray) : Int := if place l x < l.length then (place l x : Int) else -1
theorem find_eq {l : Files} {x : ByteArray} {k : Nat} (h : ∀ j, j < k → nameAt l j ≠ x) (hk : k < l.length) (hx : nameAt l k = x) : find l x = k := by
  have := place_eq h hk hx
  unfold find; rw [this, if_pos hk]
theorem find_none {l : Files} {x : ByteArray} (h : ∀ j, j < l.length → nameAt l j ≠ x) : find l x = -1 := by
  have := place_ne h (Nat.le_refl _)
  unfold find; rw [if_neg (by omega)]

def withF (l : Files) (x b : ByteArray) : Files := if place l x < l.length then l.set (place l x) (x, b) else l ++ [(x, b)]
theorem find_yes {l : Files} {x : ByteArray} (h : place l x < l.length) : find l x = (place l x : Int) := by unfold find; rw [if_pos h]
theorem find_no {l : Files} {x : ByteArray} (h : ¬ place l x < l.length) : find l x = -1 := by unfold find; rw [if_neg h]
def total : Files → Nat
  | [] => 0
  | f :: l => f.2.size + total l
end Ov
end Go.Proofs.YtomiepknmmpflaaGreatDoor

namespace Go.Proofs.YtomiepknmmpflaaGreatDoor
open Go.RowKit Go.Joins

def fileCells : Ov.Files → List Value
  | [] => []
  | f :: l => .string f.1 :: .string f.2 :: fileCells l
theorem fileCells_length (l : Ov.Files) : (fileCells l).length = l.length * 2 := by
  induction l with
  | nil => rfl
  | cons f l ih => simp [fileCells, ih]; omega
theorem fileCells_append (l m : Ov.Files) : fileCells (l ++ m) = fileCells l ++ fileCells m := by
  induction l with
  | nil => rfl
  | cons f l ih => simp [fileCells, ih]
theorem fileCells_name {l : Ov.Files} {k : Nat} (h : k < l.length) : (fileCells l)[k * 2]? = some (.string (Ov.nameAt l k)) := by
  induction l generalizing k with
  | nil => simp at h
  | cons f l ih =>
    cases k with
    | zero => simp [fileCells, Ov.nameAt]
    | succ k =>
      rw [show (k + 1) * 2 = k * 2 + 1 + 1 from by omega]
      simpa [fileCells, Ov.nameAt] using ih (k := k) (by simpa using h)
theorem fileCells_bytes {l : Ov.Files} {k : Nat} (h : k < l.length) : (fileCells l)[k * 2 + 1]? = some (.string (Ov.fileAt l k)) := by
  induction l generalizing k with
  | nil => simp at h
  | cons f l ih =>
    cases k with
    | zero => simp [fileCells, Ov.fileAt]
    | succ k =>
      rw [show (k + 1) * 2 + 1 = k * 2 + 1 + 1 + 1 from by omega]
      simpa [fileCells, Ov.fileAt] using ih (k := k) (by simpa using h)
abbrev OwnsFiles (w : World) (base : Nat) (v : Value) (l : Ov.Files) : Prop := w.ownsRow base 251 2 v l.length (fileCells l)
theorem fileCells_one (l : Ov.Files) : ∀ u ∈ fileCells l, u.oneCell' = true := by
  induction l with
  | nil => intro u hu; cases hu
  | cons f l ih =>
    intro u hu
    simp only [fileCells, List.mem_cons] at hu
    rcases hu with rfl | rfl | hu
    · rfl
    · rfl
    · exact ih u hu
theorem fileCells_set {l : Ov.Files} {k : Nat} (h : k < l.length) (b : ByteArray) : (fileCells l).set (k * 2 + 1) (.string b) = fileCells (l.set k (Ov.nameAt l k, b)) := by
  induction l generalizing k with
  | nil => simp at h
  | cons f l ih =>
    cases k with
    | zero => simp [fileCells, Ov.nameAt]
    | succ k =>
      rw [show (k + 1) * 2 + 1 = k * 2 + 1 + 1 + 1 from by omega]
      have := ih (k := k) (by simpa using h)
      simpa [fileCells, Ov.nameAt] using this
theorem two_new {w : World} {x y : Value} {t : TypeId} {b : Nat} (hb : b = w.heap.size) : ∀ (j : Nat) (u : Value), [x, y][j]? = some u → (w.alloc (.cells #[x, y] t)).cell? ((⟨b, 0, none⟩ : Addr).add j) = some u := by
  subst hb
  intro j u hj
  have e : (⟨w.heap.size, 0, none⟩ : Addr).add j = ⟨w.heap.size, j, none⟩ := by simp [Addr.add]; exact fun h => h.symm
  rw [e, cell_alloc_mark_at w #[x, y] t (0, 0) _ j rfl, ← hj]
  simp
theorem two_strings (x y : ByteArray) : ∀ u ∈ [Value.string x, Value.string y], u.oneCell' = true := by intro u hu; simp at hu; rcases hu with rfl | rfl <;> rfl

end Go.Proofs.YtomiepknmmpflaaGreatDoor

namespace Go.Proofs.YtomiepknmmpflaaGreatDoor
open Go.RowKit Go.Joins

theorem names_step {l : Ov.Files} {x : ByteArray} {k : Nat} (h : ∀ j, j < k → Ov.nameAt l j ≠ x) (hk : Ov.nameAt l k ≠ x) : ∀ j, j < k + 1 → Ov.nameAt l j ≠ x := fun j hj => by
  by_cases e : j = k
  · subst e; exact hk
  · exact h j (by omega)

end Go.Proofs.YtomiepknmmpflaaGreatDoor

namespace Go.Proofs.YtomiepknmmpflaaGreatDoor
open Go.RowKit Go.Joins

end Go.Proofs.YtomiepknmmpflaaGreatDoor

namespace Go.Proofs.YtomiepknmmpflaaGreatDoor
namespace Ov

def headDec (s : ByteArray) : Decidable (headOk s) := by unfold headOk; infer_instance
def entB (s : ByteArray) (k : Nat) : Bool := ent s k == 0 || (ent s k == 255 || (decide (ent s k ≤ datas s) && (List.range k).all fun j => ent s j != ent s k))
def imageB (s : ByteArray) : Bool := @decide (headOk s) (headDec s) && (List.range (many s)).all fun k => entB s k
theorem entB_iff (s : ByteArray) (k : Nat) : entB s k = true ↔ entOk s k := by
  unfold entB entOk
  simp only [Bool.or_eq_true, beq_iff_eq, Bool.and_eq_true, decide_eq_true_eq, List.all_eq_true, List.mem_range, bne_iff_ne]
theorem imageB_iff (s : ByteArray) : imageB s = true ↔ isImage s := by
  unfold imageB isImage goodTo
  rw [Bool.and_eq_true]
  constructor
  · rintro ⟨h1, h2⟩
    refine ⟨@of_decide_eq_true _ (headDec s) h1, fun i hi => ?_⟩
    rw [List.all_eq_true] at h2
    exact (entB_iff s i).1 (h2 i (by simpa using hi))
  · rintro ⟨h1, h2⟩
    refine ⟨@decide_eq_true _ (headDec s) h1, ?_⟩
    rw [List.all_eq_true]
    exact fun i hi => (entB_iff s i).2 (h2 i (by simpa using hi))

def metB (seen : List ByteArray) (x : ByteArray) : Bool := seen.any fun y => decide (y = x)
theorem metB_iff {seen : List ByteArray} {x : ByteArray} : metB seen x = true ↔ x ∈ seen := by
  unfold metB
  rw [List.any_eq_true]
  constructor
  · rintro ⟨y, hy, h⟩; rw [← of_decide_eq_true h]; exact hy
  · exact fun h => ⟨x, h, decide_eq_true rfl⟩
def down (l : Files) : Nat → List ByteArray → ByteArray → List ByteArray × Int × ByteArray
  | 0, _, x => ([], 0, x)
  | f + 1, seen, x =>
    if imageB (fileAt l (place l x)) = false then ([], 5, x)
    else if (backing (fileAt l (place l x))).size = 0 then (seen ++ [x], 0, ⟨#[]⟩)
    else if metB (seen ++ [x]) (backing (fileAt l (place l x))) = true then ([], 7, x)
    else if ¬ place l (backing (fileAt l (place l x))) < l.length then ([], 6, x)
    else down l f (seen ++ [x]) (backing (fileAt l (place l x)))
def downOf (l : Files) (x : ByteArray) : List ByteArray × Int × ByteArray := down l l.length [] x

theorem nodup_lt {l : List Nat} {n : Nat} (h : l.Nodup) (hn : ∀ x ∈ l, x < n) : l.length ≤ n := by
  induction n generalizing l with
  | zero =>
    cases l with
    | nil => simp
    | cons a l => exact absurd (hn a (by simp)) (by omega)
  | succ n ih =>
    have h1 := ih (l := l.erase n) (h.erase n) (fun x hx => by
      have := (h.mem_erase_iff).1 hx
      have := hn x this.2
      omega)
    rw [List.length_erase] at h1
    split at h1 <;> omega
structure Met (l : Files) (seen : List ByteArray) : Prop where
  nodup : seen.Nodup
  here : ∀ x ∈ seen, place l x < l.length
theorem Met.length {l : Files} {seen : List ByteArray} (h : Met l seen) : seen.length ≤ l.length := by
  have := nodup_lt (l := seen.map (place l)) (n := l.length) (by
    rw [List.Nodup, List.pairwise_map]
    refine List.Pairwise.imp_of_mem ?_ h.nodup
    intro a b ha hb hab e
    exact hab (by rw [← place_name (h.here a ha), ← place_name (h.here b hb), e])) (fun x hx => by
    simp only [List.mem_map] at hx
    obtain ⟨a, ha, rfl⟩ := hx
    exact h.here a ha)
  simpa using this
theorem Met.snoc {l : Files} {seen : List ByteArray} {x : ByteArray} (h : Met l seen) (hx : x ∉ seen) (hp : place l x < l.length) : Met l (seen ++ [x]) := by
  refine ⟨?_, fun y hy => ?_⟩
  · rw [List.nodup_append]
    exact ⟨h.nodup, by simp, fun a ha b hb e => by simp at hb; subst hb; subst e; exact hx ha⟩
  · simp only [List.mem_append, List.mem_singleton] at hy
    rcases hy with hy | rfl
    · exact h.here y hy
    · exact hp

end Ov
end Go.Proofs.YtomiepknmmpflaaGreatDoor

namespace Go.Proofs.YtomiepknmmpflaaGreatDoor
open Go.RowKit Go.Joins

def lenOf : Value → Nat
  | .slice _ n _ => n
  | _ => 0
theorem owns_below {w w' : World} {base B e size n : Nat} {v : Value} {xs : List Value} (h : w.ownsRow base e size v n xs) (hlt : ∀ k, v.ownBlock = some k → k < B) (hb : Below B w w') : w'.ownsRow base e size v n xs := by
  obtain ⟨h1, h2⟩ := h
  refine ⟨h1, ?_⟩
  rcases h2 with h2 | ⟨g, cap, cur, rfl, hg, hh, r⟩
  · exact Or.inl h2
  · exact Or.inr ⟨g, cap, cur, rfl, hg, by rw [hb.block g (hlt g rfl)]; exact hh, r⟩
theorem owns_all {w w' : World} {base e size n : Nat} {v : Value} {xs : List Value} (h : w.ownsRow base e size v n xs) (hb : Below w.heap.size w w') : w'.ownsRow base e size v n xs := owns_below h (fun k hk => (h.lt k hk).2) hb

structure NI (l : Ov.Files) (w : World) (x0 : ByteArray) (seen : List ByteArray) (y : ByteArray) (nv : Value) (wr : World) : Prop where
  met : Ov.Met l seen
  new : y ∉ seen
  here : Ov.place l y < l.length
  eq : Ov.down l (l.length - seen.length) seen y = Ov.downOf l x0
  names : wr.ownsRow w.heap.size 9 1 nv seen.length (seen.map Value.string)
  below : Below w.heap.size w wr
theorem NI.lt {l : Ov.Files} {w wr : World} {x0 y : ByteArray} {seen : List ByteArray} {nv : Value} (h : NI l w x0 seen y nv wr) : seen.length < l.length := by
  have := (h.met.snoc h.new h.here).length
  simp at this; omega
theorem NI.fuel {l : Ov.Files} {w wr : World} {x0 y : ByteArray} {seen : List ByteArray} {nv : Value} (h : NI l w x0 seen y nv wr) : l.length - seen.length = l.length - (seen ++ [y]).length + 1 := by
  have := h.lt
  simp; omega
section
variable {l : Ov.Files} {w wr : World} {x0 y s : ByteArray} {seen : List ByteArray} {nv : Value}
theorem NI.corrupt (h : NI l w x0 seen y nv wr) (hs : Ov.fileAt l (Ov.place l y) = s) (hi : Ov.imageB s = false) : Ov.downOf l x0 = ([], 5, y) := by
  rw [← h.eq, h.fuel, Ov.down, hs, if_pos hi]
theorem NI.last (h : NI l w x0 seen y nv wr) (hs : Ov.fileAt l (Ov.place l y) = s) (hi : Ov.imageB s = true) (hb : (Ov.backing s).size = 0) : Ov.downOf l x0 = (seen ++ [y], 0, ⟨#[]⟩) := by
  rw [← h.eq, h.fuel, Ov.down, hs, if_neg (by rw [hi]; simp), if_pos hb]
theorem NI.cycle (h : NI l w x0 seen y nv wr) (hs : Ov.fileAt l (Ov.place l y) = s) (hi : Ov.imageB s = true) (hb : (Ov.backing s).size ≠ 0) (hm : Ov.metB (seen ++ [y]) (Ov.backing s) = true) : Ov.downOf l x0 = ([], 7, y) := by
  rw [← h.eq, h.fuel, Ov.down, hs, if_neg (by rw [hi]; simp), if_neg hb, if_pos hm]
theorem NI.missing (h : NI l w x0 seen y nv wr) (hs : Ov.fileAt l (Ov.place l y) = s) (hi : Ov.imageB s = true) (hb : (Ov.backing s).size ≠ 0) (hm : Ov.metB (seen ++ [y]) (Ov.backing s) = false) (hp : ¬ Ov.place l (Ov.backing s) < l.length) : Ov.downOf l x0 = ([], 6, y) := by
  rw [← h.eq, h.fuel, Ov.down, hs, if_neg (by rw [hi]; simp), if_neg hb, if_neg (by rw [hm]; simp), if_pos hp]
theorem NI.next {wn : World} {v1 : Value} (h : NI l w x0 seen y nv wr) (hs : Ov.fileAt l (Ov.place l y) = s) (hi : Ov.imageB s = true) (hb : (Ov.backing s).size ≠ 0) (hm : Ov.metB (seen ++ [y]) (Ov.backing s) = false) (hp : Ov.place l (Ov.backing s) < l.length)
    (hn : wn.ownsRow w.heap.size 9 1 v1 (seen.length + 1) (seen.map Value.string ++ [.string y])) (hbl : Below w.heap.size w wn) : NI l w x0 (seen ++ [y]) (Ov.backing s) v1 wn := by
  refine ⟨h.met.snoc h.new h.here, fun hmem => ?_, hp, ?_, ?_, hbl⟩
  · rw [← Ov.metB_iff, hm] at hmem; cases hmem
  · rw [← h.eq, h.fuel]
    conv => rhs; rw [Ov.down, hs, if_neg (by rw [hi]; simp), if_neg hb, if_neg (by rw [hm]; simp), if_neg (by omega)]
  · rw [List.map_append, List.length_append]; exact hn
end

end Go.Proofs.YtomiepknmmpflaaGreatDoor

namespace Go.Proofs.YtomiepknmmpflaaGreatDoor
namespace Ov

structure LI (room : Nat) (l : Files) : Prop where
  len : l.length ≤ 8
  size : ∀ j, j < l.length → (fileAt l j).size ≤ 1000
  room : room ≤ 4000
  names : ∀ j, j < l.length → nameB (nameAt l j) = true
  nodup : (l.map Prod.fst).Nodup
def putF (room : Nat) (l m : Files) : Int × Files := if room < total m then (9, l) else (0, m)
def loadF (room : Nat) (l : Files) (x f : ByteArray) : Int × Files :=
  if nameB x = false then (2, l)
  else if 1000 < f.size ∨ (l.length = 8 ∧ ¬ place l x < l.length) then (1, l)
  else putF room l (withF l x f)
def dumpF (l : Files) (x : ByteArray) : ByteArray × Int := if place l x < l.length then (fileAt l (place l x), 0) else (⟨#[]⟩, 4)
def dropF (l : Files) (x : ByteArray) : Int × Files := if place l x < l.length then (0, l.filter fun f => !decide (f.1 = x)) else (4, l)

theorem withF_length (l : Files) (x b : ByteArray) : (withF l x b).length = if place l x < l.length then l.length else l.length + 1 := by
  unfold withF; split <;> simp
theorem fileAt_set (l : Files) (k j : Nat) (x b : ByteArray) (hk : k < l.length) (hj : j < l.length) : fileAt (l.set k (x, b)) j = if j = k then b else fileAt l j := by
  unfold fileAt
  rw [List.getD_eq_getElem?_getD, List.getD_eq_getElem?_getD, List.getElem?_set]
  by_cases h : k = j
  · subst h; simp [hk]
  · simp [h, Ne.symm h]
theorem fileAt_snoc (l : Files) (j : Nat) (x b : ByteArray) (hj : j < l.length + 1) : fileAt (l ++ [(x, b)]) j = if j = l.length then b else fileAt l j := by
  unfold fileAt
  rw [List.getD_eq_getElem?_getD, List.getD_eq_getElem?_getD]
  by_cases h : j < l.length
  · rw [List.getElem?_append_left h, if_neg (by omega)]
  · have : j = l.length := by omega
    subst this
    simp
theorem withF_size {l : Files} {x b : ByteArray} (h : ∀ j, j < l.length → (fileAt l j).size ≤ 1000) (hb : b.size ≤ 1000) : ∀ j, j < (withF l x b).length → (fileAt (withF l x b) j).size ≤ 1000 := by
  intro j hj
  rw [withF_length] at hj
  unfold withF
  by_cases hp : place l x < l.length
  · rw [if_pos hp] at hj ⊢
    rw [fileAt_set _ _ _ _ _ hp hj]
    split
    · exact hb
    · exact h j hj
  · rw [if_neg hp] at hj ⊢
    rw [fileAt_snoc _ _ _ _ hj]
    split
    · exact hb
    · exact h j (by omega)
theorem nameAt_set (l : Files) (k j : Nat) (x b : ByteArray) (hk : k < l.length) (hj : j < l.length) : nameAt (l.set k (x, b)) j = if j = k then x else nameAt l j := by
  unfold nameAt
  rw [List.getD_eq_getElem?_getD, List.getD_eq_getElem?_getD, List.getElem?_set]
  by_cases h : k = j
  · subst h; simp [hk]
  · simp [h, Ne.symm h]
theorem nameAt_snoc (l : Files) (j : Nat) (x b : ByteArray) (hj : j < l.length + 1) : nameAt (l ++ [(x, b)]) j = if j = l.length then x else nameAt l j := by
  unfold nameAt
  rw [List.getD_eq_getElem?_getD, List.getD_eq_getElem?_getD]
  by_cases h : j < l.length
  · rw [List.getElem?_append_left h, if_neg (by omega)]
  · have : j = l.length := by omega
    subst this
    simp
theorem withF_names {l : Files} {x b : ByteArray} (h : ∀ j, j < l.length → nameB (nameAt l j) = true) (hx : nameB x = true) : ∀ j, j < (withF l x b).length → nameB (nameAt (withF l x b) j) = true := by
  intro j hj
  rw [withF_length] at hj
  unfold withF
  by_cases hp : place l x < l.length
  · rw [if_pos hp] at hj ⊢
    rw [nameAt_set _ _ _ _ _ hp hj]
    split
    · exact hx
    · exact h j hj
  · rw [if_neg hp] at hj ⊢
    rw [nameAt_snoc _ _ _ _ hj]
    split
    · exact hx
    · exact h j (by omega)
theorem nameB_size {x : ByteArray} (h : nameB x = true) : x.size ≤ 8 := by
  unfold nameB isName at h
  simp only [Bool.and_eq_true, decide_eq_true_eq] at h
  simpa using h.2.1
theorem place_mem {l : Files} {x : ByteArray} : place l x < l.length ↔ x ∈ l.map Prod.fst := by
  induction l with
  | nil => simp [place]
  | cons f l ih =>
    by_cases e : f.1 = x
    · simp [place, e]
    · rw [show place (f :: l) x = place l x + 1 from by rw [place, if_neg e]]
      simp only [List.length_cons, List.map_cons, List.mem_cons, Ne.symm e, false_or]
      rw [← ih]; omega
theorem withF_fst {l : Files} {x b : ByteArray} : (withF l x b).map Prod.fst = if place l x < l.length then l.map Prod.fst else l.map Prod.fst ++ [x] := by
  unfold withF
  by_cases hp : place l x < l.length
  · rw [if_pos hp, if_pos hp, List.map_set]
    have hn := place_name hp
    refine List.ext_getElem (by simp) fun i h1 h2 => ?_
    rw [List.getElem_set]
    split
    · rename_i e
      subst e
      have : nameAt l (place l x) = (l.map Prod.fst)[place l x]'h2 := by simp [nameAt, hp]
      rw [← this, hn]
    · rfl
  · rw [if_neg hp, if_neg hp, List.map_append]; rfl
theorem withF_nodup {l : Files} {x b : ByteArray} (h : (l.map Prod.fst).Nodup) : ((withF l x b).map Prod.fst).Nodup := by
  rw [withF_fst]
  split
  · exact h
  · rename_i hp
    rw [place_mem] at hp
    rw [List.nodup_append]
    exact ⟨h, by simp, fun a ha c hc e => by simp at hc; subst hc; subst e; exact hp ha⟩
theorem filter_erase {l : Files} {x : ByteArray} (h : (l.map Prod.fst).Nodup) (hp : place l x < l.length) : (l.filter fun f => !decide (f.1 = x)) = l.eraseIdx (place l x) := by
  induction l with
  | nil => rfl
  | cons f l ih =>
    rw [List.map_cons, List.nodup_cons] at h
    by_cases e : f.1 = x
    · have hx : place (f :: l) x = 0 := by rw [place, if_pos e]
      rw [hx]
      have hall : (l.filter fun g => !decide (g.1 = x)) = l := by
        rw [List.filter_eq_self]
        intro g hg
        have : g.1 ≠ x := fun e2 => h.1 (by rw [e, ← e2]; exact List.mem_map_of_mem hg)
        simp [this]
      simp [e, hall]
    · have hx : place (f :: l) x = place l x + 1 := by rw [place, if_neg e]
      rw [hx] at hp ⊢
      rw [List.filter_cons, if_pos (by simp [e]), ih h.2 (by simpa using hp)]
      rfl
theorem LI.put {room : Nat} {l m : Files} (h : LI room l) (hm : m.length ≤ 8) (hs : ∀ j, j < m.length → (fileAt m j).size ≤ 1000) (hn : ∀ j, j < m.length → nameB (nameAt m j) = true) (hd : (m.map Prod.fst).Nodup) : LI room (putF room l m).2 := by
  unfold putF; split
  · exact h
  · exact ⟨hm, hs, h.room, hn, hd⟩
theorem LI.load {room : Nat} {l : Files} (h : LI room l) (x f : ByteArray) : LI room (loadF room l x f).2 := by
  unfold loadF
  split
  · exact h
  · split
    · exact h
    · rename_i h1 h2
      have hl := h.len
      refine h.put ?_ (withF_size h.size (by omega)) (withF_names h.names (by simpa using h1)) (withF_nodup h.nodup)
      rw [withF_length]; split <;> omega
theorem nameAt_mem {l : Files} {j : Nat} (hj : j < l.length) : ∃ f ∈ l, nameAt l j = f.1 := ⟨l[j], List.getElem_mem hj, by simp [nameAt, hj]⟩
theorem LI.name_size {room : Nat} {l : Files} (h : LI room l) {x : ByteArray} (hx : place l x < l.length) : x.size ≤ 8 := by
  have := h.names _ hx
  rw [place_name hx] at this
  exact nameB_size this
theorem fileAt_mem {l : Files} {j : Nat} (hj : j < l.length) : ∃ f ∈ l, fileAt l j = f.2 := ⟨l[j], List.getElem_mem hj, by simp [fileAt, hj]⟩
theorem LI.drop {room : Nat} {l : Files} (h : LI room l) (x : ByteArray) : LI room (dropF l x).2 := by
  unfold dropF; split
  · refine ⟨?_, fun j hj => ?_, h.room, fun j hj => ?_, (h.nodup).sublist (List.Sublist.map Prod.fst List.filter_sublist)⟩
    · have := List.length_filter_le (fun f : ByteArray × ByteArray => !decide (f.1 = x)) l
      have := h.len
      show (l.filter _).length ≤ 8
      omega
    · obtain ⟨f, hf, e⟩ := fileAt_mem hj
      rw [e]
      obtain ⟨i, hi, e2⟩ := List.mem_iff_getElem.1 (List.mem_filter.1 hf).1
      have := h.size i hi
      rw [show fileAt l i = f.2 from by simp [fileAt, hi, e2]] at this
      exact this
    · obtain ⟨f, hf, e⟩ := nameAt_mem hj
      rw [e]
      obtain ⟨i, hi, e2⟩ := List.mem_iff_getElem.1 (List.mem_filter.1 hf).1
      have := h.names i hi
      rw [show nameAt l i = f.1 from by simp [nameAt, hi, e2]] at this
      exact this
  · exact h

theorem down_here {l : Files} (f : Nat) {seen : List ByteArray} {x : ByteArray} (hs : ∀ y ∈ seen, place l y < l.length) (hx : place l x < l.length) : ∀ y ∈ (down l f seen x).1, place l y < l.length := by
  induction f generalizing seen x with
  | zero => intro y hy; simp [down] at hy
  | succ f ih =>
    have h2 : ∀ y ∈ seen ++ [x], place l y < l.length := by
      intro y hy
      simp only [List.mem_append, List.mem_singleton] at hy
      rcases hy with hy | rfl
      · exact hs y hy
      · exact hx
    unfold down
    repeat' split
    · intro y hy; cases hy
    · exact h2
    · intro y hy; cases hy
    · intro y hy; cases hy
    · rename_i h; exact ih h2 (by omega)
def soundF (l : Files) (x : ByteArray) : Int := if place l x < l.length then (downOf l x).2.1 else 4
def joinTo (ns : List ByteArray) : Nat → ByteArray
  | 0 => ⟨#[]⟩
  | k + 1 => (if 0 < k then joinTo ns k ++ ⟨#[44]⟩ else joinTo ns k) ++ ns.getD k ⟨#[]⟩
theorem joinTo_size {ns : List ByteArray} (h : ∀ y ∈ ns, y.size ≤ 8) (k : Nat) (hk : k ≤ ns.length) : (joinTo ns k).size ≤ 9 * k := by
  induction k with
  | zero => exact Nat.le_refl 0
  | succ k ih =>
    have h1 := ih (by omega)
    have h2 : (ns.getD k ⟨#[]⟩).size ≤ 8 := by
      rw [List.getD_eq_getElem?_getD, List.getElem?_eq_getElem (by omega)]
      exact h _ (List.getElem_mem _)
    have h3 : (⟨#[44]⟩ : ByteArray).size = 1 := rfl
    simp only [joinTo]
    split
    · rw [ByteArray.size_append, ByteArray.size_append, h3]; omega
    · rw [ByteArray.size_append]; omega
def chainF (l : Files) (x : ByteArray) : ByteArray × ByteArray × Int :=
  if place l x < l.length then (joinTo (downOf l x).1 (downOf l x).1.length, (downOf l x).2.2, (downOf l x).2.1) else (⟨#[]⟩, ⟨#[]⟩, 4)
theorem LI.down_size {room : Nat} {l : Files} (h : LI room l) {x : ByteArray} (hx : place l x < l.length) : ∀ y ∈ (downOf l x).1, y.size ≤ 8 := fun y hy =>
  h.name_size (down_here l.length (by simp) hx y hy)
theorem down_length {l : Files} (f : Nat) {seen : List ByteArray} {x : ByteArray} : (down l f seen x).1.length ≤ f + seen.length := by
  induction f generalizing seen x with
  | zero => simp [down]
  | succ f ih =>
    unfold down
    repeat' split
    · simp
    · simp; omega
    · simp
    · simp
    · have := ih (seen := seen ++ [x]) (x := backing (fileAt l (place l x)))
      simp at this; omega

end Ov
end Go.Proofs.YtomiepknmmpflaaGreatDoor

namespace Go.Proofs.YtomiepknmmpflaaGreatDoor
open Go.RowKit Go.Joins

def encN (ks : List Int) : Nat → Nat
  | 0 => 0
  | k + 1 => encN ks k + if ks.getD k 0 = 1 then 1 else 0
def encE (ks : List Int) (k : Nat) : Int := if ks.getD k 0 = 1 then ((encN ks k + 1 : Nat) : Int) else ks.getD k 0
def encHead (bk : ByteArray) (n : Nat) : ByteArray := ⟨#[79, 86]⟩ ++ strOfNums [1, n, bk.size] ++ bk
def encF (bk : ByteArray) (ks : List Int) (n : Nat) : Nat → ByteArray
  | 0 => encHead bk n
  | k + 1 => encF bk ks n k ++ strOfNums [encE ks k]
def encB (ks : List Int) (bs : List ByteArray) : Nat → ByteArray
  | 0 => ⟨#[]⟩
  | k + 1 => if ks.getD k 0 = 1 then encB ks bs k ++ bs.getD k ⟨#[]⟩ else encB ks bs k
def encode (bk : ByteArray) (ks : List Int) (bs : List ByteArray) : ByteArray := encF bk ks ks.length ks.length ++ strOfNums [(encN ks ks.length : Int)] ++ encB ks bs ks.length
theorem encN_le (ks : List Int) (k : Nat) : encN ks k ≤ k := by
  induction k with
  | zero => simp [encN]
  | succ k ih => simp only [encN]; split <;> omega

theorem encF_size (bk : ByteArray) (ks : List Int) (n k : Nat) : (encF bk ks n k).size = 5 + bk.size + k := by
  induction k with
  | zero =>
    have h2 : (⟨#[79, 86]⟩ : ByteArray).size = 2 := rfl
    simp only [encF, encHead, ByteArray.size_append, strOfNums_size, h2, List.length_cons, List.length_nil]; omega
  | succ k ih => simp only [encF, ByteArray.size_append, strOfNums_size, ih, List.length_cons, List.length_nil]; omega
theorem encB_size (ks : List Int) (bs : List ByteArray) (k : Nat) (h : ∀ j, j < k → (bs.getD j ⟨#[]⟩).size ≤ 8) : (encB ks bs k).size ≤ 8 * k := by
  induction k with
  | zero => exact Nat.le_refl 0
  | succ k ih =>
    have := ih (fun j hj => h j (by omega))
    have := h k (by omega)
    simp only [encB]
    split
    · rw [ByteArray.size_append]; omega
    · omega
end Go.Proofs.YtomiepknmmpflaaGreatDoor

namespace Go.Proofs.YtomiepknmmpflaaGreatDoor
open Go.RowKit Go.Joins

end Go.Proofs.YtomiepknmmpflaaGreatDoor

