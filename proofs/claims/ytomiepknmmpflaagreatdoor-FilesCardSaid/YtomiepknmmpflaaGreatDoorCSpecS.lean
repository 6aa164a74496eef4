/- The calls of a store, as plain functions: what is answered, and the files behind it. -/
import Derived.Test.YtomiepknmmpflaaGreatDoorCPDown
namespace Go.Proofs.YtomiepknmmpflaaGreatDoor
namespace Ov

/-- What a store's files always are. -/
structure LI (room : Nat) (l : Files) : Prop where
  len : l.length ≤ 8
  size : ∀ j, j < l.length → (fileAt l j).size ≤ 1000
  room : room ≤ 4000
  names : ∀ j, j < l.length → nameB (nameAt l j) = true
  nodup : (l.map Prod.fst).Nodup
/-- Files are taken, if there is room. -/
def putF (room : Nat) (l m : Files) : Int × Files := if room < total m then (9, l) else (0, m)
def loadF (room : Nat) (l : Files) (x f : ByteArray) : Int × Files :=
  if nameB x = false then (2, l)
  else if 1000 < f.size ∨ (l.length = 8 ∧ ¬ place l x < l.length) then (1, l)
  else putF room l (withF l x f)
def dumpF (l : Files) (x : ByteArray) : ByteArray × Int := if place l x < l.length then (fileAt l (place l x), 0) else (⟨#[]⟩, 4)
def dropF (l : Files) (x : ByteArray) : Int × Files := if place l x < l.length then (0, l.filter fun f => !decide (f.1 = x)) else (4, l)

theorem withF_length (l : Files) (x b : ByteArray) : (withF l x b).length = if place l x < l.length then l.length else l.length + 1 := by
  unfold withF; split <;> simp
theorem fileAt_set (l : Files) (k j : Nat) (x b : ByteArray) (hk : k < l.length) (hj : j < l.length) : fileAt (l.set k (x, b)) j = if j = k then b else fileAt l j := by
  unfold fileAt
  rw [List.getD_eq_getElem?_getD, List.getD_eq_getElem?_getD, List.getElem?_set]
  by_cases h : k = j
  · subst h; simp [hk]
  · simp [h, Ne.symm h]
theorem fileAt_snoc (l : Files) (j : Nat) (x b : ByteArray) (hj : j < l.length + 1) : fileAt (l ++ [(x, b)]) j = if j = l.length then b else fileAt l j := by
  unfold fileAt
  rw [List.getD_eq_getElem?_getD, List.getD_eq_getElem?_getD]
  by_cases h : j < l.length
  · rw [List.getElem?_append_left h, if_neg (by omega)]
  · have : j = l.length := by omega
    subst this
    simp
theorem withF_size {l : Files} {x b : ByteArray} (h : ∀ j, j < l.length → (fileAt l j).size ≤ 1000) (hb : b.size ≤ 1000) : ∀ j, j < (withF l x b).length → (fileAt (withF l x b) j).size ≤ 1000 := by
  intro j hj
  rw [withF_length] at hj
  unfold withF
  by_cases hp : place l x < l.length
  · rw [if_pos hp] at hj ⊢
    rw [fileAt_set _ _ _ _ _ hp hj]
    split
    · exact hb
    · exact h j hj
  · rw [if_neg hp] at hj ⊢
    rw [fileAt_snoc _ _ _ _ hj]
    split
    · exact hb
    · exact h j (by omega)
theorem nameAt_set (l : Files) (k j : Nat) (x b : ByteArray) (hk : k < l.length) (hj : j < l.length) : nameAt (l.set k (x, b)) j = if j = k then x else nameAt l j := by
  unfold nameAt
  rw [List.getD_eq_getElem?_getD, List.getD_eq_getElem?_getD, List.getElem?_set]
  by_cases h : k = j
  · subst h; simp [hk]
  · simp [h, Ne.symm h]
theorem nameAt_snoc (l : Files) (j : Nat) (x b : ByteArray) (hj : j < l.length + 1) : nameAt (l ++ [(x, b)]) j = if j = l.length then x else nameAt l j := by
  unfold nameAt
  rw [List.getD_eq_getElem?_getD, List.getD_eq_getElem?_getD]
  by_cases h : j < l.length
  · rw [List.getElem?_append_left h, if_neg (by omega)]
  · have : j = l.length := by omega
    subst this
    simp
theorem withF_names {l : Files} {x b : ByteArray} (h : ∀ j, j < l.length → nameB (nameAt l j) = true) (hx : nameB x = true) : ∀ j, j < (withF l x b).length → nameB (nameAt (withF l x b) j) = true := by
  intro j hj
  rw [withF_length] at hj
  unfold withF
  by_cases hp : place l x < l.length
  · rw [if_pos hp] at hj ⊢
    rw [nameAt_set _ _ _ _ _ hp hj]
    split
    · exact hx
    · exact h j hj
  · rw [if_neg hp] at hj ⊢
    rw [nameAt_snoc _ _ _ _ hj]
    split
    · exact hx
    · exact h j (by omega)
theorem nameB_size {x : ByteArray} (h : nameB x = true) : x.size ≤ 8 := by
  unfold nameB isName at h
  simp only [Bool.and_eq_true, decide_eq_true_eq] at h
  simpa using h.2.1
theorem place_mem {l : Files} {x : ByteArray} : place l x < l.length ↔ x ∈ l.map Prod.fst := by
  induction l with
  | nil => simp [place]
  | cons f l ih =>
    by_cases e : f.1 = x
    · simp [place, e]
    · rw [show place (f :: l) x = place l x + 1 from by rw [place, if_neg e]]
      simp only [List.length_cons, List.map_cons, List.mem_cons, Ne.symm e, false_or]
      rw [← ih]; omega
theorem withF_fst {l : Files} {x b : ByteArray} : (withF l x b).map Prod.fst = if place l x < l.length then l.map Prod.fst else l.map Prod.fst ++ [x] := by
  unfold withF
  by_cases hp : place l x < l.length
  · rw [if_pos hp, if_pos hp, List.map_set]
    have hn := place_name hp
    refine List.ext_getElem (by simp) fun i h1 h2 => ?_
    rw [List.getElem_set]
    split
    · rename_i e
      subst e
      have : nameAt l (place l x) = (l.map Prod.fst)[place l x]'h2 := by simp [nameAt, hp]
      rw [← this, hn]
    · rfl
  · rw [if_neg hp, if_neg hp, List.map_append]; rfl
theorem withF_nodup {l : Files} {x b : ByteArray} (h : (l.map Prod.fst).Nodup) : ((withF l x b).map Prod.fst).Nodup := by
  rw [withF_fst]
  split
  · exact h
  · rename_i hp
    rw [place_mem] at hp
    rw [List.nodup_append]
    exact ⟨h, by simp, fun a ha c hc e => by simp at hc; subst hc; subst e; exact hp ha⟩
/-- With names that are all different, a file that is dropped is the one at its place. -/
theorem filter_erase {l : Files} {x : ByteArray} (h : (l.map Prod.fst).Nodup) (hp : place l x < l.length) : (l.filter fun f => !decide (f.1 = x)) = l.eraseIdx (place l x) := by
  induction l with
  | nil => rfl
  | cons f l ih =>
    rw [List.map_cons, List.nodup_cons] at h
    by_cases e : f.1 = x
    · have hx : place (f :: l) x = 0 := by rw [place, if_pos e]
      rw [hx]
      have hall : (l.filter fun g => !decide (g.1 = x)) = l := by
        rw [List.filter_eq_self]
        intro g hg
        have : g.1 ≠ x := fun e2 => h.1 (by rw [e, ← e2]; exact List.mem_map_of_mem hg)
        simp [this]
      simp [e, hall]
    · have hx : place (f :: l) x = place l x + 1 := by rw [place, if_neg e]
      rw [hx] at hp ⊢
      rw [List.filter_cons, if_pos (by simp [e]), ih h.2 (by simpa using hp)]
      rfl
theorem LI.put {room : Nat} {l m : Files} (h : LI room l) (hm : m.length ≤ 8) (hs : ∀ j, j < m.length → (fileAt m j).size ≤ 1000) (hn : ∀ j, j < m.length → nameB (nameAt m j) = true) (hd : (m.map Prod.fst).Nodup) : LI room (putF room l m).2 := by
  unfold putF; split
  · exact h
  · exact ⟨hm, hs, h.room, hn, hd⟩
theorem LI.load {room : Nat} {l : Files} (h : LI room l) (x f : ByteArray) : LI room (loadF room l x f).2 := by
  unfold loadF
  split
  · exact h
  · split
    · exact h
    · rename_i h1 h2
      have hl := h.len
      refine h.put ?_ (withF_size h.size (by omega)) (withF_names h.names (by simpa using h1)) (withF_nodup h.nodup)
      rw [withF_length]; split <;> omega
theorem nameAt_mem {l : Files} {j : Nat} (hj : j < l.length) : ∃ f ∈ l, nameAt l j = f.1 := ⟨l[j], List.getElem_mem hj, by simp [nameAt, hj]⟩
theorem LI.name_size {room : Nat} {l : Files} (h : LI room l) {x : ByteArray} (hx : place l x < l.length) : x.size ≤ 8 := by
  have := h.names _ hx
  rw [place_name hx] at this
  exact nameB_size this
theorem fileAt_mem {l : Files} {j : Nat} (hj : j < l.length) : ∃ f ∈ l, fileAt l j = f.2 := ⟨l[j], List.getElem_mem hj, by simp [fileAt, hj]⟩
theorem LI.drop {room : Nat} {l : Files} (h : LI room l) (x : ByteArray) : LI room (dropF l x).2 := by
  unfold dropF; split
  · refine ⟨?_, fun j hj => ?_, h.room, fun j hj => ?_, (h.nodup).sublist (List.Sublist.map Prod.fst List.filter_sublist)⟩
    · have := List.length_filter_le (fun f : ByteArray × ByteArray => !decide (f.1 = x)) l
      have := h.len
      show (l.filter _).length ≤ 8
      omega
    · obtain ⟨f, hf, e⟩ := fileAt_mem hj
      rw [e]
      obtain ⟨i, hi, e2⟩ := List.mem_iff_getElem.1 (List.mem_filter.1 hf).1
      have := h.size i hi
      rw [show fileAt l i = f.2 from by simp [fileAt, hi, e2]] at this
      exact this
    · obtain ⟨f, hf, e⟩ := nameAt_mem hj
      rw [e]
      obtain ⟨i, hi, e2⟩ := List.mem_iff_getElem.1 (List.mem_filter.1 hf).1
      have := h.names i hi
      rw [show nameAt l i = f.1 from by simp [nameAt, hi, e2]] at this
      exact this
  · exact h

/-- The names of a chain are names of files. -/
theorem down_here {l : Files} (f : Nat) {seen : List ByteArray} {x : ByteArray} (hs : ∀ y ∈ seen, place l y < l.length) (hx : place l x < l.length) : ∀ y ∈ (down l f seen x).1, place l y < l.length := by
  induction f generalizing seen x with
  | zero => intro y hy; simp [down] at hy
  | succ f ih =>
    have h2 : ∀ y ∈ seen ++ [x], place l y < l.length := by
      intro y hy
      simp only [List.mem_append, List.mem_singleton] at hy
      rcases hy with hy | rfl
      · exact hs y hy
      · exact hx
    unfold down
    repeat' split
    · intro y hy; cases hy
    · exact h2
    · intro y hy; cases hy
    · intro y hy; cases hy
    · rename_i h; exact ih h2 (by omega)
def soundF (l : Files) (x : ByteArray) : Int := if place l x < l.length then (downOf l x).2.1 else 4
/-- Names with commas between. -/
def joinTo (ns : List ByteArray) : Nat → ByteArray
  | 0 => ⟨#[]⟩
  | k + 1 => (if 0 < k then joinTo ns k ++ ⟨#[44]⟩ else joinTo ns k) ++ ns.getD k ⟨#[]⟩
theorem joinTo_size {ns : List ByteArray} (h : ∀ y ∈ ns, y.size ≤ 8) (k : Nat) (hk : k ≤ ns.length) : (joinTo ns k).size ≤ 9 * k := by
  induction k with
  | zero => exact Nat.le_refl 0
  | succ k ih =>
    have h1 := ih (by omega)
    have h2 : (ns.getD k ⟨#[]⟩).size ≤ 8 := by
      rw [List.getD_eq_getElem?_getD, List.getElem?_eq_getElem (by omega)]
      exact h _ (List.getElem_mem _)
    have h3 : (⟨#[44]⟩ : ByteArray).size = 1 := rfl
    simp only [joinTo]
    split
    · rw [ByteArray.size_append, ByteArray.size_append, h3]; omega
    · rw [ByteArray.size_append]; omega
def chainF (l : Files) (x : ByteArray) : ByteArray × ByteArray × Int :=
  if place l x < l.length then (joinTo (downOf l x).1 (downOf l x).1.length, (downOf l x).2.2, (downOf l x).2.1) else (⟨#[]⟩, ⟨#[]⟩, 4)
theorem LI.down_size {room : Nat} {l : Files} (h : LI room l) {x : ByteArray} (hx : place l x < l.length) : ∀ y ∈ (downOf l x).1, y.size ≤ 8 := fun y hy =>
  h.name_size (down_here l.length (by simp) hx y hy)
theorem down_length {l : Files} (f : Nat) {seen : List ByteArray} {x : ByteArray} : (down l f seen x).1.length ≤ f + seen.length := by
  induction f generalizing seen x with
  | zero => simp [down]
  | succ f ih =>
    unfold down
    repeat' split
    · simp
    · simp; omega
    · simp
    · simp
    · have := ih (seen := seen ++ [x]) (x := backing (fileAt l (place l x)))
      simp at this; omega

end Ov
end Go.Proofs.YtomiepknmmpflaaGreatDoor
