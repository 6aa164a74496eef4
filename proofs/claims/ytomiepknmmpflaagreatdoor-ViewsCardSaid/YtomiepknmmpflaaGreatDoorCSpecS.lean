/- Chains, as plain functions. -/
import Derived.Test.YtomiepknmmpflaaGreatDoorCWWith
namespace Go.Proofs.YtomiepknmmpflaaGreatDoor
namespace Ov

def headDec (s : ByteArray) : Decidable (headOk s) := by unfold headOk; infer_instance
def entB (s : ByteArray) (k : Nat) : Bool := ent s k == 0 || (ent s k == 255 || (decide (ent s k ≤ datas s) && (List.range k).all fun j => ent s j != ent s k))
/-- Is a file an image? -/
def imageB (s : ByteArray) : Bool := @decide (headOk s) (headDec s) && (List.range (many s)).all fun k => entB s k
theorem entB_iff (s : ByteArray) (k : Nat) : entB s k = true ↔ entOk s k := by
  unfold entB entOk
  simp only [Bool.or_eq_true, beq_iff_eq, Bool.and_eq_true, decide_eq_true_eq, List.all_eq_true, List.mem_range, bne_iff_ne]
theorem imageB_iff (s : ByteArray) : imageB s = true ↔ isImage s := by
  unfold imageB isImage goodTo
  rw [Bool.and_eq_true]
  constructor
  · rintro ⟨h1, h2⟩
    refine ⟨@of_decide_eq_true _ (headDec s) h1, fun i hi => ?_⟩
    rw [List.all_eq_true] at h2
    exact (entB_iff s i).1 (h2 i (by simpa using hi))
  · rintro ⟨h1, h2⟩
    refine ⟨@decide_eq_true _ (headDec s) h1, ?_⟩
    rw [List.all_eq_true]
    exact fun i hi => (entB_iff s i).2 (h2 i (by simpa using hi))

/-- Was a name met? -/
def metB (seen : List ByteArray) (x : ByteArray) : Bool := seen.any fun y => decide (y = x)
theorem metB_iff {seen : List ByteArray} {x : ByteArray} : metB seen x = true ↔ x ∈ seen := by
  unfold metB
  rw [List.any_eq_true]
  constructor
  · rintro ⟨y, hy, h⟩; rw [← of_decide_eq_true h]; exact hy
  · exact fun h => ⟨x, h, decide_eq_true rfl⟩
theorem metB_no {seen : List ByteArray} {x : ByteArray} (h : ∀ j, j < seen.length → seen.getD j ⟨#[]⟩ ≠ x) : metB seen x = false := by
  rw [← Bool.not_eq_true, metB_iff]
  intro hm
  obtain ⟨j, hj, e⟩ := List.mem_iff_getElem.1 hm
  exact h j hj (by simp [hj, e])
theorem metB_at {seen : List ByteArray} {x : ByteArray} {j : Nat} (hj : j < seen.length) (h : seen.getD j ⟨#[]⟩ = x) : metB seen x = true := by
  rw [metB_iff, ← h]
  simp [hj]
/-- The names of a chain, or the error, and where: from a file that there is, with names that were met already. -/
def down (l : Files) : Nat → List ByteArray → ByteArray → List ByteArray × Int × ByteArray
  | 0, _, x => ([], 0, x)
  | f + 1, seen, x =>
    if imageB (fileAt l (place l x)) = false then ([], 5, x)
    else if (backing (fileAt l (place l x))).size = 0 then (seen ++ [x], 0, ⟨#[]⟩)
    else if metB (seen ++ [x]) (backing (fileAt l (place l x))) = true then ([], 7, x)
    else if ¬ place l (backing (fileAt l (place l x))) < l.length then ([], 6, x)
    else down l f (seen ++ [x]) (backing (fileAt l (place l x)))
def downOf (l : Files) (x : ByteArray) : List ByteArray × Int × ByteArray := down l l.length [] x

theorem nodup_lt {l : List Nat} {n : Nat} (h : l.Nodup) (hn : ∀ x ∈ l, x < n) : l.length ≤ n := by
  induction n generalizing l with
  | zero =>
    cases l with
    | nil => simp
    | cons a l => exact absurd (hn a (by simp)) (by omega)
  | succ n ih =>
    have h1 := ih (l := l.erase n) (h.erase n) (fun x hx => by
      have := (h.mem_erase_iff).1 hx
      have := hn x this.2
      omega)
    rw [List.length_erase] at h1
    split at h1 <;> omega
/-- Names that were met: all of files, each once. -/
structure Met (l : Files) (seen : List ByteArray) : Prop where
  nodup : seen.Nodup
  here : ∀ x ∈ seen, place l x < l.length
theorem Met.length {l : Files} {seen : List ByteArray} (h : Met l seen) : seen.length ≤ l.length := by
  have := nodup_lt (l := seen.map (place l)) (n := l.length) (by
    rw [List.Nodup, List.pairwise_map]
    refine List.Pairwise.imp_of_mem ?_ h.nodup
    intro a b ha hb hab e
    exact hab (by rw [← place_name (h.here a ha), ← place_name (h.here b hb), e])) (fun x hx => by
    simp only [List.mem_map] at hx
    obtain ⟨a, ha, rfl⟩ := hx
    exact h.here a ha)
  simpa using this
theorem Met.snoc {l : Files} {seen : List ByteArray} {x : ByteArray} (h : Met l seen) (hx : x ∉ seen) (hp : place l x < l.length) : Met l (seen ++ [x]) := by
  refine ⟨?_, fun y hy => ?_⟩
  · rw [List.nodup_append]
    exact ⟨h.nodup, by simp, fun a ha b hb e => by simp at hb; subst hb; subst e; exact hx ha⟩
  · simp only [List.mem_append, List.mem_singleton] at hy
    rcases hy with hy | rfl
    · exact h.here y hy
    · exact hp

end Ov
end Go.Proofs.YtomiepknmmpflaaGreatDoor

/- Down: what holds in its loops. -/
namespace Go.Proofs.YtomiepknmmpflaaGreatDoor
open Go.RowKit Go.Joins

def lenOf : Value → Nat
  | .slice _ n _ => n
  | _ => 0
/-- What lies below a mark stays owned. -/
theorem owns_below {w w' : World} {base B e size n : Nat} {v : Value} {xs : List Value} (h : w.ownsRow base e size v n xs) (hlt : ∀ k, v.ownBlock = some k → k < B) (hb : Below B w w') : w'.ownsRow base e size v n xs := by
  obtain ⟨h1, h2⟩ := h
  refine ⟨h1, ?_⟩
  rcases h2 with h2 | ⟨g, cap, cur, rfl, hg, hh, r⟩
  · exact Or.inl h2
  · exact Or.inr ⟨g, cap, cur, rfl, hg, by rw [hb.block g (hlt g rfl)]; exact hh, r⟩
theorem owns_all {w w' : World} {base e size n : Nat} {v : Value} {xs : List Value} (h : w.ownsRow base e size v n xs) (hb : Below w.heap.size w w') : w'.ownsRow base e size v n xs := owns_below h (fun k hk => (h.lt k hk).2) hb

/-- Ahead of a round of Down. -/
structure NI (l : Ov.Files) (w : World) (x0 : ByteArray) (seen : List ByteArray) (y : ByteArray) (nv : Value) (wr : World) : Prop where
  met : Ov.Met l seen
  new : y ∉ seen
  here : Ov.place l y < l.length
  eq : Ov.down l (l.length - seen.length) seen y = Ov.downOf l x0
  names : wr.ownsRow w.heap.size 9 1 nv seen.length (seen.map Value.string)
  below : Below w.heap.size w wr
theorem NI.lt {l : Ov.Files} {w wr : World} {x0 y : ByteArray} {seen : List ByteArray} {nv : Value} (h : NI l w x0 seen y nv wr) : seen.length < l.length := by
  have := (h.met.snoc h.new h.here).length
  simp at this; omega
theorem NI.fuel {l : Ov.Files} {w wr : World} {x0 y : ByteArray} {seen : List ByteArray} {nv : Value} (h : NI l w x0 seen y nv wr) : l.length - seen.length = l.length - (seen ++ [y]).length + 1 := by
  have := h.lt
  simp; omega
section
variable {l : Ov.Files} {w wr : World} {x0 y s : ByteArray} {seen : List ByteArray} {nv : Value}
/-- What Down answers, by what is met. -/
theorem NI.corrupt (h : NI l w x0 seen y nv wr) (hs : Ov.fileAt l (Ov.place l y) = s) (hi : Ov.imageB s = false) : Ov.downOf l x0 = ([], 5, y) := by
  rw [← h.eq, h.fuel, Ov.down, hs, if_pos hi]
theorem NI.last (h : NI l w x0 seen y nv wr) (hs : Ov.fileAt l (Ov.place l y) = s) (hi : Ov.imageB s = true) (hb : (Ov.backing s).size = 0) : Ov.downOf l x0 = (seen ++ [y], 0, ⟨#[]⟩) := by
  rw [← h.eq, h.fuel, Ov.down, hs, if_neg (by rw [hi]; simp), if_pos hb]
theorem NI.cycle (h : NI l w x0 seen y nv wr) (hs : Ov.fileAt l (Ov.place l y) = s) (hi : Ov.imageB s = true) (hb : (Ov.backing s).size ≠ 0) (hm : Ov.metB (seen ++ [y]) (Ov.backing s) = true) : Ov.downOf l x0 = ([], 7, y) := by
  rw [← h.eq, h.fuel, Ov.down, hs, if_neg (by rw [hi]; simp), if_neg hb, if_pos hm]
theorem NI.missing (h : NI l w x0 seen y nv wr) (hs : Ov.fileAt l (Ov.place l y) = s) (hi : Ov.imageB s = true) (hb : (Ov.backing s).size ≠ 0) (hm : Ov.metB (seen ++ [y]) (Ov.backing s) = false) (hp : ¬ Ov.place l (Ov.backing s) < l.length) : Ov.downOf l x0 = ([], 6, y) := by
  rw [← h.eq, h.fuel, Ov.down, hs, if_neg (by rw [hi]; simp), if_neg hb, if_neg (by rw [hm]; simp), if_pos hp]
theorem NI.next {wn : World} {v1 : Value} (h : NI l w x0 seen y nv wr) (hs : Ov.fileAt l (Ov.place l y) = s) (hi : Ov.imageB s = true) (hb : (Ov.backing s).size ≠ 0) (hm : Ov.metB (seen ++ [y]) (Ov.backing s) = false) (hp : Ov.place l (Ov.backing s) < l.length)
    (hn : wn.ownsRow w.heap.size 9 1 v1 (seen.length + 1) (seen.map Value.string ++ [.string y])) (hbl : Below w.heap.size w wn) : NI l w x0 (seen ++ [y]) (Ov.backing s) v1 wn := by
  refine ⟨h.met.snoc h.new h.here, fun hmem => ?_, hp, ?_, ?_, hbl⟩
  · rw [← Ov.metB_iff, hm] at hmem; cases hmem
  · rw [← h.eq, h.fuel]
    conv => rhs; rw [Ov.down, hs, if_neg (by rw [hi]; simp), if_neg hb, if_neg (by rw [hm]; simp), if_neg (by omega)]
  · rw [List.map_append, List.length_append]; exact hn
end

end Go.Proofs.YtomiepknmmpflaaGreatDoor

/- The calls of a store, as plain functions: what is answered, and the files behind it. -/
namespace Go.Proofs.YtomiepknmmpflaaGreatDoor
namespace Ov

/-- What a store's files always are. -/
structure LI (room : Nat) (l : Files) : Prop where
  len : l.length ≤ 8
  size : ∀ j, j < l.length → (fileAt l j).size ≤ 1000
  room : room ≤ 4000
  names : ∀ j, j < l.length → nameB (nameAt l j) = true
  nodup : (l.map Prod.fst).Nodup
/-- Files are taken, if there is room. -/
def putF (room : Nat) (l m : Files) : Int × Files := if room < total m then (9, l) else (0, m)
def loadF (room : Nat) (l : Files) (x f : ByteArray) : Int × Files :=
  if nameB x = false then (2, l)
  else if 1000 < f.size ∨ (l.length = 8 ∧ ¬ place l x < l.length) then (1, l)
  else putF room l (withF l x f)
def dumpF (l : Files) (x : ByteArray) : ByteArray × Int := if place l x < l.length then (fileAt l (place l x), 0) else (⟨#[]⟩, 4)
def dropF (l : Files) (x : ByteArray) : Int × Files := if place l x < l.length then (0, l.filter fun f => !decide (f.1 = x)) else (4, l)

theorem withF_length (l : Files) (x b : ByteArray) : (withF l x b).length = if place l x < l.length then l.length else l.length + 1 := by
  unfold withF; split <;> simp
theorem fileAt_set (l : Files) (k j : Nat) (x b : ByteArray) (hk : k < l.length) (hj : j < l.length) : fileAt (l.set k (x, b)) j = if j = k then b else fileAt l j := by
  unfold fileAt
  rw [List.getD_eq_getElem?_getD, List.getD_eq_getElem?_getD, List.getElem?_set]
  by_cases h : k = j
  · subst h; simp [hk]
  · simp [h, Ne.symm h]
theorem fileAt_snoc (l : Files) (j : Nat) (x b : ByteArray) (hj : j < l.length + 1) : fileAt (l ++ [(x, b)]) j = if j = l.length then b else fileAt l j := by
  unfold fileAt
  rw [List.getD_eq_getElem?_getD, List.getD_eq_getElem?_getD]
  by_cases h : j < l.length
  · rw [List.getElem?_append_left h, if_neg (by omega)]
  · have : j = l.length := by omega
    subst this
    simp
theorem withF_size {l : Files} {x b : ByteArray} (h : ∀ j, j < l.length → (fileAt l j).size ≤ 1000) (hb : b.size ≤ 1000) : ∀ j, j < (withF l x b).length → (fileAt (withF l x b) j).size ≤ 1000 := by
  intro j hj
  rw [withF_length] at hj
  unfold withF
  by_cases hp : place l x < l.length
  · rw [if_pos hp] at hj ⊢
    rw [fileAt_set _ _ _ _ _ hp hj]
    split
    · exact hb
    · exact h j hj
  · rw [if_neg hp] at hj ⊢
    rw [fileAt_snoc _ _ _ _ hj]
    split
    · exact hb
    · exact h j (by omega)
theorem nameAt_set (l : Files) (k j : Nat) (x b : ByteArray) (hk : k < l.length) (hj : j < l.length) : nameAt (l.set k (x, b)) j = if j = k then x else nameAt l j := by
  unfold nameAt
  rw [List.getD_eq_getElem?_getD, List.getD_eq_getElem?_getD, List.getElem?_set]
  by_cases h : k = j
  · subst h; simp [hk]
  · simp [h, Ne.symm h]
theorem nameAt_snoc (l : Files) (j : Nat) (x b : ByteArray) (hj : j < l.length + 1) : nameAt (l ++ [(x, b)]) j = if j = l.length then x else nameAt l j := by
  unfold nameAt
  rw [List.getD_eq_getElem?_getD, List.getD_eq_getElem?_getD]
  by_cases h : j < l.length
  · rw [List.getElem?_append_left h, if_neg (by omega)]
  · have : j = l.length := by omega
    subst this
    simp
theorem withF_names {l : Files} {x b : ByteArray} (h : ∀ j, j < l.length → nameB (nameAt l j) = true) (hx : nameB x = true) : ∀ j, j < (withF l x b).length → nameB (nameAt (withF l x b) j) = true := by
  intro j hj
  rw [withF_length] at hj
  unfold withF
  by_cases hp : place l x < l.length
  · rw [if_pos hp] at hj ⊢
    rw [nameAt_set _ _ _ _ _ hp hj]
    split
    · exact hx
    · exact h j hj
  · rw [if_neg hp] at hj ⊢
    rw [nameAt_snoc _ _ _ _ hj]
    split
    · exact hx
    · exact h j (by omega)
theorem nameB_size {x : ByteArray} (h : nameB x = true) : x.size ≤ 8 := by
  unfold nameB isName at h
  simp only [Bool.and_eq_true, decide_eq_true_eq] at h
  simpa using h.2.1
theorem place_mem {l : Files} {x : ByteArray} : place l x < l.length ↔ x ∈ l.map Prod.fst := by
  induction l with
  | nil => simp [place]
  | cons f l ih =>
    by_cases e : f.1 = x
    · simp [place, e]
    · rw [show place (f :: l) x = place l x + 1 from by rw [place, if_neg e]]
      simp only [List.length_cons, List.map_cons, List.mem_cons, Ne.symm e, false_or]
      rw [← ih]; omega
theorem withF_fst {l : Files} {x b : ByteArray} : (withF l x b).map Prod.fst = if place l x < l.length then l.map Prod.fst else l.map Prod.fst ++ [x] := by
  unfold withF
  by_cases hp : place l x < l.length
  · rw [if_pos hp, if_pos hp, List.map_set]
    have hn := place_name hp
    refine List.ext_getElem (by simp) fun i h1 h2 => ?_
    rw [List.getElem_set]
    split
    · rename_i e
      subst e
      have : nameAt l (place l x) = (l.map Prod.fst)[place l x]'h2 := by simp [nameAt, hp]
      rw [← this, hn]
    · rfl
  · rw [if_neg hp, if_neg hp, List.map_append]; rfl
theorem withF_nodup {l : Files} {x b : ByteArray} (h : (l.map Prod.fst).Nodup) : ((withF l x b).map Prod.fst).Nodup := by
  rw [withF_fst]
  split
  · exact h
  · rename_i hp
    rw [place_mem] at hp
    rw [List.nodup_append]
    exact ⟨h, by simp, fun a ha c hc e => by simp at hc; subst hc; subst e; exact hp ha⟩
/-- With names that are all different, a file that is dropped is the one at its place. -/
theorem filter_erase {l : Files} {x : ByteArray} (h : (l.map Prod.fst).Nodup) (hp : place l x < l.length) : (l.filter fun f => !decide (f.1 = x)) = l.eraseIdx (place l x) := by
  induction l with
  | nil => rfl
  | cons f l ih =>
    rw [List.map_cons, List.nodup_cons] at h
    by_cases e : f.1 = x
    · have hx : place (f :: l) x = 0 := by rw [place, if_pos e]
      rw [hx]
      have hall : (l.filter fun g => !decide (g.1 = x)) = l := by
        rw [List.filter_eq_self]
        intro g hg
        have : g.1 ≠ x := fun e2 => h.1 (by rw [e, ← e2]; exact List.mem_map_of_mem hg)
        simp [this]
      simp [e, hall]
    · have hx : place (f :: l) x = place l x + 1 := by rw [place, if_neg e]
      rw [hx] at hp ⊢
      rw [List.filter_cons, if_pos (by simp [e]), ih h.2 (by simpa using hp)]
      rfl
theorem LI.put {room : Nat} {l m : Files} (h : LI room l) (hm : m.length ≤ 8) (hs : ∀ j, j < m.length → (fileAt m j).size ≤ 1000) (hn : ∀ j, j < m.length → nameB (nameAt m j) = true) (hd : (m.map Prod.fst).Nodup) : LI room (putF room l m).2 := by
  unfold putF; split
  · exact h
  · exact ⟨hm, hs, h.room, hn, hd⟩
theorem LI.load {room : Nat} {l : Files} (h : LI room l) (x f : ByteArray) : LI room (loadF room l x f).2 := by
  unfold loadF
  split
  · exact h
  · split
    · exact h
    · rename_i h1 h2
      have hl := h.len
      refine h.put ?_ (withF_size h.size (by omega)) (withF_names h.names (by simpa using h1)) (withF_nodup h.nodup)
      rw [withF_length]; split <;> omega
theorem nameAt_mem {l : Files} {j : Nat} (hj : j < l.length) : ∃ f ∈ l, nameAt l j = f.1 := ⟨l[j], List.getElem_mem hj, by simp [nameAt, hj]⟩
theorem LI.name_size {room : Nat} {l : Files} (h : LI room l) {x : ByteArray} (hx : place l x < l.length) : x.size ≤ 8 := by
  have := h.names _ hx
  rw [place_name hx] at this
  exact nameB_size this
theorem fileAt_mem {l : Files} {j : Nat} (hj : j < l.length) : ∃ f ∈ l, fileAt l j = f.2 := ⟨l[j], List.getElem_mem hj, by simp [fileAt, hj]⟩
theorem LI.drop {room : Nat} {l : Files} (h : LI room l) (x : ByteArray) : LI room (dropF l x).2 := by
  unfold dropF; split
  · refine ⟨?_, fun j hj => ?_, h.room, fun j hj => ?_, (h.nodup).sublist (List.Sublist.map Prod.fst List.filter_sublist)⟩
    · have := List.length_filter_le (fun f : ByteArray × ByteArray => !decide (f.1 = x)) l
      have := h.len
      show (l.filter _).length ≤ 8
      omega
    · obtain ⟨f, hf, e⟩ := fileAt_mem hj
      rw [e]
      obtain ⟨i, hi, e2⟩ := List.mem_iff_getElem.1 (List.mem_filter.1 hf).1
      have := h.size i hi
      rw [show fileAt l i = f.2 from by simp [fileAt, hi, e2]] at this
      exact this
    · obtain ⟨f, hf, e⟩ := nameAt_mem hj
      rw [e]
      obtain ⟨i, hi, e2⟩ := List.mem_iff_getElem.1 (List.mem_filter.1 hf).1
      have := h.names i hi
      rw [show nameAt l i = f.1 from by simp [nameAt, hi, e2]] at this
      exact this
  · exact h

/-- The names of a chain are names of files. -/
theorem down_here {l : Files} (f : Nat) {seen : List ByteArray} {x : ByteArray} (hs : ∀ y ∈ seen, place l y < l.length) (hx : place l x < l.length) : ∀ y ∈ (down l f seen x).1, place l y < l.length := by
  induction f generalizing seen x with
  | zero => intro y hy; simp [down] at hy
  | succ f ih =>
    have h2 : ∀ y ∈ seen ++ [x], place l y < l.length := by
      intro y hy
      simp only [List.mem_append, List.mem_singleton] at hy
      rcases hy with hy | rfl
      · exact hs y hy
      · exact hx
    unfold down
    repeat' split
    · intro y hy; cases hy
    · exact h2
    · intro y hy; cases hy
    · intro y hy; cases hy
    · rename_i h; exact ih h2 (by omega)
def soundF (l : Files) (x : ByteArray) : Int := if place l x < l.length then (downOf l x).2.1 else 4
/-- Names with commas between. -/
def joinTo (ns : List ByteArray) : Nat → ByteArray
  | 0 => ⟨#[]⟩
  | k + 1 => (if 0 < k then joinTo ns k ++ ⟨#[44]⟩ else joinTo ns k) ++ ns.getD k ⟨#[]⟩
theorem joinTo_size {ns : List ByteArray} (h : ∀ y ∈ ns, y.size ≤ 8) (k : Nat) (hk : k ≤ ns.length) : (joinTo ns k).size ≤ 9 * k := by
  induction k with
  | zero => exact Nat.le_refl 0
  | succ k ih =>
    have h1 := ih (by omega)
    have h2 : (ns.getD k ⟨#[]⟩).size ≤ 8 := by
      rw [List.getD_eq_getElem?_getD, List.getElem?_eq_getElem (by omega)]
      exact h _ (List.getElem_mem _)
    have h3 : (⟨#[44]⟩ : ByteArray).size = 1 := rfl
    simp only [joinTo]
    split
    · rw [ByteArray.size_append, ByteArray.size_append, h3]; omega
    · rw [ByteArray.size_append]; omega
def chainF (l : Files) (x : ByteArray) : ByteArray × ByteArray × Int :=
  if place l x < l.length then (joinTo (downOf l x).1 (downOf l x).1.length, (downOf l x).2.2, (downOf l x).2.1) else (⟨#[]⟩, ⟨#[]⟩, 4)
theorem LI.down_size {room : Nat} {l : Files} (h : LI room l) {x : ByteArray} (hx : place l x < l.length) : ∀ y ∈ (downOf l x).1, y.size ≤ 8 := fun y hy =>
  h.name_size (down_here l.length (by simp) hx y hy)
theorem down_length {l : Files} (f : Nat) {seen : List ByteArray} {x : ByteArray} : (down l f seen x).1.length ≤ f + seen.length := by
  induction f generalizing seen x with
  | zero => simp [down]
  | succ f ih =>
    unfold down
    repeat' split
    · simp
    · simp; omega
    · simp
    · simp
    · have := ih (seen := seen ++ [x]) (x := backing (fileAt l (place l x)))
      simp at this; omega

end Ov
end Go.Proofs.YtomiepknmmpflaaGreatDoor

/- An image's file, piece by piece, as Encode makes it. -/
namespace Go.Proofs.YtomiepknmmpflaaGreatDoor
open Go.RowKit Go.Joins

/-- How many of the first k entries are data. -/
def encN (ks : List Int) : Nat → Nat
  | 0 => 0
  | k + 1 => encN ks k + if ks.getD k 0 = 1 then 1 else 0
/-- The entry's byte. -/
def encE (ks : List Int) (k : Nat) : Int := if ks.getD k 0 = 1 then ((encN ks k + 1 : Nat) : Int) else ks.getD k 0
def encHead (bk : ByteArray) (n : Nat) : ByteArray := ⟨#[79, 86]⟩ ++ strOfNums [1, n, bk.size] ++ bk
def encF (bk : ByteArray) (ks : List Int) (n : Nat) : Nat → ByteArray
  | 0 => encHead bk n
  | k + 1 => encF bk ks n k ++ strOfNums [encE ks k]
def encB (ks : List Int) (bs : List ByteArray) : Nat → ByteArray
  | 0 => ⟨#[]⟩
  | k + 1 => if ks.getD k 0 = 1 then encB ks bs k ++ bs.getD k ⟨#[]⟩ else encB ks bs k
/-- The file whole. -/
def encode (bk : ByteArray) (ks : List Int) (bs : List ByteArray) : ByteArray := encF bk ks ks.length ks.length ++ strOfNums [(encN ks ks.length : Int)] ++ encB ks bs ks.length
theorem encN_le (ks : List Int) (k : Nat) : encN ks k ≤ k := by
  induction k with
  | zero => simp [encN]
  | succ k ih => simp only [encN]; split <;> omega

theorem encF_size (bk : ByteArray) (ks : List Int) (n k : Nat) : (encF bk ks n k).size = 5 + bk.size + k := by
  induction k with
  | zero =>
    have h2 : (⟨#[79, 86]⟩ : ByteArray).size = 2 := rfl
    simp only [encF, encHead, ByteArray.size_append, strOfNums_size, h2, List.length_cons, List.length_nil]; omega
  | succ k ih => simp only [encF, ByteArray.size_append, strOfNums_size, ih, List.length_cons, List.length_nil]; omega
theorem encB_size (ks : List Int) (bs : List ByteArray) (k : Nat) (h : ∀ j, j < k → (bs.getD j ⟨#[]⟩).size ≤ 8) : (encB ks bs k).size ≤ 8 * k := by
  induction k with
  | zero => exact Nat.le_refl 0
  | succ k ih =>
    have := ih (fun j hj => h j (by omega))
    have := h k (by omega)
    simp only [encB]
    split
    · rw [ByteArray.size_append]; omega
    · omega
theorem conv_lit (w : World) (b : Nat) (hb : b = w.heap.size) (xs : List Int) (h : ∀ i, i < xs.length → ((xs.map (Value.int .u8)).toArray)[i]? = some (.int .u8 (xs.getD i 0))) (m : Nat) (hm : xs.length = m) :
    (convert 103 9 (.slice (some ⟨b, 0, none⟩) m m)).run Tryz.prog (w.alloc (.cells (xs.map (Value.int .u8)).toArray 5)) = .ok (.string (strOfNums xs)) (w.alloc (.cells (xs.map (Value.int .u8)).toArray 5)) := by
  subst hb
  refine run_convert_bytes_arg _ 103 5 Tryz.underlying103 Tryz.underlying5 w.heap.size 0 m m xs hm (fun i hi => ?_) 9 Tryz.underlying9
  rw [Nat.zero_add, cell_alloc_mark_at w _ _ (0, 0) _ i rfl, h i (by omega)]
theorem conv1 (w : World) (x : Int) : (convert 103 9 (.slice (some ⟨w.heap.size, 0, none⟩) 1 1)).run Tryz.prog (w.alloc (.cells #[.int .u8 x] 5)) = .ok (.string (strOfNums [x])) (w.alloc (.cells #[.int .u8 x] 5)) :=
  conv_lit w _ rfl [x] (fun i hi => by match i, hi with | 0, _ => rfl) 1 rfl
theorem conv3 (w : World) (b : Nat) (hb : b = w.heap.size) (x y z : Int) : (convert 103 9 (.slice (some ⟨b, 0, none⟩) 3 3)).run Tryz.prog (w.alloc (.cells #[.int .u8 x, .int .u8 y, .int .u8 z] 5)) = .ok (.string (strOfNums [x, y, z])) (w.alloc (.cells #[.int .u8 x, .int .u8 y, .int .u8 z] 5)) :=
  conv_lit w _ hb [x, y, z] (fun i hi => by match i, hi with | 0, _ => rfl | 1, _ => rfl | 2, _ => rfl) 3 rfl

theorem ints_cell {w : World} {base g c n : Nat} {ks : List Int} (h : w.ownsRow base 3 1 (.slice (some ⟨g, 0, none⟩) n c) n (ks.map (Value.int .i64))) {k : Nat} (hk : k < n) : w.cell? ⟨g, k, none⟩ = some (.int .i64 (ks.getD k 0)) := by
  have hl : ks.length = n := by have := h.1; simpa using this
  rw [h.cellAt k (by omega), List.getElem?_map, List.getD_eq_getElem?_getD, List.getElem?_eq_getElem (by omega)]; rfl
theorem texts_cell {w : World} {base g c n : Nat} {bs : List ByteArray} (h : w.ownsRow base 9 1 (.slice (some ⟨g, 0, none⟩) n c) n (bs.map Value.string)) {k : Nat} (hk : k < n) : w.cell? ⟨g, k, none⟩ = some (.string (bs.getD k ⟨#[]⟩)) := by
  have hl : bs.length = n := by have := h.1; simpa using this
  rw [h.cellAt k (by omega), List.getElem?_map, List.getD_eq_getElem?_getD, List.getElem?_eq_getElem (by omega)]; rfl

end Go.Proofs.YtomiepknmmpflaaGreatDoor

/- The walk of the reference's Encode. -/
namespace Go.Proofs.YtomiepknmmpflaaGreatDoor
open Go.RowKit Go.Joins

theorem box_cell {w : World} {cs : Array Value} {t : TypeId} (o : Obj) : ((w.alloc (.cells cs t)).alloc o).heap[w.heap.size]? = some (.cells cs t (0, 0)) := by
  rw [Below.heap_alloc _ _ _ (by simp)]
  show (w.heap.push _)[w.heap.size]? = _
  simp

set_option maxRecDepth 100000 in
set_option maxHeartbeats 400000 in
theorem rEncode_calls (bk : ByteArray) (ks : List Int) (bs : List ByteArray) (ea ba : Option Addr) (ec bc : Nat) (lost : Int) (n base : Nat) (w : World) (hbk : bk.size ≤ 8) (hn : n ≤ 30) (hk : w.ownsRow base 3 1 (.slice ea n ec) n (ks.map (Value.int .i64))) (hb : w.ownsRow base 9 1 (.slice ba n bc) n (bs.map Value.string)) (hks : ∀ k, k < n → 0 ≤ ks.getD k 0 ∧ ks.getD k 0 ≤ 255) (hbs : ∀ k, k < n → (bs.getD k ⟨#[]⟩).size ≤ 8) :
    Calls Tryz.prog 163 #[.agg #[.string bk, .slice ea n ec, .slice ba n bc, .int .i64 lost]] w fun e w' => e = .returned (.string (encode bk ks bs)) ∧ Below w.heap.size w w' := by
  have hL : ks.length = n := by have := hk.1; simpa using this
  have HL := hide hL
  clear hL
  have HK := hide hk
  have HB := hide hb
  have HKS := hide hks
  have HBS := hide hbs
  clear hk hb hks hbs
  have hs3 : (strOfNums [1, (n : Int), (bk.size : Int)]).size = 3 := strOfNums_size _
  have hs1 : ∀ x, (strOfNums [x]).size = 1 := fun _ => strOfNums_size _
  have h3 := conv3 (w.alloc (Obj.cells #[Value.string bk, Value.slice ea n ec, Value.slice ba n bc, Value.int IntKind.i64 lost] 240)) (w.heap.size + 1) (by simp) 1 n bk.size
  go_enter Tryz.func163, Tryz.ntmps163
  go_wp2_with fail
  clear h3
  go_loopw [3, 4, 5, 6, 7] (fun f nn bl i _ wr => ∃ k, k ≤ n ∧ i = .int .i64 (k : Nat) ∧ f = .string (encF bk ks n k) ∧ nn = .int .i64 (encN ks k : Nat) ∧ bl = .string (encB ks bs k) ∧ Below w.heap.size w wr ∧ w.heap.size < wr.heap.size ∧ wr.heap[w.heap.size]? = some (.cells #[.string bk, .slice ea n ec, .slice ba n bc, .int .i64 lost] 240 (0, 0))) (fun _ _ _ i _ _ => n - (intOf i).toNat)
  case atStart => exact ⟨0, Nat.zero_le _, rfl, rfl, rfl, rfl, below_alloc2 w _ _, by simp; omega, box_cell _⟩
  case round =>
    obtain ⟨k, hk, rfl, rfl, rfl, rfl, hbl, hsz, hbox⟩ := hrel
    have b1 : wr.cell? ⟨w.heap.size, 1, none⟩ = some (.slice ea n ec) := blk_cell hbox rfl
    have b2 : wr.cell? ⟨w.heap.size, 2, none⟩ = some (.slice ba n bc) := blk_cell hbox rfl
    have hnk := encN_le ks k
    have hfs := encF_size bk ks n k
    have hbsz := encB_size ks bs k (fun j hj => unhide HBS j (by omega))
    have HBX := hide hbox
    have HBL := hide hbl
    clear hbox hbl
    by_cases hlt : k < n
    · obtain ⟨ge, ce, hve⟩ := ownsRow_form (unhide HK) (by omega)
      obtain ⟨rfl, rfl⟩ : ea = some ⟨ge, 0, none⟩ ∧ ec = ce := by simpa using hve
      obtain ⟨gb, cb, hvb⟩ := ownsRow_form (unhide HB) (by omega)
      obtain ⟨rfl, rfl⟩ : ba = some ⟨gb, 0, none⟩ ∧ bc = cb := by simpa using hvb
      have ck := ints_cell (owns_all (unhide HK) (unhide HBL)) hlt
      have ct := texts_cell (owns_all (unhide HB) (unhide HBL)) hlt
      have hkb := unhide HKS k hlt
      have htb := unhide HBS k hlt
      obtain ⟨q, hq⟩ : ∃ q, ks.getD k 0 = q := ⟨_, rfl⟩
      obtain ⟨t, ht⟩ : ∃ t, bs.getD k ⟨#[]⟩ = t := ⟨_, rfl⟩
      rw [hq] at ck hkb
      rw [ht] at ct htb
      have HQ := hide hq
      have HT := hide ht
      clear hve hvb hq ht
      by_cases h1 : q = 1
      · subst h1
        have h1c := conv1 wr (encN ks k + 1 : Nat)
        simp only [Int.natCast_add, Int.cast_ofNat_Int] at h1c
        go_wp2_with fail
        go_roundw
        case rel => exact ⟨k + 1, by omega, by go_num, by rw [encF, encE, if_pos (unhide HQ)]; rfl, by rw [encN, if_pos (unhide HQ)]; rfl, by rw [encB, if_pos (unhide HQ), unhide HT], (unhide HBL).alloc (by omega) _, by simp; omega, blk_alloc (unhide HBX) _⟩
        case measure => simp [intOf]; omega
      · have hq1 : (q == 1) = false := beq_eq_false_iff_ne.2 h1
        have h1c := conv1 wr q
        go_wp2_with fail
        go_roundw
        case rel => exact ⟨k + 1, by omega, by go_num, by rw [encF, encE, if_neg (by rw [unhide HQ]; exact h1), unhide HQ], by rw [encN, if_neg (by rw [unhide HQ]; exact h1)]; rfl, by rw [encB, if_neg (by rw [unhide HQ]; exact h1)], (unhide HBL).alloc (by omega) _, by simp; omega, blk_alloc (unhide HBX) _⟩
        case measure => simp [intOf]; omega
    · obtain rfl : k = n := by omega
      have h1c := conv1 wr (encN ks k)
      go_wp2_with fail
      go_ret
      exact ⟨by rw [encode, unhide HL]; rfl, (unhide HBL).alloc (by omega) _⟩

end Go.Proofs.YtomiepknmmpflaaGreatDoor
