/- Chains, as plain functions. -/
import Derived.Test.YtomiepknmmpflaaGreatDoorCWFind
namespace Go.Proofs.YtomiepknmmpflaaGreatDoor
namespace Ov

def headDec (s : ByteArray) : Decidable (headOk s) := by unfold headOk; infer_instance
def entB (s : ByteArray) (k : Nat) : Bool := ent s k == 0 || (ent s k == 255 || (decide (ent s k ≤ datas s) && (List.range k).all fun j => ent s j != ent s k))
/-- Is a file an image? -/
def imageB (s : ByteArray) : Bool := @decide (headOk s) (headDec s) && (List.range (many s)).all fun k => entB s k
theorem entB_iff (s : ByteArray) (k : Nat) : entB s k = true ↔ entOk s k := by
  unfold entB entOk
  simp only [Bool.or_eq_true, beq_iff_eq, Bool.and_eq_true, decide_eq_true_eq, List.all_eq_true, List.mem_range, bne_iff_ne]
theorem imageB_iff (s : ByteArray) : imageB s = true ↔ isImage s := by
  unfold imageB isImage goodTo
  rw [Bool.and_eq_true]
  constructor
  · rintro ⟨h1, h2⟩
    refine ⟨@of_decide_eq_true _ (headDec s) h1, fun i hi => ?_⟩
    rw [List.all_eq_true] at h2
    exact (entB_iff s i).1 (h2 i (by simpa using hi))
  · rintro ⟨h1, h2⟩
    refine ⟨@decide_eq_true _ (headDec s) h1, ?_⟩
    rw [List.all_eq_true]
    exact fun i hi => (entB_iff s i).2 (h2 i (by simpa using hi))

/-- Was a name met? -/
def metB (seen : List ByteArray) (x : ByteArray) : Bool := seen.any fun y => decide (y = x)
theorem metB_iff {seen : List ByteArray} {x : ByteArray} : metB seen x = true ↔ x ∈ seen := by
  unfold metB
  rw [List.any_eq_true]
  constructor
  · rintro ⟨y, hy, h⟩; rw [← of_decide_eq_true h]; exact hy
  · exact fun h => ⟨x, h, decide_eq_true rfl⟩
theorem metB_no {seen : List ByteArray} {x : ByteArray} (h : ∀ j, j < seen.length → seen.getD j ⟨#[]⟩ ≠ x) : metB seen x = false := by
  rw [← Bool.not_eq_true, metB_iff]
  intro hm
  obtain ⟨j, hj, e⟩ := List.mem_iff_getElem.1 hm
  exact h j hj (by simp [hj, e])
theorem metB_at {seen : List ByteArray} {x : ByteArray} {j : Nat} (hj : j < seen.length) (h : seen.getD j ⟨#[]⟩ = x) : metB seen x = true := by
  rw [metB_iff, ← h]
  simp [hj]
/-- The names of a chain, or the error, and where: from a file that there is, with names that were met already. -/
def down (l : Files) : Nat → List ByteArray → ByteArray → List ByteArray × Int × ByteArray
  | 0, _, x => ([], 0, x)
  | f + 1, seen, x =>
    if imageB (fileAt l (place l x)) = false then ([], 5, x)
    else if (backing (fileAt l (place l x))).size = 0 then (seen ++ [x], 0, ⟨#[]⟩)
    else if metB (seen ++ [x]) (backing (fileAt l (place l x))) = true then ([], 7, x)
    else if ¬ place l (backing (fileAt l (place l x))) < l.length then ([], 6, x)
    else down l f (seen ++ [x]) (backing (fileAt l (place l x)))
def downOf (l : Files) (x : ByteArray) : List ByteArray × Int × ByteArray := down l l.length [] x

theorem nodup_lt {l : List Nat} {n : Nat} (h : l.Nodup) (hn : ∀ x ∈ l, x < n) : l.length ≤ n := by
  induction n generalizing l with
  | zero =>
    cases l with
    | nil => simp
    | cons a l => exact absurd (hn a (by simp)) (by omega)
  | succ n ih =>
    have h1 := ih (l := l.erase n) (h.erase n) (fun x hx => by
      have := (h.mem_erase_iff).1 hx
      have := hn x this.2
      omega)
    rw [List.length_erase] at h1
    split at h1 <;> omega
/-- Names that were met: all of files, each once. -/
structure Met (l : Files) (seen : List ByteArray) : Prop where
  nodup : seen.Nodup
  here : ∀ x ∈ seen, place l x < l.length
theorem Met.length {l : Files} {seen : List ByteArray} (h : Met l seen) : seen.length ≤ l.length := by
  have := nodup_lt (l := seen.map (place l)) (n := l.length) (by
    rw [List.Nodup, List.pairwise_map]
    refine List.Pairwise.imp_of_mem ?_ h.nodup
    intro a b ha hb hab e
    exact hab (by rw [← place_name (h.here a ha), ← place_name (h.here b hb), e])) (fun x hx => by
    simp only [List.mem_map] at hx
    obtain ⟨a, ha, rfl⟩ := hx
    exact h.here a ha)
  simpa using this
theorem Met.snoc {l : Files} {seen : List ByteArray} {x : ByteArray} (h : Met l seen) (hx : x ∉ seen) (hp : place l x < l.length) : Met l (seen ++ [x]) := by
  refine ⟨?_, fun y hy => ?_⟩
  · rw [List.nodup_append]
    exact ⟨h.nodup, by simp, fun a ha b hb e => by simp at hb; subst hb; subst e; exact hx ha⟩
  · simp only [List.mem_append, List.mem_singleton] at hy
    rcases hy with hy | rfl
    · exact h.here y hy
    · exact hp

end Ov
end Go.Proofs.YtomiepknmmpflaaGreatDoor

/- Down: what holds in its loops. -/
namespace Go.Proofs.YtomiepknmmpflaaGreatDoor
open Go.RowKit Go.Joins

def lenOf : Value → Nat
  | .slice _ n _ => n
  | _ => 0
/-- What lies below a mark stays owned. -/
theorem owns_below {w w' : World} {base B e size n : Nat} {v : Value} {xs : List Value} (h : w.ownsRow base e size v n xs) (hlt : ∀ k, v.ownBlock = some k → k < B) (hb : Below B w w') : w'.ownsRow base e size v n xs := by
  obtain ⟨h1, h2⟩ := h
  refine ⟨h1, ?_⟩
  rcases h2 with h2 | ⟨g, cap, cur, rfl, hg, hh, r⟩
  · exact Or.inl h2
  · exact Or.inr ⟨g, cap, cur, rfl, hg, by rw [hb.block g (hlt g rfl)]; exact hh, r⟩
theorem owns_all {w w' : World} {base e size n : Nat} {v : Value} {xs : List Value} (h : w.ownsRow base e size v n xs) (hb : Below w.heap.size w w') : w'.ownsRow base e size v n xs := owns_below h (fun k hk => (h.lt k hk).2) hb

/-- Ahead of a round of Down. -/
structure NI (l : Ov.Files) (w : World) (x0 : ByteArray) (seen : List ByteArray) (y : ByteArray) (nv : Value) (wr : World) : Prop where
  met : Ov.Met l seen
  new : y ∉ seen
  here : Ov.place l y < l.length
  eq : Ov.down l (l.length - seen.length) seen y = Ov.downOf l x0
  names : wr.ownsRow w.heap.size 9 1 nv seen.length (seen.map Value.string)
  below : Below w.heap.size w wr
theorem NI.lt {l : Ov.Files} {w wr : World} {x0 y : ByteArray} {seen : List ByteArray} {nv : Value} (h : NI l w x0 seen y nv wr) : seen.length < l.length := by
  have := (h.met.snoc h.new h.here).length
  simp at this; omega
theorem NI.fuel {l : Ov.Files} {w wr : World} {x0 y : ByteArray} {seen : List ByteArray} {nv : Value} (h : NI l w x0 seen y nv wr) : l.length - seen.length = l.length - (seen ++ [y]).length + 1 := by
  have := h.lt
  simp; omega
section
variable {l : Ov.Files} {w wr : World} {x0 y s : ByteArray} {seen : List ByteArray} {nv : Value}
/-- What Down answers, by what is met. -/
theorem NI.corrupt (h : NI l w x0 seen y nv wr) (hs : Ov.fileAt l (Ov.place l y) = s) (hi : Ov.imageB s = false) : Ov.downOf l x0 = ([], 5, y) := by
  rw [← h.eq, h.fuel, Ov.down, hs, if_pos hi]
theorem NI.last (h : NI l w x0 seen y nv wr) (hs : Ov.fileAt l (Ov.place l y) = s) (hi : Ov.imageB s = true) (hb : (Ov.backing s).size = 0) : Ov.downOf l x0 = (seen ++ [y], 0, ⟨#[]⟩) := by
  rw [← h.eq, h.fuel, Ov.down, hs, if_neg (by rw [hi]; simp), if_pos hb]
theorem NI.cycle (h : NI l w x0 seen y nv wr) (hs : Ov.fileAt l (Ov.place l y) = s) (hi : Ov.imageB s = true) (hb : (Ov.backing s).size ≠ 0) (hm : Ov.metB (seen ++ [y]) (Ov.backing s) = true) : Ov.downOf l x0 = ([], 7, y) := by
  rw [← h.eq, h.fuel, Ov.down, hs, if_neg (by rw [hi]; simp), if_neg hb, if_pos hm]
theorem NI.missing (h : NI l w x0 seen y nv wr) (hs : Ov.fileAt l (Ov.place l y) = s) (hi : Ov.imageB s = true) (hb : (Ov.backing s).size ≠ 0) (hm : Ov.metB (seen ++ [y]) (Ov.backing s) = false) (hp : ¬ Ov.place l (Ov.backing s) < l.length) : Ov.downOf l x0 = ([], 6, y) := by
  rw [← h.eq, h.fuel, Ov.down, hs, if_neg (by rw [hi]; simp), if_neg hb, if_neg (by rw [hm]; simp), if_pos hp]
theorem NI.next {wn : World} {v1 : Value} (h : NI l w x0 seen y nv wr) (hs : Ov.fileAt l (Ov.place l y) = s) (hi : Ov.imageB s = true) (hb : (Ov.backing s).size ≠ 0) (hm : Ov.metB (seen ++ [y]) (Ov.backing s) = false) (hp : Ov.place l (Ov.backing s) < l.length)
    (hn : wn.ownsRow w.heap.size 9 1 v1 (seen.length + 1) (seen.map Value.string ++ [.string y])) (hbl : Below w.heap.size w wn) : NI l w x0 (seen ++ [y]) (Ov.backing s) v1 wn := by
  refine ⟨h.met.snoc h.new h.here, fun hmem => ?_, hp, ?_, ?_, hbl⟩
  · rw [← Ov.metB_iff, hm] at hmem; cases hmem
  · rw [← h.eq, h.fuel]
    conv => rhs; rw [Ov.down, hs, if_neg (by rw [hi]; simp), if_neg hb, if_neg (by rw [hm]; simp), if_neg (by omega)]
  · rw [List.map_append, List.length_append]; exact hn
end

end Go.Proofs.YtomiepknmmpflaaGreatDoor
