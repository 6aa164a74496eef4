/- The walks of the reference's sound and Chain. -/
import Derived.Test.YtomiepknmmpflaaGreatDoorKPParse
import Derived.Test.YtomiepknmmpflaaGreatDoorKWDown
import Derived.Deep.CutRange
import Derived.Handy
import Derived.Deep.LoopGhost
namespace Go.Proofs.YtomiepknmmpflaaGreatDoor
open Go.RowKit Go.Joins

end Go.Proofs.YtomiepknmmpflaaGreatDoor

namespace Go.Proofs.YtomiepknmmpflaaGreatDoor
open Go.RowKit Go.Joins

structure MK (bk : ByteArray) (n : Nat) (w : World) (p : Value) (W : World) (X ge gb : Nat) : Prop where
  ptr : p = .pointer (some ⟨X, 0, none⟩)
  below : Below w.heap.size w W
  x : W.heap[X]? = some (.cells #[.string bk, .slice (some ⟨ge, 0, none⟩) n n, .slice (some ⟨gb, 0, none⟩) n n, .int .i64 0] 240 (0, 0))
  e : W.heap[ge]? = some (.cells (zInts n) 3 (0, 0))
  b : W.heap[gb]? = some (.cells (zTexts n) 9 (0, 0))

end Go.Proofs.YtomiepknmmpflaaGreatDoor

namespace Go.Proofs.YtomiepknmmpflaaGreatDoor
open Go.RowKit Go.Joins

namespace Ov
def Chn (l : Files) : List ByteArray → ByteArray → Prop
  | [], _ => False
  | y :: ns, x => x = y ∧ place l x < l.length ∧ isImage (fileAt l (place l x)) ∧ ((backing (fileAt l (place l x))).size = 0 ∧ ns = [] ∨ (backing (fileAt l (place l x))).size ≠ 0 ∧ Chn l ns (backing (fileAt l (place l x))))
theorem Chn.last {l : Files} (x : ByteArray) (h1 : place l x < l.length) (h2 : isImage (fileAt l (place l x))) (h3 : (backing (fileAt l (place l x))).size = 0) : Chn l [x] x := ⟨rfl, h1, h2, Or.inl ⟨h3, rfl⟩⟩
theorem Chn.over {l : Files} (x : ByteArray) (ns : List ByteArray) (h1 : place l x < l.length) (h2 : isImage (fileAt l (place l x))) (h3 : (backing (fileAt l (place l x))).size ≠ 0) (h4 : Chn l ns (backing (fileAt l (place l x)))) : Chn l (x :: ns) x := ⟨rfl, h1, h2, Or.inr ⟨h3, h4⟩⟩
theorem down_chn {l : Files} (f : Nat) : ∀ {seen : List ByteArray} {x : ByteArray}, Met l seen → x ∉ seen → place l x < l.length → l.length ≤ seen.length + f → (down l f seen x).2.1 = 0 → ∃ ns, (down l f seen x).1 = seen ++ ns ∧ Chn l ns x := by
  induction f with
  | zero =>
    intro seen x h hx hp hf
    have := (h.snoc hx hp).length
    simp at this
    omega
  | succ f ih =>
    intro seen x h hx hp hf
    unfold down
    split
    · intro k; exact absurd k (by simp)
    · rename_i him
      have hi : isImage (fileAt l (place l x)) := (imageB_iff _).1 (by simpa using him)
      split
      · rename_i hk
        exact fun _ => ⟨[x], rfl, .last x hp hi hk⟩
      · rename_i hk
        split
        · intro k; exact absurd k (by simp)
        · split
          · intro k; exact absurd k (by simp)
          · rename_i hm hq
            intro k
            obtain ⟨ns, h1, h2⟩ := ih (h.snoc hx hp) (fun q => hm (metB_iff.2 q)) (by simpa using hq) (by simp; omega) k
            exact ⟨x :: ns, by rw [h1, List.append_assoc]; rfl, .over x ns hp hi hk h2⟩
theorem downOf_chn {l : Files} {x : ByteArray} (hp : place l x < l.length) (h : (downOf l x).2.1 = 0) : Chn l (downOf l x).1 x := by
  obtain ⟨ns, h1, h2⟩ := down_chn l.length (seen := []) ⟨List.nodup_nil, fun y hy => by cases hy⟩ (by simp) hp (by simp) h
  have : (downOf l x).1 = ns := h1
  rw [this]; exact h2
theorem Chn.here {l : Files} {ns : List ByteArray} {x : ByteArray} (h : Chn l ns x) : place l x < l.length := by
  cases ns with
  | nil => exact h.elim
  | cons y ns => exact h.2.1
theorem Chn.image {l : Files} {ns : List ByteArray} {x : ByteArray} (h : Chn l ns x) : isImage (fileAt l (place l x)) := by
  cases ns with
  | nil => exact h.elim
  | cons y ns => exact h.2.2.1
def atTo (l : Files) : List ByteArray → Nat → Nat
  | [], _ => 0
  | y :: ns, i =>
    if many (fileAt l (place l y)) ≤ i / 8 then 0
    else if kindOf (ent (fileAt l (place l y)) (i / 8)) = 255 then 0
    else if kindOf (ent (fileAt l (place l y)) (i / 8)) = 1 then byteAt (blockOf (fileAt l (place l y)) (ent (fileAt l (place l y)) (i / 8))) (i % 8)
    else atTo l ns i
theorem atTo_lt (l : Files) (ns : List ByteArray) (i : Nat) : atTo l ns i < 256 := by
  induction ns with
  | nil => simp [atTo]
  | cons y ns ih =>
    unfold atTo
    split
    · omega
    · split
      · omega
      · split
        · exact byteAt_lt _ _
        · exact ih
theorem atTo_cons (l : Files) (y : ByteArray) (ns : List ByteArray) (i : Nat) : atTo l (y :: ns) i = if many (fileAt l (place l y)) ≤ i / 8 then 0 else if kindOf (ent (fileAt l (place l y)) (i / 8)) = 255 then 0 else if kindOf (ent (fileAt l (place l y)) (i / 8)) = 1 then byteAt (blockOf (fileAt l (place l y)) (ent (fileAt l (place l y)) (i / 8))) (i % 8) else atTo l ns i := rfl
theorem Chn.cons {l : Files} {ms : List ByteArray} {y : ByteArray} (h : Chn l ms y) : ∃ ns, ms = y :: ns ∧ (ns = [] ∧ (backing (fileAt l (place l y))).size = 0 ∨ Chn l ns (backing (fileAt l (place l y)))) := by
  cases ms with
  | nil => exact h.elim
  | cons x ns =>
    obtain ⟨rfl, _, _, h | h⟩ := h
    · obtain ⟨h3, rfl⟩ := h
      exact ⟨[], rfl, Or.inl ⟨rfl, h3⟩⟩
    · exact ⟨ns, rfl, Or.inr h.2⟩
theorem atTo_short {l : Files} {ms : List ByteArray} {y s : ByteArray} {i : Nat} (h : Chn l ms y) (hs : fileAt l (place l y) = s) (hq : many s ≤ i / 8) : atTo l ms i = 0 := by
  obtain ⟨ns, rfl, _⟩ := h.cons
  rw [atTo_cons, hs, if_pos hq]
end Ov

end Go.Proofs.YtomiepknmmpflaaGreatDoor

namespace Go.Proofs.YtomiepknmmpflaaGreatDoor
open Go.RowKit Go.Joins

theorem kindOf_known (e : Nat) : Ov.kindOf e = 0 ∨ Ov.kindOf e = 255 ∨ Ov.kindOf e = 1 := by
  unfold Ov.kindOf
  split
  · exact Or.inl rfl
  · split
    · exact Or.inr (Or.inl rfl)
    · exact Or.inr (Or.inr rfl)
theorem data_size {s : ByteArray} (hi : Ov.isImage s) {k : Nat} (hk : k < Ov.many s) (h1 : Ov.kindOf (Ov.ent s k) = 1) : (Ov.blockOf s (Ov.ent s k)).size = 8 := by
  have h0 : Ov.ent s k ≠ 0 := fun e => by rw [e] at h1; simp [Ov.kindOf] at h1
  have h255 : Ov.ent s k ≠ 255 := fun e => by rw [e] at h1; simp [Ov.kindOf] at h1
  rw [Ov.blockOf_data h0 h255, ByteArray.size_extract]
  have hs := hi.1.2.2.2.2.2.2.2.2.2.2
  rcases hi.2 k hk with e | e | e
  · exact absurd e h0
  · exact absurd e h255
  · have := e.1
    omega

end Go.Proofs.YtomiepknmmpflaaGreatDoor

