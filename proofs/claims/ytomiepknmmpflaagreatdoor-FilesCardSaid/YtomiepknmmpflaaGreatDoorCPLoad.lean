/- What keep adds up is what the files would have together. -/
import Derived.Test.YtomiepknmmpflaaGreatDoorCWOKeep
namespace Go.Proofs.YtomiepknmmpflaaGreatDoor
open Go.RowKit Go.Joins

theorem addLens_eq : ∀ (l : Ov.Files) (s : Nat), (∀ f ∈ l, f.2.size ≤ 1000) → s + 1000 * l.length ≤ 1000000 → l.foldl (fun t f => wrap64 (t + (f.2.size : Int))) (s : Int) = ((s + Ov.total l : Nat) : Int)
  | [], s, _, _ => by simp [Ov.total]
  | f :: l, s, hl, hs => by
    have hf := hl f (by simp)
    simp only [List.length_cons] at hs
    have h2 : wrap64 ((s : Int) + (f.2.size : Int)) = ((s + f.2.size : Nat) : Int) := by
      rw [IntWalk.wrap64_in _ ⟨by omega, by omega⟩]; omega
    have := addLens_eq l (s + f.2.size) (fun g hg => hl g (by simp [hg])) (by omega)
    rw [List.foldl_cons, h2, this]
    simp only [Ov.total]
    omega
theorem file_size_of {l : Ov.Files} (h : ∀ i, i < l.length → (Ov.fileAt l i).size ≤ 1000) : ∀ f ∈ l, f.2.size ≤ 1000 := fun f hf => by
  obtain ⟨i, hi, e⟩ := List.mem_iff_getElem.1 hf
  have := h i hi
  rw [show Ov.fileAt l i = f.2 from by simp [Ov.fileAt, hi, e]] at this
  exact this
theorem addLens_total {l : Ov.Files} (h : ∀ i, i < l.length → (Ov.fileAt l i).size ≤ 1000) (hl : l.length ≤ 10) : addLens l = (Ov.total l : Int) := by
  have := addLens_eq l 0 (file_size_of h) (by omega)
  unfold addLens
  simpa using this
/-- What the files would have together. -/
def addUp (x f : ByteArray) (l : Ov.Files) : Int := addLens (Ov.withF l x f)
theorem LI.file_size {room : Nat} {l : Ov.Files} (h : Ov.LI room l) : ∀ f ∈ l, f.2.size ≤ 1000 := fun f hf => by
  obtain ⟨i, hi, e⟩ := List.mem_iff_getElem.1 hf
  have := h.size i hi
  rw [show Ov.fileAt l i = f.2 from by simp [Ov.fileAt, hi, e]] at this
  exact this
theorem addUp_total {room : Nat} {l : Ov.Files} (h : Ov.LI room l) (x f : ByteArray) (hf : f.size ≤ 1000) : addUp x f l = (Ov.total (Ov.withF l x f) : Int) := by
  have hl := h.len
  unfold addUp
  refine addLens_total (Ov.withF_size h.size hf) ?_
  rw [Ov.withF_length]; split <;> omega
theorem withF_eight {l : Ov.Files} {x f : ByteArray} (hl : l.length ≤ 8) (h : Ov.place l x < l.length ∨ l.length < 8) : (Ov.withF l x f).length ≤ 8 := by
  rw [Ov.withF_length]; split <;> omega

/-- The one row that keep is called with. -/
theorem one_row (w : World) (x f : ByteArray) : OwnsRows (w.alloc (.cells #[.string x, .string f] 97)) 0 (.slice (some ⟨w.heap.size, 0, none⟩) [(x, f)].length [(x, f)].length) [(x, f)] :=
  World.ownsRow_lit w #[.string x, .string f] 1 (Nat.zero_le _) (by unfold maxLen; omega) rfl
theorem PutLeft.before {w w' : World} {b off : Nat} {cs : Array Value} {t : TypeId} {v v' : Value} {l : Ov.Files} {o : Obj} (h : PutLeft (w.alloc o) b off cs t v l v' w') : PutLeft w b off cs t v l v' w' :=
  ⟨h.blk, h.own, h.ne, (OFr.of_below (below_alloc1 w o) _ _).trans h.fr, h.row.imp id fun e k hk => Nat.le_trans (by simp) (e k hk)⟩
theorem okeep_one (l : Ov.Files) (v : Value) (x f : ByteArray) (b room : Nat) (w : World) (h9 : (Ov.withF l x f).length ≤ 8) (hblk : w.heap[b]? = some (.cells #[.int .i32 1, .int .u32 0, .int .i64 room, v] 77 (0, 0))) (hown : OwnsRows w 0 v l) (hx : x.size ≤ 1000) :
    Calls Tryz.prog 53 #[.pointer (some ⟨b, 0, none⟩), .slice (some ⟨w.heap.size, 0, none⟩) 1 1] (w.alloc (.cells #[.string x, .string f] 97)) fun e w' => ((room : Int) < addUp x f l ∧ e = .returned (.int .i64 9) ∧ Below w.heap.size w w') ∨ (addUp x f l ≤ (room : Int) ∧ e = .returned (.int .i64 0) ∧ ∃ v', PutLeft w b 3 #[.int .i32 1, .int .u32 0, .int .i64 room, v] 77 v (Ov.withF l x f) v' w') := by
  refine (okeep_in l [(x, f)] v w.heap.size b room _ h9 (by simp) (blk_alloc hblk _) (hown.alloc _) (one_row w x f) (fun q hq => by simp at hq; subst hq; exact hx)).mono ?_
  rintro e w' (⟨h1, h2, h3⟩ | ⟨h1, h2, v', h3⟩)
  · exact Or.inl ⟨h1, h2, (below_alloc1 w _).trans (h3.mono (by simp))⟩
  · exact Or.inr ⟨h1, h2, v', h3.before⟩
/-- keep where there is no room. -/
theorem okeep_no (l : Ov.Files) (v : Value) (x f : ByteArray) (b room : Nat) (w : World) (h9 : (Ov.withF l x f).length ≤ 8) (hblk : w.heap[b]? = some (.cells #[.int .i32 1, .int .u32 0, .int .i64 room, v] 77 (0, 0))) (hown : OwnsRows w 0 v l) (_ : some b ≠ v.ownBlock) (hx : x.size ≤ 1000) (h : (room : Int) < addUp x f l) : Calls Tryz.prog 53 #[.pointer (some ⟨b, 0, none⟩), .slice (some ⟨w.heap.size, 0, none⟩) 1 1] (w.alloc (.cells #[.string x, .string f] 97)) fun e w' => e = .returned (.int .i64 9) ∧ Below w.heap.size w w' := by
  refine (okeep_one l v x f b room w h9 hblk hown hx).mono ?_
  rintro e w' (⟨_, rfl, hb⟩ | ⟨h1, _⟩)
  · exact ⟨rfl, hb⟩
  · omega
/-- keep where there is. -/
theorem okeep_yes (l : Ov.Files) (v : Value) (x f : ByteArray) (b room : Nat) (w : World) (h9 : (Ov.withF l x f).length ≤ 8) (hblk : w.heap[b]? = some (.cells #[.int .i32 1, .int .u32 0, .int .i64 room, v] 77 (0, 0))) (hown : OwnsRows w 0 v l) (_ : some b ≠ v.ownBlock) (hx : x.size ≤ 1000) (h : addUp x f l ≤ (room : Int)) : Calls Tryz.prog 53 #[.pointer (some ⟨b, 0, none⟩), .slice (some ⟨w.heap.size, 0, none⟩) 1 1] (w.alloc (.cells #[.string x, .string f] 97)) fun e w' => e = .returned (.int .i64 0) ∧ ∃ v', PutLeft w b 3 #[.int .i32 1, .int .u32 0, .int .i64 room, v] 77 v (Ov.withF l x f) v' w' := by
  refine (okeep_one l v x f b room w h9 hblk hown hx).mono ?_
  rintro e w' (⟨h1, _⟩ | ⟨_, rfl, v', hp⟩)
  · omega
  · exact ⟨rfl, v', hp⟩

end Go.Proofs.YtomiepknmmpflaaGreatDoor
