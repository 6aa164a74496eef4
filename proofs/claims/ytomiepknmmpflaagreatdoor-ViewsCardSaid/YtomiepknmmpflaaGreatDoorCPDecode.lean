/- Decode: what holds in its loops, and what a round does to it: no walk here. -/
import Derived.Test.YtomiepknmmpflaaGreatDoorCWName
namespace Go.Proofs.YtomiepknmmpflaaGreatDoor
open Go.RowKit Go.Joins

/-- In the first loop: k entries are done, and of ku of them it is marked which data they name. X: the first block of the call's own. -/
structure DI (s : ByteArray) (w : World) (X ku k : Nat) (ev bv : Value) (wr : World) : Prop where
  good : Ov.goodTo s ku
  res : wr.heap[X]? = some (.cells #[.string ⟨#[]⟩, .slice none 0 0, .slice none 0 0, .int .i64 0] 240 (0, 0))
  x : wr.heap[X + 1]? = some (.cells #[.string (Ov.backing s), ev, bv, .int .i64 0] 240 (0, 0))
  used : wr.ownsRow (X + 1 + 1) 3 1 (.slice (some ⟨X + 1 + 1, 0, none⟩) (Ov.datas s) (Ov.datas s)) (Ov.datas s) ((Ov.usedTo s ku).map (Value.int .i64))
  evs : wr.ownsRow (X + 1 + 1 + 1) 3 1 ev k ((Ov.kindsTo s k).map (Value.int .i64))
  bvs : wr.ownsRow (X + 1 + 1 + 1) 9 1 bv k ((Ov.blocksTo s k).map Value.string)
  size : X + 1 + 1 + 1 ≤ wr.heap.size
  below : Below X w wr

section
variable {s : ByteArray} {w wr w1 w2 : World} {X ku k : Nat} {ev bv v1 v2 : Value} {E : Int} {b : ByteArray} {o1 o2 : Obj}

/-- An entry that names no data. -/
theorem DI.plain (h : DI s w X k k ev bv wr) (he : Ov.ent s k = 0 ∨ Ov.ent s k = 255) (hd : Ov.datas s ≤ 60) : DI s w X (k + 1) k ev bv wr :=
  ⟨Ov.goodTo_succ h.good (by rcases he with h | h; exact Or.inl h; exact Or.inr (Or.inl h)), h.res, h.x, by rw [Ov.usedTo_same (by omega)]; exact h.used, h.evs, h.bvs, h.size, h.below⟩
/-- One that names a data cluster: it is marked. -/
theorem DI.mark (h : DI s w X k k ev bv wr) {e : Nat} (he : Ov.ent s k = e + 1) (hok : Ov.entOk s k) : DI s w X (k + 1) k ev bv (wr.setCell ⟨X + 1 + 1, e, none⟩ (.int .i64 1)) := by
  have ne1 : ∀ b, b < X + 1 + 1 + 1 → some b ≠ ev.ownBlock := fun b hb => owns_ne h.evs hb
  have ne2 : ∀ b, b < X + 1 + 1 + 1 → some b ≠ bv.ownBlock := fun b hb => owns_ne h.bvs hb
  refine ⟨Ov.goodTo_succ h.good hok, blk_set_other h.res (by show X ≠ X + 1 + 1; omega) _, blk_set_other h.x (by show X + 1 ≠ X + 1 + 1; omega) _, ?_, owns_set h.evs (ne1 _ (by show X + 1 + 1 < _; omega)) _, owns_set h.bvs (ne2 _ (by show X + 1 + 1 < _; omega)) _, by simpa using h.size, h.below.setCell (by show X ≤ X + 1 + 1; omega) _⟩
  rw [Ov.usedTo_set he, List.map_set]
  exact (h.used.stored e (.int .i64 1)).1
/-- Behind the first append. -/
theorem DI.x1 (h : DI s w X ku k ev bv wr) (hg1 : (wr.alloc o1).grownBy w1 ev.ownBlock) : w1.heap[X + 1]? = some (.cells #[.string (Ov.backing s), ev, bv, .int .i64 0] 240 (0, 0)) :=
  blk_grown (blk_alloc h.x o1) hg1 (owns_ne h.evs (by omega))
theorem DI.b1 (h : DI s w X ku k ev bv wr) (hg1 : (wr.alloc o1).grownBy w1 ev.ownBlock) (v1 : Value) : (w1.setCell ⟨X + 1, 1, none⟩ v1).ownsRow (X + 1 + 1 + 1) 9 1 bv k ((Ov.blocksTo s k).map Value.string) :=
  owns_set (owns_grown (h.bvs.alloc o1) hg1 (owns_apart h.bvs h.evs (by decide))) (owns_ne h.bvs (by show X + 1 < _; omega)) v1
theorem DI.x2 (h : DI s w X ku k ev bv wr) (hg1 : (wr.alloc o1).grownBy w1 ev.ownBlock) (hg2 : ((w1.setCell ⟨X + 1, 1, none⟩ v1).alloc o2).grownBy w2 bv.ownBlock) :
    w2.heap[X + 1]? = some (.cells #[.string (Ov.backing s), v1, bv, .int .i64 0] 240 (0, 0)) := by
  have x1' := blk_set_same (i := 1) (h.x1 hg1) v1
  exact blk_grown (blk_alloc x1' o2) hg2 (owns_ne h.bvs (by omega))
/-- The two appends behind an entry. -/
theorem DI.step (h : DI s w X (k + 1) k ev bv wr) (hE : E = Ov.kindOf (Ov.ent s k)) (hb : b = Ov.blockOf s (Ov.ent s k))
    (ho1 : w1.ownsRow (X + 1 + 1 + 1) 3 1 v1 (k + 1) ((Ov.kindsTo s k).map (Value.int .i64) ++ [.int .i64 E])) (hg1 : (wr.alloc o1).grownBy w1 ev.ownBlock)
    (ho2 : w2.ownsRow (X + 1 + 1 + 1) 9 1 v2 (k + 1) ((Ov.blocksTo s k).map Value.string ++ [.string b])) (hg2 : ((w1.setCell ⟨X + 1, 1, none⟩ v1).alloc o2).grownBy w2 bv.ownBlock) :
    DI s w X (k + 1) (k + 1) v1 v2 (w2.setCell ⟨X + 1, 2, none⟩ v2) := by
  have ne1 : ∀ b, b < X + 1 + 1 + 1 → some b ≠ ev.ownBlock := fun b hb => owns_ne h.evs hb
  have ne2 : ∀ b, b < X + 1 + 1 + 1 → some b ≠ bv.ownBlock := fun b hb => owns_ne h.bvs hb
  have x2' := blk_set_same (i := 2) (h.x2 hg1 hg2) v2
  have r1 := blk_set_other (blk_grown (blk_alloc h.res o1) hg1 (ne1 _ (by omega))) (a := ⟨X + 1, 1, none⟩) (by show X ≠ X + 1; omega) v1
  have r2 := blk_set_other (blk_grown (blk_alloc r1 o2) hg2 (ne2 _ (by omega))) (a := ⟨X + 1, 2, none⟩) (by show X ≠ X + 1; omega) v2
  have u1 := owns_grown (h.used.alloc o1) hg1 (Or.inr (ne1 (X + 1 + 1) (by omega)))
  have u1' := owns_set u1 (a := ⟨X + 1, 1, none⟩) (by show some (X + 1) ≠ some (X + 1 + 1); simp) v1
  have u2 := owns_grown (u1'.alloc o2) hg2 (Or.inr (ne2 (X + 1 + 1) (by omega)))
  have u2' := owns_set u2 (a := ⟨X + 1, 2, none⟩) (by show some (X + 1) ≠ some (X + 1 + 1); simp) v2
  have n1 : ∀ c, c < X + 1 + 1 + 1 → some c ≠ v1.ownBlock := fun c hc => owns_ne ho1 hc
  have n2 : ∀ c, c < X + 1 + 1 + 1 → some c ≠ v2.ownBlock := fun c hc => owns_ne ho2 hc
  have e1' := owns_set ho1 (a := ⟨X + 1, 1, none⟩) (n1 (X + 1) (by omega)) v1
  have e2 := owns_grown (e1'.alloc o2) hg2 (owns_apart e1' (h.b1 hg1 v1) (by decide))
  have e2' := owns_set e2 (a := ⟨X + 1, 2, none⟩) (n1 (X + 1) (by omega)) v2
  have b2' := owns_set ho2 (a := ⟨X + 1, 2, none⟩) (n2 (X + 1) (by omega)) v2
  have hs0 := h.size
  have sz1 := hg1.size
  have sz2 := hg2.size
  simp only [World.size_alloc, World.size_setCell] at sz1 sz2
  have bl1 : Below X w w1 := (h.below.alloc (by omega) o1).grown hg1 (by simp; omega) (fun k hk => by have := (h.evs.lt k hk).1; omega)
  have bl1' := bl1.setCell (p := ⟨X + 1, 1, none⟩) (by show X ≤ X + 1; omega) v1
  have bl2 : Below X w w2 := (bl1'.alloc (by simp; omega) o2).grown hg2 (by simp; omega) (fun k hk => by have := ((h.b1 hg1 v1).lt k hk).1; omega)
  refine ⟨h.good, r2, x2', u2', ?_, ?_, by simp; omega, bl2.setCell (p := ⟨X + 1, 2, none⟩) (by show X ≤ X + 1; omega) v2⟩
  · rw [Ov.kindsTo_succ, List.map_append, ← hE]; exact e2'
  · rw [Ov.blocksTo_succ, List.map_append, ← hb]; exact b2'
end

/-- In the second loop: j data clusters are counted. -/
structure DL (s : ByteArray) (w : World) (X j : Nat) (ev bv : Value) (wr : World) : Prop where
  res : wr.heap[X]? = some (.cells #[.string ⟨#[]⟩, .slice none 0 0, .slice none 0 0, .int .i64 0] 240 (0, 0))
  x : wr.heap[X + 1]? = some (.cells #[.string (Ov.backing s), ev, bv, .int .i64 (Ov.lostTo s j)] 240 (0, 0))
  used : wr.ownsRow (X + 1 + 1) 3 1 (.slice (some ⟨X + 1 + 1, 0, none⟩) (Ov.datas s) (Ov.datas s)) (Ov.datas s) ((Ov.usedTo s (Ov.many s)).map (Value.int .i64))
  evs : wr.ownsRow (X + 1 + 1 + 1) 3 1 ev (Ov.many s) ((Ov.kindsTo s (Ov.many s)).map (Value.int .i64))
  bvs : wr.ownsRow (X + 1 + 1 + 1) 9 1 bv (Ov.many s) ((Ov.blocksTo s (Ov.many s)).map Value.string)
  size : X + 1 + 1 + 1 ≤ wr.heap.size
  below : Below X w wr
theorem DI.count {s : ByteArray} {w wr : World} {X : Nat} {ev bv : Value} (h : DI s w X (Ov.many s) (Ov.many s) ev bv wr) : DL s w X 0 ev bv wr := ⟨h.res, h.x, h.used, h.evs, h.bvs, h.size, h.below⟩
theorem DL.step {s : ByteArray} {w wr : World} {X j : Nat} {ev bv : Value} {L : Int} (h : DL s w X j ev bv wr) (hL : L = Ov.lostTo s (j + 1)) : DL s w X (j + 1) ev bv (wr.setCell ⟨X + 1, 3, none⟩ (.int .i64 L)) := by
  subst hL
  refine ⟨blk_set_other h.res (by show X ≠ X + 1; omega) _, blk_set_same (i := 3) h.x _, owns_set h.used (by show some (X + 1) ≠ some (X + 1 + 1); simp) _, owns_set h.evs (owns_ne h.evs (by show X + 1 < _; omega)) _, owns_set h.bvs (owns_ne h.bvs (by show X + 1 < _; omega)) _, by simpa using h.size, h.below.setCell (by show X ≤ X + 1; omega) _⟩
theorem DL.drew {s : ByteArray} {w wr : World} {X j : Nat} {ev bv : Value} (h : DL s w X j ev bv wr) : DL s w X j ev bv wr.drew := ⟨h.res, h.x, h.used, h.evs, h.bvs, h.size, h.below.drew⟩
theorem used_cell {s : ByteArray} {wr : World} {X k e : Nat} (h : wr.ownsRow X 3 1 (.slice (some ⟨X, 0, none⟩) (Ov.datas s) (Ov.datas s)) (Ov.datas s) ((Ov.usedTo s k).map (Value.int .i64))) (he : e < Ov.datas s) :
    wr.cell? ⟨X, e, none⟩ = some (.int .i64 (Ov.usedAt s k e)) := by
  rw [h.cellAt e (by omega), List.getElem?_map, ← Ov.usedTo_getD he, List.getD_eq_getElem?_getD]
  rw [List.getElem?_eq_getElem (by rw [Ov.usedTo_length]; exact he)]; rfl

/-- What Decode answers: an image and true, where the file is one; else false. -/
def DecodePost (s : ByteArray) (w : World) (e : Ending) (w' : World) : Prop :=
  Below w.heap.size w w' ∧
  ((¬ Ov.isImage s ∧ ∃ a b1 b2 b3 c1 c2 c3 d, e = .returned (.tuple #[.agg #[.string a, .slice b1 b2 b3, .slice c1 c2 c3, .int .i64 d], .bool false])) ∨
   (Ov.isImage s ∧ ∃ ev bv, e = .returned (.tuple #[.agg #[.string (Ov.backing s), ev, bv, .int .i64 (Ov.lost s)], .bool true]) ∧
     w'.ownsRow w.heap.size 3 1 ev (Ov.many s) ((Ov.kindsTo s (Ov.many s)).map (Value.int .i64)) ∧
     w'.ownsRow w.heap.size 9 1 bv (Ov.many s) ((Ov.blocksTo s (Ov.many s)).map Value.string)))

theorem one_int (k : IntKind) (x : Int) : ∀ u ∈ [Value.int k x], u.oneCell' = true := by intro u hu; simp at hu; subst hu; rfl
theorem one_string (x : ByteArray) : ∀ u ∈ [Value.string x], u.oneCell' = true := by intro u hu; simp at hu; subst hu; rfl

end Go.Proofs.YtomiepknmmpflaaGreatDoor
