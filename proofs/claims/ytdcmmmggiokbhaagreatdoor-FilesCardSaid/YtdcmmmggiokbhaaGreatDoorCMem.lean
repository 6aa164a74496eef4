/- Small laws on worlds that all walks of this seat use. -/
import Derived.Test.YtdcmmmggiokbhaaGreatDoorCBase
import Derived.Test.YtdcmmmggiokbhaaGreatDoorCSpec
namespace Go.Proofs.YtdcmmmggiokbhaaGreatDoor
open Go.RowKit Go.Joins

theorem Tryz.infoInt : (Tryz.prog.info? 3).map (fun i => (i.zero, i.size, i.bytes)) = some (some (.int .i64 0), 1, 8) := by kernel_rfl
theorem Tryz.infoString : (Tryz.prog.info? 9).map (fun i => (i.zero, i.size, i.bytes)) = some (some (.string ⟨#[]⟩), 1, 16) := by kernel_rfl

/-- A block that is no constant's: its cells, and that none is frozen. -/
theorem blk_cell {w : World} {b i : Nat} {cs : Array Value} {t : TypeId} {v : Value} (h : w.heap[b]? = some (.cells cs t (0, 0))) (hv : cs[i]? = some v) : w.cell? ⟨b, i, none⟩ = some v := by rw [cell_of_block h, hv]
theorem blk_frozen {w : World} {b : Nat} {cs : Array Value} {t : TypeId} (h : w.heap[b]? = some (.cells cs t (0, 0))) (i : Nat) : w.frozen? ⟨b, i, none⟩ = false := unfrozen_of_block h i
theorem blk_lt {w : World} {b : Nat} {o : Obj} (h : w.heap[b]? = some o) : b < w.heap.size := by
  by_cases hb : b < w.heap.size
  · exact hb
  · rw [Array.getElem?_eq_none (by omega)] at h; cases h
theorem blk_alloc {w : World} {b : Nat} {o : Obj} (h : w.heap[b]? = some o) (n : Obj) : (w.alloc n).heap[b]? = some o := by
  rw [Below.heap_alloc _ _ _ (blk_lt h)]; exact h
theorem blk_grown {w w' : World} {b : Nat} {o : Obj} {row : Option Nat} (h : w.heap[b]? = some o) (hg : w.grownBy w' row) (hne : some b ≠ row) : w'.heap[b]? = some o := by
  rw [hg.block b (blk_lt h) hne]; exact h
theorem blk_set_other {w : World} {b : Nat} {o : Obj} (h : w.heap[b]? = some o) {a : Addr} (hne : b ≠ a.block) (u : Value) : (w.setCell a u).heap[b]? = some o := by
  rw [Below.heap_setCell _ _ _ _ hne]; exact h
theorem blk_set_same {w : World} {b i : Nat} {cs : Array Value} {t : TypeId} (h : w.heap[b]? = some (.cells cs t (0, 0))) (u : Value) : (w.setCell ⟨b, i, none⟩ u).heap[b]? = some (.cells (cs.setIfInBounds i u) t (0, 0)) := block_setCell h u
theorem owns_ne {w : World} {base e size n : Nat} {v : Value} {xs : List Value} (h : w.ownsRow base e size v n xs) {b : Nat} (hb : b < base) : some b ≠ v.ownBlock := fun he => by
  have := (h.lt b he.symm).1; omega
/-- An owned row outlives a store into another block. -/
theorem owns_set {w : World} {base e size n : Nat} {v : Value} {xs : List Value} (h : w.ownsRow base e size v n xs) {a : Addr} (hne : some a.block ≠ v.ownBlock) (u : Value) : (w.setCell a u).ownsRow base e size v n xs := by
  obtain ⟨h1, h2⟩ := h
  refine ⟨h1, ?_⟩
  rcases h2 with h2 | ⟨g, cap, cur, hv, hg, hh, r⟩
  · exact Or.inl h2
  · refine Or.inr ⟨g, cap, cur, hv, hg, ?_, r⟩
    rw [Below.heap_setCell _ _ _ _ (fun e => hne (by rw [hv, ← e]; rfl))]; exact hh
theorem owns_grown {w w' : World} {base e size n : Nat} {v : Value} {xs : List Value} {row : Option Nat} (h : w.ownsRow base e size v n xs) (hg : w.grownBy w' row) (hne : v.ownBlock = none ∨ v.ownBlock ≠ row) : w'.ownsRow base e size v n xs := h.kept hg hne
/-- The form of a slice that owns its row. -/
theorem owns_slice {w : World} {base e size n : Nat} {v : Value} {xs : List Value} (h : w.ownsRow base e size v n xs) : ∃ a c, v = .slice a n c := by
  rcases h.2 with ⟨rfl, rfl⟩ | ⟨g, cap, cur, rfl, _⟩
  · exact ⟨_, _, rfl⟩
  · exact ⟨_, _, rfl⟩
/-- Rows of two element types are two. -/
theorem owns_apart {w : World} {b1 b2 e1 e2 s1 s2 n1 n2 : Nat} {v1 v2 : Value} {x1 x2 : List Value} (h1 : w.ownsRow b1 e1 s1 v1 n1 x1) (h2 : w.ownsRow b2 e2 s2 v2 n2 x2) (hne : e1 ≠ e2) : v1.ownBlock = none ∨ v1.ownBlock ≠ v2.ownBlock := by
  obtain ⟨_, h1⟩ := h1
  obtain ⟨_, h2⟩ := h2
  rcases h1 with ⟨rfl, _⟩ | ⟨g1, c1, cur1, rfl, _, hh1, _⟩
  · exact Or.inl rfl
  · rcases h2 with ⟨rfl, _⟩ | ⟨g2, c2, cur2, rfl, _, hh2, _⟩
    · exact Or.inr (by simp [Value.ownBlock])
    · refine Or.inr fun e => hne ?_
      simp only [Value.ownBlock, Option.some.injEq] at e
      rw [e, hh2] at hh1
      simp only [Option.some.injEq, Obj.cells.injEq] at hh1
      exact hh1.2.1.symm
/-- The one new cell that an append takes its element from. -/
theorem one_new {w : World} {x : Value} {t : TypeId} {b : Nat} (hb : b = w.heap.size) : ∀ (j : Nat) (u : Value), [x][j]? = some u → (w.alloc (.cells #[x] t)).cell? ((⟨b, 0, none⟩ : Addr).add j) = some u := by
  subst hb; exact cell_one_new _ _ _

end Go.Proofs.YtdcmmmggiokbhaaGreatDoor

/- Decode: what holds in its loops, and what a round does to it: no walk here. -/
namespace Go.Proofs.YtdcmmmggiokbhaaGreatDoor
open Go.RowKit Go.Joins

/-- In the first loop: k entries are done, and of ku of them it is marked which data they name. X: the first block of the call's own. -/
structure DI (s : ByteArray) (w : World) (X ku k : Nat) (ev bv : Value) (wr : World) : Prop where
  good : Ov.goodTo s ku
  res : wr.heap[X]? = some (.cells #[.string ⟨#[]⟩, .slice none 0 0, .slice none 0 0, .int .i64 0] 98 (0, 0))
  x : wr.heap[X + 1]? = some (.cells #[.string (Ov.backing s), ev, bv, .int .i64 0] 98 (0, 0))
  used : wr.ownsRow (X + 1 + 1) 3 1 (.slice (some ⟨X + 1 + 1, 0, none⟩) (Ov.datas s) (Ov.datas s)) (Ov.datas s) ((Ov.usedTo s ku).map (Value.int .i64))
  evs : wr.ownsRow (X + 1 + 1 + 1) 3 1 ev k ((Ov.kindsTo s k).map (Value.int .i64))
  bvs : wr.ownsRow (X + 1 + 1 + 1) 9 1 bv k ((Ov.blocksTo s k).map Value.string)
  size : X + 1 + 1 + 1 ≤ wr.heap.size
  below : Below X w wr

section
variable {s : ByteArray} {w wr w1 w2 : World} {X ku k : Nat} {ev bv v1 v2 : Value} {E : Int} {b : ByteArray} {o1 o2 : Obj}

/-- An entry that names no data. -/
theorem DI.plain (h : DI s w X k k ev bv wr) (he : Ov.ent s k = 0 ∨ Ov.ent s k = 255) (hd : Ov.datas s ≤ 60) : DI s w X (k + 1) k ev bv wr :=
  ⟨Ov.goodTo_succ h.good (by rcases he with h | h; exact Or.inl h; exact Or.inr (Or.inl h)), h.res, h.x, by rw [Ov.usedTo_same (by omega)]; exact h.used, h.evs, h.bvs, h.size, h.below⟩
/-- One that names a data cluster: it is marked. -/
theorem DI.mark (h : DI s w X k k ev bv wr) {e : Nat} (he : Ov.ent s k = e + 1) (hok : Ov.entOk s k) : DI s w X (k + 1) k ev bv (wr.setCell ⟨X + 1 + 1, e, none⟩ (.int .i64 1)) := by
  have ne1 : ∀ b, b < X + 1 + 1 + 1 → some b ≠ ev.ownBlock := fun b hb => owns_ne h.evs hb
  have ne2 : ∀ b, b < X + 1 + 1 + 1 → some b ≠ bv.ownBlock := fun b hb => owns_ne h.bvs hb
  refine ⟨Ov.goodTo_succ h.good hok, blk_set_other h.res (by show X ≠ X + 1 + 1; omega) _, blk_set_other h.x (by show X + 1 ≠ X + 1 + 1; omega) _, ?_, owns_set h.evs (ne1 _ (by show X + 1 + 1 < _; omega)) _, owns_set h.bvs (ne2 _ (by show X + 1 + 1 < _; omega)) _, by simpa using h.size, h.below.setCell (by show X ≤ X + 1 + 1; omega) _⟩
  rw [Ov.usedTo_set he, List.map_set]
  exact (h.used.stored e (.int .i64 1)).1
/-- Behind the first append. -/
theorem DI.x1 (h : DI s w X ku k ev bv wr) (hg1 : (wr.alloc o1).grownBy w1 ev.ownBlock) : w1.heap[X + 1]? = some (.cells #[.string (Ov.backing s), ev, bv, .int .i64 0] 98 (0, 0)) :=
  blk_grown (blk_alloc h.x o1) hg1 (owns_ne h.evs (by omega))
theorem DI.b1 (h : DI s w X ku k ev bv wr) (hg1 : (wr.alloc o1).grownBy w1 ev.ownBlock) (v1 : Value) : (w1.setCell ⟨X + 1, 1, none⟩ v1).ownsRow (X + 1 + 1 + 1) 9 1 bv k ((Ov.blocksTo s k).map Value.string) :=
  owns_set (owns_grown (h.bvs.alloc o1) hg1 (owns_apart h.bvs h.evs (by decide))) (owns_ne h.bvs (by show X + 1 < _; omega)) v1
theorem DI.x2 (h : DI s w X ku k ev bv wr) (hg1 : (wr.alloc o1).grownBy w1 ev.ownBlock) (hg2 : ((w1.setCell ⟨X + 1, 1, none⟩ v1).alloc o2).grownBy w2 bv.ownBlock) :
    w2.heap[X + 1]? = some (.cells #[.string (Ov.backing s), v1, bv, .int .i64 0] 98 (0, 0)) := by
  have x1' := blk_set_same (i := 1) (h.x1 hg1) v1
  exact blk_grown (blk_alloc x1' o2) hg2 (owns_ne h.bvs (by omega))
/-- The two appends behind an entry. -/
theorem DI.step (h : DI s w X (k + 1) k ev bv wr) (hE : E = Ov.kindOf (Ov.ent s k)) (hb : b = Ov.blockOf s (Ov.ent s k))
    (ho1 : w1.ownsRow (X + 1 + 1 + 1) 3 1 v1 (k + 1) ((Ov.kindsTo s k).map (Value.int .i64) ++ [.int .i64 E])) (hg1 : (wr.alloc o1).grownBy w1 ev.ownBlock)
    (ho2 : w2.ownsRow (X + 1 + 1 + 1) 9 1 v2 (k + 1) ((Ov.blocksTo s k).map Value.string ++ [.string b])) (hg2 : ((w1.setCell ⟨X + 1, 1, none⟩ v1).alloc o2).grownBy w2 bv.ownBlock) :
    DI s w X (k + 1) (k + 1) v1 v2 (w2.setCell ⟨X + 1, 2, none⟩ v2) := by
  have ne1 : ∀ b, b < X + 1 + 1 + 1 → some b ≠ ev.ownBlock := fun b hb => owns_ne h.evs hb
  have ne2 : ∀ b, b < X + 1 + 1 + 1 → some b ≠ bv.ownBlock := fun b hb => owns_ne h.bvs hb
  have x2' := blk_set_same (i := 2) (h.x2 hg1 hg2) v2
  have r1 := blk_set_other (blk_grown (blk_alloc h.res o1) hg1 (ne1 _ (by omega))) (a := ⟨X + 1, 1, none⟩) (by show X ≠ X + 1; omega) v1
  have r2 := blk_set_other (blk_grown (blk_alloc r1 o2) hg2 (ne2 _ (by omega))) (a := ⟨X + 1, 2, none⟩) (by show X ≠ X + 1; omega) v2
  have u1 := owns_grown (h.used.alloc o1) hg1 (Or.inr (ne1 (X + 1 + 1) (by omega)))
  have u1' := owns_set u1 (a := ⟨X + 1, 1, none⟩) (by show some (X + 1) ≠ some (X + 1 + 1); simp) v1
  have u2 := owns_grown (u1'.alloc o2) hg2 (Or.inr (ne2 (X + 1 + 1) (by omega)))
  have u2' := owns_set u2 (a := ⟨X + 1, 2, none⟩) (by show some (X + 1) ≠ some (X + 1 + 1); simp) v2
  have n1 : ∀ c, c < X + 1 + 1 + 1 → some c ≠ v1.ownBlock := fun c hc => owns_ne ho1 hc
  have n2 : ∀ c, c < X + 1 + 1 + 1 → some c ≠ v2.ownBlock := fun c hc => owns_ne ho2 hc
  have e1' := owns_set ho1 (a := ⟨X + 1, 1, none⟩) (n1 (X + 1) (by omega)) v1
  have e2 := owns_grown (e1'.alloc o2) hg2 (owns_apart e1' (h.b1 hg1 v1) (by decide))
  have e2' := owns_set e2 (a := ⟨X + 1, 2, none⟩) (n1 (X + 1) (by omega)) v2
  have b2' := owns_set ho2 (a := ⟨X + 1, 2, none⟩) (n2 (X + 1) (by omega)) v2
  have hs0 := h.size
  have sz1 := hg1.size
  have sz2 := hg2.size
  simp only [World.size_alloc, World.size_setCell] at sz1 sz2
  have bl1 : Below X w w1 := (h.below.alloc (by omega) o1).grown hg1 (by simp; omega) (fun k hk => by have := (h.evs.lt k hk).1; omega)
  have bl1' := bl1.setCell (p := ⟨X + 1, 1, none⟩) (by show X ≤ X + 1; omega) v1
  have bl2 : Below X w w2 := (bl1'.alloc (by simp; omega) o2).grown hg2 (by simp; omega) (fun k hk => by have := ((h.b1 hg1 v1).lt k hk).1; omega)
  refine ⟨h.good, r2, x2', u2', ?_, ?_, by simp; omega, bl2.setCell (p := ⟨X + 1, 2, none⟩) (by show X ≤ X + 1; omega) v2⟩
  · rw [Ov.kindsTo_succ, List.map_append, ← hE]; exact e2'
  · rw [Ov.blocksTo_succ, List.map_append, ← hb]; exact b2'
end

/-- In the second loop: j data clusters are counted. -/
structure DL (s : ByteArray) (w : World) (X j : Nat) (ev bv : Value) (wr : World) : Prop where
  res : wr.heap[X]? = some (.cells #[.string ⟨#[]⟩, .slice none 0 0, .slice none 0 0, .int .i64 0] 98 (0, 0))
  x : wr.heap[X + 1]? = some (.cells #[.string (Ov.backing s), ev, bv, .int .i64 (Ov.lostTo s j)] 98 (0, 0))
  used : wr.ownsRow (X + 1 + 1) 3 1 (.slice (some ⟨X + 1 + 1, 0, none⟩) (Ov.datas s) (Ov.datas s)) (Ov.datas s) ((Ov.usedTo s (Ov.many s)).map (Value.int .i64))
  evs : wr.ownsRow (X + 1 + 1 + 1) 3 1 ev (Ov.many s) ((Ov.kindsTo s (Ov.many s)).map (Value.int .i64))
  bvs : wr.ownsRow (X + 1 + 1 + 1) 9 1 bv (Ov.many s) ((Ov.blocksTo s (Ov.many s)).map Value.string)
  size : X + 1 + 1 + 1 ≤ wr.heap.size
  below : Below X w wr
theorem DI.count {s : ByteArray} {w wr : World} {X : Nat} {ev bv : Value} (h : DI s w X (Ov.many s) (Ov.many s) ev bv wr) : DL s w X 0 ev bv wr := ⟨h.res, h.x, h.used, h.evs, h.bvs, h.size, h.below⟩
theorem DL.step {s : ByteArray} {w wr : World} {X j : Nat} {ev bv : Value} {L : Int} (h : DL s w X j ev bv wr) (hL : L = Ov.lostTo s (j + 1)) : DL s w X (j + 1) ev bv (wr.setCell ⟨X + 1, 3, none⟩ (.int .i64 L)) := by
  subst hL
  refine ⟨blk_set_other h.res (by show X ≠ X + 1; omega) _, blk_set_same (i := 3) h.x _, owns_set h.used (by show some (X + 1) ≠ some (X + 1 + 1); simp) _, owns_set h.evs (owns_ne h.evs (by show X + 1 < _; omega)) _, owns_set h.bvs (owns_ne h.bvs (by show X + 1 < _; omega)) _, by simpa using h.size, h.below.setCell (by show X ≤ X + 1; omega) _⟩
theorem DL.drew {s : ByteArray} {w wr : World} {X j : Nat} {ev bv : Value} (h : DL s w X j ev bv wr) : DL s w X j ev bv wr.drew := ⟨h.res, h.x, h.used, h.evs, h.bvs, h.size, h.below.drew⟩
theorem used_cell {s : ByteArray} {wr : World} {X k e : Nat} (h : wr.ownsRow X 3 1 (.slice (some ⟨X, 0, none⟩) (Ov.datas s) (Ov.datas s)) (Ov.datas s) ((Ov.usedTo s k).map (Value.int .i64))) (he : e < Ov.datas s) :
    wr.cell? ⟨X, e, none⟩ = some (.int .i64 (Ov.usedAt s k e)) := by
  rw [h.cellAt e (by omega), List.getElem?_map, ← Ov.usedTo_getD he, List.getD_eq_getElem?_getD]
  rw [List.getElem?_eq_getElem (by rw [Ov.usedTo_length]; exact he)]; rfl

/-- What Decode answers: an image and true, where the file is one; else false. -/
def DecodePost (s : ByteArray) (w : World) (e : Ending) (w' : World) : Prop :=
  Below w.heap.size w w' ∧
  ((¬ Ov.isImage s ∧ ∃ a b1 b2 b3 c1 c2 c3 d, e = .returned (.tuple #[.agg #[.string a, .slice b1 b2 b3, .slice c1 c2 c3, .int .i64 d], .bool false])) ∨
   (Ov.isImage s ∧ ∃ ev bv, e = .returned (.tuple #[.agg #[.string (Ov.backing s), ev, bv, .int .i64 (Ov.lost s)], .bool true]) ∧
     w'.ownsRow w.heap.size 3 1 ev (Ov.many s) ((Ov.kindsTo s (Ov.many s)).map (Value.int .i64)) ∧
     w'.ownsRow w.heap.size 9 1 bv (Ov.many s) ((Ov.blocksTo s (Ov.many s)).map Value.string)))

theorem one_int (k : IntKind) (x : Int) : ∀ u ∈ [Value.int k x], u.oneCell' = true := by intro u hu; simp at hu; subst hu; rfl
theorem one_string (x : ByteArray) : ∀ u ∈ [Value.string x], u.oneCell' = true := by intro u hu; simp at hu; subst hu; rfl

end Go.Proofs.YtdcmmmggiokbhaaGreatDoor

/- Rows of files in memory. -/
namespace Go.Proofs.YtdcmmmggiokbhaaGreatDoor
open Go.RowKit Go.Joins

/-- The cells of files: a name, its bytes, and so on. -/
def fileCells : Ov.Files → List Value
  | [] => []
  | f :: l => .string f.1 :: .string f.2 :: fileCells l
theorem fileCells_length (l : Ov.Files) : (fileCells l).length = l.length * 2 := by
  induction l with
  | nil => rfl
  | cons f l ih => simp [fileCells, ih]; omega
theorem fileCells_append (l m : Ov.Files) : fileCells (l ++ m) = fileCells l ++ fileCells m := by
  induction l with
  | nil => rfl
  | cons f l ih => simp [fileCells, ih]
theorem fileCells_name {l : Ov.Files} {k : Nat} (h : k < l.length) : (fileCells l)[k * 2]? = some (.string (Ov.nameAt l k)) := by
  induction l generalizing k with
  | nil => simp at h
  | cons f l ih =>
    cases k with
    | zero => simp [fileCells, Ov.nameAt]
    | succ k =>
      rw [show (k + 1) * 2 = k * 2 + 1 + 1 from by omega]
      simpa [fileCells, Ov.nameAt] using ih (k := k) (by simpa using h)
theorem fileCells_bytes {l : Ov.Files} {k : Nat} (h : k < l.length) : (fileCells l)[k * 2 + 1]? = some (.string (Ov.fileAt l k)) := by
  induction l generalizing k with
  | nil => simp at h
  | cons f l ih =>
    cases k with
    | zero => simp [fileCells, Ov.fileAt]
    | succ k =>
      rw [show (k + 1) * 2 + 1 = k * 2 + 1 + 1 + 1 from by omega]
      simpa [fileCells, Ov.fileAt] using ih (k := k) (by simpa using h)
/-- The reference's files: a slice whose cells they are. -/
abbrev OwnsFiles (w : World) (base : Nat) (v : Value) (l : Ov.Files) : Prop := w.ownsRow base 116 2 v l.length (fileCells l)
theorem files_name {w : World} {base g c : Nat} {l : Ov.Files} (h : OwnsFiles w base (.slice (some ⟨g, 0, none⟩) l.length c) l) {k : Nat} (hk : k < l.length) : w.cell? ⟨g, k * 2, none⟩ = some (.string (Ov.nameAt l k)) := by
  rw [h.cellAt _ (by omega), fileCells_name hk]
theorem files_bytes {w : World} {base g c : Nat} {l : Ov.Files} (h : OwnsFiles w base (.slice (some ⟨g, 0, none⟩) l.length c) l) {k : Nat} (hk : k < l.length) : w.cell? ⟨g, k * 2 + 1, none⟩ = some (.string (Ov.fileAt l k)) := by
  rw [h.cellAt _ (by omega), fileCells_bytes hk]

theorem Tryz.infoFile : (Tryz.prog.info? 116).map (fun i => (i.zero, i.size, i.bytes)) = some (some (.agg #[.string ⟨#[]⟩, .string ⟨#[]⟩]), 2, 32) := by kernel_rfl
theorem fileCells_one (l : Ov.Files) : ∀ u ∈ fileCells l, u.oneCell' = true := by
  induction l with
  | nil => intro u hu; cases hu
  | cons f l ih =>
    intro u hu
    simp only [fileCells, List.mem_cons] at hu
    rcases hu with rfl | rfl | hu
    · rfl
    · rfl
    · exact ih u hu
theorem fileCells_set {l : Ov.Files} {k : Nat} (h : k < l.length) (b : ByteArray) : (fileCells l).set (k * 2 + 1) (.string b) = fileCells (l.set k (Ov.nameAt l k, b)) := by
  induction l generalizing k with
  | nil => simp at h
  | cons f l ih =>
    cases k with
    | zero => simp [fileCells, Ov.nameAt]
    | succ k =>
      rw [show (k + 1) * 2 + 1 = k * 2 + 1 + 1 + 1 from by omega]
      have := ih (k := k) (by simpa using h)
      simpa [fileCells, Ov.nameAt] using this
/-- The cells of a row, at an address. -/
theorem files_at {w : World} {base g c : Nat} {l : Ov.Files} (h : OwnsFiles w base (.slice (some ⟨g, 0, none⟩) l.length c) l) : ∀ (j : Nat) (u : Value), (fileCells l)[j]? = some u → w.cell? ((⟨g, 0, none⟩ : Addr).add j) = some u := fun j u hu => h.cells rfl j u hu
/-- The two new cells that an append of one file takes. -/
theorem two_new {w : World} {x y : Value} {t : TypeId} {b : Nat} (hb : b = w.heap.size) : ∀ (j : Nat) (u : Value), [x, y][j]? = some u → (w.alloc (.cells #[x, y] t)).cell? ((⟨b, 0, none⟩ : Addr).add j) = some u := by
  subst hb
  intro j u hj
  have e : (⟨w.heap.size, 0, none⟩ : Addr).add j = ⟨w.heap.size, j, none⟩ := by simp [Addr.add]; exact fun h => h.symm
  rw [e, cell_alloc_mark_at w #[x, y] t (0, 0) _ j rfl, ← hj]
  simp
theorem two_strings (x y : ByteArray) : ∀ u ∈ [Value.string x, Value.string y], u.oneCell' = true := by intro u hu; simp at hu; rcases hu with rfl | rfl <;> rfl

end Go.Proofs.YtdcmmmggiokbhaaGreatDoor

/- Down: what holds in its loops. -/
namespace Go.Proofs.YtdcmmmggiokbhaaGreatDoor
open Go.RowKit Go.Joins

def lenOf : Value → Nat
  | .slice _ n _ => n
  | _ => 0
/-- What lies below a mark stays owned. -/
theorem owns_below {w w' : World} {base B e size n : Nat} {v : Value} {xs : List Value} (h : w.ownsRow base e size v n xs) (hlt : ∀ k, v.ownBlock = some k → k < B) (hb : Below B w w') : w'.ownsRow base e size v n xs := by
  obtain ⟨h1, h2⟩ := h
  refine ⟨h1, ?_⟩
  rcases h2 with h2 | ⟨g, cap, cur, rfl, hg, hh, r⟩
  · exact Or.inl h2
  · exact Or.inr ⟨g, cap, cur, rfl, hg, by rw [hb.block g (hlt g rfl)]; exact hh, r⟩
theorem owns_all {w w' : World} {base e size n : Nat} {v : Value} {xs : List Value} (h : w.ownsRow base e size v n xs) (hb : Below w.heap.size w w') : w'.ownsRow base e size v n xs := owns_below h (fun k hk => (h.lt k hk).2) hb

/-- Ahead of a round of Down. -/
structure NI (l : Ov.Files) (w : World) (x0 : ByteArray) (seen : List ByteArray) (y : ByteArray) (nv : Value) (wr : World) : Prop where
  met : Ov.Met l seen
  new : y ∉ seen
  here : Ov.place l y < l.length
  eq : Ov.down l (l.length - seen.length) seen y = Ov.downOf l x0
  names : wr.ownsRow w.heap.size 9 1 nv seen.length (seen.map Value.string)
  below : Below w.heap.size w wr
theorem NI.lt {l : Ov.Files} {w wr : World} {x0 y : ByteArray} {seen : List ByteArray} {nv : Value} (h : NI l w x0 seen y nv wr) : seen.length < l.length := by
  have := (h.met.snoc h.new h.here).length
  simp at this; omega
theorem NI.fuel {l : Ov.Files} {w wr : World} {x0 y : ByteArray} {seen : List ByteArray} {nv : Value} (h : NI l w x0 seen y nv wr) : l.length - seen.length = l.length - (seen ++ [y]).length + 1 := by
  have := h.lt
  simp; omega
section
variable {l : Ov.Files} {w wr : World} {x0 y s : ByteArray} {seen : List ByteArray} {nv : Value}
/-- What Down answers, by what is met. -/
theorem NI.corrupt (h : NI l w x0 seen y nv wr) (hs : Ov.fileAt l (Ov.place l y) = s) (hi : Ov.imageB s = false) : Ov.downOf l x0 = ([], 5, y) := by
  rw [← h.eq, h.fuel, Ov.down, hs, if_pos hi]
theorem NI.last (h : NI l w x0 seen y nv wr) (hs : Ov.fileAt l (Ov.place l y) = s) (hi : Ov.imageB s = true) (hb : (Ov.backing s).size = 0) : Ov.downOf l x0 = (seen ++ [y], 0, ⟨#[]⟩) := by
  rw [← h.eq, h.fuel, Ov.down, hs, if_neg (by rw [hi]; simp), if_pos hb]
theorem NI.cycle (h : NI l w x0 seen y nv wr) (hs : Ov.fileAt l (Ov.place l y) = s) (hi : Ov.imageB s = true) (hb : (Ov.backing s).size ≠ 0) (hm : Ov.metB (seen ++ [y]) (Ov.backing s) = true) : Ov.downOf l x0 = ([], 7, y) := by
  rw [← h.eq, h.fuel, Ov.down, hs, if_neg (by rw [hi]; simp), if_neg hb, if_pos hm]
theorem NI.missing (h : NI l w x0 seen y nv wr) (hs : Ov.fileAt l (Ov.place l y) = s) (hi : Ov.imageB s = true) (hb : (Ov.backing s).size ≠ 0) (hm : Ov.metB (seen ++ [y]) (Ov.backing s) = false) (hp : ¬ Ov.place l (Ov.backing s) < l.length) : Ov.downOf l x0 = ([], 6, y) := by
  rw [← h.eq, h.fuel, Ov.down, hs, if_neg (by rw [hi]; simp), if_neg hb, if_neg (by rw [hm]; simp), if_pos hp]
theorem NI.next {wn : World} {v1 : Value} (h : NI l w x0 seen y nv wr) (hs : Ov.fileAt l (Ov.place l y) = s) (hi : Ov.imageB s = true) (hb : (Ov.backing s).size ≠ 0) (hm : Ov.metB (seen ++ [y]) (Ov.backing s) = false) (hp : Ov.place l (Ov.backing s) < l.length)
    (hn : wn.ownsRow w.heap.size 9 1 v1 (seen.length + 1) (seen.map Value.string ++ [.string y])) (hbl : Below w.heap.size w wn) : NI l w x0 (seen ++ [y]) (Ov.backing s) v1 wn := by
  refine ⟨h.met.snoc h.new h.here, fun hmem => ?_, hp, ?_, ?_, hbl⟩
  · rw [← Ov.metB_iff, hm] at hmem; cases hmem
  · rw [← h.eq, h.fuel]
    conv => rhs; rw [Ov.down, hs, if_neg (by rw [hi]; simp), if_neg hb, if_neg (by rw [hm]; simp), if_neg (by omega)]
  · rw [List.map_append, List.length_append]; exact hn
end

end Go.Proofs.YtdcmmmggiokbhaaGreatDoor

/- An image's file, piece by piece, as Encode makes it. -/
namespace Go.Proofs.YtdcmmmggiokbhaaGreatDoor
open Go.RowKit Go.Joins

/-- How many of the first k entries are data. -/
def encN (ks : List Int) : Nat → Nat
  | 0 => 0
  | k + 1 => encN ks k + if ks.getD k 0 = 1 then 1 else 0
/-- The entry's byte. -/
def encE (ks : List Int) (k : Nat) : Int := if ks.getD k 0 = 1 then ((encN ks k + 1 : Nat) : Int) else ks.getD k 0
def encHead (bk : ByteArray) (n : Nat) : ByteArray := ⟨#[79, 86]⟩ ++ strOfNums [1, n, bk.size] ++ bk
def encF (bk : ByteArray) (ks : List Int) (n : Nat) : Nat → ByteArray
  | 0 => encHead bk n
  | k + 1 => encF bk ks n k ++ strOfNums [encE ks k]
def encB (ks : List Int) (bs : List ByteArray) : Nat → ByteArray
  | 0 => ⟨#[]⟩
  | k + 1 => if ks.getD k 0 = 1 then encB ks bs k ++ bs.getD k ⟨#[]⟩ else encB ks bs k
/-- The file whole. -/
def encode (bk : ByteArray) (ks : List Int) (bs : List ByteArray) : ByteArray := encF bk ks ks.length ks.length ++ strOfNums [(encN ks ks.length : Int)] ++ encB ks bs ks.length
theorem encN_le (ks : List Int) (k : Nat) : encN ks k ≤ k := by
  induction k with
  | zero => simp [encN]
  | succ k ih => simp only [encN]; split <;> omega

theorem encF_size (bk : ByteArray) (ks : List Int) (n k : Nat) : (encF bk ks n k).size = 5 + bk.size + k := by
  induction k with
  | zero =>
    have h2 : (⟨#[79, 86]⟩ : ByteArray).size = 2 := rfl
    simp only [encF, encHead, ByteArray.size_append, strOfNums_size, h2, List.length_cons, List.length_nil]; omega
  | succ k ih => simp only [encF, ByteArray.size_append, strOfNums_size, ih, List.length_cons, List.length_nil]; omega
theorem encB_size (ks : List Int) (bs : List ByteArray) (k : Nat) (h : ∀ j, j < k → (bs.getD j ⟨#[]⟩).size ≤ 8) : (encB ks bs k).size ≤ 8 * k := by
  induction k with
  | zero => exact Nat.le_refl 0
  | succ k ih =>
    have := ih (fun j hj => h j (by omega))
    have := h k (by omega)
    simp only [encB]
    split
    · rw [ByteArray.size_append]; omega
    · omega
theorem conv_lit (w : World) (b : Nat) (hb : b = w.heap.size) (xs : List Int) (h : ∀ i, i < xs.length → ((xs.map (Value.int .u8)).toArray)[i]? = some (.int .u8 (xs.getD i 0))) (m : Nat) (hm : xs.length = m) :
    (convert 88 9 (.slice (some ⟨b, 0, none⟩) m m)).run Tryz.prog (w.alloc (.cells (xs.map (Value.int .u8)).toArray 5)) = .ok (.string (strOfNums xs)) (w.alloc (.cells (xs.map (Value.int .u8)).toArray 5)) := by
  subst hb
  refine run_convert_bytes_arg _ 88 5 Tryz.underlying88 Tryz.underlying5 w.heap.size 0 m m xs hm (fun i hi => ?_) 9 Tryz.underlying9
  rw [Nat.zero_add, cell_alloc_mark_at w _ _ (0, 0) _ i rfl, h i (by omega)]
theorem conv1 (w : World) (x : Int) : (convert 88 9 (.slice (some ⟨w.heap.size, 0, none⟩) 1 1)).run Tryz.prog (w.alloc (.cells #[.int .u8 x] 5)) = .ok (.string (strOfNums [x])) (w.alloc (.cells #[.int .u8 x] 5)) :=
  conv_lit w _ rfl [x] (fun i hi => by match i, hi with | 0, _ => rfl) 1 rfl
theorem conv3 (w : World) (b : Nat) (hb : b = w.heap.size) (x y z : Int) : (convert 88 9 (.slice (some ⟨b, 0, none⟩) 3 3)).run Tryz.prog (w.alloc (.cells #[.int .u8 x, .int .u8 y, .int .u8 z] 5)) = .ok (.string (strOfNums [x, y, z])) (w.alloc (.cells #[.int .u8 x, .int .u8 y, .int .u8 z] 5)) :=
  conv_lit w _ hb [x, y, z] (fun i hi => by match i, hi with | 0, _ => rfl | 1, _ => rfl | 2, _ => rfl) 3 rfl

theorem ints_cell {w : World} {base g c n : Nat} {ks : List Int} (h : w.ownsRow base 3 1 (.slice (some ⟨g, 0, none⟩) n c) n (ks.map (Value.int .i64))) {k : Nat} (hk : k < n) : w.cell? ⟨g, k, none⟩ = some (.int .i64 (ks.getD k 0)) := by
  have hl : ks.length = n := by have := h.1; simpa using this
  rw [h.cellAt k (by omega), List.getElem?_map, List.getD_eq_getElem?_getD, List.getElem?_eq_getElem (by omega)]; rfl
theorem texts_cell {w : World} {base g c n : Nat} {bs : List ByteArray} (h : w.ownsRow base 9 1 (.slice (some ⟨g, 0, none⟩) n c) n (bs.map Value.string)) {k : Nat} (hk : k < n) : w.cell? ⟨g, k, none⟩ = some (.string (bs.getD k ⟨#[]⟩)) := by
  have hl : bs.length = n := by have := h.1; simpa using this
  rw [h.cellAt k (by omega), List.getElem?_map, List.getD_eq_getElem?_getD, List.getElem?_eq_getElem (by omega)]; rfl

end Go.Proofs.YtdcmmmggiokbhaaGreatDoor
