/- The law's world: any number of stores, the program's and the document's. -/
import Derived.Test.YtomiepknmmpflaaGreatDoorCWOMake2
namespace Go.Proofs.YtomiepknmmpflaaGreatDoor
open Go.RowKit Go.Joins

/-- A pair of stores: their blocks, the program's rows, their room, their files. -/
structure St where
  bx : Nat
  rx : Option Nat
  ry : Nat
  room : Nat
  l : Ov.Files
def prCells : List St → List Value
  | [] => []
  | s :: S => .pointer (some ⟨s.bx, 0, none⟩) :: .pointer (some ⟨s.ry, 0, none⟩) :: prCells S
theorem prCells_length (S : List St) : (prCells S).length = S.length * 2 := by
  induction S with
  | nil => rfl
  | cons s S ih => simp only [prCells, List.length_cons, ih]; omega
theorem prCells_append (S T : List St) : prCells (S ++ T) = prCells S ++ prCells T := by
  induction S with
  | nil => rfl
  | cons s S ih => simp only [prCells, List.cons_append, ih]
theorem prCells_at {S : List St} {k : Nat} {s : St} (h : S[k]? = some s) : (prCells S)[k * 2]? = some (.pointer (some ⟨s.bx, 0, none⟩)) ∧ (prCells S)[k * 2 + 1]? = some (.pointer (some ⟨s.ry, 0, none⟩)) := by
  induction S generalizing k with
  | nil => simp at h
  | cons t S ih =>
    cases k with
    | zero =>
      simp at h
      subst h
      exact ⟨rfl, rfl⟩
    | succ k =>
      have := ih (k := k) (by simpa using h)
      have e : (k + 1) * 2 = k * 2 + 2 := by omega
      rw [e]
      exact this
theorem prCells_set {S : List St} {k : Nat} {s t : St} (h : S[k]? = some s) (h1 : t.bx = s.bx) (h2 : t.ry = s.ry) : prCells (S.set k t) = prCells S := by
  induction S generalizing k with
  | nil => simp at h
  | cons u S ih =>
    cases k with
    | zero =>
      simp at h
      subst h
      simp only [List.set_cons_zero, prCells, h1, h2]
    | succ k =>
      simp only [List.set_cons_succ, prCells, ih (k := k) (by simpa using h)]
/-- One pair, in memory. -/
structure StOk (w : World) (B : Nat) (s : St) : Prop where
  ov : OvRep w s.bx s.rx s.room s.l
  ref : RefRep w s.ry s.room s.l
  li : Ov.LI s.room s.l
  bx : B ≤ s.bx
  ry : B ≤ s.ry
  rx : ∀ k, s.rx = some k → B ≤ k
/-- Two pairs share nothing. -/
def Apart (s t : St) : Prop := s.bx ≠ t.bx ∧ s.ry ≠ t.ry ∧ (s.rx = none ∨ s.rx ≠ t.rx)
theorem Apart.symm {s t : St} (h : Apart s t) : Apart t s := ⟨Ne.symm h.1, Ne.symm h.2.1, by
  rcases h.2.2 with e | e
  · by_cases ht : t.rx = none
    · exact Or.inl ht
    · exact Or.inr (fun e2 => ht (e2.trans e))
  · exact Or.inr (Ne.symm e)⟩
/-- What lies under it all: the fixed errors, and the library's type of errors. -/
structure Under (w : World) (B : Nat) (s0 s1 s2 s3 : Addr) : Prop where
  se : Sents w B s0 s1 s2 s3
  g4 : w.cell? ⟨4, 0, none⟩ = some (.iface 259 (.agg #[.pointer (some ⟨8, 80, none⟩)]))
theorem Under.kept {w w' : World} {B : Nat} {s0 s1 s2 s3 : Addr} (h : Under w B s0 s1 s2 s3) (hb : Below B w w') : Under w' B s0 s1 s2 s3 := ⟨h.se.kept hb, (hb.cell (p := ⟨4, 0, none⟩) h.se.l).trans h.g4⟩
/-- The law's world. -/
structure LW (w : World) (B wb : Nat) (s0 s1 s2 s3 : Addr) (v : Value) (S : List St) : Prop where
  un : Under w B s0 s1 s2 s3
  blk : w.heap[wb]? = some (.cells #[v] 60 (0, 0))
  own : w.ownsRow B 127 2 v S.length (prCells S)
  each : ∀ s ∈ S, StOk w B s
  apart : S.Pairwise Apart
  wb : B ≤ wb
theorem OvAt.of_blocks {s : Int} {w w' : World} {b room : Nat} {r : Option Nat} {l : Ov.Files} (h : OvAt s w b r room l) (h1 : w'.heap[b]? = w.heap[b]?) (h2 : ∀ k, r = some k → w'.heap[k]? = w.heap[k]?) : OvAt s w' b r room l := by
  obtain ⟨v, a, c, d, e⟩ := h
  refine ⟨v, h1.trans a, ⟨c.1, ?_⟩, d, e⟩
  rcases c.2 with k | ⟨g, cap, cur, hv, hg, hh, q⟩
  · exact Or.inl k
  · exact Or.inr ⟨g, cap, cur, hv, hg, (h2 g (by rw [← e, hv]; rfl)).trans hh, q⟩
theorem RefRep.of_blocks {w w' : World} {b room : Nat} {l : Ov.Files} (h : RefRep w b room l) (h1 : w'.heap[b]? = w.heap[b]?) (h2 : ∀ (k : Nat) (cs : Array Value), w.heap[k]? = some (Obj.cells cs 251 (0, 0)) → w'.heap[k]? = w.heap[k]?) : RefRep w' b room l := by
  obtain ⟨v, a, c, d⟩ := h
  refine ⟨v, h1.trans a, ⟨c.1, ?_⟩, d⟩
  rcases c.2 with k | ⟨g, cap, cur, hv, hg, hh, q⟩
  · exact Or.inl k
  · exact Or.inr ⟨g, cap, cur, hv, hg, (h2 g _ hh).trans hh, q⟩
theorem owns_of_blocks {w w' : World} {base e size n : Nat} {v : Value} {xs : List Value} (h : w.ownsRow base e size v n xs) (h2 : ∀ k, v.ownBlock = some k → w'.heap[k]? = w.heap[k]?) : w'.ownsRow base e size v n xs := by
  refine ⟨h.1, ?_⟩
  rcases h.2 with k | ⟨g, cap, cur, hv, hg, hh, q⟩
  · exact Or.inl k
  · exact Or.inr ⟨g, cap, cur, hv, hg, (h2 g (by rw [hv]; rfl)).trans hh, q⟩
theorem OvAt.blk {s : Int} {w : World} {b room : Nat} {r : Option Nat} {l : Ov.Files} (h : OvAt s w b r room l) : ∃ cs, w.heap[b]? = some (.cells cs 77 (0, 0)) := by
  obtain ⟨v, a, _⟩ := h; exact ⟨_, a⟩
theorem OvAt.row {s : Int} {w : World} {b room : Nat} {r : Option Nat} {l : Ov.Files} (h : OvAt s w b r room l) {k : Nat} (hk : r = some k) : ∃ cs, w.heap[k]? = some (.cells cs 97 (0, 0)) := by
  obtain ⟨v, _, c, _, e⟩ := h; exact own_blk c (e.trans hk)
theorem RefRep.blk {w : World} {b room : Nat} {l : Ov.Files} (h : RefRep w b room l) : ∃ cs, w.heap[b]? = some (.cells cs 180 (0, 0)) := by
  obtain ⟨v, a, _⟩ := h; exact ⟨_, a⟩
/-- A block of a type that is neither the program's store's nor its rows' outlives a call of the program. -/
theorem OFr.other {w w' : World} {b room k : Nat} {r : Option Nat} {l : Ov.Files} {cs : Array Value} {t : TypeId} (hf : OFr w w' b r) (h : OvRep w b r room l) (hk : w.heap[k]? = some (.cells cs t (0, 0))) (h1 : t ≠ 77) (h2 : t ≠ 97) : w'.heap[k]? = w.heap[k]? := by
  obtain ⟨c, hc⟩ := h.blk
  exact hf.block k (blk_lt hk) (blk_two hk hc h1) (fun e => by
    obtain ⟨d, hd⟩ := h.row e.symm
    exact blk_two hk hd h2 rfl)
theorem OFr.belowB {w w' : World} {b B : Nat} {r : Option Nat} (h : OFr w w' b r) (hb : B ≤ b) (hr : ∀ k, r = some k → B ≤ k) (hB : B ≤ w.heap.size) : Below B w w' :=
  ⟨h.os, h.tape, h.output, h.size, fun k hk => h.block k (by omega) (by omega) (fun e => by have := hr k e.symm; omega)⟩
theorem grown_belowB {w w' : World} {b B : Nat} (h : w.grownBy w' (some b)) (hb : B ≤ b) (hB : B ≤ w.heap.size) : Below B w w' :=
  ⟨h.os, h.tape, h.output, h.size, fun k hk => h.block k (by omega) (fun e => by simp at e; omega)⟩
/-- Behind the program's call: the document's store of the pair stands as it stood. -/
theorem StOk.mid {w w1 : World} {B : Nat} {s : St} {l' : Ov.Files} (h : StOk w B s) (hl : OvLeft w s.bx s.rx s.room l' w1) : RefRep w1 s.ry s.room s.l := by
  obtain ⟨c, hc⟩ := h.ref.blk
  exact h.ref.of_blocks (hl.fr.other h.ov hc (by decide) (by decide)) (fun k cs hk => hl.fr.other h.ov hk (by decide) (by decide))
/-- Another pair stands through both calls. -/
theorem StOk.other {w w1 w2 : World} {B : Nat} {s t : St} {l' : Ov.Files} (h : StOk w B s) (ht : StOk w B t) (ha : Apart s t) (hl : OvLeft w s.bx s.rx s.room l' w1) (hr : RefLeft w1 s.ry s.room l' w2) : StOk w2 B t := by
  have hm := h.mid hl
  obtain ⟨c, hc⟩ := hm.blk
  have step2 : ∀ (k : Nat) (cs : Array Value) (u : TypeId), w1.heap[k]? = some (Obj.cells cs u (0, 0)) → u ≠ 180 → w2.heap[k]? = w1.heap[k]? := fun k cs u hk hu => hr.grown.block k (blk_lt hk) (fun e => by
    simp only [Option.some.injEq] at e
    exact blk_two hk hc hu e)
  refine ⟨?_, ?_, ht.li, ht.bx, ht.ry, ht.rx⟩
  · obtain ⟨d, hd⟩ := ht.ov.blk
    have k1 : w1.heap[t.bx]? = w.heap[t.bx]? := hl.fr.block _ (blk_lt hd) (Ne.symm ha.1) (fun e => by
      obtain ⟨f, hf⟩ := h.ov.row e.symm
      exact blk_two hd hf (by decide) rfl)
    refine ht.ov.of_blocks ((step2 _ _ _ (k1.trans hd) (by decide)).trans k1) fun k hk => ?_
    obtain ⟨f, hf⟩ := ht.ov.row hk
    obtain ⟨g, hg⟩ := h.ov.blk
    have k2 : w1.heap[k]? = w.heap[k]? := hl.fr.block _ (blk_lt hf) (fun e => blk_two hf hg (by decide) e) (fun e => by
      rcases ha.2.2 with a | a
      · rw [a] at e; cases e
      · exact a (e.symm.trans hk.symm))
    exact (step2 _ _ _ (k2.trans hf) (by decide)).trans k2
  · obtain ⟨d, hd⟩ := ht.ref.blk
    have k1 := hl.fr.other h.ov hd (by decide) (by decide)
    refine ht.ref.of_blocks (Eq.trans (hr.grown.block _ (blk_lt (k1.trans hd)) (fun e => by simp only [Option.some.injEq] at e; exact ha.2.1 e.symm)) k1) (fun k cs hk => ?_)
    have k2 := hl.fr.other h.ov hk (by decide) (by decide)
    exact (step2 _ _ _ (k2.trans hk) (by decide)).trans k2
/-- Behind both calls: the pair itself. -/
theorem StOk.turn {w w1 w2 : World} {B : Nat} {s : St} {l' : Ov.Files} (h : StOk w B s) (hl : OvLeft w s.bx s.rx s.room l' w1) (hr : RefLeft w1 s.ry s.room l' w2) (hi : Ov.LI s.room l') (hB : B ≤ w.heap.size) :
    ∃ r', StOk w2 B ⟨s.bx, r', s.ry, s.room, l'⟩ ∧ (r' = s.rx ∨ ∀ k, r' = some k → w.heap.size ≤ k) := by
  obtain ⟨⟨r', hov, hrr⟩, hfr⟩ := hl
  have hm := h.mid ⟨⟨r', hov, hrr⟩, hfr⟩
  obtain ⟨c, hc⟩ := hm.blk
  refine ⟨r', ⟨?_, hr.rep, hi, h.bx, h.ry, fun k hk => ?_⟩, hrr⟩
  · obtain ⟨d, hd⟩ := hov.blk
    refine hov.of_blocks (hr.grown.block _ (blk_lt hd) (fun e => by simp only [Option.some.injEq] at e; exact blk_two hd hc (by decide) e)) fun k hk => ?_
    obtain ⟨f, hf⟩ := hov.row hk
    exact hr.grown.block _ (blk_lt hf) (fun e => by simp only [Option.some.injEq] at e; exact blk_two hf hc (by decide) e)
  · rcases hrr with e | e
    · exact h.rx k (by rw [← e]; exact hk)
    · exact Nat.le_trans hB (e k hk)
theorem pairwise_set {S : List St} {i : Nat} {t : St} (h : S.Pairwise Apart) (ht : ∀ j u, S[j]? = some u → j ≠ i → Apart t u) : (S.set i t).Pairwise Apart := by
  rw [List.pairwise_iff_getElem] at h ⊢
  intro a b ha hb hab
  simp only [List.length_set] at ha hb
  rw [List.getElem_set, List.getElem_set]
  by_cases e1 : i = a
  · rw [if_pos e1, if_neg (by omega)]
    exact ht b _ (List.getElem?_eq_getElem hb) (by omega)
  · rw [if_neg e1]
    by_cases e2 : i = b
    · rw [if_pos e2]
      exact (ht a _ (List.getElem?_eq_getElem ha) (by omega)).symm
    · rw [if_neg e2]
      exact h a b ha hb hab
theorem pairwise_at {S : List St} {i j : Nat} {s t : St} (h : S.Pairwise Apart) (hi : S[i]? = some s) (hj : S[j]? = some t) (hne : i ≠ j) : Apart s t := by
  rw [List.pairwise_iff_getElem] at h
  obtain ⟨a1, a2⟩ := List.getElem?_eq_some_iff.1 hi
  obtain ⟨b1, b2⟩ := List.getElem?_eq_some_iff.1 hj
  rw [← a2, ← b2]
  rcases Nat.lt_or_ge i j with k | k
  · exact h i j a1 b1 k
  · exact (h j i b1 a1 (by omega)).symm
/-- THE LAW's WORLD, BEHIND BOTH CALLS ON ONE PAIR. -/
theorem LW.turn {w w1 w2 : World} {B wb i : Nat} {s0 s1 s2 s3 : Addr} {v : Value} {S : List St} {s : St} {l' : Ov.Files} (h : LW w B wb s0 s1 s2 s3 v S) (hs : S[i]? = some s) (hl : OvLeft w s.bx s.rx s.room l' w1) (hr : RefLeft w1 s.ry s.room l' w2) (hi : Ov.LI s.room l') :
    ∃ S', LW w2 B wb s0 s1 s2 s3 v S' ∧ S'.length = S.length ∧ Below B w w2 := by
  have hmem := List.mem_of_getElem? hs
  have hst := h.each s hmem
  have hBs := h.un.se.size
  obtain ⟨r', hok, hrr⟩ := hst.turn hl hr hi hBs
  have b1 : Below B w w1 := hl.fr.belowB hst.bx hst.rx hBs
  have b2 : Below B w1 w2 := grown_belowB hr.grown hst.ry (Nat.le_trans hBs b1.size)
  have hm := hst.mid hl
  obtain ⟨c, hc⟩ := hm.blk
  have both : ∀ (k : Nat) (cs : Array Value) (u : TypeId), w.heap[k]? = some (Obj.cells cs u (0, 0)) → u ≠ 77 → u ≠ 97 → u ≠ 180 → w2.heap[k]? = w.heap[k]? := fun k cs u hk u1 u2 u3 => by
    have k1 := hl.fr.other hst.ov hk u1 u2
    have hk1 := k1.trans hk
    exact Eq.trans (hr.grown.block k (blk_lt hk1) (fun e => by simp only [Option.some.injEq] at e; exact blk_two hk1 hc u3 e)) k1
  refine ⟨S.set i ⟨s.bx, r', s.ry, s.room, l'⟩, ⟨(h.un.kept b1).kept b2, (both _ _ _ h.blk (by decide) (by decide) (by decide)).trans h.blk, ?_, ?_, ?_, h.wb⟩, by simp, b1.trans b2⟩
  · rw [List.length_set, prCells_set (t := ⟨s.bx, r', s.ry, s.room, l'⟩) hs rfl rfl]
    exact owns_of_blocks h.own fun k hk => by
      obtain ⟨cs, hcs⟩ := own_blk h.own hk
      exact both _ _ _ hcs (by decide) (by decide) (by decide)
  · intro t ht
    obtain ⟨j, hj, e⟩ := List.mem_iff_getElem.1 ht
    simp only [List.length_set] at hj
    rw [List.getElem_set] at e
    by_cases e1 : i = j
    · rw [if_pos e1] at e
      rw [← e]; exact hok
    · rw [if_neg e1] at e
      have ht2 : S[j]? = some t := by rw [List.getElem?_eq_getElem hj, e]
      exact hst.other (h.each t (List.mem_of_getElem? ht2)) (pairwise_at h.apart hs ht2 e1) hl hr
  · refine pairwise_set h.apart fun j u hu hne => ?_
    have ha := pairwise_at h.apart hs hu (Ne.symm hne)
    refine ⟨ha.1, ha.2.1, ?_⟩
    rcases hrr with e | e
    · show r' = none ∨ r' ≠ u.rx
      rw [e]; exact ha.2.2
    · by_cases hn : r' = none
      · exact Or.inl hn
      · refine Or.inr fun e2 => ?_
        obtain ⟨k, hk⟩ := Option.ne_none_iff_exists'.1 hn
        have h1 := e k hk
        obtain ⟨f, hf⟩ := (h.each u (List.mem_of_getElem? hu)).ov.row (e2.symm.trans hk)
        have := blk_lt hf
        omega
theorem StOk.kept {w w' : World} {B : Nat} {s : St} (h : StOk w B s) (hb : Below w.heap.size w w') : StOk w' B s := ⟨h.ov.kept hb, h.ref.kept hb, h.li, h.bx, h.ry, h.rx⟩
/-- New memory is made: the law's world stands. -/
theorem LW.kept {w w' : World} {B wb : Nat} {s0 s1 s2 s3 : Addr} {v : Value} {S : List St} (h : LW w B wb s0 s1 s2 s3 v S) (hb : Below w.heap.size w w') : LW w' B wb s0 s1 s2 s3 v S :=
  ⟨h.un.kept (hb.mono h.un.se.size), by rw [hb.block _ (blk_lt h.blk)]; exact h.blk, owns_all h.own hb, fun s hs => (h.each s hs).kept hb, h.apart, h.wb⟩

/-- The numbers and the text of a step. -/
structure OpOk (W n m : Int) (tx : ByteArray) : Prop where
  w1 : -9223372036854775808 ≤ W
  w2 : W ≤ 9223372036854775807
  n1 : -9223372036854775808 ≤ n
  n2 : n ≤ 9223372036854775807
  m1 : -9223372036854775808 ≤ m
  m2 : m ≤ 9223372036854775807
  t : tx.size ≤ 9223372036854775807

end Go.Proofs.YtomiepknmmpflaaGreatDoor
