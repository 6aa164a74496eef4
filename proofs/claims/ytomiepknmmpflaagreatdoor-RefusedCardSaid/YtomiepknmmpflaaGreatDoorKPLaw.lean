/- The program's Make, whole. -/
import Derived.Test.YtomiepknmmpflaaGreatDoorKWOMake
import Derived.Test.YtomiepknmmpflaaGreatDoorKWSetData
namespace Go.Proofs.YtomiepknmmpflaaGreatDoor
open Go.RowKit Go.Joins

theorem oMake_calls (l : Ov.Files) (x bk : ByteArray) (n : Int) (b B : Nat) (r : Option Nat) (room : Nat) (s0 s1 s2 s3 : Addr) (w : World) (hi : Ov.LI room l) (h : OvRep w b r room l) (hs : Sents w B s0 s1 s2 s3) (hB : B ≤ b) :
    Calls Tryz.prog 38 #[.pointer (some ⟨b, 0, none⟩), .string x, .int .i64 n, .string bk] w fun e w' => e = .returned (.int .i64 (makeF room l x n bk).1) ∧ OvLeft w b r room (makeF room l x n bk).2 w' := by
  have hl8 := hi.len
  cases hn : Ov.nameB x
  · have e : makeF room l x n bk = (2, l) := by unfold makeF; rw [if_pos hn]
    rw [e]; exact oMake_name l x bk n b r room w hi h hn
  by_cases hn1 : n < 1
  · have e : makeF room l x n bk = (1, l) := by unfold makeF; rw [if_neg (by rw [hn]; simp), if_pos (Or.inl hn1)]
    rw [e]; exact oMake_few l x bk n b r room w hi h hn hn1
  by_cases hn30 : 30 < n
  · have e : makeF room l x n bk = (1, l) := by unfold makeF; rw [if_neg (by rw [hn]; simp), if_pos (Or.inr (Or.inl hn30))]
    rw [e]; exact oMake_many l x bk n b r room w hi h hn (by omega) hn30
  by_cases h8 : l.length = 8
  · have e : makeF room l x n bk = (1, l) := by unfold makeF; rw [if_neg (by rw [hn]; simp), if_pos (Or.inr (Or.inr h8))]
    rw [e]; exact oMake_files l x bk n b r room w hi h hn (by omega) (by omega) h8
  by_cases hp : Ov.place l x < l.length
  · have e : makeF room l x n bk = (3, l) := by unfold makeF; rw [if_neg (by rw [hn]; simp), if_neg (by omega), if_pos hp]
    rw [e]; exact oMake_here l x bk n b r room w hi h hn (by omega) (by omega) (by omega) hp
  obtain ⟨m, rfl⟩ := Int.eq_ofNat_of_zero_le (show 0 ≤ n by omega)
  by_cases hb0 : bk.size = 0
  · have hbe : bk.toList.isEmpty = true := by rw [ByteArray.toList_eq, List.isEmpty_iff_length_eq_zero]; simpa using hb0
    have hsz := blank_size (bk := bk) (n := m) (by omega) (by omega)
    unfold blank at hsz
    have hT := addUp_total hi x _ hsz
    have e : makeF room l x m bk = Ov.putF room l (Ov.withF l x (encode bk (noKinds m) (noBlocks m))) := by
      unfold makeF blank; rw [if_neg (by rw [hn]; simp), if_neg (by omega), if_neg hp, if_neg (by omega), Int.toNat_natCast]
    by_cases hrm : room < Ov.total (Ov.withF l x (encode bk (noKinds m) (noBlocks m)))
    · rw [e, show Ov.putF room l (Ov.withF l x (encode bk (noKinds m) (noBlocks m))) = (9, l) from by unfold Ov.putF; rw [if_pos hrm]]
      exact oMake_alone_full l x bk m b r room w hi h hn (by omega) (by omega) (by omega) hp hbe (by omega) (by rw [hT]; omega)
    · rw [e, show Ov.putF room l (Ov.withF l x (encode bk (noKinds m) (noBlocks m))) = (0, Ov.withF l x (encode bk (noKinds m) (noBlocks m))) from by unfold Ov.putF; rw [if_neg hrm]]
      exact oMake_alone l x bk m b r room w hi h hn (by omega) (by omega) (by omega) hp hbe (by omega) (by rw [hT]; omega)
  have hbe : bk.toList.isEmpty = false := by rw [ByteArray.toList_eq, ← Bool.not_eq_true, List.isEmpty_iff_length_eq_zero]; simpa using hb0
  by_cases hso : Ov.soundF l bk = 0
  · have hpb : Ov.place l bk < l.length := by
      by_cases hpb : Ov.place l bk < l.length
      · exact hpb
      · unfold Ov.soundF at hso; rw [if_neg hpb] at hso; omega
    have hdo : (Ov.downOf l bk).2.1 = 0 := by unfold Ov.soundF at hso; rw [if_pos hpb] at hso; exact hso
    have hb8 := hi.name_size hpb
    have hsz := blank_size (bk := bk) (n := m) hb8 (by omega)
    unfold blank at hsz
    have hT := addUp_total hi x _ hsz
    have e : makeF room l x m bk = Ov.putF room l (Ov.withF l x (encode bk (noKinds m) (noBlocks m))) := by
      unfold makeF blank; rw [if_neg (by rw [hn]; simp), if_neg (by omega), if_neg hp, if_neg (by omega), Int.toNat_natCast]
    by_cases hrm : room < Ov.total (Ov.withF l x (encode bk (noKinds m) (noBlocks m)))
    · rw [e, show Ov.putF room l (Ov.withF l x (encode bk (noKinds m) (noBlocks m))) = (9, l) from by unfold Ov.putF; rw [if_pos hrm]]
      exact oMake_over_full l x bk m b r room w hi h B s0 s1 s2 s3 hs hB hn (by omega) (by omega) (by omega) hp hbe hpb hdo hb8 (by rw [hT]; omega)
    · rw [e, show Ov.putF room l (Ov.withF l x (encode bk (noKinds m) (noBlocks m))) = (0, Ov.withF l x (encode bk (noKinds m) (noBlocks m))) from by unfold Ov.putF; rw [if_neg hrm]]
      exact oMake_over l x bk m b r room w hi h B s0 s1 s2 s3 hs hB hn (by omega) (by omega) (by omega) hp hbe hpb hdo hb8 (by rw [hT]; omega)
  · have e : makeF room l x m bk = (Ov.soundF l bk, l) := by unfold makeF; rw [if_neg (by rw [hn]; simp), if_neg (by omega), if_neg hp, if_pos ⟨hb0, hso⟩]
    rw [e]; exact oMake_unsound l x bk m b r room w hi h B s0 s1 s2 s3 hs hB hn (by omega) (by omega) (by omega) hp hbe hso

end Go.Proofs.YtomiepknmmpflaaGreatDoor

namespace Go.Proofs.YtomiepknmmpflaaGreatDoor
open Go.RowKit Go.Joins

structure St where
  bx : Nat
  rx : Option Nat
  ry : Nat
  room : Nat
  l : Ov.Files
def prCells : List St → List Value
  | [] => []
  | s :: S => .pointer (some ⟨s.bx, 0, none⟩) :: .pointer (some ⟨s.ry, 0, none⟩) :: prCells S
theorem prCells_append (S T : List St) : prCells (S ++ T) = prCells S ++ prCells T := by
  induction S with
  | nil => rfl
  | cons s S ih => simp only [prCells, List.cons_append, ih]
theorem prCells_set {S : List St} {k : Nat} {s t : St} (h : S[k]? = some s) (h1 : t.bx = s.bx) (h2 : t.ry = s.ry) : prCells (S.set k t) = prCells S := by
  induction S generalizing k with
  | nil => simp at h
  | cons u S ih =>
    cases k with
    | zero =>
      simp at h
      subst h
      simp only [List.set_cons_zero, prCells, h1, h2]
    | succ k =>
      simp only [List.set_cons_succ, prCells, ih (k := k) (by simpa using h)]
structure StOk (w : World) (B : Nat) (s : St) : Prop where
  ov : OvRep w s.bx s.rx s.room s.l
  ref : RefRep w s.ry s.room s.l
  li : Ov.LI s.room s.l
  bx : B ≤ s.bx
  ry : B ≤ s.ry
  rx : ∀ k, s.rx = some k → B ≤ k
def Apart (s t : St) : Prop := s.bx ≠ t.bx ∧ s.ry ≠ t.ry ∧ (s.rx = none ∨ s.rx ≠ t.rx)
theorem Apart.symm {s t : St} (h : Apart s t) : Apart t s := ⟨Ne.symm h.1, Ne.symm h.2.1, by
  rcases h.2.2 with e | e
  · by_cases ht : t.rx = none
    · exact Or.inl ht
    · exact Or.inr (fun e2 => ht (e2.trans e))
  · exact Or.inr (Ne.symm e)⟩
structure Under (w : World) (B : Nat) (s0 s1 s2 s3 : Addr) : Prop where
  se : Sents w B s0 s1 s2 s3
  g4 : w.cell? ⟨4, 0, none⟩ = some (.iface 259 (.agg #[.pointer (some ⟨8, 80, none⟩)]))
theorem Under.kept {w w' : World} {B : Nat} {s0 s1 s2 s3 : Addr} (h : Under w B s0 s1 s2 s3) (hb : Below B w w') : Under w' B s0 s1 s2 s3 := ⟨h.se.kept hb, (hb.cell (p := ⟨4, 0, none⟩) h.se.l).trans h.g4⟩
structure LW (w : World) (B wb : Nat) (s0 s1 s2 s3 : Addr) (v : Value) (S : List St) : Prop where
  un : Under w B s0 s1 s2 s3
  blk : w.heap[wb]? = some (.cells #[v] 60 (0, 0))
  own : w.ownsRow B 127 2 v S.length (prCells S)
  each : ∀ s ∈ S, StOk w B s
  apart : S.Pairwise Apart
  wb : B ≤ wb
theorem OvAt.of_blocks {s : Int} {w w' : World} {b room : Nat} {r : Option Nat} {l : Ov.Files} (h : OvAt s w b r room l) (h1 : w'.heap[b]? = w.heap[b]?) (h2 : ∀ k, r = some k → w'.heap[k]? = w.heap[k]?) : OvAt s w' b r room l := by
  obtain ⟨v, a, c, d, e⟩ := h
  refine ⟨v, h1.trans a, ⟨c.1, ?_⟩, d, e⟩
  rcases c.2 with k | ⟨g, cap, cur, hv, hg, hh, q⟩
  · exact Or.inl k
  · exact Or.inr ⟨g, cap, cur, hv, hg, (h2 g (by rw [← e, hv]; rfl)).trans hh, q⟩
theorem RefRep.of_blocks {w w' : World} {b room : Nat} {l : Ov.Files} (h : RefRep w b room l) (h1 : w'.heap[b]? = w.heap[b]?) (h2 : ∀ (k : Nat) (cs : Array Value), w.heap[k]? = some (Obj.cells cs 251 (0, 0)) → w'.heap[k]? = w.heap[k]?) : RefRep w' b room l := by
  obtain ⟨v, a, c, d⟩ := h
  refine ⟨v, h1.trans a, ⟨c.1, ?_⟩, d⟩
  rcases c.2 with k | ⟨g, cap, cur, hv, hg, hh, q⟩
  · exact Or.inl k
  · exact Or.inr ⟨g, cap, cur, hv, hg, (h2 g _ hh).trans hh, q⟩
theorem owns_of_blocks {w w' : World} {base e size n : Nat} {v : Value} {xs : List Value} (h : w.ownsRow base e size v n xs) (h2 : ∀ k, v.ownBlock = some k → w'.heap[k]? = w.heap[k]?) : w'.ownsRow base e size v n xs := by
  refine ⟨h.1, ?_⟩
  rcases h.2 with k | ⟨g, cap, cur, hv, hg, hh, q⟩
  · exact Or.inl k
  · exact Or.inr ⟨g, cap, cur, hv, hg, (h2 g (by rw [hv]; rfl)).trans hh, q⟩
theorem OvAt.blk {s : Int} {w : World} {b room : Nat} {r : Option Nat} {l : Ov.Files} (h : OvAt s w b r room l) : ∃ cs, w.heap[b]? = some (.cells cs 77 (0, 0)) := by
  obtain ⟨v, a, _⟩ := h; exact ⟨_, a⟩
theorem OvAt.row {s : Int} {w : World} {b room : Nat} {r : Option Nat} {l : Ov.Files} (h : OvAt s w b r room l) {k : Nat} (hk : r = some k) : ∃ cs, w.heap[k]? = some (.cells cs 97 (0, 0)) := by
  obtain ⟨v, _, c, _, e⟩ := h; exact own_blk c (e.trans hk)
theorem RefRep.blk {w : World} {b room : Nat} {l : Ov.Files} (h : RefRep w b room l) : ∃ cs, w.heap[b]? = some (.cells cs 180 (0, 0)) := by
  obtain ⟨v, a, _⟩ := h; exact ⟨_, a⟩
theorem OFr.other {w w' : World} {b room k : Nat} {r : Option Nat} {l : Ov.Files} {cs : Array Value} {t : TypeId} (hf : OFr w w' b r) (h : OvRep w b r room l) (hk : w.heap[k]? = some (.cells cs t (0, 0))) (h1 : t ≠ 77) (h2 : t ≠ 97) : w'.heap[k]? = w.heap[k]? := by
  obtain ⟨c, hc⟩ := h.blk
  exact hf.block k (blk_lt hk) (blk_two hk hc h1) (fun e => by
    obtain ⟨d, hd⟩ := h.row e.symm
    exact blk_two hk hd h2 rfl)
theorem OFr.belowB {w w' : World} {b B : Nat} {r : Option Nat} (h : OFr w w' b r) (hb : B ≤ b) (hr : ∀ k, r = some k → B ≤ k) (hB : B ≤ w.heap.size) : Below B w w' :=
  ⟨h.os, h.tape, h.output, h.size, fun k hk => h.block k (by omega) (by omega) (fun e => by have := hr k e.symm; omega)⟩
theorem grown_belowB {w w' : World} {b B : Nat} (h : w.grownBy w' (some b)) (hb : B ≤ b) (hB : B ≤ w.heap.size) : Below B w w' :=
  ⟨h.os, h.tape, h.output, h.size, fun k hk => h.block k (by omega) (fun e => by simp at e; omega)⟩
theorem StOk.mid {w w1 : World} {B : Nat} {s : St} {l' : Ov.Files} (h : StOk w B s) (hl : OvLeft w s.bx s.rx s.room l' w1) : RefRep w1 s.ry s.room s.l := by
  obtain ⟨c, hc⟩ := h.ref.blk
  exact h.ref.of_blocks (hl.fr.other h.ov hc (by decide) (by decide)) (fun k cs hk => hl.fr.other h.ov hk (by decide) (by decide))
theorem StOk.other {w w1 w2 : World} {B : Nat} {s t : St} {l' : Ov.Files} (h : StOk w B s) (ht : StOk w B t) (ha : Apart s t) (hl : OvLeft w s.bx s.rx s.room l' w1) (hr : RefLeft w1 s.ry s.room l' w2) : StOk w2 B t := by
  have hm := h.mid hl
  obtain ⟨c, hc⟩ := hm.blk
  have step2 : ∀ (k : Nat) (cs : Array Value) (u : TypeId), w1.heap[k]? = some (Obj.cells cs u (0, 0)) → u ≠ 180 → w2.heap[k]? = w1.heap[k]? := fun k cs u hk hu => hr.grown.block k (blk_lt hk) (fun e => by
    simp only [Option.some.injEq] at e
    exact blk_two hk hc hu e)
  refine ⟨?_, ?_, ht.li, ht.bx, ht.ry, ht.rx⟩
  · obtain ⟨d, hd⟩ := ht.ov.blk
    have k1 : w1.heap[t.bx]? = w.heap[t.bx]? := hl.fr.block _ (blk_lt hd) (Ne.symm ha.1) (fun e => by
      obtain ⟨f, hf⟩ := h.ov.row e.symm
      exact blk_two hd hf (by decide) rfl)
    refine ht.ov.of_blocks ((step2 _ _ _ (k1.trans hd) (by decide)).trans k1) fun k hk => ?_
    obtain ⟨f, hf⟩ := ht.ov.row hk
    obtain ⟨g, hg⟩ := h.ov.blk
    have k2 : w1.heap[k]? = w.heap[k]? := hl.fr.block _ (blk_lt hf) (fun e => blk_two hf hg (by decide) e) (fun e => by
      rcases ha.2.2 with a | a
      · rw [a] at e; cases e
      · exact a (e.symm.trans hk.symm))
    exact (step2 _ _ _ (k2.trans hf) (by decide)).trans k2
  · obtain ⟨d, hd⟩ := ht.ref.blk
    have k1 := hl.fr.other h.ov hd (by decide) (by decide)
    refine ht.ref.of_blocks (Eq.trans (hr.grown.block _ (blk_lt (k1.trans hd)) (fun e => by simp only [Option.some.injEq] at e; exact ha.2.1 e.symm)) k1) (fun k cs hk => ?_)
    have k2 := hl.fr.other h.ov hk (by decide) (by decide)
    exact (step2 _ _ _ (k2.trans hk) (by decide)).trans k2
theorem StOk.turn {w w1 w2 : World} {B : Nat} {s : St} {l' : Ov.Files} (h : StOk w B s) (hl : OvLeft w s.bx s.rx s.room l' w1) (hr : RefLeft w1 s.ry s.room l' w2) (hi : Ov.LI s.room l') (hB : B ≤ w.heap.size) :
    ∃ r', StOk w2 B ⟨s.bx, r', s.ry, s.room, l'⟩ ∧ (r' = s.rx ∨ ∀ k, r' = some k → w.heap.size ≤ k) := by
  obtain ⟨⟨r', hov, hrr⟩, hfr⟩ := hl
  have hm := h.mid ⟨⟨r', hov, hrr⟩, hfr⟩
  obtain ⟨c, hc⟩ := hm.blk
  refine ⟨r', ⟨?_, hr.rep, hi, h.bx, h.ry, fun k hk => ?_⟩, hrr⟩
  · obtain ⟨d, hd⟩ := hov.blk
    refine hov.of_blocks (hr.grown.block _ (blk_lt hd) (fun e => by simp only [Option.some.injEq] at e; exact blk_two hd hc (by decide) e)) fun k hk => ?_
    obtain ⟨f, hf⟩ := hov.row hk
    exact hr.grown.block _ (blk_lt hf) (fun e => by simp only [Option.some.injEq] at e; exact blk_two hf hc (by decide) e)
  · rcases hrr with e | e
    · exact h.rx k (by rw [← e]; exact hk)
    · exact Nat.le_trans hB (e k hk)
theorem pairwise_set {S : List St} {i : Nat} {t : St} (h : S.Pairwise Apart) (ht : ∀ j u, S[j]? = some u → j ≠ i → Apart t u) : (S.set i t).Pairwise Apart := by
  rw [List.pairwise_iff_getElem] at h ⊢
  intro a b ha hb hab
  simp only [List.length_set] at ha hb
  rw [List.getElem_set, List.getElem_set]
  by_cases e1 : i = a
  · rw [if_pos e1, if_neg (by omega)]
    exact ht b _ (List.getElem?_eq_getElem hb) (by omega)
  · rw [if_neg e1]
    by_cases e2 : i = b
    · rw [if_pos e2]
      exact (ht a _ (List.getElem?_eq_getElem ha) (by omega)).symm
    · rw [if_neg e2]
      exact h a b ha hb hab
theorem pairwise_at {S : List St} {i j : Nat} {s t : St} (h : S.Pairwise Apart) (hi : S[i]? = some s) (hj : S[j]? = some t) (hne : i ≠ j) : Apart s t := by
  rw [List.pairwise_iff_getElem] at h
  obtain ⟨a1, a2⟩ := List.getElem?_eq_some_iff.1 hi
  obtain ⟨b1, b2⟩ := List.getElem?_eq_some_iff.1 hj
  rw [← a2, ← b2]
  rcases Nat.lt_or_ge i j with k | k
  · exact h i j a1 b1 k
  · exact (h j i b1 a1 (by omega)).symm
theorem LW.turn {w w1 w2 : World} {B wb i : Nat} {s0 s1 s2 s3 : Addr} {v : Value} {S : List St} {s : St} {l' : Ov.Files} (h : LW w B wb s0 s1 s2 s3 v S) (hs : S[i]? = some s) (hl : OvLeft w s.bx s.rx s.room l' w1) (hr : RefLeft w1 s.ry s.room l' w2) (hi : Ov.LI s.room l') :
    ∃ S', LW w2 B wb s0 s1 s2 s3 v S' ∧ S'.length = S.length ∧ Below B w w2 := by
  have hmem := List.mem_of_getElem? hs
  have hst := h.each s hmem
  have hBs := h.un.se.size
  obtain ⟨r', hok, hrr⟩ := hst.turn hl hr hi hBs
  have b1 : Below B w w1 := hl.fr.belowB hst.bx hst.rx hBs
  have b2 : Below B w1 w2 := grown_belowB hr.grown hst.ry (Nat.le_trans hBs b1.size)
  have hm := hst.mid hl
  obtain ⟨c, hc⟩ := hm.blk
  have both : ∀ (k : Nat) (cs : Array Value) (u : TypeId), w.heap[k]? = some (Obj.cells cs u (0, 0)) → u ≠ 77 → u ≠ 97 → u ≠ 180 → w2.heap[k]? = w.heap[k]? := fun k cs u hk u1 u2 u3 => by
    have k1 := hl.fr.other hst.ov hk u1 u2
    have hk1 := k1.trans hk
    exact Eq.trans (hr.grown.block k (blk_lt hk1) (fun e => by simp only [Option.some.injEq] at e; exact blk_two hk1 hc u3 e)) k1
  refine ⟨S.set i ⟨s.bx, r', s.ry, s.room, l'⟩, ⟨(h.un.kept b1).kept b2, (both _ _ _ h.blk (by decide) (by decide) (by decide)).trans h.blk, ?_, ?_, ?_, h.wb⟩, by simp, b1.trans b2⟩
  · rw [List.length_set, prCells_set (t := ⟨s.bx, r', s.ry, s.room, l'⟩) hs rfl rfl]
    exact owns_of_blocks h.own fun k hk => by
      obtain ⟨cs, hcs⟩ := own_blk h.own hk
      exact both _ _ _ hcs (by decide) (by decide) (by decide)
  · intro t ht
    obtain ⟨j, hj, e⟩ := List.mem_iff_getElem.1 ht
    simp only [List.length_set] at hj
    rw [List.getElem_set] at e
    by_cases e1 : i = j
    · rw [if_pos e1] at e
      rw [← e]; exact hok
    · rw [if_neg e1] at e
      have ht2 : S[j]? = some t := by rw [List.getElem?_eq_getElem hj, e]
      exact hst.other (h.each t (List.mem_of_getElem? ht2)) (pairwise_at h.apart hs ht2 e1) hl hr
  · refine pairwise_set h.apart fun j u hu hne => ?_
    have ha := pairwise_at h.apart hs hu (Ne.symm hne)
    refine ⟨ha.1, ha.2.1, ?_⟩
    rcases hrr with e | e
    · show r' = none ∨ r' ≠ u.rx
      rw [e]; exact ha.2.2
    · by_cases hn : r' = none
      · exact Or.inl hn
      · refine Or.inr fun e2 => ?_
        obtain ⟨k, hk⟩ := Option.ne_none_iff_exists'.1 hn
        have h1 := e k hk
        obtain ⟨f, hf⟩ := (h.each u (List.mem_of_getElem? hu)).ov.row (e2.symm.trans hk)
        have := blk_lt hf
        omega
theorem StOk.kept {w w' : World} {B : Nat} {s : St} (h : StOk w B s) (hb : Below w.heap.size w w') : StOk w' B s := ⟨h.ov.kept hb, h.ref.kept hb, h.li, h.bx, h.ry, h.rx⟩
theorem LW.kept {w w' : World} {B wb : Nat} {s0 s1 s2 s3 : Addr} {v : Value} {S : List St} (h : LW w B wb s0 s1 s2 s3 v S) (hb : Below w.heap.size w w') : LW w' B wb s0 s1 s2 s3 v S :=
  ⟨h.un.kept (hb.mono h.un.se.size), by rw [hb.block _ (blk_lt h.blk)]; exact h.blk, owns_all h.own hb, fun s hs => (h.each s hs).kept hb, h.apart, h.wb⟩

structure OpOk (W n m : Int) (tx : ByteArray) : Prop where
  w1 : -9223372036854775808 ≤ W
  w2 : W ≤ 9223372036854775807
  n1 : -9223372036854775808 ≤ n
  n2 : n ≤ 9223372036854775807
  m1 : -9223372036854775808 ≤ m
  m2 : m ≤ 9223372036854775807
  t : tx.size ≤ 9223372036854775807

end Go.Proofs.YtomiepknmmpflaaGreatDoor

namespace Go.Proofs.YtomiepknmmpflaaGreatDoor
open Go.RowKit Go.Joins

def eightOf (e : Eight) : List UInt8 := (List.range 8).map fun j => (e j).toUInt8
theorem eightOf_length (e : Eight) : (eightOf e).length = 8 := by simp [eightOf]
theorem eightOf_at {e : Eight} {j : Nat} (hj : j < 8) (he : e j < 256) : ((eightOf e).getD j 0).toNat = e j := by
  unfold eightOf
  rw [List.getD_eq_getElem?_getD, List.getElem?_map, List.getElem?_range hj]
  show (e j).toUInt8.toNat = e j
  rw [UInt8.toNat_ofNat']
  exact Nat.mod_eq_of_lt he
theorem bytes_eight {b : ByteArray} {e : Eight} (hs : b.size = 8) (h : ∀ j, j < 8 → Ov.byteAt b j = e j) : b = ⟨(eightOf e).toArray⟩ := by
  apply ByteArray.ext
  apply Array.ext'
  refine List.ext_getElem? fun j => ?_
  have hl : b.data.toList.length = 8 := hs
  by_cases hj : j < 8
  · have h1 := h j hj
    unfold Ov.byteAt at h1
    rw [List.getD_eq_getElem?_getD, List.getElem?_eq_getElem (by omega)] at h1
    rw [List.getElem?_eq_getElem (by omega)]
    show some _ = (eightOf e)[j]?
    unfold eightOf
    rw [List.getElem?_map, List.getElem?_range hj]
    refine congrArg some ?_
    show b.data.toList[j] = (e j).toUInt8
    rw [← h1]
    simp
  · rw [List.getElem?_eq_none (by omega)]
    show none = (eightOf e)[j]?
    rw [List.getElem?_eq_none (by rw [eightOf_length]; omega)]
structure Says (m : Nat) (Q : Nat → Int) (D : Nat → Eight) (ks : List Int) (bs : List ByteArray) : Prop where
  len : ks.length = m
  kind : ∀ i, i < m → kindP (ks.getD i 0) = Q i
  known : ∀ i, i < m → ks.getD i 0 = 0 ∨ ks.getD i 0 = 1 ∨ ks.getD i 0 = 255
  data : ∀ i, i < m → ks.getD i 0 = 1 → (bs.getD i ⟨#[]⟩).size = 8 ∧ ∀ j, j < 8 → Ov.byteAt (bs.getD i ⟨#[]⟩) j = D i j
  lt : ∀ i, i < m → ∀ j, j < 8 → D i j < 256
theorem ofile_saysC {m g : Nat} {Q : Nat → Int} {D : Nat → Eight} {ks : List Int} {bs : List ByteArray} {W : World} (h : Says m Q D ks bs) (hc : Cl W g m Q D) (bk : ByteArray) (t : Int) (cp : Nat) (hm1 : 1 ≤ m) (hm : m ≤ 30) (hb : bk.size ≤ 8) :
    Calls Tryz.prog 54 #[.agg #[.string bk, .slice (some ⟨g, 0, none⟩) m cp, .int .i64 t]] W fun e w' => e = .returned (.string (encode bk ks bs)) ∧ Below W.heap.size W w' := by
  refine ofile_callsC cp bk g m t ks bs (fun i => eightOf (D i)) W ⟨h.len, fun k hk => ?_, fun k hk j hj => ?_, h.known, fun k _ => eightOf_length _, hc.lt⟩ (fun k hk h1 => ?_) hm1 hm hb
  · rw [h.kind k hk]; exact hc.kind k hk
  · rw [eightOf_at hj (h.lt k hk j hj)]; exact hc.byte k hk j hj
  · obtain ⟨h2, h3⟩ := h.data k hk h1
    exact bytes_eight h2 h3
theorem ofile_says {m g : Nat} {Q : Nat → Int} {D : Nat → Eight} {ks : List Int} {bs : List ByteArray} {W : World} (h : Says m Q D ks bs) (hg : W.heap[g]? = some (.cells (clRow Q D m).toArray 160 (0, 0))) (bk : ByteArray) (t : Int) (hm1 : 1 ≤ m) (hm : m ≤ 30) (hb : bk.size ≤ 8) :
    Calls Tryz.prog 54 #[.agg #[.string bk, .slice (some ⟨g, 0, none⟩) m m, .int .i64 t]] W fun e w' => e = .returned (.string (encode bk ks bs)) ∧ Below W.heap.size W w' := ofile_saysC h (cl_row hg) bk t m hm1 hm hb

theorem kindP_old (s : ByteArray) (i : Nat) : kindP (kOld s i) = qOf s i := by
  unfold kOld Ov.kindOf qOf kindP
  by_cases h0 : Ov.ent s i = 0
  · rw [if_pos h0, if_pos h0]; rfl
  · rw [if_neg h0, if_neg h0]
    by_cases h255 : Ov.ent s i = 255
    · rw [if_pos h255, if_pos h255]; rfl
    · rw [if_neg h255, if_neg h255]; rfl
theorem kOld_known (s : ByteArray) (i : Nat) : kOld s i = 0 ∨ kOld s i = 1 ∨ kOld s i = 255 := by
  rcases kindOf_known (Ov.ent s i) with h | h | h
  · exact Or.inl h
  · exact Or.inr (Or.inr h)
  · exact Or.inr (Or.inl h)
theorem old_data {s : ByteArray} (hi : Ov.isImage s) {i : Nat} (hm : i < Ov.many s) (h : kOld s i = 1) : (bOld s i).size = 8 ∧ ∀ j, j < 8 → Ov.byteAt (bOld s i) j = dOf s i j := by
  refine ⟨data_size hi hm h, fun j _ => ?_⟩
  unfold dOf
  have h1 : ¬ (Ov.ent s i = 0 ∨ Ov.ent s i = 255) := by
    rintro (e | e)
    · unfold kOld Ov.kindOf at h; rw [if_pos e] at h; cases h
    · unfold kOld Ov.kindOf at h; rw [e] at h; simp at h
  rw [if_neg h1]
theorem dOf_lt (s : ByteArray) (i j : Nat) : dOf s i j < 256 := by
  unfold dOf
  split
  · omega
  · exact Ov.byteAt_lt _ _
theorem blockTo_at (l : Ov.Files) (ns : List ByteArray) (f : Nat) (d : ByteArray) (n : Nat) {k j : Nat} (h : j < k) : (blockTo l ns f d n k).getD j 0 = ((byteW l ns f d (8 * n + j) : Nat) : Int) := by
  induction k with
  | zero => omega
  | succ k ih =>
    rw [blockTo]
    by_cases e : j < k
    · rw [List.getD_eq_getElem?_getD, List.getElem?_append_left (by rw [blockTo_length]; exact e), ← List.getD_eq_getElem?_getD]; exact ih e
    · obtain rfl : j = k := by omega
      rw [List.getD_eq_getElem?_getD, List.getElem?_append_right (by rw [blockTo_length]; omega), blockTo_length, Nat.sub_self]; rfl
theorem blockW_byte (l : Ov.Files) (ns : List ByteArray) (f : Nat) (d : ByteArray) (n : Nat) {j : Nat} (hj : j < 8) : Ov.byteAt (blockW l ns f d n) j = byteW l ns f d (8 * n + j) := by
  unfold Ov.byteAt blockW
  rw [strOfNums_data]
  have h1 := blockTo_at l ns f d n (k := 8) hj
  have hl := blockTo_length l ns f d n 8
  rw [List.getD_eq_getElem?_getD, List.getElem?_eq_getElem (by omega)] at h1
  rw [List.getD_eq_getElem?_getD, List.getElem?_map, List.getElem?_eq_getElem (by omega)]
  simp only [Option.getD_some, Option.map_some] at h1 ⊢
  rw [h1, Int.toNat_natCast, UInt8.toNat_ofNat']
  exact Nat.mod_eq_of_lt (byteW_lt _ _ _ _ _)

theorem says_write {l : Ov.Files} {ns : List ByteArray} {s d : ByteArray} {f k m : Nat} (hi : Ov.isImage s) (hm : Ov.many s = m) :
    Says m (dQ (qOf s) f k) (dD (dOf s) (byteW l ns f d) f k) (allTo m (kOld s) (fun _ => 1) (touched f k)) (allTo m (bOld s) (blockW l ns f d) (touched f k)) := by
  subst hm
  refine ⟨allTo_length, fun i hm => ?_, fun i hm => ?_, fun i hm h1 => ?_, fun i hm j hj => ?_⟩
  · rw [allTo_getD hm]; unfold dQ allF
    split
    · rfl
    · exact kindP_old s i
  · rw [allTo_getD hm]
    split
    · exact Or.inr (Or.inl rfl)
    · exact kOld_known s i
  · rw [allTo_getD hm] at h1 ⊢
    unfold dD allF
    by_cases ht : touched f k i
    · rw [if_pos ht] at h1 ⊢
      refine ⟨blockW_size _ _ _ _ _, fun j hj => ?_⟩
      rw [if_pos ht]; exact blockW_byte _ _ _ _ _ hj
    · rw [if_neg ht] at h1 ⊢
      rw [if_neg ht]
      exact old_data hi hm h1
  · unfold dD allF
    split
    · exact byteW_lt _ _ _ _ _
    · exact dOf_lt _ _ _
theorem says_zero {l : Ov.Files} {ns : List ByteArray} {s : ByteArray} {f k m : Nat} (hi : Ov.isImage s) (hm : Ov.many s = m) :
    Says m (wQ (dQ (qOf s) f k) 1 f k) (wD (dD (dOf s) (byteW l ns f (noughtsF k)) f k) f k) (allTo m (kOld s) (fun i => if covered f k i then 255 else 1) (touched f k)) (allTo m (bOld s) (fun i => if covered f k i then ⟨#[]⟩ else blockW l ns f (noughtsF k) i) (touched f k)) := by
  subst hm
  have hct : ∀ i, covered f k i → touched f k i := fun i h => by unfold covered at h; unfold touched; omega
  refine ⟨allTo_length, fun i hm => ?_, fun i hm => ?_, fun i hm h1 => ?_, fun i hm j hj => ?_⟩
  · rw [allTo_getD hm]; unfold wQ dQ allF
    by_cases hc : covered f k i
    · rw [if_pos (hct i hc), if_pos hc, if_pos hc]; rfl
    · rw [if_neg hc, if_neg hc]
      split
      · rfl
      · exact kindP_old s i
  · rw [allTo_getD hm]
    split
    · split
      · exact Or.inr (Or.inr rfl)
      · exact Or.inr (Or.inl rfl)
    · exact kOld_known s i
  · rw [allTo_getD hm] at h1 ⊢
    unfold wD dD allF
    by_cases ht : touched f k i
    · rw [if_pos ht] at h1 ⊢
      by_cases hc : covered f k i
      · rw [if_pos hc] at h1; cases h1
      · rw [if_neg hc]
        refine ⟨blockW_size _ _ _ _ _, fun j hj => ?_⟩
        rw [if_neg hc, if_pos ht]; exact blockW_byte _ _ _ _ _ hj
    · have hc : ¬ covered f k i := fun q => ht (hct i q)
      rw [if_neg ht] at h1 ⊢
      rw [if_neg hc, if_neg ht]
      exact old_data hi hm h1
  · unfold wD dD allF
    split
    · exact Nat.zero_lt_succ _
    · split
      · exact byteW_lt _ _ _ _ _
      · exact dOf_lt _ _ _
theorem says_discard {s : ByteArray} {f k m : Nat} (hi : Ov.isImage s) (hm : Ov.many s = m) :
    Says m (wQ (qOf s) (discKind (Ov.backing s)) f k) (wD (dOf s) f k) (allTo m (kOld s) (fun _ => if (Ov.backing s).size = 0 then 0 else 255) (covered f k)) (allTo m (bOld s) (fun _ => ⟨#[]⟩) (covered f k)) := by
  subst hm
  refine ⟨allTo_length, fun i hm => ?_, fun i hm => ?_, fun i hm h1 => ?_, fun i hm j hj => ?_⟩
  · rw [allTo_getD hm]; unfold wQ allF discKind
    split
    · split <;> rfl
    · exact kindP_old s i
  · rw [allTo_getD hm]
    split
    · split
      · exact Or.inl rfl
      · exact Or.inr (Or.inr rfl)
    · exact kOld_known s i
  · rw [allTo_getD hm] at h1 ⊢
    unfold wD allF
    by_cases hc : covered f k i
    · rw [if_pos hc] at h1
      exfalso
      split at h1 <;> cases h1
    · rw [if_neg hc] at h1 ⊢
      rw [if_neg hc]
      exact old_data hi hm h1
  · unfold wD allF
    split
    · exact Nat.zero_lt_succ _
    · exact dOf_lt _ _ _

end Go.Proofs.YtomiepknmmpflaaGreatDoor

