/- The program's keeper of files by name: put. -/
import Derived.Test.YtdcmmmggiokbhaaGreatDoorCWPlace
import Derived.Test.YtdcmmmggiokbhaaGreatDoorCShelf
import Derived.Deep.RegionLawGrows
namespace Go.Proofs.YtdcmmmggiokbhaaGreatDoor
open Go.RowKit Go.Joins

/-- Nothing has turned but block b, and the row r. -/
structure OFr (w w' : World) (b : Nat) (r : Option Nat) : Prop where
  os : w'.os = w.os
  tape : w'.tape = w.tape
  output : w'.output = w.output
  size : w.heap.size ≤ w'.heap.size
  block : ∀ k, k < w.heap.size → k ≠ b → some k ≠ r → w'.heap[k]? = w.heap[k]?
theorem OFr.of_below {w w' : World} (h : Below w.heap.size w w') (b : Nat) (r : Option Nat) : OFr w w' b r := ⟨h.os, h.tape, h.output, h.size, fun k hk _ _ => h.block k hk⟩
theorem OFr.trans {w w1 w2 : World} {b : Nat} {r : Option Nat} (h : OFr w w1 b r) (k : OFr w1 w2 b r) : OFr w w2 b r :=
  ⟨k.os.trans h.os, k.tape.trans h.tape, k.output.trans h.output, Nat.le_trans h.size k.size, fun i hi hb hr => (k.block i (Nat.lt_of_lt_of_le hi h.size) hb hr).trans (h.block i hi hb hr)⟩
theorem OFr.set_row (w : World) (b g i : Nat) (u : Value) : OFr w (w.setCell ⟨g, i, none⟩ u) b (some g) := ⟨rfl, rfl, rfl, by simp, fun k _ _ hr => Below.heap_setCell _ _ _ _ (fun e => hr (by rw [e]))⟩
theorem OFr.set_blk (w : World) (b i : Nat) (r : Option Nat) (u : Value) : OFr w (w.setCell ⟨b, i, none⟩ u) b r := ⟨rfl, rfl, rfl, by simp, fun k _ hb _ => Below.heap_setCell _ _ _ _ hb⟩
theorem set_own {cs : Array Value} {off : Nat} {v : Value} (h : cs[off]? = some v) : cs.setIfInBounds off v = cs := by
  apply Array.ext_getElem?
  intro i
  rw [Array.getElem?_setIfInBounds]
  by_cases e : off = i
  · subst e
    obtain ⟨hlt, _⟩ := Array.getElem?_eq_some_iff.1 h
    rw [if_pos rfl, if_pos hlt, h]
  · rw [if_neg e]

/-- What put leaves. -/
structure PutLeft (w : World) (b off : Nat) (cs : Array Value) (t : TypeId) (v : Value) (l : Ov.Files) (v' : Value) (w' : World) : Prop where
  blk : w'.heap[b]? = some (.cells (cs.setIfInBounds off v') t (0, 0))
  own : OwnsRows w' 0 v' l
  ne : some b ≠ v'.ownBlock
  fr : OFr w w' b v.ownBlock
  row : v'.ownBlock = v.ownBlock ∨ ∀ k, v'.ownBlock = some k → w.heap.size ≤ k

theorem put_here {w w1 : World} {b off g c p : Nat} {cs : Array Value} {t : TypeId} {l : Ov.Files} {x th : ByteArray} (hblk : w.heap[b]? = some (.cells cs t (0, 0))) (hoff : cs[off]? = some (.slice (some ⟨g, 0, none⟩) l.length c)) (hown : OwnsRows w 0 (.slice (some ⟨g, 0, none⟩) l.length c) l)
    (hne : some b ≠ (Value.slice (some ⟨g, 0, none⟩) l.length c).ownBlock) (hb1 : Below w.heap.size w w1) (hp : p < l.length) (hn : Ov.nameAt l p = x) :
    PutLeft w b off cs t (.slice (some ⟨g, 0, none⟩) l.length c) (l.set p (x, th)) (.slice (some ⟨g, 0, none⟩) l.length c) (w1.setCell ⟨g, p * 2 + 1, none⟩ (.string th)) := by
  have hbg : b ≠ g := fun e => hne (by rw [e]; rfl)
  have h1 : w1.heap[b]? = _ := (hb1.block b (blk_lt hblk)).trans hblk
  refine ⟨?_, ?_, hne, (OFr.of_below hb1 _ _).trans (OFr.set_row w1 b g _ _), Or.inl rfl⟩
  · rw [set_own hoff]; exact blk_set_other h1 hbg _
  · have := ((owns_all hown hb1).stored (p * 2 + 1) (.string th)).1
    rw [fileCells_set hp, hn] at this
    unfold OwnsRows
    rw [List.length_set]
    exact this

set_option maxRecDepth 100000 in
set_option maxHeartbeats 400000 in
theorem oSput_here (l : Ov.Files) (v : Value) (x th : ByteArray) (b off : Nat) (cs : Array Value) (t : TypeId) (w : World) (hl : l.length ≤ 8) (hblk : w.heap[b]? = some (.cells cs t (0, 0))) (hoff : cs[off]? = some v) (hown : OwnsRows w 0 v l) (hne : some b ≠ v.ownBlock) (hp : Ov.place l x < l.length) :
    Calls Tryz.prog 85 #[.pointer (some ⟨b, off, none⟩), .string x, .string th] w fun e w' => e = .returned (.tuple #[]) ∧ ∃ v', PutLeft w b off cs t v (Ov.withF l x th) v' w' := by
  obtain ⟨g, c, rfl⟩ := ownsRow_form hown (by omega)
  have HB := hide hblk
  have HF := hide hoff
  have HO := hide hown
  have HN := hide hne
  have hbl := blk_lt hblk
  obtain ⟨p, hpe⟩ : ∃ p, Ov.place l x = p := ⟨_, rfl⟩
  rw [hpe] at hp
  have hf : Ov.find l x = (p : Int) := by rw [Ov.find_yes (by omega), hpe]
  have Hw : Hid (Ov.withF l x th = l.set p (x, th)) := by unfold Ov.withF; rw [hpe, if_pos hp]; exact rfl
  have Hnm : Hid (Ov.nameAt l p = x) := by rw [← hpe]; exact Ov.place_name (by omega)
  clear hpe hblk hoff hown hne
  go_enter Tryz.func85, Tryz.ntmps85
  go_wp2_with (go_at_call 91; refine (oSplace_calls l _ x b off 0 _ hl (unhide HO) (blk_cell (unhide HB) (unhide HF)) hbl).mono ?_; rintro e w1 ⟨rfl, hb1⟩; have c1 : w1.cell? ⟨b, off, none⟩ = some (.slice (some ⟨g, 0, none⟩) l.length c) := (hb1.cell (p := ⟨b, off, none⟩) hbl).trans (blk_cell (unhide HB) (unhide HF)); have ct := rows_bytes (owns_all (unhide HO) hb1) hp; have cf := (owns_all (unhide HO) hb1).frozenAt (p * 2 + 1); have HB1 := hide hb1; clear hb1)
  first | go_end0 | refine bodyPost_ret (results_none rfl _ _ _) rfl ?_
  exact ⟨rfl, _, by rw [unhide Hw]; exact put_here (unhide HB) (unhide HF) (unhide HO) (unhide HN) (unhide HB1) hp (unhide Hnm)⟩

end Go.Proofs.YtdcmmmggiokbhaaGreatDoor
