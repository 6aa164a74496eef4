/- The program's images by name: put of a new name. -/
import Derived.Test.YtomiepknmmpflaaGreatDoorCPCh
import Derived.Test.YtomiepknmmpflaaGreatDoorCWTally
namespace Go.Proofs.YtomiepknmmpflaaGreatDoor
open Go.RowKit Go.Joins

theorem four_new {w : World} {x y z q : Value} {t : TypeId} {b : Nat} (hb : b = w.heap.size) : ∀ (j : Nat) (u : Value), [x, y, z, q][j]? = some u → (w.alloc (.cells #[x, y, z, q] t)).cell? ((⟨b, 0, none⟩ : Addr).add j) = some u := by
  subst hb
  intro j u hj
  have e : (⟨w.heap.size, 0, none⟩ : Addr).add j = ⟨w.heap.size, j, none⟩ := by simp [Addr.add]; exact fun h => h.symm
  rw [e, cell_alloc_mark_at w #[x, y, z, q] t (0, 0) _ j rfl, ← hj]
  simp
theorem Tryz.infoRowI : (Tryz.prog.info? 151).map (fun i => (i.zero, i.size, i.bytes)) = some (some (.agg #[.string ⟨#[]⟩, .string ⟨#[]⟩, .slice none 0 0, .int .i64 0]), 4, 64) := by kernel_rfl
/-- What put leaves. -/
structure IPutLeft (w : World) (b : Nat) (v : Value) (L : Ims) (v' : Value) (w' : World) : Prop where
  blk : w'.heap[b]? = some (.cells #[v'] 132 (0, 0))
  own : OwnsIms w' 0 v' L
  ne : some b ≠ v'.ownBlock
  fr : OFr w w' b v.ownBlock
  row : v'.ownBlock = v.ownBlock ∨ ∀ k, v'.ownBlock = some k → w.heap.size ≤ k
theorem iput_grown {w w1 w2 w3 : World} {b : Nat} {v v3 : Value} {L : Ims} {x : ByteArray} {m : Im} {o : Obj} (hblk : w.heap[b]? = some (.cells #[v] 132 (0, 0))) (h1 : Below w.heap.size w w1) (h2 : Below w1.heap.size w1 w2) (h3 : (w2.alloc o).grownBy w3 none)
    (ho : w3.ownsRow (w2.alloc o).heap.size 151 4 v3 (L.length + 1) (imCells L ++ [.string x, .string m.bk, .slice (some ⟨m.g, 0, none⟩) m.n m.n, .int .i64 m.t])) : IPutLeft w b v (L ++ [(x, m)]) v3 (w3.setCell ⟨b, 0, none⟩ v3) := by
  have hlt := blk_lt hblk
  have s1 := h1.size
  have s2 := h2.size
  have hne : some b ≠ v3.ownBlock := owns_ne ho (by simp; omega)
  have hbel : Below w.heap.size w w3 := ((h1.trans (h2.mono s1)).alloc (by omega) o).grown h3 (by simp; omega) (fun k hk => by cases hk)
  refine ⟨blk_set_same (put_blk hblk h1 h2 h3) v3, ?_, hne, (OFr.of_below hbel _ _).trans (OFr.set_blk w3 b 0 _ v3), Or.inr fun k hk => ?_⟩
  · have := owns_set (ownsRow_le ho (Nat.zero_le _)) (a := ⟨b, 0, none⟩) hne v3
    unfold OwnsIms
    rw [imCells_append, List.length_append]
    exact this
  · have := (ho.lt k hk).1
    simp at this; omega

set_option maxRecDepth 100000 in
set_option maxHeartbeats 2000000 in
theorem oIput_grows (L : Ims) (a : Option Addr) (c : Nat) (x bk : ByteArray) (mg mn : Nat) (mt : Int) (b : Nat) (w : World) (hl : L.length ≤ 8) (hblk : w.heap[b]? = some (.cells #[.slice a L.length c] 132 (0, 0))) (hown : OwnsIms w 0 (.slice a L.length c) L) (hp : ¬ Ov.place (fl L) x < (fl L).length) (hx : x.size ≤ 1000) (hcap : c < L.length + 1) :
    Calls Tryz.prog 132 #[.pointer (some ⟨b, 0, none⟩), .string x, .agg #[.string bk, .slice (some ⟨mg, 0, none⟩) mn mn, .int .i64 mt]] w fun e w' => e = .returned (.tuple #[]) ∧ ∃ v', IPutLeft w b (.slice a L.length c) (L ++ [(x, ⟨bk, mg, mn, mt⟩)]) v' w' := by
  have HB := hide hblk
  have HO := hide hown
  have hbl := blk_lt hblk
  have hf : Ov.find (fl L) x = -1 := Ov.find_no hp
  obtain ⟨i0, hi, hz0, hz1, hz2⟩ := info_parts Tryz.infoRowI
  clear hblk hown
  go_enter Tryz.func132, Tryz.ntmps132
  go_wp2_with (go_at_call 89; refine (oIplace_calls L _ x b 0 0 _ hl ((unhide HO).alloc _) (blk_cell (blk_alloc (unhide HB) _) rfl) (blk_lt (blk_alloc (unhide HB) _))).mono ?_; rintro e w1 ⟨rfl, hb1⟩; have c1 : w1.cell? ⟨b, 0, none⟩ = some (.slice a L.length c) := (hb1.cell (p := ⟨b, 0, none⟩) (blk_lt (blk_alloc (unhide HB) _))).trans (blk_cell (blk_alloc (unhide HB) _) rfl); have HT : Hid (w1.heap[w.heap.size]? = some (.cells #[.string bk, .slice (some ⟨mg, 0, none⟩) mn mn, .int .i64 mt] 90 (0, 0))) := (hb1.block _ (by simp)).trans (blk_new _ _); have HB1 : Hid (Below w.heap.size w w1) := (below_alloc1 w _).trans (hb1.mono (by simp)); have hsz1 : w.heap.size < w1.heap.size := blk_lt (unhide HT); have hbl1 : b < w1.heap.size := (by omega); have q0 : w1.cell? ⟨w.heap.size, 0, none⟩ = some (.string bk) := blk_cell (unhide HT) rfl; have q1 : w1.cell? ⟨w.heap.size, 1, none⟩ = some (.slice (some ⟨mg, 0, none⟩) mn mn) := blk_cell (unhide HT) rfl; have q2 : w1.cell? ⟨w.heap.size, 2, none⟩ = some (.int .i64 mt) := blk_cell (unhide HT) rfl; clear hb1)
  go_region_law (first | (refine step_append_grows rfl (.tmp 24) (.tmp 29) 130 rfl 151 i0 (.agg #[.string ⟨#[]⟩, .string ⟨#[]⟩, .slice none 0 0, .int .i64 0]) 4 64 Tryz.underlying130 hi hz0 hz1 hz2 rfl (by decide) a L.length c (imCells L) (by simp [Act.eval]) (ims_none (unhide HO)) (imCells_length L) (ims_holds ((owns_all (owns_all (unhide HO) (unhide HB1)) (unhide HB2)).alloc _)) ⟨w2.heap.size, 0, none⟩ 1 1 [.string x, .string bk, .slice (some ⟨mg, 0, none⟩) mn mn, .int .i64 mt] (by simp [Act.eval]) rfl (four_new rfl) (imCells_one [(x, ⟨bk, mg, mn, mt⟩)]) hcap (by unfold maxLen; omega) (by omega) ?_; intro v3 w3 ho3 hg3; obtain ⟨g3, c3, rfl⟩ := ownsRow_form ho3 (by omega); have c4 : w3.cell? ⟨b, 0, none⟩ = some (.slice a L.length c) := put_cell c1 hbl1 (unhide HB2) hg3; have f4 := put_frozen (unhide HB) (unhide HB1) (unhide HB2) hg3) | (go_simp; go_at_call 67; refine (oClone_calls x _ hx).mono ?_; rintro e w2 ⟨rfl, hb2⟩; have HB2 : Hid (Below w1.heap.size w1 w2) := ((Below.refl w1.heap.size w1).drew).trans hb2; have c2 : w2.cell? ⟨b, 0, none⟩ = some (.slice a L.length c) := ((unhide HB2).cell (p := ⟨b, 0, none⟩) hbl1).trans c1; have hbl2 : b < w2.heap.size := Nat.lt_of_lt_of_le hbl1 (unhide HB2).size; have p0 : w2.cell? ⟨w.heap.size, 0, none⟩ = some (.string bk) := ((unhide HB2).cell (p := ⟨w.heap.size, 0, none⟩) hsz1).trans q0; have p1 : w2.cell? ⟨w.heap.size, 1, none⟩ = some (.slice (some ⟨mg, 0, none⟩) mn mn) := ((unhide HB2).cell (p := ⟨w.heap.size, 1, none⟩) hsz1).trans q1; have p2 : w2.cell? ⟨w.heap.size, 2, none⟩ = some (.int .i64 mt) := ((unhide HB2).cell (p := ⟨w.heap.size, 2, none⟩) hsz1).trans q2; have c3 : ∀ o, (w2.alloc o).cell? ⟨b, 0, none⟩ = some (.slice a L.length c) := fun o => (World.cell?_alloc_past _ _ _ hbl2).trans c2; clear hb2))
  all_goals (go_wp2_with fail; go_end0; exact ⟨rfl, _, iput_grown (m := ⟨bk, mg, mn, mt⟩) (unhide HB) (unhide HB1) (unhide HB2) hg3 ho3⟩)

theorem iput_roomy {w w1 w2 w3 : World} {b g c : Nat} {L : Ims} {x : ByteArray} {m : Im} {o : Obj} (hblk : w.heap[b]? = some (.cells #[.slice (some ⟨g, 0, none⟩) L.length c] 132 (0, 0))) (h1 : Below w.heap.size w w1) (h2 : Below w1.heap.size w1 w2) (hbg : b ≠ g) (h3 : (w2.alloc o).grownBy w3 (some g))
    (ho : w3.ownsRow 0 151 4 (.slice (some ⟨g, 0, none⟩) (L.length + 1) c) (L.length + 1) (imCells L ++ [.string x, .string m.bk, .slice (some ⟨m.g, 0, none⟩) m.n m.n, .int .i64 m.t])) :
    IPutLeft w b (.slice (some ⟨g, 0, none⟩) L.length c) (L ++ [(x, m)]) (.slice (some ⟨g, 0, none⟩) (L.length + 1) c) (w3.setCell ⟨b, 0, none⟩ (.slice (some ⟨g, 0, none⟩) (L.length + 1) c)) := by
  have s1 := h1.size
  have s2 := h2.size
  have hne : some b ≠ (Value.slice (some ⟨g, 0, none⟩) (L.length + 1) c).ownBlock := by simp [Value.ownBlock, hbg]
  have hfr : OFr w w3 b (some g) := by
    have sz := h3.size
    simp only [World.size_alloc] at sz
    refine ⟨h3.os.trans (h2.os.trans h1.os), h3.tape.trans (h2.tape.trans h1.tape), h3.output.trans (h2.output.trans h1.output), by omega, fun k hk _ hr => ?_⟩
    rw [h3.block k (by simp; omega) hr, Below.heap_alloc _ _ _ (by omega), h2.block k (by omega), h1.block k hk]
  refine ⟨blk_set_same (put_blk2 hblk h1 h2 hbg h3) _, ?_, hne, hfr.trans (OFr.set_blk w3 b 0 _ _), Or.inl rfl⟩
  have := owns_set ho (a := ⟨b, 0, none⟩) hne (.slice (some ⟨g, 0, none⟩) (L.length + 1) c)
  unfold OwnsIms
  rw [imCells_append, List.length_append]
  exact this

set_option maxRecDepth 100000 in
set_option maxHeartbeats 2000000 in
theorem oIput_room (L : Ims) (g c : Nat) (x bk : ByteArray) (mg mn : Nat) (mt : Int) (b : Nat) (w : World) (hl : L.length ≤ 8) (hblk : w.heap[b]? = some (.cells #[.slice (some ⟨g, 0, none⟩) L.length c] 132 (0, 0))) (hown : OwnsIms w 0 (.slice (some ⟨g, 0, none⟩) L.length c) L) (hp : ¬ Ov.place (fl L) x < (fl L).length) (hx : x.size ≤ 1000) (hne : some b ≠ (Value.slice (some ⟨g, 0, none⟩) L.length c).ownBlock) (hcap : L.length + 1 ≤ c) :
    Calls Tryz.prog 132 #[.pointer (some ⟨b, 0, none⟩), .string x, .agg #[.string bk, .slice (some ⟨mg, 0, none⟩) mn mn, .int .i64 mt]] w fun e w' => e = .returned (.tuple #[]) ∧ ∃ v', IPutLeft w b (.slice (some ⟨g, 0, none⟩) L.length c) (L ++ [(x, ⟨bk, mg, mn, mt⟩)]) v' w' := by
  have HB := hide hblk
  have HO := hide hown
  have hbl := blk_lt hblk
  have hf : Ov.find (fl L) x = -1 := Ov.find_no hp
  obtain ⟨i0, hi, hz0, hz1, hz2⟩ := info_parts Tryz.infoRowI
  have hbg : b ≠ g := fun e => hne (by rw [e]; rfl)
  clear hblk hown hne
  go_enter Tryz.func132, Tryz.ntmps132
  go_wp2_with (go_at_call 89; refine (oIplace_calls L _ x b 0 0 _ hl ((unhide HO).alloc _) (blk_cell (blk_alloc (unhide HB) _) rfl) (blk_lt (blk_alloc (unhide HB) _))).mono ?_; rintro e w1 ⟨rfl, hb1⟩; have c1 : w1.cell? ⟨b, 0, none⟩ = some (.slice (some ⟨g, 0, none⟩) L.length c) := (hb1.cell (p := ⟨b, 0, none⟩) (blk_lt (blk_alloc (unhide HB) _))).trans (blk_cell (blk_alloc (unhide HB) _) rfl); have HT : Hid (w1.heap[w.heap.size]? = some (.cells #[.string bk, .slice (some ⟨mg, 0, none⟩) mn mn, .int .i64 mt] 90 (0, 0))) := (hb1.block _ (by simp)).trans (blk_new _ _); have HB1 : Hid (Below w.heap.size w w1) := (below_alloc1 w _).trans (hb1.mono (by simp)); have hsz1 : w.heap.size < w1.heap.size := blk_lt (unhide HT); have hbl1 : b < w1.heap.size := (by omega); have q0 : w1.cell? ⟨w.heap.size, 0, none⟩ = some (.string bk) := blk_cell (unhide HT) rfl; have q1 : w1.cell? ⟨w.heap.size, 1, none⟩ = some (.slice (some ⟨mg, 0, none⟩) mn mn) := blk_cell (unhide HT) rfl; have q2 : w1.cell? ⟨w.heap.size, 2, none⟩ = some (.int .i64 mt) := blk_cell (unhide HT) rfl; clear hb1)
  go_region_law (first | (refine step_append_row rfl (.tmp 24) (.tmp 29) 130 rfl 0 151 i0 (.agg #[.string ⟨#[]⟩, .string ⟨#[]⟩, .slice none 0 0, .int .i64 0]) 4 64 Tryz.underlying130 hi hz0 hz1 hz2 rfl (by decide) g L.length c (imCells L) (by simp [Act.eval]) ((owns_all (owns_all (unhide HO) (unhide HB1)) (unhide HB2)).alloc _) ⟨w2.heap.size, 0, none⟩ 1 1 [.string x, .string bk, .slice (some ⟨mg, 0, none⟩) mn mn, .int .i64 mt] (by simp [Act.eval]) rfl (four_new rfl) (imCells_one [(x, ⟨bk, mg, mn, mt⟩)]) hcap (by unfold maxLen; omega) (by omega) (Nat.zero_le _) ?_; intro w3 ho3 hg3 _; have c4 : w3.cell? ⟨b, 0, none⟩ = some (.slice (some ⟨g, 0, none⟩) L.length c) := put_cell2 c1 hbl1 (unhide HB2) hbg hg3; have f4 := blk_frozen (put_blk2 (unhide HB) (unhide HB1) (unhide HB2) hbg hg3)) | (go_simp; go_at_call 67; refine (oClone_calls x _ hx).mono ?_; rintro e w2 ⟨rfl, hb2⟩; have HB2 : Hid (Below w1.heap.size w1 w2) := ((Below.refl w1.heap.size w1).drew).trans hb2; have c2 : w2.cell? ⟨b, 0, none⟩ = some (.slice (some ⟨g, 0, none⟩) L.length c) := ((unhide HB2).cell (p := ⟨b, 0, none⟩) hbl1).trans c1; have hbl2 : b < w2.heap.size := Nat.lt_of_lt_of_le hbl1 (unhide HB2).size; have p0 : w2.cell? ⟨w.heap.size, 0, none⟩ = some (.string bk) := ((unhide HB2).cell (p := ⟨w.heap.size, 0, none⟩) hsz1).trans q0; have p1 : w2.cell? ⟨w.heap.size, 1, none⟩ = some (.slice (some ⟨mg, 0, none⟩) mn mn) := ((unhide HB2).cell (p := ⟨w.heap.size, 1, none⟩) hsz1).trans q1; have p2 : w2.cell? ⟨w.heap.size, 2, none⟩ = some (.int .i64 mt) := ((unhide HB2).cell (p := ⟨w.heap.size, 2, none⟩) hsz1).trans q2; have c3 : ∀ o, (w2.alloc o).cell? ⟨b, 0, none⟩ = some (.slice (some ⟨g, 0, none⟩) L.length c) := fun o => (World.cell?_alloc_past _ _ _ hbl2).trans c2; clear hb2))
  all_goals (go_wp2_with fail; go_end0; exact ⟨rfl, _, iput_roomy (m := ⟨bk, mg, mn, mt⟩) (unhide HB) (unhide HB1) (unhide HB2) hbg hg3 ho3⟩)

/-- put of a new name, whole. -/
theorem oIput_calls (L : Ims) (v : Value) (x bk : ByteArray) (mg mn : Nat) (mt : Int) (b : Nat) (w : World) (hl : L.length ≤ 8) (hblk : w.heap[b]? = some (.cells #[v] 132 (0, 0))) (hown : OwnsIms w 0 v L) (hp : ¬ Ov.place (fl L) x < (fl L).length) (hx : x.size ≤ 1000) (hne : some b ≠ v.ownBlock) :
    Calls Tryz.prog 132 #[.pointer (some ⟨b, 0, none⟩), .string x, .agg #[.string bk, .slice (some ⟨mg, 0, none⟩) mn mn, .int .i64 mt]] w fun e w' => e = .returned (.tuple #[]) ∧ ∃ v', IPutLeft w b v (L ++ [(x, ⟨bk, mg, mn, mt⟩)]) v' w' := by
  obtain ⟨a, c, rfl⟩ := owns_slice hown
  by_cases hcap : L.length + 1 ≤ c
  · rcases hown.2 with ⟨e, _⟩ | ⟨g, cap, cur, e, _⟩
    · simp at e; omega
    · simp at e
      obtain ⟨rfl, rfl⟩ := e
      exact oIput_room L g c x bk mg mn mt b w hl hblk hown hp hx hne hcap
  · exact oIput_grows L a c x bk mg mn mt b w hl hblk hown hp hx (by omega)

end Go.Proofs.YtomiepknmmpflaaGreatDoor
