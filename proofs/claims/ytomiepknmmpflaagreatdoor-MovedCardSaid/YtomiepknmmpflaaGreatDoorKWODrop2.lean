/- The program's keeper of files by name: put of a new name. -/
import Derived.Test.YtomiepknmmpflaaGreatDoorKWONew
namespace Go.Proofs.YtomiepknmmpflaaGreatDoor
open Go.RowKit Go.Joins

set_option maxRecDepth 100000 in
set_option maxHeartbeats 400000 in
theorem oClone_calls (s : ByteArray) (w : World) (hs : s.size ≤ 1000) : Calls Tryz.prog 67 #[.string s] w fun e w' => e = .returned (.string s) ∧ Below w.heap.size w w' := by
  go_enter Tryz.func67, Tryz.ntmps67
  go_wp2_with (go_at_call 106; refine (Tryz.stringslite_Clone s _ (by omega)).mono ?_; rintro e w1 ⟨rfl, hb1⟩)
  go_ret
  exact ⟨rfl, hb1⟩

theorem rows_none {w : World} {base n c : Nat} {a : Option Addr} {l : Ov.Files} (h : w.ownsRow base 97 2 (.slice a n c) n (fileCells l)) : a = none → n = 0 ∧ c = 0 := by
  intro e
  subst e
  rcases h.2 with ⟨e, rfl⟩ | ⟨g, cap, cur, e, _⟩
  · simp at e; exact ⟨rfl, e⟩
  · simp at e
theorem rows_holds {w : World} {base c : Nat} {a : Option Addr} {l : Ov.Files} (h : OwnsRows w base (.slice a l.length c) l) : ∀ b, a = some b → ∀ (j : Nat) (u : Value), (fileCells l)[j]? = some u → w.cell? (b.add j) = some u := by
  intro b e j u hu
  subst e
  rcases h.2 with ⟨e, _⟩ | ⟨g, cap, cur, e, _⟩
  · simp at e
  · simp at e
    obtain ⟨rfl, rfl⟩ := e
    exact h.cells rfl j u hu
theorem put_cell {w1 w2 w3 : World} {b off : Nat} {v : Value} {o : Obj} (h : w1.cell? ⟨b, off, none⟩ = some v) (hb : b < w1.heap.size) (h2 : Below w1.heap.size w1 w2) (h3 : (w2.alloc o).grownBy w3 none) : w3.cell? ⟨b, off, none⟩ = some v := by
  have e : w3.heap[b]? = w1.heap[b]? := by
    rw [h3.block b (by have := h2.size; simp; omega) (by simp), Below.heap_alloc _ _ _ (by have := h2.size; omega), h2.block b hb]
  rw [World.cell?_of_block (w := w1) (a := ⟨b, off, none⟩) e]; exact h
theorem put_blk {w w1 w2 w3 : World} {b : Nat} {o ob : Obj} (h : w.heap[b]? = some ob) (h1 : Below w.heap.size w w1) (h2 : Below w1.heap.size w1 w2) (h3 : (w2.alloc o).grownBy w3 none) : w3.heap[b]? = some ob := by
  have hlt := blk_lt h
  have s1 := h1.size
  have s2 := h2.size
  rw [h3.block b (by simp; omega) (by simp), Below.heap_alloc _ _ _ (by omega), h2.block b (by omega), h1.block b hlt]; exact h
theorem put_frozen {w w1 w2 w3 : World} {b : Nat} {o : Obj} {cs : Array Value} {t : TypeId} (h : w.heap[b]? = some (.cells cs t (0, 0))) (h1 : Below w.heap.size w w1) (h2 : Below w1.heap.size w1 w2) (h3 : (w2.alloc o).grownBy w3 none) : ∀ i, w3.frozen? ⟨b, i, none⟩ = false := blk_frozen (put_blk h h1 h2 h3)
theorem put_grown {w w1 w2 w3 : World} {b off : Nat} {cs : Array Value} {t : TypeId} {v v3 : Value} {l : Ov.Files} {x th : ByteArray} {o : Obj} (hblk : w.heap[b]? = some (.cells cs t (0, 0))) (h1 : Below w.heap.size w w1) (h2 : Below w1.heap.size w1 w2) (h3 : (w2.alloc o).grownBy w3 none)
    (ho : w3.ownsRow (w2.alloc o).heap.size 97 2 v3 (l.length + 1) (fileCells l ++ [.string x, .string th])) : PutLeft w b off cs t v (l ++ [(x, th)]) v3 (w3.setCell ⟨b, off, none⟩ v3) := by
  have hlt := blk_lt hblk
  have s1 := h1.size
  have s2 := h2.size
  have hne : some b ≠ v3.ownBlock := owns_ne ho (by simp; omega)
  have hbel : Below w.heap.size w w3 := ((h1.trans (h2.mono s1)).alloc (by omega) o).grown h3 (by simp; omega) (fun k hk => by cases hk)
  refine ⟨blk_set_same (put_blk hblk h1 h2 h3) v3, ?_, hne, (OFr.of_below hbel _ _).trans (OFr.set_blk w3 b off _ v3), Or.inr fun k hk => ?_⟩
  · have := owns_set (ownsRow_le ho (Nat.zero_le _)) (a := ⟨b, off, none⟩) hne v3
    unfold OwnsRows
    rw [fileCells_append, List.length_append]
    exact this
  · have := (ho.lt k hk).1
    simp at this; omega
theorem Tryz.infoRow : (Tryz.prog.info? 97).map (fun i => (i.zero, i.size, i.bytes)) = some (some (.agg #[.string ⟨#[]⟩, .string ⟨#[]⟩]), 2, 32) := by kernel_rfl

set_option maxRecDepth 100000 in
set_option maxHeartbeats 2000000 in
theorem oSput_grows (l : Ov.Files) (a : Option Addr) (c : Nat) (x th : ByteArray) (b off : Nat) (cs : Array Value) (t : TypeId) (w : World) (hl : l.length ≤ 8) (hblk : w.heap[b]? = some (.cells cs t (0, 0))) (hoff : cs[off]? = some (.slice a l.length c)) (hown : OwnsRows w 0 (.slice a l.length c) l) (hne : some b ≠ (Value.slice a l.length c).ownBlock) (hp : ¬ Ov.place l x < l.length) (hx : x.size ≤ 1000) (hcap : c < l.length + 1) :
    Calls Tryz.prog 93 #[.pointer (some ⟨b, off, none⟩), .string x, .string th] w fun e w' => e = .returned (.tuple #[]) ∧ ∃ v', PutLeft w b off cs t (.slice a l.length c) (Ov.withF l x th) v' w' := by
  have HB := hide hblk
  have HF := hide hoff
  have HO := hide hown
  have HN := hide hne
  have hbl := blk_lt hblk
  have hf : Ov.find l x = -1 := Ov.find_no hp
  have Hw : Hid (Ov.withF l x th = l ++ [(x, th)]) := by unfold Ov.withF; rw [if_neg hp]; exact rfl
  obtain ⟨i0, hi, hz0, hz1, hz2⟩ := info_parts Tryz.infoRow
  clear hblk hoff hown hne
  go_enter Tryz.func93, Tryz.ntmps93
  go_wp2_with (go_at_call 98; refine (oSplace_calls l _ x b off 0 _ hl (unhide HO) (blk_cell (unhide HB) (unhide HF)) hbl).mono ?_; rintro e w1 ⟨rfl, hb1⟩; have c1 : w1.cell? ⟨b, off, none⟩ = some (.slice a l.length c) := (hb1.cell (p := ⟨b, off, none⟩) hbl).trans (blk_cell (unhide HB) (unhide HF)); have HB1 := hide hb1; have hbl1 : b < w1.heap.size := Nat.lt_of_lt_of_le hbl hb1.size; clear hb1)
  go_region_law (first | (refine step_append_grows rfl (.tmp 24) (.tmp 29) 73 rfl 97 i0 (.agg #[.string ⟨#[]⟩, .string ⟨#[]⟩]) 2 32 Tryz.underlying73 hi hz0 hz1 hz2 rfl (by decide) a l.length c (fileCells l) (by simp [Act.eval]) (rows_none (unhide HO)) (fileCells_length l) (rows_holds ((owns_all (owns_all (unhide HO) (unhide HB1)) (unhide HB2)).alloc _)) ⟨w2.heap.size, 0, none⟩ 1 1 [.string x, .string th] (by simp [Act.eval]) rfl (two_new rfl) (two_strings x th) hcap (by unfold maxLen; omega) (by omega) ?_; intro v3 w3 ho3 hg3; obtain ⟨g3, c3, rfl⟩ := ownsRow_form ho3 (by omega); have c4 : w3.cell? ⟨b, off, none⟩ = some (.slice a l.length c) := put_cell c1 hbl1 (unhide HB2) hg3; have f4 := put_frozen (unhide HB) (unhide HB1) (unhide HB2) hg3) | (go_simp; go_at_call 67; refine (oClone_calls x _ hx).mono ?_; rintro e w2 ⟨rfl, hb2⟩; have HB2 : Hid (Below w1.heap.size w1 w2) := ((Below.refl w1.heap.size w1).drew).trans hb2; have c2 : w2.cell? ⟨b, off, none⟩ = some (.slice a l.length c) := ((unhide HB2).cell (p := ⟨b, off, none⟩) hbl1).trans c1; have hbl2 : b < w2.heap.size := Nat.lt_of_lt_of_le hbl1 (unhide HB2).size; have c3 : ∀ o, (w2.alloc o).cell? ⟨b, off, none⟩ = some (.slice a l.length c) := fun o => (World.cell?_alloc_past _ _ _ hbl2).trans c2; clear hb2))
  all_goals (go_wp2_with fail; go_end0; exact ⟨rfl, _, by rw [unhide Hw]; exact put_grown (unhide HB) (unhide HB1) (unhide HB2) hg3 ho3⟩)

theorem step_append_row {ops : Array Oper} {o : Oper} {a : Act} {w : World} {K : Act → World → Prop} {Q : Exit → Act → World → Prop} {E : Prop}
    (hgd : o.guard = none) (s x : Operand) (t : TypeId) (hop : o.op = Op.call { callee := Callee.builtin Builtin.append, args := #[s, x], argTypes := #[t, t] })
    (base : Nat) (e : TypeId) (i : TypeInfo) (z : Value) (size bytes : Nat) (ht : Tryz.prog.underlying t = some (.slice e)) (hi : Tryz.prog.info? e = some i) (hz : i.zero = some z) (hsize : i.size = size) (hby : i.bytes = bytes) (hzs : z.cells.size = size) (hsz : 0 < size)
    (g n cap : Nat) (xs : List Value) (hs : a.eval s = .slice (some ⟨g, 0, none⟩) n cap) (hown : w.ownsRow base e size (.slice (some ⟨g, 0, none⟩) n cap) n xs)
    (ad : Addr) (m c : Nat) (news : List Value) (hx : a.eval x = .slice (some ad) m c) (hl : news.length = m * size) (hnews : ∀ j u, news[j]? = some u → w.cell? (ad.add j) = some u) (h1 : ∀ u ∈ news, u.oneCell' = true)
    (hroom : n + m ≤ cap) (h63 : n + m ≤ maxLen) (hbytes : (n + m) * bytes ≤ 140737488355328) (hbase : base ≤ w.heap.size)
    (hK : ∀ w', w'.ownsRow base e size (.slice (some ⟨g, 0, none⟩) (n + m) cap) (n + m) (xs ++ news) → w.grownBy w' (some g) → w'.heap.size = w.heap.size → K (a.put o.dst (.slice (some ⟨g, 0, none⟩) (n + m) cap)) w') :
    if Region.wanted o (yielded ops a.tmps) = true then Oper.wp Tryz.prog o a w K Q else E := by
  have hw : Region.wanted o (yielded ops a.tmps) = true := by simp [Region.wanted, hgd]
  rw [if_pos hw]
  obtain ⟨v', w', hr', ho', hg', _⟩ := run_append_own (P := Tryz.prog) w base t o.type e i z size bytes ht hi hz hsize hby hzs hsz _ n xs hown ad m c news hl hnews h1 h63 hbytes hbase
  rcases hown.2 with ⟨e1, _⟩ | ⟨g1, cap1, cur, e1, _, hg1, hnc, hcm, hcs, _⟩
  · simp at e1
  simp at e1
  obtain ⟨rfl, rfl⟩ := e1
  subst hsize
  have hr := run_append_room (P := Tryz.prog) w t o.type e i ht hi g n cap cur hg1 ad m c news hl hnews h1 hroom (by rw [hl, hcs, ← Nat.add_mul]; exact Nat.mul_le_mul_right _ hroom)
  rw [hr] at hr'
  simp only [Result.ok.injEq] at hr'
  obtain ⟨rfl, rfl⟩ := hr'
  unfold Oper.wp
  simp [execOp, hop, resolve, invoke, builtin, hs, hx, hr, Result.andThen]
  rw [List.append_assoc] at ho' hg'
  exact hK _ ho' hg' (by simp [World.setRow])
theorem put_cell2 {w1 w2 w3 : World} {b off g : Nat} {v : Value} {o : Obj} (h : w1.cell? ⟨b, off, none⟩ = some v) (hb : b < w1.heap.size) (h2 : Below w1.heap.size w1 w2) (hbg : b ≠ g) (h3 : (w2.alloc o).grownBy w3 (some g)) : w3.cell? ⟨b, off, none⟩ = some v := by
  have e : w3.heap[b]? = w1.heap[b]? := by
    rw [h3.block b (by have := h2.size; simp; omega) (by simp [hbg]), Below.heap_alloc _ _ _ (by have := h2.size; omega), h2.block b hb]
  rw [World.cell?_of_block (w := w1) (a := ⟨b, off, none⟩) e]; exact h
theorem put_blk2 {w w1 w2 w3 : World} {b g : Nat} {o ob : Obj} (h : w.heap[b]? = some ob) (h1 : Below w.heap.size w w1) (h2 : Below w1.heap.size w1 w2) (hbg : b ≠ g) (h3 : (w2.alloc o).grownBy w3 (some g)) : w3.heap[b]? = some ob := by
  have hlt := blk_lt h
  have s1 := h1.size
  have s2 := h2.size
  rw [h3.block b (by simp; omega) (by simp [hbg]), Below.heap_alloc _ _ _ (by omega), h2.block b (by omega), h1.block b hlt]; exact h
theorem put_roomy {w w1 w2 w3 : World} {b off g c : Nat} {cs : Array Value} {t : TypeId} {l : Ov.Files} {x th : ByteArray} {o : Obj} (hblk : w.heap[b]? = some (.cells cs t (0, 0))) (h1 : Below w.heap.size w w1) (h2 : Below w1.heap.size w1 w2) (hbg : b ≠ g) (h3 : (w2.alloc o).grownBy w3 (some g))
    (ho : w3.ownsRow 0 97 2 (.slice (some ⟨g, 0, none⟩) (l.length + 1) c) (l.length + 1) (fileCells l ++ [.string x, .string th])) :
    PutLeft w b off cs t (.slice (some ⟨g, 0, none⟩) l.length c) (l ++ [(x, th)]) (.slice (some ⟨g, 0, none⟩) (l.length + 1) c) (w3.setCell ⟨b, off, none⟩ (.slice (some ⟨g, 0, none⟩) (l.length + 1) c)) := by
  have s1 := h1.size
  have s2 := h2.size
  have hne : some b ≠ (Value.slice (some ⟨g, 0, none⟩) (l.length + 1) c).ownBlock := by simp [Value.ownBlock, hbg]
  have hfr : OFr w w3 b (some g) := by
    have sz := h3.size
    simp only [World.size_alloc] at sz
    refine ⟨h3.os.trans (h2.os.trans h1.os), h3.tape.trans (h2.tape.trans h1.tape), h3.output.trans (h2.output.trans h1.output), by omega, fun k hk _ hr => ?_⟩
    rw [h3.block k (by simp; omega) hr, Below.heap_alloc _ _ _ (by omega), h2.block k (by omega), h1.block k hk]
  refine ⟨blk_set_same (put_blk2 hblk h1 h2 hbg h3) _, ?_, hne, hfr.trans (OFr.set_blk w3 b off _ _), Or.inl rfl⟩
  have := owns_set ho (a := ⟨b, off, none⟩) hne (.slice (some ⟨g, 0, none⟩) (l.length + 1) c)
  unfold OwnsRows
  rw [fileCells_append, List.length_append]
  exact this

set_option maxRecDepth 100000 in
set_option maxHeartbeats 2000000 in
theorem oSput_room (l : Ov.Files) (g c : Nat) (x th : ByteArray) (b off : Nat) (cs : Array Value) (t : TypeId) (w : World) (hl : l.length ≤ 8) (hblk : w.heap[b]? = some (.cells cs t (0, 0))) (hoff : cs[off]? = some (.slice (some ⟨g, 0, none⟩) l.length c)) (hown : OwnsRows w 0 (.slice (some ⟨g, 0, none⟩) l.length c) l) (hne : some b ≠ (Value.slice (some ⟨g, 0, none⟩) l.length c).ownBlock) (hp : ¬ Ov.place l x < l.length) (hx : x.size ≤ 1000) (hcap : l.length + 1 ≤ c) :
    Calls Tryz.prog 93 #[.pointer (some ⟨b, off, none⟩), .string x, .string th] w fun e w' => e = .returned (.tuple #[]) ∧ ∃ v', PutLeft w b off cs t (.slice (some ⟨g, 0, none⟩) l.length c) (Ov.withF l x th) v' w' := by
  have HB := hide hblk
  have HF := hide hoff
  have HO := hide hown
  have HN := hide hne
  have hbl := blk_lt hblk
  have hf : Ov.find l x = -1 := Ov.find_no hp
  have Hw : Hid (Ov.withF l x th = l ++ [(x, th)]) := by unfold Ov.withF; rw [if_neg hp]; exact rfl
  obtain ⟨i0, hi, hz0, hz1, hz2⟩ := info_parts Tryz.infoRow
  have hbg : b ≠ g := fun e => hne (by rw [e]; rfl)
  clear hblk hoff hown hne
  go_enter Tryz.func93, Tryz.ntmps93
  go_wp2_with (go_at_call 98; refine (oSplace_calls l _ x b off 0 _ hl (unhide HO) (blk_cell (unhide HB) (unhide HF)) hbl).mono ?_; rintro e w1 ⟨rfl, hb1⟩; have c1 : w1.cell? ⟨b, off, none⟩ = some (.slice (some ⟨g, 0, none⟩) l.length c) := (hb1.cell (p := ⟨b, off, none⟩) hbl).trans (blk_cell (unhide HB) (unhide HF)); have HB1 := hide hb1; have hbl1 : b < w1.heap.size := Nat.lt_of_lt_of_le hbl hb1.size; clear hb1)
  go_region_law (first | (refine step_append_row rfl (.tmp 24) (.tmp 29) 73 rfl 0 97 i0 (.agg #[.string ⟨#[]⟩, .string ⟨#[]⟩]) 2 32 Tryz.underlying73 hi hz0 hz1 hz2 rfl (by decide) g l.length c (fileCells l) (by simp [Act.eval]) ((owns_all (owns_all (unhide HO) (unhide HB1)) (unhide HB2)).alloc _) ⟨w2.heap.size, 0, none⟩ 1 1 [.string x, .string th] (by simp [Act.eval]) rfl (two_new rfl) (two_strings x th) hcap (by unfold maxLen; omega) (by omega) (Nat.zero_le _) ?_; intro w3 ho3 hg3 _; have c4 : w3.cell? ⟨b, off, none⟩ = some (.slice (some ⟨g, 0, none⟩) l.length c) := put_cell2 c1 hbl1 (unhide HB2) hbg hg3; have f4 := blk_frozen (put_blk2 (unhide HB) (unhide HB1) (unhide HB2) hbg hg3)) | (go_simp; go_at_call 67; refine (oClone_calls x _ hx).mono ?_; rintro e w2 ⟨rfl, hb2⟩; have HB2 : Hid (Below w1.heap.size w1 w2) := ((Below.refl w1.heap.size w1).drew).trans hb2; have c2 : w2.cell? ⟨b, off, none⟩ = some (.slice (some ⟨g, 0, none⟩) l.length c) := ((unhide HB2).cell (p := ⟨b, off, none⟩) hbl1).trans c1; have hbl2 : b < w2.heap.size := Nat.lt_of_lt_of_le hbl1 (unhide HB2).size; have c3 : ∀ o, (w2.alloc o).cell? ⟨b, off, none⟩ = some (.slice (some ⟨g, 0, none⟩) l.length c) := fun o => (World.cell?_alloc_past _ _ _ hbl2).trans c2; clear hb2))
  all_goals (go_wp2_with fail; go_end0; exact ⟨rfl, _, by rw [unhide Hw]; exact put_roomy (unhide HB) (unhide HB1) (unhide HB2) hbg hg3 ho3⟩)

theorem oSput_calls (l : Ov.Files) (v : Value) (x th : ByteArray) (b off : Nat) (cs : Array Value) (t : TypeId) (w : World) (hl : l.length ≤ 8) (hblk : w.heap[b]? = some (.cells cs t (0, 0))) (hoff : cs[off]? = some v) (hown : OwnsRows w 0 v l) (hne : some b ≠ v.ownBlock) (hx : x.size ≤ 1000) :
    Calls Tryz.prog 93 #[.pointer (some ⟨b, off, none⟩), .string x, .string th] w fun e w' => e = .returned (.tuple #[]) ∧ ∃ v', PutLeft w b off cs t v (Ov.withF l x th) v' w' := by
  by_cases hp : Ov.place l x < l.length
  · exact oSput_here l v x th b off cs t w hl hblk hoff hown hne hp
  obtain ⟨a, c, rfl⟩ := owns_slice hown
  by_cases hcap : l.length + 1 ≤ c
  · rcases hown.2 with ⟨e, _⟩ | ⟨g, cap, cur, e, _⟩
    · simp at e; omega
    · simp at e
      obtain ⟨rfl, rfl⟩ := e
      exact oSput_room l g c x th b off cs t w hl hblk hoff hown hne hp hx hcap
  · exact oSput_grows l a c x th b off cs t w hl hblk hoff hown hne hp hx (by omega)

end Go.Proofs.YtomiepknmmpflaaGreatDoor

namespace Go.Proofs.YtomiepknmmpflaaGreatDoor
open Go.RowKit Go.Joins

theorem rows_take {w : World} {base g c : Nat} {l : Ov.Files} (h : OwnsRows w base (.slice (some ⟨g, 0, none⟩) l.length c) l) {p : Nat} (hp : p ≤ l.length) : w.ownsRow base 97 2 (.slice (some ⟨g, 0, none⟩) p c) p ((fileCells l).take (p * 2)) := by
  refine ⟨by rw [List.length_take, fileCells_length]; omega, ?_⟩
  rcases h.2 with ⟨e, _⟩ | ⟨g1, cap, cur, e, h1, h2, h3, h4, h5, h6⟩
  · simp at e
  · simp at e
    obtain ⟨rfl, rfl⟩ := e
    refine Or.inr ⟨g, c, cur, rfl, h1, h2, by omega, h4, h5, ?_⟩
    rw [← h6, List.take_take]
    congr 1; omega
theorem rows_drop {w : World} {base g c : Nat} {l : Ov.Files} (h : OwnsRows w base (.slice (some ⟨g, 0, none⟩) l.length c) l) (q : Nat) : ∀ (j : Nat) (u : Value), ((fileCells l).drop q)[j]? = some u → w.cell? ((⟨g, q, none⟩ : Addr).add j) = some u := by
  intro j u hu
  rw [List.getElem?_drop] at hu
  have := h.cells rfl (q + j) u hu
  have e : (⟨g, 0, none⟩ : Addr).add (q + j) = (⟨g, q, none⟩ : Addr).add j := by unfold Addr.add; split <;> split <;> simp_all
  rw [← e]; exact this

theorem clear_rows {w : World} {base g c cc q : Nat} {xs : List Value} (h : w.ownsRow base 97 2 (.slice (some ⟨g, 0, none⟩) q c) q xs) (hq : q + 1 ≤ c) :
    ∃ w', (Builtin.clear_ #[73] 0 #[.slice (some ⟨g, q * 2, none⟩) 1 cc]).run Tryz.prog w = .ok (.tuple #[]) w' ∧ w.grownBy w' (some g) ∧ w'.ownsRow base 97 2 (.slice (some ⟨g, 0, none⟩) q c) q xs := by
  obtain ⟨hlen, h2⟩ := h
  rcases h2 with ⟨e, _⟩ | ⟨g1, cap, cur, e, hb, hg, hnc, hcm, hcs, ht⟩
  · simp at e
  simp at e
  obtain ⟨rfl, rfl⟩ := e
  have hz : (Builtin.zeroCells (Value.agg #[.string ⟨#[]⟩, .string ⟨#[]⟩]).cells 1).toList = [.string ⟨#[]⟩, .string ⟨#[]⟩] := by simp [Builtin.zeroCells, Value.cells, Array.range, Array.ofFn_succ]
  have hst := run_storeCells_at Tryz.prog g (q * 2) 97 [.string ⟨#[]⟩, .string ⟨#[]⟩] 0 cur w hg (by simp; omega) (two_strings _ _)
  simp only [Nat.add_zero] at hst
  refine ⟨w.setRow g (cur.toList.take (q * 2) ++ [Value.string ⟨#[]⟩, Value.string ⟨#[]⟩] ++ cur.toList.drop (q * 2 + [Value.string ⟨#[]⟩, Value.string ⟨#[]⟩].length)).toArray, ?_, ⟨rfl, rfl, rfl, by simp, fun k _ hk => setRow_other w g k _ (fun e => hk (by simp [e]))⟩, hlen, Or.inr ⟨g, c, _, rfl, hb, setRow_heap w g cur _ _ _ hg, hnc, hcm, ?_, ?_⟩⟩
  · simp [Builtin.clear_, run_underlying Tryz.underlying73, hz, hst]
  · simp; omega
  · rw [← ht]
    simp only [List.append_assoc]
    rw [List.take_append_of_le_length (by simp; omega), List.take_take, Nat.min_self]
theorem fileCells_erase {l : Ov.Files} {p : Nat} (hp : p < l.length) : (fileCells l).take (p * 2) ++ (fileCells l).drop ((p + 1) * 2) = fileCells (l.eraseIdx p) := by
  induction l generalizing p with
  | nil => simp at hp
  | cons f l ih =>
    cases p with
    | zero => simp [fileCells]
    | succ p =>
      have := ih (p := p) (by simpa using hp)
      rw [show (p + 1) * 2 = p * 2 + 1 + 1 from by omega, show (p + 1 + 1) * 2 = (p + 1) * 2 + 1 + 1 from by omega]
      simpa [fileCells] using this
theorem erase_owns {w : World} {base g c n p : Nat} {l : Ov.Files} (hn : l.length = n) (hp : p < n) (h : w.ownsRow base 97 2 (.slice (some ⟨g, 0, none⟩) (n - 1) c) (n - 1) (fileCells (l.eraseIdx p))) : OwnsRows w base (.slice (some ⟨g, 0, none⟩) (n - 1) c) (l.eraseIdx p) := by
  unfold OwnsRows
  rw [List.length_eraseIdx, if_pos (by omega), hn]; exact h

set_option maxRecDepth 100000 in
set_option maxHeartbeats 1000000 in
theorem oSDel_calls (l : Ov.Files) (g c p : Nat) (w : World) (hl : l.length ≤ 8) (hown : OwnsRows w 0 (.slice (some ⟨g, 0, none⟩) l.length c) l) (hp : p < l.length) (hlc : l.length ≤ c) (hc : c ≤ 9223372036854775807) :
    Calls Tryz.prog 110 #[.slice (some ⟨g, 0, none⟩) l.length c, .int .i64 p, .int .i64 ((p : Int) + 1)] w fun e w' => e = .returned (.slice (some ⟨g, 0, none⟩) (l.length - 1) c) ∧ w.grownBy w' (some g) ∧ OwnsRows w' 0 (.slice (some ⟨g, 0, none⟩) (l.length - 1) c) (l.eraseIdx p) := by
  have HO := hide hown
  obtain ⟨n, hn⟩ : ∃ n, l.length = n := ⟨_, rfl⟩
  have HN := hide hn
  rw [hn] at hl hp hlc ⊢
  clear hown hn
  have hpp : ((p : Int) == (p : Int) + 1) = false := beq_eq_false_iff_ne.2 (by omega)
  obtain ⟨i0, hi, hz0, hz1, hz2⟩ := info_parts Tryz.infoRow
  go_enter Tryz.func110, Tryz.ntmps110
  go_wp2_with fail
  by_cases hpc : c = p + 1
  · subst hpc
    obtain rfl : n = p + 1 := by omega
    have HR := hide (rows_take (unhide HO) (p := p) (by have := unhide HN; omega))
    have HLN : Hid ((fileCells l).drop ((p + 1) * 2) = []) := List.drop_eq_nil_of_le (by rw [fileCells_length]; have := unhide HN; omega)
    have b5 : (0 : Int) ≤ (p : Int) + 1 := by omega
    have b6 : (p : Int) ≤ (p : Int) + 1 := by omega
    go_region_law (refine step_append_row rfl (.tmp 22) (.tmp 25) 73 rfl 0 97 i0 (.agg #[.string ⟨#[]⟩, .string ⟨#[]⟩]) 2 32 Tryz.underlying73 hi hz0 hz1 hz2 rfl (by decide) g p (p + 1) ((fileCells l).take (p * 2)) (by simp [Act.eval, Act.put]) (unhide HR) ⟨g, 0, none⟩ 0 0 [] (by simp [Act.eval, Act.put]) rfl (fun j u hu => by cases hu) (fun u hu => by cases hu) (by omega) (by unfold maxLen; omega) (by omega) (Nat.zero_le _) ?_; intro w3 ho3 hg3 hs3; have O3 := hide ho3; have G3 := hide hg3; clear ho3 hg3)
    go_wp2_with fail
    obtain ⟨w4, hrun, hgr, hown4⟩ := clear_rows (q := p) (c := p + 1) (cc := 1) (by exact unhide O3) (by omega)
    rw [hrun]
    go_wp2_with fail
    go_ret
    refine ⟨rfl, grown_trans (grown_trans (grown_of_below ((Below.refl _ w).drew) _) (unhide G3)) hgr, ?_⟩
    rw [← unhide HLN, fileCells_erase (by have := unhide HN; omega)] at hown4
    exact erase_owns (unhide HN) hp hown4
  · obtain ⟨m, hm⟩ : ∃ m, n - (p + 1) = m := ⟨_, rfl⟩
    have HR := hide (rows_take (unhide HO) (p := p) (by have := unhide HN; omega))
    have hpm : p + m = n - 1 := by omega
    have hrl : ((fileCells l).drop ((p + 1) * 2)).length = m * 2 := by rw [List.length_drop, fileCells_length]; have := unhide HN; omega
    have HL := hide hrl
    have HM := hide hm
    have HPM := hide hpm
    have b1 : (p : Int) ≤ (c : Int) := by omega
    have b2 : (p : Int) + 1 ≤ (n : Int) := by omega
    have b3 : (n : Int) ≤ (c : Int) := by omega
    have b4 : (0 : Int) ≤ (p : Int) := by omega
    have b5 : (0 : Int) ≤ (p : Int) + 1 := by omega
    have b6 : (p : Int) ≤ (p : Int) + 1 := by omega
    have b7 : ¬ (p : Int) + 1 < (p : Int) := by omega
    have HLZ : Hid (∀ (j : Nat) (u : Value), ((fileCells l).drop ((p + 1) * 2))[j]? = some u → c = p + 1 → False) := fun j u hu hz => by
      have h0 : m = 0 := by omega
      rw [List.eq_nil_of_length_eq_zero (show ((fileCells l).drop ((p + 1) * 2)).length = 0 by rw [hrl, h0])] at hu
      cases hu
    clear hrl hpm
    go_region_law (refine step_append_row rfl (.tmp 22) (.tmp 25) 73 rfl 0 97 i0 (.agg #[.string ⟨#[]⟩, .string ⟨#[]⟩]) 2 32 Tryz.underlying73 hi hz0 hz1 hz2 rfl (by decide) g p c ((fileCells l).take (p * 2)) (by simp [Act.eval, Act.put]) (unhide HR) ⟨g, (p + 1) * 2, none⟩ m (c - (p + 1)) ((fileCells l).drop ((p + 1) * 2)) (by simp [Act.eval, Act.put]) (unhide HL) (rows_drop (unhide HO) _) (fun u hu => fileCells_one l u (List.mem_of_mem_drop hu)) (by omega) (by unfold maxLen; omega) (by omega) (Nat.zero_le _) ?_; intro w3 ho3 hg3 hs3; have O3 := hide ho3; have G3 := hide hg3; clear ho3 hg3)
    rw [unhide HPM]
    go_wp2_with fail
    rw [show n - (n - 1) = 1 from by omega]
    obtain ⟨w4, hrun, hgr, hown4⟩ := clear_rows (c := c) (cc := c - (n - 1)) (by have := unhide O3; rw [unhide HPM] at this; exact this) (by omega)
    rw [hrun]
    go_wp2_with fail
    go_ret
    exact ⟨rfl, grown_trans (grown_trans (grown_of_below ((Below.refl _ w).drew) _) (unhide G3)) hgr, by rw [fileCells_erase (by have := unhide HN; omega)] at hown4; exact erase_owns (unhide HN) hp hown4⟩

end Go.Proofs.YtomiepknmmpflaaGreatDoor

namespace Go.Proofs.YtomiepknmmpflaaGreatDoor
open Go.RowKit Go.Joins

theorem owns_cap {w : World} {base g c : Nat} {l : Ov.Files} (h : OwnsRows w base (.slice (some ⟨g, 0, none⟩) l.length c) l) : l.length ≤ c ∧ c ≤ maxLen := by
  rcases h.2 with ⟨e, _⟩ | ⟨g1, cap, cur, e, _, _, h3, h4, _⟩
  · simp at e
  · simp at e
    obtain ⟨rfl, rfl⟩ := e
    exact ⟨h3, h4⟩
theorem drop_left {w w1 w2 : World} {b off g c p : Nat} {cs : Array Value} {t : TypeId} {l : Ov.Files} (hblk : w.heap[b]? = some (.cells cs t (0, 0))) (hne : some b ≠ (Value.slice (some ⟨g, 0, none⟩) l.length c).ownBlock) (hb1 : Below w.heap.size w w1) (hg2 : w1.grownBy w2 (some g))
    (ho2 : OwnsRows w2 0 (.slice (some ⟨g, 0, none⟩) (l.length - 1) c) (l.eraseIdx p)) :
    PutLeft w b off cs t (.slice (some ⟨g, 0, none⟩) l.length c) (l.eraseIdx p) (.slice (some ⟨g, 0, none⟩) (l.length - 1) c) (w2.setCell ⟨b, off, none⟩ (.slice (some ⟨g, 0, none⟩) (l.length - 1) c)) := by
  have hbg : b ≠ g := fun e => hne (by rw [e]; rfl)
  have hlt := blk_lt hblk
  have s1 := hb1.size
  have hb2 : w2.heap[b]? = _ := (hg2.block b (by omega) (by simp [hbg])).trans ((hb1.block b hlt).trans hblk)
  have hne2 : some b ≠ (Value.slice (some ⟨g, 0, none⟩) (l.length - 1) c).ownBlock := by simp [Value.ownBlock, hbg]
  have hfr : OFr w w2 b (some g) := ⟨hg2.os.trans hb1.os, hg2.tape.trans hb1.tape, hg2.output.trans hb1.output, Nat.le_trans s1 hg2.size, fun k hk _ hr => (hg2.block k (by omega) hr).trans (hb1.block k hk)⟩
  exact ⟨blk_set_same hb2 _, owns_set ho2 hne2 _, hne2, hfr.trans (OFr.set_blk w2 b off _ _), Or.inl rfl⟩

set_option maxRecDepth 100000 in
set_option maxHeartbeats 400000 in
theorem oSdrop_calls (l : Ov.Files) (v : Value) (x : ByteArray) (b off : Nat) (cs : Array Value) (t : TypeId) (w : World) (hl : l.length ≤ 8) (hblk : w.heap[b]? = some (.cells cs t (0, 0))) (hoff : cs[off]? = some v) (hown : OwnsRows w 0 v l) (hne : some b ≠ v.ownBlock) (hp : Ov.place l x < l.length) :
    Calls Tryz.prog 71 #[.pointer (some ⟨b, off, none⟩), .string x] w fun e w' => e = .returned (.tuple #[]) ∧ ∃ v', PutLeft w b off cs t v (l.eraseIdx (Ov.place l x)) v' w' := by
  obtain ⟨g, c, rfl⟩ := ownsRow_form hown (by omega)
  have HB := hide hblk
  have HF := hide hoff
  have HO := hide hown
  have HN := hide hne
  have hbl := blk_lt hblk
  have hcap := owns_cap hown
  have HC := hide hcap
  obtain ⟨p, hpe⟩ : ∃ p, Ov.place l x = p := ⟨_, rfl⟩
  have hf : Ov.find l x = (p : Int) := by rw [Ov.find_yes hp, hpe]
  rw [hpe] at hp ⊢
  have hbg : b ≠ g := fun e => hne (by rw [e]; rfl)
  clear hpe hblk hoff hown hne hcap
  go_enter Tryz.func71, Tryz.ntmps71
  go_wp2_with (first | (go_at_call 98; refine (oSplace_calls l _ x b off 0 _ hl (unhide HO) (blk_cell (unhide HB) (unhide HF)) hbl).mono ?_; rintro e w1 ⟨rfl, hb1⟩; have c1 : w1.cell? ⟨b, off, none⟩ = some (.slice (some ⟨g, 0, none⟩) l.length c) := (hb1.cell (p := ⟨b, off, none⟩) hbl).trans (blk_cell (unhide HB) (unhide HF)); have HB1 := hide hb1; clear hb1) | (go_at_call 110; refine (oSDel_calls l g c p _ hl (owns_all (unhide HO) (unhide HB1)) hp (unhide HC).1 (by have := (unhide HC).2; unfold maxLen at this; omega)).mono ?_; rintro e w2 ⟨rfl, hg2, ho2⟩; have c2 : w2.cell? ⟨b, off, none⟩ = some (.slice (some ⟨g, 0, none⟩) l.length c) := hg2.cell c1 (by simp [hbg]); have f2 : w2.frozen? ⟨b, off, none⟩ = false := (World.frozen?_of_block (w := w1) (a := ⟨b, off, none⟩) (hg2.block b (Nat.lt_of_lt_of_le hbl (unhide HB1).size) (by simp [hbg]))).trans (((unhide HB1).frozen (p := ⟨b, off, none⟩) hbl).trans (blk_frozen (unhide HB) off))))
  first | go_end0 | refine bodyPost_ret (results_none rfl _ _ _) rfl ?_
  exact ⟨rfl, _, drop_left (unhide HB) (unhide HN) (unhide HB1) hg2 ho2⟩

end Go.Proofs.YtomiepknmmpflaaGreatDoor

namespace Go.Proofs.YtomiepknmmpflaaGreatDoor
open Go.RowKit Go.Joins

theorem OvLeft.turn {w w2 w3 : World} {b room : Nat} {r : Option Nat} {l l' : Ov.Files} {v v' : Value} (h : OvRep w b r room l) (hb : Below (w.setCell ⟨b, 0, none⟩ (.int .i32 1)).heap.size (w.setCell ⟨b, 0, none⟩ (.int .i32 1)) w2) (hr : v.ownBlock = r)
    (hp : PutLeft w2 b 3 #[.int .i32 1, .int .u32 0, .int .i64 room, v] 77 v l' v' w3) : OvLeft w b r room l' (w3.setCell ⟨b, 0, none⟩ (.int .i32 0)) := by
  obtain ⟨v0, h1, _⟩ := h
  have hs := hb.size
  simp only [World.size_setCell] at hs
  refine ⟨⟨v'.ownBlock, ⟨v', blk_set_same (i := 0) hp.blk _, owns_set hp.own hp.ne _, hp.ne, rfl⟩, ?_⟩, ?_⟩
  · rcases hp.row with e | e
    · exact Or.inl (e.trans hr)
    · exact Or.inr fun k hk => Nat.le_trans hs (e k hk)
  · have f2 := hp.fr
    rw [hr] at f2
    exact (((OFr.set_blk w b 0 r _).trans (OFr.of_below hb b r)).trans f2).trans (OFr.set_blk w3 b 0 r _)

open Go.MuLone in
set_option maxRecDepth 100000 in
set_option maxHeartbeats 400000 in
theorem oDrop_calls (l : Ov.Files) (x : ByteArray) (b : Nat) (r : Option Nat) (room : Nat) (w : World) (hi : Ov.LI room l) (h : OvRep w b r room l) :
    Calls Tryz.prog 37 #[.pointer (some ⟨b, 0, none⟩), .string x] w fun e w' => e = .returned (.int .i64 (Ov.dropF l x).1) ∧ OvLeft w b r room (Ov.dropF l x).2 w' := by
  obtain ⟨v, h1, h2, h3, h4⟩ := id h
  have HR := hide h
  have c0 : w.cell? ⟨b, 0, none⟩ = some (.int .i32 0) := blk_cell h1 rfl
  have f0 := blk_frozen h1 0
  have hbl := blk_lt h1
  have HB := hide (blk_set_same (i := 0) h1 (.int .i32 1))
  have HO := hide (owns_set h2 h3 (a := ⟨b, 0, none⟩) (.int .i32 1))
  have H3 := hide h3
  have H4 := hide h4
  have hl8 := hi.len
  have HI := hide hi
  clear h h1 h2 h3 h4 hi
  by_cases hp : Ov.place l x < l.length
  · have Hh : Ov.has l x = true := by unfold Ov.has; exact decide_eq_true hp
    have HD : Hid (Ov.dropF l x = (0, l.eraseIdx (Ov.place l x))) := by unfold Ov.dropF; rw [if_pos hp, Ov.filter_erase (unhide HI).nodup hp]; exact rfl
    go_enter_defers Tryz.func37, Tryz.ntmps37
    go_wp2_with (first | (go_at_call 43; refine (lock_free muLib ⟨b, 0, none⟩ _ c0 f0).mono ?_; rintro e w1 ⟨rfl, rfl⟩) | (go_at_call 66; refine (oShas_calls l v x b 3 0 _ hl8 (unhide HO) (blk_cell (unhide HB) rfl) (by simpa using hbl)).mono ?_; rintro e w2 ⟨rfl, hb2⟩; have HB2 := hide hb2; clear hb2) | (go_at_call 71; refine (oSdrop_calls l v x b 3 #[.int .i32 1, .int .u32 0, .int .i64 room, v] 77 _ hl8 (((unhide HB2).block b (by simpa using hbl)).trans (unhide HB)) rfl (owns_all (unhide HO) (unhide HB2)) (unhide H3) hp).mono ?_; rintro e w3 ⟨rfl, v3, hp3⟩))
    refine leaves_cons (f := 44) (args := #[.pointer (some ⟨b, 0, none⟩)]) (by simp) (by simp [go_sem]) ?_
    refine (unlock_deferred muLib ⟨b, 0, none⟩ .returning _ ?_ ?_).mono ?_
    · exact blk_cell hp3.blk rfl
    · exact blk_frozen hp3.blk 0
    rintro e u' w'' ⟨rfl, rfl, rfl⟩
    refine ⟨_, results_tmp rfl _ _ _, ?_, ?_⟩
    · rw [unhide HD]; rfl
    · rw [unhide HD]; exact OvLeft.turn (unhide HR) (unhide HB2) (unhide H4) hp3
  · have Hh : Ov.has l x = false := by unfold Ov.has; exact decide_eq_false hp
    have HD : Hid (Ov.dropF l x = (4, l)) := by unfold Ov.dropF; rw [if_neg hp]; exact rfl
    go_enter_defers Tryz.func37, Tryz.ntmps37
    go_wp2_with (first | (go_at_call 43; refine (lock_free muLib ⟨b, 0, none⟩ _ c0 f0).mono ?_; rintro e w1 ⟨rfl, rfl⟩) | (go_at_call 66; refine (oShas_calls l v x b 3 0 _ hl8 (unhide HO) (blk_cell (unhide HB) rfl) (by simpa using hbl)).mono ?_; rintro e w2 ⟨rfl, hb2⟩; have HB2 := hide hb2; clear hb2))
    refine leaves_cons (f := 44) (args := #[.pointer (some ⟨b, 0, none⟩)]) (by simp) (by simp [go_sem]) ?_
    refine (unlock_deferred muLib ⟨b, 0, none⟩ .returning _ ?_ ?_).mono ?_
    · exact ((unhide HB2).cell (p := ⟨b, 0, none⟩) (by simpa using hbl)).trans (blk_cell (unhide HB) rfl)
    · exact ((unhide HB2).frozen (p := ⟨b, 0, none⟩) (by simpa using hbl)).trans (blk_frozen (unhide HB) 0)
    rintro e u' w'' ⟨rfl, rfl, rfl⟩
    refine ⟨_, results_tmp rfl _ _ _, ?_, ?_⟩
    · rw [unhide HD]; rfl
    · rw [unhide HD]; exact OvLeft.quiet (unhide HR) (unhide HB2)

end Go.Proofs.YtomiepknmmpflaaGreatDoor

