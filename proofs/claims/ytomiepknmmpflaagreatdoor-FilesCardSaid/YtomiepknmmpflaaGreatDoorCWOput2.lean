/- The program's keeper of files by name: put of a new name. -/
import Derived.Test.YtomiepknmmpflaaGreatDoorCWOput
namespace Go.Proofs.YtomiepknmmpflaaGreatDoor
open Go.RowKit Go.Joins

set_option maxRecDepth 100000 in
set_option maxHeartbeats 400000 in
theorem oClone_calls (s : ByteArray) (w : World) (hs : s.size ≤ 1000) : Calls Tryz.prog 67 #[.string s] w fun e w' => e = .returned (.string s) ∧ Below w.heap.size w w' := by
  go_enter Tryz.func67, Tryz.ntmps67
  go_wp2_with (go_at_call 106; refine (Tryz.stringslite_Clone s _ (by omega)).mono ?_; rintro e w1 ⟨rfl, hb1⟩)
  go_ret
  exact ⟨rfl, hb1⟩

theorem rows_none {w : World} {base n c : Nat} {a : Option Addr} {l : Ov.Files} (h : w.ownsRow base 97 2 (.slice a n c) n (fileCells l)) : a = none → n = 0 ∧ c = 0 := by
  intro e
  subst e
  rcases h.2 with ⟨e, rfl⟩ | ⟨g, cap, cur, e, _⟩
  · simp at e; exact ⟨rfl, e⟩
  · simp at e
theorem rows_holds {w : World} {base c : Nat} {a : Option Addr} {l : Ov.Files} (h : OwnsRows w base (.slice a l.length c) l) : ∀ b, a = some b → ∀ (j : Nat) (u : Value), (fileCells l)[j]? = some u → w.cell? (b.add j) = some u := by
  intro b e j u hu
  subst e
  rcases h.2 with ⟨e, _⟩ | ⟨g, cap, cur, e, _⟩
  · simp at e
  · simp at e
    obtain ⟨rfl, rfl⟩ := e
    exact h.cells rfl j u hu
theorem put_cell {w1 w2 w3 : World} {b off : Nat} {v : Value} {o : Obj} (h : w1.cell? ⟨b, off, none⟩ = some v) (hb : b < w1.heap.size) (h2 : Below w1.heap.size w1 w2) (h3 : (w2.alloc o).grownBy w3 none) : w3.cell? ⟨b, off, none⟩ = some v := by
  have e : w3.heap[b]? = w1.heap[b]? := by
    rw [h3.block b (by have := h2.size; simp; omega) (by simp), Below.heap_alloc _ _ _ (by have := h2.size; omega), h2.block b hb]
  rw [World.cell?_of_block (w := w1) (a := ⟨b, off, none⟩) e]; exact h
theorem put_blk {w w1 w2 w3 : World} {b : Nat} {o ob : Obj} (h : w.heap[b]? = some ob) (h1 : Below w.heap.size w w1) (h2 : Below w1.heap.size w1 w2) (h3 : (w2.alloc o).grownBy w3 none) : w3.heap[b]? = some ob := by
  have hlt := blk_lt h
  have s1 := h1.size
  have s2 := h2.size
  rw [h3.block b (by simp; omega) (by simp), Below.heap_alloc _ _ _ (by omega), h2.block b (by omega), h1.block b hlt]; exact h
theorem put_frozen {w w1 w2 w3 : World} {b : Nat} {o : Obj} {cs : Array Value} {t : TypeId} (h : w.heap[b]? = some (.cells cs t (0, 0))) (h1 : Below w.heap.size w w1) (h2 : Below w1.heap.size w1 w2) (h3 : (w2.alloc o).grownBy w3 none) : ∀ i, w3.frozen? ⟨b, i, none⟩ = false := blk_frozen (put_blk h h1 h2 h3)
theorem put_grown {w w1 w2 w3 : World} {b off : Nat} {cs : Array Value} {t : TypeId} {v v3 : Value} {l : Ov.Files} {x th : ByteArray} {o : Obj} (hblk : w.heap[b]? = some (.cells cs t (0, 0))) (h1 : Below w.heap.size w w1) (h2 : Below w1.heap.size w1 w2) (h3 : (w2.alloc o).grownBy w3 none)
    (ho : w3.ownsRow (w2.alloc o).heap.size 97 2 v3 (l.length + 1) (fileCells l ++ [.string x, .string th])) : PutLeft w b off cs t v (l ++ [(x, th)]) v3 (w3.setCell ⟨b, off, none⟩ v3) := by
  have hlt := blk_lt hblk
  have s1 := h1.size
  have s2 := h2.size
  have hne : some b ≠ v3.ownBlock := owns_ne ho (by simp; omega)
  have hbel : Below w.heap.size w w3 := ((h1.trans (h2.mono s1)).alloc (by omega) o).grown h3 (by simp; omega) (fun k hk => by cases hk)
  refine ⟨blk_set_same (put_blk hblk h1 h2 h3) v3, ?_, hne, (OFr.of_below hbel _ _).trans (OFr.set_blk w3 b off _ v3), Or.inr fun k hk => ?_⟩
  · have := owns_set (ownsRow_le ho (Nat.zero_le _)) (a := ⟨b, off, none⟩) hne v3
    unfold OwnsRows
    rw [fileCells_append, List.length_append]
    exact this
  · have := (ho.lt k hk).1
    simp at this; omega
theorem Tryz.infoRow : (Tryz.prog.info? 97).map (fun i => (i.zero, i.size, i.bytes)) = some (some (.agg #[.string ⟨#[]⟩, .string ⟨#[]⟩]), 2, 32) := by kernel_rfl

set_option maxRecDepth 100000 in
set_option maxHeartbeats 2000000 in
theorem oSput_grows (l : Ov.Files) (a : Option Addr) (c : Nat) (x th : ByteArray) (b off : Nat) (cs : Array Value) (t : TypeId) (w : World) (hl : l.length ≤ 8) (hblk : w.heap[b]? = some (.cells cs t (0, 0))) (hoff : cs[off]? = some (.slice a l.length c)) (hown : OwnsRows w 0 (.slice a l.length c) l) (hne : some b ≠ (Value.slice a l.length c).ownBlock) (hp : ¬ Ov.place l x < l.length) (hx : x.size ≤ 1000) (hcap : c < l.length + 1) :
    Calls Tryz.prog 93 #[.pointer (some ⟨b, off, none⟩), .string x, .string th] w fun e w' => e = .returned (.tuple #[]) ∧ ∃ v', PutLeft w b off cs t (.slice a l.length c) (Ov.withF l x th) v' w' := by
  have HB := hide hblk
  have HF := hide hoff
  have HO := hide hown
  have HN := hide hne
  have hbl := blk_lt hblk
  have hf : Ov.find l x = -1 := Ov.find_no hp
  have Hw : Hid (Ov.withF l x th = l ++ [(x, th)]) := by unfold Ov.withF; rw [if_neg hp]; exact rfl
  obtain ⟨i0, hi, hz0, hz1, hz2⟩ := info_parts Tryz.infoRow
  clear hblk hoff hown hne
  go_enter Tryz.func93, Tryz.ntmps93
  go_wp2_with (go_at_call 98; refine (oSplace_calls l _ x b off 0 _ hl (unhide HO) (blk_cell (unhide HB) (unhide HF)) hbl).mono ?_; rintro e w1 ⟨rfl, hb1⟩; have c1 : w1.cell? ⟨b, off, none⟩ = some (.slice a l.length c) := (hb1.cell (p := ⟨b, off, none⟩) hbl).trans (blk_cell (unhide HB) (unhide HF)); have HB1 := hide hb1; have hbl1 : b < w1.heap.size := Nat.lt_of_lt_of_le hbl hb1.size; clear hb1)
  go_region_law (first | (refine step_append_grows rfl (.tmp 24) (.tmp 29) 73 rfl 97 i0 (.agg #[.string ⟨#[]⟩, .string ⟨#[]⟩]) 2 32 Tryz.underlying73 hi hz0 hz1 hz2 rfl (by decide) a l.length c (fileCells l) (by simp [Act.eval]) (rows_none (unhide HO)) (fileCells_length l) (rows_holds ((owns_all (owns_all (unhide HO) (unhide HB1)) (unhide HB2)).alloc _)) ⟨w2.heap.size, 0, none⟩ 1 1 [.string x, .string th] (by simp [Act.eval]) rfl (two_new rfl) (two_strings x th) hcap (by unfold maxLen; omega) (by omega) ?_; intro v3 w3 ho3 hg3; obtain ⟨g3, c3, rfl⟩ := ownsRow_form ho3 (by omega); have c4 : w3.cell? ⟨b, off, none⟩ = some (.slice a l.length c) := put_cell c1 hbl1 (unhide HB2) hg3; have f4 := put_frozen (unhide HB) (unhide HB1) (unhide HB2) hg3) | (go_simp; go_at_call 67; refine (oClone_calls x _ hx).mono ?_; rintro e w2 ⟨rfl, hb2⟩; have HB2 : Hid (Below w1.heap.size w1 w2) := ((Below.refl w1.heap.size w1).drew).trans hb2; have c2 : w2.cell? ⟨b, off, none⟩ = some (.slice a l.length c) := ((unhide HB2).cell (p := ⟨b, off, none⟩) hbl1).trans c1; have hbl2 : b < w2.heap.size := Nat.lt_of_lt_of_le hbl1 (unhide HB2).size; have c3 : ∀ o, (w2.alloc o).cell? ⟨b, off, none⟩ = some (.slice a l.length c) := fun o => (World.cell?_alloc_past _ _ _ hbl2).trans c2; clear hb2))
  all_goals (go_wp2_with fail; go_end0; exact ⟨rfl, _, by rw [unhide Hw]; exact put_grown (unhide HB) (unhide HB1) (unhide HB2) hg3 ho3⟩)

/-- append within the capacity, as one step of a region that draws: the row stays where it lies. -/
theorem step_append_row {ops : Array Oper} {o : Oper} {a : Act} {w : World} {K : Act → World → Prop} {Q : Exit → Act → World → Prop} {E : Prop}
    (hgd : o.guard = none) (s x : Operand) (t : TypeId) (hop : o.op = Op.call { callee := Callee.builtin Builtin.append, args := #[s, x], argTypes := #[t, t] })
    (base : Nat) (e : TypeId) (i : TypeInfo) (z : Value) (size bytes : Nat) (ht : Tryz.prog.underlying t = some (.slice e)) (hi : Tryz.prog.info? e = some i) (hz : i.zero = some z) (hsize : i.size = size) (hby : i.bytes = bytes) (hzs : z.cells.size = size) (hsz : 0 < size)
    (g n cap : Nat) (xs : List Value) (hs : a.eval s = .slice (some ⟨g, 0, none⟩) n cap) (hown : w.ownsRow base e size (.slice (some ⟨g, 0, none⟩) n cap) n xs)
    (ad : Addr) (m c : Nat) (news : List Value) (hx : a.eval x = .slice (some ad) m c) (hl : news.length = m * size) (hnews : ∀ j u, news[j]? = some u → w.cell? (ad.add j) = some u) (h1 : ∀ u ∈ news, u.oneCell' = true)
    (hroom : n + m ≤ cap) (h63 : n + m ≤ maxLen) (hbytes : (n + m) * bytes ≤ 140737488355328) (hbase : base ≤ w.heap.size)
    (hK : ∀ w', w'.ownsRow base e size (.slice (some ⟨g, 0, none⟩) (n + m) cap) (n + m) (xs ++ news) → w.grownBy w' (some g) → w'.heap.size = w.heap.size → K (a.put o.dst (.slice (some ⟨g, 0, none⟩) (n + m) cap)) w') :
    if Region.wanted o (yielded ops a.tmps) = true then Oper.wp Tryz.prog o a w K Q else E := by
  have hw : Region.wanted o (yielded ops a.tmps) = true := by simp [Region.wanted, hgd]
  rw [if_pos hw]
  obtain ⟨v', w', hr', ho', hg', _⟩ := run_append_own (P := Tryz.prog) w base t o.type e i z size bytes ht hi hz hsize hby hzs hsz _ n xs hown ad m c news hl hnews h1 h63 hbytes hbase
  rcases hown.2 with ⟨e1, _⟩ | ⟨g1, cap1, cur, e1, _, hg1, hnc, hcm, hcs, _⟩
  · simp at e1
  simp at e1
  obtain ⟨rfl, rfl⟩ := e1
  subst hsize
  have hr := run_append_room (P := Tryz.prog) w t o.type e i ht hi g n cap cur hg1 ad m c news hl hnews h1 hroom (by rw [hl, hcs, ← Nat.add_mul]; exact Nat.mul_le_mul_right _ hroom)
  rw [hr] at hr'
  simp only [Result.ok.injEq] at hr'
  obtain ⟨rfl, rfl⟩ := hr'
  unfold Oper.wp
  simp [execOp, hop, resolve, invoke, builtin, hs, hx, hr, Result.andThen]
  rw [List.append_assoc] at ho' hg'
  exact hK _ ho' hg' (by simp [World.setRow])
theorem put_cell2 {w1 w2 w3 : World} {b off g : Nat} {v : Value} {o : Obj} (h : w1.cell? ⟨b, off, none⟩ = some v) (hb : b < w1.heap.size) (h2 : Below w1.heap.size w1 w2) (hbg : b ≠ g) (h3 : (w2.alloc o).grownBy w3 (some g)) : w3.cell? ⟨b, off, none⟩ = some v := by
  have e : w3.heap[b]? = w1.heap[b]? := by
    rw [h3.block b (by have := h2.size; simp; omega) (by simp [hbg]), Below.heap_alloc _ _ _ (by have := h2.size; omega), h2.block b hb]
  rw [World.cell?_of_block (w := w1) (a := ⟨b, off, none⟩) e]; exact h
theorem put_blk2 {w w1 w2 w3 : World} {b g : Nat} {o ob : Obj} (h : w.heap[b]? = some ob) (h1 : Below w.heap.size w w1) (h2 : Below w1.heap.size w1 w2) (hbg : b ≠ g) (h3 : (w2.alloc o).grownBy w3 (some g)) : w3.heap[b]? = some ob := by
  have hlt := blk_lt h
  have s1 := h1.size
  have s2 := h2.size
  rw [h3.block b (by simp; omega) (by simp [hbg]), Below.heap_alloc _ _ _ (by omega), h2.block b (by omega), h1.block b hlt]; exact h
theorem put_roomy {w w1 w2 w3 : World} {b off g c : Nat} {cs : Array Value} {t : TypeId} {l : Ov.Files} {x th : ByteArray} {o : Obj} (hblk : w.heap[b]? = some (.cells cs t (0, 0))) (h1 : Below w.heap.size w w1) (h2 : Below w1.heap.size w1 w2) (hbg : b ≠ g) (h3 : (w2.alloc o).grownBy w3 (some g))
    (ho : w3.ownsRow 0 97 2 (.slice (some ⟨g, 0, none⟩) (l.length + 1) c) (l.length + 1) (fileCells l ++ [.string x, .string th])) :
    PutLeft w b off cs t (.slice (some ⟨g, 0, none⟩) l.length c) (l ++ [(x, th)]) (.slice (some ⟨g, 0, none⟩) (l.length + 1) c) (w3.setCell ⟨b, off, none⟩ (.slice (some ⟨g, 0, none⟩) (l.length + 1) c)) := by
  have s1 := h1.size
  have s2 := h2.size
  have hne : some b ≠ (Value.slice (some ⟨g, 0, none⟩) (l.length + 1) c).ownBlock := by simp [Value.ownBlock, hbg]
  have hfr : OFr w w3 b (some g) := by
    have sz := h3.size
    simp only [World.size_alloc] at sz
    refine ⟨h3.os.trans (h2.os.trans h1.os), h3.tape.trans (h2.tape.trans h1.tape), h3.output.trans (h2.output.trans h1.output), by omega, fun k hk _ hr => ?_⟩
    rw [h3.block k (by simp; omega) hr, Below.heap_alloc _ _ _ (by omega), h2.block k (by omega), h1.block k hk]
  refine ⟨blk_set_same (put_blk2 hblk h1 h2 hbg h3) _, ?_, hne, hfr.trans (OFr.set_blk w3 b off _ _), Or.inl rfl⟩
  have := owns_set ho (a := ⟨b, off, none⟩) hne (.slice (some ⟨g, 0, none⟩) (l.length + 1) c)
  unfold OwnsRows
  rw [fileCells_append, List.length_append]
  exact this

set_option maxRecDepth 100000 in
set_option maxHeartbeats 2000000 in
theorem oSput_room (l : Ov.Files) (g c : Nat) (x th : ByteArray) (b off : Nat) (cs : Array Value) (t : TypeId) (w : World) (hl : l.length ≤ 8) (hblk : w.heap[b]? = some (.cells cs t (0, 0))) (hoff : cs[off]? = some (.slice (some ⟨g, 0, none⟩) l.length c)) (hown : OwnsRows w 0 (.slice (some ⟨g, 0, none⟩) l.length c) l) (hne : some b ≠ (Value.slice (some ⟨g, 0, none⟩) l.length c).ownBlock) (hp : ¬ Ov.place l x < l.length) (hx : x.size ≤ 1000) (hcap : l.length + 1 ≤ c) :
    Calls Tryz.prog 93 #[.pointer (some ⟨b, off, none⟩), .string x, .string th] w fun e w' => e = .returned (.tuple #[]) ∧ ∃ v', PutLeft w b off cs t (.slice (some ⟨g, 0, none⟩) l.length c) (Ov.withF l x th) v' w' := by
  have HB := hide hblk
  have HF := hide hoff
  have HO := hide hown
  have HN := hide hne
  have hbl := blk_lt hblk
  have hf : Ov.find l x = -1 := Ov.find_no hp
  have Hw : Hid (Ov.withF l x th = l ++ [(x, th)]) := by unfold Ov.withF; rw [if_neg hp]; exact rfl
  obtain ⟨i0, hi, hz0, hz1, hz2⟩ := info_parts Tryz.infoRow
  have hbg : b ≠ g := fun e => hne (by rw [e]; rfl)
  clear hblk hoff hown hne
  go_enter Tryz.func93, Tryz.ntmps93
  go_wp2_with (go_at_call 98; refine (oSplace_calls l _ x b off 0 _ hl (unhide HO) (blk_cell (unhide HB) (unhide HF)) hbl).mono ?_; rintro e w1 ⟨rfl, hb1⟩; have c1 : w1.cell? ⟨b, off, none⟩ = some (.slice (some ⟨g, 0, none⟩) l.length c) := (hb1.cell (p := ⟨b, off, none⟩) hbl).trans (blk_cell (unhide HB) (unhide HF)); have HB1 := hide hb1; have hbl1 : b < w1.heap.size := Nat.lt_of_lt_of_le hbl hb1.size; clear hb1)
  go_region_law (first | (refine step_append_row rfl (.tmp 24) (.tmp 29) 73 rfl 0 97 i0 (.agg #[.string ⟨#[]⟩, .string ⟨#[]⟩]) 2 32 Tryz.underlying73 hi hz0 hz1 hz2 rfl (by decide) g l.length c (fileCells l) (by simp [Act.eval]) ((owns_all (owns_all (unhide HO) (unhide HB1)) (unhide HB2)).alloc _) ⟨w2.heap.size, 0, none⟩ 1 1 [.string x, .string th] (by simp [Act.eval]) rfl (two_new rfl) (two_strings x th) hcap (by unfold maxLen; omega) (by omega) (Nat.zero_le _) ?_; intro w3 ho3 hg3 _; have c4 : w3.cell? ⟨b, off, none⟩ = some (.slice (some ⟨g, 0, none⟩) l.length c) := put_cell2 c1 hbl1 (unhide HB2) hbg hg3; have f4 := blk_frozen (put_blk2 (unhide HB) (unhide HB1) (unhide HB2) hbg hg3)) | (go_simp; go_at_call 67; refine (oClone_calls x _ hx).mono ?_; rintro e w2 ⟨rfl, hb2⟩; have HB2 : Hid (Below w1.heap.size w1 w2) := ((Below.refl w1.heap.size w1).drew).trans hb2; have c2 : w2.cell? ⟨b, off, none⟩ = some (.slice (some ⟨g, 0, none⟩) l.length c) := ((unhide HB2).cell (p := ⟨b, off, none⟩) hbl1).trans c1; have hbl2 : b < w2.heap.size := Nat.lt_of_lt_of_le hbl1 (unhide HB2).size; have c3 : ∀ o, (w2.alloc o).cell? ⟨b, off, none⟩ = some (.slice (some ⟨g, 0, none⟩) l.length c) := fun o => (World.cell?_alloc_past _ _ _ hbl2).trans c2; clear hb2))
  all_goals (go_wp2_with fail; go_end0; exact ⟨rfl, _, by rw [unhide Hw]; exact put_roomy (unhide HB) (unhide HB1) (unhide HB2) hbg hg3 ho3⟩)

/-- put, whole. -/
theorem oSput_calls (l : Ov.Files) (v : Value) (x th : ByteArray) (b off : Nat) (cs : Array Value) (t : TypeId) (w : World) (hl : l.length ≤ 8) (hblk : w.heap[b]? = some (.cells cs t (0, 0))) (hoff : cs[off]? = some v) (hown : OwnsRows w 0 v l) (hne : some b ≠ v.ownBlock) (hx : x.size ≤ 1000) :
    Calls Tryz.prog 93 #[.pointer (some ⟨b, off, none⟩), .string x, .string th] w fun e w' => e = .returned (.tuple #[]) ∧ ∃ v', PutLeft w b off cs t v (Ov.withF l x th) v' w' := by
  by_cases hp : Ov.place l x < l.length
  · exact oSput_here l v x th b off cs t w hl hblk hoff hown hne hp
  obtain ⟨a, c, rfl⟩ := owns_slice hown
  by_cases hcap : l.length + 1 ≤ c
  · rcases hown.2 with ⟨e, _⟩ | ⟨g, cap, cur, e, _⟩
    · simp at e; omega
    · simp at e
      obtain ⟨rfl, rfl⟩ := e
      exact oSput_room l g c x th b off cs t w hl hblk hoff hown hne hp hx hcap
  · exact oSput_grows l a c x th b off cs t w hl hblk hoff hown hne hp hx (by omega)

end Go.Proofs.YtomiepknmmpflaaGreatDoor
