/- The library's strings.Builder, as the program uses it: copyCheck, WriteByte, WriteString, Write. -/
import Derived.Test.YtomiepknmmpflaaGreatDoorCPDownO
namespace Go.Proofs.YtomiepknmmpflaaGreatDoor
open Go.RowKit Go.Joins

theorem Tryz.bdSize : (Tryz.prog.info? 142).map (·.size) = some 2 := by kernel_rfl
theorem Tryz.bdLies : liesAt Tryz.prog Tryz.prog.depth 142 (2 / Tryz.prog.cellsOf 142) 0 142 1 = true := by kernel_rfl
theorem Tryz.bdByte : (Tryz.prog.info? 5).map (fun i => (i.zero, i.size, i.bytes)) = some (some (.int .u8 0), 1, 1) := by kernel_rfl

set_option maxRecDepth 100000 in
set_option maxHeartbeats 1000000 in
theorem ocopy_used (b : Nat) (w : World) (h0 : w.cell? ⟨b, 0, none⟩ = some (.pointer (some ⟨b, 0, none⟩))) :
    Calls Tryz.prog 140 #[.pointer (some ⟨b, 0, none⟩)] w fun e w' => e = .returned (.tuple #[]) ∧ w' = w := by
  obtain ⟨j, hj, _⟩ := Option.map_eq_some_iff.1 Tryz.bdSize
  go_enter Tryz.func140, Tryz.ntmps140
  go_wp2
  rw [Lib.run_neq_ptr_same w _ Tryz.underlying140 hj]
  go_wp2
  go_end0
  exact ⟨rfl, rfl⟩

set_option maxRecDepth 100000 in
set_option maxHeartbeats 1000000 in
theorem ocopy_fresh (b : Nat) (w : World) (h0 : w.cell? ⟨b, 0, none⟩ = some (.pointer none)) (hsh : w.shape? b = some (142, 2)) (hfz : w.frozen? ⟨b, 0, none⟩ = false) :
    Calls Tryz.prog 140 #[.pointer (some ⟨b, 0, none⟩)] w fun e w' => e = .returned (.tuple #[]) ∧ w' = w.setCell ⟨b, 0, none⟩ (.pointer (some ⟨b, 0, none⟩)) := by
  obtain ⟨j, hj, hjs⟩ := Option.map_eq_some_iff.1 Tryz.bdSize
  go_enter Tryz.func140, Tryz.ntmps140
  go_wp2
  rw [Lib.run_to_unsafe w ⟨b, 0, none⟩ Tryz.underlying140 Tryz.underlying195 hj (by rw [hjs]; decide) hsh (Nat.zero_lt_succ 1)]
  simp only [Result.andThen]
  rw [Oper.upon_value]
  go_wp2
  rw [run_callFunc_extern Tryz.func180 (by kernel_rfl) (by kernel_rfl) (by kernel_rfl) (e := Extern.AbiNoEscape.same) (by kernel_rfl)]
  rw [Lib.run_noEscape]
  simp only [Result.andThen]
  rw [Oper.upon_value]
  go_wp2
  rw [Lib.run_from_unsafe w ⟨b, 0, none⟩ Tryz.underlying195 Tryz.underlying140 hj hsh Tryz.bdLies]
  simp only [Result.andThen]
  rw [Oper.upon_value]
  go_wp2
  go_end0
  exact ⟨rfl, rfl⟩

theorem bytes_one (l : List UInt8) : ∀ v ∈ Lib.byteCells l, v.oneCell' = true := by
  intro v hv
  simp only [Lib.byteCells, List.mem_map] at hv
  obtain ⟨b, _, rfl⟩ := hv
  rfl
theorem add_block (a : Addr) (j : Nat) : (a.add j).block = a.block := by unfold Addr.add; split <;> rfl
theorem byte_one {c : Nat} (h : c < 256) : Lib.byteCells [c.toUInt8] = [Value.int .u8 (c : Nat)] := by
  simp [Lib.byteCells]; omega
/-- A builder at block b that holds the bytes l; what it has of its own lies at B and above. -/
abbrev Bd (w : World) (B b : Nat) (l : List UInt8) : Prop := Lib.IsBuilder 142 5 B b (Lib.byteCells l) w
/-- .. used. -/
abbrev BdU (w : World) (B b : Nat) (l : List UInt8) : Prop := Lib.BuilderAt 142 5 B b (.pointer (some ⟨b, 0, none⟩)) (Lib.byteCells l) w
/-- What a write leaves. -/
structure BdLeft (w : World) (B b : Nat) (l : List UInt8) (w' : World) : Prop where
  bd : BdU w' B b l
  below : Below B w w'
  others : Lib.OthersKept 5 (some b) w w'

theorem ocopy_calls (B b : Nat) (l : List UInt8) (w : World) (h : Bd w B b l) :
    Calls Tryz.prog 140 #[.pointer (some ⟨b, 0, none⟩)] w fun e w' => e = .returned (.tuple #[]) ∧ BdLeft w B b l w' := by
  rcases h with h | h
  · refine (ocopy_fresh b w h.cell0 h.shape h.frozen0).mono ?_
    rintro e w' ⟨rfl, rfl⟩
    exact ⟨rfl, h.used _, (Below.refl B w).setCell (p := ⟨b, 0, none⟩) h.1 _, (Lib.OthersKept.refl _ _ w).setCell ⟨b, 0, none⟩ rfl _⟩
  · refine (ocopy_used b w h.cell0).mono ?_
    rintro e w' ⟨rfl, rfl⟩
    exact ⟨rfl, h, Below.refl B _, Lib.OthersKept.refl _ _ _⟩

/-- What a write has in hand: the builder used, its row v. -/
structure BdAt (w : World) (B b : Nat) (l : List UInt8) (v : Value) (w1 : World) : Prop where
  blk : w1.heap[b]? = some (.cells #[.pointer (some ⟨b, 0, none⟩), v] 142 (0, 0))
  own : w1.ownsRow B 5 1 v l.length (Lib.byteCells l)
  below : Below B w w1
  others : Lib.OthersKept 5 (some b) w w1
  le : B ≤ b
  base : B ≤ w1.heap.size
theorem BdLeft.at {w w1 : World} {B b : Nat} {l : List UInt8} (h : BdLeft w B b l w1) (hB : B ≤ w.heap.size) : ∃ a c, BdAt w B b l (.slice a l.length c) w1 := by
  obtain ⟨h1, v, h2, h3, _⟩ := h.bd
  rw [Lib.byteCells_length] at h3
  obtain ⟨a, c, rfl⟩ := owns_slice h3
  exact ⟨a, c, h2, h3, h.below, h.others, h1, Nat.le_trans hB h.below.size⟩
theorem BdAt.alloc {w w1 : World} {B b : Nat} {l : List UInt8} {v : Value} (h : BdAt w B b l v w1) (o : Obj) : BdAt w B b l v (w1.alloc o) :=
  ⟨blk_alloc h.blk o, h.own.alloc o, h.below.alloc h.base o, h.others.alloc o, h.le, by have := h.base; simp; omega⟩
theorem BdAt.grown {w w1 w2 : World} {B b : Nat} {l : List UInt8} {v : Value} (h : BdAt w B b l v w1) (hg : w1.grownBy w2 v.ownBlock) : w2.heap[b]? = some (.cells #[.pointer (some ⟨b, 0, none⟩), v] 142 (0, 0)) := by
  have hne := Lib.ownBlock_ne h.own h.blk (by decide)
  rw [hg.block b (blk_lt h.blk) (fun e => hne e.symm)]; exact h.blk
theorem BdAt.put {w w1 w2 : World} {B b : Nat} {l m : List UInt8} {v v' : Value} (h : BdAt w B b l v w1) (hg : w1.grownBy w2 v.ownBlock) (ho : w2.ownsRow B 5 1 v' (l.length + m.length) (Lib.byteCells l ++ Lib.byteCells m)) : BdLeft w B b (l ++ m) (w2.setCell ⟨b, 1, none⟩ v') := by
  refine ⟨Lib.BuilderAt.put h.le (h.grown hg) (bs' := Lib.byteCells (l ++ m)) (by rw [Lib.byteCells_length, List.length_append, Lib.byteCells_append]; exact ho) (by decide), ?_, ?_⟩
  · exact (h.below.grown hg h.base (fun k hk => (h.own.lt k hk).1)).setCell (p := ⟨b, 1, none⟩) h.le _
  · exact (h.others.grown hg (fun g hg => by obtain ⟨c, hc⟩ := own_blk h.own hg; exact ⟨c, _, hc⟩)).setCell ⟨b, 1, none⟩ rfl _

set_option maxRecDepth 100000 in
set_option maxHeartbeats 2000000 in
theorem oWriteByte_calls (B b : Nat) (l : List UInt8) (c : Nat) (w : World) (h : Bd w B b l) (hc : c < 256) (hlen : l.length ≤ 100000) (hBw : B ≤ w.heap.size) :
    Calls Tryz.prog 86 #[.pointer (some ⟨b, 0, none⟩), .int .u8 (c : Nat)] w fun e w' => e = .returned .nilIface ∧ BdLeft w B b (l ++ [c.toUInt8]) w' := by
  obtain ⟨i0, hi, hz0, hz1, hz2⟩ := info_parts Tryz.bdByte
  have HB := hide h
  have Hc : Hid (Lib.byteCells [c.toUInt8] = [.int .u8 (c : Nat)]) := byte_one hc
  clear h
  go_enter Tryz.func86, Tryz.ntmps86
  go_wp2_with (first
    | (at_builtin; refine wpList_append_own _ rfl (.tmp 11) (.tmp 13) 103 rfl B 5 i0 (.int .u8 0) 1 1 Tryz.underlying103 hi hz0 hz1 hz2 rfl (by decide) _ _ _ rfl ((unhide H1).own.alloc _) ⟨w1.heap.size, 0, none⟩ 1 1 [.int .u8 (c : Nat)] rfl rfl (one_new rfl) (by intro u hu; simp at hu; subst hu; rfl) (by unfold maxLen; omega) (by omega) (by simp; omega) ?_; intro v2 w2 ho2 hg2 _; obtain ⟨g2, c2, rfl⟩ := ownsRow_form ho2 (by omega); have k2 := ((unhide H1).alloc _).grown hg2; have d1 := blk_cell (i := 1) k2 rfl; have f1 := blk_frozen k2 1)
    | (go_at_call 140; refine (ocopy_calls B b l _ (unhide HB)).mono ?_; rintro e w1 ⟨rfl, h1⟩; obtain ⟨a, cp, h2⟩ := h1.at hBw; have c1 : w1.cell? ⟨b, 1, none⟩ = some (.slice a l.length cp) := blk_cell h2.blk rfl; have H1 := hide h2; have hzz := h2.base; clear h1 h2))
  go_ret
  exact ⟨rfl, ((unhide H1).alloc _).put hg2 (by rw [unhide Hc]; exact ho2)⟩

set_option maxRecDepth 100000 in
set_option maxHeartbeats 2000000 in
theorem oWriteString_calls (B b : Nat) (l : List UInt8) (s : ByteArray) (w : World) (h : Bd w B b l) (hs : s.size ≤ 100000) (hlen : l.length ≤ 100000) (hBw : B ≤ w.heap.size) :
    Calls Tryz.prog 87 #[.pointer (some ⟨b, 0, none⟩), .string s] w fun e w' => e = .returned (.tuple #[.int .i64 s.size, .nilIface]) ∧ BdLeft w B b (l ++ s.data.toList) w' := by
  obtain ⟨i0, hi, hz0, hz1, hz2⟩ := info_parts Tryz.bdByte
  have HB := hide h
  clear h
  go_enter Tryz.func87, Tryz.ntmps87
  go_wp2_with (first
    | (at_builtin; refine Lib.wpList_append_own_string _ rfl _ _ 103 9 rfl B 5 i0 Tryz.underlying103 Tryz.underlying9 hi hz0 hz1 hz2 _ _ _ rfl (unhide H1).own s rfl (by unfold maxLen; omega) (by omega) (by omega) ?_; intro v2 w2 ho2 hg2 _; obtain ⟨a2, c2, rfl⟩ := owns_slice ho2; have k2 := (unhide H1).grown hg2; have d1 := blk_cell (i := 1) k2 rfl; have f1 := blk_frozen k2 1)
    | (go_at_call 140; refine (ocopy_calls B b l _ (unhide HB)).mono ?_; rintro e w1 ⟨rfl, h1⟩; obtain ⟨a, cp, h2⟩ := h1.at hBw; have c1 : w1.cell? ⟨b, 1, none⟩ = some (.slice a l.length cp) := blk_cell h2.blk rfl; have H1 := hide h2; have hzz := h2.base; clear h1 h2))
  go_ret2
  exact ⟨rfl, (unhide H1).put hg2 ho2⟩

set_option maxRecDepth 100000 in
set_option maxHeartbeats 2000000 in
theorem oWrite_calls (B b g n c : Nat) (l m : List UInt8) (w : World) (h : Bd w B b l) (hn : m.length = n) (hg : g < B) (hm : ∀ (j : Nat) (u : Value), (Lib.byteCells m)[j]? = some u → w.cell? ((⟨g, 0, none⟩ : Addr).add j) = some u) (hm1 : n ≤ 100000) (hlen : l.length ≤ 100000) (hBw : B ≤ w.heap.size) :
    Calls Tryz.prog 95 #[.pointer (some ⟨b, 0, none⟩), .slice (some ⟨g, 0, none⟩) n c] w fun e w' => e = .returned (.tuple #[.int .i64 n, .nilIface]) ∧ BdLeft w B b (l ++ m) w' := by
  obtain ⟨i0, hi, hz0, hz1, hz2⟩ := info_parts Tryz.bdByte
  have HB := hide h
  have HM := hide hm
  have HL : Hid ((Lib.byteCells m).length = n * 1) := by rw [Lib.byteCells_length, Nat.mul_one]; exact hn
  have HN := hide hn
  clear h hm hn
  go_enter Tryz.func95, Tryz.ntmps95
  go_wp2_with (first
    | (at_builtin; refine wpList_append_own _ rfl (.tmp 12) (.tmp 13) 103 rfl B 5 i0 (.int .u8 0) 1 1 Tryz.underlying103 hi hz0 hz1 hz2 rfl (by decide) _ _ _ rfl (unhide H1).own ⟨g, 0, none⟩ n c (Lib.byteCells m) rfl (unhide HL) (fun j u hj => ((unhide H1).below.cell (p := (⟨g, 0, none⟩ : Addr).add j) (by rw [add_block]; exact hg)).trans (unhide HM j u hj)) (bytes_one m) (by unfold maxLen; omega) (by omega) (by omega) ?_; intro v2 w2 ho2 hg2 _; obtain ⟨a2, c2, rfl⟩ := owns_slice ho2; have k2 := (unhide H1).grown hg2; have d1 := blk_cell (i := 1) k2 rfl; have f1 := blk_frozen k2 1)
    | (go_at_call 140; refine (ocopy_calls B b l _ (unhide HB)).mono ?_; rintro e w1 ⟨rfl, h1⟩; obtain ⟨a, cp, h2⟩ := h1.at hBw; have c1 : w1.cell? ⟨b, 1, none⟩ = some (.slice a l.length cp) := blk_cell h2.blk rfl; have H1 := hide h2; have hzz := h2.base; clear h1 h2))
  go_ret2
  exact ⟨rfl, (unhide H1).put hg2 (by rw [unhide HN]; exact ho2)⟩

set_option maxRecDepth 100000 in
set_option maxHeartbeats 2000000 in
theorem oWrite_none (B b : Nat) (l : List UInt8) (w : World) (h : Bd w B b l) (hBw : B ≤ w.heap.size) :
    Calls Tryz.prog 95 #[.pointer (some ⟨b, 0, none⟩), .slice none 0 0] w fun e w' => e = .returned (.tuple #[.int .i64 0, .nilIface]) ∧ BdLeft w B b l w' := by
  obtain ⟨i0, hi, hz0, hz1, hz2⟩ := info_parts Tryz.bdByte
  have HB := hide h
  clear h
  go_enter Tryz.func95, Tryz.ntmps95
  go_wp2_with (first
    | (at_builtin; refine wpList_append_own_none rfl (.tmp 12) (.tmp 13) 103 rfl B 5 i0 1 Tryz.underlying103 hi _ _ _ rfl (unhide H1).own rfl ?_; have d1 := blk_cell (i := 1) (unhide H1).blk rfl; have f1 := blk_frozen (unhide H1).blk 1)
    | (go_at_call 140; refine (ocopy_calls B b l _ (unhide HB)).mono ?_; rintro e w1 ⟨rfl, h1⟩; obtain ⟨a, cp, h2⟩ := h1.at hBw; have c1 : w1.cell? ⟨b, 1, none⟩ = some (.slice a l.length cp) := blk_cell h2.blk rfl; have H1 := hide h2; have hzz := h2.base; clear h1 h2))
  go_ret2
  exact ⟨rfl, by simpa using (unhide H1).put (m := []) (World.grownBy.refl _ _) (by simpa [Lib.byteCells] using (unhide H1).own)⟩

end Go.Proofs.YtomiepknmmpflaaGreatDoor
