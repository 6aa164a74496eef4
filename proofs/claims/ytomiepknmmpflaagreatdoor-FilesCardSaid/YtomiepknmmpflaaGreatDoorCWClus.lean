/- The walk of the program's parseClusters. -/
import Derived.Test.YtomiepknmmpflaaGreatDoorCPLost
import Derived.Test.YtomiepknmmpflaaGreatDoorCWDrop
namespace Go.Proofs.YtomiepknmmpflaaGreatDoor
open Go.RowKit Go.Joins

theorem Tryz.infoClus : (Tryz.prog.info? 160).map (fun i => (i.zero, i.size, i.bytes)) = some (some (.agg #[.int .i64 0, .int .u8 0, .int .u8 0, .int .u8 0, .int .u8 0, .int .u8 0, .int .u8 0, .int .u8 0, .int .u8 0]), 9, 16) := by kernel_rfl
/-- A row of open clusters, as make lays it. -/
def zClus (n : Nat) : Array Value := madeCells #[.int .i64 0, .int .u8 0, .int .u8 0, .int .u8 0, .int .u8 0, .int .u8 0, .int .u8 0, .int .u8 0, .int .u8 0] (n * 9)
theorem make_clus (n : Nat) (hn : n ≤ 30) (w : World) : (Instr.makeSlice 88 (.int .i64 n) (.int .i64 n)).run Tryz.prog w = .ok (.slice (some ⟨w.heap.size, 0, none⟩) n n) (w.alloc (.cells (zClus n) 160)) := by
  obtain ⟨i0, hi, hz0, hz1, hz2⟩ := info_parts Tryz.infoClus
  have := run_make (P := Tryz.prog) w 88 160 i0 _ Tryz.underlying88 hi hz0 .i64 .i64 n n (by omega) (Int.le_refl _) (by rw [hz2]; omega) (by omega)
  rw [hz1] at this
  simpa [zClus, Value.cells] using this
theorem clNone_get : ∀ j : Fin 9, clNone[j.val]? = some ((#[.int .i64 0, .int .u8 0, .int .u8 0, .int .u8 0, .int .u8 0, .int .u8 0, .int .u8 0, .int .u8 0, .int .u8 0] : Array Value)[j.val % 9]!)
  | ⟨0, _⟩ => rfl | ⟨1, _⟩ => rfl | ⟨2, _⟩ => rfl | ⟨3, _⟩ => rfl | ⟨4, _⟩ => rfl | ⟨5, _⟩ => rfl | ⟨6, _⟩ => rfl | ⟨7, _⟩ => rfl | ⟨8, _⟩ => rfl
theorem noneTo_get (n i : Nat) (h : i < n * 9) : (noneTo n)[i]? = some ((#[.int .i64 0, .int .u8 0, .int .u8 0, .int .u8 0, .int .u8 0, .int .u8 0, .int .u8 0, .int .u8 0, .int .u8 0] : Array Value)[i % 9]!) := by
  induction n generalizing i with
  | zero => omega
  | succ n ih =>
    have hl : clNone.length = 9 := rfl
    rw [noneTo]
    by_cases h9 : i < 9
    · rw [List.getElem?_append_left (by omega)]; exact clNone_get ⟨i, h9⟩
    · rw [List.getElem?_append_right (by omega), hl, ih (i - 9) (by omega), show (i - 9) % 9 = i % 9 from by omega]
theorem zClus_list (n : Nat) : zClus n = (noneTo n).toArray := by
  apply Array.ext_getElem?
  intro i
  by_cases h : i < n * 9
  · have r : (noneTo n).toArray[i]? = some ((#[.int .i64 0, .int .u8 0, .int .u8 0, .int .u8 0, .int .u8 0, .int .u8 0, .int .u8 0, .int .u8 0, .int .u8 0] : Array Value)[i % 9]!) := by rw [List.getElem?_toArray]; exact noneTo_get n i h
    rw [r]
    unfold zClus madeCells
    rw [Array.getElem?_map, Array.getElem?_range, if_pos h]; rfl
  · rw [Array.getElem?_eq_none (by unfold zClus; rw [size_madeCells]; omega), Array.getElem?_eq_none (by rw [List.size_toArray, noneTo_length]; omega)]

/-- Ahead of round k: X: the first block of the call's own; kt: how many entries are marked in the array. -/
structure KI (s : ByteArray) (w : World) (X m kt k : Nat) (wr : World) : Prop where
  good : Ov.goodTo s k
  tk : wr.heap[X]? = some (.cells (takenTo s kt).toArray 229 (0, 0))
  row : wr.heap[X + 1]? = some (.cells (rowAt s m k).toArray 160 (0, 0))
  size : X + 1 < wr.heap.size
  below : Below X w wr
section
variable {s : ByteArray} {w wr w3 : World} {X m k e : Nat}
theorem KI.open (h : KI s w X m k k wr) (hk : k < m) (he : Ov.ent s k = 0) : KI s w X m (k + 1) (k + 1) wr :=
  ⟨Ov.goodTo_succ h.good (Or.inl he), by rw [takenTo_same (Or.inl he)]; exact h.tk, by rw [rowAt_open hk he]; exact h.row, h.size, h.below⟩
theorem KI.zero (h : KI s w X m k k wr) (hh : Ov.headOk s) (hk : k < m) (he : Ov.ent s k = 255) : KI s w X m (k + 1) (k + 1) (wr.setCell ⟨X + 1, k * 9, none⟩ (.int .i64 1)) := by
  refine ⟨Ov.goodTo_succ h.good (Or.inr (Or.inl he)), by rw [takenTo_same (Or.inr (by omega))]; exact blk_set_other h.tk (by show X ≠ X + 1; omega) _, ?_, by simpa using h.size, h.below.setCell (by show X ≤ X + 1; omega) _⟩
  rw [rowAt_zero hh hk h.good he, blk_set_same (i := k * 9) h.row]
  simp
/-- Behind the mark and the kind. -/
theorem KI.mark (h : KI s w X m k k wr) (he : Ov.ent s k = e + 1) : (((wr.setCell ⟨X, e, none⟩ (.bool true)).setCell ⟨X + 1, k * 9, none⟩ (.int .i64 2))).heap[X]? = some (.cells (takenTo s (k + 1)).toArray 229 (0, 0)) := by
  refine blk_set_other ?_ (by show X ≠ X + 1; omega) _
  rw [takenTo_set he, blk_set_same (i := e) h.tk]
  simp
theorem KI.kind (h : KI s w X m k k wr) : (((wr.setCell ⟨X, e, none⟩ (.bool true)).setCell ⟨X + 1, k * 9, none⟩ (.int .i64 2))).heap[X + 1]? = some (.cells ((rowAt s m k).set (k * 9) (.int .i64 2)).toArray 160 (0, 0)) := by
  rw [blk_set_same (i := k * 9) (blk_set_other h.row (by show X + 1 ≠ X; omega) _)]
  simp
theorem KI.data (h : KI s w X m k k wr) (hX : X = w.heap.size) (hh : Ov.headOk s) (hk : k < m) (he : Ov.ent s k = e + 1) (hn : e < Ov.datas s) (hu : Ov.usedAt s k e ≤ 0) (h255 : e + 1 ≠ 255) {B : List UInt8} (hB : B = (Ov.blockOf s (e + 1)).data.toList)
    (hr : w3.heap[X + 1]? = some (.cells (((rowAt s m k).set (k * 9) (.int .i64 2)).toArray.toList.take (k * 9 + 1) ++ byteVals B ++ ((rowAt s m k).set (k * 9) (.int .i64 2)).toArray.toList.drop (k * 9 + 1 + 8)).toArray 160 (0, 0)))
    (hg : (((wr.setCell ⟨X, e, none⟩ (.bool true)).setCell ⟨X + 1, k * 9, none⟩ (.int .i64 2)).drew).grownBy w3 (some (X + 1))) : KI s w X m (k + 1) (k + 1) w3 := by
  have hb : Below X w ((wr.setCell ⟨X, e, none⟩ (.bool true)).setCell ⟨X + 1, k * 9, none⟩ (.int .i64 2)).drew := ((h.below.setCell (Nat.le_refl _) _).setCell (by show X ≤ X + 1; omega) _).trans (below_draws _ _ _)
  have hu0 : Ov.usedAt s k e = 0 := by have := Ov.usedAt_01 s k e; omega
  have hm : (((wr.setCell ⟨X, e, none⟩ (.bool true)).setCell ⟨X + 1, k * 9, none⟩ (.int .i64 2)).drew).heap[X]? = some (.cells (takenTo s (k + 1)).toArray 229 (0, 0)) := h.mark he
  refine ⟨Ov.goodTo_succ h.good (Ov.entOk_free he hn hu0), blk_grown hm hg (by simp), ?_, ?_, ?_⟩
  · have hd := rowAt_data hh hk h.good (by omega) (by omega) (B := B) (by rw [he]; exact hB)
    rw [hr, hd]
  · have := hg.size; have hs := h.size; simp at this; omega
  · exact hb.grown hg (Nat.le_trans (Nat.le_of_eq hX) hb.size) (fun i hi => by simp at hi; omega)
end
theorem taken_cell {s : ByteArray} {w wr : World} {X m kt k j : Nat} (h : KI s w X m kt k wr) (hj : j < 60) : wr.cell? ⟨X, j, none⟩ = some (.bool (decide (0 < Ov.usedAt s kt j))) := by
  rw [cell_of_block h.tk]; simpa using takenTo_getElem s kt j hj
theorem row_some {s : ByteArray} {w wr : World} {X m kt k j : Nat} (h : KI s w X m kt k wr) (hh : Ov.headOk s) (hk : k ≤ m) (hj : j < m * 9) : ∃ v, wr.cell? ⟨X + 1, j, none⟩ = some v := by
  rw [cell_of_block h.row]
  have := rowAt_length hh hk h.good
  exact ⟨(rowAt s m k)[j]'(by omega), by simp [this, hj]⟩

theorem takenTo_zero (s : ByteArray) : (takenTo s 0).toArray = Array.replicate 60 (.bool false) := by
  apply Array.ext_getElem?
  intro i
  rw [List.getElem?_toArray]
  by_cases h : i < 60
  · rw [takenTo_getElem s 0 i h]; simp [h, Ov.usedAt]
  · rw [List.getElem?_eq_none (by rw [takenTo_length]; omega), Array.getElem?_eq_none (by simp; omega)]
theorem clus_taken {s : ByteArray} {w : World} (o : Obj) : ((w.alloc (.cells (Array.replicate 60 (.bool false)) 229)).alloc o).heap[w.heap.size]? = some (.cells (takenTo s 0).toArray 229 (0, 0)) := by
  rw [takenTo_zero, Below.heap_alloc _ _ _ (by simp)]
  show (w.heap.push _)[w.heap.size]? = _
  simp
theorem clus_row {w : World} {m : Nat} {o : Obj} : ((w.alloc o).alloc (.cells (zClus m) 160)).heap[w.heap.size + 1]? = some (.cells (noneTo m).toArray 160 (0, 0)) := by
  rw [← zClus_list]
  show ((w.alloc o).heap.push _)[w.heap.size + 1]? = _
  rw [Array.getElem?_push, if_pos (by simp)]

set_option maxRecDepth 100000 in
set_option maxHeartbeats 1000000 in
theorem oparseClusters_calls (s E Dt : ByteArray) (te : TypeId) (pe : Value) (m n : Nat) (w : World) (hh : Ov.headOk s) (hn : Ov.datas s = n) (hE : E.size = m) (hEb : ∀ i, i < m → Ov.byteAt E i = Ov.ent s i) (hD : Dt.size = n * 8)
    (hDb : ∀ e, 1 ≤ e → e ≤ n → e ≠ 255 → (Dt.extract ((e - 1) * 8) Dt.size).data.toList.take 8 = (Ov.blockOf s e).data.toList) (hv : w.cell? ⟨3, 0, none⟩ = some (.iface te pe)) (h3 : 3 < w.heap.size) (hm30 : m ≤ 30) (hn60 : n ≤ 60) :
    Calls Tryz.prog 101 #[.string E, .string Dt] w fun e w' => Below w.heap.size w w' ∧ ((Ov.goodTo s m ∧ ∃ g, e = .returned (.tuple #[.slice (some ⟨g, 0, none⟩) m m, .int .i64 (namedTo s m : Nat), .nilIface]) ∧ w.heap.size ≤ g ∧ w'.heap[g]? = some (.cells (rowTo s m).toArray 160 (0, 0))) ∨ (¬ Ov.goodTo s m ∧ e = .returned (.tuple #[.slice none 0 0, .int .i64 0, .iface te pe]))) := by
  have hEs : (E.size : Int) = (m : Int) := by omega
  have hDs : (Dt.size : Int) / 8 = (n : Int) := by omega
  have hby := Ov.byteAt_eq E
  have mk := make_clus m hm30
  have HH := hide hh
  have HEb := hide hEb
  have HDb := hide hDb
  have HE := hide hE
  have HD := hide hD
  have HN := hide hn
  clear hh hEb hDb hD hn
  go_enter Tryz.func101, Tryz.ntmps101
  go_wp2_with fail
  clear mk
  go_loopw [8, 11, 12, 21, 48, 51, 58] (fun nd _ _ i _ _ _ wr => ∃ k, k ≤ m ∧ i = .int .i64 (k : Nat) ∧ nd = .int .i64 (namedTo s k : Nat) ∧ KI s w w.heap.size m k k wr) (fun _ _ _ i _ _ _ _ => m - (intOf i).toNat)
  case atStart => exact ⟨0, Nat.zero_le _, rfl, rfl, fun i hi => by omega, clus_taken _, by rw [clus_row]; unfold rowAt rowTo; rw [Nat.sub_zero, List.nil_append], by simp, below_alloc2 w _ _⟩
  case round =>
    obtain ⟨k, hk, rfl, rfl, hI⟩ := hrel
    have hnd := namedTo_le s k
    by_cases hlt : k < m
    · obtain ⟨e, he⟩ : ∃ e, Ov.byteAt E k = e := ⟨_, rfl⟩
      have Hek : Hid (Ov.ent s k = e) := by rw [← unhide HEb k hlt]; exact he
      have he256 : e < 256 := by rw [← he]; exact Ov.byteAt_lt _ _
      have hkE : k < E.size := by rw [unhide HE]; exact hlt
      obtain ⟨v0, hv0⟩ := row_some hI (unhide HH) (by omega) (j := k * 9) (by omega)
      have rf := blk_frozen hI.row
      have tf := blk_frozen hI.tk
      have hvr : wr.cell? ⟨3, 0, none⟩ = some (.iface te pe) := (hI.below.cell (p := ⟨3, 0, none⟩) h3).trans hv
      by_cases he0 : e = 0
      · subst he0
        have HI := hide hI
        clear hI
        go_wp2_with fail
        go_roundw
        case rel => exact ⟨k + 1, by omega, by go_num, by rw [namedTo, if_pos (Or.inl (unhide Hek))]; rfl, (unhide HI).open hlt (unhide Hek)⟩
        case measure => simp [intOf]; omega
      by_cases he255 : e = 255
      · subst he255
        have HI := hide hI
        clear hI
        go_wp2_with fail
        go_roundw
        case rel => exact ⟨k + 1, by omega, by go_num, by rw [namedTo, if_pos (Or.inr (unhide Hek))]; rfl, (unhide HI).zero (unhide HH) hlt (unhide Hek)⟩
        case measure => simp [intOf]; omega
      have he1 : 1 ≤ e := by omega
      have he254 : e ≤ 254 := by omega
      have Hek1 : Hid (Ov.ent s k = e - 1 + 1) := by rw [unhide Hek]; show e = _; omega
      have hb0 : ((e : Int) == 0) = false := beq_eq_false_iff_ne.2 (by omega)
      have hb255 : ((e : Int) == 255) = false := beq_eq_false_iff_ne.2 (by omega)
      clear he0 he255 he256
      by_cases hgt : n < e
      · have hgb : decide ((n : Int) < (e : Int)) = true := decide_eq_true (by omega)
        have Hno : Hid (¬ Ov.goodTo s m) := fun hg => Ov.not_entOk_high (by rw [unhide Hek]; omega) (by rw [unhide Hek, unhide HN]; exact hgt) (hg k hlt)
        have HI := hide hI
        clear hI
        go_wp2_with fail
        go_quiet (fail)
        go_wp2_with fail
        go_ret3
        exact ⟨(unhide HI).below.trans (below_draws _ _ _), Or.inr ⟨unhide Hno, rfl⟩⟩
      have hgb : decide ((n : Int) < (e : Int)) = false := decide_eq_false (by omega)
      have tc := taken_cell hI (j := e - 1) (by omega)
      by_cases hus : 0 < Ov.usedAt s k (e - 1)
      · have hub : decide (0 < Ov.usedAt s k (e - 1)) = true := decide_eq_true hus
        have Hno : Hid (¬ Ov.goodTo s m) := fun hg => Ov.not_entOk_used (unhide Hek1) (by omega) hus (hg k hlt)
        have HI := hide hI
        rw [hub] at tc
        clear hI
        go_wp2_with fail
        go_quiet (fail)
        go_wp2_with fail
        go_ret3
        exact ⟨(unhide HI).below.trans (below_draws _ _ _), Or.inr ⟨unhide Hno, rfl⟩⟩
      have hub : decide (0 < Ov.usedAt s k (e - 1)) = false := decide_eq_false hus
      rw [hub] at tc
      have HI := hide hI
      have Hus := hide hus
      clear hI hus
      have b1 : (k : Int) < (m : Int) := by omega
      have b2 : (0 : Int) ≤ ((e : Int) - 1) * 8 := by omega
      have b3 : ((e : Int) - 1) * 8 ≤ (Dt.size : Int) := by have := unhide HD; omega
      have b4 : (0 : Int) ≤ (k : Int) := by omega
      have w1 : IntKind.i64.wrap ((e : Int) - 1) = (e : Int) - 1 := by simp [IntKind.wrap_i64]; omega
      have w2 : IntKind.i64.wrap (((e : Int) - 1) * 8) = ((e : Int) - 1) * 8 := by simp [IntKind.wrap_i64]; omega
      have w3 : (((e : Int) - 1) * 8).toNat = (e - 1) * 8 := by omega
      have hle8 : 8 ≤ (Dt.extract ((e - 1) * 8) Dt.size).size := by have := unhide HD; rw [ByteArray.size_extract]; omega
      have hfit : k * 9 + 1 + 8 ≤ ((rowAt s m k).set (k * 9) (.int .i64 2)).toArray.size := by
        have := rowAt_length (unhide HH) (by omega) (unhide HI).good (m := m); rw [List.size_toArray, List.length_set, this]; omega
      have Hle := hide hle8
      have Hfit := hide hfit
      clear hle8 hfit
      go_wp2_with fail
      go_region_law (refine step_copy_head rfl (.tmp 41) (.tmp 46) 103 9 rfl 5 Tryz.underlying103 (by kernel_rfl) (w.heap.size + 1) (k * 9 + 1) 8 8 (Dt.extract ((e - 1) * 8) Dt.size) (by simp [Act.eval, Act.put]) (by simp [Act.eval, Act.put]) _ 160 (by exact (unhide HI).kind) (unhide Hle) (unhide Hfit) ?_; intro w3 hr3 hg3 hs3)
      go_wp2_with fail
      go_roundw
      case rel =>
        refine ⟨k + 1, by omega, by go_num, ?_, (unhide HI).data rfl (unhide HH) hlt (unhide Hek1) (by rw [unhide HN]; omega) (unhide Hus) (by omega) ?_ hr3 hg3⟩
        · rw [namedTo, if_neg (by rw [unhide Hek]; omega)]; go_num
        · rw [unhide HDb e he1 (by omega) (by omega), show e - 1 + 1 = e from by omega]
      case measure => simp [intOf]; omega
    · obtain rfl : k = m := by omega
      have HI := hide hI
      clear hI
      go_wp2_with fail
      go_ret3
      exact ⟨(unhide HI).below, Or.inl ⟨(unhide HI).good, w.heap.size + 1, rfl, by omega, by have := (unhide HI).row; unfold rowAt at this; rw [Nat.sub_self, noneTo, List.append_nil] at this; exact this⟩⟩

end Go.Proofs.YtomiepknmmpflaaGreatDoor
