/- The program's clusters in memory: what parseClusters makes, row by row: plain, and a law on copy. -/
import Derived.Test.YtomiepknmmpflaaGreatDoorKPParse
import Derived.Test.YtomiepknmmpflaaGreatDoorKSpecS
import Derived.Lib.BufferWrite
namespace Go.Proofs.YtomiepknmmpflaaGreatDoor
open Go.RowKit Go.Joins

def byteVals (l : List UInt8) : List Value := l.map fun b => .int .u8 (b.toNat : Int)
def zero8 : List Value := List.replicate 8 (.int .u8 0)
def clCells (s : ByteArray) (i : Nat) : List Value :=
  if Ov.ent s i = 0 then .int .i64 0 :: zero8 else if Ov.ent s i = 255 then .int .i64 1 :: zero8 else .int .i64 2 :: byteVals (Ov.blockOf s (Ov.ent s i)).data.toList
def clNone : List Value := .int .i64 0 :: zero8
def rowTo (s : ByteArray) : Nat → List Value
  | 0 => []
  | k + 1 => rowTo s k ++ clCells s k
def noneTo : Nat → List Value
  | 0 => []
  | k + 1 => clNone ++ noneTo k
def rowAt (s : ByteArray) (m k : Nat) : List Value := rowTo s k ++ noneTo (m - k)
def takenTo (s : ByteArray) (k : Nat) : List Value := (List.range 60).map fun j => .bool (decide (0 < Ov.usedAt s k j))
def namedTo (s : ByteArray) : Nat → Nat
  | 0 => 0
  | k + 1 => namedTo s k + if Ov.ent s k = 0 ∨ Ov.ent s k = 255 then 0 else 1
theorem namedTo_le (s : ByteArray) (k : Nat) : namedTo s k ≤ k := by
  induction k with
  | zero => simp [namedTo]
  | succ k ih => simp only [namedTo]; split <;> omega
theorem zero8_length : zero8.length = 8 := rfl
theorem noneTo_length (k : Nat) : (noneTo k).length = k * 9 := by
  induction k with
  | zero => rfl
  | succ k ih => simp [noneTo, clNone, zero8_length, ih]; omega
theorem noneTo_succ {m k : Nat} (h : k < m) : noneTo (m - k) = clNone ++ noneTo (m - (k + 1)) := by
  rw [show m - k = m - (k + 1) + 1 from by omega]; rfl

theorem run_copy_head {P : Program} (w : World) (dT sT ty elem : TypeId) (g o dLen dCap : Nat) (s : ByteArray) (cur : Array Value) (t : TypeId)
    (hu : P.underlying dT = some (.slice elem)) (hs : (P.info? elem).map (·.size) = some 1) (hg : w.heap[g]? = some (.cells cur t (0, 0))) (hle : dLen ≤ s.size) (hfit : o + dLen ≤ cur.size) :
    (Builtin.copy_ #[dT, sT] ty #[.slice (some ⟨g, o, none⟩) dLen dCap, .string s]).run P w =
      .ok (goInt dLen) (w.setRow g (cur.toList.take o ++ byteVals (s.data.toList.take dLen) ++ cur.toList.drop (o + dLen)).toArray) := by
  have hlen : (byteVals (s.data.toList.take dLen)).length = dLen := by
    have : s.data.toList.length = s.size := by simp
    simp [byteVals]; omega
  have h1 : ∀ v ∈ byteVals (s.data.toList.take dLen), v.oneCell' = true := by
    intro v hv
    unfold byteVals at hv
    rw [List.mem_map] at hv
    obtain ⟨b, _, rfl⟩ := hv
    rfl
  have hst := run_storeCells_at P g o t (byteVals (s.data.toList.take dLen)) 0 cur w hg (by rw [hlen]; simpa using hfit) h1
  have hmin : Nat.min s.size dLen = dLen := Nat.min_eq_right hle
  rw [hlen] at hst
  simp only [Nat.add_zero] at hst
  have htk : List.take dLen (List.map (fun b : UInt8 => Value.int IntKind.u8 (b.toNat : Int)) s.data.toList) = byteVals (s.data.toList.take dLen) := by
    unfold byteVals; rw [List.map_take]
  cases hq : P.info? elem with
  | none => simp [hq] at hs
  | some i =>
    simp [Builtin.copy_, run_underlying hu, Builtin.lenOf, Builtin.firstCells, sizeOf, typeInfo, hq, hmin]
    rw [htk, hst]
    simp [Result.andThen]
theorem step_copy_head {P : Program} {ops : Array Oper} {o : Oper} {a : Act} {w : World} {K : Act → World → Prop} {Q : Exit → Act → World → Prop} {E : Prop} (hgd : o.guard = none) (d x : Operand) (dT sT : TypeId)
    (ho : o.op = .call { callee := .builtin .copy, args := #[d, x], argTypes := #[dT, sT] }) (elem : TypeId) (hu : P.underlying dT = some (.slice elem)) (hsz : (P.info? elem).map (·.size) = some 1)
    (g off dLen dCap : Nat) (s : ByteArray) (hd : a.eval d = .slice (some ⟨g, off, none⟩) dLen dCap) (hx : a.eval x = .string s) (cur : Array Value) (t : TypeId) (hg : w.heap[g]? = some (.cells cur t (0, 0))) (hle : dLen ≤ s.size) (hfit : off + dLen ≤ cur.size)
    (h : ∀ w', w'.heap[g]? = some (.cells (cur.toList.take off ++ byteVals (s.data.toList.take dLen) ++ cur.toList.drop (off + dLen)).toArray t (0, 0)) → w.grownBy w' (some g) → w'.heap.size = w.heap.size → K (a.put o.dst (goInt dLen)) w') :
    if Region.wanted o (yielded ops a.tmps) = true then Oper.wp P o a w K Q else E := by
  have hw : Region.wanted o (yielded ops a.tmps) = true := by simp [Region.wanted, hgd]
  rw [if_pos hw]
  have hrun := run_copy_head (P := P) w dT sT o.type elem g off dLen dCap s cur t hu hsz hg hle hfit
  have hK := h _ (setRow_heap w g cur _ t _ hg) ⟨rfl, rfl, rfl, by simp, fun k _ hk => setRow_other w g k _ (fun e => hk (by simp [e]))⟩ (by simp)
  unfold Oper.wp
  simp only [execOp, ho, resolve, invoke, builtin, Sem.run_bind, Sem.run_pure, Result.andThen_ok, List.map_toArray, List.map_cons, List.map_nil, hd, hx, hrun]
  exact hK

theorem byteVals_length (l : List UInt8) : (byteVals l).length = l.length := by simp [byteVals]
theorem block_size {s : ByteArray} (hh : Ov.headOk s) {e : Nat} (h1 : 1 ≤ e) (h2 : e ≤ Ov.datas s) (h255 : e ≠ 255) : (Ov.blockOf s e).size = 8 := by
  rw [Ov.blockOf_data (by omega) h255, ByteArray.size_extract]
  have := hh.2.2.2.2.2.2.2.2.2.2
  omega
theorem cl_length {s : ByteArray} (hh : Ov.headOk s) {i : Nat} (hok : Ov.entOk s i) : (clCells s i).length = 9 := by
  unfold clCells
  split
  · rfl
  · split
    · rfl
    · rename_i h0 h255
      rcases hok with h | h | ⟨h, _⟩
      · exact absurd h h0
      · exact absurd h h255
      · have := block_size hh (by omega) h h255
        rw [List.length_cons, byteVals_length]
        simpa using this
theorem rowTo_length {s : ByteArray} (hh : Ov.headOk s) {k : Nat} (hg : Ov.goodTo s k) : (rowTo s k).length = k * 9 := by
  induction k with
  | zero => rfl
  | succ k ih =>
    rw [rowTo, List.length_append, ih (fun i hi => hg i (by omega)), cl_length hh (hg k (by omega))]; omega
theorem rowAt_length {s : ByteArray} (hh : Ov.headOk s) {m k : Nat} (hk : k ≤ m) (hg : Ov.goodTo s k) : (rowAt s m k).length = m * 9 := by
  unfold rowAt; rw [List.length_append, rowTo_length hh hg, noneTo_length]; omega
theorem rowAt_split {s : ByteArray} {m k : Nat} (hk : k < m) : rowAt s m k = rowTo s k ++ (clNone ++ noneTo (m - (k + 1))) := by
  unfold rowAt; rw [noneTo_succ hk]
theorem rowAt_succ (s : ByteArray) (m k : Nat) : rowAt s m (k + 1) = rowTo s k ++ (clCells s k ++ noneTo (m - (k + 1))) := by
  unfold rowAt; rw [rowTo, List.append_assoc]
theorem rowAt_open {s : ByteArray} {m k : Nat} (hk : k < m) (he : Ov.ent s k = 0) : rowAt s m (k + 1) = rowAt s m k := by
  rw [rowAt_succ, rowAt_split hk]
  have : clCells s k = clNone := by unfold clCells; rw [if_pos he]; rfl
  rw [this]
theorem rowAt_zero {s : ByteArray} (hh : Ov.headOk s) {m k : Nat} (hk : k < m) (hg : Ov.goodTo s k) (he : Ov.ent s k = 255) : rowAt s m (k + 1) = (rowAt s m k).set (k * 9) (.int .i64 1) := by
  rw [rowAt_succ, rowAt_split hk]
  have hl := rowTo_length hh hg
  have : clCells s k = .int .i64 1 :: zero8 := by unfold clCells; rw [if_neg (by omega), if_pos he]
  rw [this, List.set_append_right _ _ (by omega), hl, Nat.sub_self]
  rfl
theorem rowAt_data {s : ByteArray} (hh : Ov.headOk s) {m k : Nat} (hk : k < m) (hg : Ov.goodTo s k) (h0 : Ov.ent s k ≠ 0) (h255 : Ov.ent s k ≠ 255) {B : List UInt8} (hB : B = (Ov.blockOf s (Ov.ent s k)).data.toList) :
    rowAt s m (k + 1) = ((rowAt s m k).set (k * 9) (.int .i64 2)).take (k * 9 + 1) ++ byteVals B ++ ((rowAt s m k).set (k * 9) (.int .i64 2)).drop (k * 9 + 1 + 8) := by
  rw [rowAt_succ, rowAt_split hk]
  have hl := rowTo_length hh hg
  have e1 : clCells s k = .int .i64 2 :: byteVals B := by unfold clCells; rw [if_neg h0, if_neg h255, hB]
  have e2 : (rowTo s k ++ (clNone ++ noneTo (m - (k + 1)))).set (k * 9) (.int .i64 2) = rowTo s k ++ ((.int .i64 2 :: zero8) ++ noneTo (m - (k + 1))) := by
    rw [List.set_append_right _ _ (by omega), hl, Nat.sub_self]; rfl
  rw [e1, e2, List.take_append, List.drop_append, hl, List.take_of_length_le (by omega), List.drop_of_length_le (by omega)]
  rw [show k * 9 + 1 - k * 9 = 1 from by omega, show k * 9 + 1 + 8 - k * 9 = 9 from by omega]
  simp [zero8]
theorem takenTo_getElem (s : ByteArray) (k j : Nat) (hj : j < 60) : (takenTo s k)[j]? = some (.bool (decide (0 < Ov.usedAt s k j))) := by simp [takenTo, hj]
theorem takenTo_length (s : ByteArray) (k : Nat) : (takenTo s k).length = 60 := by simp [takenTo]
theorem takenTo_same {s : ByteArray} {k : Nat} (h : Ov.ent s k = 0 ∨ 60 < Ov.ent s k) : takenTo s (k + 1) = takenTo s k := by
  unfold takenTo
  refine List.map_congr_left fun j hj => ?_
  have : j < 60 := by simpa using hj
  rw [Ov.usedAt_succ, if_neg (by omega)]
theorem takenTo_set {s : ByteArray} {k e : Nat} (h : Ov.ent s k = e + 1) : takenTo s (k + 1) = (takenTo s k).set e (.bool true) := by
  unfold takenTo
  refine List.ext_getElem (by simp) fun j h1 h2 => ?_
  rw [List.getElem_set]
  simp only [List.getElem_map, List.getElem_range]
  rw [Ov.usedAt_succ]
  by_cases hj : e = j
  · rw [if_pos hj, if_pos (by omega)]; rfl
  · rw [if_neg hj, if_neg (by omega)]

end Go.Proofs.YtomiepknmmpflaaGreatDoor

namespace Go.Proofs.YtomiepknmmpflaaGreatDoor
open Go.RowKit Go.Joins

theorem Tryz.infoClus : (Tryz.prog.info? 160).map (fun i => (i.zero, i.size, i.bytes)) = some (some (.agg #[.int .i64 0, .int .u8 0, .int .u8 0, .int .u8 0, .int .u8 0, .int .u8 0, .int .u8 0, .int .u8 0, .int .u8 0]), 9, 16) := by kernel_rfl
def zClus (n : Nat) : Array Value := madeCells #[.int .i64 0, .int .u8 0, .int .u8 0, .int .u8 0, .int .u8 0, .int .u8 0, .int .u8 0, .int .u8 0, .int .u8 0] (n * 9)
theorem make_clus (n : Nat) (hn : n ≤ 30) (w : World) : (Instr.makeSlice 88 (.int .i64 n) (.int .i64 n)).run Tryz.prog w = .ok (.slice (some ⟨w.heap.size, 0, none⟩) n n) (w.alloc (.cells (zClus n) 160)) := by
  obtain ⟨i0, hi, hz0, hz1, hz2⟩ := info_parts Tryz.infoClus
  have := run_make (P := Tryz.prog) w 88 160 i0 _ Tryz.underlying88 hi hz0 .i64 .i64 n n (by omega) (Int.le_refl _) (by rw [hz2]; omega) (by omega)
  rw [hz1] at this
  simpa [zClus, Value.cells] using this
theorem clNone_get : ∀ j : Fin 9, clNone[j.val]? = some ((#[.int .i64 0, .int .u8 0, .int .u8 0, .int .u8 0, .int .u8 0, .int .u8 0, .int .u8 0, .int .u8 0, .int .u8 0] : Array Value)[j.val % 9]!)
  | ⟨0, _⟩ => rfl | ⟨1, _⟩ => rfl | ⟨2, _⟩ => rfl | ⟨3, _⟩ => rfl | ⟨4, _⟩ => rfl | ⟨5, _⟩ => rfl | ⟨6, _⟩ => rfl | ⟨7, _⟩ => rfl | ⟨8, _⟩ => rfl
theorem noneTo_get (n i : Nat) (h : i < n * 9) : (noneTo n)[i]? = some ((#[.int .i64 0, .int .u8 0, .int .u8 0, .int .u8 0, .int .u8 0, .int .u8 0, .int .u8 0, .int .u8 0, .int .u8 0] : Array Value)[i % 9]!) := by
  induction n generalizing i with
  | zero => omega
  | succ n ih =>
    have hl : clNone.length = 9 := rfl
    rw [noneTo]
    by_cases h9 : i < 9
    · rw [List.getElem?_append_left (by omega)]; exact clNone_get ⟨i, h9⟩
    · rw [List.getElem?_append_right (by omega), hl, ih (i - 9) (by omega), show (i - 9) % 9 = i % 9 from by omega]
theorem zClus_list (n : Nat) : zClus n = (noneTo n).toArray := by
  apply Array.ext_getElem?
  intro i
  by_cases h : i < n * 9
  · have r : (noneTo n).toArray[i]? = some ((#[.int .i64 0, .int .u8 0, .int .u8 0, .int .u8 0, .int .u8 0, .int .u8 0, .int .u8 0, .int .u8 0, .int .u8 0] : Array Value)[i % 9]!) := by rw [List.getElem?_toArray]; exact noneTo_get n i h
    rw [r]
    unfold zClus madeCells
    rw [Array.getElem?_map, Array.getElem?_range, if_pos h]; rfl
  · rw [Array.getElem?_eq_none (by unfold zClus; rw [size_madeCells]; omega), Array.getElem?_eq_none (by rw [List.size_toArray, noneTo_length]; omega)]

structure KI (s : ByteArray) (w : World) (X m kt k : Nat) (wr : World) : Prop where
  good : Ov.goodTo s k
  tk : wr.heap[X]? = some (.cells (takenTo s kt).toArray 229 (0, 0))
  row : wr.heap[X + 1]? = some (.cells (rowAt s m k).toArray 160 (0, 0))
  size : X + 1 < wr.heap.size
  below : Below X w wr
section
variable {s : ByteArray} {w wr w3 : World} {X m k e : Nat}
theorem KI.open (h : KI s w X m k k wr) (hk : k < m) (he : Ov.ent s k = 0) : KI s w X m (k + 1) (k + 1) wr :=
  ⟨Ov.goodTo_succ h.good (Or.inl he), by rw [takenTo_same (Or.inl he)]; exact h.tk, by rw [rowAt_open hk he]; exact h.row, h.size, h.below⟩
theorem KI.zero (h : KI s w X m k k wr) (hh : Ov.headOk s) (hk : k < m) (he : Ov.ent s k = 255) : KI s w X m (k + 1) (k + 1) (wr.setCell ⟨X + 1, k * 9, none⟩ (.int .i64 1)) := by
  refine ⟨Ov.goodTo_succ h.good (Or.inr (Or.inl he)), by rw [takenTo_same (Or.inr (by omega))]; exact blk_set_other h.tk (by show X ≠ X + 1; omega) _, ?_, by simpa using h.size, h.below.setCell (by show X ≤ X + 1; omega) _⟩
  rw [rowAt_zero hh hk h.good he, blk_set_same (i := k * 9) h.row]
  simp
theorem KI.mark (h : KI s w X m k k wr) (he : Ov.ent s k = e + 1) : (((wr.setCell ⟨X, e, none⟩ (.bool true)).setCell ⟨X + 1, k * 9, none⟩ (.int .i64 2))).heap[X]? = some (.cells (takenTo s (k + 1)).toArray 229 (0, 0)) := by
  refine blk_set_other ?_ (by show X ≠ X + 1; omega) _
  rw [takenTo_set he, blk_set_same (i := e) h.tk]
  simp
theorem KI.kind (h : KI s w X m k k wr) : (((wr.setCell ⟨X, e, none⟩ (.bool true)).setCell ⟨X + 1, k * 9, none⟩ (.int .i64 2))).heap[X + 1]? = some (.cells ((rowAt s m k).set (k * 9) (.int .i64 2)).toArray 160 (0, 0)) := by
  rw [blk_set_same (i := k * 9) (blk_set_other h.row (by show X + 1 ≠ X; omega) _)]
  simp
theorem KI.data (h : KI s w X m k k wr) (hX : X = w.heap.size) (hh : Ov.headOk s) (hk : k < m) (he : Ov.ent s k = e + 1) (hn : e < Ov.datas s) (hu : Ov.usedAt s k e ≤ 0) (h255 : e + 1 ≠ 255) {B : List UInt8} (hB : B = (Ov.blockOf s (e + 1)).data.toList)
    (hr : w3.heap[X + 1]? = some (.cells (((rowAt s m k).set (k * 9) (.int .i64 2)).toArray.toList.take (k * 9 + 1) ++ byteVals B ++ ((rowAt s m k).set (k * 9) (.int .i64 2)).toArray.toList.drop (k * 9 + 1 + 8)).toArray 160 (0, 0)))
    (hg : (((wr.setCell ⟨X, e, none⟩ (.bool true)).setCell ⟨X + 1, k * 9, none⟩ (.int .i64 2)).drew).grownBy w3 (some (X + 1))) : KI s w X m (k + 1) (k + 1) w3 := by
  have hb : Below X w ((wr.setCell ⟨X, e, none⟩ (.bool true)).setCell ⟨X + 1, k * 9, none⟩ (.int .i64 2)).drew := ((h.below.setCell (Nat.le_refl _) _).setCell (by show X ≤ X + 1; omega) _).trans (below_draws _ _ _)
  have hu0 : Ov.usedAt s k e = 0 := by have := Ov.usedAt_01 s k e; omega
  have hm : (((wr.setCell ⟨X, e, none⟩ (.bool true)).setCell ⟨X + 1, k * 9, none⟩ (.int .i64 2)).drew).heap[X]? = some (.cells (takenTo s (k + 1)).toArray 229 (0, 0)) := h.mark he
  refine ⟨Ov.goodTo_succ h.good (Ov.entOk_free he hn hu0), blk_grown hm hg (by simp), ?_, ?_, ?_⟩
  · have hd := rowAt_data hh hk h.good (by omega) (by omega) (B := B) (by rw [he]; exact hB)
    rw [hr, hd]
  · have := hg.size; have hs := h.size; simp at this; omega
  · exact hb.grown hg (Nat.le_trans (Nat.le_of_eq hX) hb.size) (fun i hi => by simp at hi; omega)
end
theorem taken_cell {s : ByteArray} {w wr : World} {X m kt k j : Nat} (h : KI s w X m kt k wr) (hj : j < 60) : wr.cell? ⟨X, j, none⟩ = some (.bool (decide (0 < Ov.usedAt s kt j))) := by
  rw [cell_of_block h.tk]; simpa using takenTo_getElem s kt j hj
theorem row_some {s : ByteArray} {w wr : World} {X m kt k j : Nat} (h : KI s w X m kt k wr) (hh : Ov.headOk s) (hk : k ≤ m) (hj : j < m * 9) : ∃ v, wr.cell? ⟨X + 1, j, none⟩ = some v := by
  rw [cell_of_block h.row]
  have := rowAt_length hh hk h.good
  exact ⟨(rowAt s m k)[j]'(by omega), by simp [this, hj]⟩

theorem takenTo_zero (s : ByteArray) : (takenTo s 0).toArray = Array.replicate 60 (.bool false) := by
  apply Array.ext_getElem?
  intro i
  rw [List.getElem?_toArray]
  by_cases h : i < 60
  · rw [takenTo_getElem s 0 i h]; simp [h, Ov.usedAt]
  · rw [List.getElem?_eq_none (by rw [takenTo_length]; omega), Array.getElem?_eq_none (by simp; omega)]
theorem clus_taken {s : ByteArray} {w : World} (o : Obj) : ((w.alloc (.cells (Array.replicate 60 (.bool false)) 229)).alloc o).heap[w.heap.size]? = some (.cells (takenTo s 0).toArray 229 (0, 0)) := by
  rw [takenTo_zero, Below.heap_alloc _ _ _ (by simp)]
  show (w.heap.push _)[w.heap.size]? = _
  simp
theorem clus_row {w : World} {m : Nat} {o : Obj} : ((w.alloc o).alloc (.cells (zClus m) 160)).heap[w.heap.size + 1]? = some (.cells (noneTo m).toArray 160 (0, 0)) := by
  rw [← zClus_list]
  show ((w.alloc o).heap.push _)[w.heap.size + 1]? = _
  rw [Array.getElem?_push, if_pos (by simp)]

set_option maxRecDepth 100000 in
set_option maxHeartbeats 1000000 in
theorem oparseClusters_calls (s E Dt : ByteArray) (te : TypeId) (pe : Value) (m n : Nat) (w : World) (hh : Ov.headOk s) (hn : Ov.datas s = n) (hE : E.size = m) (hEb : ∀ i, i < m → Ov.byteAt E i = Ov.ent s i) (hD : Dt.size = n * 8)
    (hDb : ∀ e, 1 ≤ e → e ≤ n → e ≠ 255 → (Dt.extract ((e - 1) * 8) Dt.size).data.toList.take 8 = (Ov.blockOf s e).data.toList) (hv : w.cell? ⟨3, 0, none⟩ = some (.iface te pe)) (h3 : 3 < w.heap.size) (hm30 : m ≤ 30) (hn60 : n ≤ 60) :
    Calls Tryz.prog 101 #[.string E, .string Dt] w fun e w' => Below w.heap.size w w' ∧ ((Ov.goodTo s m ∧ ∃ g, e = .returned (.tuple #[.slice (some ⟨g, 0, none⟩) m m, .int .i64 (namedTo s m : Nat), .nilIface]) ∧ w.heap.size ≤ g ∧ w'.heap[g]? = some (.cells (rowTo s m).toArray 160 (0, 0))) ∨ (¬ Ov.goodTo s m ∧ e = .returned (.tuple #[.slice none 0 0, .int .i64 0, .iface te pe]))) := by
  have hEs : (E.size : Int) = (m : Int) := by omega
  have hDs : (Dt.size : Int) / 8 = (n : Int) := by omega
  have hby := Ov.byteAt_eq E
  have mk := make_clus m hm30
  have HH := hide hh
  have HEb := hide hEb
  have HDb := hide hDb
  have HE := hide hE
  have HD := hide hD
  have HN := hide hn
  clear hh hEb hDb hD hn
  go_enter Tryz.func101, Tryz.ntmps101
  go_wp2_with fail
  clear mk
  go_loopw [8, 11, 12, 21, 48, 51, 58] (fun nd _ _ i _ _ _ wr => ∃ k, k ≤ m ∧ i = .int .i64 (k : Nat) ∧ nd = .int .i64 (namedTo s k : Nat) ∧ KI s w w.heap.size m k k wr) (fun _ _ _ i _ _ _ _ => m - (intOf i).toNat)
  case atStart => exact ⟨0, Nat.zero_le _, rfl, rfl, fun i hi => by omega, clus_taken _, by rw [clus_row]; unfold rowAt rowTo; rw [Nat.sub_zero, List.nil_append], by simp, below_alloc2 w _ _⟩
  case round =>
    obtain ⟨k, hk, rfl, rfl, hI⟩ := hrel
    have hnd := namedTo_le s k
    by_cases hlt : k < m
    · obtain ⟨e, he⟩ : ∃ e, Ov.byteAt E k = e := ⟨_, rfl⟩
      have Hek : Hid (Ov.ent s k = e) := by rw [← unhide HEb k hlt]; exact he
      have he256 : e < 256 := by rw [← he]; exact Ov.byteAt_lt _ _
      have hkE : k < E.size := by rw [unhide HE]; exact hlt
      obtain ⟨v0, hv0⟩ := row_some hI (unhide HH) (by omega) (j := k * 9) (by omega)
      have rf := blk_frozen hI.row
      have tf := blk_frozen hI.tk
      have hvr : wr.cell? ⟨3, 0, none⟩ = some (.iface te pe) := (hI.below.cell (p := ⟨3, 0, none⟩) h3).trans hv
      by_cases he0 : e = 0
      · subst he0
        have HI := hide hI
        clear hI
        go_wp2_with fail
        go_roundw
        case rel => exact ⟨k + 1, by omega, by go_num, by rw [namedTo, if_pos (Or.inl (unhide Hek))]; rfl, (unhide HI).open hlt (unhide Hek)⟩
        case measure => simp [intOf]; omega
      by_cases he255 : e = 255
      · subst he255
        have HI := hide hI
        clear hI
        go_wp2_with fail
        go_roundw
        case rel => exact ⟨k + 1, by omega, by go_num, by rw [namedTo, if_pos (Or.inr (unhide Hek))]; rfl, (unhide HI).zero (unhide HH) hlt (unhide Hek)⟩
        case measure => simp [intOf]; omega
      have he1 : 1 ≤ e := by omega
      have he254 : e ≤ 254 := by omega
      have Hek1 : Hid (Ov.ent s k = e - 1 + 1) := by rw [unhide Hek]; show e = _; omega
      have hb0 : ((e : Int) == 0) = false := beq_eq_false_iff_ne.2 (by omega)
      have hb255 : ((e : Int) == 255) = false := beq_eq_false_iff_ne.2 (by omega)
      clear he0 he255 he256
      by_cases hgt : n < e
      · have hgb : decide ((n : Int) < (e : Int)) = true := decide_eq_true (by omega)
        have Hno : Hid (¬ Ov.goodTo s m) := fun hg => Ov.not_entOk_high (by rw [unhide Hek]; omega) (by rw [unhide Hek, unhide HN]; exact hgt) (hg k hlt)
        have HI := hide hI
        clear hI
        go_wp2_with fail
        go_quiet (fail)
        go_wp2_with fail
        go_ret3
        exact ⟨(unhide HI).below.trans (below_draws _ _ _), Or.inr ⟨unhide Hno, rfl⟩⟩
      have hgb : decide ((n : Int) < (e : Int)) = false := decide_eq_false (by omega)
      have tc := taken_cell hI (j := e - 1) (by omega)
      by_cases hus : 0 < Ov.usedAt s k (e - 1)
      · have hub : decide (0 < Ov.usedAt s k (e - 1)) = true := decide_eq_true hus
        have Hno : Hid (¬ Ov.goodTo s m) := fun hg => Ov.not_entOk_used (unhide Hek1) (by omega) hus (hg k hlt)
        have HI := hide hI
        rw [hub] at tc
        clear hI
        go_wp2_with fail
        go_quiet (fail)
        go_wp2_with fail
        go_ret3
        exact ⟨(unhide HI).below.trans (below_draws _ _ _), Or.inr ⟨unhide Hno, rfl⟩⟩
      have hub : decide (0 < Ov.usedAt s k (e - 1)) = false := decide_eq_false hus
      rw [hub] at tc
      have HI := hide hI
      have Hus := hide hus
      clear hI hus
      have b1 : (k : Int) < (m : Int) := by omega
      have b2 : (0 : Int) ≤ ((e : Int) - 1) * 8 := by omega
      have b3 : ((e : Int) - 1) * 8 ≤ (Dt.size : Int) := by have := unhide HD; omega
      have b4 : (0 : Int) ≤ (k : Int) := by omega
      have w1 : IntKind.i64.wrap ((e : Int) - 1) = (e : Int) - 1 := by simp [IntKind.wrap_i64]; omega
      have w2 : IntKind.i64.wrap (((e : Int) - 1) * 8) = ((e : Int) - 1) * 8 := by simp [IntKind.wrap_i64]; omega
      have w3 : (((e : Int) - 1) * 8).toNat = (e - 1) * 8 := by omega
      have hle8 : 8 ≤ (Dt.extract ((e - 1) * 8) Dt.size).size := by have := unhide HD; rw [ByteArray.size_extract]; omega
      have hfit : k * 9 + 1 + 8 ≤ ((rowAt s m k).set (k * 9) (.int .i64 2)).toArray.size := by
        have := rowAt_length (unhide HH) (by omega) (unhide HI).good (m := m); rw [List.size_toArray, List.length_set, this]; omega
      have Hle := hide hle8
      have Hfit := hide hfit
      clear hle8 hfit
      go_wp2_with fail
      go_region_law (refine step_copy_head rfl (.tmp 41) (.tmp 46) 103 9 rfl 5 Tryz.underlying103 (by kernel_rfl) (w.heap.size + 1) (k * 9 + 1) 8 8 (Dt.extract ((e - 1) * 8) Dt.size) (by simp [Act.eval, Act.put]) (by simp [Act.eval, Act.put]) _ 160 (by exact (unhide HI).kind) (unhide Hle) (unhide Hfit) ?_; intro w3 hr3 hg3 hs3)
      go_wp2_with fail
      go_roundw
      case rel =>
        refine ⟨k + 1, by omega, by go_num, ?_, (unhide HI).data rfl (unhide HH) hlt (unhide Hek1) (by rw [unhide HN]; omega) (unhide Hus) (by omega) ?_ hr3 hg3⟩
        · rw [namedTo, if_neg (by rw [unhide Hek]; omega)]; go_num
        · rw [unhide HDb e he1 (by omega) (by omega), show e - 1 + 1 = e from by omega]
      case measure => simp [intOf]; omega
    · obtain rfl : k = m := by omega
      have HI := hide hI
      clear hI
      go_wp2_with fail
      go_ret3
      exact ⟨(unhide HI).below, Or.inl ⟨(unhide HI).good, w.heap.size + 1, rfl, by omega, by have := (unhide HI).row; unfold rowAt at this; rw [Nat.sub_self, noneTo, List.append_nil] at this; exact this⟩⟩

end Go.Proofs.YtomiepknmmpflaaGreatDoor

namespace Go.Proofs.YtomiepknmmpflaaGreatDoor
open Go.RowKit Go.Joins

def sumUsed (s : ByteArray) (k : Nat) : Nat → Int
  | 0 => 0
  | j + 1 => sumUsed s k j + Ov.usedAt s k j
theorem sumUsed_same {s : ByteArray} {k : Nat} (j : Nat) (h : ∀ i, i < j → Ov.ent s k ≠ i + 1) : sumUsed s (k + 1) j = sumUsed s k j := by
  induction j with
  | zero => rfl
  | succ j ih => rw [sumUsed, sumUsed, ih (fun i hi => h i (by omega)), Ov.usedAt_succ, if_neg (h j (by omega))]
theorem sumUsed_more {s : ByteArray} {k e : Nat} (he : Ov.ent s k = e + 1) (hu : Ov.usedAt s k e = 0) (j : Nat) (hj : e < j) : sumUsed s (k + 1) j = sumUsed s k j + 1 := by
  induction j with
  | zero => omega
  | succ j ih =>
    rw [sumUsed, sumUsed]
    by_cases h : e = j
    · subst h
      rw [sumUsed_same e (fun i hi => by omega), Ov.usedAt_succ, if_pos he, hu]; omega
    · rw [ih (by omega), Ov.usedAt_succ, if_neg (by omega)]; omega
theorem sumUsed_named {s : ByteArray} (hd : Ov.datas s ≤ 60) (k : Nat) (hg : Ov.goodTo s k) : sumUsed s k (Ov.datas s) = namedTo s k := by
  induction k with
  | zero =>
    have : ∀ j, sumUsed s 0 j = 0 := by
      intro j
      induction j with
      | zero => rfl
      | succ j ih => rw [sumUsed, ih]; simp [Ov.usedAt]
    rw [this]; rfl
  | succ k ih =>
    have ih := ih (fun i hi => hg i (by omega))
    rw [namedTo]
    by_cases h : Ov.ent s k = 0 ∨ Ov.ent s k = 255
    · rw [if_pos h, sumUsed_same _ (fun i hi => by omega), ih]; omega
    · rw [if_neg h]
      rcases hg k (by omega) with h1 | h1 | ⟨h1, h2⟩
      · exact absurd (Or.inl h1) h
      · exact absurd (Or.inr h1) h
      · obtain ⟨e, he⟩ : ∃ e, Ov.ent s k = e + 1 := ⟨Ov.ent s k - 1, by omega⟩
        have hu : Ov.usedAt s k e = 0 := by
          rcases Ov.usedAt_01 s k e with h0 | h0
          · exact h0
          · obtain ⟨i, hi, hie⟩ := Ov.usedAt_pos.1 (show 0 < Ov.usedAt s k e by omega)
            exact absurd (hie.trans he.symm) (h2 i hi)
        rw [sumUsed_more he hu _ (by omega), ih]; omega
theorem lostTo_sum (s : ByteArray) (j : Nat) : Ov.lostTo s j = (j : Int) - sumUsed s (Ov.many s) j := by
  induction j with
  | zero => rfl
  | succ j ih => rw [Ov.lostTo, sumUsed, ih]; omega
theorem lost_eq {s : ByteArray} (hd : Ov.datas s ≤ 60) (hg : Ov.goodTo s (Ov.many s)) : Ov.lost s = (Ov.datas s : Int) - (namedTo s (Ov.many s) : Nat) := by
  rw [Ov.lost, lostTo_sum, sumUsed_named hd _ hg]

theorem byteAt_extract (s : ByteArray) (a b i : Nat) (h : a + i < b) : Ov.byteAt (s.extract a b) i = Ov.byteAt s (a + i) := by
  unfold Ov.byteAt
  rw [Lib.extract_data, List.getD_eq_getElem?_getD, List.getElem?_take, if_pos (by omega), List.getElem?_drop, List.getD_eq_getElem?_getD]
theorem block_bytes {s : ByteArray} (hh : Ov.headOk s) {e : Nat} (h1 : 1 ≤ e) (h2 : e ≤ Ov.datas s) (h255 : e ≠ 255) {D : ByteArray} (hD : D = s.extract (Ov.base s) (Ov.base s + Ov.datas s * 8)) :
    (D.extract ((e - 1) * 8) D.size).data.toList.take 8 = (Ov.blockOf s e).data.toList := by
  have hs := hh.2.2.2.2.2.2.2.2.2.2
  have hz : D.size = Ov.datas s * 8 := by rw [hD, ByteArray.size_extract]; omega
  rw [Ov.blockOf_data (by omega) h255, Lib.extract_data, Lib.extract_data, hz, hD, Lib.extract_data, List.drop_take, List.take_take, List.take_take, List.drop_drop]
  congr 1
  · omega
  · congr 1; omega

end Go.Proofs.YtomiepknmmpflaaGreatDoor

