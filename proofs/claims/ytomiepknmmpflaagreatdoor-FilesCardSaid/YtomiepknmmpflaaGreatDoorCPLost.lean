/- The program's clusters in memory: what parseClusters makes, row by row: plain, and a law on copy. -/
import Derived.Test.YtomiepknmmpflaaGreatDoorCPParse
import Derived.Test.YtomiepknmmpflaaGreatDoorCPDown
import Derived.Lib.BufferWrite
namespace Go.Proofs.YtomiepknmmpflaaGreatDoor
open Go.RowKit Go.Joins

/-- Eight bytes as cells. -/
def byteVals (l : List UInt8) : List Value := l.map fun b => .int .u8 (b.toNat : Int)
def zero8 : List Value := List.replicate 8 (.int .u8 0)
/-- The cells of a cluster: its kind, its bytes. -/
def clCells (s : ByteArray) (i : Nat) : List Value :=
  if Ov.ent s i = 0 then .int .i64 0 :: zero8 else if Ov.ent s i = 255 then .int .i64 1 :: zero8 else .int .i64 2 :: byteVals (Ov.blockOf s (Ov.ent s i)).data.toList
def clNone : List Value := .int .i64 0 :: zero8
/-- The row behind k entries. -/
def rowTo (s : ByteArray) : Nat → List Value
  | 0 => []
  | k + 1 => rowTo s k ++ clCells s k
def noneTo : Nat → List Value
  | 0 => []
  | k + 1 => clNone ++ noneTo k
def rowAt (s : ByteArray) (m k : Nat) : List Value := rowTo s k ++ noneTo (m - k)
/-- Which data clusters are taken. -/
def takenTo (s : ByteArray) (k : Nat) : List Value := (List.range 60).map fun j => .bool (decide (0 < Ov.usedAt s k j))
/-- How many entries name data. -/
def namedTo (s : ByteArray) : Nat → Nat
  | 0 => 0
  | k + 1 => namedTo s k + if Ov.ent s k = 0 ∨ Ov.ent s k = 255 then 0 else 1
theorem namedTo_le (s : ByteArray) (k : Nat) : namedTo s k ≤ k := by
  induction k with
  | zero => simp [namedTo]
  | succ k ih => simp only [namedTo]; split <;> omega
theorem zero8_length : zero8.length = 8 := rfl
theorem noneTo_length (k : Nat) : (noneTo k).length = k * 9 := by
  induction k with
  | zero => rfl
  | succ k ih => simp [noneTo, clNone, zero8_length, ih]; omega
theorem noneTo_succ {m k : Nat} (h : k < m) : noneTo (m - k) = clNone ++ noneTo (m - (k + 1)) := by
  rw [show m - k = m - (k + 1) + 1 from by omega]; rfl

/-- copy of the first bytes of a text into a row. -/
theorem run_copy_head {P : Program} (w : World) (dT sT ty elem : TypeId) (g o dLen dCap : Nat) (s : ByteArray) (cur : Array Value) (t : TypeId)
    (hu : P.underlying dT = some (.slice elem)) (hs : (P.info? elem).map (·.size) = some 1) (hg : w.heap[g]? = some (.cells cur t (0, 0))) (hle : dLen ≤ s.size) (hfit : o + dLen ≤ cur.size) :
    (Builtin.copy_ #[dT, sT] ty #[.slice (some ⟨g, o, none⟩) dLen dCap, .string s]).run P w =
      .ok (goInt dLen) (w.setRow g (cur.toList.take o ++ byteVals (s.data.toList.take dLen) ++ cur.toList.drop (o + dLen)).toArray) := by
  have hlen : (byteVals (s.data.toList.take dLen)).length = dLen := by
    have : s.data.toList.length = s.size := by simp
    simp [byteVals]; omega
  have h1 : ∀ v ∈ byteVals (s.data.toList.take dLen), v.oneCell' = true := by
    intro v hv
    unfold byteVals at hv
    rw [List.mem_map] at hv
    obtain ⟨b, _, rfl⟩ := hv
    rfl
  have hst := run_storeCells_at P g o t (byteVals (s.data.toList.take dLen)) 0 cur w hg (by rw [hlen]; simpa using hfit) h1
  have hmin : Nat.min s.size dLen = dLen := Nat.min_eq_right hle
  rw [hlen] at hst
  simp only [Nat.add_zero] at hst
  have htk : List.take dLen (List.map (fun b : UInt8 => Value.int IntKind.u8 (b.toNat : Int)) s.data.toList) = byteVals (s.data.toList.take dLen) := by
    unfold byteVals; rw [List.map_take]
  cases hq : P.info? elem with
  | none => simp [hq] at hs
  | some i =>
    simp [Builtin.copy_, run_underlying hu, Builtin.lenOf, Builtin.firstCells, sizeOf, typeInfo, hq, hmin]
    rw [htk, hst]
    simp [Result.andThen]
/-- The same as one step of a region that draws its order. -/
theorem step_copy_head {P : Program} {ops : Array Oper} {o : Oper} {a : Act} {w : World} {K : Act → World → Prop} {Q : Exit → Act → World → Prop} {E : Prop} (hgd : o.guard = none) (d x : Operand) (dT sT : TypeId)
    (ho : o.op = .call { callee := .builtin .copy, args := #[d, x], argTypes := #[dT, sT] }) (elem : TypeId) (hu : P.underlying dT = some (.slice elem)) (hsz : (P.info? elem).map (·.size) = some 1)
    (g off dLen dCap : Nat) (s : ByteArray) (hd : a.eval d = .slice (some ⟨g, off, none⟩) dLen dCap) (hx : a.eval x = .string s) (cur : Array Value) (t : TypeId) (hg : w.heap[g]? = some (.cells cur t (0, 0))) (hle : dLen ≤ s.size) (hfit : off + dLen ≤ cur.size)
    (h : ∀ w', w'.heap[g]? = some (.cells (cur.toList.take off ++ byteVals (s.data.toList.take dLen) ++ cur.toList.drop (off + dLen)).toArray t (0, 0)) → w.grownBy w' (some g) → w'.heap.size = w.heap.size → K (a.put o.dst (goInt dLen)) w') :
    if Region.wanted o (yielded ops a.tmps) = true then Oper.wp P o a w K Q else E := by
  have hw : Region.wanted o (yielded ops a.tmps) = true := by simp [Region.wanted, hgd]
  rw [if_pos hw]
  have hrun := run_copy_head (P := P) w dT sT o.type elem g off dLen dCap s cur t hu hsz hg hle hfit
  have hK := h _ (setRow_heap w g cur _ t _ hg) ⟨rfl, rfl, rfl, by simp, fun k _ hk => setRow_other w g k _ (fun e => hk (by simp [e]))⟩ (by simp)
  unfold Oper.wp
  simp only [execOp, ho, resolve, invoke, builtin, Sem.run_bind, Sem.run_pure, Result.andThen_ok, List.map_toArray, List.map_cons, List.map_nil, hd, hx, hrun]
  exact hK

theorem byteVals_length (l : List UInt8) : (byteVals l).length = l.length := by simp [byteVals]
theorem block_size {s : ByteArray} (hh : Ov.headOk s) {e : Nat} (h1 : 1 ≤ e) (h2 : e ≤ Ov.datas s) (h255 : e ≠ 255) : (Ov.blockOf s e).size = 8 := by
  rw [Ov.blockOf_data (by omega) h255, ByteArray.size_extract]
  have := hh.2.2.2.2.2.2.2.2.2.2
  omega
theorem cl_length {s : ByteArray} (hh : Ov.headOk s) {i : Nat} (hok : Ov.entOk s i) : (clCells s i).length = 9 := by
  unfold clCells
  split
  · rfl
  · split
    · rfl
    · rename_i h0 h255
      rcases hok with h | h | ⟨h, _⟩
      · exact absurd h h0
      · exact absurd h h255
      · have := block_size hh (by omega) h h255
        rw [List.length_cons, byteVals_length]
        simpa using this
theorem rowTo_length {s : ByteArray} (hh : Ov.headOk s) {k : Nat} (hg : Ov.goodTo s k) : (rowTo s k).length = k * 9 := by
  induction k with
  | zero => rfl
  | succ k ih =>
    rw [rowTo, List.length_append, ih (fun i hi => hg i (by omega)), cl_length hh (hg k (by omega))]; omega
theorem rowAt_length {s : ByteArray} (hh : Ov.headOk s) {m k : Nat} (hk : k ≤ m) (hg : Ov.goodTo s k) : (rowAt s m k).length = m * 9 := by
  unfold rowAt; rw [List.length_append, rowTo_length hh hg, noneTo_length]; omega
theorem rowAt_split {s : ByteArray} {m k : Nat} (hk : k < m) : rowAt s m k = rowTo s k ++ (clNone ++ noneTo (m - (k + 1))) := by
  unfold rowAt; rw [noneTo_succ hk]
theorem rowAt_succ (s : ByteArray) (m k : Nat) : rowAt s m (k + 1) = rowTo s k ++ (clCells s k ++ noneTo (m - (k + 1))) := by
  unfold rowAt; rw [rowTo, List.append_assoc]
theorem rowAt_open {s : ByteArray} {m k : Nat} (hk : k < m) (he : Ov.ent s k = 0) : rowAt s m (k + 1) = rowAt s m k := by
  rw [rowAt_succ, rowAt_split hk]
  have : clCells s k = clNone := by unfold clCells; rw [if_pos he]; rfl
  rw [this]
theorem rowAt_zero {s : ByteArray} (hh : Ov.headOk s) {m k : Nat} (hk : k < m) (hg : Ov.goodTo s k) (he : Ov.ent s k = 255) : rowAt s m (k + 1) = (rowAt s m k).set (k * 9) (.int .i64 1) := by
  rw [rowAt_succ, rowAt_split hk]
  have hl := rowTo_length hh hg
  have : clCells s k = .int .i64 1 :: zero8 := by unfold clCells; rw [if_neg (by omega), if_pos he]
  rw [this, List.set_append_right _ _ (by omega), hl, Nat.sub_self]
  rfl
theorem rowAt_data {s : ByteArray} (hh : Ov.headOk s) {m k : Nat} (hk : k < m) (hg : Ov.goodTo s k) (h0 : Ov.ent s k ≠ 0) (h255 : Ov.ent s k ≠ 255) {B : List UInt8} (hB : B = (Ov.blockOf s (Ov.ent s k)).data.toList) :
    rowAt s m (k + 1) = ((rowAt s m k).set (k * 9) (.int .i64 2)).take (k * 9 + 1) ++ byteVals B ++ ((rowAt s m k).set (k * 9) (.int .i64 2)).drop (k * 9 + 1 + 8) := by
  rw [rowAt_succ, rowAt_split hk]
  have hl := rowTo_length hh hg
  have e1 : clCells s k = .int .i64 2 :: byteVals B := by unfold clCells; rw [if_neg h0, if_neg h255, hB]
  have e2 : (rowTo s k ++ (clNone ++ noneTo (m - (k + 1)))).set (k * 9) (.int .i64 2) = rowTo s k ++ ((.int .i64 2 :: zero8) ++ noneTo (m - (k + 1))) := by
    rw [List.set_append_right _ _ (by omega), hl, Nat.sub_self]; rfl
  rw [e1, e2, List.take_append, List.drop_append, hl, List.take_of_length_le (by omega), List.drop_of_length_le (by omega)]
  rw [show k * 9 + 1 - k * 9 = 1 from by omega, show k * 9 + 1 + 8 - k * 9 = 9 from by omega]
  simp [zero8]
theorem takenTo_getElem (s : ByteArray) (k j : Nat) (hj : j < 60) : (takenTo s k)[j]? = some (.bool (decide (0 < Ov.usedAt s k j))) := by simp [takenTo, hj]
theorem takenTo_length (s : ByteArray) (k : Nat) : (takenTo s k).length = 60 := by simp [takenTo]
theorem takenTo_same {s : ByteArray} {k : Nat} (h : Ov.ent s k = 0 ∨ 60 < Ov.ent s k) : takenTo s (k + 1) = takenTo s k := by
  unfold takenTo
  refine List.map_congr_left fun j hj => ?_
  have : j < 60 := by simpa using hj
  rw [Ov.usedAt_succ, if_neg (by omega)]
theorem takenTo_set {s : ByteArray} {k e : Nat} (h : Ov.ent s k = e + 1) : takenTo s (k + 1) = (takenTo s k).set e (.bool true) := by
  unfold takenTo
  refine List.ext_getElem (by simp) fun j h1 h2 => ?_
  rw [List.getElem_set]
  simp only [List.getElem_map, List.getElem_range]
  rw [Ov.usedAt_succ]
  by_cases hj : e = j
  · rw [if_pos hj, if_pos (by omega)]; rfl
  · rw [if_neg hj, if_neg (by omega)]

end Go.Proofs.YtomiepknmmpflaaGreatDoor

/- Plain: how many clusters are lost; what parseImage hands to parseClusters. -/
namespace Go.Proofs.YtomiepknmmpflaaGreatDoor
open Go.RowKit Go.Joins

def sumUsed (s : ByteArray) (k : Nat) : Nat → Int
  | 0 => 0
  | j + 1 => sumUsed s k j + Ov.usedAt s k j
theorem sumUsed_same {s : ByteArray} {k : Nat} (j : Nat) (h : ∀ i, i < j → Ov.ent s k ≠ i + 1) : sumUsed s (k + 1) j = sumUsed s k j := by
  induction j with
  | zero => rfl
  | succ j ih => rw [sumUsed, sumUsed, ih (fun i hi => h i (by omega)), Ov.usedAt_succ, if_neg (h j (by omega))]
theorem sumUsed_more {s : ByteArray} {k e : Nat} (he : Ov.ent s k = e + 1) (hu : Ov.usedAt s k e = 0) (j : Nat) (hj : e < j) : sumUsed s (k + 1) j = sumUsed s k j + 1 := by
  induction j with
  | zero => omega
  | succ j ih =>
    rw [sumUsed, sumUsed]
    by_cases h : e = j
    · subst h
      rw [sumUsed_same e (fun i hi => by omega), Ov.usedAt_succ, if_pos he, hu]; omega
    · rw [ih (by omega), Ov.usedAt_succ, if_neg (by omega)]; omega
theorem sumUsed_named {s : ByteArray} (hd : Ov.datas s ≤ 60) (k : Nat) (hg : Ov.goodTo s k) : sumUsed s k (Ov.datas s) = namedTo s k := by
  induction k with
  | zero =>
    have : ∀ j, sumUsed s 0 j = 0 := by
      intro j
      induction j with
      | zero => rfl
      | succ j ih => rw [sumUsed, ih]; simp [Ov.usedAt]
    rw [this]; rfl
  | succ k ih =>
    have ih := ih (fun i hi => hg i (by omega))
    rw [namedTo]
    by_cases h : Ov.ent s k = 0 ∨ Ov.ent s k = 255
    · rw [if_pos h, sumUsed_same _ (fun i hi => by omega), ih]; omega
    · rw [if_neg h]
      rcases hg k (by omega) with h1 | h1 | ⟨h1, h2⟩
      · exact absurd (Or.inl h1) h
      · exact absurd (Or.inr h1) h
      · obtain ⟨e, he⟩ : ∃ e, Ov.ent s k = e + 1 := ⟨Ov.ent s k - 1, by omega⟩
        have hu : Ov.usedAt s k e = 0 := by
          rcases Ov.usedAt_01 s k e with h0 | h0
          · exact h0
          · obtain ⟨i, hi, hie⟩ := Ov.usedAt_pos.1 (show 0 < Ov.usedAt s k e by omega)
            exact absurd (hie.trans he.symm) (h2 i hi)
        rw [sumUsed_more he hu _ (by omega), ih]; omega
theorem lostTo_sum (s : ByteArray) (j : Nat) : Ov.lostTo s j = (j : Int) - sumUsed s (Ov.many s) j := by
  induction j with
  | zero => rfl
  | succ j ih => rw [Ov.lostTo, sumUsed, ih]; omega
theorem lost_eq {s : ByteArray} (hd : Ov.datas s ≤ 60) (hg : Ov.goodTo s (Ov.many s)) : Ov.lost s = (Ov.datas s : Int) - (namedTo s (Ov.many s) : Nat) := by
  rw [Ov.lost, lostTo_sum, sumUsed_named hd _ hg]

theorem byteAt_extract (s : ByteArray) (a b i : Nat) (h : a + i < b) : Ov.byteAt (s.extract a b) i = Ov.byteAt s (a + i) := by
  unfold Ov.byteAt
  rw [Lib.extract_data, List.getD_eq_getElem?_getD, List.getElem?_take, if_pos (by omega), List.getElem?_drop, List.getD_eq_getElem?_getD]
theorem block_bytes {s : ByteArray} (hh : Ov.headOk s) {e : Nat} (h1 : 1 ≤ e) (h2 : e ≤ Ov.datas s) (h255 : e ≠ 255) {D : ByteArray} (hD : D = s.extract (Ov.base s) (Ov.base s + Ov.datas s * 8)) :
    (D.extract ((e - 1) * 8) D.size).data.toList.take 8 = (Ov.blockOf s e).data.toList := by
  have hs := hh.2.2.2.2.2.2.2.2.2.2
  have hz : D.size = Ov.datas s * 8 := by rw [hD, ByteArray.size_extract]; omega
  rw [Ov.blockOf_data (by omega) h255, Lib.extract_data, Lib.extract_data, hz, hD, Lib.extract_data, List.drop_take, List.take_take, List.take_take, List.drop_drop]
  congr 1
  · omega
  · congr 1; omega

end Go.Proofs.YtomiepknmmpflaaGreatDoor
