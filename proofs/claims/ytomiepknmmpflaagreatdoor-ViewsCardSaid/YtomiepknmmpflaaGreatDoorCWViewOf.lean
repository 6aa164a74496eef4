/- A chain's view as the program works it out: from the bottom up. -/
import Derived.Test.YtomiepknmmpflaaGreatDoorCWViewOver
import Derived.Test.YtomiepknmmpflaaGreatDoorCWBackward
namespace Go.Proofs.YtomiepknmmpflaaGreatDoor
open Go.RowKit Go.Joins

/-- The program's kinds and bytes of a file's clusters. -/
def qOf (s : ByteArray) (k : Nat) : Int := if Ov.ent s k = 0 then 0 else if Ov.ent s k = 255 then 1 else 2
def dOf (s : ByteArray) (k : Nat) : Eight := fun j => if Ov.ent s k = 0 ∨ Ov.ent s k = 255 then 0 else Ov.byteAt (Ov.blockOf s (Ov.ent s k)) j
theorem qOf_known (s : ByteArray) (k : Nat) : qOf s k = 0 ∨ qOf s k = 1 ∨ qOf s k = 2 := by
  unfold qOf
  split
  · exact Or.inl rfl
  · split
    · exact Or.inr (Or.inl rfl)
    · exact Or.inr (Or.inr rfl)
theorem rowTo_prefix (s : ByteArray) {k n : Nat} (h : k ≤ n) : ∃ q, rowTo s n = rowTo s k ++ q := by
  induction n with
  | zero => obtain rfl : k = 0 := by omega
            exact ⟨[], by simp⟩
  | succ n ih =>
    by_cases e : k = n + 1
    · subst e; exact ⟨[], by simp⟩
    · obtain ⟨q, hq⟩ := ih (by omega)
      exact ⟨q ++ clCells s n, by rw [rowTo, hq, List.append_assoc]⟩
theorem rowTo_cell {s : ByteArray} (hi : Ov.isImage s) {k j : Nat} (hk : k < Ov.many s) (hj : j < 9) : (rowTo s (Ov.many s))[k * 9 + j]? = (clCells s k)[j]? := by
  obtain ⟨q, hq⟩ := rowTo_prefix s (k := k + 1) (n := Ov.many s) (by omega)
  have h1 := rowTo_length hi.1 (k := k) (fun i h => hi.2 i (by omega))
  have h2 := rowTo_length hi.1 (k := k + 1) (fun i h => hi.2 i (by omega))
  rw [hq, List.getElem?_append_left (by omega), rowTo, List.getElem?_append_right (by omega), h1, show k * 9 + j - k * 9 = j from by omega]
theorem byteVals_at {l : List UInt8} {j : Nat} (h : j < l.length) : (byteVals l)[j]? = some (.int .u8 ((l.getD j 0).toNat : Nat)) := by
  unfold byteVals
  rw [List.getElem?_map, List.getD_eq_getElem?_getD, List.getElem?_eq_getElem h]
  rfl
theorem clCells_kind (s : ByteArray) (k : Nat) : (clCells s k)[0]? = some (.int .i64 (qOf s k)) := by
  unfold clCells qOf
  split
  · rfl
  · split <;> rfl
theorem zero8_at {j : Nat} (h : j < 8) : zero8[j]? = some (.int .u8 ((0 : Nat) : Int)) := by
  unfold zero8
  rw [List.getElem?_replicate, if_pos h]; rfl
theorem clCells_byte {s : ByteArray} (hi : Ov.isImage s) {k j : Nat} (hk : k < Ov.many s) (hj : j < 8) : (clCells s k)[j + 1]? = some (.int .u8 (dOf s k j : Nat)) := by
  unfold clCells dOf
  by_cases h0 : Ov.ent s k = 0
  · rw [if_pos h0, if_pos (Or.inl h0), List.getElem?_cons_succ]; exact zero8_at hj
  · rw [if_neg h0]
    by_cases h255 : Ov.ent s k = 255
    · rw [if_pos h255, if_pos (Or.inr h255), List.getElem?_cons_succ]; exact zero8_at hj
    · rw [if_neg h255, if_neg (by omega), List.getElem?_cons_succ]
      have hb : (Ov.blockOf s (Ov.ent s k)).size = 8 := data_size hi hk (Ov.kindOf_data h0 h255)
      rw [byteVals_at (by have : (Ov.blockOf s (Ov.ent s k)).data.toList.length = (Ov.blockOf s (Ov.ent s k)).size := rfl
                          omega)]
      rfl
/-- The clusters of a file lie in memory. -/
theorem cl_of {w : World} {g : Nat} {s : ByteArray} (hi : Ov.isImage s) (hg : w.heap[g]? = some (.cells (rowTo s (Ov.many s)).toArray 160 (0, 0))) : Cl w g (Ov.many s) (qOf s) (dOf s) := by
  refine ⟨fun k hk => ?_, fun k hk j hj => ?_, blk_lt hg⟩
  · have := rowTo_cell hi hk (j := 0) (by omega)
    rw [Nat.add_zero] at this
    exact blk_cell hg (by rw [List.getElem?_toArray, this]; exact clCells_kind s k)
  · exact blk_cell hg (by rw [List.getElem?_toArray, rowTo_cell hi hk (by omega)]; exact clCells_byte hi hk hj)

/- The views of a chain's lower parts. -/
def fOf (l : Ov.Files) (y : ByteArray) : ByteArray := Ov.fileAt l (Ov.place l y)
def sufN (l : Ov.Files) (ns : List ByteArray) (k : Nat) : Nat := if k = 0 then 0 else Ov.many (fOf l (ns.getD (ns.length - k) ⟨#[]⟩))
def sufV (l : Ov.Files) (ns : List ByteArray) (k : Nat) : Nat → Nat := Ov.atTo l (ns.drop (ns.length - k))
theorem atTo_over {l : Ov.Files} {rest : List ByteArray} {y : ByteArray} {nl i : Nat} (hz : nl ≤ i / 8 → Ov.atTo l rest i = 0) (hi : i / 8 < Ov.many (fOf l y)) : overV (qOf (fOf l y)) (dOf (fOf l y)) nl (Ov.atTo l rest) i = Ov.atTo l (y :: rest) i := by
  rw [Ov.atTo_cons, show Ov.fileAt l (Ov.place l y) = fOf l y from rfl, if_neg (by omega)]
  unfold overV
  by_cases h0 : Ov.ent (fOf l y) (i / 8) = 0
  · have hk : Ov.kindOf (Ov.ent (fOf l y) (i / 8)) = 0 := by unfold Ov.kindOf; rw [if_pos h0]
    have hq : qOf (fOf l y) (i / 8) = 0 := by unfold qOf; rw [if_pos h0]
    rw [hk, hq, if_neg (show ¬ (0 : Int) = 255 by decide), if_neg (show ¬ (0 : Int) = 1 by decide), if_neg (show ¬ (0 : Int) = 2 by decide), if_neg (show ¬ (0 : Int) = 1 by decide)]
    by_cases hn : i / 8 < nl
    · rw [if_pos hn]
    · rw [if_neg hn]; exact (hz (by omega)).symm
  · by_cases h255 : Ov.ent (fOf l y) (i / 8) = 255
    · have hk : Ov.kindOf (Ov.ent (fOf l y) (i / 8)) = 255 := by unfold Ov.kindOf; rw [if_neg h0, if_pos h255]
      have hq : qOf (fOf l y) (i / 8) = 1 := by unfold qOf; rw [if_neg h0, if_pos h255]
      rw [hk, hq, if_pos rfl, if_pos rfl]
    · have hk := Ov.kindOf_data h0 h255
      have hq : qOf (fOf l y) (i / 8) = 2 := by unfold qOf; rw [if_neg h0, if_neg h255]
      rw [hk, hq, if_neg (by decide), if_pos rfl, if_neg (by decide), if_pos rfl]
      unfold dOf
      rw [if_neg (by omega)]
theorem atTo_nil (l : Ov.Files) (i : Nat) : Ov.atTo l [] i = 0 := rfl
theorem suf_zero (l : Ov.Files) (ns : List ByteArray) {k i : Nat} (hk : k ≤ ns.length) (h : sufN l ns k ≤ i / 8) : sufV l ns k i = 0 := by
  unfold sufV
  by_cases h0 : k = 0
  · subst h0; rw [Nat.sub_zero, List.drop_length]; rfl
  · unfold sufN at h
    rw [if_neg h0] at h
    have hlt : ns.length - k < ns.length := by omega
    rw [List.drop_eq_getElem_cons hlt, Ov.atTo_cons, if_pos]
    rw [List.getD_eq_getElem?_getD, List.getElem?_eq_getElem hlt] at h
    exact h
/-- One image more. -/
theorem suf_step (l : Ov.Files) (ns : List ByteArray) {k p i : Nat} {y : ByteArray} (hk : k < ns.length) (hp : p = ns.length - 1 - k) (hy : ns.getD p ⟨#[]⟩ = y) (hi : i < 8 * Ov.many (fOf l y)) : overV (qOf (fOf l y)) (dOf (fOf l y)) (sufN l ns k) (sufV l ns k) i = sufV l ns (k + 1) i := by
  have hlt : ns.length - (k + 1) < ns.length := by omega
  have e : ns.drop (ns.length - (k + 1)) = y :: ns.drop (ns.length - k) := by
    rw [List.drop_eq_getElem_cons hlt]
    have h1 : ns.length - (k + 1) + 1 = ns.length - k := by omega
    have h2 : ns[ns.length - (k + 1)] = y := by
      have hpe : p = ns.length - (k + 1) := by omega
      rw [← hy, hpe, List.getD_eq_getElem?_getD, List.getElem?_eq_getElem hlt]
      rfl
    rw [h1, h2]
  unfold sufV
  rw [e]
  exact atTo_over (fun h => suf_zero l ns (by omega) h) (by omega)
theorem sufN_succ (l : Ov.Files) (ns : List ByteArray) {k p : Nat} {y : ByteArray} (hp : p = ns.length - 1 - k) (hy : ns.getD p ⟨#[]⟩ = y) : sufN l ns (k + 1) = Ov.many (fOf l y) := by
  unfold sufN
  rw [if_neg (by omega), show ns.length - (k + 1) = p from by omega, hy]

end Go.Proofs.YtomiepknmmpflaaGreatDoor

/- Clusters in memory as one row: kinds and bytes by functions; one cluster turned. -/
namespace Go.Proofs.YtomiepknmmpflaaGreatDoor
open Go.RowKit Go.Joins

def clCell (q : Nat → Int) (d : Nat → Eight) (i : Nat) : Value := if i % 9 = 0 then .int .i64 (q (i / 9)) else .int .u8 (d (i / 9) (i % 9 - 1) : Nat)
def clRow (q : Nat → Int) (d : Nat → Eight) (m : Nat) : List Value := (List.range (m * 9)).map (clCell q d)
theorem clRow_length (q : Nat → Int) (d : Nat → Eight) (m : Nat) : (clRow q d m).length = m * 9 := by simp [clRow]
theorem clRow_get {q : Nat → Int} {d : Nat → Eight} {m i : Nat} (h : i < m * 9) : (clRow q d m)[i]? = some (clCell q d i) := by simp [clRow, h]
theorem clCell_kind (q : Nat → Int) (d : Nat → Eight) (k : Nat) : clCell q d (k * 9) = .int .i64 (q k) := by
  unfold clCell; rw [if_pos (by omega), show k * 9 / 9 = k from by omega]
theorem clCell_byte (q : Nat → Int) (d : Nat → Eight) (k : Nat) {j : Nat} (hj : j < 8) : clCell q d (k * 9 + (j + 1)) = .int .u8 (d k j : Nat) := by
  unfold clCell; rw [if_neg (by omega), show (k * 9 + (j + 1)) / 9 = k from by omega, show (k * 9 + (j + 1)) % 9 - 1 = j from by omega]
theorem clCell_congr {q q' : Nat → Int} {d d' : Nat → Eight} {i : Nat} (hq : q (i / 9) = q' (i / 9)) (hd : ∀ j, j < 8 → d (i / 9) j = d' (i / 9) j) : clCell q d i = clCell q' d' i := by
  unfold clCell
  rw [hq]
  split
  · rfl
  · rw [hd _ (by omega)]
theorem clRow_congr {q q' : Nat → Int} {d d' : Nat → Eight} {m : Nat} (hq : ∀ k, k < m → q k = q' k) (hd : ∀ k, k < m → ∀ j, j < 8 → d k j = d' k j) : clRow q d m = clRow q' d' m := by
  unfold clRow
  refine List.map_congr_left fun i hi => ?_
  have hi' : i < m * 9 := by simpa using hi
  exact clCell_congr (hq _ (by omega)) (hd _ (by omega))
theorem cl_row {w : World} {g m : Nat} {q : Nat → Int} {d : Nat → Eight} (hg : w.heap[g]? = some (.cells (clRow q d m).toArray 160 (0, 0))) : Cl w g m q d :=
  ⟨fun k hk => blk_cell hg (by rw [List.getElem?_toArray, clRow_get (by omega), clCell_kind]), fun k hk j hj => blk_cell hg (by rw [List.getElem?_toArray, clRow_get (by omega), clCell_byte q d k hj]), blk_lt hg⟩
/-- A file's clusters are such a row. -/
theorem rowTo_row {s : ByteArray} (hi : Ov.isImage s) : rowTo s (Ov.many s) = clRow (qOf s) (dOf s) (Ov.many s) := by
  have hl := rowTo_length hi.1 (k := Ov.many s) hi.2
  refine List.ext_getElem? fun i => ?_
  by_cases h : i < Ov.many s * 9
  · rw [clRow_get h]
    have hk : i / 9 < Ov.many s := by omega
    have hc := rowTo_cell hi hk (j := i % 9) (by omega)
    rw [show i / 9 * 9 + i % 9 = i from by omega] at hc
    rw [hc]
    unfold clCell
    by_cases h0 : i % 9 = 0
    · rw [if_pos h0, h0]; exact clCells_kind s _
    · rw [if_neg h0]
      have := clCells_byte hi hk (j := i % 9 - 1) (by omega)
      rw [show i % 9 - 1 + 1 = i % 9 from by omega] at this
      exact this
  · rw [List.getElem?_eq_none (by omega), List.getElem?_eq_none (by rw [clRow_length]; omega)]
/-- One cluster turned. -/
def upQ (q : Nat → Int) (n : Nat) (x : Int) : Nat → Int := fun i => if i = n then x else q i
def upD (d : Nat → Eight) (n : Nat) (e : Eight) : Nat → Eight := fun i => if i = n then e else d i
theorem up_other {q : Nat → Int} {d : Nat → Eight} {n i : Nat} {x : Int} {e : Eight} (h : i / 9 ≠ n) : clCell (upQ q n x) (upD d n e) i = clCell q d i := clCell_congr (by unfold upQ; rw [if_neg h]) (fun j _ => by unfold upD; rw [if_neg h])
/-- By its kind and a copy of its bytes. -/
theorem clRow_copy {q : Nat → Int} {d : Nat → Eight} {m n : Nat} {x : Int} {e : Eight} (hn : n < m) : ((clRow q d m).set (n * 9) (.int .i64 x)).take (n * 9 + 1) ++ blkCells e ++ ((clRow q d m).set (n * 9) (.int .i64 x)).drop (n * 9 + 1 + 8) = clRow (upQ q n x) (upD d n e) m := by
  have hl : ((clRow q d m).set (n * 9) (.int .i64 x)).length = m * 9 := by rw [List.length_set, clRow_length]
  have h1 : (((clRow q d m).set (n * 9) (.int .i64 x)).take (n * 9 + 1)).length = n * 9 + 1 := by rw [List.length_take, hl]; omega
  refine List.ext_getElem? fun i => ?_
  by_cases hi : i < m * 9
  · rw [clRow_get hi, List.append_assoc]
    by_cases ha : i < n * 9 + 1
    · rw [List.getElem?_append_left (by omega), List.getElem?_take, if_pos ha, List.getElem?_set]
      by_cases hb : n * 9 = i
      · subst hb
        rw [if_pos rfl, if_pos (by rw [clRow_length]; omega), clCell_kind]
        unfold upQ; rw [if_pos rfl]
      · rw [if_neg hb, clRow_get hi, up_other (by omega)]
    · rw [List.getElem?_append_right (by omega), h1]
      by_cases hc : i < n * 9 + 9
      · rw [List.getElem?_append_left (by rw [blkCells_length]; omega)]
        obtain ⟨j, rfl⟩ : ∃ j, i = n * 9 + (j + 1) := ⟨i - n * 9 - 1, by omega⟩
        rw [clCell_byte _ _ _ (by omega), show n * 9 + (j + 1) - (n * 9 + 1) = j from by omega]
        have hu : upD d n e n j = e j := by unfold upD; rw [if_pos rfl]
        rw [hu]
        match j, (show j < 8 by omega) with
        | 0, _ => rfl
        | 1, _ => rfl
        | 2, _ => rfl
        | 3, _ => rfl
        | 4, _ => rfl
        | 5, _ => rfl
        | 6, _ => rfl
        | 7, _ => rfl
      · rw [List.getElem?_append_right (by rw [blkCells_length]; omega), blkCells_length, List.getElem?_drop, show n * 9 + 1 + 8 + (i - (n * 9 + 1) - 8) = i from by omega, List.getElem?_set, if_neg (by omega), clRow_get hi, up_other (by omega)]
  · rw [List.getElem?_eq_none (by rw [List.length_append, List.length_append, h1, blkCells_length, List.length_drop, hl]; omega), List.getElem?_eq_none (by rw [clRow_length]; omega)]
/-- By nine stores. -/
theorem clRow_nine {q : Nat → Int} {d : Nat → Eight} {m n : Nat} {x : Int} : (((((((((clRow q d m).set (n * 9) (.int .i64 x)).set (n * 9 + 1) (.int .u8 0)).set (n * 9 + 2) (.int .u8 0)).set (n * 9 + 3) (.int .u8 0)).set (n * 9 + 4) (.int .u8 0)).set (n * 9 + 5) (.int .u8 0)).set (n * 9 + 6) (.int .u8 0)).set (n * 9 + 7) (.int .u8 0)).set (n * 9 + 8) (.int .u8 0) = clRow (upQ q n x) (upD d n fun _ => 0) m := by
  refine List.ext_getElem? fun i => ?_
  by_cases hi : i < m * 9
  · have hb : ∀ j, j < 8 → clCell (upQ q n x) (upD d n fun _ => 0) (n * 9 + (j + 1)) = .int .u8 0 := fun j hj => by
      rw [clCell_byte _ _ _ hj]; unfold upD; rw [if_pos rfl]; rfl
    have hk : clCell (upQ q n x) (upD d n fun _ => 0) (n * 9) = .int .i64 x := by rw [clCell_kind]; unfold upQ; rw [if_pos rfl]
    rw [clRow_get hi]
    simp only [List.getElem?_set, List.length_set, clRow_length]
    by_cases h8 : n * 9 + 8 = i
    · subst h8; rw [if_pos rfl, if_pos hi]; exact congrArg some (hb 7 (by omega)).symm
    rw [if_neg h8]
    by_cases h7 : n * 9 + 7 = i
    · subst h7; rw [if_pos rfl, if_pos hi]; exact congrArg some (hb 6 (by omega)).symm
    rw [if_neg h7]
    by_cases h6 : n * 9 + 6 = i
    · subst h6; rw [if_pos rfl, if_pos hi]; exact congrArg some (hb 5 (by omega)).symm
    rw [if_neg h6]
    by_cases h5 : n * 9 + 5 = i
    · subst h5; rw [if_pos rfl, if_pos hi]; exact congrArg some (hb 4 (by omega)).symm
    rw [if_neg h5]
    by_cases h4 : n * 9 + 4 = i
    · subst h4; rw [if_pos rfl, if_pos hi]; exact congrArg some (hb 3 (by omega)).symm
    rw [if_neg h4]
    by_cases h3 : n * 9 + 3 = i
    · subst h3; rw [if_pos rfl, if_pos hi]; exact congrArg some (hb 2 (by omega)).symm
    rw [if_neg h3]
    by_cases h2 : n * 9 + 2 = i
    · subst h2; rw [if_pos rfl, if_pos hi]; exact congrArg some (hb 1 (by omega)).symm
    rw [if_neg h2]
    by_cases h1 : n * 9 + 1 = i
    · subst h1; rw [if_pos rfl, if_pos hi]; exact congrArg some (hb 0 (by omega)).symm
    rw [if_neg h1]
    by_cases h0 : n * 9 = i
    · subst h0; rw [if_pos rfl, if_pos hi]; exact congrArg some hk.symm
    rw [if_neg h0, clRow_get hi, up_other (by omega)]
  · rw [List.getElem?_eq_none (by simp only [List.length_set, clRow_length]; omega), List.getElem?_eq_none (by rw [clRow_length]; omega)]

/-- copy out of a row of bytes into another block: one step of a region that draws its order. -/
theorem step_copy_slice {P : Program} {ops : Array Oper} {o : Oper} {a : Act} {w : World} {K : Act → World → Prop} {Q : Exit → Act → World → Prop} {E : Prop} (hgd : o.guard = none) (d x : Operand) (dT sT : TypeId)
    (ho : o.op = .call { callee := .builtin .copy, args := #[d, x], argTypes := #[dT, sT] }) (elem : TypeId) (hu : P.underlying dT = some (.slice elem)) (hsz : (P.info? elem).map (·.size) = some 1)
    (g off dLen dCap : Nat) (ad : Addr) (sLen sCap : Nat) (hd : a.eval d = .slice (some ⟨g, off, none⟩) dLen dCap) (hx : a.eval x = .slice (some ad) sLen sCap) (cur : List Value) (t : TypeId) (hg : w.heap[g]? = some (.cells cur.toArray t (0, 0))) (cs : List Value) (hn : cs.length = Nat.min sLen dLen)
    (hsrc : ∀ j v, cs[j]? = some v → w.cell? (ad.add j) = some v) (hfit : off + cs.length ≤ cur.length) (h1 : ∀ v ∈ cs, v.oneCell' = true)
    (h : ∀ w', w'.heap[g]? = some (.cells (cur.take off ++ cs ++ cur.drop (off + cs.length)).toArray t (0, 0)) → w.grownBy w' (some g) → w'.heap.size = w.heap.size → K (a.put o.dst (goInt cs.length)) w') :
    if Region.wanted o (yielded ops a.tmps) = true then Oper.wp P o a w K Q else E := by
  have hw : Region.wanted o (yielded ops a.tmps) = true := by simp [Region.wanted, hgd]
  rw [if_pos hw]
  have hrun := run_copy_row (P := P) w dT sT o.type elem g off dLen dCap ad sLen sCap cur.toArray t cs hu hsz hg hn hsrc (by simpa using hfit) h1
  have hK := h _ (setRow_heap w g cur.toArray _ t _ hg) ⟨rfl, rfl, rfl, by simp, fun k _ hk => setRow_other w g k _ (fun e => hk (by simp [e]))⟩ (by simp)
  unfold Oper.wp
  simp only [execOp, ho, resolve, invoke, builtin, Sem.run_bind, Sem.run_pure, Result.andThen_ok, List.map_toArray, List.map_cons, List.map_nil, hd, hx, hrun]
  exact hK

end Go.Proofs.YtomiepknmmpflaaGreatDoor

/- The program's viewOf. -/
namespace Go.Proofs.YtomiepknmmpflaaGreatDoor
open Go.RowKit Go.Joins Go.Shelf

attribute [local go_sem] Oper.semAt_some

/-- Between two rounds: the view of the chain's lower k images. -/
structure VO (w : World) (V : Nat) (l : Ov.Files) (ns : List ByteArray) (k : Nat) (W : World) : Prop where
  row : ∃ a c, Boxed W V 117 (.slice a (sufN l ns k) c) ∧ OwnsRun W 0 (.slice a (sufN l ns k) c) (sufN l ns k) (sufV l ns k)
  below : Below w.heap.size w W
theorem VO.own (w : World) (V : Nat) (l : Ov.Files) (ns : List ByteArray) (n : Nat) (hn : w.heap.size ≤ n) : OwnFrom n (VO w V l ns) := by
  intro k W W' row h hg hr
  obtain ⟨a, c, h1, h2⟩ := h.row
  refine ⟨⟨a, c, h1.kept hg (fun e => ?_), owns_grown h2 hg ?_⟩, h.below.grown hg h.below.size (fun r e => by have := (hr r e).1; omega)⟩
  · obtain ⟨_, o, ho, hc⟩ := hr V e.symm
    rw [show W.heap[V]? = _ from h1] at ho; cases ho; cases hc
  · by_cases hv : (Value.slice a (sufN l ns k) c).ownBlock = none
    · exact Or.inl hv
    · refine Or.inr fun e => ?_
      obtain ⟨g, hgq⟩ := Option.ne_none_iff_exists'.1 hv
      obtain ⟨cs, hcs⟩ := own_blk h2 hgq
      obtain ⟨_, o, ho, hc⟩ := hr g (by rw [← e]; exact hgq)
      rw [hcs] at ho; cases ho; cases hc
/-- A store into the variable. -/
theorem VO.set {w W2 : World} {V : Nat} {l : Ov.Files} {ns : List ByteArray} {k : Nat} {a a' : Option Addr} {n' c c' : Nat} (hV : w.heap.size ≤ V) (hv : Boxed W2 V 117 (.slice a (sufN l ns k) c)) (hb : Below w.heap.size w W2) (hn : n' = sufN l ns (k + 1)) (ho : OwnsRun W2 0 (.slice a' n' c') n' (sufV l ns (k + 1))) : VO w V l ns (k + 1) (W2.setCell ⟨V, 0, none⟩ (.slice a' n' c')) := by
  subst hn
  exact ⟨⟨a', c', hv.set _, owns_set ho (a := ⟨V, 0, none⟩) (hv.not_row (by decide) ho) _⟩, hb.setCell (p := ⟨V, 0, none⟩) hV _⟩

/-- What the chain holds at a place. -/
theorem lies_at {w : World} {cb : Nat} {l : Ov.Files} {L : Ims} {ns : List ByteArray} (h : Lies w cb l L) (hns : L.map Prod.fst = ns) {p : Nat} (hp : p < L.length) : ∃ y gp, ns.getD p ⟨#[]⟩ = y ∧ cb ≤ gp ∧ Ov.isImage (fOf l y) ∧ imAt L p = imOf (fOf l y) gp ∧ w.heap[gp]? = some (.cells (rowTo (fOf l y) (Ov.many (fOf l y))).toArray 160 (0, 0)) := by
  have hm : L[p] ∈ L := List.getElem_mem hp
  obtain ⟨h0, h1, h2, h3⟩ := h _ hm
  refine ⟨L[p].1, L[p].2.g, ?_, h0, h1, ?_, h3⟩
  · rw [← hns]; simp [hp]
  · have : imAt L p = L[p].2 := by simp [imAt, hp]
    rw [this]; exact h2

set_option maxRecDepth 100000 in
set_option maxHeartbeats 4000000 in
theorem oviewOf_calls (l : Ov.Files) (L : Ims) (cb : Nat) (r : Option Nat) (w : World) (hch : Ch w cb r l L) (hl1 : 1 ≤ L.length) (hl : L.length ≤ 8) :
    Calls Tryz.prog 70 #[.pointer (some ⟨cb, 0, none⟩)] w fun e w' => ∃ a c, e = .returned (.slice a (sufN l (L.map Prod.fst) L.length) c) ∧ Below w.heap.size w w' ∧ OwnsRun w' 0 (.slice a (sufN l (L.map Prod.fst) L.length) c) (sufN l (L.map Prod.fst) L.length) (sufV l (L.map Prod.fst) L.length) := by
  obtain ⟨⟨v, hblk, hown, _⟩, hlies⟩ := hch
  obtain ⟨g, c, rfl⟩ := ownsRow_form hown (by omega)
  have hcc : w.cell? ⟨cb, 0, none⟩ = some (.slice (some ⟨g, 0, none⟩) L.length c) := blk_cell hblk rfl
  have hcbl := blk_lt hblk
  have hgl : g < w.heap.size := (hown.lt g rfl).2
  have HO := hide hown
  have HLI := hide hlies
  have HCC := hide hcc
  clear hown hlies hcc hblk
  obtain ⟨ns, hns⟩ : ∃ ns, L.map Prod.fst = ns := ⟨_, rfl⟩
  have hnl : ns.length = L.length := by rw [← hns]; simp
  rw [hns]
  have HNS := hide hns
  have HNL := hide hnl
  clear hns hnl
  refine (callsIn_wide (n := 9)).1 ?_
  have hro : Fence.wide.round = none := rfl
  refine callsIn_of_wp_marks Tryz.func70 rfl trivial ?_ hro
  simp only [Tryz.ntmps70, List.size_toArray, List.length_cons, List.length_nil, Nat.reduceAdd, Nat.reduceSub, Array.replicate_succ, Array.replicate_zero, List.push_toArray, List.append_toArray, List.nil_append, List.cons_append]
  have hfA : Fence.wide.fn 108 := trivial
  have hfB : Fence.wide.fn 154 := trivial
  have hfC : Fence.wide.fn 109 := trivial
  gi_wp2_with (gi_at_call 108; refine (oIbackward_in _ _ _).mono ?_; rintro e w' ⟨rfl, rfl⟩)
  have bV : Boxed ((w.alloc (.cells #[.slice none 0 0] 117)).alloc (.cells #[.pointer (some ⟨cb, 0, none⟩)] 78)) w.heap.size 117 (.slice none 0 0) := (Boxed.new w _ _).alloc _
  have bP : Boxed ((w.alloc (.cells #[.slice none 0 0] 117)).alloc (.cells #[.pointer (some ⟨cb, 0, none⟩)] 78)) (w.heap.size + 1) 78 (.pointer (some ⟨cb, 0, none⟩)) := by
    have := Boxed.new (w.alloc (.cells #[.slice none 0 0] 117)) 78 (.pointer (some ⟨cb, 0, none⟩))
    rwa [World.size_alloc] at this
  have hB0 := below_alloc2 w (.cells #[.slice none 0 0] 117) (.cells #[.pointer (some ⟨cb, 0, none⟩)] 78)
  obtain ⟨w2, hw2⟩ : ∃ w2, w2 = ((w.alloc (.cells #[.slice none 0 0] 117)).alloc (.cells #[.pointer (some ⟨cb, 0, none⟩)] 78)) := ⟨_, rfl⟩
  have hsz2 : w2.heap.size = w.heap.size + 1 + 1 := by rw [hw2]; simp
  rw [← hw2] at bV bP hB0
  rw [← hw2]
  clear hw2
  have hgv := oIback1_gives 8 (by decide) (w.heap.size + 1) cb g c 0 L w2 hl1 hl (fun i => i = w.heap.size + 1 ∨ i = cb ∨ i = g) (Or.inr (Or.inr rfl)) (fun k hk => by rcases hk with e | e | e <;> omega) bP.cell ((hB0.cell (p := ⟨cb, 0, none⟩) hcbl).trans (unhide HCC)) (owns_all (unhide HO) hB0)
  refine wp_gives hro (by decide) (gf := 154) (lb := #[.pointer (some ⟨w.heap.size + 1, 0, none⟩)]) rfl hfB (enters_of Tryz.func154 (by kernel_rfl) rfl)
    hgv (Below.refl _ _) (fun k hk => by rcases hk with e | e | e <;> omega) (fun _ => rfl)
    (VO w w.heap.size l ns) (VO.own _ _ _ _ _ (by omega)) ⟨⟨none, 0, bV, World.ownsRow_nil _ _ _ _⟩, hB0⟩
    (fun p X => { tmps := #[.pointer (some ⟨cb, 0, none⟩), undef, .slice none 0 0, .pointer (some ⟨w.heap.size, 0, none⟩), undef, .pointer (some ⟨X.heap.size, 0, none⟩), .pointer (some ⟨cb, 0, none⟩), .func (.func 154) #[] #[.pointer (some ⟨w.heap.size + 1, 0, none⟩)], .string (Ov.nameAt (fl L) p), .agg #[.string (imAt L p).bk, .slice (some ⟨(imAt L p).g, 0, none⟩) (imAt L p).n (imAt L p).n, .int .i64 (imAt L p).t], undef, undef, undef, undef], defers := [] })
    (fun p X => X.alloc (.cells #[.string (imAt L p).bk, .slice (some ⟨(imAt L p).g, 0, none⟩) (imAt L p).n (imAt L p).n, .int .i64 (imAt L p).t] 90))
    (fun p X => below_alloc1 X _) ?assign ?body ?done
  case assign =>
    intro y k X K hK
    unfold backArgs
    gi_wp2
    exact hK
  case body =>
    intro l' k p X o o' hl' ho' hoc hx hI
    obtain ⟨hk, hpe⟩ := downFrom_at hx
    have hpl : p < L.length := by omega
    have hll : l' < X.heap.size := blk_lt ho'
    obtain ⟨y, gp, hy, _, him, hmp, hgp⟩ := lies_at (unhide HLI) (unhide HNS) hpl
    rw [hmp]
    have hm30 : Ov.many (fOf l y) ≤ 30 := him.1.2.2.2.2.2.1
    have hm1 : 1 ≤ Ov.many (fOf l y) := him.1.2.2.2.2.1
    obtain ⟨C, hC⟩ : ∃ C : Obj, C = .cells #[.string (imOf (fOf l y) gp).bk, .slice (some ⟨(imOf (fOf l y) gp).g, 0, none⟩) (imOf (fOf l y) gp).n (imOf (fOf l y) gp).n, .int .i64 (imOf (fOf l y) gp).t] 90 (0, 0) := ⟨_, rfl⟩
    rw [← hC]
    have hgr : X.grownBy ((X.alloc C).putObj l' o) (some l') := ⟨rfl, rfl, rfl, by simp, fun i hi hne => (World.putObj_heap_other (fun e => hne (by rw [e]))).trans ((below_alloc1 X C).block i hi)⟩
    have hvo := VO.own w w.heap.size l ns w2.heap.size (by omega) k X _ (some l') hI hgr (fun r e => by cases e; exact ⟨hl', o', ho', hoc⟩)
    have hrx : ((X.alloc C).putObj l' o).heap[X.heap.size]? = some C := (World.putObj_heap_other (by omega)).trans (blk_new X _)
    obtain ⟨W1, hW1⟩ : ∃ W1, W1 = (X.alloc C).putObj l' o := ⟨_, rfl⟩
    rw [← hW1] at hvo hrx
    rw [← hW1]
    clear hW1 hgr
    rw [hC] at hrx
    have y0 := blk_cell (i := 0) hrx rfl
    have y1 := blk_cell (i := 1) hrx rfl
    have y2 := blk_cell (i := 2) hrx rfl
    obtain ⟨a, cc, hv, hrow⟩ := hvo.row
    have hcl : Cl W1 gp (Ov.many (fOf l y)) (qOf (fOf l y)) (dOf (fOf l y)) := cl_of him ((hvo.below.block gp (blk_lt hgp)).trans hgp)
    have cV := hv.cell
    have hN30 : sufN l ns k ≤ 30 := by
      unfold sufN
      split
      · omega
      · rename_i h0
        obtain ⟨y', gp', hy', _, him', _, _⟩ := lies_at (unhide HLI) (unhide HNS) (p := ns.length - k) (by have := unhide HNL; omega)
        rw [hy']
        exact him'.1.2.2.2.2.2.1
    have HV := hide hv
    have HROW := hide hrow
    have HCL := hide hcl
    have HBW := hide hvo.below
    have HST : Hid (∀ i, i < 8 * Ov.many (fOf l y) → overV (qOf (fOf l y)) (dOf (fOf l y)) (sufN l ns k) (sufV l ns k) i = sufV l ns (k + 1) i) := fun i hi => suf_step l ns (by have := unhide HNL; omega) (by have := unhide HNL; omega) hy hi
    have HSN : Hid (Ov.many (fOf l y) = sufN l ns (k + 1)) := (sufN_succ l ns (by have := unhide HNL; omega) hy).symm
    obtain ⟨m, hm⟩ : ∃ m, Ov.many (fOf l y) = m := ⟨_, rfl⟩
    obtain ⟨bkp, hbkp⟩ : ∃ x, (imOf (fOf l y) gp).bk = x := ⟨_, rfl⟩
    obtain ⟨tp, htp⟩ : ∃ x, (imOf (fOf l y) gp).t = x := ⟨_, rfl⟩
    obtain ⟨q, hq⟩ : ∃ q, qOf (fOf l y) = q := ⟨_, rfl⟩
    obtain ⟨d, hd⟩ : ∃ d, dOf (fOf l y) = d := ⟨_, rfl⟩
    have HQ3 : Hid (∀ k, k < m → q k = 0 ∨ q k = 1 ∨ q k = 2) := fun k _ => by rw [← hq]; exact qOf_known _ _
    rw [show (imOf (fOf l y) gp).n = m from hm, show (imOf (fOf l y) gp).g = gp from rfl] at y1
    rw [hbkp] at y0
    rw [htp] at y2
    rw [hm, hq, hd] at HCL HST
    rw [hm] at HSN hm1 hm30
    obtain ⟨N, hN⟩ : ∃ N, sufN l ns k = N := ⟨_, rfl⟩
    rw [hN] at cV HV HROW HST hN30
    have HNN := hide hN
    clear hvo hrx hv hrow hcl hI hC ho' hgp hmp him hy hm hbkp htp hq hd hN hgv bV bP hB0
    gi_wp2_with (gi_at_call 109; refine (CallsIn.inRound l' ((callsIn_wide (n := _)).2 (oviewOver_calls bkp tp gp m N 0 q d (sufV l ns k) (.slice a N cc) W1 hm1 hm30 hN30 (unhide HCL) (unhide HROW) (unhide HQ3)))).mono ?_; rintro e w3 ⟨a3, c3, rfl, hb3, ho3⟩; have hv3 : Boxed w3 w.heap.size 117 (.slice a N cc) := (hb3.block _ (unhide HV).lt).trans (unhide HV); have cV3 := hv3.cell; have fV3 := hv3.frozen; have HB3 := hide hb3; have HO3 := hide ho3; have HV3 := hide hv3; clear hb3 ho3 hv3)
    have ho4 : OwnsRun w3 0 (.slice a3 m c3) m (sufV l ns (k + 1)) := by
      have h1 := ownsRow_le (unhide HO3) (Nat.zero_le _)
      rw [runTo_congr (unhide HST)] at h1
      exact h1
    exact ⟨(Lets.of_below (unhide HB3)).setCell (p := ⟨w.heap.size, 0, none⟩) (by rintro (e | e | e) <;> simp at e <;> omega) (by show w.heap.size < w2.heap.size; omega) _, VO.set (a := a) (c := cc) (Nat.le_refl _) (by rw [unhide HNN]; exact unhide HV3) ((unhide HBW).trans ((unhide HB3).mono (unhide HBW).size)) (unhide HSN) ho4⟩
  case done =>
    intro D X hD hI hK
    rw [downFrom_length] at hI
    obtain ⟨⟨a, c, hv, hrow⟩, hB⟩ := hI
    have hc := hv.cell
    have HRW := hide hrow
    have HBW := hide hB
    clear hrow hB
    gi_wp2
    refine ⟨by simp, .inl ⟨_, _, rfl, run_takeDeferred hK, ?_⟩⟩
    exact ⟨_, results_tmp rfl _ _ _, a, c, rfl, (unhide HBW).trans (belowK_b (w := w) (Nat.le_refl _) X D _ _ (by omega) hK rfl rfl), ownsRow_putObj (unhide HRW) _ hK rfl⟩

end Go.Proofs.YtomiepknmmpflaaGreatDoor
