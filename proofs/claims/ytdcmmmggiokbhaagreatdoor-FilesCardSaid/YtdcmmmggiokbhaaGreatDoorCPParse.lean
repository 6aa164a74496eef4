/- The program's reader: text and number. -/
import Derived.Test.YtdcmmmggiokbhaaGreatDoorCPStore
import Derived.Test.YtdcmmmggiokbhaaGreatDoorCMem
import Derived.Lib.BufferWrite
namespace Go.Proofs.YtdcmmmggiokbhaaGreatDoor
open Go.RowKit Go.Joins

/-- What is taken off a rest, what is left, and whether it was short: the reader's three answers. -/
def tOut (rest : ByteArray) (m : Nat) : ByteArray := if rest.size < m then ⟨#[]⟩ else rest.extract 0 m
def tRest (rest : ByteArray) (m : Nat) : ByteArray := if rest.size < m then ⟨#[]⟩ else rest.extract m rest.size
def tShort (rest : ByteArray) (sh : Bool) (m : Nat) : Bool := if rest.size < m then true else sh
/-- The number that is taken off. -/
def tNum (rest : ByteArray) : Nat := if rest.size < 1 then 0 else Ov.byteAt rest 0
/-- A reader at block r; nothing else has turned, and no block is new. -/
structure RD (r : Nat) (rest : ByteArray) (sh : Bool) (w w' : World) : Prop where
  blk : w'.heap[r]? = some (.cells #[.string rest, .bool sh] 172 (0, 0))
  grown : w.grownBy w' (some r)
  size : w'.heap.size = w.heap.size
theorem tNum_lt (rest : ByteArray) : tNum rest < 256 := by
  unfold tNum; split
  · omega
  · exact Ov.byteAt_lt _ _

set_option maxRecDepth 100000 in
set_option maxHeartbeats 400000 in
theorem otext_calls (rest : ByteArray) (sh : Bool) (m r : Nat) (w : World) (h : w.heap[r]? = some (.cells #[.string rest, .bool sh] 172 (0, 0))) :
    Calls Tryz.prog 99 #[.pointer (some ⟨r, 0, none⟩), .int .i64 m] w fun e w' => e = .returned (.string (tOut rest m)) ∧ RD r (tRest rest m) (tShort rest sh m) w w' := by
  have c0 : w.cell? ⟨r, 0, none⟩ = some (.string rest) := blk_cell h rfl
  have c1 : w.cell? ⟨r, 1, none⟩ = some (.bool sh) := blk_cell h rfl
  have f0 := blk_frozen h
  have H := hide h
  clear h
  by_cases hm : rest.size < m
  · have e1 : Hid (tOut rest m = ⟨#[]⟩) := by unfold tOut; rw [if_pos hm]; exact rfl
    have e2 : Hid (tRest rest m = ⟨#[]⟩) := by unfold tRest; rw [if_pos hm]; exact rfl
    have e3 : Hid (tShort rest sh m = true) := by unfold tShort; rw [if_pos hm]; exact rfl
    go_enter Tryz.func99, Tryz.ntmps99
    go_wp2
    go_ret
    exact ⟨by rw [unhide e1]; rfl, by rw [unhide e2, unhide e3]; exact ⟨blk_set_same (i := 1) (blk_set_same (i := 0) (unhide H) _) _, grown_trans (grown_set w r 0 _) (grown_set _ r 1 _), by simp⟩⟩
  · have e1 : Hid (tOut rest m = rest.extract 0 m) := by unfold tOut; rw [if_neg hm]; exact rfl
    have e2 : Hid (tRest rest m = rest.extract m rest.size) := by unfold tRest; rw [if_neg hm]; exact rfl
    have e3 : Hid (tShort rest sh m = sh) := by unfold tShort; rw [if_neg hm]; exact rfl
    go_enter Tryz.func99, Tryz.ntmps99
    go_wp2
    go_ret
    exact ⟨by rw [unhide e1]; rfl, by rw [unhide e2, unhide e3]; exact ⟨blk_set_same (i := 0) (unhide H) _, grown_set w r 0 _, by simp⟩⟩

theorem tOut_one_size {rest : ByteArray} (h : ¬ rest.size < 1) : (tOut rest 1).size = 1 := by
  unfold tOut; rw [if_neg h, ByteArray.size_extract]; omega
theorem tOut_one_byte {rest : ByteArray} (h : ¬ rest.size < 1) : Ov.byteAt (tOut rest 1) 0 = Ov.byteAt rest 0 := by
  unfold tOut; rw [if_neg h]
  unfold Ov.byteAt
  rw [Lib.extract_data]
  have hl : 1 ≤ rest.data.toList.length := by simpa using (show 1 ≤ rest.size by omega)
  match hd : rest.data.toList, hl with
  | a :: r, _ => simp

set_option maxRecDepth 100000 in
set_option maxHeartbeats 400000 in
theorem onumber_calls (rest : ByteArray) (sh : Bool) (r : Nat) (w : World) (h : w.heap[r]? = some (.cells #[.string rest, .bool sh] 172 (0, 0))) :
    Calls Tryz.prog 100 #[.pointer (some ⟨r, 0, none⟩)] w fun e w' => e = .returned (.int .i64 (tNum rest : Nat)) ∧ RD r (tRest rest 1) (tShort rest sh 1) w w' := by
  have H := hide h
  have hc := fun w' => otext_calls rest sh 1 r w'
  have HC := hide hc
  clear h hc
  by_cases hm : rest.size < 1
  · have e1 : tOut rest 1 = ⟨#[]⟩ := by unfold tOut; rw [if_pos hm]
    have e4 : Hid (tNum rest = 0) := by unfold tNum; rw [if_pos hm]; exact rfl
    go_enter Tryz.func100, Tryz.ntmps100
    go_wp2_with (go_at_call 99; refine (unhide HC _ (unhide H)).mono ?_; rintro e w1 ⟨rfl, hr⟩)
    go_ret
    exact ⟨by rw [unhide e4]; rfl, hr⟩
  · have e4 : Hid (tNum rest = Ov.byteAt rest 0) := by unfold tNum; rw [if_neg hm]; exact rfl
    obtain ⟨t, ht⟩ : ∃ t, tOut rest 1 = t := ⟨_, rfl⟩
    have hts : t.size = 1 := by rw [← ht]; exact tOut_one_size hm
    have htb : Ov.byteAt t 0 = Ov.byteAt rest 0 := by rw [← ht]; exact tOut_one_byte hm
    have hby := Ov.byteAt_eq t
    have hte : t.toList.isEmpty = false := by rw [ByteArray.toList_eq, ← Bool.not_eq_true, List.isEmpty_iff_length_eq_zero]; simpa using (show t.size ≠ 0 by omega)
    have hlt := Ov.byteAt_lt rest 0
    have hge : 1 ≤ t.size := by omega
    clear hts
    go_enter Tryz.func100, Tryz.ntmps100
    go_wp2_with (go_at_call 99; refine (unhide HC _ (unhide H)).mono ?_; rintro e w1 ⟨rfl, hr⟩)
    go_ret
    exact ⟨by rw [unhide e4]; rfl, hr⟩

end Go.Proofs.YtdcmmmggiokbhaaGreatDoor

/- The program's reader gone through a whole file: plain. -/
namespace Go.Proofs.YtdcmmmggiokbhaaGreatDoor
open Go.RowKit Go.Joins

/-- What is left of a file from a place on. -/
def after (s : ByteArray) (i : Nat) : ByteArray := s.extract i s.size
theorem bytes_ext {a b : ByteArray} (h : a.data.toList = b.data.toList) : a = b := Go.WideShapes.bytes_inj h
theorem after_zero (s : ByteArray) : after s 0 = s := bytes_ext (by unfold after; rw [Lib.extract_data, List.drop_zero, List.take_of_length_le (by simp)])
theorem after_size (s : ByteArray) (i : Nat) : (after s i).size = s.size - i := by unfold after; rw [ByteArray.size_extract]; omega
theorem after_data (s : ByteArray) (i : Nat) : (after s i).data.toList = s.data.toList.drop i := by
  unfold after; rw [Lib.extract_data, List.take_of_length_le (by simp)]
section
variable {s : ByteArray} {i m : Nat}
theorem tOut_after (h : i + m ≤ s.size) : tOut (after s i) m = s.extract i (i + m) := by
  unfold tOut
  rw [if_neg (by rw [after_size]; omega)]
  refine bytes_ext ?_
  rw [Lib.extract_data, Lib.extract_data, after_data, List.drop_zero]
  congr 1; omega
theorem tRest_after (h : i + m ≤ s.size) : tRest (after s i) m = after s (i + m) := by
  unfold tRest
  rw [if_neg (by rw [after_size]; omega)]
  refine bytes_ext ?_
  rw [after_data, Lib.extract_data, after_data, List.drop_drop, List.take_of_length_le (by rw [after_size]; simp; omega)]
theorem tShort_after (sh : Bool) (h : i + m ≤ s.size) : tShort (after s i) sh m = sh := by
  unfold tShort; rw [if_neg (by rw [after_size]; omega)]
theorem tShort_over (sh : Bool) (hi : i ≤ s.size) (h : ¬ i + m ≤ s.size) : tShort (after s i) sh m = true := by
  unfold tShort; rw [if_pos (by rw [after_size]; omega)]
theorem tNum_after (h : i + 1 ≤ s.size) : tNum (after s i) = Ov.byteAt s i := by
  unfold tNum
  rw [if_neg (by rw [after_size]; omega)]
  unfold Ov.byteAt
  rw [after_data, List.getD_eq_getElem?_getD, List.getElem?_drop, List.getD_eq_getElem?_getD, Nat.add_zero]
end
/-- Once short, always short. -/
theorem tShort_true (rest : ByteArray) (m : Nat) : tShort rest true m = true := by unfold tShort; split <;> rfl

/-- All that parseImage reads. -/
structure Parts where
  mark : ByteArray
  size : Nat
  backing : ByteArray
  entries : ByteArray
  many : Nat
  data : ByteArray
  rest : ByteArray
  short : Bool
def parts (s : ByteArray) : Parts :=
  let r1 := tRest s 3
  let h1 := tShort s false 3
  let r2 := tRest r1 1
  let h2 := tShort r1 h1 1
  let r3 := tRest r2 1
  let h3 := tShort r2 h2 1
  let r4 := tRest r3 (tNum r2)
  let h4 := tShort r3 h3 (tNum r2)
  let r5 := tRest r4 (tNum r1)
  let h5 := tShort r4 h4 (tNum r1)
  let r6 := tRest r5 1
  let h6 := tShort r5 h5 1
  { mark := tOut s 3, size := tNum r1, backing := tOut r3 (tNum r2), entries := tOut r4 (tNum r1), many := tNum r5, data := tOut r6 (tNum r5 * 8), rest := tRest r6 (tNum r5 * 8), short := tShort r6 h6 (tNum r5 * 8) }

/-- A file that is long enough for what it tells. -/
def fits (s : ByteArray) : Prop := Ov.base s ≤ s.size ∧ Ov.base s + Ov.datas s * 8 ≤ s.size
theorem parts_fit {s : ByteArray} (h : fits s) : parts s = { mark := s.extract 0 3, size := Ov.many s, backing := Ov.backing s, entries := s.extract (5 + Ov.long s) (5 + Ov.long s + Ov.many s), many := Ov.datas s, data := s.extract (Ov.base s) (Ov.base s + Ov.datas s * 8), rest := after s (Ov.base s + Ov.datas s * 8), short := false } := by
  obtain ⟨h1, h2⟩ := h
  unfold Ov.base at h1 h2
  have e0 := after_zero s
  unfold parts
  have a1 : tRest s 3 = after s 3 := by conv => lhs; rw [← e0]
                                        rw [tRest_after (by omega)]
  have s1 : tShort s false 3 = false := by conv => lhs; rw [← e0]
                                           rw [tShort_after _ (by omega)]
  have m1 : tOut s 3 = s.extract 0 3 := by conv => lhs; rw [← e0]
                                           rw [tOut_after (by omega)]
  simp only [a1, s1, m1]
  rw [tNum_after (i := 3) (by omega), tRest_after (i := 3) (m := 1) (by omega), tShort_after (i := 3) (m := 1) false (by omega)]
  rw [tNum_after (i := 4) (by omega), tRest_after (i := 4) (m := 1) (by omega), tShort_after (i := 4) (m := 1) false (by omega)]
  have em : Ov.byteAt s 3 = Ov.many s := rfl
  have el : Ov.byteAt s 4 = Ov.long s := rfl
  rw [em, el]
  rw [tOut_after (i := 5) (m := Ov.long s) (by omega), tRest_after (i := 5) (m := Ov.long s) (by omega), tShort_after (i := 5) (m := Ov.long s) false (by omega)]
  rw [tOut_after (i := 5 + Ov.long s) (m := Ov.many s) (by omega), tRest_after (i := 5 + Ov.long s) (m := Ov.many s) (by omega), tShort_after (i := 5 + Ov.long s) (m := Ov.many s) false (by omega)]
  have ed : tNum (after s (5 + Ov.long s + Ov.many s)) = Ov.datas s := tNum_after (by omega)
  rw [ed, tRest_after (i := 5 + Ov.long s + Ov.many s) (m := 1) (by omega), tShort_after (i := 5 + Ov.long s + Ov.many s) (m := 1) false (by omega)]
  have eb : 5 + Ov.long s + Ov.many s + 1 = Ov.base s := rfl
  rw [eb] at h2 ⊢
  rw [tOut_after (i := Ov.base s) (m := Ov.datas s * 8) (by omega), tRest_after (i := Ov.base s) (m := Ov.datas s * 8) (by omega), tShort_after (i := Ov.base s) (m := Ov.datas s * 8) false (by omega)]
  rfl

theorem parts_short {s : ByteArray} (h : ¬ fits s) : (parts s).short = true := by
  have e0 := after_zero s
  have em : Ov.byteAt s 3 = Ov.many s := rfl
  have el : Ov.byteAt s 4 = Ov.long s := rfl
  unfold fits at h
  unfold parts
  show tShort _ _ _ = true
  by_cases c1 : 3 ≤ s.size
  case neg =>
    have s1 : tShort s false 3 = true := by conv => lhs; rw [← e0]
                                            rw [tShort_over _ (by omega) (by omega)]
    simp only [s1, tShort_true]
  have a1 : tRest s 3 = after s 3 := by conv => lhs; rw [← e0]
                                        rw [tRest_after (by omega)]
  have s1 : tShort s false 3 = false := by conv => lhs; rw [← e0]
                                           rw [tShort_after _ (by omega)]
  simp only [a1, s1]
  by_cases c2 : 4 ≤ s.size
  case neg => simp only [tShort_over (s := s) (i := 3) (m := 1) false (by omega) (by omega), tShort_true]
  rw [tNum_after (i := 3) (by omega), tRest_after (i := 3) (m := 1) (by omega), tShort_after (i := 3) (m := 1) false (by omega)]
  by_cases c3 : 5 ≤ s.size
  case neg => simp only [tShort_over (s := s) (i := 4) (m := 1) false (by omega) (by omega), tShort_true, Nat.reduceAdd]
  rw [tNum_after (i := 4) (by omega), tRest_after (i := 4) (m := 1) (by omega), tShort_after (i := 4) (m := 1) false (by omega), em, el]
  by_cases c4 : 5 + Ov.long s ≤ s.size
  case neg => simp only [tShort_over (s := s) (i := 5) (m := Ov.long s) false (by omega) (by omega), tShort_true, Nat.reduceAdd]
  rw [tRest_after (i := 5) (m := Ov.long s) (by omega), tShort_after (i := 5) (m := Ov.long s) false (by omega)]
  by_cases c5 : 5 + Ov.long s + Ov.many s ≤ s.size
  case neg => simp only [tShort_over (s := s) (i := 5 + Ov.long s) (m := Ov.many s) false (by omega) (by omega), tShort_true]
  rw [tRest_after (i := 5 + Ov.long s) (m := Ov.many s) (by omega), tShort_after (i := 5 + Ov.long s) (m := Ov.many s) false (by omega)]
  by_cases c6 : 5 + Ov.long s + Ov.many s + 1 ≤ s.size
  case neg => simp only [tShort_over (s := s) (i := 5 + Ov.long s + Ov.many s) (m := 1) false (by omega) (by omega), tShort_true]
  have ed : tNum (after s (5 + Ov.long s + Ov.many s)) = Ov.datas s := tNum_after (by omega)
  have eb : 5 + Ov.long s + Ov.many s + 1 = Ov.base s := rfl
  rw [ed, tRest_after (i := 5 + Ov.long s + Ov.many s) (m := 1) (by omega), tShort_after (i := 5 + Ov.long s + Ov.many s) (m := 1) false (by omega), eb]
  rw [eb] at c6
  exact tShort_over (s := s) (i := Ov.base s) (m := Ov.datas s * 8) false (by omega) (fun hc => h ⟨c6, hc⟩)

/-- What parseImage asks of what it has read. -/
def headB (s : ByteArray) : Prop := (parts s).short = false ∧ (parts s).rest.size = 0 ∧ (parts s).mark.toList = [79, 86, 1] ∧ 1 ≤ (parts s).size ∧ (parts s).size ≤ 30 ∧ ((parts s).backing.size = 0 ∨ Ov.nameB (parts s).backing = true) ∧ (parts s).many ≤ 60
theorem mark_iff {s : ByteArray} (h : 5 ≤ s.size) : (s.extract 0 3).toList = [79, 86, 1] ↔ Ov.byteAt s 0 = 79 ∧ Ov.byteAt s 1 = 86 ∧ Ov.byteAt s 2 = 1 := by
  rw [ByteArray.toList_eq, Lib.extract_data]
  have hl : 5 ≤ s.data.toList.length := by simpa using h
  unfold Ov.byteAt
  match hd : s.data.toList, hl with
  | a :: b :: c :: r, _ =>
    simp only [List.drop_zero, Nat.sub_zero, List.take_succ_cons, List.take_zero, List.cons.injEq, and_true, List.getD_cons_zero, List.getD_cons_succ]
    constructor
    · rintro ⟨rfl, rfl, rfl⟩; exact ⟨rfl, rfl, rfl⟩
    · rintro ⟨h1, h2, h3⟩; exact ⟨UInt8.toNat_inj.1 h1, UInt8.toNat_inj.1 h2, UInt8.toNat_inj.1 h3⟩
/-- The program asks of a file's head what the document asks. -/
theorem head_iff (s : ByteArray) : headB s ↔ Ov.headOk s := by
  by_cases hf : fits s
  · have hp := parts_fit hf
    obtain ⟨f1, f2⟩ := hf
    have h5 : 5 ≤ s.size := by unfold Ov.base at f1; omega
    have hbs : (Ov.backing s).size = Ov.long s := by
      unfold Ov.backing; rw [ByteArray.size_extract]; unfold Ov.base at f1; omega
    unfold headB Ov.headOk
    rw [hp]
    simp only [after_size, mark_iff h5]
    constructor
    · rintro ⟨_, h2, ⟨m0, m1, m2⟩, h4, h5', h6, h7⟩
      have hlong : Ov.long s ≤ 8 := by
        rcases h6 with h6 | h6
        · omega
        · have := Ov.nameB_size h6; omega
      exact ⟨h5, m0, m1, m2, h4, h5', hlong, f1, fun h0 => by rcases h6 with h6 | h6; (omega); exact h6, h7, by omega⟩
    · rintro ⟨_, m0, m1, m2, h4, h5', h6, _, h8, h9, h10⟩
      refine ⟨trivial, by omega, ⟨m0, m1, m2⟩, h4, h5', ?_, h9⟩
      by_cases h0 : 0 < Ov.long s
      · exact Or.inr (h8 h0)
      · exact Or.inl (by omega)
  · have hs := parts_short hf
    constructor
    · intro h; rw [h.1] at hs; cases hs
    · intro h; exact absurd ⟨h.2.2.2.2.2.2.2.1, by have := h.2.2.2.2.2.2.2.2.2.2; omega⟩ hf

end Go.Proofs.YtdcmmmggiokbhaaGreatDoor

/- The program's clusters in memory: what parseClusters makes, row by row: plain, and a law on copy. -/
namespace Go.Proofs.YtdcmmmggiokbhaaGreatDoor
open Go.RowKit Go.Joins

/-- Eight bytes as cells. -/
def byteVals (l : List UInt8) : List Value := l.map fun b => .int .u8 (b.toNat : Int)
def zero8 : List Value := List.replicate 8 (.int .u8 0)
/-- The cells of a cluster: its kind, its bytes. -/
def clCells (s : ByteArray) (i : Nat) : List Value :=
  if Ov.ent s i = 0 then .int .i64 0 :: zero8 else if Ov.ent s i = 255 then .int .i64 1 :: zero8 else .int .i64 2 :: byteVals (Ov.blockOf s (Ov.ent s i)).data.toList
def clNone : List Value := .int .i64 0 :: zero8
/-- The row behind k entries. -/
def rowTo (s : ByteArray) : Nat → List Value
  | 0 => []
  | k + 1 => rowTo s k ++ clCells s k
def noneTo : Nat → List Value
  | 0 => []
  | k + 1 => clNone ++ noneTo k
def rowAt (s : ByteArray) (m k : Nat) : List Value := rowTo s k ++ noneTo (m - k)
/-- Which data clusters are taken. -/
def takenTo (s : ByteArray) (k : Nat) : List Value := (List.range 60).map fun j => .bool (decide (0 < Ov.usedAt s k j))
/-- How many entries name data. -/
def namedTo (s : ByteArray) : Nat → Nat
  | 0 => 0
  | k + 1 => namedTo s k + if Ov.ent s k = 0 ∨ Ov.ent s k = 255 then 0 else 1
theorem namedTo_le (s : ByteArray) (k : Nat) : namedTo s k ≤ k := by
  induction k with
  | zero => simp [namedTo]
  | succ k ih => simp only [namedTo]; split <;> omega
theorem zero8_length : zero8.length = 8 := rfl
theorem noneTo_length (k : Nat) : (noneTo k).length = k * 9 := by
  induction k with
  | zero => rfl
  | succ k ih => simp [noneTo, clNone, zero8_length, ih]; omega
theorem noneTo_succ {m k : Nat} (h : k < m) : noneTo (m - k) = clNone ++ noneTo (m - (k + 1)) := by
  rw [show m - k = m - (k + 1) + 1 from by omega]; rfl

/-- copy of the first bytes of a text into a row. -/
theorem run_copy_head {P : Program} (w : World) (dT sT ty elem : TypeId) (g o dLen dCap : Nat) (s : ByteArray) (cur : Array Value) (t : TypeId)
    (hu : P.underlying dT = some (.slice elem)) (hs : (P.info? elem).map (·.size) = some 1) (hg : w.heap[g]? = some (.cells cur t (0, 0))) (hle : dLen ≤ s.size) (hfit : o + dLen ≤ cur.size) :
    (Builtin.copy_ #[dT, sT] ty #[.slice (some ⟨g, o, none⟩) dLen dCap, .string s]).run P w =
      .ok (goInt dLen) (w.setRow g (cur.toList.take o ++ byteVals (s.data.toList.take dLen) ++ cur.toList.drop (o + dLen)).toArray) := by
  have hlen : (byteVals (s.data.toList.take dLen)).length = dLen := by
    have : s.data.toList.length = s.size := by simp
    simp [byteVals]; omega
  have h1 : ∀ v ∈ byteVals (s.data.toList.take dLen), v.oneCell' = true := by
    intro v hv
    unfold byteVals at hv
    rw [List.mem_map] at hv
    obtain ⟨b, _, rfl⟩ := hv
    rfl
  have hst := run_storeCells_at P g o t (byteVals (s.data.toList.take dLen)) 0 cur w hg (by rw [hlen]; simpa using hfit) h1
  have hmin : Nat.min s.size dLen = dLen := Nat.min_eq_right hle
  rw [hlen] at hst
  simp only [Nat.add_zero] at hst
  have htk : List.take dLen (List.map (fun b : UInt8 => Value.int IntKind.u8 (b.toNat : Int)) s.data.toList) = byteVals (s.data.toList.take dLen) := by
    unfold byteVals; rw [List.map_take]
  cases hq : P.info? elem with
  | none => simp [hq] at hs
  | some i =>
    simp [Builtin.copy_, run_underlying hu, Builtin.lenOf, Builtin.firstCells, sizeOf, typeInfo, hq, hmin]
    rw [htk, hst]
    simp [Result.andThen]
/-- The same as one step of a region that draws its order. -/
theorem step_copy_head {P : Program} {ops : Array Oper} {o : Oper} {a : Act} {w : World} {K : Act → World → Prop} {Q : Exit → Act → World → Prop} {E : Prop} (hgd : o.guard = none) (d x : Operand) (dT sT : TypeId)
    (ho : o.op = .call { callee := .builtin .copy, args := #[d, x], argTypes := #[dT, sT] }) (elem : TypeId) (hu : P.underlying dT = some (.slice elem)) (hsz : (P.info? elem).map (·.size) = some 1)
    (g off dLen dCap : Nat) (s : ByteArray) (hd : a.eval d = .slice (some ⟨g, off, none⟩) dLen dCap) (hx : a.eval x = .string s) (cur : Array Value) (t : TypeId) (hg : w.heap[g]? = some (.cells cur t (0, 0))) (hle : dLen ≤ s.size) (hfit : off + dLen ≤ cur.size)
    (h : ∀ w', w'.heap[g]? = some (.cells (cur.toList.take off ++ byteVals (s.data.toList.take dLen) ++ cur.toList.drop (off + dLen)).toArray t (0, 0)) → w.grownBy w' (some g) → w'.heap.size = w.heap.size → K (a.put o.dst (goInt dLen)) w') :
    if Region.wanted o (yielded ops a.tmps) = true then Oper.wp P o a w K Q else E := by
  have hw : Region.wanted o (yielded ops a.tmps) = true := by simp [Region.wanted, hgd]
  rw [if_pos hw]
  have hrun := run_copy_head (P := P) w dT sT o.type elem g off dLen dCap s cur t hu hsz hg hle hfit
  have hK := h _ (setRow_heap w g cur _ t _ hg) ⟨rfl, rfl, rfl, by simp, fun k _ hk => setRow_other w g k _ (fun e => hk (by simp [e]))⟩ (by simp)
  unfold Oper.wp
  simp only [execOp, ho, resolve, invoke, builtin, Sem.run_bind, Sem.run_pure, Result.andThen_ok, List.map_toArray, List.map_cons, List.map_nil, hd, hx, hrun]
  exact hK

theorem byteVals_length (l : List UInt8) : (byteVals l).length = l.length := by simp [byteVals]
theorem block_size {s : ByteArray} (hh : Ov.headOk s) {e : Nat} (h1 : 1 ≤ e) (h2 : e ≤ Ov.datas s) (h255 : e ≠ 255) : (Ov.blockOf s e).size = 8 := by
  rw [Ov.blockOf_data (by omega) h255, ByteArray.size_extract]
  have := hh.2.2.2.2.2.2.2.2.2.2
  omega
theorem cl_length {s : ByteArray} (hh : Ov.headOk s) {i : Nat} (hok : Ov.entOk s i) : (clCells s i).length = 9 := by
  unfold clCells
  split
  · rfl
  · split
    · rfl
    · rename_i h0 h255
      rcases hok with h | h | ⟨h, _⟩
      · exact absurd h h0
      · exact absurd h h255
      · have := block_size hh (by omega) h h255
        rw [List.length_cons, byteVals_length]
        simpa using this
theorem rowTo_length {s : ByteArray} (hh : Ov.headOk s) {k : Nat} (hg : Ov.goodTo s k) : (rowTo s k).length = k * 9 := by
  induction k with
  | zero => rfl
  | succ k ih =>
    rw [rowTo, List.length_append, ih (fun i hi => hg i (by omega)), cl_length hh (hg k (by omega))]; omega
theorem rowAt_length {s : ByteArray} (hh : Ov.headOk s) {m k : Nat} (hk : k ≤ m) (hg : Ov.goodTo s k) : (rowAt s m k).length = m * 9 := by
  unfold rowAt; rw [List.length_append, rowTo_length hh hg, noneTo_length]; omega
theorem rowAt_split {s : ByteArray} {m k : Nat} (hk : k < m) : rowAt s m k = rowTo s k ++ (clNone ++ noneTo (m - (k + 1))) := by
  unfold rowAt; rw [noneTo_succ hk]
theorem rowAt_succ (s : ByteArray) (m k : Nat) : rowAt s m (k + 1) = rowTo s k ++ (clCells s k ++ noneTo (m - (k + 1))) := by
  unfold rowAt; rw [rowTo, List.append_assoc]
theorem rowAt_open {s : ByteArray} {m k : Nat} (hk : k < m) (he : Ov.ent s k = 0) : rowAt s m (k + 1) = rowAt s m k := by
  rw [rowAt_succ, rowAt_split hk]
  have : clCells s k = clNone := by unfold clCells; rw [if_pos he]; rfl
  rw [this]
theorem rowAt_zero {s : ByteArray} (hh : Ov.headOk s) {m k : Nat} (hk : k < m) (hg : Ov.goodTo s k) (he : Ov.ent s k = 255) : rowAt s m (k + 1) = (rowAt s m k).set (k * 9) (.int .i64 1) := by
  rw [rowAt_succ, rowAt_split hk]
  have hl := rowTo_length hh hg
  have : clCells s k = .int .i64 1 :: zero8 := by unfold clCells; rw [if_neg (by omega), if_pos he]
  rw [this, List.set_append_right _ _ (by omega), hl, Nat.sub_self]
  rfl
theorem rowAt_data {s : ByteArray} (hh : Ov.headOk s) {m k : Nat} (hk : k < m) (hg : Ov.goodTo s k) (h0 : Ov.ent s k ≠ 0) (h255 : Ov.ent s k ≠ 255) {B : List UInt8} (hB : B = (Ov.blockOf s (Ov.ent s k)).data.toList) :
    rowAt s m (k + 1) = ((rowAt s m k).set (k * 9) (.int .i64 2)).take (k * 9 + 1) ++ byteVals B ++ ((rowAt s m k).set (k * 9) (.int .i64 2)).drop (k * 9 + 1 + 8) := by
  rw [rowAt_succ, rowAt_split hk]
  have hl := rowTo_length hh hg
  have e1 : clCells s k = .int .i64 2 :: byteVals B := by unfold clCells; rw [if_neg h0, if_neg h255, hB]
  have e2 : (rowTo s k ++ (clNone ++ noneTo (m - (k + 1)))).set (k * 9) (.int .i64 2) = rowTo s k ++ ((.int .i64 2 :: zero8) ++ noneTo (m - (k + 1))) := by
    rw [List.set_append_right _ _ (by omega), hl, Nat.sub_self]; rfl
  rw [e1, e2, List.take_append, List.drop_append, hl, List.take_of_length_le (by omega), List.drop_of_length_le (by omega)]
  rw [show k * 9 + 1 - k * 9 = 1 from by omega, show k * 9 + 1 + 8 - k * 9 = 9 from by omega]
  simp [zero8]
theorem takenTo_getElem (s : ByteArray) (k j : Nat) (hj : j < 60) : (takenTo s k)[j]? = some (.bool (decide (0 < Ov.usedAt s k j))) := by simp [takenTo, hj]
theorem takenTo_length (s : ByteArray) (k : Nat) : (takenTo s k).length = 60 := by simp [takenTo]
theorem takenTo_same {s : ByteArray} {k : Nat} (h : Ov.ent s k = 0 ∨ 60 < Ov.ent s k) : takenTo s (k + 1) = takenTo s k := by
  unfold takenTo
  refine List.map_congr_left fun j hj => ?_
  have : j < 60 := by simpa using hj
  rw [Ov.usedAt_succ, if_neg (by omega)]
theorem takenTo_set {s : ByteArray} {k e : Nat} (h : Ov.ent s k = e + 1) : takenTo s (k + 1) = (takenTo s k).set e (.bool true) := by
  unfold takenTo
  refine List.ext_getElem (by simp) fun j h1 h2 => ?_
  rw [List.getElem_set]
  simp only [List.getElem_map, List.getElem_range]
  rw [Ov.usedAt_succ]
  by_cases hj : e = j
  · rw [if_pos hj, if_pos (by omega)]; rfl
  · rw [if_neg hj, if_neg (by omega)]

end Go.Proofs.YtdcmmmggiokbhaaGreatDoor

/- Plain: how many clusters are lost; what parseImage hands to parseClusters. -/
namespace Go.Proofs.YtdcmmmggiokbhaaGreatDoor
open Go.RowKit Go.Joins

def sumUsed (s : ByteArray) (k : Nat) : Nat → Int
  | 0 => 0
  | j + 1 => sumUsed s k j + Ov.usedAt s k j
theorem sumUsed_same {s : ByteArray} {k : Nat} (j : Nat) (h : ∀ i, i < j → Ov.ent s k ≠ i + 1) : sumUsed s (k + 1) j = sumUsed s k j := by
  induction j with
  | zero => rfl
  | succ j ih => rw [sumUsed, sumUsed, ih (fun i hi => h i (by omega)), Ov.usedAt_succ, if_neg (h j (by omega))]
theorem sumUsed_more {s : ByteArray} {k e : Nat} (he : Ov.ent s k = e + 1) (hu : Ov.usedAt s k e = 0) (j : Nat) (hj : e < j) : sumUsed s (k + 1) j = sumUsed s k j + 1 := by
  induction j with
  | zero => omega
  | succ j ih =>
    rw [sumUsed, sumUsed]
    by_cases h : e = j
    · subst h
      rw [sumUsed_same e (fun i hi => by omega), Ov.usedAt_succ, if_pos he, hu]; omega
    · rw [ih (by omega), Ov.usedAt_succ, if_neg (by omega)]; omega
theorem sumUsed_named {s : ByteArray} (hd : Ov.datas s ≤ 60) (k : Nat) (hg : Ov.goodTo s k) : sumUsed s k (Ov.datas s) = namedTo s k := by
  induction k with
  | zero =>
    have : ∀ j, sumUsed s 0 j = 0 := by
      intro j
      induction j with
      | zero => rfl
      | succ j ih => rw [sumUsed, ih]; simp [Ov.usedAt]
    rw [this]; rfl
  | succ k ih =>
    have ih := ih (fun i hi => hg i (by omega))
    rw [namedTo]
    by_cases h : Ov.ent s k = 0 ∨ Ov.ent s k = 255
    · rw [if_pos h, sumUsed_same _ (fun i hi => by omega), ih]; omega
    · rw [if_neg h]
      rcases hg k (by omega) with h1 | h1 | ⟨h1, h2⟩
      · exact absurd (Or.inl h1) h
      · exact absurd (Or.inr h1) h
      · obtain ⟨e, he⟩ : ∃ e, Ov.ent s k = e + 1 := ⟨Ov.ent s k - 1, by omega⟩
        have hu : Ov.usedAt s k e = 0 := by
          rcases Ov.usedAt_01 s k e with h0 | h0
          · exact h0
          · obtain ⟨i, hi, hie⟩ := Ov.usedAt_pos.1 (show 0 < Ov.usedAt s k e by omega)
            exact absurd (hie.trans he.symm) (h2 i hi)
        rw [sumUsed_more he hu _ (by omega), ih]; omega
theorem lostTo_sum (s : ByteArray) (j : Nat) : Ov.lostTo s j = (j : Int) - sumUsed s (Ov.many s) j := by
  induction j with
  | zero => rfl
  | succ j ih => rw [Ov.lostTo, sumUsed, ih]; omega
theorem lost_eq {s : ByteArray} (hd : Ov.datas s ≤ 60) (hg : Ov.goodTo s (Ov.many s)) : Ov.lost s = (Ov.datas s : Int) - (namedTo s (Ov.many s) : Nat) := by
  rw [Ov.lost, lostTo_sum, sumUsed_named hd _ hg]

theorem byteAt_extract (s : ByteArray) (a b i : Nat) (h : a + i < b) : Ov.byteAt (s.extract a b) i = Ov.byteAt s (a + i) := by
  unfold Ov.byteAt
  rw [Lib.extract_data, List.getD_eq_getElem?_getD, List.getElem?_take, if_pos (by omega), List.getElem?_drop, List.getD_eq_getElem?_getD]
theorem block_bytes {s : ByteArray} (hh : Ov.headOk s) {e : Nat} (h1 : 1 ≤ e) (h2 : e ≤ Ov.datas s) (h255 : e ≠ 255) {D : ByteArray} (hD : D = s.extract (Ov.base s) (Ov.base s + Ov.datas s * 8)) :
    (D.extract ((e - 1) * 8) D.size).data.toList.take 8 = (Ov.blockOf s e).data.toList := by
  have hs := hh.2.2.2.2.2.2.2.2.2.2
  have hz : D.size = Ov.datas s * 8 := by rw [hD, ByteArray.size_extract]; omega
  rw [Ov.blockOf_data (by omega) h255, Lib.extract_data, Lib.extract_data, hz, hD, Lib.extract_data, List.drop_take, List.take_take, List.take_take, List.drop_drop]
  congr 1
  · omega
  · congr 1; omega

end Go.Proofs.YtdcmmmggiokbhaaGreatDoor
