/- The walk of the reference's put. -/
import Derived.Test.YtomiepknmmpflaaGreatDoorKSpecS
import Derived.Test.YtomiepknmmpflaaGreatDoorKPDecode
namespace Go.Proofs.YtomiepknmmpflaaGreatDoor
open Go.RowKit Go.Joins

def PutPost (w : World) (b room : Nat) (v : Value) (l : Ov.Files) (e : Ending) (w' : World) : Prop :=
  (Ov.total l ≤ room ∧ e = .returned (.int .i64 0) ∧ w' = w.setCell ⟨b, 1, none⟩ v) ∨ (room < Ov.total l ∧ e = .returned (.int .i64 9) ∧ w' = w)

end Go.Proofs.YtomiepknmmpflaaGreatDoor

namespace Go.Proofs.YtomiepknmmpflaaGreatDoor
open Go.RowKit Go.Joins

def RefRep (w : World) (b room : Nat) (l : Ov.Files) : Prop :=
  ∃ v, w.heap[b]? = some (.cells #[.int .i64 room, v] 180 (0, 0)) ∧ OwnsFiles w 0 v l ∧ some b ≠ v.ownBlock
theorem grown_of_below {w w' : World} (h : Below w.heap.size w w') (r : Option Nat) : w.grownBy w' r := ⟨h.os, h.tape, h.output, h.size, fun k hk _ => h.block k hk⟩
theorem grown_trans {w w1 w2 : World} {r : Option Nat} (h : w.grownBy w1 r) (k : w1.grownBy w2 r) : w.grownBy w2 r :=
  ⟨k.os.trans h.os, k.tape.trans h.tape, k.output.trans h.output, Nat.le_trans h.size k.size, fun i hi hne => (k.block i (Nat.lt_of_lt_of_le hi h.size) hne).trans (h.block i hi hne)⟩
theorem grown_set (w : World) (b i : Nat) (u : Value) : w.grownBy (w.setCell ⟨b, i, none⟩ u) (some b) :=
  ⟨rfl, rfl, rfl, by simp, fun k _ hne => Below.heap_setCell _ _ _ _ (fun e => hne (by rw [e]))⟩
theorem RefRep.kept {w w' : World} {b room : Nat} {l : Ov.Files} (h : RefRep w b room l) (hb : Below w.heap.size w w') : RefRep w' b room l := by
  obtain ⟨v, h1, h2, h3⟩ := h
  exact ⟨v, by rw [hb.block b (blk_lt h1)]; exact h1, owns_all h2 hb, h3⟩
theorem RefRep.store {w w1 : World} {b room : Nat} {l m : Ov.Files} {v' : Value} (h : RefRep w b room l) (hb : Below w.heap.size w w1) (ho : OwnsFiles w1 w.heap.size v' m) :
    RefRep (w1.setCell ⟨b, 1, none⟩ v') b room m ∧ w.grownBy (w1.setCell ⟨b, 1, none⟩ v') (some b) := by
  obtain ⟨v, h1, h2, h3⟩ := h
  have hlt := blk_lt h1
  have h1' : w1.heap[b]? = _ := (hb.block b hlt).trans h1
  have hne : some b ≠ v'.ownBlock := owns_ne ho hlt
  exact ⟨⟨v', blk_set_same (i := 1) h1' v', owns_set (ownsRow_le ho (Nat.zero_le _)) hne v', hne⟩, grown_trans (grown_of_below hb _) (grown_set w1 b 1 v')⟩

structure RefLeft (w : World) (b room : Nat) (l : Ov.Files) (w' : World) : Prop where
  rep : RefRep w' b room l
  grown : w.grownBy w' (some b)
theorem RefRep.same {w w' : World} {b room : Nat} {l : Ov.Files} (h : RefRep w b room l) (hb : Below w.heap.size w w') : RefLeft w b room l w' := ⟨h.kept hb, grown_of_below hb _⟩
theorem RefRep.here {w : World} {b room : Nat} {l : Ov.Files} (h : RefRep w b room l) : RefLeft w b room l w := h.same (Below.refl _ _)
theorem RefRep.put {w w1 w' : World} {b room : Nat} {l m : Ov.Files} {v' : Value} {e : Ending} (h : RefRep w b room l) (hb : Below w.heap.size w w1) (ho : OwnsFiles w1 w.heap.size v' m) (hp : PutPost w1 b room v' m e w') :
    e = .returned (.int .i64 (Ov.putF room l m).1) ∧ RefLeft w b room (Ov.putF room l m).2 w' := by
  rcases hp with ⟨h1, rfl, rfl⟩ | ⟨h1, rfl, rfl⟩
  · have e : Ov.putF room l m = (0, m) := by unfold Ov.putF; rw [if_neg (by omega)]
    rw [e]
    exact ⟨rfl, (h.store hb ho).1, (h.store hb ho).2⟩
  · have e : Ov.putF room l m = (9, l) := by unfold Ov.putF; rw [if_pos h1]
    rw [e]
    exact ⟨rfl, h.same hb⟩

end Go.Proofs.YtomiepknmmpflaaGreatDoor

namespace Go.Proofs.YtomiepknmmpflaaGreatDoor
open Go.RowKit Go.Joins

def tOut (rest : ByteArray) (m : Nat) : ByteArray := if rest.size < m then ⟨#[]⟩ else rest.extract 0 m
def tRest (rest : ByteArray) (m : Nat) : ByteArray := if rest.size < m then ⟨#[]⟩ else rest.extract m rest.size
def tShort (rest : ByteArray) (sh : Bool) (m : Nat) : Bool := if rest.size < m then true else sh
def tNum (rest : ByteArray) : Nat := if rest.size < 1 then 0 else Ov.byteAt rest 0
structure RD (r : Nat) (rest : ByteArray) (sh : Bool) (w w' : World) : Prop where
  blk : w'.heap[r]? = some (.cells #[.string rest, .bool sh] 170 (0, 0))
  grown : w.grownBy w' (some r)
  size : w'.heap.size = w.heap.size
theorem tNum_lt (rest : ByteArray) : tNum rest < 256 := by
  unfold tNum; split
  · omega
  · exact Ov.byteAt_lt _ _

set_option maxRecDepth 100000 in
set_option maxHeartbeats 400000 in
theorem otext_calls (rest : ByteArray) (sh : Bool) (m r : Nat) (w : World) (h : w.heap[r]? = some (.cells #[.string rest, .bool sh] 170 (0, 0))) :
    Calls Tryz.prog 99 #[.pointer (some ⟨r, 0, none⟩), .int .i64 m] w fun e w' => e = .returned (.string (tOut rest m)) ∧ RD r (tRest rest m) (tShort rest sh m) w w' := by
  have c0 : w.cell? ⟨r, 0, none⟩ = some (.string rest) := blk_cell h rfl
  have c1 : w.cell? ⟨r, 1, none⟩ = some (.bool sh) := blk_cell h rfl
  have f0 := blk_frozen h
  have H := hide h
  clear h
  by_cases hm : rest.size < m
  · have e1 : Hid (tOut rest m = ⟨#[]⟩) := by unfold tOut; rw [if_pos hm]; exact rfl
    have e2 : Hid (tRest rest m = ⟨#[]⟩) := by unfold tRest; rw [if_pos hm]; exact rfl
    have e3 : Hid (tShort rest sh m = true) := by unfold tShort; rw [if_pos hm]; exact rfl
    go_enter Tryz.func99, Tryz.ntmps99
    go_wp2
    go_ret
    exact ⟨by rw [unhide e1]; rfl, by rw [unhide e2, unhide e3]; exact ⟨blk_set_same (i := 1) (blk_set_same (i := 0) (unhide H) _) _, grown_trans (grown_set w r 0 _) (grown_set _ r 1 _), by simp⟩⟩
  · have e1 : Hid (tOut rest m = rest.extract 0 m) := by unfold tOut; rw [if_neg hm]; exact rfl
    have e2 : Hid (tRest rest m = rest.extract m rest.size) := by unfold tRest; rw [if_neg hm]; exact rfl
    have e3 : Hid (tShort rest sh m = sh) := by unfold tShort; rw [if_neg hm]; exact rfl
    go_enter Tryz.func99, Tryz.ntmps99
    go_wp2
    go_ret
    exact ⟨by rw [unhide e1]; rfl, by rw [unhide e2, unhide e3]; exact ⟨blk_set_same (i := 0) (unhide H) _, grown_set w r 0 _, by simp⟩⟩

theorem tOut_one_size {rest : ByteArray} (h : ¬ rest.size < 1) : (tOut rest 1).size = 1 := by
  unfold tOut; rw [if_neg h, ByteArray.size_extract]; omega
theorem tOut_one_byte {rest : ByteArray} (h : ¬ rest.size < 1) : Ov.byteAt (tOut rest 1) 0 = Ov.byteAt rest 0 := by
  unfold tOut; rw [if_neg h]
  unfold Ov.byteAt
  rw [Lib.extract_data]
  have hl : 1 ≤ rest.data.toList.length := by simpa using (show 1 ≤ rest.size by omega)
  match hd : rest.data.toList, hl with
  | a :: r, _ => simp

set_option maxRecDepth 100000 in
set_option maxHeartbeats 400000 in
theorem onumber_calls (rest : ByteArray) (sh : Bool) (r : Nat) (w : World) (h : w.heap[r]? = some (.cells #[.string rest, .bool sh] 170 (0, 0))) :
    Calls Tryz.prog 100 #[.pointer (some ⟨r, 0, none⟩)] w fun e w' => e = .returned (.int .i64 (tNum rest : Nat)) ∧ RD r (tRest rest 1) (tShort rest sh 1) w w' := by
  have H := hide h
  have hc := fun w' => otext_calls rest sh 1 r w'
  have HC := hide hc
  clear h hc
  by_cases hm : rest.size < 1
  · have e1 : tOut rest 1 = ⟨#[]⟩ := by unfold tOut; rw [if_pos hm]
    have e4 : Hid (tNum rest = 0) := by unfold tNum; rw [if_pos hm]; exact rfl
    go_enter Tryz.func100, Tryz.ntmps100
    go_wp2_with (go_at_call 99; refine (unhide HC _ (unhide H)).mono ?_; rintro e w1 ⟨rfl, hr⟩)
    go_ret
    exact ⟨by rw [unhide e4]; rfl, hr⟩
  · have e4 : Hid (tNum rest = Ov.byteAt rest 0) := by unfold tNum; rw [if_neg hm]; exact rfl
    obtain ⟨t, ht⟩ : ∃ t, tOut rest 1 = t := ⟨_, rfl⟩
    have hts : t.size = 1 := by rw [← ht]; exact tOut_one_size hm
    have htb : Ov.byteAt t 0 = Ov.byteAt rest 0 := by rw [← ht]; exact tOut_one_byte hm
    have hby := Ov.byteAt_eq t
    have hte : t.toList.isEmpty = false := by rw [ByteArray.toList_eq, ← Bool.not_eq_true, List.isEmpty_iff_length_eq_zero]; simpa using (show t.size ≠ 0 by omega)
    have hlt := Ov.byteAt_lt rest 0
    have hge : 1 ≤ t.size := by omega
    clear hts
    go_enter Tryz.func100, Tryz.ntmps100
    go_wp2_with (go_at_call 99; refine (unhide HC _ (unhide H)).mono ?_; rintro e w1 ⟨rfl, hr⟩)
    go_ret
    exact ⟨by rw [unhide e4]; rfl, hr⟩

end Go.Proofs.YtomiepknmmpflaaGreatDoor

namespace Go.Proofs.YtomiepknmmpflaaGreatDoor
open Go.RowKit Go.Joins

def after (s : ByteArray) (i : Nat) : ByteArray := s.extract i s.size
theorem bytes_ext {a b : ByteArray} (h : a.data.toList = b.data.toList) : a = b := Go.WideShapes.bytes_inj h
theorem after_zero (s : ByteArray) : after s 0 = s := bytes_ext (by unfold after; rw [Lib.extract_data, List.drop_zero, List.take_of_length_le (by simp)])
theorem after_size (s : ByteArray) (i : Nat) : (after s i).size = s.size - i := by unfold after; rw [ByteArray.size_extract]; omega
theorem after_data (s : ByteArray) (i : Nat) : (after s i).data.toList = s.data.toList.drop i := by
  unfold after; rw [Lib.extract_data, List.take_of_length_le (by simp)]
section
variable {s : ByteArray} {i m : Nat}
theorem tOut_after (h : i + m ≤ s.size) : tOut (after s i) m = s.extract i (i + m) := by
  unfold tOut
  rw [if_neg (by rw [after_size]; omega)]
  refine bytes_ext ?_
  rw [Lib.extract_data, Lib.extract_data, after_data, List.drop_zero]
  congr 1; omega
theorem tRest_after (h : i + m ≤ s.size) : tRest (after s i) m = after s (i + m) := by
  unfold tRest
  rw [if_neg (by rw [after_size]; omega)]
  refine bytes_ext ?_
  rw [after_data, Lib.extract_data, after_data, List.drop_drop, List.take_of_length_le (by rw [after_size]; simp; omega)]
theorem tShort_after (sh : Bool) (h : i + m ≤ s.size) : tShort (after s i) sh m = sh := by
  unfold tShort; rw [if_neg (by rw [after_size]; omega)]
theorem tShort_over (sh : Bool) (hi : i ≤ s.size) (h : ¬ i + m ≤ s.size) : tShort (after s i) sh m = true := by
  unfold tShort; rw [if_pos (by rw [after_size]; omega)]
theorem tNum_after (h : i + 1 ≤ s.size) : tNum (after s i) = Ov.byteAt s i := by
  unfold tNum
  rw [if_neg (by rw [after_size]; omega)]
  unfold Ov.byteAt
  rw [after_data, List.getD_eq_getElem?_getD, List.getElem?_drop, List.getD_eq_getElem?_getD, Nat.add_zero]
end
theorem tShort_true (rest : ByteArray) (m : Nat) : tShort rest true m = true := by unfold tShort; split <;> rfl

structure Parts where
  mark : ByteArray
  size : Nat
  backing : ByteArray
  entries : ByteArray
  many : Nat
  data : ByteArray
  rest : ByteArray
  short : Bool
def parts (s : ByteArray) : Parts :=
  let r1 := tRest s 3
  let h1 := tShort s false 3
  let r2 := tRest r1 1
  let h2 := tShort r1 h1 1
  let r3 := tRest r2 1
  let h3 := tShort r2 h2 1
  let r4 := tRest r3 (tNum r2)
  let h4 := tShort r3 h3 (tNum r2)
  let r5 := tRest r4 (tNum r1)
  let h5 := tShort r4 h4 (tNum r1)
  let r6 := tRest r5 1
  let h6 := tShort r5 h5 1
  { mark := tOut s 3, size := tNum r1, backing := tOut r3 (tNum r2), entries := tOut r4 (tNum r1), many := tNum r5, data := tOut r6 (tNum r5 * 8), rest := tRest r6 (tNum r5 * 8), short := tShort r6 h6 (tNum r5 * 8) }

def fits (s : ByteArray) : Prop := Ov.base s ≤ s.size ∧ Ov.base s + Ov.datas s * 8 ≤ s.size
theorem parts_fit {s : ByteArray} (h : fits s) : parts s = { mark := s.extract 0 3, size := Ov.many s, backing := Ov.backing s, entries := s.extract (5 + Ov.long s) (5 + Ov.long s + Ov.many s), many := Ov.datas s, data := s.extract (Ov.base s) (Ov.base s + Ov.datas s * 8), rest := after s (Ov.base s + Ov.datas s * 8), short := false } := by
  obtain ⟨h1, h2⟩ := h
  unfold Ov.base at h1 h2
  have e0 := after_zero s
  unfold parts
  have a1 : tRest s 3 = after s 3 := by conv => lhs; rw [← e0]
                                        rw [tRest_after (by omega)]
  have s1 : tShort s false 3 = false := by conv => lhs; rw [← e0]
                                           rw [tShort_after _ (by omega)]
  have m1 : tOut s 3 = s.extract 0 3 := by conv => lhs; rw [← e0]
                                           rw [tOut_after (by omega)]
  simp only [a1, s1, m1]
  rw [tNum_after (i := 3) (by omega), tRest_after (i := 3) (m := 1) (by omega), tShort_after (i := 3) (m := 1) false (by omega)]
  rw [tNum_after (i := 4) (by omega), tRest_after (i := 4) (m := 1) (by omega), tShort_after (i := 4) (m := 1) false (by omega)]
  have em : Ov.byteAt s 3 = Ov.many s := rfl
  have el : Ov.byteAt s 4 = Ov.long s := rfl
  rw [em, el]
  rw [tOut_after (i := 5) (m := Ov.long s) (by omega), tRest_after (i := 5) (m := Ov.long s) (by omega), tShort_after (i := 5) (m := Ov.long s) false (by omega)]
  rw [tOut_after (i := 5 + Ov.long s) (m := Ov.many s) (by omega), tRest_after (i := 5 + Ov.long s) (m := Ov.many s) (by omega), tShort_after (i := 5 + Ov.long s) (m := Ov.many s) false (by omega)]
  have ed : tNum (after s (5 + Ov.long s + Ov.many s)) = Ov.datas s := tNum_after (by omega)
  rw [ed, tRest_after (i := 5 + Ov.long s + Ov.many s) (m := 1) (by omega), tShort_after (i := 5 + Ov.long s + Ov.many s) (m := 1) false (by omega)]
  have eb : 5 + Ov.long s + Ov.many s + 1 = Ov.base s := rfl
  rw [eb] at h2 ⊢
  rw [tOut_after (i := Ov.base s) (m := Ov.datas s * 8) (by omega), tRest_after (i := Ov.base s) (m := Ov.datas s * 8) (by omega), tShort_after (i := Ov.base s) (m := Ov.datas s * 8) false (by omega)]
  rfl

theorem parts_short {s : ByteArray} (h : ¬ fits s) : (parts s).short = true := by
  have e0 := after_zero s
  have em : Ov.byteAt s 3 = Ov.many s := rfl
  have el : Ov.byteAt s 4 = Ov.long s := rfl
  unfold fits at h
  unfold parts
  show tShort _ _ _ = true
  by_cases c1 : 3 ≤ s.size
  case neg =>
    have s1 : tShort s false 3 = true := by conv => lhs; rw [← e0]
                                            rw [tShort_over _ (by omega) (by omega)]
    simp only [s1, tShort_true]
  have a1 : tRest s 3 = after s 3 := by conv => lhs; rw [← e0]
                                        rw [tRest_after (by omega)]
  have s1 : tShort s false 3 = false := by conv => lhs; rw [← e0]
                                           rw [tShort_after _ (by omega)]
  simp only [a1, s1]
  by_cases c2 : 4 ≤ s.size
  case neg => simp only [tShort_over (s := s) (i := 3) (m := 1) false (by omega) (by omega), tShort_true]
  rw [tNum_after (i := 3) (by omega), tRest_after (i := 3) (m := 1) (by omega), tShort_after (i := 3) (m := 1) false (by omega)]
  by_cases c3 : 5 ≤ s.size
  case neg => simp only [tShort_over (s := s) (i := 4) (m := 1) false (by omega) (by omega), tShort_true, Nat.reduceAdd]
  rw [tNum_after (i := 4) (by omega), tRest_after (i := 4) (m := 1) (by omega), tShort_after (i := 4) (m := 1) false (by omega), em, el]
  by_cases c4 : 5 + Ov.long s ≤ s.size
  case neg => simp only [tShort_over (s := s) (i := 5) (m := Ov.long s) false (by omega) (by omega), tShort_true, Nat.reduceAdd]
  rw [tRest_after (i := 5) (m := Ov.long s) (by omega), tShort_after (i := 5) (m := Ov.long s) false (by omega)]
  by_cases c5 : 5 + Ov.long s + Ov.many s ≤ s.size
  case neg => simp only [tShort_over (s := s) (i := 5 + Ov.long s) (m := Ov.many s) false (by omega) (by omega), tShort_true]
  rw [tRest_after (i := 5 + Ov.long s) (m := Ov.many s) (by omega), tShort_after (i := 5 + Ov.long s) (m := Ov.many s) false (by omega)]
  by_cases c6 : 5 + Ov.long s + Ov.many s + 1 ≤ s.size
  case neg => simp only [tShort_over (s := s) (i := 5 + Ov.long s + Ov.many s) (m := 1) false (by omega) (by omega), tShort_true]
  have ed : tNum (after s (5 + Ov.long s + Ov.many s)) = Ov.datas s := tNum_after (by omega)
  have eb : 5 + Ov.long s + Ov.many s + 1 = Ov.base s := rfl
  rw [ed, tRest_after (i := 5 + Ov.long s + Ov.many s) (m := 1) (by omega), tShort_after (i := 5 + Ov.long s + Ov.many s) (m := 1) false (by omega), eb]
  rw [eb] at c6
  exact tShort_over (s := s) (i := Ov.base s) (m := Ov.datas s * 8) false (by omega) (fun hc => h ⟨c6, hc⟩)

def headB (s : ByteArray) : Prop := (parts s).short = false ∧ (parts s).rest.size = 0 ∧ (parts s).mark.toList = [79, 86, 1] ∧ 1 ≤ (parts s).size ∧ (parts s).size ≤ 30 ∧ ((parts s).backing.size = 0 ∨ Ov.nameB (parts s).backing = true) ∧ (parts s).many ≤ 60
theorem mark_iff {s : ByteArray} (h : 5 ≤ s.size) : (s.extract 0 3).toList = [79, 86, 1] ↔ Ov.byteAt s 0 = 79 ∧ Ov.byteAt s 1 = 86 ∧ Ov.byteAt s 2 = 1 := by
  rw [ByteArray.toList_eq, Lib.extract_data]
  have hl : 5 ≤ s.data.toList.length := by simpa using h
  unfold Ov.byteAt
  match hd : s.data.toList, hl with
  | a :: b :: c :: r, _ =>
    simp only [List.drop_zero, Nat.sub_zero, List.take_succ_cons, List.take_zero, List.cons.injEq, and_true, List.getD_cons_zero, List.getD_cons_succ]
    constructor
    · rintro ⟨rfl, rfl, rfl⟩; exact ⟨rfl, rfl, rfl⟩
    · rintro ⟨h1, h2, h3⟩; exact ⟨UInt8.toNat_inj.1 h1, UInt8.toNat_inj.1 h2, UInt8.toNat_inj.1 h3⟩
theorem head_iff (s : ByteArray) : headB s ↔ Ov.headOk s := by
  by_cases hf : fits s
  · have hp := parts_fit hf
    obtain ⟨f1, f2⟩ := hf
    have h5 : 5 ≤ s.size := by unfold Ov.base at f1; omega
    have hbs : (Ov.backing s).size = Ov.long s := by
      unfold Ov.backing; rw [ByteArray.size_extract]; unfold Ov.base at f1; omega
    unfold headB Ov.headOk
    rw [hp]
    simp only [after_size, mark_iff h5]
    constructor
    · rintro ⟨_, h2, ⟨m0, m1, m2⟩, h4, h5', h6, h7⟩
      have hlong : Ov.long s ≤ 8 := by
        rcases h6 with h6 | h6
        · omega
        · have := Ov.nameB_size h6; omega
      exact ⟨h5, m0, m1, m2, h4, h5', hlong, f1, fun h0 => by rcases h6 with h6 | h6; (omega); exact h6, h7, by omega⟩
    · rintro ⟨_, m0, m1, m2, h4, h5', h6, _, h8, h9, h10⟩
      refine ⟨trivial, by omega, ⟨m0, m1, m2⟩, h4, h5', ?_, h9⟩
      by_cases h0 : 0 < Ov.long s
      · exact Or.inr (h8 h0)
      · exact Or.inl (by omega)
  · have hs := parts_short hf
    constructor
    · intro h; rw [h.1] at hs; cases hs
    · intro h; exact absurd ⟨h.2.2.2.2.2.2.2.1, by have := h.2.2.2.2.2.2.2.2.2.2; omega⟩ hf

end Go.Proofs.YtomiepknmmpflaaGreatDoor

namespace Go.Proofs.YtomiepknmmpflaaGreatDoor
open Go.RowKit Go.Joins

def noKinds (n : Nat) : List Int := List.replicate n 0
def noBlocks (n : Nat) : List ByteArray := List.replicate n ⟨#[]⟩
def blank (bk : ByteArray) (n : Nat) : ByteArray := encode bk (noKinds n) (noBlocks n)
def makeF (room : Nat) (l : Ov.Files) (x : ByteArray) (n : Int) (bk : ByteArray) : Int × Ov.Files :=
  if Ov.nameB x = false then (2, l)
  else if n < 1 ∨ 30 < n ∨ l.length = 8 then (1, l)
  else if Ov.place l x < l.length then (3, l)
  else if bk.size ≠ 0 ∧ Ov.soundF l bk ≠ 0 then (Ov.soundF l bk, l)
  else Ov.putF room l (Ov.withF l x (blank bk n.toNat))
theorem noKinds_getD (n k : Nat) : (noKinds n).getD k 0 = 0 := by
  unfold noKinds
  rw [List.getD_eq_getElem?_getD, List.getElem?_replicate]
  split <;> rfl
theorem noBlocks_getD (n k : Nat) : (noBlocks n).getD k ⟨#[]⟩ = ⟨#[]⟩ := by
  unfold noBlocks
  rw [List.getD_eq_getElem?_getD, List.getElem?_replicate]
  split <;> rfl
theorem encode_size (bk : ByteArray) (ks : List Int) (bs : List ByteArray) (hb : ∀ j, j < ks.length → (bs.getD j ⟨#[]⟩).size ≤ 8) : (encode bk ks bs).size ≤ 6 + bk.size + ks.length + 8 * ks.length := by
  unfold encode
  have := encB_size ks bs ks.length hb
  have h1 : (strOfNums [(encN ks ks.length : Int)]).size = 1 := strOfNums_size _
  rw [ByteArray.size_append, ByteArray.size_append, encF_size, h1]
  omega
theorem blank_size {bk : ByteArray} {n : Nat} (hb : bk.size ≤ 8) (hn : n ≤ 30) : (blank bk n).size ≤ 1000 := by
  have := encode_size bk (noKinds n) (noBlocks n) (fun j _ => by rw [noBlocks_getD]; exact Nat.zero_le _)
  unfold blank
  simp only [noKinds, List.length_replicate] at this ⊢
  omega
def zInts (n : Nat) : Array Value := madeCells (Value.int .i64 0).cells (n * 1)
def zTexts (n : Nat) : Array Value := madeCells (Value.string ⟨#[]⟩).cells (n * 1)
end Go.Proofs.YtomiepknmmpflaaGreatDoor

namespace Go.Proofs.YtomiepknmmpflaaGreatDoor
open Go.RowKit Go.Joins

end Go.Proofs.YtomiepknmmpflaaGreatDoor

namespace Go.Proofs.YtomiepknmmpflaaGreatDoor
open Go.RowKit Go.Joins

theorem RefRep.new (w : World) (n : Nat) : RefRep (w.alloc (.cells #[.int .i64 n, .slice none 0 0] 180)) w.heap.size n [] :=
  ⟨_, by show (w.heap.push _)[w.heap.size]? = _; simp, World.ownsRow_nil _ _ _ _, by simp [Value.ownBlock]⟩

end Go.Proofs.YtomiepknmmpflaaGreatDoor

