/- The walk of the reference's Write. -/
import Derived.Test.YtomiepknmmpflaaGreatDoorKWOpenAt
namespace Go.Proofs.YtomiepknmmpflaaGreatDoor
open Go.RowKit Go.Joins

theorem bOld_size {s : ByteArray} (i : Nat) : (bOld s i).size ≤ 8 := by
  unfold bOld Ov.blockOf
  split
  · exact Nat.zero_le _
  · rw [ByteArray.size_extract]; omega
theorem backing_size {l : Ov.Files} {ns : List ByteArray} {x : ByteArray} (h : Ov.Chn l ns x) : (Ov.backing (fileOf l x)).size ≤ 8 := by
  have h8 : Ov.long (fileOf l x) ≤ 8 := h.image.1.2.2.2.2.2.2.1
  unfold Ov.backing
  rw [ByteArray.size_extract]
  omega
end Go.Proofs.YtomiepknmmpflaaGreatDoor

namespace Go.Proofs.YtomiepknmmpflaaGreatDoor
open Go.RowKit Go.Joins

theorem empty_of {d : ByteArray} (h : d.size = 0) : d.toList.isEmpty = true := by rw [ByteArray.toList_eq, List.isEmpty_iff_length_eq_zero]; simpa using h

end Go.Proofs.YtomiepknmmpflaaGreatDoor

namespace Go.Proofs.YtomiepknmmpflaaGreatDoor
open Go.RowKit Go.Joins

theorem noughts_str (k : Nat) : strOfNums (List.replicate k (0 : Int)) = noughtsF k := by
  unfold strOfNums noughtsF
  simp
end Go.Proofs.YtomiepknmmpflaaGreatDoor

namespace Go.Proofs.YtomiepknmmpflaaGreatDoor
open Go.RowKit Go.Joins

def someTo (f k n : Nat) : Bool := (List.range n).any fun i => decide (covered f k i)
theorem someTo_yes {f k n : Nat} (h : covered f k n) : someTo f k (n + 1) = true := by
  unfold someTo; rw [List.any_eq_true]; exact ⟨n, by simp, decide_eq_true h⟩
theorem someTo_no {f k n : Nat} (h : ¬ covered f k n) : someTo f k (n + 1) = someTo f k n := by
  unfold someTo; rw [List.range_succ, List.any_append]; simp [h]
theorem someTo_all (f k n : Nat) : ((List.range n).all (fun i => !decide (covered f k i)) = true) ↔ someTo f k n = false := by
  unfold someTo
  rw [List.all_eq_true, List.any_eq_false]
  constructor
  · intro h i hi e
    have := h i hi
    rw [e] at this
    cases this
  · intro h i hi
    rw [Bool.not_eq_true']
    exact Bool.eq_false_iff.2 (h i hi)

end Go.Proofs.YtomiepknmmpflaaGreatDoor

