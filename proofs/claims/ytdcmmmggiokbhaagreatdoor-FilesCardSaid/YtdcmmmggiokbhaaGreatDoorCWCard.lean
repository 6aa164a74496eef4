/- Proved: for every script of steps and every room, the law Files returns true, and its arguments read behind the call as they read before (the tied card: the listed package-level variables start as the program's text lays them). -/
import Derived.Test.YtdcmmmggiokbhaaGreatDoorCWRow
import Derived.Test.YtdcmmmggiokbhaaGreatDoorCWLaw3
import Derived.Test.YtdcmmmggiokbhaaGreatDoorCards
import Derived.Test.YtdcmmmggiokbhaaGreatDoorTie
import Derived.SevenTiedAt
namespace Go.Proofs.YtdcmmmggiokbhaaGreatDoor
open Go

theorem steps_true : StepsTrue := fun s0 s1 s2 s3 B wb v S k W x y nm ot tx w1 h k7 n x1 x2 => lstep_calls w1 B wb s0 s1 s2 s3 v S k W x y nm ot tx h k7 n x1 x2
theorem files_holds : Rows.FilesSaid := files_holds_of steps_true
theorem filesCard_holds : Rows.FilesCardSaid :=
  Claim7.holds_tied_plain_at .later [] [.data, .data, .data, .handle, .sentinel, .sentinel, .sentinel, .sentinel] true (true, "508866388f8a4ac4e1609c1c1bfd916fb3a7dfc2dc149ec3c7464e9eaf3b36b4") true
    files_holds (fun _ h => by cases h) (by kernel_rfl) (fun _ h => by cases h) files_row_tie rfl ⟨rfl, rfl⟩ (by kernel_rfl) rfl
    (fun f fn hf hfn => by
      obtain rfl : f = 3 := Option.some.inj ((show Tryz.prog.funcNamed "overlay/overlaylaw.Files" = some 3 by kernel_rfl).symm.trans hf) |>.symm
      obtain rfl : fn = Tryz.f3 := (Option.some.inj (Tryz.func3.symm.trans hfn)).symm
      exact ⟨by kernel_rfl, fun j t ht => by
        rw [Tryz.params3] at ht
        have hm : t ∈ [22, 3] := by simpa using Array.mem_of_getElem? ht
        have hall : ([22, 3].all fun u => !Tryz.prog.wantsStandIn u) = true := by kernel_rfl
        exact (show Tryz.prog.wantsStandIn t = false by simpa using List.all_eq_true.1 hall t hm)⟩)
    (by kernel_rfl)
#print axioms filesCard_holds

end Go.Proofs.YtdcmmmggiokbhaaGreatDoor
