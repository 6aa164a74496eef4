/- Proved: for every script of steps and every room, the law Files returns true, and its arguments read behind the call as they read before (the tied card: the listed package-level variables start as the program's text lays them). -/
import Derived.Test.YtomiepknmmpflaaGreatDoorCWRow2
import Derived.Test.YtomiepknmmpflaaGreatDoorCWLaw3
import Derived.Test.YtomiepknmmpflaaGreatDoorCards
import Derived.Test.YtomiepknmmpflaaGreatDoorTie
import Derived.SevenTiedAt
namespace Go.Proofs.YtomiepknmmpflaaGreatDoor
open Go

theorem steps_true : StepsTrue 7 := fun s0 s1 s2 s3 B wb v S k W x y nm ot tx w1 h k7 n hok => lstep_calls w1 B wb s0 s1 s2 s3 v S k W x y nm ot tx h k7 n hok
theorem files_holds : Rows.FilesSaid := files_holds_of steps_true
theorem filesCard_holds : Rows.FilesCardSaid :=
  Claim7.holds_tied_plain_at .later [] [.data, .data, .data, .handle, .sentinel, .sentinel, .sentinel, .sentinel] true (true, "34873f2a482a97758d30a5837472e1f87c78342c4418c177613717d84388174a") true
    files_holds (fun _ h => by cases h) (by kernel_rfl) (fun _ h => by cases h) files_row_tie rfl ⟨rfl, rfl⟩ (by kernel_rfl) rfl
    (fun f fn hf hfn => by
      obtain rfl : f = 3 := Option.some.inj ((show Tryz.prog.funcNamed "overlay/overlaylaw.Files" = some 3 by kernel_rfl).symm.trans hf) |>.symm
      obtain rfl : fn = Tryz.f3 := (Option.some.inj (Tryz.func3.symm.trans hfn)).symm
      exact ⟨by kernel_rfl, fun j t ht => by
        rw [Tryz.params3] at ht
        have hm : t ∈ [22, 3] := by simpa using Array.mem_of_getElem? ht
        have hall : ([22, 3].all fun u => !Tryz.prog.wantsStandIn u) = true := by kernel_rfl
        exact (show Tryz.prog.wantsStandIn t = false by simpa using List.all_eq_true.1 hall t hm)⟩)
    (by kernel_rfl)
#print axioms filesCard_holds

end Go.Proofs.YtomiepknmmpflaaGreatDoor
