/- The law's steps: step, with bytes. -/
import Derived.Test.YtomiepknmmpflaaGreatDoorCWLaw3
import Derived.Test.YtomiepknmmpflaaGreatDoorCWStepR
import Derived.Test.YtomiepknmmpflaaGreatDoorCWStepW
import Derived.Test.YtomiepknmmpflaaGreatDoorCWStepZ
import Derived.Test.YtomiepknmmpflaaGreatDoorCWStepD
import Derived.Test.YtomiepknmmpflaaGreatDoorCWStepC
import Derived.Test.YtomiepknmmpflaaGreatDoorCWStepB
import Derived.Test.YtomiepknmmpflaaGreatDoorCWStepF
import Derived.Test.YtomiepknmmpflaaGreatDoorCWStepM
import Derived.Test.YtomiepknmmpflaaGreatDoorCWRow4
import Derived.Test.YtomiepknmmpflaaGreatDoorCards
import Derived.Test.YtomiepknmmpflaaGreatDoorTie
import Derived.SevenTiedAt
namespace Go.Proofs.YtomiepknmmpflaaGreatDoor
open Go.RowKit Go.Joins

theorem lstepV_calls (w : World) (B wb : Nat) (s0 s1 s2 s3 : Addr) (v : Value) (S : List St) (k W n m : Int) (nm ot tx : ByteArray) (h : LW w B wb s0 s1 s2 s3 v S) (hk11 : k ≤ 11) (hS : S.length ≤ 5000000000000) (hok : OpOk W n m tx) :
    Calls Tryz.prog 41 #[.pointer (some ⟨wb, 0, none⟩), .agg #[.int .i64 k, .int .i64 W, .int .i64 n, .int .i64 m, .string nm, .string ot, .string tx]] w (StepPost B wb s0 s1 s2 s3 S.length w) := by
  by_cases h7 : k ≤ 7
  · exact lstep_calls w B wb s0 s1 s2 s3 v S k W n m nm ot tx h h7 hS hok
  by_cases h0 : S.length = 0
  · exact lstep_idle w B wb s0 s1 s2 s3 v S k W n m nm ot tx h (by omega) (Or.inl h0) hS
  have hk : k = 8 ∨ k = 9 ∨ k = 10 ∨ k = 11 := by omega
  rcases hk with rfl | rfl | rfl | rfl
  · exact lstep_read w B wb s0 s1 s2 s3 v S W n m nm ot tx h hS hok (by omega)
  · exact lstep_write w B wb s0 s1 s2 s3 v S W n m nm ot tx h hS hok (by omega)
  · exact lstep_zero w B wb s0 s1 s2 s3 v S W n m nm ot tx h hS hok (by omega)
  · exact lstep_discard w B wb s0 s1 s2 s3 v S W n m nm ot tx h hS hok (by omega)

end Go.Proofs.YtomiepknmmpflaaGreatDoor

namespace Go.Proofs.YtomiepknmmpflaaGreatDoor
open Go.RowKit Go.Joins

theorem lstepA_calls (w : World) (B wb : Nat) (s0 s1 s2 s3 : Addr) (v : Value) (S : List St) (k W n m : Int) (nm ot tx : ByteArray) (h : LW w B wb s0 s1 s2 s3 v S) (hk15 : k ≤ 15) (hS : S.length ≤ 5000000000000) (hok : OpOk W n m tx) :
    Calls Tryz.prog 41 #[.pointer (some ⟨wb, 0, none⟩), .agg #[.int .i64 k, .int .i64 W, .int .i64 n, .int .i64 m, .string nm, .string ot, .string tx]] w (StepPost B wb s0 s1 s2 s3 S.length w) := by
  by_cases h11 : k ≤ 11
  · exact lstepV_calls w B wb s0 s1 s2 s3 v S k W n m nm ot tx h h11 hS hok
  by_cases h0 : S.length = 0
  · exact lstep_idle w B wb s0 s1 s2 s3 v S k W n m nm ot tx h (by omega) (Or.inl h0) hS
  have hk : k = 12 ∨ k = 13 ∨ k = 14 ∨ k = 15 := by omega
  rcases hk with rfl | rfl | rfl | rfl
  · exact lstep_commit w B wb s0 s1 s2 s3 v S W n m nm ot tx h hS hok (by omega)
  · exact lstep_rebase w B wb s0 s1 s2 s3 v S W n m nm ot tx h hS hok (by omega)
  · exact lstep_flatten w B wb s0 s1 s2 s3 v S W n m nm ot tx h hS hok (by omega)
  · exact lstep_compare w B wb s0 s1 s2 s3 v S W n m nm ot tx h hS hok (by omega)

end Go.Proofs.YtomiepknmmpflaaGreatDoor

namespace Go.Proofs.YtomiepknmmpflaaGreatDoor
open Go

theorem stepsA_true : StepsTrue 15 := fun s0 s1 s2 s3 B wb v S k W x y nm ot tx w1 h k7 n hok => lstepA_calls w1 B wb s0 s1 s2 s3 v S k W x y nm ot tx h k7 n hok
theorem all_holds : Rows.AllSaid := all_holds_of stepsA_true
theorem allCard_holds : Rows.AllCardSaid :=
  Claim7.holds_tied_plain_at .later [] [.data, .data, .data, .handle, .sentinel, .sentinel, .sentinel, .sentinel] true (true, "34873f2a482a97758d30a5837472e1f87c78342c4418c177613717d84388174a") true
    all_holds (fun _ h => by cases h) (by kernel_rfl) (fun _ h => by cases h) all_row_tie rfl ⟨rfl, rfl⟩ (by kernel_rfl) rfl
    (fun f fn hf hfn => by
      obtain rfl : f = 13 := Option.some.inj ((show Tryz.prog.funcNamed "overlay/overlaylaw.All" = some 13 by kernel_rfl).symm.trans hf) |>.symm
      obtain rfl : fn = Tryz.f13 := (Option.some.inj (Tryz.func13.symm.trans hfn)).symm
      exact ⟨by kernel_rfl, fun j t ht => by
        rw [Tryz.params13] at ht
        have hm : t ∈ [22, 3] := by simpa using Array.mem_of_getElem? ht
        have hall : ([22, 3].all fun u => !Tryz.prog.wantsStandIn u) = true := by kernel_rfl
        exact (show Tryz.prog.wantsStandIn t = false by simpa using List.all_eq_true.1 hall t hm)⟩)
    (by kernel_rfl)
#print axioms allCard_holds

end Go.Proofs.YtomiepknmmpflaaGreatDoor

