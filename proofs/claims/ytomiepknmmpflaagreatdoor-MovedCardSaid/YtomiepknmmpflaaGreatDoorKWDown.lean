/- Decode whole. -/
import Derived.Test.YtomiepknmmpflaaGreatDoorKWDecode2
import Derived.Test.YtomiepknmmpflaaGreatDoorKPParse
import Derived.Test.YtomiepknmmpflaaGreatDoorKPDecode
import Derived.Test.YtomiepknmmpflaaGreatDoorKSpecS
namespace Go.Proofs.YtomiepknmmpflaaGreatDoor
open Go.RowKit Go.Joins

end Go.Proofs.YtomiepknmmpflaaGreatDoor

namespace Go.Proofs.YtomiepknmmpflaaGreatDoor
open Go.RowKit Go.Joins

def cntTo (ks : List Int) (v : Int) : Nat → Nat
  | 0 => 0
  | k + 1 => cntTo ks v k + if ks.getD k 0 = v then 1 else 0
theorem cntTo_le (ks : List Int) (v : Int) (k : Nat) : cntTo ks v k ≤ k := by
  induction k with
  | zero => simp [cntTo]
  | succ k ih => simp only [cntTo]; split <;> omega
theorem cntTo_two (ks : List Int) (k : Nat) : cntTo ks 1 k + cntTo ks 255 k ≤ k := by
  induction k with
  | zero => simp [cntTo]
  | succ k ih =>
    simp only [cntTo]
    by_cases h : ks.getD k 0 = 1
    · rw [if_pos h, if_neg (by omega)]; omega
    · rw [if_neg h]; split <;> omega
def comma : ByteArray := ⟨#[44]⟩
def tallyOf (d z o t : Nat) : ByteArray := dec d ++ comma ++ dec z ++ comma ++ dec o ++ comma ++ dec t
def tally (s : ByteArray) : ByteArray := tallyOf (cntTo (Ov.kindsTo s (Ov.many s)) 1 (Ov.many s)) (cntTo (Ov.kindsTo s (Ov.many s)) 255 (Ov.many s)) (Ov.many s - cntTo (Ov.kindsTo s (Ov.many s)) 1 (Ov.many s) - cntTo (Ov.kindsTo s (Ov.many s)) 255 (Ov.many s)) (Ov.lost s).toNat
def checkF (l : Ov.Files) (x : ByteArray) : ByteArray × Int :=
  if Ov.place l x < l.length then (if Ov.imageB (Ov.fileAt l (Ov.place l x)) = true then (tally (Ov.fileAt l (Ov.place l x)), 0) else (⟨#[]⟩, 5)) else (⟨#[]⟩, 4)

end Go.Proofs.YtomiepknmmpflaaGreatDoor

namespace Go.Proofs.YtomiepknmmpflaaGreatDoor
open Go.RowKit Go.Joins

end Go.Proofs.YtomiepknmmpflaaGreatDoor

