/- The walk of the reference's Decode. -/
import Derived.Test.YtomiepknmmpflaaGreatDoorKPDecode
namespace Go.Proofs.YtomiepknmmpflaaGreatDoor
open Go.RowKit Go.Joins

end Go.Proofs.YtomiepknmmpflaaGreatDoor

