/- Decode, where the head of the file is not that of an image; and Decode whole. -/
import Derived.Test.YtomiepknmmpflaaGreatDoorKWDecode
namespace Go.Proofs.YtomiepknmmpflaaGreatDoor
open Go.RowKit Go.Joins

end Go.Proofs.YtomiepknmmpflaaGreatDoor

