/- The walk of the reference's Commit. -/
import Derived.Test.YtomiepknmmpflaaGreatDoorKWCommit
namespace Go.Proofs.YtomiepknmmpflaaGreatDoor
open Go.RowKit Go.Joins

end Go.Proofs.YtomiepknmmpflaaGreatDoor

