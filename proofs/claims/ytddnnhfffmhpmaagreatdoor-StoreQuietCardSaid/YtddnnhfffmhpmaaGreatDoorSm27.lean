/- Own texts, merged (27 of 42). -/
import Derived.Test.YtddnnhfffmhpmaaGreatDoorSm26
import Derived.Test.YtddnnhfffmhpmaaGreatDoorSm4
import Derived.Deep.AppendLies

/- A change's bytes (the document's). -/
namespace Go.Proofs.YtddnnhfffmhpmaaGreatDoor.DocM
open Go.Proofs.YtddnnhfffmhpmaaGreatDoor
end Go.Proofs.YtddnnhfffmhpmaaGreatDoor.DocM
namespace Go.Proofs.YtddnnhfffmhpmaaGreatDoor.Do
open Go.RowKit Go.Proofs.YtddnnhfffmhpmaaGreatDoor DocM

end Go.Proofs.YtddnnhfffmhpmaaGreatDoor.Do
