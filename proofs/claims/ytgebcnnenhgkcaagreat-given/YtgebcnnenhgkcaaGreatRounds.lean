/- A region that draws, within a round: walked as outside of one. -/
import Derived.Test.YtgebcnnenhgkcaaGreatAlone
import Derived.Test.YtgebcnnenhgkcaaGreatHeld
namespace Go.Proofs.YtgebcnnenhgkcaaGreat
open Go.RowKit Go.Shelf

end Go.Proofs.YtgebcnnenhgkcaaGreat
