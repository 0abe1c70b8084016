/- A region that draws, within a round: walked as outside of one. -/
import Derived.Test.YtmphfgcfkfpppaaGreatAlone
import Derived.Test.YtmphfgcfkfpppaaGreatHeld
namespace Go.Proofs.YtmphfgcfkfpppaaGreat
open Go.RowKit Go.Shelf

end Go.Proofs.YtmphfgcfkfpppaaGreat
