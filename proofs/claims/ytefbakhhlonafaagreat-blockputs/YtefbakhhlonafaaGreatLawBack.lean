import Derived.Test.YtefbakhhlonafaaGreatLawPuts
import Derived.Test.YtefbakhhlonafaaGreatReader5

namespace Go.Proofs.YtefbakhhlonafaaGreat
open Go.RowKit Go.Proofs Go.Proofs.PipeM Go.Proofs.PipeA

end Go.Proofs.YtefbakhhlonafaaGreat
