/- The call of the statement StrokeSteps. -/
import Derived.Test.YtecfbncfhehdcaaDoorRF
namespace Go.Proofs.YtecfbncfhehdcaaDoor
open Go.RowKit
end Go.Proofs.YtecfbncfhehdcaaDoor

