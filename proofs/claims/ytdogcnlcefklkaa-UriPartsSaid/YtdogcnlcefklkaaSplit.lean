/- The reference's Split: a row of texts of the call's own. -/
import Derived.Test.YtdogcnlcefklkaaCut
namespace Go.Proofs.Ytdogcnlcefklkaa
open Go.RowKit

end Go.Proofs.Ytdogcnlcefklkaa
