/- The contract of the document's Check of records. -/
import Derived.Test.YtkomfenjeoaelaaDoorSampleRec
set_option maxRecDepth 20000
namespace Go.Proofs.YtkomfenjeoaelaaDoor
open Go.RowKit Go.Proofs.YtkomfenjeoaelaaDoor.Vi Go.Proofs.YtkomfenjeoaelaaDoor.Mk


end Go.Proofs.YtkomfenjeoaelaaDoor
