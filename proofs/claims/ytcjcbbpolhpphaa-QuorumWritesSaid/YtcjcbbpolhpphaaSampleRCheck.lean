/- The contract of the document's Check of records. -/
import Derived.Test.YtcjcbbpolhpphaaSampleRec
set_option maxRecDepth 20000
namespace Go.Proofs.Ytcjcbbpolhpphaa
open Go.RowKit Go.Proofs.Ytcjcbbpolhpphaa.Vi Go.Proofs.Ytcjcbbpolhpphaa.Mk


end Go.Proofs.Ytcjcbbpolhpphaa
