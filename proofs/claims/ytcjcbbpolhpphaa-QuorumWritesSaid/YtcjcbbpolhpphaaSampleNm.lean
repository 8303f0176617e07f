/- The contracts of the program's letter, digit, isTime and Name. -/
import Derived.Test.YtcjcbbpolhpphaaSampleName
set_option maxRecDepth 20000
namespace Go.Proofs.Ytcjcbbpolhpphaa
open Go.RowKit Go.Proofs.Ytcjcbbpolhpphaa.Vi

end Go.Proofs.Ytcjcbbpolhpphaa
