/- The contract of strings.Clone over this seat's translation: the same bytes. -/
import Derived.Test.YtkgagedjjjaofaaVintNum
import Derived.Lib.Strings
import Derived.Lib.Walk
import Derived.Lib.BufferWrite
import Derived.Lib.UnsafeStr
import Derived.Laws.MakeOwn
import Derived.Laws.AppendOwn
import Derived.Below
namespace Go.Proofs.Ytkgagedjjjaofaa
open Go.RowKit

theorem infoU : (Try.prog.info? 5).map (fun i => (i.zero, i.size, i.bytes)) = some (some (.int .u8 0), 1, 1) := by kernel_rfl

end Go.Proofs.Ytkgagedjjjaofaa
