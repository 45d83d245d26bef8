/-
  What telltaleref02's Formed answers of any list of stamps in memory.
  What telltaleref02's Join answers of any lists of stamps in memory.
  What telltaleref02's Two and With answer of any lists of stamps in memory.
  What telltaleref04's Copy answers of any note: the same, in memory of its own.
-/
import Derived.Test.YtbpgofgdlikedaaG07
import Derived.Test.YtbpgofgdlikedaaG02
import Derived.Test.YtbpgofgdlikedaaG04
import Derived.Test.YtbpgofgdlikedaaG06
namespace Go.Proofs.Ytbpgofgdlikedaa
open Go.RowKit

end Go.Proofs.Ytbpgofgdlikedaa
namespace Go.Proofs.Ytbpgofgdlikedaa
open Go.RowKit

end Go.Proofs.Ytbpgofgdlikedaa
namespace Go.Proofs.Ytbpgofgdlikedaa
open Go.RowKit

end Go.Proofs.Ytbpgofgdlikedaa
namespace Go.Proofs.Ytbpgofgdlikedaa
open Go.RowKit

theorem infoWr : (Try.prog.info? 27).map (fun i => (i.zero, i.size, i.bytes)) = some (some (.agg #[.int .i64 0, .int .i64 0, .int .i64 0, .bool false]), 4, 32) := by kernel_rfl

end Go.Proofs.Ytbpgofgdlikedaa
