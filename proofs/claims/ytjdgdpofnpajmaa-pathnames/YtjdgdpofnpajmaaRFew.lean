/-
  Contract of the reference's Few: the first bytes, in a row of its own.
-/
import Derived.Test.YtjdgdpofnpajmaaRows
import Derived.Test.YtjdgdpofnpajmaaBase
import Derived.Outline
import Derived.Lib.Hide
namespace Go.Proofs.Ytjdgdpofnpajmaa
open Go.RowKit
set_option linter.unusedVariables false

theorem byte_info : (Try.prog.info? 5).map (fun i => (i.zero, i.size, i.bytes)) = some (some (.int .u8 0), 1, 1) := by kernel_rfl

end Go.Proofs.Ytjdgdpofnpajmaa
