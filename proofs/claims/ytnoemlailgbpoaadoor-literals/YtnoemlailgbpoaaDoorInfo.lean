/- Proved here: what a byte's type is like, by the program's own text. -/
import Derived.Test.YtnoemlailgbpoaaDoorRows
import Derived.Test.YtnoemlailgbpoaaDoorBitsPure
namespace Go.Proofs.YtnoemlailgbpoaaDoor
open Go.RowKit Go.Bel
theorem Tryd.info5 : (Tryd.prog.info? 5).map (fun i => (i.zero, i.size, i.bytes)) = some (some (.int .u8 0), 1, 1) := by kernel_rfl
end Go.Proofs.YtnoemlailgbpoaaDoor
