/-
  The walks of the document's New, may and put of acceptors.
-/
import Derived.Test.YtegdopbiiddamaaMa
namespace Go.Proofs.Ytegdopbiiddamaa
open Go.RowKit Go.Great
set_option linter.unusedVariables false
set_option linter.unusedSimpArgs false
set_option maxRecDepth 20000
theorem built_a (x : Int) : Try.prog.built 45 [(0, .int .i64 x)] = some (acs x none 0 0) := by kernel_rfl
def az : Array Value := acs 0 none 0 0
theorem az_is : az = #[.int .i64 0, .slice none 0 0] := rfl
end Go.Proofs.Ytegdopbiiddamaa
