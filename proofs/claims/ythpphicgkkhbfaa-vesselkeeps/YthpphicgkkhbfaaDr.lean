/- The document's own calls on lists: In, Ints, and Ints of unequal ones. -/
import Derived.Test.YthpphicgkkhbfaaDs
import Derived.Test.YthpphicgkkhbfaaQh
import Derived.BigQuiet
namespace Go.Proofs.Ythpphicgkkhbfaa
set_option linter.unusedSimpArgs false
set_option linter.unusedVariables false
set_option linter.unnecessarySimpa false
open Go.RowKit

end Go.Proofs.Ythpphicgkkhbfaa
