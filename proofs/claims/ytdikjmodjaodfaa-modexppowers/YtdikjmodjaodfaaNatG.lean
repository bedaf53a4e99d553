/-
  Contract of Read, over this seat's translation. Conditions: at most 100000 bytes.
-/
import Derived.Test.YtdikjmodjaodfaaNatF
import Derived.Test.YtdikjmodjaodfaaNatM4
namespace Go.Proofs.Ytdikjmodjaodfaa
open Go.RowKit
set_option linter.unusedVariables false

end Go.Proofs.Ytdikjmodjaodfaa
