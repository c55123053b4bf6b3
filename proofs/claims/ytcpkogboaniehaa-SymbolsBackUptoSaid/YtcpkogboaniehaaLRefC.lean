/-
  The document's Compare: contract. Own text.
-/
import Derived.Test.YtcpkogboaniehaaLMem
import Derived.Deep.QuietTactic
import Derived.BigQuiet
namespace Go.Proofs.Ytcpkogboaniehaa.Lab
open Go.RowKit Go Go.Proofs.Ytcpkogboaniehaa.Base

end Go.Proofs.Ytcpkogboaniehaa.Lab
