/-
  What the document's helper of the first so many bytes returns: plain contracts.
-/
import Derived.Test.YtdoijbjmhnncdaaCom0
namespace Go.Proofs.Ytdoijbjmhnncdaa
open Go Go.RowKit
set_option linter.unusedVariables false
set_option linter.unusedSimpArgs false

end Go.Proofs.Ytdoijbjmhnncdaa
