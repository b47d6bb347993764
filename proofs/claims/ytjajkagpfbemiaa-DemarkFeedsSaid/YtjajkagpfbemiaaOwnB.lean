/-
  Rows of rows of bytes that the call has made.
-/
import Derived.Test.YtjajkagpfbemiaaMarkD
import Derived.Test.YtjajkagpfbemiaaRwb
