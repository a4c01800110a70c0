/-
  All texts of layer 9 whose laws reach no document's disk.
-/
import Derived.Test.YtnmiccagkfpkiaaZC5
import Derived.Test.YtnmiccagkfpkiaaZC6
import Derived.Test.YtnmiccagkfpkiaaZC3
