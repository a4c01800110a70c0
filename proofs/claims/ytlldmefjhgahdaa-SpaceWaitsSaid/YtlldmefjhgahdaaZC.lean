/-
  All that the statements on pages' lists stand on, at once. Conditions: none.
-/
import Derived.Test.YtlldmefjhgahdaaZC3
import Derived.Test.YtlldmefjhgahdaaZC4
