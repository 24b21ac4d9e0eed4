/-
  What lockboxref02.Words returns: the three lengths.
-/
import Derived.Test.YtlcllolfadlgfaaDoorRef02W16
import Derived.Test.YtlcllolfadlgfaaDoorRef02W24
import Derived.Test.YtlcllolfadlgfaaDoorRef02W32
