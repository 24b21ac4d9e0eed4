/-
  What lockboxref02.Words returns: the three lengths.
-/
import Derived.Test.YtdmeeopfdmjmlaaDoorRef02W16
import Derived.Test.YtdmeeopfdmjmlaaDoorRef02W24
import Derived.Test.YtdmeeopfdmjmlaaDoorRef02W32
