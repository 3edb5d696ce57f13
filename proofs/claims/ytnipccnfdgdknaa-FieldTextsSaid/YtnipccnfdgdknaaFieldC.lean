/-
  What the functions of package field return (all of them).
-/
import Derived.Test.YtnipccnfdgdknaaFieldA
import Derived.Test.YtnipccnfdgdknaaFieldB
import Derived.Test.YtnipccnfdgdknaaFieldT
import Derived.Test.YtnipccnfdgdknaaFieldQ
