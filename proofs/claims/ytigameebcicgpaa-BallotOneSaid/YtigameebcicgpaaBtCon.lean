/-
  The contracts of package ballot, all together.
-/
import Derived.Test.YtigameebcicgpaaBtCast
import Derived.Test.YtigameebcicgpaaBtDec
import Derived.Test.YtigameebcicgpaaBtNext
namespace Go.Proofs.Ytigameebcicgpaa
end Go.Proofs.Ytigameebcicgpaa
