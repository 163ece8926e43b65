/-
  frame.Turn and frame.Agreed walked through.
-/
import Derived.Test.YtphfnlgjiomjkaaDoorFrameDecode
import Derived.Test.YtphfnlgjiomjkaaDoorFrameRight2
import Derived.Test.YtphfnlgjiomjkaaDoorShelfClone
namespace Go.Proofs.YtphfnlgjiomjkaaDoor
open Go.RowKit Go.Shelf
attribute [local go_sem] Oper.semAt_some
set_option linter.unusedVariables false
set_option linter.unusedSimpArgs false

/-- What Turn answers. -/
def turnF (f : Fr) (n : Int) : Fr × Int := if f.Right then if ver n = true then (f.turn n, 0) else (Fr.nil, 22) else (Fr.nil, 20)
/-- What Agreed answers. -/
def agreedF (a b : Int) : Int × Int := if ver a = true ∧ ver b = true then (min a b, 0) else (0, 22)
end Go.Proofs.YtphfnlgjiomjkaaDoor
