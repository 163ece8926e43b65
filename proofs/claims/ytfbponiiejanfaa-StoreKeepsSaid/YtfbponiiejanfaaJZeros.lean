/-
  Bytes of 0, made.
-/
import Derived.Test.YtfbponiiejanfaaJSame
namespace Go.Proofs.Ytfbponiiejanfaa
open Go.RowKit Go.Shelf
set_option linter.unusedVariables false
set_option linter.unusedSimpArgs false

/-- So many bytes of 0. -/
def zeros (n : Nat) : ByteArray := txt (List.replicate n 0)
theorem zeros_size (n : Nat) : (zeros n).size = n := by rw [zeros, txt_size, List.length_replicate]
theorem holds_zeros {w : World} {base g n : Nat} (h : w.ownsRow base 5 1 (.slice (some ⟨g, 0, none⟩) n n) n (madeCells (Value.int .u8 0).cells (n * 1)).toList) : Holds w g 0 (List.replicate n 0) := by
  intro j hj
  rw [List.length_replicate] at hj
  rw [Nat.zero_add, h.cellAt j (by omega)]
  simp [madeCells, Value.cells, hj, Nat.mod_one]
end Go.Proofs.Ytfbponiiejanfaa
