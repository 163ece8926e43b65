/-
  A list of texts that was handed in; a text's first hundred bytes.
-/
import Derived.Test.YtfbponiiejanfaaJSame
namespace Go.Proofs.Ytfbponiiejanfaa
open Go.RowKit Go.Shelf
set_option linter.unusedVariables false
set_option linter.unusedSimpArgs false

/-- A list of texts that was handed in. -/
def TextsA (w : World) (v : Value) (ss : List ByteArray) : Prop :=
  (v = .slice none 0 0 ∧ ss = []) ∨ ∃ (a : Addr) (c : Nat), v = .slice (some a) ss.length c ∧ ∀ j (h : j < ss.length), w.cell? (a.add j) = some (.string ss[j])
theorem add_block (a : Addr) (j : Nat) : (a.add j).block = a.block := by
  simp only [Addr.add]
  split <;> rfl
theorem cell_block {w : World} {a : Addr} {j : Nat} {v : Value} (h : w.cell? (a.add j) = some v) : a.block < w.heap.size := by
  have := World.block_lt_of_cell? w (a.add j) h
  rwa [add_block] at this
theorem TextsA.below {w w' : World} {v : Value} {ss : List ByteArray} {n : Nat} (h : TextsA w v ss) (hb : Below n w w') (hn : w.heap.size ≤ n) : TextsA w' v ss := by
  rcases h with h | ⟨a, c, rfl, hx⟩
  · exact .inl h
  · exact .inr ⟨a, c, rfl, fun j hj => (hb.cell (p := a.add j) (by rw [add_block]; have := cell_block (hx j hj); omega)).trans (hx j hj)⟩
/-- A text's first hundred bytes. -/
def hun (s : ByteArray) : ByteArray := s.extract 0 (min (s.size : Int) 100).toNat
theorem hun_size (s : ByteArray) : (hun s).size ≤ 100 := by rw [hun, ByteArray.size_extract]; omega
end Go.Proofs.Ytfbponiiejanfaa
