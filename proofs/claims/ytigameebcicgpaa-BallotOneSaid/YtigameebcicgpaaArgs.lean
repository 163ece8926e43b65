/-
  Addresses of a list that was handed in; a text's first hundred bytes; integers handed in.
-/
import Derived.Test.YtigameebcicgpaaRows
import Derived.WalkKit
namespace Go.Proofs.Ytigameebcicgpaa
open Go.RowKit
set_option linter.unusedVariables false
set_option linter.unusedSimpArgs false

theorem add_block (a : Addr) (j : Nat) : (a.add j).block = a.block := by
  simp only [Addr.add]
  split <;> rfl
theorem cell_block {w : World} {a : Addr} {j : Nat} {v : Value} (h : w.cell? (a.add j) = some v) : a.block < w.heap.size := by
  have := World.block_lt_of_cell? w (a.add j) h
  rwa [add_block] at this
/-- A text's first hundred bytes. -/
def hun (s : ByteArray) : ByteArray := s.extract 0 (min (s.size : Int) 100).toNat
theorem hun_size (s : ByteArray) : (hun s).size ≤ 100 := by rw [hun, ByteArray.size_extract]; omega
theorem i64_of_wf {n : Int} (h : (Lit.int .i64 n).wf = true) : -(2 ^ 63) ≤ n ∧ n ≤ 2 ^ 63 - 1 := by
  simp [Lit.wf, IntKind.min, IntKind.max, IntKind.signed, IntKind.bits] at h
  omega
theorem b32_of_wf {n : Int} (h : (Lit.int .u32 n).wf = true) : ∃ x : BitVec 32, n = (x.toNat : Int) := by
  simp [Lit.wf, IntKind.min, IntKind.max, IntKind.signed, IntKind.bits] at h
  exact ⟨BitVec.ofNat 32 n.toNat, by rw [BitVec.toNat_ofNat, Nat.mod_eq_of_lt (by omega)]; omega⟩
theorem u64_of_wf {n : Int} (h : (Lit.int .u64 n).wf = true) : ∃ x : Nat, n = (x : Int) ∧ x < 2 ^ 64 := by
  simp [Lit.wf, IntKind.min, IntKind.max, IntKind.signed, IntKind.bits] at h
  exact ⟨n.toNat, by omega, by omega⟩
end Go.Proofs.Ytigameebcicgpaa
