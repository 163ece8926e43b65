/-
  Two votes held against each other.
-/
import Derived.Test.YtigameebcicgpaaBtSome
import Derived.Laws.StructEq
namespace Go.Proofs.Ytigameebcicgpaa
open Go.RowKit
set_option linter.unusedVariables false
set_option linter.unusedSimpArgs false

theorem Vt.ext' {f g : Vt} (h0 : f.prom = g.prom) (h1 : f.bal = g.bal) (h2 : f.val' = g.val') : f = g := by
  cases f; cases g; simp_all
instance : DecidableEq Vt := fun f g =>
  if h : f.prom = g.prom ∧ f.bal = g.bal ∧ f.val' = g.val' then isTrue (Vt.ext' h.1 h.2.1 h.2.2)
  else isFalse fun e => h (by subst e; exact ⟨rfl, rfl, rfl⟩)
theorem voteGuard (f g : Vt) (x y : Operand) (w : World) : (eqGuard .eql 24 x y f.val g.val).run Try.prog w = .ok () w := run_eqGuard_agg w _ _ _ _ _ _ (by kernel_rfl)
set_option maxRecDepth 100000 in
theorem voteEql (f g : Vt) (w : World) : (binOp .eql 24 f.val g.val).run Try.prog w = .ok (.bool (decide (f = g))) w := by
  have nu : ∀ x y : Nat, ((x : Int) = (y : Int)) = (x = y) := fun x y => propext ⟨fun h => by omega, fun h => by rw [h]⟩
  have nb : ∀ x y : ByteArray, (x.toList = y.toList) = (x = y) := fun x y => propext ⟨fun h => by rw [ByteArray.toList_eq, ByteArray.toList_eq] at h; exact ByteArray.ext (Array.toList_inj.1 h), fun h => by rw [h]⟩
  unfold Vt.val
  rw [run_eql_struct, show (10000 : Nat) = 9999 + 1 from rfl, run_equalIn_agg w 9999 24 _ _ (by kernel_rfl) (by kernel_rfl)]
  simp only [Program.fieldsOf, Try.underlying24]
  simp [go_sem, Try.underlying22, Try.underlying9]
  simp only [nu, nb]
  by_cases h : f = g
  · subst h; simp
  · rw [decide_eq_false h]
    repeat' split
    all_goals first | rfl | (exact absurd (Vt.ext' (by assumption) (by assumption) (by assumption)) h)
end Go.Proofs.Ytigameebcicgpaa
