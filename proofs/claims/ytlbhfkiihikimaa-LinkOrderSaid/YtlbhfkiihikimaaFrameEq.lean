/-
  Two frames held against each other.
-/
import Derived.Test.YtlbhfkiihikimaaFrameMath
import Derived.Laws.StructEq
namespace Go.Proofs.Ytlbhfkiihikimaa
open Go.RowKit

theorem Fr.ext' {f g : Fr} (h0 : f.wire = g.wire) (h1 : f.kind = g.kind) (h2 : f.src = g.src) (h3 : f.dst = g.dst) (h4 : f.life = g.life) (h5 : f.seq = g.seq) (h6 : f.ack = g.ack) (h7 : f.hint = g.hint) (h8 : f.data = g.data) : f = g := by
  cases f; cases g; simp_all
instance : DecidableEq Fr := fun f g =>
  if h : f.wire = g.wire ∧ f.kind = g.kind ∧ f.src = g.src ∧ f.dst = g.dst ∧ f.life = g.life ∧ f.seq = g.seq ∧ f.ack = g.ack ∧ f.hint = g.hint ∧ f.data = g.data then
    isTrue (Fr.ext' h.1 h.2.1 h.2.2.1 h.2.2.2.1 h.2.2.2.2.1 h.2.2.2.2.2.1 h.2.2.2.2.2.2.1 h.2.2.2.2.2.2.2.1 h.2.2.2.2.2.2.2.2)
  else isFalse fun e => h (by subst e; exact ⟨rfl, rfl, rfl, rfl, rfl, rfl, rfl, rfl, rfl⟩)
theorem frameGuard (f g : Fr) (x y : Operand) (w : World) : (eqGuard .eql 24 x y f.val g.val).run Try.prog w = .ok () w := run_eqGuard_agg w _ _ _ _ _ _ (by kernel_rfl)
set_option maxRecDepth 100000 in
theorem frameEql (f g : Fr) (w : World) : (binOp .eql 24 f.val g.val).run Try.prog w = .ok (.bool (decide (f = g))) w := by
  have nu : ∀ x y : BitVec 32, ((x.toNat : Int) = (y.toNat : Int)) = (x = y) := fun x y => propext ⟨fun h => BitVec.eq_of_toNat_eq (by omega), fun h => by rw [h]⟩
  have nb : ∀ x y : ByteArray, (x.toList = y.toList) = (x = y) := fun x y => propext ⟨fun h => by rw [ByteArray.toList_eq, ByteArray.toList_eq] at h; exact ByteArray.ext (Array.toList_inj.1 h), fun h => by rw [h]⟩
  unfold Fr.val Fr.cells
  rw [run_eql_struct, show (10000 : Nat) = 9999 + 1 from rfl, run_equalIn_agg w 9999 24 _ _ (by kernel_rfl) (by kernel_rfl)]
  simp only [Program.fieldsOf, Try.underlying24]
  simp [go_sem, Try.underlying3, Try.underlying22, Try.underlying9]
  simp only [nu, nb]
  by_cases h : f = g
  · subst h; simp
  · rw [decide_eq_false h]
    repeat' split
    all_goals first | rfl | (exact absurd (Fr.ext' (by assumption) (by assumption) (by assumption) (by assumption) (by assumption) (by assumption) (by assumption) (by assumption) (by assumption)) h)
end Go.Proofs.Ytlbhfkiihikimaa
