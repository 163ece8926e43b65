/-
  A list of numbers of 64 bits that was handed in: its reading, its opening.
-/
import Derived.Test.YtigameebcicgpaaArgs
import Derived.ChangeSlices
import Derived.ProofKit
import Derived.OpenShut
import Derived.ChangeOld
import Derived.Below
import Derived.ChangeArms
namespace Go.Proofs.Ytigameebcicgpaa
open Go.RowKit Go.ChangeShapes Go.WideShapes Go.ChangeAt
set_option linter.unusedVariables false
set_option linter.unusedSimpArgs false

/-- Such a list. -/
def U64s (w : World) (v : Value) (l : List Nat) : Prop :=
  (v = .slice none 0 0 ∧ l = []) ∨ ∃ (a : Addr) (c : Nat), v = .slice (some a) l.length c ∧ ∀ j (h : j < l.length), w.cell? (a.add j) = some (.int .u64 ((l[j] : Nat) : Int))
theorem open_U64s {H : Type} {enc : TypeId × Value → H} {W : World} {r : Reach} {b0 base : Nat} {spare : Nat → Bool} {held : Bool} {v : Value} {d : DataW H} {p : List MemPlace} (hv : Value.okWide Try.prog W r b0 43 v) (h : DataW.Trod enc Try.prog W base spare held 43 v d p) :
    ∃ l : List Nat, U64s W v l ∧ l.length ≤ maxLen ∧ ∀ x ∈ l, x < 2 ^ 64 := by
  obtain ⟨a0, len, cap, rfl⟩ := okWide_slice Try.underlying43 hv
  obtain ⟨fuel, hf⟩ := h
  rcases open_ints Try.underlying43 Try.underlying22 (by kernel_rfl) hf with ⟨hcs, hx⟩ | ⟨a, len', cap', zs, hcs, _, hl, hm, hz, hx, hcell, hws⟩
  · simp [Value.cells] at hcs
    obtain ⟨rfl, rfl, rfl⟩ := hcs
    exact ⟨[], .inl ⟨rfl, rfl⟩, Nat.zero_le _, fun x hx => by cases hx⟩
  · simp [Value.cells] at hcs
    obtain ⟨rfl, rfl, rfl⟩ := hcs
    have hlen : ((zs.take len).map Int.toNat).length = len := by
      rw [List.length_map, List.length_take, hz]; split <;> omega
    refine ⟨(zs.take len).map Int.toNat, .inr ⟨a, cap, by rw [hlen], fun j hj => ?_⟩, by rw [hlen]; omega, fun x hx => ?_⟩
    · have hj' : j < zs.length := by rw [List.length_map, List.length_take] at hj; omega
      obtain ⟨y, hy, _⟩ := u64_of_wf (hws zs[j] (List.getElem_mem hj'))
      rw [hcell j hj', List.getElem_map, List.getElem_take, List.getD_eq_getElem?_getD, List.getElem?_eq_getElem hj', Option.getD_some, hy]
      rfl
    · obtain ⟨z, hzm, rfl⟩ := List.mem_map.1 hx
      obtain ⟨y, hy, hlt⟩ := u64_of_wf (hws z (List.mem_of_mem_take hzm))
      rw [hy]; exact hlt
theorem u64s_form {w : World} {v : Value} {l : List Nat} (h : U64s w v l) : ∃ a c, v = .slice a l.length c := by
  rcases h with ⟨rfl, rfl⟩ | ⟨a, c, rfl, _⟩
  · exact ⟨_, _, rfl⟩
  · exact ⟨_, _, rfl⟩
theorem u64s_at {w : World} {v : Value} {l : List Nat} (h : U64s w v l) (k : Nat) (hk : k < l.length) : ∃ a c, v = .slice (some a) l.length c ∧ ∀ W, Below w.heap.size w W → W.cell? (a.add k) = some (.int .u64 ((l[k] : Nat) : Int)) := by
  rcases h with ⟨rfl, rfl⟩ | ⟨a, c, rfl, hx⟩
  · simp at hk
  · refine ⟨a, c, rfl, fun W hb => ?_⟩
    exact (hb.cell (by rw [add_block]; exact cell_block (hx k hk))).trans (hx k hk)
end Go.Proofs.Ytigameebcicgpaa
