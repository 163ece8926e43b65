/-
  A store with records alone, as layer 4's laws make it.
-/
import Derived.Test.YtfbponiiejanfaaStLaws1
import Derived.Test.YtfbponiiejanfaaJArgs
namespace Go.Proofs.Ytfbponiiejanfaa
open Go.RowKit Go.Shelf
attribute [local go_sem] Oper.semAt_some
set_option linter.unusedVariables false
set_option linter.unusedSimpArgs false

/-- A store of the greatest capacity, with these records. -/
def stOf (ds : List (List UInt8)) : St := { newSt 1048576 with ds := ds }
theorem stOf_nil : stOf [] = newSt 1048576 := rfl
theorem stOf_wrote (ds : List (List UInt8)) (d : List UInt8) : (stOf ds).wrote d = stOf (ds ++ [d]) := rfl
theorem stOf_held (ds : List (List UInt8)) (h : ∀ d ∈ ds, d.length ≤ 100) : (stOf ds).held ≤ 109 * ds.length := by
  have e : (stOf ds).held = St.sum (ds.map J.rec) := by simp [St.held, stOf, newSt, St.mark, St.pieces]
  rw [e]
  clear e
  induction ds with
  | nil => simp [St.sum]
  | cons d t ih =>
    have h1 := h d (by simp)
    have h2 := ih (fun x hx => h x (List.mem_cons_of_mem _ hx))
    simp only [St.sum, List.map_cons, List.sum_cons, J.rec_length, List.length_cons] at h2 ⊢
    omega
/-- The first m texts' first hundred bytes. -/
def firsts (m : Nat) (ss : List ByteArray) : List (List UInt8) := (ss.take m).map fun s => (hun s).data.toList
theorem firsts_length (m : Nat) (ss : List ByteArray) : (firsts m ss).length = min m ss.length := by simp [firsts]
theorem firsts_small (m : Nat) (ss : List ByteArray) : ∀ d ∈ firsts m ss, d.length ≤ 100 := by
  intro d hd
  obtain ⟨s, _, rfl⟩ := List.mem_map.1 hd
  have := hun_size s
  simpa using this
theorem firsts_step (m : Nat) (ss : List ByteArray) (k : Nat) (hk : k < ss.length) (hm : k < m) : (firsts m ss).take (k + 1) = (firsts m ss).take k ++ [(hun ss[k]).data.toList] := by
  have hl : k < (firsts m ss).length := by rw [firsts_length]; omega
  rw [List.take_succ_eq_append_getElem hl]
  congr 1
  simp [firsts]
theorem take_held (m : Nat) (ss : List ByteArray) (k : Nat) : (stOf ((firsts m ss).take k)).held ≤ 109 * m := by
  have h1 := stOf_held ((firsts m ss).take k) (fun d hd => firsts_small m ss d (List.mem_of_mem_take hd))
  have h2 : ((firsts m ss).take k).length ≤ m := by rw [List.length_take, firsts_length]; omega
  omega
/-- One text more is written. -/
theorem writeNext (m : Nat) (hm : m ≤ 60) (ss : List ByteArray) (k : Nat) (hk : k < ss.length) (hkm : k < m) (B : Nat) (v : Value) (w : World) (h : Is (stOf ((firsts m ss).take k)) B v w) :
    Calls Try.prog 9 #[.pointer (some ⟨B, 0, none⟩), .string (hun ss[k])] w fun e w' => e = .returned (.int .i64 0) ∧ Turns (stOf ((firsts m ss).take (k + 1))) B v w w' := by
  have h1 := take_held m ss k
  have h2 := hun_size ss[k]
  have := writeYes _ B v (hun ss[k]) w h rfl rfl (by omega) (by show _ ≤ 1048576; omega)
  rwa [stOf_wrote, ← firsts_step m ss k hk hkm] at this
end Go.Proofs.Ytfbponiiejanfaa
