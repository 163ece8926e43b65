/-
  Layer 7's base: small laws of worlds; a list of numbers; rising: walked.
-/
import Derived.Test.YtigameebcicgpaaArgs
import Derived.Test.YtigameebcicgpaaCrcWalks
import Derived.Test.YtigameebcicgpaaRange2
import Derived.Test.YtigameebcicgpaaRange3
import Derived.Test.YtigameebcicgpaaHeldEnd
import Derived.RangeFuncBox
import Derived.Maps.AppendAt
import Derived.WalkMore
import Derived.Deep.QuietTactic
import Derived.BigQuiet
import Derived.OwnWalk
import Derived.LoopTactic
import Derived.Deep.RegionHeld3
import Derived.MapKept
namespace Go.Proofs.Ytigameebcicgpaa
open Go.RowKit Go.Shelf
attribute [local go_sem] Oper.semAt_some
set_option linter.unusedVariables false
set_option linter.unusedSimpArgs false

theorem drewN_below {n : Nat} {W W' : World} (h : Below n W W') (k : Nat) : Below n W (W'.drewN k) := ⟨h.os, h.tape, h.output, h.size, h.block⟩
theorem grown_below' {w w' : World} (h : Below w.heap.size w w') (row : Option Nat) : w.grownBy w' row := ⟨h.os, h.tape, h.output, h.size, fun k hk _ => h.block k hk⟩
theorem from_below' {n : Nat} {W W' : World} (h : Below W.heap.size W W') : KeepsFrom n W W' := ⟨h.size, fun k o _ hk _ => (h.block k (Array.getElem?_eq_some_iff.1 hk).1).trans hk⟩
theorem boxed_stays {W W' : World} {row : Option Nat} {B : Nat} {ty : TypeId} {v : Value} (h : Boxed W B ty v) (hg : W.grownBy W' row) (hr : ∀ r, row = some r → ∃ o : Obj, W.heap[r]? = some o ∧ o.isCells = false) : Boxed W' B ty v :=
  h.kept hg (fun e => by obtain ⟨o, ho, hc⟩ := hr B e.symm; rw [show W.heap[B]? = _ from h] at ho; cases ho; cases hc)
/-- All lies as it lay, but the blocks of T. -/
structure Save (T : Nat → Prop) (w w' : World) : Prop where
  os : w'.os = w.os
  tape : w'.tape = w.tape
  output : w'.output = w.output
  size : w.heap.size ≤ w'.heap.size
  block : ∀ k, k < w.heap.size → ¬ T k → w'.heap[k]? = w.heap[k]?
namespace Save
variable {T : Nat → Prop} {w w' w'' : World}
theorem refl (T : Nat → Prop) (w : World) : Save T w w := ⟨rfl, rfl, rfl, Nat.le_refl _, fun _ _ _ => rfl⟩
theorem of_below (h : Below w.heap.size w w') : Save T w w' := ⟨h.os, h.tape, h.output, h.size, fun k hk _ => h.block k hk⟩
theorem trans (h : Save T w w') (h' : Save T w' w'') : Save T w w'' :=
  ⟨h'.os.trans h.os, h'.tape.trans h.tape, h'.output.trans h.output, Nat.le_trans h.size h'.size, fun k hk hT => (h'.block k (Nat.lt_of_lt_of_le hk h.size) hT).trans (h.block k hk hT)⟩
theorem setCell (h : Save T w w') (p : Addr) (v : Value) (hp : T p.block ∨ w.heap.size ≤ p.block) : Save T w (w'.setCell p v) :=
  ⟨h.os, h.tape, h.output, by have := (KeepsWalks.setCell w' p v).size; have := h.size; omega, fun k hk hT =>
    (Below.heap_setCell w' p v k (fun e => by subst e; rcases hp with hp | hp; exact hT hp; omega)).trans (h.block k hk hT)⟩
theorem put (h : Save T w w') (M : Nat) (o : Obj) (hM : T M ∨ w.heap.size ≤ M) : Save T w (w'.putObj M o) :=
  ⟨h.os, h.tape, h.output, by have := h.size; simpa [World.putObj] using this, fun k hk hT => (World.putObj_heap_other (fun e => by subst e; rcases hM with hM | hM; exact hT hM; omega)).trans (h.block k hk hT)⟩
theorem drewN (h : Save T w w') (k : Nat) : Save T w (w'.drewN k) := ⟨h.os, h.tape, h.output, h.size, h.block⟩
theorem below (h : Save T w w') {n : Nat} (hn : n ≤ w.heap.size) (hT : ∀ k, T k → n ≤ k) : Below n w w' := ⟨h.os, h.tape, h.output, h.size, fun k hk => h.block k (by omega) (fun e => by have := hT k e; omega)⟩
theorem to {T' : Nat → Prop} (h : Save T w w') (hT : ∀ k, T k → k < w.heap.size → T' k) : Save T' w w' := ⟨h.os, h.tape, h.output, h.size, fun k hk hn => h.block k hk (fun e => hn (hT k e hk))⟩
end Save
/-- A number, as an int. -/
abbrev intV (n : Nat) : Value := .int .i64 (n : Int)
theorem info_int : (Try.prog.info? 3).map (fun i => (i.zero, i.size, i.bytes)) = some (some (.int .i64 0), 1, 8) := by kernel_rfl
/-- A list of numbers, handed back. -/
def Nums (w : World) (base : Nat) (v : Value) (l : List Nat) : Prop :=
  (v = .slice none 0 0 ∧ l = []) ∨ ∃ g c, v = .slice (some ⟨g, 0, none⟩) l.length c ∧ l.length ≤ c ∧ base ≤ g ∧ g < w.heap.size ∧ ∀ j (h : j < l.length), w.cell? ⟨g, j, none⟩ = some (intV l[j])
theorem Nums.keep {w w' : World} {base : Nat} {v : Value} {l : List Nat} (h : Nums w base v l) (hs : w.heap.size ≤ w'.heap.size) (hb : ∀ g, v.ownBlock = some g → w'.heap[g]? = w.heap[g]?) : Nums w' base v l := by
  rcases h with h | ⟨g, c, rfl, hc, hb', hg, hx⟩
  · exact .inl h
  · exact .inr ⟨g, c, rfl, hc, hb', by omega, fun j hj => (World.cell?_of_block (w := w) (a := ⟨g, j, none⟩) (hb g rfl)).trans (hx j hj)⟩
theorem Nums.lt {w : World} {base : Nat} {v : Value} {l : List Nat} (h : Nums w base v l) : ∀ g, v.ownBlock = some g → base ≤ g ∧ g < w.heap.size := fun g hg => by
  rcases h with ⟨rfl, _⟩ | ⟨g', c, rfl, hc, hb', hg', hx⟩
  · cases hg
  · cases hg; exact ⟨hb', hg'⟩
theorem Nums.below {w w' : World} {base : Nat} {v : Value} {l : List Nat} (h : Nums w base v l) (hb : Below w.heap.size w w') : Nums w' base v l := h.keep hb.size fun g hg => hb.block g (h.lt g hg).2
theorem Nums.form {w : World} {base : Nat} {v : Value} {l : List Nat} (h : Nums w base v l) : ∃ a c, v = .slice a l.length c ∧ l.length ≤ c := by
  rcases h with ⟨rfl, rfl⟩ | ⟨g', c, rfl, hc, _⟩
  · exact ⟨_, _, rfl, Nat.le_refl _⟩
  · exact ⟨_, _, rfl, hc⟩
theorem Nums.of_owns {W : World} {n : Nat} {v : Value} {l : List Nat} (h : W.ownsRow n 3 1 v l.length (l.map intV)) : Nums W n v l := by
  have h' := h
  rcases h.2 with ⟨rfl, h0⟩ | ⟨g, cap, cur, rfl, hbg, hgb, hnc, hcm, hcs, htake⟩
  · exact .inl ⟨rfl, List.length_eq_zero_iff.1 h0⟩
  · refine .inr ⟨g, cap, rfl, hnc, hbg, (Array.getElem?_eq_some_iff.1 hgb).1, fun j hj => ?_⟩
    rw [h'.cellAt j (by omega), List.getElem?_map, List.getElem?_eq_getElem hj]; rfl
/-- Do the numbers rise? -/
def rises (l : List Int) : Bool := (List.range (l.length - 1)).all fun i => decide (l.getD i 0 ≤ l.getD (i + 1) 0)
theorem rises_yes (l : List Int) (h : ∀ i, 1 ≤ i → i < l.length → l.getD (i - 1) 0 ≤ l.getD i 0) : rises l = true := by
  rw [rises, List.all_eq_true]
  intro i hi
  rw [List.mem_range] at hi
  exact decide_eq_true (by have := h (i + 1) (by omega) (by omega); simpa using this)
theorem rises_no (l : List Int) (i : Nat) (h1 : 1 ≤ i) (hi : i < l.length) (h : l.getD i 0 < l.getD (i - 1) 0) : rises l = false := by
  rw [rises, List.all_eq_false]
  refine ⟨i - 1, by rw [List.mem_range]; omega, ?_⟩
  rw [decide_eq_true_eq, show i - 1 + 1 = i from by omega]
  omega
theorem rises_two (a b : Int) : rises [a, b] = decide (a ≤ b) := by simp [rises, List.range_succ]
theorem rises_three (a b c : Int) : rises [a, b, c] = (decide (a ≤ b) && decide (b ≤ c)) := by simp [rises, List.range_succ]
theorem rises_four (a b c d : Int) : rises [a, b, c, d] = (decide (a ≤ b) && decide (b ≤ c) && decide (c ≤ d)) := by simp [rises, List.range_succ, Bool.and_assoc]
end Go.Proofs.Ytigameebcicgpaa
