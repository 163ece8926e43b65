/-
  A node's notes in order; lists of integers handed in; a row of another type beside a flight.
-/
import Derived.Test.YtialmaapahjchaaFlLaw1
import Derived.Test.YtialmaapahjchaaArgs
import Derived.ChangeSlices
import Derived.ProofKit
import Derived.OpenShut
import Derived.ShutString
import Derived.ChangeOld
import Derived.Below
import Derived.ChangeArms
namespace Go.Proofs.Ytialmaapahjchaa
open Go.RowKit Go.Shelf Go.ChangeShapes Go.WideShapes Go.ChangeAt
attribute [local go_sem] Oper.semAt_some
set_option linter.unusedVariables false
set_option linter.unusedSimpArgs false

/-- The numbers of the notes to node 3. -/
def ids3 (l : List Nt) : List (BitVec 32) := (l.filter fun n => decide (n.to = 3)).map Nt.id
theorem ids3_snoc (l : List Nt) (n : Nt) : ids3 (l ++ [n]) = ids3 l ++ (if n.to = 3 then [n.id] else []) := by
  by_cases h : n.to = 3 <;> simp [ids3, List.filter_append, h]
theorem ids3_len (l : List Nt) : (ids3 l).length ≤ l.length := by
  rw [ids3, List.length_map]; exact List.length_filter_le _ _
theorem ids3_first (l : List Nt) (a : BitVec 32) (tl : List (BitVec 32)) (h : ids3 l = a :: tl) : ∃ (k : Nat) (hk : k < l.length), Fl.first l 3 = some k ∧ l[k].id = a ∧ l[k].to = 3 ∧ ids3 (l.eraseIdx k) = tl := by
  induction l with
  | nil => simp [ids3] at h
  | cons n l ih =>
    by_cases ht : n.to = 3
    · have h' : n.id :: ids3 l = a :: tl := by rw [← h]; simp [ids3, ht]
      simp only [List.cons.injEq] at h'
      exact ⟨0, by simp, by simp [Fl.first, List.findIdx?_cons, ht], h'.1, ht, by simpa using h'.2⟩
    · have h' : ids3 l = a :: tl := by rw [← h]; simp [ids3, ht]
      obtain ⟨k, hk, h1, h2, h3, h4⟩ := ih h'
      refine ⟨k + 1, by simpa using hk, ?_, by simpa using h2, by simpa using h3, ?_⟩
      · rw [Fl.first] at h1 ⊢
        rw [List.findIdx?_cons, h1]
        simp [ht]
      · rw [List.eraseIdx_cons_succ, ← h4]; simp [ids3, ht]
theorem ids3_none (l : List Nt) (h : ids3 l = []) : Fl.first l 3 = none := by
  rw [Fl.first, List.findIdx?_eq_none_iff]
  intro x hx
  simp only [ids3, List.map_eq_nil_iff, List.filter_eq_nil_iff] at h
  simpa using h x hx
theorem node15 (x : Int) : Fl.node (Go.bits .and .i64 x 15) = true := by
  have h : ∀ b : BitVec 64, (b &&& 15#64).toNat < 16 := fun b => by
    rw [BitVec.toNat_and]
    exact Nat.lt_of_le_of_lt Nat.and_le_right (by decide)
  have h1 := h (BitVec.ofInt 64 x)
  have e : Go.bits .and .i64 x 15 = IntKind.i64.wrap ((((BitVec.ofInt 64 x) &&& 15#64).toNat : Nat) : Int) := rfl
  rw [e, IntWalk.i64_in _ (by omega)]
  simp only [Fl.node, Bool.and_eq_true, decide_eq_true_eq]
  omega
/-- A list of integers that was handed in. -/
def IntsA (w : World) (v : Value) (l : List Int) : Prop :=
  (v = .slice none 0 0 ∧ l = []) ∨ ∃ (a : Addr) (c : Nat), v = .slice (some a) l.length c ∧ ∀ j (h : j < l.length), w.cell? (a.add j) = some (.int .i64 l[j])
theorem open_IntsA {H : Type} {enc : TypeId × Value → H} {W : World} {r : Reach} {b0 base : Nat} {spare : Nat → Bool} {held : Bool} {v : Value} {d : DataW H} {p : List MemPlace} (hv : Value.okWide Try.prog W r b0 54 v) (h : DataW.Trod enc Try.prog W base spare held 54 v d p) :
    ∃ l : List Int, IntsA W v l ∧ l.length ≤ maxLen ∧ ∀ x ∈ l, x ≤ 2 ^ 63 - 1 := by
  obtain ⟨a0, len, cap, rfl⟩ := okWide_slice Try.underlying54 hv
  obtain ⟨fuel, hf⟩ := h
  rcases open_ints Try.underlying54 Try.underlying3 (by kernel_rfl) hf with ⟨hcs, hx⟩ | ⟨a, len', cap', zs, hcs, _, hl, hm, hz, hx, hcell, hws⟩
  · simp [Value.cells] at hcs
    obtain ⟨rfl, rfl, rfl⟩ := hcs
    exact ⟨[], .inl ⟨rfl, rfl⟩, Nat.zero_le _, fun x hx => by cases hx⟩
  · simp [Value.cells] at hcs
    obtain ⟨rfl, rfl, rfl⟩ := hcs
    have hlen : (zs.take len).length = len := by
      rw [List.length_take, hz]; split <;> omega
    refine ⟨zs.take len, .inr ⟨a, cap, by rw [hlen], fun j hj => ?_⟩, by rw [hlen]; omega, fun x hx => (i64_of_wf (hws x (List.mem_of_mem_take hx))).2⟩
    have hj' : j < zs.length := by rw [List.length_take] at hj; omega
    rw [hcell j hj', List.getElem_take, List.getD_eq_getElem?_getD, List.getElem?_eq_getElem hj']
    rfl
/-- A row of another type. -/
theorem owns_typed {w : World} {base n size : Nat} {v : Value} {xs : List Value} {t : TypeId} (h : w.ownsRow base t size v n xs) : ∀ g, v.ownBlock = some g → base ≤ g ∧ ∃ cur, w.heap[g]? = some (.cells cur t (0, 0)) := fun g hg => by
  rcases h.2 with ⟨rfl, _⟩ | ⟨g', cap, cur, rfl, hb, hw, _⟩
  · cases hg
  · cases hg; exact ⟨hb, _, hw⟩
theorem owns_stays {w w' : World} {base n size : Nat} {v : Value} {xs : List Value} {t : TypeId} (h : w.ownsRow base t size v n xs) (hb : ∀ g, v.ownBlock = some g → w'.heap[g]? = w.heap[g]?) : w'.ownsRow base t size v n xs := by
  refine ⟨h.1, ?_⟩
  rcases h.2 with h0 | ⟨g, cap, cur, rfl, hbg, hg, rest⟩
  · exact .inl h0
  · exact .inr ⟨g, cap, cur, rfl, hbg, (hb g rfl).trans hg, rest⟩
theorem owns_low {w w' : World} {base n size : Nat} {v : Value} {xs : List Value} {t : TypeId} (h : w.ownsRow base t size v n xs) (hb : Below w.heap.size w w') : w'.ownsRow base t size v n xs :=
  owns_stays h fun g hg => hb.block g (h.lt g hg).2
/-- A flight's call leaves a row of another type. -/
theorem Fl.Turns.row {k : Bool} {F0 F : Fl} {B : Nat} {v : Value} {w w' : World} (hI : Fl.Is k F0 B v w) (h : Fl.Turns k F B v w w') {base n size : Nat} {u : Value} {xs : List Value} {t : TypeId} (ho : w.ownsRow base t size u n xs) (h1 : t ≠ 42) (h2 : t ≠ Fl.ty k) : w'.ownsRow base t size u n xs := by
  obtain ⟨v', _, _, hs⟩ := h
  refine owns_stays ho fun g hg => ?_
  obtain ⟨_, cur, hc⟩ := owns_typed ho g hg
  refine hs.block g (ho.lt g hg).2 (fun e => ?_) (fun e => ?_)
  · subst e; rw [hI.row] at hc; cases hc; exact h2 rfl
  · obtain ⟨cur', hc'⟩ := hI.own.typed g e
    rw [hc] at hc'; cases hc'; exact h1 rfl
/-- A row of another type grows: the flight lies as it lay. -/
theorem Fl.Is.beside {k : Bool} {F : Fl} {B : Nat} {v : Value} {w w' : World} (h : Fl.Is k F B v w) {row : Option Nat} (hg : w.grownBy w' row) {t : TypeId} (hr : ∀ g, row = some g → ∃ cur, w.heap[g]? = some (.cells cur t (0, 0))) (h1 : t ≠ 42) (h2 : t ≠ Fl.ty k) : Fl.Is k F B v w' := by
  refine ⟨(hg.block B h.lt (fun e => ?_)).trans h.row, h.own.keep fun g hgg => hg.block g (h.own.lt g hgg).2 (fun e => ?_), h.ok⟩
  · obtain ⟨cur, hc⟩ := hr B e.symm
    rw [h.row] at hc; cases hc; exact h2 rfl
  · obtain ⟨cur, hc⟩ := hr g e.symm
    obtain ⟨cur', hc'⟩ := h.own.typed g hgg
    rw [hc] at hc'; cases hc'; exact h1 rfl
end Go.Proofs.Ytialmaapahjchaa
