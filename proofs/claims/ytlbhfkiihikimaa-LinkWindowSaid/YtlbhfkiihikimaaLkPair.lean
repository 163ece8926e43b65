/-
  Two ends side by side; lists beside them.
-/
import Derived.Test.YtlbhfkiihikimaaLkRecv
import Derived.Test.YtlbhfkiihikimaaLkSend
import Derived.Test.YtlbhfkiihikimaaLkOut
import Derived.Test.YtlbhfkiihikimaaArgs
namespace Go.Proofs.Ytlbhfkiihikimaa
open Go.RowKit Go.Shelf
attribute [local go_sem] Oper.semAt_some
set_option linter.unusedVariables false
set_option linter.unusedSimpArgs false

theorem Lk.Is.apart {L : Lk} {B M g : Nat} {w : World} {cur : Array Value} {t : TypeId} {fz : Nat × Nat} (h : Lk.Is L B M w) (hg : w.heap[g]? = some (.cells cur t fz)) (ht : t ≠ 52) : g ≠ B ∧ g ≠ M := by
  refine ⟨fun e => ?_, fun e => ?_⟩
  · subst e
    rw [h.row] at hg
    simp only [Option.some.injEq, Obj.cells.injEq] at hg
    exact ht hg.2.1.symm
  · subst e
    rw [h.map] at hg
    unfold Lk.mapO at hg
    cases hg
theorem Frames.stay {L : Lk} {B M base : Nat} {w w' : World} {v : Value} {l : List Fr} (h : Frames w base v l) (hI : Lk.Is L B M w) (hs : Stays B (some M) w w') : Frames w' base v l := h.keep fun g hg => by
  obtain ⟨cur, hc⟩ := h.typed g hg
  obtain ⟨h1, h2⟩ := hI.apart hc (by decide)
  exact hs.block g (h.lt g hg).2 h1 (fun e => h2 (by cases e; rfl))
theorem Words.stay {L : Lk} {B M base : Nat} {w w' : World} {v : Value} {l : List ByteArray} (h : Words w base v l) (hI : Lk.Is L B M w) (hs : Stays B (some M) w w') : Words w' base v l := h.keep fun g hg => by
  obtain ⟨cur, hc⟩ := h.typed g hg
  obtain ⟨h1, h2⟩ := hI.apart hc (by decide)
  exact hs.block g (h.lt g hg).2 h1 (fun e => h2 (by cases e; rfl))
/-- Two ends, each in its blocks, none below n. -/
structure Pair (P Q : Lk) (a ma b mb n : Nat) (w : World) : Prop where
  l : Lk.Is P a ma w
  r : Lk.Is Q b mb w
  ab : a ≠ b
  mm : ma ≠ mb
  low : n ≤ a ∧ n ≤ ma ∧ n ≤ b ∧ n ≤ mb
namespace Pair
variable {P Q P' Q' : Lk} {a ma b mb n : Nat} {w w' : World}
theorem amb (h : Pair P Q a ma b mb n w) : a ≠ mb := fun e => by
  have h1 := h.l.row
  rw [e, h.r.map] at h1
  unfold Lk.mapO at h1
  cases h1
theorem mab (h : Pair P Q a ma b mb n w) : ma ≠ b := fun e => by
  have h1 := h.r.row
  rw [← e, h.l.map] at h1
  unfold Lk.mapO at h1
  cases h1
theorem left (h : Pair P Q a ma b mb n w) (hT : Lk.Turns P' a ma w w') : Pair P' Q a ma b mb n w' ∧ Below n w w' :=
  ⟨⟨hT.1, h.r.keep (hT.2.block b h.r.lt h.ab.symm (fun e => h.mab (by cases e; rfl))) (hT.2.block mb h.r.ltM h.amb.symm (fun e => h.mm (by cases e; rfl))), h.ab, h.mm, h.low⟩,
    hT.2.below (Nat.le_trans h.low.1 (Nat.le_of_lt h.l.lt)) h.low.1 (fun g e => by cases e; exact h.low.2.1)⟩
theorem right (h : Pair P Q a ma b mb n w) (hT : Lk.Turns Q' b mb w w') : Pair P Q' a ma b mb n w' ∧ Below n w w' :=
  ⟨⟨h.l.keep (hT.2.block a h.l.lt h.ab (fun e => h.amb (by cases e; rfl))) (hT.2.block ma h.l.ltM h.mab (fun e => h.mm (by cases e; rfl))), hT.1, h.ab, h.mm, h.low⟩,
    hT.2.below (Nat.le_trans h.low.2.2.1 (Nat.le_of_lt h.r.lt)) h.low.2.2.1 (fun g e => by cases e; exact h.low.2.2.2)⟩
theorem below (h : Pair P Q a ma b mb n w) (hb : Below w.heap.size w w') : Pair P Q a ma b mb n w' := ⟨h.l.below hb, h.r.below hb, h.ab, h.mm, h.low⟩
/-- The second one, made behind the first one. -/
theorem mk' (h : Lk.Is P a ma w) (hl : n ≤ a ∧ n ≤ ma) (hb : Below w.heap.size w w') (h2 : Lk.Is Q b mb w') (h3 : w.heap.size ≤ b) (h4 : w.heap.size ≤ mb) : Pair P Q a ma b mb n w' :=
  ⟨h.below hb, h2, by have := h.lt; omega, by have := h.ltM; omega, hl.1, hl.2, by have := h.lt; omega, by have := h.lt; omega⟩
end Pair
/-- The laws' text: a text's first hundred bytes. -/
theorem lawText6 (s : ByteArray) (hs : s.size ≤ maxLen) (w : World) : Calls Try.prog 25 #[.string s] w fun e w' => e = .returned (.string (hun s)) ∧ w = w' := by
  have h1 : ¬ (s.size : Int) < min (s.size : Int) 100 := by omega
  have h2 : ¬ min (s.size : Int) 100 < 0 := by omega
  have HH := Lib.hid (show hun s = s.extract 0 (min (s.size : Int) 100).toNat from rfl)
  go_enter Try.func25, Try.ntmps25
  go_wp2
  go_ret
  exact ⟨rfl, rfl⟩
end Go.Proofs.Ytlbhfkiihikimaa
