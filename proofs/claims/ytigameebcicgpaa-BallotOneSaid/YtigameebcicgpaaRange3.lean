/-
  A range over a function whose variable lies in memory of its own (a struct that is written, or handed on by its address): each round has it in a new block. Over any program.
-/
import Derived.Test.YtigameebcicgpaaRange
namespace Go.Proofs.Ytigameebcicgpaa
open Go.RowKit

variable {F : Fence} {n : Nat} {P : Program}

theorem wpIn_goes_boxed {α : Type} {g : Operand} {ps : Array Tmp} {assign body : Code} {Q : Exit → Act → World → Prop} {a : Act} {w : World}
    (hro : F.round = none) (h1 : 1 ≤ n) {gf : Nat} {lb : Array Value} (hg : a.eval g = .func (.func gf) #[] lb) (hFg : F.fn gf) (eg : ∀ args w, (callFunc gf args).run P w = .ok (.enter gf args) w)
    {encs : α → Array Value} {S : Nat → Prop} {xs : List α} {w0 : World} (hgo : Goes F (n - 1) P gf lb encs (Keeps S) xs w0) (hS : ∀ b, S b → b < w.heap.size)
    (hb0 : Below w0.heap.size w0 w) (hps : ∀ x, (encs x).size = ps.size)
    (I : Nat → World → Prop) (Ix : Code → Nat → World → Prop) (hI : OwnFrom w.heap.size I) (hIx : ∀ c, OwnFrom w.heap.size (Ix c)) (hIs : ∀ k W, I k W → w.heap.size ≤ W.heap.size) (h0 : I 0 w) (cs : α → Array Value) (t : TypeId) (Z : Nat → World → Prop) (hZo : OwnFrom w.heap.size Z) (hZ : ∀ k x W, I k W → Z W.heap.size (W.alloc (.cells (cs x) t)))
    (hround : ∃ a₁ : α → Nat → Act,
      (∀ (l : Nat) (x : α) (b : Nat) (W : World) (K : Act → World → Prop), W.heap.size = b → K (a₁ x b) (W.alloc (.cells (cs x) t)) →
        assign.wpIn (F.inRound l) (n - 1 - 1) P (Exit.then K (fun _ _ _ => False)) { tmps := (ps.zip (encs x)).foldl (fun t (p, v) => t.setIfInBounds p v) a.tmps, defers := [] } W) ∧
      ∀ (l k : Nat) (x : α) (b : Nat) (W : World), xs[k]? = some x → I k W → w.heap.size ≤ b → W.heap[b]? = some (.cells (cs x) t (0, 0)) → Z b W → body.wpIn (F.inRound l) (n - 1 - 1) P (roundEnds w.heap.size (Keeps S) I Ix k W) (a₁ x b) W)
    (hdone : ∀ (D : Nat) (W : World), w.heap.size ≤ D → I xs.length W → W.heap[D]? = some (.deferred (some [])) → Q .normal { a with defers := { target := .collected D, args := #[] } :: a.defers } W)
    (hstop : ∀ (D : Nat) (c : Code) (k : Nat) (W : World), w.heap.size ≤ D → k < xs.length → Ix c k W → W.heap[D]? = some (.deferred (some [])) → c.wpIn F n P Q { a with defers := { target := .collected D, args := #[] } :: a.defers } W) :
    (Code.rangeFunc g ps assign body).wpIn F n P Q a w := by
  obtain ⟨a₁, hassign, hbody⟩ := hround
  refine wpIn_goes hro h1 hg hFg eg hgo (fun h k => h.trans k)
    (fun W l o o' hl h _ _ => fun b hb => World.putObj_heap_other (fun e => by have := hS b hb; omega)) hb0 hps I Ix hI hIx h0
    (fun x a' W => ∃ b, w.heap.size ≤ b ∧ a' = a₁ x b ∧ W.heap[b]? = some (.cells (cs x) t (0, 0)) ∧ Z b W) ?_ ?_ ?_ hdone hstop
  · intro x a' _ A B row hs hgr hr
    obtain ⟨b, h1, h2, h3, h4⟩ := hs
    refine ⟨b, h1, h2, (hgr.block b (Array.getElem?_eq_some_iff.1 h3).1 (fun e => ?_)).trans h3, hZo b A B row h4 hgr hr⟩
    obtain ⟨_, o, ho, hc⟩ := hr b e.symm
    rw [h3] at ho; cases ho; cases hc
  · intro l k x W K _ hi hK
    have hsz := hIs k W hi
    refine hassign l x _ W K rfl (hK _ _ ?_ ?_ (hI.alloc _ hi) ⟨W.heap.size, hsz, rfl, World.alloc_heap_new W _, hZ k x W hi⟩)
    · exact ⟨by simp, fun j o _ hk _ => (Below.heap_alloc W _ j (Array.getElem?_eq_some_iff.1 hk).1).trans hk⟩
    · exact fun b hb => Below.heap_alloc W _ b (by have := hS b hb; omega)
  · intro l k x a' W _ _ hx hi ha
    obtain ⟨b, h1, rfl, h3, h4⟩ := ha
    exact hbody l k x b W hx hi h1 h3 h4
end Go.Proofs.Ytigameebcicgpaa
