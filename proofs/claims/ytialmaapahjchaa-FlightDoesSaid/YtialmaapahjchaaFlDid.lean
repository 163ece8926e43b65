/-
  Layer 5's law FlightDoes: one act on both flights.
-/
import Derived.Test.YtialmaapahjchaaFlRefTake
import Derived.Test.YtialmaapahjchaaFlRefMore
import Derived.Test.YtialmaapahjchaaFlOnceMath
namespace Go.Proofs.Ytialmaapahjchaa
open Go.RowKit Go.Shelf
attribute [local go_sem] Oper.semAt_some
set_option linter.unusedVariables false
set_option linter.unusedSimpArgs false

/-- Both flights, apart. -/
structure Both (F : Fl) (B1 B2 : Nat) (v1 v2 : Value) (w : World) : Prop where
  one : Fl.Is true F B1 v1 w
  two : Fl.Is false F B2 v2 w
  apart : ∀ g, v1.ownBlock = some g → v2.ownBlock ≠ some g
/-- A block of neither type. -/
def Other (M : Nat) (w : World) : Prop := True
theorem Both.below {F : Fl} {B1 B2 : Nat} {v1 v2 : Value} {w w' : World} (h : Both F B1 B2 v1 v2 w) (hb : Below w.heap.size w w') : Both F B1 B2 v1 v2 w' := ⟨h.one.below hb, h.two.below hb, h.apart⟩
/-- While the second one waits. -/
structure Half (F G : Fl) (B1 B2 : Nat) (v1 v2 : Value) (w : World) : Prop where
  one : Fl.Is true F B1 v1 w
  two : Fl.Is false G B2 v2 w
  apart : ∀ g, v1.ownBlock = some g → v2.ownBlock ≠ some g
theorem Half.below {F G : Fl} {B1 B2 : Nat} {v1 v2 : Value} {w w' : World} (h : Half F G B1 B2 v1 v2 w) (hb : Below w.heap.size w w') : Half F G B1 B2 v1 v2 w' := ⟨h.one.below hb, h.two.below hb, h.apart⟩
theorem is_keep {k : Bool} {F : Fl} {B : Nat} {v : Value} {w w' : World} (h : Fl.Is k F B v w) (h1 : w'.heap[B]? = w.heap[B]?) (h2 : ∀ g, v.ownBlock = some g → w'.heap[g]? = w.heap[g]?) : Fl.Is k F B v w' := ⟨h1.trans h.row, h.own.keep h2, h.ok⟩
theorem own_ne_obj {k j : Bool} {F G : Fl} {B C : Nat} {v u : Value} {w : World} (h : Fl.Is k F B v w) (h' : Fl.Is j G C u w) : v.ownBlock ≠ some C := fun e => by
  obtain ⟨cur, hc⟩ := h.own.typed C e
  rw [h'.row] at hc
  simp only [Option.some.injEq, Obj.cells.injEq] at hc
  revert hc; cases j <;> simp [Fl.ty]
theorem Half.left {F G F' : Fl} {B1 B2 n : Nat} {v1 v2 : Value} {w w' : World} (h : Half F G B1 B2 v1 v2 w) (ht : Fl.Turns true F' B1 v1 w w') (hn : n ≤ B1) : ∃ v1', Half F' G B1 B2 v1' v2 w' ∧ Below n w w' := by
  obtain ⟨_, _, hb⟩ := ht.low h.one hn
  obtain ⟨v1', h1, h2, h3⟩ := ht
  have hB : B2 ≠ B1 := fun e => by
    have a := h.one.row; have b := h.two.row
    rw [e] at b; rw [a] at b
    simp [Fl.ty] at b
  refine ⟨v1', ⟨h1, is_keep h.two (h3.block B2 h.two.lt hB (own_ne_obj h.one h.two)) (fun g hg => h3.block g (h.two.own.lt g hg).2 (fun e => ?_) (fun e => h.apart g e hg)), fun g hg e => ?_⟩, hb⟩
  · subst e; exact own_ne_obj h.two h.one hg
  · rcases h2 g hg with e2 | e2
    · exact h.apart g e2 e
    · have := (h.two.own.lt g e).2; omega
theorem Half.right {F G G' : Fl} {B1 B2 n : Nat} {v1 v2 : Value} {w w' : World} (h : Half F G B1 B2 v1 v2 w) (ht : Fl.Turns false G' B2 v2 w w') (hn : n ≤ B2) : ∃ v2', Half F G' B1 B2 v1 v2' w' ∧ Below n w w' := by
  obtain ⟨_, _, hb⟩ := ht.low h.two hn
  obtain ⟨v2', h1, h2, h3⟩ := ht
  have hB : B1 ≠ B2 := fun e => by
    have a := h.one.row; have b := h.two.row
    rw [← e] at b; rw [a] at b
    simp [Fl.ty] at b
  refine ⟨v2', ⟨is_keep h.one (h3.block B1 h.one.lt hB (own_ne_obj h.two h.one)) (fun g hg => h3.block g (h.one.own.lt g hg).2 (fun e => ?_) (fun e => h.apart g hg e)), h1, fun g hg e => ?_⟩, hb⟩
  · subst e; exact own_ne_obj h.one h.two hg
  · rcases h2 g e with e2 | e2
    · exact h.apart g hg e2
    · have := (h.one.own.lt g hg).2; omega
/-- What an act makes of a flight. -/
def doing (F : Fl) (r : Int) (xa xb : Int) (xm : BitVec 32) (xs : ByteArray) : Fl :=
  if r = 0 ∨ r = 1 then F.send xa (hun xs) else if r = 2 ∨ r = 3 then F.drop xa else if r = 4 then F.copy xa else F.hurt xa xb xm
theorem note_stays {k : Bool} {F : Fl} {B M : Nat} {v : Value} {w w' : World} (h : Fl.Turns k F B v w w') (hM : M < w.heap.size) (hB : M ≠ B) (hv : v.ownBlock ≠ some M) : w'.heap[M]? = w.heap[M]? := by
  obtain ⟨v', _, _, hs⟩ := h
  exact hs.block M hM hB hv
theorem refTake (F : Fl) (B : Nat) (v : Value) (at' : Int) (w : World) (h : Fl.Is false F B v w) : Calls Try.prog 24 #[.pointer (some ⟨B, 0, none⟩), .int .i64 at'] w fun e w' =>
    e = .returned (.tuple #[(F.note at').val, .int .i64 (F.checkE at')]) ∧ Fl.Turns false (F.drop at') B v w w' := by
  by_cases hp : F.place at' = true
  · obtain ⟨k, rfl, hk⟩ := Fl.place_iff.1 hp
    have e1 : F.checkE (k : Int) = 0 := by simp [Fl.checkE, hp]
    have e2 : F.drop (k : Int) = { F with notes := F.notes.eraseIdx k } := by simp [Fl.drop, hp]
    rw [e1, e2, Fl.note_at hk]
    exact refTakeYes F B v k w h hk
  · exact refTakeNo F B v at' w h hp
theorem turns_block2 {k : Bool} {F0 F : Fl} {B M : Nat} {v : Value} {w w' : World} (hI : Fl.Is k F0 B v w) (h : Fl.Turns k F B v w w') {cur : Array Value} (hM : w.heap[M]? = some (.cells cur 33 (0, 0))) : w'.heap[M]? = some (.cells cur 33 (0, 0)) :=
  h.block hI hM (by decide) (by cases k <;> decide)
end Go.Proofs.Ytialmaapahjchaa
