/-
  A store, and beside it a list of texts of the law's own that grows.
-/
import Derived.Test.YtfbponiiejanfaaStTexts
import Derived.Maps.AppendAt
namespace Go.Proofs.Ytfbponiiejanfaa
open Go.RowKit Go.Shelf
attribute [local go_sem] Oper.semAt_some
set_option linter.unusedVariables false
set_option linter.unusedSimpArgs false

theorem Is.grown {S : St} {B : Nat} {v : Value} {w w' : World} {row : Option Nat} (h : Is S B v w) (hg : w.grownBy w' row) (hB : row ≠ some B) (hv : ∀ g, v.ownBlock = some g → row ≠ some g) : Is S B v w' :=
  ⟨(hg.block B h.lt (fun e => hB e.symm)).trans h.row, owns_keep h.own (fun g hgg => hg.block g (owns_base h.own g hgg).2 (fun e => hv g hgg e.symm)), h.ok⟩
/-- The store S in block B, with v, and the list ws in vw, apart from it. -/
structure Two (S : St) (B : Nat) (v : Value) (ws : List (List UInt8)) (vw : Value) (W : World) : Prop where
  st : Is S B v W
  row : W.ownsRow B 9 1 vw ws.length (ws.map strV)
  apart : ∀ g, vw.ownBlock = some g → g ≠ B ∧ v.ownBlock ≠ some g
variable {S S' : St} {B : Nat} {v vw : Value} {ws : List (List UInt8)} {w w' : World}
theorem Two.below (h : Two S B v ws vw w) (hb : Below w.heap.size w w') : Two S B v ws vw w' := ⟨h.st.below hb, owns_below h.row hb, h.apart⟩
theorem Two.turn (h : Two S B v ws vw w) (ht : Turns S' B v w w') : ∃ v', Two S' B v' ws vw w' ∧ Below B w w' := by
  obtain ⟨_, _, hb⟩ := ht.below h.st (Nat.le_refl _)
  obtain ⟨v', hI, hv, hS⟩ := ht
  refine ⟨v', ⟨hI, owns_keep h.row (fun g hg => ?_), fun g hg => ⟨(h.apart g hg).1, fun e => ?_⟩⟩, hb⟩
  · exact hS.block g (owns_base h.row g hg).2 (h.apart g hg).1 (h.apart g hg).2
  · rcases hv g e with e' | e'
    · exact (h.apart g hg).2 e'
    · have := (owns_base h.row g hg).2
      omega
/-- What a list that is apart from vw's keeps. -/
def Pass (vw : Value) (w w' : World) : Prop := ∀ u ds, Texts w u ds → (∀ g, u.ownBlock = some g → vw.ownBlock ≠ some g) → Texts w' u ds
theorem Texts.grown {w w' : World} {u : Value} {ds : List (List UInt8)} {row : Option Nat} (h : Texts w u ds) (hg : w.grownBy w' row) (hn : ∀ g, u.ownBlock = some g → row ≠ some g) : Texts w' u ds := by
  rcases h with h | ⟨g, c, rfl, hc, hgw, hx⟩
  · exact .inl h
  · exact .inr ⟨g, c, rfl, hc, Nat.lt_of_lt_of_le hgw hg.size, fun j hj => (World.cell?_of_block (hg.block g hgw (fun e => hn g rfl e.symm))).trans (hx j hj)⟩
theorem Two.shrink (h : Two S B v ws vw w) (ht : Shrinks S' B v w w') (u : Value) (hu : ∀ g, u.ownBlock = some g → w.heap.size ≤ g) : ∃ v', Two S' B v' ws vw w' ∧ (∀ g, u.ownBlock = some g → vw.ownBlock ≠ some g ∧ g ≠ B ∧ v'.ownBlock ≠ some g) ∧ Below B w w' := by
  obtain ⟨_, _, hb⟩ := ht.turns.below h.st (Nat.le_refl _)
  obtain ⟨v', hI, hv, hS⟩ := ht
  refine ⟨v', ⟨hI, owns_keep h.row (fun g hg => ?_), fun g hg => ⟨(h.apart g hg).1, fun e => (h.apart g hg).2 (hv g e)⟩⟩, fun g hg => ⟨fun e => ?_, ?_, fun e => ?_⟩, hb⟩
  · exact hS.block g (owns_base h.row g hg).2 (h.apart g hg).1 (h.apart g hg).2
  · have := (owns_base h.row g e).2; have := hu g hg; omega
  · have := h.st.lt; have := hu g hg; omega
  · have := (owns_base h.st.own g (hv g e)).2; have := hu g hg; omega
theorem Two.append (h : Two S B v ws vw w) {x : List UInt8} {w2 : World} {vw' : Value} {tmp : Obj} (ho : w2.ownsRow B 9 1 vw' (ws.length + 1) (ws.map strV ++ [strV x])) (hg : (w.alloc tmp).grownBy w2 vw.ownBlock) (hat : vw'.ownBlock = vw.ownBlock ∨ vw'.ownBlock = some (w.alloc tmp).heap.size) :
    Two S B v (ws ++ [x]) vw' w2 ∧ Below B w w2 ∧ Pass vw w w2 := by
  have hB := h.st.lt
  have hI1 := h.st.below ((Below.refl _ w).alloc (Nat.le_refl _) tmp)
  have hI2 := hI1.grown hg (fun e => (h.apart B e).1 rfl) (fun g hgg e => (h.apart g e).2 hgg)
  refine ⟨⟨hI2, by simpa using ho, fun g hgg => ?_⟩, ?_, fun u ds hu hn => (hu.below ((Below.refl _ w).alloc (Nat.le_refl _) tmp) (Nat.le_refl _)).grown hg (fun g hgu e => hn g hgu e)⟩
  · rcases hat with e | e
    · exact h.apart g (e ▸ hgg)
    · rw [e] at hgg
      have hgz : g = w.heap.size + 1 := by simp at hgg; exact hgg.symm
      exact ⟨by omega, fun e' => by have := (owns_base h.st.own g e').2; omega⟩
  · exact ((Below.refl B w).alloc (by omega) tmp).grown hg (by simp; omega) (fun j e => (owns_base h.row j e).1)
theorem Two.start {w : World} (h : Is S B v w) : Two S B v [] (.slice none 0 0) w := ⟨h, World.ownsRow_nil _ _ _ _, fun g hg => by cases hg⟩
/-- append of one text to the list. -/
theorem wpList_append_two {ops : Array Oper} {rest : List Oper} {o : Oper} {a : Act} {Q : Exit → Act → World → Prop} {S : St} {B : Nat} {v vw : Value} {ws : List (List UInt8)} {x : List UInt8} {w : World} (hgd : o.guard = none) (s y : Operand)
    (ho : o.op = .call { callee := .builtin .append, args := #[s, y], argTypes := #[24, 24] }) (hs : a.eval s = vw) (h : Two S B v ws vw w) (hy : a.eval y = .slice (some ⟨w.heap.size, 0, none⟩) 1 1) (hl : ws.length ≤ 1000)
    (hK : ∀ vw' w2, Two S B v (ws ++ [x]) vw' w2 → Below B w w2 → Pass vw w w2 → wpList Try.prog ops Q rest (a.put o.dst vw') w2) :
    wpList Try.prog ops Q (o :: rest) a (w.alloc (.cells #[strV x] 9)) := by
  obtain ⟨i0, hi, hz0, hz1, hz2⟩ := info_parts info_str
  have hB := h.st.lt
  refine wpList_append_own_at _ hgd s y 24 ho B 9 i0 (.string ⟨#[]⟩) 1 16 Try.underlying24 hi hz0 hz1 hz2 rfl (by decide) vw ws.length (ws.map strV) hs (owns_below h.row ((Below.refl _ w).alloc (Nat.le_refl _) _)) ⟨w.heap.size, 0, none⟩ 1 1 [strV x] hy rfl (cell_one_new _ _ _) (by simp [Value.oneCell']) (by unfold maxLen; omega) (by omega) (by simp; omega) ?_
  intro vw' w2 ho2 hg2 _ hat
  obtain ⟨h1, h2, h3⟩ := h.append ho2 hg2 hat
  exact hK vw' w2 h1 h2 h3
/-- The same of a text as the walk spells it. -/
theorem wpList_append_two' {ops : Array Oper} {rest : List Oper} {o : Oper} {a : Act} {Q : Exit → Act → World → Prop} {S : St} {B : Nat} {v vw : Value} {ws : List (List UInt8)} {x : ByteArray} {w : World} (hgd : o.guard = none) (s y : Operand)
    (ho : o.op = .call { callee := .builtin .append, args := #[s, y], argTypes := #[24, 24] }) (hs : a.eval s = vw) (h : Two S B v ws vw w) (hy : a.eval y = .slice (some ⟨w.heap.size, 0, none⟩) 1 1) (hl : ws.length ≤ 1000)
    (hK : ∀ vw' w2, Two S B v (ws ++ [x.data.toList]) vw' w2 → Below B w w2 → Pass vw w w2 → wpList Try.prog ops Q rest (a.put o.dst vw') w2) :
    wpList Try.prog ops Q (o :: rest) a (w.alloc (.cells #[.string x] 9)) := by
  have := wpList_append_two (x := x.data.toList) hgd s y ho hs h hy hl hK
  rwa [show strV x.data.toList = .string x from by rw [strV, txt_data]] at this
end Go.Proofs.Ytfbponiiejanfaa
