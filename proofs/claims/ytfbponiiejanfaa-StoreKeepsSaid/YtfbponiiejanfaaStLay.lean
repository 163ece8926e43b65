/-
  medium.lay: walked.
-/
import Derived.Test.YtfbponiiejanfaaStSmall
import Derived.Deep.RegionLaw
import Derived.Maps.AppendAt
namespace Go.Proofs.Ytfbponiiejanfaa
open Go.RowKit Go.Shelf
attribute [local go_sem] Oper.semAt_some
set_option linter.unusedVariables false
set_option linter.unusedSimpArgs false

theorem step_append_own {ops : Array Oper} {o : Oper} {a : Act} {w : World} {K : Act → World → Prop} {Q : Exit → Act → World → Prop} {E : Prop}
    (hg : o.guard = none) (s x : Operand) (t : TypeId) (hop : o.op = Op.call { callee := Callee.builtin Builtin.append, args := #[s, x], argTypes := #[t, t] })
    (base : Nat) (e : TypeId) (i : TypeInfo) (z : Value) (size bytes : Nat) (h1 : Try.prog.underlying t = some (.slice e)) (h2 : Try.prog.info? e = some i) (h3 : i.zero = some z) (h4 : i.size = size) (h5 : i.bytes = bytes) (h6 : z.cells.size = size) (h7 : 0 < size)
    (v : Value) (k : Nat) (xs : List Value) (hs : a.eval s = v) (hown : w.ownsRow base e size v k xs) (ad : Addr) (m c : Nat) (news : List Value) (hx : a.eval x = .slice (some ad) m c) (hn : news.length = m * size)
    (hc : ∀ j u, news[j]? = some u → w.cell? (ad.add j) = some u) (h1c : ∀ u ∈ news, u.oneCell' = true) (b1 : k + m ≤ maxLen) (b2 : (k + m) * bytes ≤ 140737488355328) (b3 : base ≤ w.heap.size)
    (hK : ∀ v' w', w'.ownsRow base e size v' (k + m) (xs ++ news) → w.grownBy w' v.ownBlock → (∀ g, v'.ownBlock = some g → v.ownBlock = some g ∨ w.heap.size ≤ g) → K (a.put o.dst v') w') :
    if Region.wanted o (yielded ops a.tmps) = true then Oper.wp Try.prog o a w K Q else E := by
  have hw : Region.wanted o (yielded ops a.tmps) = true := by simp [Region.wanted, hg]
  rw [if_pos hw]
  obtain ⟨v', w', hrun, r1, r2, r3, r4⟩ := run_append_own_at (P := Try.prog) w base t o.type e i z size bytes h1 h2 h3 h4 h5 h6 h7 v k xs hown ad m c news hn hc h1c b1 b2 b3
  unfold Oper.wp
  simp [execOp, hop, resolve, invoke, builtin, hs, hx, hrun, Result.andThen]
  exact hK v' w' r1 r2 (fun g hg => by
    rcases r4 with e | e
    · exact .inl (e ▸ hg)
    · rw [e] at hg; cases hg; exact .inr (Nat.le_refl _))
/-- A piece laid behind the others. -/
def St.Laid (S S' : St) (l : List UInt8) : Prop := S'.pieces = S.pieces ++ [l] ∧ S'.mark = S.mark ∧ S'.held = S.held + l.length ∧ S'.cap = S.cap ∧ S'.state = S.state ∧ S'.keep = S.keep ∧ S'.Ok
theorem lay_row {S : St} {B : Nat} {v : Value} {w w2 : World} {tmp : Obj} (h : Is S B v w) (hg : (w.drew.alloc tmp).grownBy w2 v.ownBlock) : w2.heap[B]? = some (.cells (cells S v) 48 (0, 0)) := by
  have hB := h.lt
  refine (hg.block B (by simp; omega) (fun e => ?_)).trans ((Below.heap_alloc w.drew tmp B hB).trans h.row)
  have := (owns_base h.own B e.symm).1
  omega
theorem lay_end {S S' : St} {B : Nat} {v v' : Value} {l : List UInt8} {w w2 : World} {tmp : Obj} (h : Is S B v w) (hl : S.Laid S' l) (ho : w2.ownsRow (B + 1) 9 1 v' (S.pieces.length + 1) (S.pieces.map strV ++ [strV l])) (hg : (w.drew.alloc tmp).grownBy w2 v.ownBlock)
    (hw : ∀ g, v'.ownBlock = some g → v.ownBlock = some g ∨ w.heap.size ≤ g) :
    Turns S' B v w ((w2.setCell ⟨B, 1, none⟩ v').setCell ⟨B, 2, none⟩ (.int .i64 ((S.held : Int) + (l.length : Int)))) := by
  obtain ⟨h1, h2, h3, h4, h5, h6, h7⟩ := hl
  have hr := row_set (row_set (lay_row h hg) 1 v') 2 (.int .i64 ((S.held : Int) + (l.length : Int)))
  have hB := h.lt
  refine ⟨v', ⟨?_, ?_, h7⟩, hw, ?_⟩
  · rw [hr]
    have e : ((cells S v).setIfInBounds 1 v').setIfInBounds 2 (.int .i64 ((S.held : Int) + (l.length : Int))) = cells S' v' := by
      rw [cells, cells, h2, h3, h4, h5, h6]
      simp
    rw [e]
  · have : w2.ownsRow (B + 1) 9 1 v' S'.pieces.length (S'.pieces.map strV) := by
      rw [h1]; simpa using ho
    refine owns_keep this (fun g hgg => ?_)
    have hg1 := (owns_base this g hgg).1
    exact (Below.heap_setCell _ _ _ g (by simp; omega)).trans (Below.heap_setCell _ _ _ g (by simp; omega))
  · refine ((Still.grown (w := w) ?_ hg).setCell ⟨B, 1, none⟩ _ rfl).setCell ⟨B, 2, none⟩ _ rfl
    exact Still.of_below ((Below.refl _ w).drew.alloc (by simp) tmp)
set_option maxRecDepth 100000 in
set_option maxHeartbeats 4000000 in
theorem mLay (S S' : St) (B : Nat) (v vb : Value) (l : List UInt8) (w : World) (h : Is S B v w) (hl : S.Laid S' l) (g c : Nat) (hgw : g < w.heap.size) (hb : Holds w g 0 l) (hll : l.length ≤ 5000) :
    Calls Try.prog 20 #[.pointer (some ⟨B, 0, none⟩), .slice (some ⟨g, 0, none⟩) l.length c] w fun e w' => e = .returned (.tuple #[]) ∧ Turns S' B v w w' := by
  have hc1 : w.cell? ⟨B, 1, none⟩ = some v := h.cell 1 _ rfl
  have hc2 : w.cell? ⟨B, 2, none⟩ = some (.int .i64 (S.held : Int)) := h.cell 2 _ rfl
  have hf1 := h.thawed 1
  have hf2 := h.thawed 2
  have hrt := run_text w.drew g 0 c l hb
  obtain ⟨i0, hi, hz0, hz1, hz2⟩ := info_parts info_str
  have hpf := St.pieces_few h.ok
  have hB := h.lt
  have HW := Lib.hid (show wrap64 ((S.held : Int) + (l.length : Int)) = (S.held : Int) + (l.length : Int) by have := St.held_small h.ok; unfold wrap64; omega)
  go_enter Try.func20, Try.ntmps20
  go_wp2
  go_region_law (refine step_append_own rfl _ _ 24 rfl (B + 1) 9 i0 (.string ⟨#[]⟩) 1 16 Try.underlying24 hi hz0 hz1 hz2 rfl (by decide) v S.pieces.length (S.pieces.map strV) rfl (owns_below h.own ((Below.refl _ w).drew.alloc (by simp) _)) ⟨w.heap.size, 0, none⟩ 1 1 [strV l] rfl rfl (cell_one_new _ _ _) (by simp [Value.oneCell']) (by unfold maxLen; omega) (by omega) (by simp; omega) ?_; intro v' w2 hown' hgrow hat; have hrow2 := lay_row h hgrow; have hk1 : w2.cell? ⟨B, 1, none⟩ = some v := (by simp [World.cell?, hrow2, cells]); have hk2 : w2.cell? ⟨B, 2, none⟩ = some (.int .i64 (S.held : Int)) := (by simp [World.cell?, hrow2, cells]); have hz1 : w2.frozen? ⟨B, 1, none⟩ = false := (by simp [World.frozen?, hrow2]); have hz2 : w2.frozen? ⟨B, 2, none⟩ = false := (by simp [World.frozen?, hrow2]); have hend := lay_end h hl hown' hgrow (fun g hg => by rcases hat g hg with e | e; exact .inl e; exact .inr (by simp at e; omega)); clear hrow2; obtain ⟨a2, c2, e2, _⟩ := owns_form hown'; generalize S.pieces.length + 1 = q at *; subst e2)
  all_goals (go_wp2; go_end0; exact ⟨rfl, by rw [HW.out]; exact hend⟩)
end Go.Proofs.Ytfbponiiejanfaa
