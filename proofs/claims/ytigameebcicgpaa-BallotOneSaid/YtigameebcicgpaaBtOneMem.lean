/-
  BallotOne: a struct out of the middle of a block, and into it, whole; the races as cells; the memory.
-/
import Derived.Test.YtigameebcicgpaaBtShown
import Derived.Laws.Rows
import Derived.Laws.Tables
import Derived.Deep.WholeRow
namespace Go.Proofs.Ytigameebcicgpaa
open Go.RowKit Go.Shelf
set_option linter.unusedVariables false
set_option linter.unusedSimpArgs false

section
variable {P : Program}
theorem add_at (g o j : Nat) : (⟨g, o, none⟩ : Addr).add j = ⟨g, o + j, none⟩ := by unfold Addr.add; split <;> simp_all
theorem run_loadVar_mid (w : World) (g o : Nat) (ty : TypeId) (cs : List Value) (d : TypeDesc) (hg : ∀ j v, cs[j]? = some v → w.cell? ⟨g, o + j, none⟩ = some v)
    (hu : P.underlying ty = some d) (hd : (match d with | .struct _ | .array _ _ => true | _ => false) = true) (hi : (P.info? ty).map (·.size) = some cs.length) :
    (loadVar ty ⟨g, o, none⟩).run P w = .ok (.agg cs.toArray) w := by
  have hl : (loadCells ⟨g, o, none⟩ cs.length).run P w = .ok cs.toArray w :=
    run_loadCells_list (P := P) w ⟨g, o, none⟩ cs (fun j v hv => by rw [add_at]; exact hg j v hv)
  cases hq : P.info? ty with
  | none => simp [hq] at hi
  | some i =>
    have hs : i.size = cs.length := by simpa [hq] using hi
    have hagg : (isAgg ty).run P w = .ok true w := by
      unfold isAgg
      rw [Sem.run_bind, run_underlying hu w]
      cases d <;> simp_all
    simp [loadVar, Sem.run_bind, hagg, sizeOf, typeInfo, hq, hs, hl]
theorem run_storeCells_mid (g o : Nat) (t : TypeId) : ∀ (vs : List Value) (i : Nat) (cur : Array Value) (w : World), w.heap[g]? = some (.cells cur t (0, 0)) → o + i + vs.length ≤ cur.size → (∀ v ∈ vs, v.oneCell' = true) →
    (storeCells ⟨g, o, none⟩ vs i).run P w = .ok () (w.setRow g (cur.toList.take (o + i) ++ vs ++ cur.toList.drop (o + i + vs.length)).toArray)
  | [], i, cur, w, hg, hl, _ => by
    have : cur.toList.take (o + i) ++ [] ++ cur.toList.drop (o + i + ([] : List Value).length) = cur.toList := by simp
    rw [this]
    have hlt : g < w.heap.size := (Array.getElem?_eq_some_iff.1 hg).1
    have hv : w.heap[g] = .cells cur t (0, 0) := (Array.getElem?_eq_some_iff.1 hg).2
    simp only [storeCells, Array.toArray_toList]
    show Result.ok () w = _
    congr 1
    unfold World.setRow
    cases w with
    | mk heap tape drawn os output =>
      congr 1
      apply Array.ext
      · simp
      · intro k h1 h2
        simp only [Array.getElem_modify]
        split
        · rename_i hk; subst hk; simp at hv; simp [hv]
        · rfl
  | v :: rest, i, cur, w, hg, hl, h1 => by
    have hi : o + i < cur.size := by simp at hl; omega
    have hcell : w.cell? ⟨g, o + i, none⟩ = some cur[o + i] := by simp [World.cell?, hg, hi]
    have hfro : w.frozen? ⟨g, o + i, none⟩ = false := by simp [World.frozen?, hg]
    have hst : (store ((⟨g, o, none⟩ : Addr).add i) v).run P w = .ok () (w.setRow g (cur.setIfInBounds (o + i) v)) := by
      rw [add_at, run_store P w _ v _ (h1 v (by simp)), hcell]
      simp [hfro, setCell_eq_setRow w g (o + i) cur t (0, 0) v hg]
    have ih := run_storeCells_mid g o t rest (i + 1) (cur.setIfInBounds (o + i) v) (w.setRow g (cur.setIfInBounds (o + i) v)) (setRow_heap w g cur _ t _ hg) (by simp at hl ⊢; omega) (fun x hx => h1 x (by simp [hx]))
    simp only [storeCells, Sem.run_bind, hst, Result.andThen_ok, ih, setRow_setRow]
    congr 3
    simp only [Array.toList_setIfInBounds]
    rw [show o + (i + 1) + rest.length = o + i + (v :: rest).length by (first | (simp; done) | (simp; omega)), List.drop_set_of_lt (by first | (simp; done) | (simp; omega))]
    congr 1
    have hlen : o + i < cur.toList.length := by simpa using hi
    rw [show o + (i + 1) = o + i + 1 by omega, List.take_succ_eq_append_getElem (by simpa using hlen), List.take_set_of_le (Nat.le_refl _)]
    simp
theorem run_storeVar_mid (w : World) (g o : Nat) (t ty : TypeId) (old : Array Value) (cs : List Value) (hg : w.heap[g]? = some (.cells old t (0, 0))) (hi : (P.info? ty).map (·.size) = some cs.length)
    (ho : o + cs.length ≤ old.size) (h1 : ∀ v ∈ cs, v.oneCell' = true) :
    (storeVar ty ⟨g, o, none⟩ (.agg cs.toArray)).run P w = .ok () (w.setRow g (old.toList.take o ++ cs ++ old.toList.drop (o + cs.length)).toArray) := by
  have := run_storeCells_mid (P := P) g o t cs 0 old w hg (by simpa using ho) h1
  cases hq : P.info? ty with
  | none => simp [hq] at hi
  | some i =>
    have hs : cs.length = i.size := by simp [hq] at hi; omega
    simp [storeVar, sizeOf, typeInfo, hq, Value.cells, hs]
    rw [← hs]
    simpa using this
variable {ops : Array Oper} {rest : List Oper} {o : Oper} {a : Act} {w : World} {Q : Exit → Act → World → Prop}
theorem wpList_load_at (hgd : o.guard = none) (ty : TypeId) (x : Operand) (ho : o.op = .load ty x) (p : Addr) (hx : a.eval x = .pointer (some p)) (v : Value) (hl : (loadVar ty p).run P w = .ok v w)
    (h : wpList P ops Q rest (a.put o.dst v) w) : wpList P ops Q (o :: rest) a w :=
  wpList_plain hgd fun _ hK => by
    unfold Oper.wp execOp
    simp only [ho, hx, Instr.loadAt, Instr.sureAddr, Sem.run_bind, Sem.run_pure, Result.andThen_ok, hl]
    exact hK _ _ h
theorem wpList_store_at (hgd : o.guard = none) (ty : TypeId) (x y : Operand) (ho : o.op = .store ty x y) (p : Addr) (hx : a.eval x = .pointer (some p)) (v : Value) (hy : a.eval y = v) (w' : World) (hl : (storeVar ty p v).run P w = .ok () w')
    (h : wpList P ops Q rest (a.put o.dst undef) w') : wpList P ops Q (o :: rest) a w :=
  wpList_plain hgd fun _ hK => by
    unfold Oper.wp execOp
    simp only [ho, hx, hy, Instr.storeAt, Instr.sureAddr, Sem.run_bind, Sem.run_pure, Result.andThen_ok, hl]
    exact hK _ _ h
end
namespace One
/-- A race's cells. -/
def rc (v : Value) (r : Bt.Race) : List Value := v :: (r.has.map Value.bool ++ [.string r.value, .bool r.fixed])
theorem rc_len (v : Value) (r : Bt.Race) (h : r.has.length = 16) : (rc v r).length = 19 := by simp [rc, h]
/-- The cells of all of them. -/
def rcs (vs : Nat → Value) (R : Nat → Bt.Race) : Nat → Nat → List Value
  | _, 0 => []
  | b, m + 1 => rc (vs b) (R b) ++ rcs vs R (b + 1) m
theorem rcs_len (vs : Nat → Value) (R : Nat → Bt.Race) (h : ∀ b, (R b).has.length = 16) : ∀ m b, (rcs vs R b m).length = m * 19
  | 0, b => rfl
  | m + 1, b => by rw [rcs, List.length_append, rc_len _ _ (h b), rcs_len vs R h m]; omega
theorem rcs_get (vs : Nat → Value) (R : Nat → Bt.Race) (h : ∀ b, (R b).has.length = 16) : ∀ m b k j, k < m → j < 19 → (rcs vs R b m)[k * 19 + j]? = (rc (vs (b + k)) (R (b + k)))[j]?
  | 0, b, k, j, hk, hj => absurd hk (Nat.not_lt_zero _)
  | m + 1, b, k, j, hk, hj => by
    have hl := rc_len (vs b) (R b) (h b)
    cases k with
    | zero => rw [rcs, List.getElem?_append_left (by omega)]; simp
    | succ k =>
      rw [rcs, List.getElem?_append_right (by rw [hl]; omega), hl, show (k + 1) * 19 + j - 19 = k * 19 + j by omega, rcs_get vs R h m (b + 1) k j (by omega) hj, show b + 1 + k = b + (k + 1) by omega]
theorem rcs_congr (vs vs' : Nat → Value) (R R' : Nat → Bt.Race) : ∀ m b, (∀ k, b ≤ k → k < b + m → vs k = vs' k ∧ R k = R' k) → rcs vs R b m = rcs vs' R' b m
  | 0, b, _ => rfl
  | m + 1, b, h => by
    obtain ⟨h1, h2⟩ := h b (Nat.le_refl _) (by omega)
    rw [rcs, rcs, h1, h2, rcs_congr vs vs' R R' m (b + 1) (fun k hk hk2 => h k (by omega) (by omega))]
def updV (vs : Nat → Value) (b : Nat) (v : Value) : Nat → Value := fun c => if c = b then v else vs c
theorem rcs_put (vs : Nat → Value) (R : Nat → Bt.Race) (h : ∀ b, (R b).has.length = 16) (v : Value) (r : Bt.Race) (hr : r.has.length = 16) : ∀ m b k, k < m →
    (rcs vs R b m).take (k * 19) ++ rc v r ++ (rcs vs R b m).drop (k * 19 + 19) = rcs (updV vs (b + k) v) (Bt.upd R (b + k) r) b m
  | 0, b, k, hk => absurd hk (Nat.not_lt_zero _)
  | m + 1, b, k, hk => by
    have hl := rc_len (vs b) (R b) (h b)
    cases k with
    | zero =>
      have e1 : updV vs (b + 0) v b = v := by unfold updV; simp
      have e2 : Bt.upd R (b + 0) r b = r := by unfold Bt.upd; simp
      have e3 : rcs (updV vs (b + 0) v) (Bt.upd R (b + 0) r) (b + 1) m = rcs vs R (b + 1) m := rcs_congr _ _ _ _ m (b + 1) (fun k hk _ => by
        unfold updV Bt.upd
        rw [if_neg (by omega), if_neg (by omega)]; exact ⟨rfl, rfl⟩)
      rw [rcs, rcs, e1, e2, e3, Nat.zero_mul, Nat.zero_add, List.take_zero, List.nil_append, ← hl, List.drop_left]
    | succ k =>
      have e1 : updV vs (b + (k + 1)) v b = vs b := by unfold updV; rw [if_neg (by omega)]
      have e2 : Bt.upd R (b + (k + 1)) r b = R b := by unfold Bt.upd; rw [if_neg (by omega)]
      have ih := rcs_put vs R h v r hr m (b + 1) k (by omega)
      rw [show b + 1 + k = b + (k + 1) by omega] at ih
      rw [rcs, rcs, e1, e2, ← ih, show (k + 1) * 19 = (rc (vs b) (R b)).length + k * 19 by rw [hl]; omega, List.take_length_add_append, show (rc (vs b) (R b)).length + k * 19 + 19 = (rc (vs b) (R b)).length + (k * 19 + 19) by omega, List.drop_length_add_append]
      simp only [List.append_assoc]
end One
end Go.Proofs.Ytigameebcicgpaa
