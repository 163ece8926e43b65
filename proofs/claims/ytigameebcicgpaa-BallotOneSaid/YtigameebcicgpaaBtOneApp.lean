/-
  make and append of votes, as steps of a region that draws its order; a race's cells, written.
-/
import Derived.Test.YtigameebcicgpaaBtOneSys
import Derived.OrdersHeld
import Derived.Laws.IdiomStrings
import Derived.Test.YtigameebcicgpaaHeldEnd
namespace Go.Proofs.Ytigameebcicgpaa
open Go.RowKit Go.Shelf
attribute [local go_sem] Oper.semAt_some
set_option linter.unusedVariables false
set_option linter.unusedSimpArgs false

section
variable {ops : Array Oper} {o : Oper} {a : Act} {w : World} {Q : Exit → Act → World → Prop} {K : Act → World → Prop} {E : Prop}
theorem one_owns {w : World} {base n : Nat} {v : Value} {l : List Vt} (h : w.ownsRow base 24 3 v n (flat l)) (hn : l.length = n) : Votes w base v l := by
  subst hn
  rcases h.2 with ⟨h1, h2⟩ | ⟨g, cap, cur, h1, h2, h3, h4, h5, h6, h7⟩
  · exact .inl ⟨h1, List.eq_nil_of_length_eq_zero h2⟩
  · exact .inr ⟨g, cap, cur, h1, h2, h3, h4, h5, by omega, h7⟩
theorem one_grown {w w' : World} (h : w.grownBy w' none) : Below w.heap.size w w' := ⟨h.os, h.tape, h.output, h.size, fun k hk => h.block k hk (by simp)⟩
theorem step_make_votes (hg : o.guard = none) (l c : Operand) (hop : o.op = Op.makeSlice 33 l c) (base : Nat) (hl : a.eval l = .int .i64 0) (hc : a.eval c = .int .i64 16) (hb : base ≤ w.heap.size)
    (hK : ∀ w', Votes w' base (.slice (some ⟨w.heap.size, 0, none⟩) 0 16) [] → Below w.heap.size w w' → K (a.put o.dst (.slice (some ⟨w.heap.size, 0, none⟩) 0 16)) w') :
    if Region.wanted o (yielded ops a.tmps) = true then Oper.wp Try.prog o a w K Q else E := by
  have hw : Region.wanted o (yielded ops a.tmps) = true := by simp [Region.wanted, hg]
  rw [if_pos hw]
  obtain ⟨i0, hi, hz0, hz1, hz2⟩ := info_parts info_vote
  obtain ⟨w', hrun, r1, r2⟩ := run_make_own (P := Try.prog) w base 33 24 i0 _ 3 Try.underlying33 hi hz0 hz1 .i64 .i64 16 (by rw [hz2]; decide) (by unfold maxLen; decide) hb
  have hr2 : (Instr.makeSlice 33 (.int .i64 0) (.int .i64 16)).run Try.prog w = .ok (.slice (some ⟨w.heap.size, 0, none⟩) 0 16) w' := hrun
  unfold Oper.wp
  simp [execOp, hop, hl, hc, hr2, Result.andThen]
  exact hK w' (one_owns r1 rfl) (one_grown r2)
theorem run_append_votes0 (w : World) (g k c c' : Nat) (ao : Option Addr) (ty : TypeId) (hk : k ≤ c) : (Builtin.append_ #[33, 33] ty #[.slice (some ⟨g, 0, none⟩) k c, .slice ao 0 c']).run Try.prog w = .ok (.slice (some ⟨g, 0, none⟩) k c) w := by
  obtain ⟨i0, hi, hz0, hz1, hz2⟩ := info_parts info_vote
  cases ao <;> simp [Builtin.append_, run_underlying Try.underlying33, sizeOf, typeInfo, hi, hz1, Builtin.lenOf, Builtin.firstCells, hk, storeCells, loadCells, loadCellsFrom]
/-- append of a whole list of votes to an empty one with room. -/
theorem step_append_list (hg : o.guard = none) (s x : Operand) (hop : o.op = Op.call { callee := Callee.builtin Builtin.append, args := #[s, x], argTypes := #[33, 33] })
    (base bx gv cv : Nat) (v vx : Value) (hvv : v = .slice (some ⟨gv, 0, none⟩) 0 cv) (news : List Vt) (hs : a.eval s = v) (hown : Votes w base v []) (hx : a.eval x = vx) (hnew : Votes w bx vx news) (hk : news.length ≤ 1000000) (hb : base ≤ w.heap.size)
    (hK : ∀ v' w', Votes w' base v' news → w.grownBy w' v.ownBlock → (v'.ownBlock = v.ownBlock ∨ v'.ownBlock = some w.heap.size) → K (a.put o.dst v') w') :
    if Region.wanted o (yielded ops a.tmps) = true then Oper.wp Try.prog o a w K Q else E := by
  rcases hnew with ⟨h1, h2⟩ | ⟨g, cap, cur, h1, h2, h3, h4, h5, h6, h7⟩
  · subst h1 h2
    have hw : Region.wanted o (yielded ops a.tmps) = true := by simp [Region.wanted, hg]
    rw [if_pos hw]
    subst hvv
    have hrun := run_append_votes0 w gv 0 cv 0 none o.type (Nat.zero_le _)
    unfold Oper.wp
    simp [execOp, hop, resolve, invoke, builtin, hs, hx, hrun, Result.andThen]
    exact hK _ w hown ⟨rfl, rfl, rfl, Nat.le_refl _, fun _ _ _ => rfl⟩ (.inl rfl)
  · refine step_append_votes hg s x hop base v [] hs hown ⟨g, 0, none⟩ news.length cap news (hx.trans h1) rfl (fun j u hu => ?_) (by simpa using hk) hb (by simpa using hK)
    rw [add0, cell_of_row w g j cur _ _ h3]
    have hj : j < news.length * 3 := by have := (List.getElem?_eq_some_iff.1 hu).1; rwa [flat_length] at this
    rw [← h7, List.getElem?_take, if_pos hj] at hu
    simpa using hu
end
section
variable {F : Fence} {m : Nat} {ops : Array Oper} {o : Oper} {a : Act} {w : World} {Q : Exit → Act → World → Prop} {K : Act → World → Prop} {E : Prop}
theorem opIn_make_votes (hg : o.guard = none) (l c : Operand) (hop : o.op = Op.makeSlice 33 l c) (base : Nat) (hl : a.eval l = .int .i64 0) (hc : a.eval c = .int .i64 16) (hb : base ≤ w.heap.size)
    (hK : ∀ w', Votes w' base (.slice (some ⟨w.heap.size, 0, none⟩) 0 16) [] → Below w.heap.size w w' → K (a.put o.dst (.slice (some ⟨w.heap.size, 0, none⟩) 0 16)) w') :
    if Region.wanted o (yielded ops a.tmps) = true then Oper.wpIn F m Try.prog o a w K Q else E := by
  have hw : Region.wanted o (yielded ops a.tmps) = true := by simp [Region.wanted, hg]
  rw [if_pos hw]
  obtain ⟨i0, hi, hz0, hz1, hz2⟩ := info_parts info_vote
  obtain ⟨w', hrun, r1, r2⟩ := run_make_own (P := Try.prog) w base 33 24 i0 _ 3 Try.underlying33 hi hz0 hz1 .i64 .i64 16 (by rw [hz2]; decide) (by unfold maxLen; decide) hb
  have hr2 : (Instr.makeSlice 33 (.int .i64 0) (.int .i64 16)).run Try.prog w = .ok (.slice (some ⟨w.heap.size, 0, none⟩) 0 16) w' := hrun
  unfold Oper.wpIn
  refine ⟨?_, ?_⟩
  · simp [Oper.about, hop]
  · rw [Oper.semAt_plain F _ _ (by rw [hop]; intro c hc'; cases hc')]
    simp [execOp, hop, hl, hc, hr2, Result.andThen]
    exact hK w' (one_owns r1 rfl) (one_grown r2)
theorem opIn_append_votes (hg : o.guard = none) (s x : Operand) (hop : o.op = Op.call { callee := Callee.builtin Builtin.append, args := #[s, x], argTypes := #[33, 33] })
    (base : Nat) (v : Value) (l : List Vt) (hs : a.eval s = v) (hown : Votes w base v l) (ad : Addr) (n c : Nat) (news : List Vt) (hx : a.eval x = .slice (some ad) n c) (hl : news.length = n)
    (hc : ∀ j u, (flat news)[j]? = some u → w.cell? (ad.add j) = some u) (hk : l.length + n ≤ 1000000) (hb : base ≤ w.heap.size)
    (hK : ∀ v' w', Votes w' base v' (l ++ news) → w.grownBy w' v.ownBlock → (v'.ownBlock = v.ownBlock ∨ v'.ownBlock = some w.heap.size) → K (a.put o.dst v') w') :
    if Region.wanted o (yielded ops a.tmps) = true then Oper.wpIn F m Try.prog o a w K Q else E := by
  have hw : Region.wanted o (yielded ops a.tmps) = true := by simp [Region.wanted, hg]
  rw [if_pos hw]
  obtain ⟨v', w', hrun, r1, r2, r3⟩ := run_append_votes w o.type base v l hown ad n c news hl hc hk hb
  unfold Oper.wpIn
  refine ⟨?_, ?_⟩
  · simp [Oper.about, hop, resolve, Target.leads, Sem.run_pure]
  · rw [Oper.semAt_plain F _ _ (by rw [hop]; intro c hc'; cases hc')]
    simp [execOp, hop, resolve, invoke, builtin, hs, hx, hrun, Result.andThen]
    exact hK v' w' r1 r2 r3
/-- append of a whole list of votes to an empty one with room. -/
theorem opIn_append_list (hg : o.guard = none) (s x : Operand) (hop : o.op = Op.call { callee := Callee.builtin Builtin.append, args := #[s, x], argTypes := #[33, 33] })
    (base bx gv cv : Nat) (v vx : Value) (hvv : v = .slice (some ⟨gv, 0, none⟩) 0 cv) (news : List Vt) (hs : a.eval s = v) (hown : Votes w base v []) (hx : a.eval x = vx) (hnew : Votes w bx vx news) (hk : news.length ≤ 1000000) (hb : base ≤ w.heap.size)
    (hK : ∀ v' w', Votes w' base v' news → w.grownBy w' v.ownBlock → (v'.ownBlock = v.ownBlock ∨ v'.ownBlock = some w.heap.size) → K (a.put o.dst v') w') :
    if Region.wanted o (yielded ops a.tmps) = true then Oper.wpIn F m Try.prog o a w K Q else E := by
  rcases hnew with ⟨h1, h2⟩ | ⟨g, cap, cur, h1, h2, h3, h4, h5, h6, h7⟩
  · subst h1 h2
    have hw : Region.wanted o (yielded ops a.tmps) = true := by simp [Region.wanted, hg]
    rw [if_pos hw]
    subst hvv
    have hrun := run_append_votes0 w gv 0 cv 0 none o.type (Nat.zero_le _)
    unfold Oper.wpIn
    refine ⟨?_, ?_⟩
    · simp [Oper.about, hop, resolve, Target.leads, Sem.run_pure]
    · rw [Oper.semAt_plain F _ _ (by rw [hop]; intro c hc'; cases hc')]
      simp [execOp, hop, resolve, invoke, builtin, hs, hx, hrun, Result.andThen]
      exact hK _ w hown ⟨rfl, rfl, rfl, Nat.le_refl _, fun _ _ _ => rfl⟩ (.inl rfl)
  · refine opIn_append_votes hg s x hop base v [] hs hown ⟨g, 0, none⟩ news.length cap news (hx.trans h1) rfl (fun j u hu => ?_) (by simpa using hk) hb (by simpa using hK)
    rw [add0, cell_of_row w g j cur _ _ h3]
    have hj : j < news.length * 3 := by have := (List.getElem?_eq_some_iff.1 hu).1; rwa [flat_length] at this
    rw [← h7, List.getElem?_take, if_pos hj] at hu
    simpa using hu
end
section
variable {P : Program} {F : Fence} {ops : Array Oper} {md : Region.Mode} {Q : Exit → Act → World → Prop} {S : World → Prop} {e : Nat}
/-- One of the two that may come up. -/
theorem anyE_two {m : Nat} (k1 k2 : Nat) {fuel : Nat} {listed : Array Bool} {a : Act} {w : World} {o1 o2 : Oper} (ho1 : ops[k1]? = some o1) (ho2 : ops[k2]? = some o2) (hr : Region.ready md ops listed = [k1, k2])
    (h1 : ∀ K' : Act → World → Prop, (∀ a w, (k1 ≠ e → S w) → anyE F m P md ops Q S e fuel (listed.setIfInBounds k1 true) a w → K' a w) → if Region.wanted o1 (yielded ops a.tmps) = true then Oper.wpIn F m P o1 a w K' Q else (∀ f, o1.about P w a.eval = some f → F.fn f) ∧ K' (a.put o1.dst undef) w)
    (h2 : ∀ K' : Act → World → Prop, (∀ a w, (k2 ≠ e → S w) → anyE F m P md ops Q S e fuel (listed.setIfInBounds k2 true) a w → K' a w) → if Region.wanted o2 (yielded ops a.tmps) = true then Oper.wpIn F m P o2 a w K' Q else (∀ f, o2.about P w a.eval = some f → F.fn f) ∧ K' (a.put o2.dst undef) w) :
    anyE F m P md ops Q S e (fuel + 1) listed a w :=
  ⟨fun h0 => (by rw [hr] at h0; cases h0), fun i hi => by
    rw [hr] at hi
    rcases List.mem_cons.1 hi with rfl | hi
    · exact wpOpIn_step ho1 fun K' hK => h1 K' fun a w hs hh => hK a w ⟨hs, hh⟩
    · rw [List.mem_singleton.1 hi]
      exact wpOpIn_step ho2 fun K' hK => h2 K' fun a w hs hh => hK a w ⟨hs, hh⟩⟩
end
theorem one_few {l : List Vt} (h : l.length ≤ 16) : l.length + 1 ≤ 1000000 := by omega
theorem one_cells {w : World} {g : Nat} {v : Vt} {t : TypeId} (h : w.heap[g]? = some (.cells #[.int .u64 (v.prom : Int), .int .u64 (v.bal : Int), .string v.val'] t (0, 0))) : ∀ j u, (flat [v])[j]? = some u → w.cell? ((⟨g, 0, none⟩ : Addr).add j) = some u := by
  intro j u hu
  rw [add0, cell_of_row _ _ j _ t (0, 0) h]
  simpa [flat, Vt.cells] using hu
namespace One
theorem half (m n : Nat) (h : m ≤ n) (h2 : n ≤ 16) : IntKind.i64.wrap (2 * (m : Int)) = 2 * (m : Int) := by rw [IntWalk.i64_in] <;> omega
theorem half_yes {m n : Nat} (h : n < 2 * m) : decide ((n : Int) < 2 * (m : Int)) = true := decide_eq_true (by omega)
theorem half_yes' {m n : Nat} (h : n < 2 * m) : (n : Int) < 2 * (m : Int) := by omega
theorem half_no {m n : Nat} (h : ¬ n < 2 * m) : decide ((n : Int) < 2 * (m : Int)) = false := decide_eq_false (by omega)
theorem half_no' {m n : Nat} (h : ¬ n < 2 * m) : ¬ (n : Int) < 2 * (m : Int) := by omega
theorem byte8 {b : Nat} (h : b ≤ 40) : IntKind.u8.wrap (64 + (b : Int)) = 64 + (b : Int) := by rw [IntWalk.u8_in] <;> omega
theorem byte64 {b : Nat} (h : b ≤ 40) : wrap64 (64 + (b : Int)) = 64 + (b : Int) := by unfold wrap64; omega
theorem byteI {b : Nat} (h : b ≤ 40) : IntKind.i64.wrap (64 + (b : Int)) = 64 + (b : Int) := by rw [IntWalk.i64_in] <;> omega
theorem wrapU {b : Nat} (h : b ≤ 40) : IntKind.u64.wrap (b : Int) = (b : Int) := by rw [IntWalk.u64_in] <;> omega
theorem small {n : Nat} (h : n ≤ 4000) : n ≤ 1000000 := by omega
/-- A text of one byte. -/
theorem conv {b : Nat} (hb : b ≤ 40) (W : World) (g : Nat) (t : TypeId) (h : W.heap[g]? = some (.cells #[.int .u8 (64 + (b : Int))] t (0, 0))) :
    (convert 54 9 (.slice (some ⟨g, 0, none⟩) 1 1)).run Try.prog W = .ok (.string ⟨#[UInt8.ofNat (64 + b)]⟩) W := by
  have hb' : (UInt8.ofNat (64 + b)).toNat = 64 + b := by
    rw [UInt8.toNat_ofNat']
    omega
  exact run_convert_bytes_back W 54 9 5 ⟨g, 0, none⟩ 1 [UInt8.ofNat (64 + b)] Try.underlying54 Try.underlying5 Try.underlying9 (fun j hj => by
    obtain rfl : j = 0 := by simpa using hj
    rw [add0, cell_of_row _ _ 0 _ t (0, 0) h]
    simp only [List.getElem_cons_zero, hb']
    rfl)
theorem rc_at (v : Value) (r : Bt.Race) (hr : r.has.length = 16) : (rc v r).toArray[0]? = some v ∧ (rc v r).toArray[17]? = some (.string r.value) ∧ (rc v r).toArray[18]? = some (.bool r.fixed) ∧ ∀ a x, r.has[a]? = some x → (rc v r).toArray[1 + a]? = some (.bool x) := by
  obtain ⟨bl, hs, vl, fx⟩ := r
  dsimp only at hr ⊢
  refine ⟨rfl, ?_, ?_, fun a x hx => ?_⟩
  · simp [rc, hr, List.getElem?_append]
  · simp [rc, hr, List.getElem?_append]
  · have ha := (List.getElem?_eq_some_iff.1 hx).1
    simp only [List.getElem?_toArray, rc]
    rw [show 1 + a = a + 1 by omega, List.getElem?_cons_succ, List.getElem?_append_left (by simpa using ha), List.getElem?_map, hx]
    rfl
theorem rc_by (v u : Value) (r : Bt.Race) (l : List Vt) : (rc v r).toArray.setIfInBounds 0 u = (rc u { r with by' := l }).toArray := by simp [rc]
theorem rc_has (v : Value) (r : Bt.Race) (a : Nat) (ha : a < r.has.length) : (rc v r).toArray.setIfInBounds (1 + a) (.bool true) = (rc v { r with has := r.has.set a true }).toArray := by
  apply Array.toList_inj.1
  simp only [rc, List.setIfInBounds_toArray]
  rw [show 1 + a = a + 1 by omega, List.set_cons_succ, List.set_append_left _ _ (by simpa using ha), List.map_set]
theorem rc_value (v : Value) (r : Bt.Race) (hr : r.has.length = 16) (s : ByteArray) : (rc v r).toArray.setIfInBounds 17 (.string s) = (rc v { r with value := s }).toArray := by
  apply Array.toList_inj.1
  simp only [rc, List.setIfInBounds_toArray]
  rw [show 17 = 16 + 1 from rfl, List.set_cons_succ, List.set_append_right _ _ (by simp [hr])]
  simp [hr]
theorem rc_fixed (v : Value) (r : Bt.Race) (hr : r.has.length = 16) (f : Bool) : (rc v r).toArray.setIfInBounds 18 (.bool f) = (rc v { r with fixed := f }).toArray := by
  apply Array.toList_inj.1
  simp only [rc, List.setIfInBounds_toArray]
  rw [show 18 = 17 + 1 from rfl, List.set_cons_succ, List.set_append_right _ _ (by simp [hr])]
  simp [hr]
end One
end Go.Proofs.Ytigameebcicgpaa
