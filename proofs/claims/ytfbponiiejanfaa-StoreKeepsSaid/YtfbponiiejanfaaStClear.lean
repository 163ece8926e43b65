/-
  slices.Delete of the last elements; clear.
-/
import Derived.Test.YtfbponiiejanfaaStWrites
import Derived.Laws.CopyRow
namespace Go.Proofs.Ytfbponiiejanfaa
open Go.RowKit Go.Shelf
attribute [local go_sem] Oper.semAt_some
set_option linter.unusedVariables false
set_option linter.unusedSimpArgs false

theorem info_z : ∃ i, Try.prog.info? 9 = some i ∧ i.zero = some (.string ⟨#[]⟩) ∧ i.size = 1 := by
  obtain ⟨i0, hi, hz0, hz1, hz2⟩ := info_parts info_str
  exact ⟨i0, hi, hz0, hz1⟩
/-- clear of the last element of a list: what is ahead of it stays. -/
theorem run_clear_last (w : World) (g k c : Nat) (cur : Array Value) (ty : TypeId) (hg : w.heap[g]? = some (.cells cur 9 (0, 0))) (hs : k + 1 ≤ cur.size) :
    (Builtin.clear_ #[24] ty #[.slice (some ⟨g, k, none⟩) 1 c]).run Try.prog w = .ok (.tuple #[]) (w.setRow g (cur.toList.take k ++ [Value.string ⟨#[]⟩] ++ cur.toList.drop (k + 1)).toArray) := by
  obtain ⟨i, hi, hz, hz1⟩ := info_z
  have hst := run_storeCells_at (P := Try.prog) g k 9 [.string ⟨#[]⟩] 0 cur w hg (by simpa using hs) (by simp [Value.oneCell'])
  have hzv : (zeroValue 9).run Try.prog w = .ok (.string ⟨#[]⟩) w := by kernel_rfl
  simp only [Nat.add_zero, List.length_cons, List.length_nil, Nat.zero_add] at hst
  have hl : (List.map (fun i => (Value.string ⟨#[]⟩).cells[i % (Value.string ⟨#[]⟩).cells.size]!) (List.range (Value.string ⟨#[]⟩).cells.size)) = [Value.string ⟨#[]⟩] := rfl
  simp [hl, Builtin.clear_, run_underlying Try.underlying24, hzv, hst, Builtin.zeroCells]
/-- append of nothing. -/
theorem run_append_nought (w : World) (g k c c' : Nat) (ao : Option Addr) (ty : TypeId) (hk : k ≤ c) : (Builtin.append_ #[24, 24] ty #[.slice (some ⟨g, 0, none⟩) k c, .slice ao 0 c']).run Try.prog w = .ok (.slice (some ⟨g, 0, none⟩) k c) w := by
  obtain ⟨i, hi, hz, hz1⟩ := info_z
  cases ao <;> simp [Builtin.append_, run_underlying Try.underlying24, sizeOf, typeInfo, hi, Builtin.lenOf, Builtin.firstCells, hk, storeCells, loadCells, loadCellsFrom]
theorem step_append_nought {ops : Array Oper} {o : Oper} {a : Act} {w : World} {K : Act → World → Prop} {Q : Exit → Act → World → Prop} {E : Prop}
    (hg : o.guard = none) (s x : Operand) (hop : o.op = Op.call { callee := Callee.builtin Builtin.append, args := #[s, x], argTypes := #[24, 24] })
    (g k c c' : Nat) (ao : Option Addr) (hs : a.eval s = .slice (some ⟨g, 0, none⟩) k c) (hx : a.eval x = .slice ao 0 c') (hk : k ≤ c)
    (hK : K (a.put o.dst (.slice (some ⟨g, 0, none⟩) k c)) w) :
    if Region.wanted o (yielded ops a.tmps) = true then Oper.wp Try.prog o a w K Q else E := by
  have hw : Region.wanted o (yielded ops a.tmps) = true := by simp [Region.wanted, hg]
  rw [if_pos hw]
  have hrun := run_append_nought w g k c c' ao o.type hk
  unfold Oper.wp
  simp [execOp, hop, resolve, invoke, builtin, hs, hx, hrun, Result.andThen]
  exact hK
/-- Nothing is left out. -/
theorem slDeleteNone (a : Option Addr) (n c : Nat) (hc : (n : Int) ≤ (c : Int)) (w : World) : Calls Try.prog 23 #[.slice a n c, .int .i64 (n : Int), .int .i64 (n : Int)] w fun e w' => e = .returned (.slice a n c) ∧ Below w.heap.size w w' := by
  go_enter Try.func23, Try.ntmps23
  go_wp2
  go_ret
  exact ⟨rfl, Below.refl _ _⟩
set_option maxRecDepth 100000 in
set_option maxHeartbeats 4000000 in
/-- The last is left out. -/
theorem slDeleteLast (g n c : Nat) (cur : Array Value) (hc : ((n + 1 : Nat) : Int) ≤ (c : Int)) (w : World) (hn : n ≤ 1000000) (hg : w.heap[g]? = some (.cells cur 9 (0, 0))) (hcs : c = cur.size) :
    Calls Try.prog 23 #[.slice (some ⟨g, 0, none⟩) (n + 1) c, .int .i64 (n : Int), .int .i64 ((n + 1 : Nat) : Int)] w fun e w' => e = .returned (.slice (some ⟨g, 0, none⟩) n c) ∧
      w' = (w.drew.setRow g (cur.toList.take n ++ [Value.string ⟨#[]⟩] ++ cur.toList.drop (n + 1)).toArray) := by
  have hcl := fun c ty => run_clear_last w.drew g n c cur ty hg (by omega)
  have hle : n ≤ c := by omega
  have h01 : (0 : Int) ≤ (n : Int) + 1 := by omega
  clear hcs
  go_enter Try.func23, Try.ntmps23
  go_wp2
  go_region_law (refine step_append_nought rfl _ _ rfl g n c _ _ rfl rfl (by omega) ?_)
  all_goals (go_wp2; all_goals (go_ret; exact ⟨rfl, by simp⟩))
end Go.Proofs.Ytfbponiiejanfaa
