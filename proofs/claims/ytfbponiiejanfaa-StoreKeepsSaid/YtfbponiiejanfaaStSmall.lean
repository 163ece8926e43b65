/-
  store.New, Cut, Holds: walked; each method of a nil store.
-/
import Derived.Test.YtfbponiiejanfaaStRecords
namespace Go.Proofs.Ytfbponiiejanfaa
open Go.RowKit Go.Shelf
attribute [local go_sem] Oper.semAt_some
set_option linter.unusedVariables false
set_option linter.unusedSimpArgs false

/-- An empty store. -/
def newSt (cap : Nat) : St := { snap := none, ds := [], torn := none, cap := cap, state := 0, keep := 0 }
theorem Is.thawed {S : St} {B : Nat} {v : Value} {w : World} (h : Is S B v w) (k : Nat) : w.frozen? ⟨B, k, none⟩ = false := by
  simp [World.frozen?, h.row]
theorem row_set {W : World} {B : Nat} {c : Array Value} {t : TypeId} (h : W.heap[B]? = some (.cells c t (0, 0))) (k : Nat) (u : Value) : (W.setCell ⟨B, k, none⟩ u).heap[B]? = some (.cells (c.setIfInBounds k u) t (0, 0)) := by
  simp only [World.setCell, Array.getElem?_modify, if_true]
  rw [h]
  simp
/-- What it does at the next write is set anew. -/
theorem Is.next {S : St} {B : Nat} {v : Value} {w : World} (h : Is S B v w) (a b : Int) : Turns { S with state := a, keep := b } B v w ((w.setCell ⟨B, 4, none⟩ (.int .i64 a)).setCell ⟨B, 5, none⟩ (.int .i64 b)) := by
  have hr := row_set (row_set h.row 4 (.int .i64 a)) 5 (.int .i64 b)
  refine ⟨v, ⟨hr, owns_keep h.own (fun g hg => ?_), ⟨h.ok.recs, h.ok.snap, h.ok.torn, h.ok.cap, h.ok.most⟩⟩, fun g hg => .inl hg, (Still.refl B _ w).setCell _ _ rfl |>.setCell _ _ rfl⟩
  have hg1 := (owns_base h.own g hg).1
  exact (Below.heap_setCell _ _ _ g (by simp; omega)).trans (Below.heap_setCell _ _ _ g (by simp; omega))
theorem newSt_ok (cap : Nat) (h : cap ≤ 1048576) : (newSt cap).Ok :=
  ⟨(fun d hd => by cases hd), (fun d hd => by cases hd), (fun t ht => by cases ht), (by simp [newSt, St.held, St.mark, St.pieces, St.sum]), h⟩
theorem stNewNo (n : Int) (h : n < 64 ∨ 1048576 < n) (w : World) : Calls Try.prog 14 #[.int .i64 n] w fun e w' => e = .returned (.tuple #[.pointer none, .int .i64 2]) ∧ Below w.heap.size w w' := by
  by_cases h1 : n < 64
  · go_enter Try.func14, Try.ntmps14
    go_wp2
    go_ret2
    exact ⟨rfl, Below.refl _ _⟩
  · have h2 : 1048576 < n := by omega
    go_enter Try.func14, Try.ntmps14
    go_wp2
    go_ret2
    exact ⟨rfl, Below.refl _ _⟩
theorem stNew (n : Nat) (h1 : 64 ≤ n) (h2 : n ≤ 1048576) (w : World) : Calls Try.prog 14 #[.int .i64 (n : Int)] w fun e w' => e = .returned (.tuple #[.pointer (some ⟨w.heap.size, 0, none⟩), .int .i64 0]) ∧ Is (newSt n) w.heap.size (.slice none 0 0) w' ∧ Below w.heap.size w w' := by
  have h3 : ¬ (n : Int) < 64 := by omega
  have h4 : ¬ 1048576 < (n : Int) := by omega
  have H := Lib.hid (newSt_ok n h2)
  clear h1 h2
  go_enter Try.func14, Try.ntmps14
  go_wp2
  go_ret2
  exact ⟨rfl, ⟨World.alloc_heap_new w _, World.ownsRow_nil _ _ _ _, H.out⟩, (Below.refl _ w).alloc (Nat.le_refl _) _⟩
theorem stHolds (S : St) (B : Nat) (v : Value) (w : World) (h : Is S B v w) : Calls Try.prog 12 #[.pointer (some ⟨B, 0, none⟩)] w fun e w' => e = .returned (.int .i64 (S.held : Int)) ∧ w = w' := by
  have hc : w.cell? ⟨B, 2, none⟩ = some (.int .i64 (S.held : Int)) := h.cell 2 _ rfl
  clear h
  generalize (S.held : Int) = n at *
  go_enter Try.func12, Try.ntmps12
  go_wp2
  go_ret
  exact ⟨rfl, rfl⟩
/-- Cut, of one that has not crashed. -/
theorem stCut (S : St) (B : Nat) (v : Value) (k : Nat) (w : World) (h : Is S B v w) (hs : S.state ≠ 2) : Calls Try.prog 11 #[.pointer (some ⟨B, 0, none⟩), .int .i64 (k : Int)] w fun e w' => e = .returned (.int .i64 0) ∧ Turns { S with state := 1, keep := k } B v w w' := by
  have hn := h.next 1 k
  have hc : w.cell? ⟨B, 4, none⟩ = some (.int .i64 S.state) := h.cell 4 _ rfl
  have hc5 : w.cell? ⟨B, 5, none⟩ = some (.int .i64 S.keep) := h.cell 5 _ rfl
  have hf4 := h.thawed 4
  have hf5 := h.thawed 5
  clear h
  generalize S.state = st at *
  generalize S.keep = sk at *
  have HN := Lib.hid hn
  have hk : ¬ (k : Int) < 0 := by omega
  clear hn
  go_enter Try.func11, Try.ntmps11
  go_wp2
  go_ret
  exact ⟨rfl, HN.out⟩
theorem stCutNo (S : St) (B : Nat) (v : Value) (k : Int) (w : World) (h : Is S B v w) (hs : S.state ≠ 2) (hk : k < 0) : Calls Try.prog 11 #[.pointer (some ⟨B, 0, none⟩), .int .i64 k] w fun e w' => e = .returned (.int .i64 2) ∧ w = w' := by
  have hc : w.cell? ⟨B, 4, none⟩ = some (.int .i64 S.state) := h.cell 4 _ rfl
  clear h
  generalize S.state = st at *
  go_enter Try.func11, Try.ntmps11
  go_wp2
  go_ret
  exact ⟨rfl, rfl⟩
theorem nilWrite (d : ByteArray) (w : World) : Calls Try.prog 9 #[.pointer none, .string d] w fun e w' => e = .returned (.int .i64 1) ∧ w = w' := by
  go_enter Try.func9, Try.ntmps9
  go_wp2
  go_ret
  exact ⟨rfl, rfl⟩
theorem nilSnapshot (d : ByteArray) (w : World) : Calls Try.prog 10 #[.pointer none, .string d] w fun e w' => e = .returned (.int .i64 1) ∧ w = w' := by
  go_enter Try.func10, Try.ntmps10
  go_wp2
  go_ret
  exact ⟨rfl, rfl⟩
theorem nilCut (k : Int) (w : World) : Calls Try.prog 11 #[.pointer none, .int .i64 k] w fun e w' => e = .returned (.int .i64 1) ∧ w = w' := by
  go_enter Try.func11, Try.ntmps11
  go_wp2
  go_ret
  exact ⟨rfl, rfl⟩
theorem nilRecover (w : World) : Calls Try.prog 8 #[.pointer none] w fun e w' => e = .returned (.tuple #[.string ⟨#[]⟩, .slice none 0 0, .int .i64 1]) ∧ w = w' := by
  go_enter Try.func8, Try.ntmps8
  go_wp2
  go_ret3
  exact ⟨rfl, rfl⟩
theorem nilHolds (w : World) : Calls Try.prog 12 #[.pointer none] w fun e w' => e = .returned (.int .i64 0) ∧ w = w' := by
  go_enter Try.func12, Try.ntmps12
  go_wp2
  go_ret
  exact ⟨rfl, rfl⟩
theorem nilRecords (w : World) : Calls Try.prog 13 #[.pointer none] w fun e w' => e = .returned (.slice none 0 0) ∧ w = w' := by
  go_enter Try.func13, Try.ntmps13
  go_wp2
  go_ret
  exact ⟨rfl, rfl⟩
end Go.Proofs.Ytfbponiiejanfaa
