/-
  The document's answers for layer 2, walked: which versions there are, which frames may be, a frame turned, the version of two.
-/
import Derived.Test.YtphfnlgjiomjkaaDoorFrameTurn
namespace Go.Proofs.YtphfnlgjiomjkaaDoor
open Go.RowKit Go.Shelf
attribute [local go_sem] Oper.semAt_some
set_option linter.unusedVariables false
set_option linter.unusedSimpArgs false

theorem refVersion (n : Int) (w : World) : Calls Tryd.prog 15 #[.int .i64 n] w fun e w' => e = .returned (.bool (ver n)) ∧ w = w' := by
  have hv : ver n = (n == 1 || n == 2) := rfl
  rw [hv]
  cases h1 : (n == 1) with
  | true =>
    go_enter Tryd.func15, Tryd.ntmps15
    go_wp2
    go_ret
    exact ⟨rfl, rfl⟩
  | false =>
    cases h2 : (n == 2) with
    | true =>
      go_enter Tryd.func15, Tryd.ntmps15
      go_wp2
      go_ret
      exact ⟨rfl, rfl⟩
    | false =>
      go_enter Tryd.func15, Tryd.ntmps15
      go_wp2
      go_ret
      exact ⟨rfl, rfl⟩
set_option maxRecDepth 100000 in
theorem refRight0 (f : Fr) (c0 : ver f.wire = false) (w : World) : Calls Tryd.prog 17 #[f.val] w fun e w' => e = .returned (.bool false) ∧ Below w.heap.size w w' := by
  go_enter Tryd.func17, Tryd.ntmps17
  unfold Fr.val Fr.cells
  have hB0 : Below w.heap.size w (w.alloc (.cells #[.int .i64 f.wire, .int .i64 f.kind, .int .i64 f.src, .int .i64 f.dst, .int .u32 (f.life.toNat : Int), .int .u32 (f.seq.toNat : Int), .int .u32 (f.ack.toNat : Int), .int .u32 (f.hint.toNat : Int), .string f.data] 26)) := (Below.refl _ w).alloc (Nat.le_refl _) _
  go_wp2_with (go_at_call 15; refine (refVersion _ _).mono ?_; rintro e w1 ⟨rfl, rfl⟩; rw [c0])
  go_ret
  exact ⟨rfl, hB0⟩
set_option maxRecDepth 100000 in
theorem refRight1 (f : Fr) (c0 : ver f.wire = true) (c1 : decide (f.kind < 0) = true) (w : World) : Calls Tryd.prog 17 #[f.val] w fun e w' => e = .returned (.bool false) ∧ Below w.heap.size w w' := by
  go_enter Tryd.func17, Tryd.ntmps17
  unfold Fr.val Fr.cells
  have hB0 : Below w.heap.size w (w.alloc (.cells #[.int .i64 f.wire, .int .i64 f.kind, .int .i64 f.src, .int .i64 f.dst, .int .u32 (f.life.toNat : Int), .int .u32 (f.seq.toNat : Int), .int .u32 (f.ack.toNat : Int), .int .u32 (f.hint.toNat : Int), .string f.data] 26)) := (Below.refl _ w).alloc (Nat.le_refl _) _
  go_wp2_with (go_at_call 15; refine (refVersion _ _).mono ?_; rintro e w1 ⟨rfl, rfl⟩; rw [c0])
  go_ret
  exact ⟨rfl, hB0⟩
set_option maxRecDepth 100000 in
theorem refRight2 (f : Fr) (c0 : ver f.wire = true) (c1 : decide (f.kind < 0) = false) (c2 : decide (31 < f.kind) = true) (w : World) : Calls Tryd.prog 17 #[f.val] w fun e w' => e = .returned (.bool false) ∧ Below w.heap.size w w' := by
  go_enter Tryd.func17, Tryd.ntmps17
  unfold Fr.val Fr.cells
  have hB0 : Below w.heap.size w (w.alloc (.cells #[.int .i64 f.wire, .int .i64 f.kind, .int .i64 f.src, .int .i64 f.dst, .int .u32 (f.life.toNat : Int), .int .u32 (f.seq.toNat : Int), .int .u32 (f.ack.toNat : Int), .int .u32 (f.hint.toNat : Int), .string f.data] 26)) := (Below.refl _ w).alloc (Nat.le_refl _) _
  go_wp2_with (go_at_call 15; refine (refVersion _ _).mono ?_; rintro e w1 ⟨rfl, rfl⟩; rw [c0])
  go_ret
  exact ⟨rfl, hB0⟩
set_option maxRecDepth 100000 in
theorem refRight3 (f : Fr) (c0 : ver f.wire = true) (c1 : decide (f.kind < 0) = false) (c2 : decide (31 < f.kind) = false) (c3 : decide (f.src < 0) = true) (w : World) : Calls Tryd.prog 17 #[f.val] w fun e w' => e = .returned (.bool false) ∧ Below w.heap.size w w' := by
  go_enter Tryd.func17, Tryd.ntmps17
  unfold Fr.val Fr.cells
  have hB0 : Below w.heap.size w (w.alloc (.cells #[.int .i64 f.wire, .int .i64 f.kind, .int .i64 f.src, .int .i64 f.dst, .int .u32 (f.life.toNat : Int), .int .u32 (f.seq.toNat : Int), .int .u32 (f.ack.toNat : Int), .int .u32 (f.hint.toNat : Int), .string f.data] 26)) := (Below.refl _ w).alloc (Nat.le_refl _) _
  go_wp2_with (go_at_call 15; refine (refVersion _ _).mono ?_; rintro e w1 ⟨rfl, rfl⟩; rw [c0])
  go_ret
  exact ⟨rfl, hB0⟩
set_option maxRecDepth 100000 in
theorem refRight4 (f : Fr) (c0 : ver f.wire = true) (c1 : decide (f.kind < 0) = false) (c2 : decide (31 < f.kind) = false) (c3 : decide (f.src < 0) = false) (c4 : decide (16 ≤ f.src) = true) (w : World) : Calls Tryd.prog 17 #[f.val] w fun e w' => e = .returned (.bool false) ∧ Below w.heap.size w w' := by
  go_enter Tryd.func17, Tryd.ntmps17
  unfold Fr.val Fr.cells
  have hB0 : Below w.heap.size w (w.alloc (.cells #[.int .i64 f.wire, .int .i64 f.kind, .int .i64 f.src, .int .i64 f.dst, .int .u32 (f.life.toNat : Int), .int .u32 (f.seq.toNat : Int), .int .u32 (f.ack.toNat : Int), .int .u32 (f.hint.toNat : Int), .string f.data] 26)) := (Below.refl _ w).alloc (Nat.le_refl _) _
  go_wp2_with (go_at_call 15; refine (refVersion _ _).mono ?_; rintro e w1 ⟨rfl, rfl⟩; rw [c0])
  go_ret
  exact ⟨rfl, hB0⟩
set_option maxRecDepth 100000 in
theorem refRight5 (f : Fr) (c0 : ver f.wire = true) (c1 : decide (f.kind < 0) = false) (c2 : decide (31 < f.kind) = false) (c3 : decide (f.src < 0) = false) (c4 : decide (16 ≤ f.src) = false) (c5 : decide (f.dst < 0) = true) (w : World) : Calls Tryd.prog 17 #[f.val] w fun e w' => e = .returned (.bool false) ∧ Below w.heap.size w w' := by
  go_enter Tryd.func17, Tryd.ntmps17
  unfold Fr.val Fr.cells
  have hB0 : Below w.heap.size w (w.alloc (.cells #[.int .i64 f.wire, .int .i64 f.kind, .int .i64 f.src, .int .i64 f.dst, .int .u32 (f.life.toNat : Int), .int .u32 (f.seq.toNat : Int), .int .u32 (f.ack.toNat : Int), .int .u32 (f.hint.toNat : Int), .string f.data] 26)) := (Below.refl _ w).alloc (Nat.le_refl _) _
  go_wp2_with (go_at_call 15; refine (refVersion _ _).mono ?_; rintro e w1 ⟨rfl, rfl⟩; rw [c0])
  go_ret
  exact ⟨rfl, hB0⟩
set_option maxRecDepth 100000 in
theorem refRight6 (f : Fr) (c0 : ver f.wire = true) (c1 : decide (f.kind < 0) = false) (c2 : decide (31 < f.kind) = false) (c3 : decide (f.src < 0) = false) (c4 : decide (16 ≤ f.src) = false) (c5 : decide (f.dst < 0) = false) (c6 : decide (16 ≤ f.dst) = true) (w : World) : Calls Tryd.prog 17 #[f.val] w fun e w' => e = .returned (.bool false) ∧ Below w.heap.size w w' := by
  go_enter Tryd.func17, Tryd.ntmps17
  unfold Fr.val Fr.cells
  have hB0 : Below w.heap.size w (w.alloc (.cells #[.int .i64 f.wire, .int .i64 f.kind, .int .i64 f.src, .int .i64 f.dst, .int .u32 (f.life.toNat : Int), .int .u32 (f.seq.toNat : Int), .int .u32 (f.ack.toNat : Int), .int .u32 (f.hint.toNat : Int), .string f.data] 26)) := (Below.refl _ w).alloc (Nat.le_refl _) _
  go_wp2_with (go_at_call 15; refine (refVersion _ _).mono ?_; rintro e w1 ⟨rfl, rfl⟩; rw [c0])
  go_ret
  exact ⟨rfl, hB0⟩
set_option maxRecDepth 100000 in
theorem refRight7 (f : Fr) (c0 : ver f.wire = true) (c1 : decide (f.kind < 0) = false) (c2 : decide (31 < f.kind) = false) (c3 : decide (f.src < 0) = false) (c4 : decide (16 ≤ f.src) = false) (c5 : decide (f.dst < 0) = false) (c6 : decide (16 ≤ f.dst) = false) (c7 : decide ((f.data.size : Int) ≤ 4096) = false) (w : World) : Calls Tryd.prog 17 #[f.val] w fun e w' => e = .returned (.bool false) ∧ Below w.heap.size w w' := by
  go_enter Tryd.func17, Tryd.ntmps17
  unfold Fr.val Fr.cells
  have hB0 : Below w.heap.size w (w.alloc (.cells #[.int .i64 f.wire, .int .i64 f.kind, .int .i64 f.src, .int .i64 f.dst, .int .u32 (f.life.toNat : Int), .int .u32 (f.seq.toNat : Int), .int .u32 (f.ack.toNat : Int), .int .u32 (f.hint.toNat : Int), .string f.data] 26)) := (Below.refl _ w).alloc (Nat.le_refl _) _
  go_wp2_with (go_at_call 15; refine (refVersion _ _).mono ?_; rintro e w1 ⟨rfl, rfl⟩; rw [c0])
  go_ret
  exact ⟨rfl, hB0⟩
set_option maxRecDepth 100000 in
theorem refRight8 (f : Fr) (c0 : ver f.wire = true) (c1 : decide (f.kind < 0) = false) (c2 : decide (31 < f.kind) = false) (c3 : decide (f.src < 0) = false) (c4 : decide (16 ≤ f.src) = false) (c5 : decide (f.dst < 0) = false) (c6 : decide (16 ≤ f.dst) = false) (c7 : decide ((f.data.size : Int) ≤ 4096) = true) (c8 : (f.wire == 2) = true) (w : World) : Calls Tryd.prog 17 #[f.val] w fun e w' => e = .returned (.bool true) ∧ Below w.heap.size w w' := by
  go_enter Tryd.func17, Tryd.ntmps17
  unfold Fr.val Fr.cells
  have hB0 : Below w.heap.size w (w.alloc (.cells #[.int .i64 f.wire, .int .i64 f.kind, .int .i64 f.src, .int .i64 f.dst, .int .u32 (f.life.toNat : Int), .int .u32 (f.seq.toNat : Int), .int .u32 (f.ack.toNat : Int), .int .u32 (f.hint.toNat : Int), .string f.data] 26)) := (Below.refl _ w).alloc (Nat.le_refl _) _
  go_wp2_with (go_at_call 15; refine (refVersion _ _).mono ?_; rintro e w1 ⟨rfl, rfl⟩; rw [c0])
  go_ret
  exact ⟨rfl, hB0⟩
set_option maxRecDepth 100000 in
theorem refRight9 (f : Fr) (c0 : ver f.wire = true) (c1 : decide (f.kind < 0) = false) (c2 : decide (31 < f.kind) = false) (c3 : decide (f.src < 0) = false) (c4 : decide (16 ≤ f.src) = false) (c5 : decide (f.dst < 0) = false) (c6 : decide (16 ≤ f.dst) = false) (c7 : decide ((f.data.size : Int) ≤ 4096) = true) (c8 : (f.wire == 2) = false) (c9 : ((f.hint.toNat : Int) == 0) = true) (w : World) : Calls Tryd.prog 17 #[f.val] w fun e w' => e = .returned (.bool true) ∧ Below w.heap.size w w' := by
  go_enter Tryd.func17, Tryd.ntmps17
  unfold Fr.val Fr.cells
  have hB0 : Below w.heap.size w (w.alloc (.cells #[.int .i64 f.wire, .int .i64 f.kind, .int .i64 f.src, .int .i64 f.dst, .int .u32 (f.life.toNat : Int), .int .u32 (f.seq.toNat : Int), .int .u32 (f.ack.toNat : Int), .int .u32 (f.hint.toNat : Int), .string f.data] 26)) := (Below.refl _ w).alloc (Nat.le_refl _) _
  go_wp2_with (go_at_call 15; refine (refVersion _ _).mono ?_; rintro e w1 ⟨rfl, rfl⟩; rw [c0])
  go_ret
  exact ⟨rfl, hB0⟩
set_option maxRecDepth 100000 in
theorem refRightX (f : Fr) (c0 : ver f.wire = true) (c1 : decide (f.kind < 0) = false) (c2 : decide (31 < f.kind) = false) (c3 : decide (f.src < 0) = false) (c4 : decide (16 ≤ f.src) = false) (c5 : decide (f.dst < 0) = false) (c6 : decide (16 ≤ f.dst) = false) (c7 : decide ((f.data.size : Int) ≤ 4096) = true) (c8 : (f.wire == 2) = false) (c9 : ((f.hint.toNat : Int) == 0) = false) (w : World) : Calls Tryd.prog 17 #[f.val] w fun e w' => e = .returned (.bool false) ∧ Below w.heap.size w w' := by
  go_enter Tryd.func17, Tryd.ntmps17
  unfold Fr.val Fr.cells
  have hB0 : Below w.heap.size w (w.alloc (.cells #[.int .i64 f.wire, .int .i64 f.kind, .int .i64 f.src, .int .i64 f.dst, .int .u32 (f.life.toNat : Int), .int .u32 (f.seq.toNat : Int), .int .u32 (f.ack.toNat : Int), .int .u32 (f.hint.toNat : Int), .string f.data] 26)) := (Below.refl _ w).alloc (Nat.le_refl _) _
  go_wp2_with (go_at_call 15; refine (refVersion _ _).mono ?_; rintro e w1 ⟨rfl, rfl⟩; rw [c0])
  go_ret
  exact ⟨rfl, hB0⟩
theorem ver_iff (n : Int) : ver n = true ↔ (n = 1 ∨ n = 2) := by simp [ver]
theorem refRight (f : Fr) (w : World) : Calls Tryd.prog 17 #[f.val] w fun e w' => e = .returned (.bool (decide f.Right)) ∧ Below w.heap.size w w' := by
  have no : ¬ f.Right → decide f.Right = false := fun h => decide_eq_false h
  cases c0 : ver f.wire with
  | false => rw [no (fun h => by have := (ver_iff _).2 h.1; rw [c0] at this; cases this)]; exact refRight0 f c0 w
  | true =>
    cases c1 : decide (f.kind < 0) with
    | true => rw [no (fun h => by obtain ⟨h1, h2, h3, h4, h5, h6⟩ := h; have := of_decide_eq_true c1; omega)]; exact refRight1 f c0 c1 w
    | false =>
      cases c2 : decide (31 < f.kind) with
      | true => rw [no (fun h => by obtain ⟨h1, h2, h3, h4, h5, h6⟩ := h; have := of_decide_eq_true c2; omega)]; exact refRight2 f c0 c1 c2 w
      | false =>
        cases c3 : decide (f.src < 0) with
        | true => rw [no (fun h => by obtain ⟨h1, h2, h3, h4, h5, h6⟩ := h; have := of_decide_eq_true c3; omega)]; exact refRight3 f c0 c1 c2 c3 w
        | false =>
          cases c4 : decide (16 ≤ f.src) with
          | true => rw [no (fun h => by obtain ⟨h1, h2, h3, h4, h5, h6⟩ := h; have := of_decide_eq_true c4; omega)]; exact refRight4 f c0 c1 c2 c3 c4 w
          | false =>
            cases c5 : decide (f.dst < 0) with
            | true => rw [no (fun h => by obtain ⟨h1, h2, h3, h4, h5, h6⟩ := h; have := of_decide_eq_true c5; omega)]; exact refRight5 f c0 c1 c2 c3 c4 c5 w
            | false =>
              cases c6 : decide (16 ≤ f.dst) with
              | true => rw [no (fun h => by obtain ⟨h1, h2, h3, h4, h5, h6⟩ := h; have := of_decide_eq_true c6; omega)]; exact refRight6 f c0 c1 c2 c3 c4 c5 c6 w
              | false =>
                have k0 := (ver_iff _).1 c0
                have k1 := of_decide_eq_false c1
                have k2 := of_decide_eq_false c2
                have k3 := of_decide_eq_false c3
                have k4 := of_decide_eq_false c4
                have k5 := of_decide_eq_false c5
                have k6 := of_decide_eq_false c6
                cases c7 : decide ((f.data.size : Int) ≤ 4096) with
                | false => rw [no (fun h => by obtain ⟨h1, h2, h3, h4, h5, h6⟩ := h; have := of_decide_eq_false c7; omega)]; exact refRight7 f c0 c1 c2 c3 c4 c5 c6 c7 w
                | true =>
                  have k7 := of_decide_eq_true c7
                  cases c8 : (f.wire == 2) with
                  | true =>
                    have k8 : f.wire = 2 := by simpa using c8
                    rw [decide_eq_true (show f.Right from ⟨k0, by omega, by omega, by omega, by omega, fun h => by omega⟩)]; exact refRight8 f c0 c1 c2 c3 c4 c5 c6 c7 c8 w
                  | false =>
                    have k8 : f.wire ≠ 2 := by simpa using c8
                    cases c9 : ((f.hint.toNat : Int) == 0) with
                    | true =>
                      have k9 : f.hint = 0 := by apply BitVec.eq_of_toNat_eq; have : (f.hint.toNat : Int) = 0 := by simpa using c9
                                                 show f.hint.toNat = 0; omega
                      rw [decide_eq_true (show f.Right from ⟨k0, by omega, by omega, by omega, by omega, fun h => k9⟩)]; exact refRight9 f c0 c1 c2 c3 c4 c5 c6 c7 c8 c9 w
                    | false =>
                      have k9 : (f.hint.toNat : Int) ≠ 0 := by simpa using c9
                      rw [no (fun h => by have := h.2.2.2.2.2 (by omega); rw [this] at k9; exact k9 rfl)]; exact refRightX f c0 c1 c2 c3 c4 c5 c6 c7 c8 c9 w
end Go.Proofs.YtphfnlgjiomjkaaDoor
