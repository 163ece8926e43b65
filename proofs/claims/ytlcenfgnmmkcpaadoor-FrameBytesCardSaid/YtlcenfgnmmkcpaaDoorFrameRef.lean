/-
  The document's answers for layer 2, walked: which versions there are, which frames may be, a frame turned, the version of two.
-/
import Derived.Test.YtlcenfgnmmkcpaaDoorFrameTurn
namespace Go.Proofs.YtlcenfgnmmkcpaaDoor
open Go.RowKit Go.Shelf
attribute [local go_sem] Oper.semAt_some
set_option linter.unusedVariables false
set_option linter.unusedSimpArgs false

theorem refVersion (n : Int) (w : World) : Calls Tryd.prog 33 #[.int .i64 n] w fun e w' => e = .returned (.bool (ver n)) ∧ w = w' := by
  have hv : ver n = (n == 1 || n == 2) := rfl
  rw [hv]
  cases h1 : (n == 1) with
  | true =>
    go_enter Tryd.func33, Tryd.ntmps33
    go_wp2
    go_ret
    exact ⟨rfl, rfl⟩
  | false =>
    cases h2 : (n == 2) with
    | true =>
      go_enter Tryd.func33, Tryd.ntmps33
      go_wp2
      go_ret
      exact ⟨rfl, rfl⟩
    | false =>
      go_enter Tryd.func33, Tryd.ntmps33
      go_wp2
      go_ret
      exact ⟨rfl, rfl⟩
set_option maxRecDepth 100000 in
theorem refRight0 (f : Fr) (c0 : ver f.wire = false) (w : World) : Calls Tryd.prog 14 #[f.val] w fun e w' => e = .returned (.bool false) ∧ Below w.heap.size w w' := by
  go_enter Tryd.func14, Tryd.ntmps14
  unfold Fr.val Fr.cells
  have hB0 : Below w.heap.size w (w.alloc (.cells #[.int .i64 f.wire, .int .i64 f.kind, .int .i64 f.src, .int .i64 f.dst, .int .u32 (f.life.toNat : Int), .int .u32 (f.seq.toNat : Int), .int .u32 (f.ack.toNat : Int), .int .u32 (f.hint.toNat : Int), .string f.data] 24)) := (Below.refl _ w).alloc (Nat.le_refl _) _
  go_wp2_with (go_at_call 33; refine (refVersion _ _).mono ?_; rintro e w1 ⟨rfl, rfl⟩; rw [c0])
  go_ret
  exact ⟨rfl, hB0⟩
set_option maxRecDepth 100000 in
theorem refRight1 (f : Fr) (c0 : ver f.wire = true) (c1 : decide (f.kind < 0) = true) (w : World) : Calls Tryd.prog 14 #[f.val] w fun e w' => e = .returned (.bool false) ∧ Below w.heap.size w w' := by
  go_enter Tryd.func14, Tryd.ntmps14
  unfold Fr.val Fr.cells
  have hB0 : Below w.heap.size w (w.alloc (.cells #[.int .i64 f.wire, .int .i64 f.kind, .int .i64 f.src, .int .i64 f.dst, .int .u32 (f.life.toNat : Int), .int .u32 (f.seq.toNat : Int), .int .u32 (f.ack.toNat : Int), .int .u32 (f.hint.toNat : Int), .string f.data] 24)) := (Below.refl _ w).alloc (Nat.le_refl _) _
  go_wp2_with (go_at_call 33; refine (refVersion _ _).mono ?_; rintro e w1 ⟨rfl, rfl⟩; rw [c0])
  go_ret
  exact ⟨rfl, hB0⟩
set_option maxRecDepth 100000 in
theorem refRight2 (f : Fr) (c0 : ver f.wire = true) (c1 : decide (f.kind < 0) = false) (c2 : decide (31 < f.kind) = true) (w : World) : Calls Tryd.prog 14 #[f.val] w fun e w' => e = .returned (.bool false) ∧ Below w.heap.size w w' := by
  go_enter Tryd.func14, Tryd.ntmps14
  unfold Fr.val Fr.cells
  have hB0 : Below w.heap.size w (w.alloc (.cells #[.int .i64 f.wire, .int .i64 f.kind, .int .i64 f.src, .int .i64 f.dst, .int .u32 (f.life.toNat : Int), .int .u32 (f.seq.toNat : Int), .int .u32 (f.ack.toNat : Int), .int .u32 (f.hint.toNat : Int), .string f.data] 24)) := (Below.refl _ w).alloc (Nat.le_refl _) _
  go_wp2_with (go_at_call 33; refine (refVersion _ _).mono ?_; rintro e w1 ⟨rfl, rfl⟩; rw [c0])
  go_ret
  exact ⟨rfl, hB0⟩
set_option maxRecDepth 100000 in
theorem refRight3 (f : Fr) (c0 : ver f.wire = true) (c1 : decide (f.kind < 0) = false) (c2 : decide (31 < f.kind) = false) (c3 : decide (f.src < 0) = true) (w : World) : Calls Tryd.prog 14 #[f.val] w fun e w' => e = .returned (.bool false) ∧ Below w.heap.size w w' := by
  go_enter Tryd.func14, Tryd.ntmps14
  unfold Fr.val Fr.cells
  have hB0 : Below w.heap.size w (w.alloc (.cells #[.int .i64 f.wire, .int .i64 f.kind, .int .i64 f.src, .int .i64 f.dst, .int .u32 (f.life.toNat : Int), .int .u32 (f.seq.toNat : Int), .int .u32 (f.ack.toNat : Int), .int .u32 (f.hint.toNat : Int), .string f.data] 24)) := (Below.refl _ w).alloc (Nat.le_refl _) _
  go_wp2_with (go_at_call 33; refine (refVersion _ _).mono ?_; rintro e w1 ⟨rfl, rfl⟩; rw [c0])
  go_ret
  exact ⟨rfl, hB0⟩
set_option maxRecDepth 100000 in
theorem refRight4 (f : Fr) (c0 : ver f.wire = true) (c1 : decide (f.kind < 0) = false) (c2 : decide (31 < f.kind) = false) (c3 : decide (f.src < 0) = false) (c4 : decide (16 ≤ f.src) = true) (w : World) : Calls Tryd.prog 14 #[f.val] w fun e w' => e = .returned (.bool false) ∧ Below w.heap.size w w' := by
  go_enter Tryd.func14, Tryd.ntmps14
  unfold Fr.val Fr.cells
  have hB0 : Below w.heap.size w (w.alloc (.cells #[.int .i64 f.wire, .int .i64 f.kind, .int .i64 f.src, .int .i64 f.dst, .int .u32 (f.life.toNat : Int), .int .u32 (f.seq.toNat : Int), .int .u32 (f.ack.toNat : Int), .int .u32 (f.hint.toNat : Int), .string f.data] 24)) := (Below.refl _ w).alloc (Nat.le_refl _) _
  go_wp2_with (go_at_call 33; refine (refVersion _ _).mono ?_; rintro e w1 ⟨rfl, rfl⟩; rw [c0])
  go_ret
  exact ⟨rfl, hB0⟩
set_option maxRecDepth 100000 in
theorem refRight5 (f : Fr) (c0 : ver f.wire = true) (c1 : decide (f.kind < 0) = false) (c2 : decide (31 < f.kind) = false) (c3 : decide (f.src < 0) = false) (c4 : decide (16 ≤ f.src) = false) (c5 : decide (f.dst < 0) = true) (w : World) : Calls Tryd.prog 14 #[f.val] w fun e w' => e = .returned (.bool false) ∧ Below w.heap.size w w' := by
  go_enter Tryd.func14, Tryd.ntmps14
  unfold Fr.val Fr.cells
  have hB0 : Below w.heap.size w (w.alloc (.cells #[.int .i64 f.wire, .int .i64 f.kind, .int .i64 f.src, .int .i64 f.dst, .int .u32 (f.life.toNat : Int), .int .u32 (f.seq.toNat : Int), .int .u32 (f.ack.toNat : Int), .int .u32 (f.hint.toNat : Int), .string f.data] 24)) := (Below.refl _ w).alloc (Nat.le_refl _) _
  go_wp2_with (go_at_call 33; refine (refVersion _ _).mono ?_; rintro e w1 ⟨rfl, rfl⟩; rw [c0])
  go_ret
  exact ⟨rfl, hB0⟩
set_option maxRecDepth 100000 in
theorem refRight6 (f : Fr) (c0 : ver f.wire = true) (c1 : decide (f.kind < 0) = false) (c2 : decide (31 < f.kind) = false) (c3 : decide (f.src < 0) = false) (c4 : decide (16 ≤ f.src) = false) (c5 : decide (f.dst < 0) = false) (c6 : decide (16 ≤ f.dst) = true) (w : World) : Calls Tryd.prog 14 #[f.val] w fun e w' => e = .returned (.bool false) ∧ Below w.heap.size w w' := by
  go_enter Tryd.func14, Tryd.ntmps14
  unfold Fr.val Fr.cells
  have hB0 : Below w.heap.size w (w.alloc (.cells #[.int .i64 f.wire, .int .i64 f.kind, .int .i64 f.src, .int .i64 f.dst, .int .u32 (f.life.toNat : Int), .int .u32 (f.seq.toNat : Int), .int .u32 (f.ack.toNat : Int), .int .u32 (f.hint.toNat : Int), .string f.data] 24)) := (Below.refl _ w).alloc (Nat.le_refl _) _
  go_wp2_with (go_at_call 33; refine (refVersion _ _).mono ?_; rintro e w1 ⟨rfl, rfl⟩; rw [c0])
  go_ret
  exact ⟨rfl, hB0⟩
set_option maxRecDepth 100000 in
theorem refRight7 (f : Fr) (c0 : ver f.wire = true) (c1 : decide (f.kind < 0) = false) (c2 : decide (31 < f.kind) = false) (c3 : decide (f.src < 0) = false) (c4 : decide (16 ≤ f.src) = false) (c5 : decide (f.dst < 0) = false) (c6 : decide (16 ≤ f.dst) = false) (c7 : decide ((f.data.size : Int) ≤ 4096) = false) (w : World) : Calls Tryd.prog 14 #[f.val] w fun e w' => e = .returned (.bool false) ∧ Below w.heap.size w w' := by
  go_enter Tryd.func14, Tryd.ntmps14
  unfold Fr.val Fr.cells
  have hB0 : Below w.heap.size w (w.alloc (.cells #[.int .i64 f.wire, .int .i64 f.kind, .int .i64 f.src, .int .i64 f.dst, .int .u32 (f.life.toNat : Int), .int .u32 (f.seq.toNat : Int), .int .u32 (f.ack.toNat : Int), .int .u32 (f.hint.toNat : Int), .string f.data] 24)) := (Below.refl _ w).alloc (Nat.le_refl _) _
  go_wp2_with (go_at_call 33; refine (refVersion _ _).mono ?_; rintro e w1 ⟨rfl, rfl⟩; rw [c0])
  go_ret
  exact ⟨rfl, hB0⟩
set_option maxRecDepth 100000 in
theorem refRight8 (f : Fr) (c0 : ver f.wire = true) (c1 : decide (f.kind < 0) = false) (c2 : decide (31 < f.kind) = false) (c3 : decide (f.src < 0) = false) (c4 : decide (16 ≤ f.src) = false) (c5 : decide (f.dst < 0) = false) (c6 : decide (16 ≤ f.dst) = false) (c7 : decide ((f.data.size : Int) ≤ 4096) = true) (c8 : (f.wire == 2) = true) (w : World) : Calls Tryd.prog 14 #[f.val] w fun e w' => e = .returned (.bool true) ∧ Below w.heap.size w w' := by
  go_enter Tryd.func14, Tryd.ntmps14
  unfold Fr.val Fr.cells
  have hB0 : Below w.heap.size w (w.alloc (.cells #[.int .i64 f.wire, .int .i64 f.kind, .int .i64 f.src, .int .i64 f.dst, .int .u32 (f.life.toNat : Int), .int .u32 (f.seq.toNat : Int), .int .u32 (f.ack.toNat : Int), .int .u32 (f.hint.toNat : Int), .string f.data] 24)) := (Below.refl _ w).alloc (Nat.le_refl _) _
  go_wp2_with (go_at_call 33; refine (refVersion _ _).mono ?_; rintro e w1 ⟨rfl, rfl⟩; rw [c0])
  go_ret
  exact ⟨rfl, hB0⟩
set_option maxRecDepth 100000 in
theorem refRight9 (f : Fr) (c0 : ver f.wire = true) (c1 : decide (f.kind < 0) = false) (c2 : decide (31 < f.kind) = false) (c3 : decide (f.src < 0) = false) (c4 : decide (16 ≤ f.src) = false) (c5 : decide (f.dst < 0) = false) (c6 : decide (16 ≤ f.dst) = false) (c7 : decide ((f.data.size : Int) ≤ 4096) = true) (c8 : (f.wire == 2) = false) (c9 : ((f.hint.toNat : Int) == 0) = true) (w : World) : Calls Tryd.prog 14 #[f.val] w fun e w' => e = .returned (.bool true) ∧ Below w.heap.size w w' := by
  go_enter Tryd.func14, Tryd.ntmps14
  unfold Fr.val Fr.cells
  have hB0 : Below w.heap.size w (w.alloc (.cells #[.int .i64 f.wire, .int .i64 f.kind, .int .i64 f.src, .int .i64 f.dst, .int .u32 (f.life.toNat : Int), .int .u32 (f.seq.toNat : Int), .int .u32 (f.ack.toNat : Int), .int .u32 (f.hint.toNat : Int), .string f.data] 24)) := (Below.refl _ w).alloc (Nat.le_refl _) _
  go_wp2_with (go_at_call 33; refine (refVersion _ _).mono ?_; rintro e w1 ⟨rfl, rfl⟩; rw [c0])
  go_ret
  exact ⟨rfl, hB0⟩
set_option maxRecDepth 100000 in
theorem refRightX (f : Fr) (c0 : ver f.wire = true) (c1 : decide (f.kind < 0) = false) (c2 : decide (31 < f.kind) = false) (c3 : decide (f.src < 0) = false) (c4 : decide (16 ≤ f.src) = false) (c5 : decide (f.dst < 0) = false) (c6 : decide (16 ≤ f.dst) = false) (c7 : decide ((f.data.size : Int) ≤ 4096) = true) (c8 : (f.wire == 2) = false) (c9 : ((f.hint.toNat : Int) == 0) = false) (w : World) : Calls Tryd.prog 14 #[f.val] w fun e w' => e = .returned (.bool false) ∧ Below w.heap.size w w' := by
  go_enter Tryd.func14, Tryd.ntmps14
  unfold Fr.val Fr.cells
  have hB0 : Below w.heap.size w (w.alloc (.cells #[.int .i64 f.wire, .int .i64 f.kind, .int .i64 f.src, .int .i64 f.dst, .int .u32 (f.life.toNat : Int), .int .u32 (f.seq.toNat : Int), .int .u32 (f.ack.toNat : Int), .int .u32 (f.hint.toNat : Int), .string f.data] 24)) := (Below.refl _ w).alloc (Nat.le_refl _) _
  go_wp2_with (go_at_call 33; refine (refVersion _ _).mono ?_; rintro e w1 ⟨rfl, rfl⟩; rw [c0])
  go_ret
  exact ⟨rfl, hB0⟩
theorem ver_iff (n : Int) : ver n = true ↔ (n = 1 ∨ n = 2) := by simp [ver]
theorem refRight (f : Fr) (w : World) : Calls Tryd.prog 14 #[f.val] w fun e w' => e = .returned (.bool (decide f.Right)) ∧ Below w.heap.size w w' := by
  have no : ¬ f.Right → decide f.Right = false := fun h => decide_eq_false h
  cases c0 : ver f.wire with
  | false => rw [no (fun h => by have := (ver_iff _).2 h.1; rw [c0] at this; cases this)]; exact refRight0 f c0 w
  | true =>
    cases c1 : decide (f.kind < 0) with
    | true => rw [no (fun h => by obtain ⟨h1, h2, h3, h4, h5, h6⟩ := h; have := of_decide_eq_true c1; omega)]; exact refRight1 f c0 c1 w
    | false =>
      cases c2 : decide (31 < f.kind) with
      | true => rw [no (fun h => by obtain ⟨h1, h2, h3, h4, h5, h6⟩ := h; have := of_decide_eq_true c2; omega)]; exact refRight2 f c0 c1 c2 w
      | false =>
        cases c3 : decide (f.src < 0) with
        | true => rw [no (fun h => by obtain ⟨h1, h2, h3, h4, h5, h6⟩ := h; have := of_decide_eq_true c3; omega)]; exact refRight3 f c0 c1 c2 c3 w
        | false =>
          cases c4 : decide (16 ≤ f.src) with
          | true => rw [no (fun h => by obtain ⟨h1, h2, h3, h4, h5, h6⟩ := h; have := of_decide_eq_true c4; omega)]; exact refRight4 f c0 c1 c2 c3 c4 w
          | false =>
            cases c5 : decide (f.dst < 0) with
            | true => rw [no (fun h => by obtain ⟨h1, h2, h3, h4, h5, h6⟩ := h; have := of_decide_eq_true c5; omega)]; exact refRight5 f c0 c1 c2 c3 c4 c5 w
            | false =>
              cases c6 : decide (16 ≤ f.dst) with
              | true => rw [no (fun h => by obtain ⟨h1, h2, h3, h4, h5, h6⟩ := h; have := of_decide_eq_true c6; omega)]; exact refRight6 f c0 c1 c2 c3 c4 c5 c6 w
              | false =>
                have k0 := (ver_iff _).1 c0
                have k1 := of_decide_eq_false c1
                have k2 := of_decide_eq_false c2
                have k3 := of_decide_eq_false c3
                have k4 := of_decide_eq_false c4
                have k5 := of_decide_eq_false c5
                have k6 := of_decide_eq_false c6
                cases c7 : decide ((f.data.size : Int) ≤ 4096) with
                | false => rw [no (fun h => by obtain ⟨h1, h2, h3, h4, h5, h6⟩ := h; have := of_decide_eq_false c7; omega)]; exact refRight7 f c0 c1 c2 c3 c4 c5 c6 c7 w
                | true =>
                  have k7 := of_decide_eq_true c7
                  cases c8 : (f.wire == 2) with
                  | true =>
                    have k8 : f.wire = 2 := by simpa using c8
                    rw [decide_eq_true (show f.Right from ⟨k0, by omega, by omega, by omega, by omega, fun h => by omega⟩)]; exact refRight8 f c0 c1 c2 c3 c4 c5 c6 c7 c8 w
                  | false =>
                    have k8 : f.wire ≠ 2 := by simpa using c8
                    cases c9 : ((f.hint.toNat : Int) == 0) with
                    | true =>
                      have k9 : f.hint = 0 := by apply BitVec.eq_of_toNat_eq; have : (f.hint.toNat : Int) = 0 := by simpa using c9
                                                 show f.hint.toNat = 0; omega
                      rw [decide_eq_true (show f.Right from ⟨k0, by omega, by omega, by omega, by omega, fun h => k9⟩)]; exact refRight9 f c0 c1 c2 c3 c4 c5 c6 c7 c8 c9 w
                    | false =>
                      have k9 : (f.hint.toNat : Int) ≠ 0 := by simpa using c9
                      rw [no (fun h => by have := h.2.2.2.2.2 (by omega); rw [this] at k9; exact k9 rfl)]; exact refRightX f c0 c1 c2 c3 c4 c5 c6 c7 c8 c9 w
theorem refAgreed (a b : Int) (w : World) : Calls Tryd.prog 21 #[.int .i64 a, .int .i64 b] w fun e w' => e = .returned (.tuple #[.int .i64 (agreedF a b).1, .int .i64 (agreedF a b).2]) ∧ w = w' := by
  cases ha : ver a with
  | false =>
    rw [agreedF, if_neg (by rw [ha]; simp)]
    go_enter Tryd.func21, Tryd.ntmps21
    go_wp2_with (go_at_call 33; refine (refVersion _ _).mono ?_; rintro e w1 ⟨rfl, rfl⟩; rw [ha])
    go_ret2
    exact ⟨rfl, rfl⟩
  | true =>
    cases hb : ver b with
    | false =>
      rw [agreedF, if_neg (by rw [hb]; simp)]
      go_enter Tryd.func21, Tryd.ntmps21
      go_wp2_with (go_at_call 33; refine (refVersion _ _).mono ?_; rintro e w1 ⟨rfl, rfl⟩; first | rw [ha] | rw [hb])
      go_ret2
      exact ⟨rfl, rfl⟩
    | true =>
      rw [agreedF, if_pos ⟨ha, hb⟩]
      go_enter Tryd.func21, Tryd.ntmps21
      go_wp2_with (go_at_call 33; refine (refVersion _ _).mono ?_; rintro e w1 ⟨rfl, rfl⟩; first | rw [ha] | rw [hb])
      go_ret2
      exact ⟨rfl, rfl⟩
set_option maxRecDepth 100000 in
set_option maxHeartbeats 2000000 in
theorem refTurnNo (f : Fr) (n : Int) (hr : ¬ f.Right) (w : World) : Calls Tryd.prog 19 #[f.val, .int .i64 n] w fun e w' => e = .returned (.tuple #[(turnF f n).1.val, .int .i64 (turnF f n).2]) ∧ Below w.heap.size w w' := by
  have HR := Lib.hid (fun W => by have h := refRight f W; rw [decide_eq_false hr] at h; exact h : ∀ W : World, Calls Tryd.prog 14 #[.agg #[.int .i64 f.wire, .int .i64 f.kind, .int .i64 f.src, .int .i64 f.dst, .int .u32 (f.life.toNat : Int), .int .u32 (f.seq.toNat : Int), .int .u32 (f.ack.toNat : Int), .int .u32 (f.hint.toNat : Int), .string f.data]] W fun e w' => e = .returned (.bool false) ∧ Below W.heap.size W w')
  rw [turnF, if_neg hr]
  clear hr
  go_enter Tryd.func19, Tryd.ntmps19
  unfold Fr.val Fr.cells
  have rf0 := Row.new w #[.int .i64 f.wire, .int .i64 f.kind, .int .i64 f.src, .int .i64 f.dst, .int .u32 (f.life.toNat : Int), .int .u32 (f.seq.toNat : Int), .int .u32 (f.ack.toNat : Int), .int .u32 (f.hint.toNat : Int), .string f.data] 24
  have rz := Row.new (w.alloc (.cells #[.int .i64 f.wire, .int .i64 f.kind, .int .i64 f.src, .int .i64 f.dst, .int .u32 (f.life.toNat : Int), .int .u32 (f.seq.toNat : Int), .int .u32 (f.ack.toNat : Int), .int .u32 (f.hint.toNat : Int), .string f.data] 24)) #[.int .i64 0, .int .i64 0, .int .i64 0, .int .i64 0, .int .u32 0, .int .u32 0, .int .u32 0, .int .u32 0, .string ⟨#[]⟩] 24
  have hB0 : Below w.heap.size w ((w.alloc (.cells #[.int .i64 f.wire, .int .i64 f.kind, .int .i64 f.src, .int .i64 f.dst, .int .u32 (f.life.toNat : Int), .int .u32 (f.seq.toNat : Int), .int .u32 (f.ack.toNat : Int), .int .u32 (f.hint.toNat : Int), .string f.data] 24)).alloc (.cells #[.int .i64 0, .int .i64 0, .int .i64 0, .int .i64 0, .int .u32 0, .int .u32 0, .int .u32 0, .int .u32 0, .string ⟨#[]⟩] 24)) := ((Below.refl _ w).alloc (Nat.le_refl _) _).alloc (by simp) _
  have rf := rf0.alloc (.cells #[.int .i64 0, .int .i64 0, .int .i64 0, .int .i64 0, .int .u32 0, .int .u32 0, .int .u32 0, .int .u32 0, .string ⟨#[]⟩] 24)
  clear rf0
  rw [World.size_alloc] at rz
  go_wp2_with (first
    | (go_at_call 14
       refine (HR.out _).mono ?_
       rintro e w1 ⟨rfl, hb1⟩
       replace hB0 := hB0.trans (hb1.mono hB0.size)
       replace rf := rf.below hb1 rf.lt
       replace rz := rz.below hb1 rz.lt
       clear hb1
       have hne : ¬ w.heap.size = w.heap.size + 1 := by omega
       have hne' : ¬ w.heap.size + 1 = w.heap.size := by omega
       have f0 := rf.cell 0 _ rfl
       have g0 := rf.thawed 0
       have f1 := rf.cell 1 _ rfl
       have g1 := rf.thawed 1
       have f2 := rf.cell 2 _ rfl
       have g2 := rf.thawed 2
       have f3 := rf.cell 3 _ rfl
       have g3 := rf.thawed 3
       have f4 := rf.cell 4 _ rfl
       have g4 := rf.thawed 4
       have f5 := rf.cell 5 _ rfl
       have g5 := rf.thawed 5
       have f6 := rf.cell 6 _ rfl
       have g6 := rf.thawed 6
       have f7 := rf.cell 7 _ rfl
       have g7 := rf.thawed 7
       have f8 := rf.cell 8 _ rfl
       have g8 := rf.thawed 8
       have z0 := rz.cell 0 _ rfl
       have y0 := rz.thawed 0
       have z1 := rz.cell 1 _ rfl
       have y1 := rz.thawed 1
       have z2 := rz.cell 2 _ rfl
       have y2 := rz.thawed 2
       have z3 := rz.cell 3 _ rfl
       have y3 := rz.thawed 3
       have z4 := rz.cell 4 _ rfl
       have y4 := rz.thawed 4
       have z5 := rz.cell 5 _ rfl
       have y5 := rz.thawed 5
       have z6 := rz.cell 6 _ rfl
       have y6 := rz.thawed 6
       have z7 := rz.cell 7 _ rfl
       have y7 := rz.thawed 7
       have z8 := rz.cell 8 _ rfl
       have y8 := rz.thawed 8)
    | (go_at_call 33; refine (HV.out _).mono ?_; rintro e w2 ⟨rfl, rfl⟩))
  exact bodyPost_ret (v := .tuple #[.agg #[.int .i64 0, .int .i64 0, .int .i64 0, .int .i64 0, .int .u32 0, .int .u32 0, .int .u32 0, .int .u32 0, .string ⟨#[]⟩], .int .i64 20]) (by simp [results, Tryd.results19, go_sem, z0, z1, z2, z3, z4, z5, z6, z7, z8]) rfl ⟨rfl, by exact below_fill _ _ _ _ _ _ _ _ _ hB0 (b := w.heap.size + 1) (by omega)⟩
set_option maxRecDepth 100000 in
set_option maxHeartbeats 2000000 in
theorem refTurnOld (f : Fr) (n : Int) (hr : f.Right) (hv : ver n = false) (w : World) : Calls Tryd.prog 19 #[f.val, .int .i64 n] w fun e w' => e = .returned (.tuple #[(turnF f n).1.val, .int .i64 (turnF f n).2]) ∧ Below w.heap.size w w' := by
  have HR := Lib.hid (fun W => by have h := refRight f W; rw [decide_eq_true hr] at h; exact h : ∀ W : World, Calls Tryd.prog 14 #[.agg #[.int .i64 f.wire, .int .i64 f.kind, .int .i64 f.src, .int .i64 f.dst, .int .u32 (f.life.toNat : Int), .int .u32 (f.seq.toNat : Int), .int .u32 (f.ack.toNat : Int), .int .u32 (f.hint.toNat : Int), .string f.data]] W fun e w' => e = .returned (.bool true) ∧ Below W.heap.size W w')
  have HV := Lib.hid (fun W => by have h := refVersion n W; rw [hv] at h; exact h : ∀ W : World, Calls Tryd.prog 33 #[.int .i64 n] W fun e w' => e = .returned (.bool false) ∧ W = w')
  rw [turnF, if_pos hr, if_neg (by rw [hv]; decide)]
  clear hr
  go_enter Tryd.func19, Tryd.ntmps19
  unfold Fr.val Fr.cells
  have rf0 := Row.new w #[.int .i64 f.wire, .int .i64 f.kind, .int .i64 f.src, .int .i64 f.dst, .int .u32 (f.life.toNat : Int), .int .u32 (f.seq.toNat : Int), .int .u32 (f.ack.toNat : Int), .int .u32 (f.hint.toNat : Int), .string f.data] 24
  have rz := Row.new (w.alloc (.cells #[.int .i64 f.wire, .int .i64 f.kind, .int .i64 f.src, .int .i64 f.dst, .int .u32 (f.life.toNat : Int), .int .u32 (f.seq.toNat : Int), .int .u32 (f.ack.toNat : Int), .int .u32 (f.hint.toNat : Int), .string f.data] 24)) #[.int .i64 0, .int .i64 0, .int .i64 0, .int .i64 0, .int .u32 0, .int .u32 0, .int .u32 0, .int .u32 0, .string ⟨#[]⟩] 24
  have hB0 : Below w.heap.size w ((w.alloc (.cells #[.int .i64 f.wire, .int .i64 f.kind, .int .i64 f.src, .int .i64 f.dst, .int .u32 (f.life.toNat : Int), .int .u32 (f.seq.toNat : Int), .int .u32 (f.ack.toNat : Int), .int .u32 (f.hint.toNat : Int), .string f.data] 24)).alloc (.cells #[.int .i64 0, .int .i64 0, .int .i64 0, .int .i64 0, .int .u32 0, .int .u32 0, .int .u32 0, .int .u32 0, .string ⟨#[]⟩] 24)) := ((Below.refl _ w).alloc (Nat.le_refl _) _).alloc (by simp) _
  have rf := rf0.alloc (.cells #[.int .i64 0, .int .i64 0, .int .i64 0, .int .i64 0, .int .u32 0, .int .u32 0, .int .u32 0, .int .u32 0, .string ⟨#[]⟩] 24)
  clear rf0
  rw [World.size_alloc] at rz
  go_wp2_with (first
    | (go_at_call 14
       refine (HR.out _).mono ?_
       rintro e w1 ⟨rfl, hb1⟩
       replace hB0 := hB0.trans (hb1.mono hB0.size)
       replace rf := rf.below hb1 rf.lt
       replace rz := rz.below hb1 rz.lt
       clear hb1
       have hne : ¬ w.heap.size = w.heap.size + 1 := by omega
       have hne' : ¬ w.heap.size + 1 = w.heap.size := by omega
       have f0 := rf.cell 0 _ rfl
       have g0 := rf.thawed 0
       have f1 := rf.cell 1 _ rfl
       have g1 := rf.thawed 1
       have f2 := rf.cell 2 _ rfl
       have g2 := rf.thawed 2
       have f3 := rf.cell 3 _ rfl
       have g3 := rf.thawed 3
       have f4 := rf.cell 4 _ rfl
       have g4 := rf.thawed 4
       have f5 := rf.cell 5 _ rfl
       have g5 := rf.thawed 5
       have f6 := rf.cell 6 _ rfl
       have g6 := rf.thawed 6
       have f7 := rf.cell 7 _ rfl
       have g7 := rf.thawed 7
       have f8 := rf.cell 8 _ rfl
       have g8 := rf.thawed 8
       have z0 := rz.cell 0 _ rfl
       have y0 := rz.thawed 0
       have z1 := rz.cell 1 _ rfl
       have y1 := rz.thawed 1
       have z2 := rz.cell 2 _ rfl
       have y2 := rz.thawed 2
       have z3 := rz.cell 3 _ rfl
       have y3 := rz.thawed 3
       have z4 := rz.cell 4 _ rfl
       have y4 := rz.thawed 4
       have z5 := rz.cell 5 _ rfl
       have y5 := rz.thawed 5
       have z6 := rz.cell 6 _ rfl
       have y6 := rz.thawed 6
       have z7 := rz.cell 7 _ rfl
       have y7 := rz.thawed 7
       have z8 := rz.cell 8 _ rfl
       have y8 := rz.thawed 8)
    | (go_at_call 33; refine (HV.out _).mono ?_; rintro e w2 ⟨rfl, rfl⟩))
  exact bodyPost_ret (v := .tuple #[.agg #[.int .i64 0, .int .i64 0, .int .i64 0, .int .i64 0, .int .u32 0, .int .u32 0, .int .u32 0, .int .u32 0, .string ⟨#[]⟩], .int .i64 22]) (by simp [results, Tryd.results19, go_sem, z0, z1, z2, z3, z4, z5, z6, z7, z8]) rfl ⟨rfl, by exact below_fill _ _ _ _ _ _ _ _ _ hB0 (b := w.heap.size + 1) (by omega)⟩
set_option maxRecDepth 100000 in
set_option maxHeartbeats 2000000 in
theorem refTurnOne (f : Fr) (n : Int) (hr : f.Right)  (hn : n = 1) (w : World) : Calls Tryd.prog 19 #[f.val, .int .i64 n] w fun e w' => e = .returned (.tuple #[(turnF f n).1.val, .int .i64 (turnF f n).2]) ∧ Below w.heap.size w w' := by
  have hv : ver n = true := by rw [hn]; rfl
  have HR := Lib.hid (fun W => by have h := refRight f W; rw [decide_eq_true hr] at h; exact h : ∀ W : World, Calls Tryd.prog 14 #[.agg #[.int .i64 f.wire, .int .i64 f.kind, .int .i64 f.src, .int .i64 f.dst, .int .u32 (f.life.toNat : Int), .int .u32 (f.seq.toNat : Int), .int .u32 (f.ack.toNat : Int), .int .u32 (f.hint.toNat : Int), .string f.data]] W fun e w' => e = .returned (.bool true) ∧ Below W.heap.size W w')
  have HV := Lib.hid (fun W => by have h := refVersion n W; rw [hv] at h; exact h : ∀ W : World, Calls Tryd.prog 33 #[.int .i64 n] W fun e w' => e = .returned (.bool true) ∧ W = w')
  rw [turnF, if_pos hr, if_pos hv]
  subst hn
  clear hr
  go_enter Tryd.func19, Tryd.ntmps19
  unfold Fr.val Fr.cells
  have rf0 := Row.new w #[.int .i64 f.wire, .int .i64 f.kind, .int .i64 f.src, .int .i64 f.dst, .int .u32 (f.life.toNat : Int), .int .u32 (f.seq.toNat : Int), .int .u32 (f.ack.toNat : Int), .int .u32 (f.hint.toNat : Int), .string f.data] 24
  have rz := Row.new (w.alloc (.cells #[.int .i64 f.wire, .int .i64 f.kind, .int .i64 f.src, .int .i64 f.dst, .int .u32 (f.life.toNat : Int), .int .u32 (f.seq.toNat : Int), .int .u32 (f.ack.toNat : Int), .int .u32 (f.hint.toNat : Int), .string f.data] 24)) #[.int .i64 0, .int .i64 0, .int .i64 0, .int .i64 0, .int .u32 0, .int .u32 0, .int .u32 0, .int .u32 0, .string ⟨#[]⟩] 24
  have hB0 : Below w.heap.size w ((w.alloc (.cells #[.int .i64 f.wire, .int .i64 f.kind, .int .i64 f.src, .int .i64 f.dst, .int .u32 (f.life.toNat : Int), .int .u32 (f.seq.toNat : Int), .int .u32 (f.ack.toNat : Int), .int .u32 (f.hint.toNat : Int), .string f.data] 24)).alloc (.cells #[.int .i64 0, .int .i64 0, .int .i64 0, .int .i64 0, .int .u32 0, .int .u32 0, .int .u32 0, .int .u32 0, .string ⟨#[]⟩] 24)) := ((Below.refl _ w).alloc (Nat.le_refl _) _).alloc (by simp) _
  have rf := rf0.alloc (.cells #[.int .i64 0, .int .i64 0, .int .i64 0, .int .i64 0, .int .u32 0, .int .u32 0, .int .u32 0, .int .u32 0, .string ⟨#[]⟩] 24)
  clear rf0
  rw [World.size_alloc] at rz
  go_wp2_with (first
    | (go_at_call 14
       refine (HR.out _).mono ?_
       rintro e w1 ⟨rfl, hb1⟩
       replace hB0 := hB0.trans (hb1.mono hB0.size)
       replace rf := rf.below hb1 rf.lt
       replace rz := rz.below hb1 rz.lt
       clear hb1
       have hne : ¬ w.heap.size = w.heap.size + 1 := by omega
       have hne' : ¬ w.heap.size + 1 = w.heap.size := by omega
       have f0 := rf.cell 0 _ rfl
       have g0 := rf.thawed 0
       have f1 := rf.cell 1 _ rfl
       have g1 := rf.thawed 1
       have f2 := rf.cell 2 _ rfl
       have g2 := rf.thawed 2
       have f3 := rf.cell 3 _ rfl
       have g3 := rf.thawed 3
       have f4 := rf.cell 4 _ rfl
       have g4 := rf.thawed 4
       have f5 := rf.cell 5 _ rfl
       have g5 := rf.thawed 5
       have f6 := rf.cell 6 _ rfl
       have g6 := rf.thawed 6
       have f7 := rf.cell 7 _ rfl
       have g7 := rf.thawed 7
       have f8 := rf.cell 8 _ rfl
       have g8 := rf.thawed 8
       have z0 := rz.cell 0 _ rfl
       have y0 := rz.thawed 0
       have z1 := rz.cell 1 _ rfl
       have y1 := rz.thawed 1
       have z2 := rz.cell 2 _ rfl
       have y2 := rz.thawed 2
       have z3 := rz.cell 3 _ rfl
       have y3 := rz.thawed 3
       have z4 := rz.cell 4 _ rfl
       have y4 := rz.thawed 4
       have z5 := rz.cell 5 _ rfl
       have y5 := rz.thawed 5
       have z6 := rz.cell 6 _ rfl
       have y6 := rz.thawed 6
       have z7 := rz.cell 7 _ rfl
       have y7 := rz.thawed 7
       have z8 := rz.cell 8 _ rfl
       have y8 := rz.thawed 8)
    | (go_at_call 33; refine (HV.out _).mono ?_; rintro e w2 ⟨rfl, rfl⟩))
  exact bodyPost_ret (v := .tuple #[.agg #[.int .i64 1, .int .i64 f.kind, .int .i64 f.src, .int .i64 f.dst, .int .u32 (f.life.toNat : Int), .int .u32 (f.seq.toNat : Int), .int .u32 (f.ack.toNat : Int), .int .u32 0, .string f.data], .int .i64 0]) (by simp [results, Tryd.results19, go_sem, z0, z1, z2, z3, z4, z5, z6, z7, z8]) rfl ⟨rfl, by exact below_fill _ _ _ _ _ _ _ _ _ ((hB0.setCell (p := ⟨w.heap.size, 0, none⟩) (Nat.le_refl _) _).setCell (p := ⟨w.heap.size, 7, none⟩) (Nat.le_refl _) _) (b := w.heap.size + 1) (by omega)⟩
set_option maxRecDepth 100000 in
set_option maxHeartbeats 2000000 in
theorem refTurnTwo (f : Fr) (n : Int) (hr : f.Right)  (hn : n = 2) (w : World) : Calls Tryd.prog 19 #[f.val, .int .i64 n] w fun e w' => e = .returned (.tuple #[(turnF f n).1.val, .int .i64 (turnF f n).2]) ∧ Below w.heap.size w w' := by
  have hv : ver n = true := by rw [hn]; rfl
  have HR := Lib.hid (fun W => by have h := refRight f W; rw [decide_eq_true hr] at h; exact h : ∀ W : World, Calls Tryd.prog 14 #[.agg #[.int .i64 f.wire, .int .i64 f.kind, .int .i64 f.src, .int .i64 f.dst, .int .u32 (f.life.toNat : Int), .int .u32 (f.seq.toNat : Int), .int .u32 (f.ack.toNat : Int), .int .u32 (f.hint.toNat : Int), .string f.data]] W fun e w' => e = .returned (.bool true) ∧ Below W.heap.size W w')
  have HV := Lib.hid (fun W => by have h := refVersion n W; rw [hv] at h; exact h : ∀ W : World, Calls Tryd.prog 33 #[.int .i64 n] W fun e w' => e = .returned (.bool true) ∧ W = w')
  rw [turnF, if_pos hr, if_pos hv]
  subst hn
  clear hr
  go_enter Tryd.func19, Tryd.ntmps19
  unfold Fr.val Fr.cells
  have rf0 := Row.new w #[.int .i64 f.wire, .int .i64 f.kind, .int .i64 f.src, .int .i64 f.dst, .int .u32 (f.life.toNat : Int), .int .u32 (f.seq.toNat : Int), .int .u32 (f.ack.toNat : Int), .int .u32 (f.hint.toNat : Int), .string f.data] 24
  have rz := Row.new (w.alloc (.cells #[.int .i64 f.wire, .int .i64 f.kind, .int .i64 f.src, .int .i64 f.dst, .int .u32 (f.life.toNat : Int), .int .u32 (f.seq.toNat : Int), .int .u32 (f.ack.toNat : Int), .int .u32 (f.hint.toNat : Int), .string f.data] 24)) #[.int .i64 0, .int .i64 0, .int .i64 0, .int .i64 0, .int .u32 0, .int .u32 0, .int .u32 0, .int .u32 0, .string ⟨#[]⟩] 24
  have hB0 : Below w.heap.size w ((w.alloc (.cells #[.int .i64 f.wire, .int .i64 f.kind, .int .i64 f.src, .int .i64 f.dst, .int .u32 (f.life.toNat : Int), .int .u32 (f.seq.toNat : Int), .int .u32 (f.ack.toNat : Int), .int .u32 (f.hint.toNat : Int), .string f.data] 24)).alloc (.cells #[.int .i64 0, .int .i64 0, .int .i64 0, .int .i64 0, .int .u32 0, .int .u32 0, .int .u32 0, .int .u32 0, .string ⟨#[]⟩] 24)) := ((Below.refl _ w).alloc (Nat.le_refl _) _).alloc (by simp) _
  have rf := rf0.alloc (.cells #[.int .i64 0, .int .i64 0, .int .i64 0, .int .i64 0, .int .u32 0, .int .u32 0, .int .u32 0, .int .u32 0, .string ⟨#[]⟩] 24)
  clear rf0
  rw [World.size_alloc] at rz
  go_wp2_with (first
    | (go_at_call 14
       refine (HR.out _).mono ?_
       rintro e w1 ⟨rfl, hb1⟩
       replace hB0 := hB0.trans (hb1.mono hB0.size)
       replace rf := rf.below hb1 rf.lt
       replace rz := rz.below hb1 rz.lt
       clear hb1
       have hne : ¬ w.heap.size = w.heap.size + 1 := by omega
       have hne' : ¬ w.heap.size + 1 = w.heap.size := by omega
       have f0 := rf.cell 0 _ rfl
       have g0 := rf.thawed 0
       have f1 := rf.cell 1 _ rfl
       have g1 := rf.thawed 1
       have f2 := rf.cell 2 _ rfl
       have g2 := rf.thawed 2
       have f3 := rf.cell 3 _ rfl
       have g3 := rf.thawed 3
       have f4 := rf.cell 4 _ rfl
       have g4 := rf.thawed 4
       have f5 := rf.cell 5 _ rfl
       have g5 := rf.thawed 5
       have f6 := rf.cell 6 _ rfl
       have g6 := rf.thawed 6
       have f7 := rf.cell 7 _ rfl
       have g7 := rf.thawed 7
       have f8 := rf.cell 8 _ rfl
       have g8 := rf.thawed 8
       have z0 := rz.cell 0 _ rfl
       have y0 := rz.thawed 0
       have z1 := rz.cell 1 _ rfl
       have y1 := rz.thawed 1
       have z2 := rz.cell 2 _ rfl
       have y2 := rz.thawed 2
       have z3 := rz.cell 3 _ rfl
       have y3 := rz.thawed 3
       have z4 := rz.cell 4 _ rfl
       have y4 := rz.thawed 4
       have z5 := rz.cell 5 _ rfl
       have y5 := rz.thawed 5
       have z6 := rz.cell 6 _ rfl
       have y6 := rz.thawed 6
       have z7 := rz.cell 7 _ rfl
       have y7 := rz.thawed 7
       have z8 := rz.cell 8 _ rfl
       have y8 := rz.thawed 8)
    | (go_at_call 33; refine (HV.out _).mono ?_; rintro e w2 ⟨rfl, rfl⟩))
  exact bodyPost_ret (v := .tuple #[.agg #[.int .i64 2, .int .i64 f.kind, .int .i64 f.src, .int .i64 f.dst, .int .u32 (f.life.toNat : Int), .int .u32 (f.seq.toNat : Int), .int .u32 (f.ack.toNat : Int), .int .u32 (f.hint.toNat : Int), .string f.data], .int .i64 0]) (by simp [results, Tryd.results19, go_sem, z0, z1, z2, z3, z4, z5, z6, z7, z8]) rfl ⟨rfl, by exact below_fill _ _ _ _ _ _ _ _ _ (hB0.setCell (p := ⟨w.heap.size, 0, none⟩) (Nat.le_refl _) _) (b := w.heap.size + 1) (by omega)⟩
end Go.Proofs.YtlcenfgnmmkcpaaDoor
