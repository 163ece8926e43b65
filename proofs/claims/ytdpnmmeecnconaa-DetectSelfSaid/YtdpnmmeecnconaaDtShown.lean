/-
  What the laws of layer 7 begin with: shown; walked.
-/
import Derived.Test.YtdpnmmeecnconaaDtNew
namespace Go.Proofs.Ytdpnmmeecnconaa
open Go.RowKit Go.Shelf
attribute [local go_sem] Oper.semAt_some
set_option linter.unusedVariables false
set_option linter.unusedSimpArgs false

namespace Sh
def d0 : Dt := Dt.new 0 3 10 20 5 0
def d1 : Dt := d0.tick 11
def d2 : Dt := d1.hear 2 12
theorem e1 : d0.tickE 11 = 0 ∧ d0.tickS 11 = d1 ∧ d0.tickL 11 = [1, 2] := ⟨rfl, rfl, rfl⟩
theorem e2 : d1.hearE 2 12 = 0 ∧ d1.hearS 2 12 = d2 := ⟨rfl, rfl⟩
theorem e3 : d2.outOf 2 = 15 ∧ d2.leader = 0 ∧ d2.suspects = [1] := ⟨rfl, rfl, rfl⟩
variable {B M : Nat} {w : World}
theorem new1 (w : World) : Calls Try.prog 14 #[.int .i64 0, .int .i64 3, .agg #[.int .u64 10, .int .u64 20, .int .u64 5], .int .u64 0] w fun e w' =>
    (∃ B M, e = .returned (.tuple #[.pointer (some ⟨B, 0, none⟩), .int .i64 0]) ∧ w.heap.size ≤ B ∧ w.heap.size ≤ M ∧ Dt.Is d0 B M w') ∧ Below w.heap.size w w' :=
  (show Calls Try.prog 14 #[.int .i64 0, .int .i64 3, .agg #[.int .u64 10, .int .u64 20, .int .u64 5], .int .u64 0] w _ from dtNew 0 3 10 20 5 0 w).mono fun e w' ⟨h, hb⟩ => by
    rcases h with ⟨_, h⟩ | ⟨h, _⟩
    · exact ⟨h, hb⟩
    · exact absurd (by unfold Dt.right Dt.maxTime; omega) h
theorem new2 (w : World) : Calls Try.prog 14 #[.int .i64 0, .int .i64 17, .agg #[.int .u64 1, .int .u64 1, .int .u64 0], .int .u64 0] w fun e w' =>
    e = .returned (.tuple #[.pointer none, .int .i64 70]) ∧ Below w.heap.size w w' :=
  (show Calls Try.prog 14 #[.int .i64 0, .int .i64 17, .agg #[.int .u64 1, .int .u64 1, .int .u64 0], .int .u64 0] w _ from dtNew 0 17 1 1 0 0 w).mono fun e w' ⟨h, hb⟩ => by
    rcases h with ⟨h, _⟩ | ⟨_, h⟩
    · exact absurd h (by unfold Dt.right; omega)
    · exact ⟨h, hb⟩
theorem tick (h : Dt.Is d0 B M w) : Calls Try.prog 9 #[.pointer (some ⟨B, 0, none⟩), .int .u64 11] w fun e w' =>
    ∃ g c, e = .returned (.tuple #[.slice (some ⟨g, 0, none⟩) 2 c, .int .i64 0]) ∧ Nums w' w.heap.size (.slice (some ⟨g, 0, none⟩) 2 c) [1, 2] ∧ Dt.Turns d1 B M w w' :=
  (dtTick d0 B M 11 w h).mono fun e w' ⟨⟨u, h1, h2⟩, h3⟩ => by
    obtain ⟨r1, r2, r3⟩ := e1
    rw [r1] at h1
    rw [r3] at h2
    rw [r2] at h3
    rcases id h2 with ⟨rfl, h0⟩ | ⟨g, c, rfl, _⟩
    · cases h0
    · exact ⟨g, c, h1, h2, h3⟩
theorem hear (h : Dt.Is d1 B M w) : Calls Try.prog 10 #[.pointer (some ⟨B, 0, none⟩), .int .i64 2, .int .u64 12] w fun e w' =>
    e = .returned (.int .i64 0) ∧ Dt.Turns d2 B M w w' :=
  (dtHear d1 B M 2 12 w h).mono fun e w' ⟨h1, h3⟩ => by
    obtain ⟨r1, r2⟩ := e2
    have h1' : e = .returned (.int .i64 (d1.hearE 2 12)) := h1
    rw [r1] at h1'
    have h3' : Dt.Turns (d1.hearS 2 12) B M w w' := h3
    rw [r2] at h3'
    exact ⟨h1', h3'⟩
theorem timeout (h : Dt.Is d2 B M w) : Calls Try.prog 13 #[.pointer (some ⟨B, 0, none⟩), .int .i64 2] w fun e w' => e = .returned (.int .u64 15) ∧ w = w' :=
  (dtTimeout d2 B M 2 w h).mono fun e w' ⟨h1, h2⟩ => ⟨by rw [e3.1] at h1; exact h1, h2⟩
theorem leader (h : Dt.Is d2 B M w) : Calls Try.prog 11 #[.pointer (some ⟨B, 0, none⟩)] w fun e w' => e = .returned (.int .i64 0) ∧ Below w.heap.size w w' :=
  (dtLeader d2 B M w h).mono fun e w' ⟨h1, h2⟩ => ⟨by rw [e3.2.1] at h1; exact h1, h2⟩
theorem suspects (h : Dt.Is d2 B M w) : Calls Try.prog 12 #[.pointer (some ⟨B, 0, none⟩)] w fun e w' =>
    (∃ g c, e = .returned (.slice (some ⟨g, 0, none⟩) 1 c) ∧ Nums w' w.heap.size (.slice (some ⟨g, 0, none⟩) 1 c) [1]) ∧ Below w.heap.size w w' :=
  (dtSuspects d2 B M w h).mono fun e w' ⟨⟨u, h1, h2⟩, h3⟩ => by
    rw [e3.2.2] at h2
    rcases id h2 with ⟨rfl, h0⟩ | ⟨g, c, rfl, _⟩
    · cases h0
    · exact ⟨⟨g, c, h1, h2⟩, h3⟩
theorem same12 {v : Value} {n : Nat} (h : Nums w n v [1, 2]) : Calls Try.prog 15 #[v, .slice (some ⟨w.heap.size, 0, none⟩) 2 2] (w.alloc (.cells #[.int .i64 1, .int .i64 2] 3)) fun e w' => e = .returned (.bool true) ∧ Below w.heap.size w w' :=
  (refSame _ _ [1, 2] [1, 2] _ (h.below ((Below.refl _ w).alloc (Nat.le_refl _) _)).toA (.inr ⟨w.heap.size, 2, rfl, by simp, fun j hj => by
    rcases j with _ | _ | j
    · simp
    · simp
    · simp at hj; omega⟩) (by decide)).mono fun e w' ⟨h3, h4⟩ =>
    ⟨h3, ((Below.refl _ w).alloc (Nat.le_refl _) _).trans (h4.mono (by simp))⟩
theorem same1 {v : Value} {n : Nat} (h : Nums w n v [1]) : Calls Try.prog 15 #[v, .slice (some ⟨w.heap.size, 0, none⟩) 1 1] (w.alloc (.cells #[.int .i64 1] 3)) fun e w' => e = .returned (.bool true) ∧ Below w.heap.size w w' :=
  (refSame _ _ [1] [1] _ (h.below ((Below.refl _ w).alloc (Nat.le_refl _) _)).toA (.inr ⟨w.heap.size, 1, rfl, by simp, fun j hj => by
    rcases j with _ | j
    · simp
    · simp at hj⟩) (by decide)).mono fun e w' ⟨h3, h4⟩ =>
    ⟨h3, ((Below.refl _ w).alloc (Nat.le_refl _) _).trans (h4.mono (by simp))⟩
end Sh
set_option maxRecDepth 100000 in
set_option maxHeartbeats 4000000 in
theorem lawShown7 (w : World) : Calls Try.prog 8 #[] w fun e w' => e = .returned (.bool true) ∧ Below w.heap.size w w' := by
  have H1 := Lib.hid (fun W => Sh.new1 W)
  have H2 := Lib.hid (fun W => Sh.new2 W)
  have H3 := Lib.hid (fun (W : World) (v : Value) (n : Nat) (h : Nums W n v [1, 2]) => Sh.same12 h)
  have H4 := Lib.hid (fun (W : World) (v : Value) (n : Nat) (h : Nums W n v [1]) => Sh.same1 h)
  go_enter Try.func8, Try.ntmps8
  go_wp2_with (first
    | (go_at_call 14; have H := H1; clear H1; refine (H.out _).mono ?_; rintro e w1 ⟨⟨B, M, rfl, hlB, hlM, hI1⟩, hb1⟩; have hB1 := hI1.lt; have hM1 := hI1.ltM)
    | (go_at_call 9; refine (Sh.tick hI1).mono ?_; rintro e w2 ⟨g, c, rfl, hN2, hT2⟩; have hbb2 : Below w.heap.size w w2 := hb1.trans (hT2.2.below hb1.size (by rintro j (h | h) <;> omega)); have hI2 := hT2.1)
    | (go_at_call 10; refine (Sh.hear hI2).mono ?_; rintro e w3 ⟨rfl, hT3⟩; have hbb3 : Below w.heap.size w w3 := hbb2.trans (hT3.2.below hbb2.size (by rintro j (h | h) <;> omega)); have hI3 := hT3.1; have hN3 := nums_save (w0 := w) hN2 hT3.2 hB1 hM1)
    | (go_at_call 14; have H := H2; clear H2; refine (H.out _).mono ?_; rintro e w4 ⟨rfl, hb4⟩; have hbb4 : Below w.heap.size w w4 := hbb3.trans (hb4.mono hbb3.size); have hI4 := hI3.below hb4; have hN4 := hN3.below hb4)
    | (go_at_call 15; have H := H3; clear H3; refine (H.out _ _ _ hN4).mono ?_; rintro e w5 ⟨rfl, hb5⟩; have hbb5 : Below w.heap.size w w5 := hbb4.trans (hb5.mono hbb4.size); have hI5 := hI4.below hb5)
    | (go_at_call 13; refine (Sh.timeout hI5).mono ?_; rintro e w6 ⟨rfl, rfl⟩)
    | (go_at_call 11; refine (Sh.leader hI5).mono ?_; rintro e w7 ⟨rfl, hb7⟩; have hbb7 : Below w.heap.size w w7 := hbb5.trans (hb7.mono hbb5.size); have hI7 := hI5.below hb7)
    | (go_at_call 12; refine (Sh.suspects hI7).mono ?_; rintro e w8 ⟨⟨g8, c8, rfl, hN8⟩, hb8⟩; have hbb8 : Below w.heap.size w w8 := hbb7.trans (hb8.mono hbb7.size))
    | (go_at_call 15; refine (H4.out _ _ _ hN8).mono ?_; rintro e w9 ⟨rfl, hb9⟩; have hbb9 : Below w.heap.size w w9 := hbb8.trans (hb9.mono hbb8.size)))
  go_ret
  exact ⟨rfl, hbb9⟩
end Go.Proofs.Ytdpnmmeecnconaa
