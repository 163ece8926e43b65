/-
  What the laws of layer 8 begin with: shown; walked.
-/
import Derived.Test.YtigameebcicgpaaBtCon
namespace Go.Proofs.Ytigameebcicgpaa
open Go.RowKit Go.Shelf
attribute [local go_sem] Oper.semAt_some
set_option linter.unusedVariables false
set_option linter.unusedSimpArgs false

theorem cell_of {w : World} {B j : Nat} {C : Array Value} {T : TypeId} {v : Value} (h : w.heap[B]? = some (.cells C T (0, 0))) (hv : C[j]? = some v) : w.cell? ⟨B, j, none⟩ = some v := by simp [World.cell?, h, hv]
namespace Sh8
def y : ByteArray := ⟨#[121]⟩
def x : ByteArray := ⟨#[120]⟩
def a : Vt := ⟨17, 0, ⟨#[]⟩⟩
def b : Vt := ⟨17, 17, y⟩
theorem e1 : Bt.promV Vt.zero 17 = a ∧ Bt.promE Vt.zero 17 = 0 := ⟨by decide +kernel, by decide +kernel⟩
theorem e2 : Bt.castV a 16 x = Vt.zero ∧ Bt.castE a 16 x = 80 := ⟨by decide +kernel, by decide +kernel⟩
theorem e3 : Bt.castV a 17 y = b ∧ Bt.castE a 17 y = 0 := ⟨by decide +kernel, by decide +kernel⟩
theorem e4 : Bt.decS [b, b, Vt.zero] = y ∧ Bt.decB [b, b, Vt.zero] = true ∧ Bt.decE [b, b, Vt.zero] = 0 := ⟨by decide +kernel, by decide +kernel, by decide +kernel⟩
abbrev zA : Value := .agg #[.int .u64 0, .int .u64 0, .string ⟨#[]⟩]
abbrev aA : Value := .agg #[.int .u64 17, .int .u64 0, .string ⟨#[]⟩]
abbrev bA : Value := .agg #[.int .u64 17, .int .u64 17, .string ⟨#[121]⟩]
theorem promise (w : World) : Calls Try.prog 12 #[zA, .int .u64 17] w fun e w' => e = .returned (.tuple #[aA, .int .i64 0]) ∧ Below w.heap.size w w' := by
  have h := btPromise Vt.zero 17 (by decide) w
  rw [e1.1, e1.2] at h
  exact h
theorem cast1 (w : World) : Calls Try.prog 14 #[aA, .int .u64 16, .string ⟨#[120]⟩] w fun e w' => e = .returned (.tuple #[zA, .int .i64 80]) ∧ Below w.heap.size w w' := by
  have h := btCast a 16 x (by decide) (by decide) w
  rw [e2.1, e2.2] at h
  exact h
theorem cast2 (w : World) : Calls Try.prog 14 #[aA, .int .u64 17, .string ⟨#[121]⟩] w fun e w' => e = .returned (.tuple #[bA, .int .i64 0]) ∧ Below w.heap.size w w' := by
  have h := btCast a 17 y (by decide) (by decide) w
  rw [e3.1, e3.2] at h
  exact h
abbrev row3 : Array Value := #[.int .u64 17, .int .u64 17, .string ⟨#[121]⟩, .int .u64 17, .int .u64 17, .string ⟨#[121]⟩, .int .u64 0, .int .u64 0, .string ⟨#[]⟩]
theorem decided (w : World) (g : Nat) (hg : g = w.heap.size) : Calls Try.prog 21 #[.slice (some ⟨g, 0, none⟩) 3 3] (w.alloc (.cells row3 24)) fun e w' => e = .returned (.tuple #[.string ⟨#[121]⟩, .bool true, .int .i64 0]) ∧ Below w.heap.size w w' := by
  subst hg
  have hr := World.alloc_heap_new w (.cells row3 24)
  have hv : VtsR (w.alloc (.cells row3 24)) (.slice (some ⟨w.heap.size, 0, none⟩) 3 3) [b, b, Vt.zero] := .inr ⟨w.heap.size, 3, rfl, by simp, fun j hj => by
    generalize w.alloc (.cells row3 24) = V at *
    rcases j with _ | _ | _ | j
    · simp [World.cell?, hr, b, y]
    · simp [World.cell?, hr, b, y]
    · simp [World.cell?, hr, Vt.zero]
    · simp at hj; omega⟩
  have h := btDecided _ _ _ hv (by decide) (by
    intro v hv'
    simp only [List.mem_cons, List.not_mem_nil, or_false] at hv'
    rcases hv' with rfl | rfl | rfl <;> decide)
  rw [e4.1, e4.2.1, e4.2.2] at h
  exact h.mono fun e w' ⟨h1, h2⟩ => ⟨h1, ((Below.refl _ w).alloc (Nat.le_refl _) _).trans (h2.mono (by simp))⟩
end Sh8
set_option maxRecDepth 100000 in
set_option maxHeartbeats 2000000 in
theorem lawShown8 (w : World) : Calls Try.prog 10 #[] w fun e w' => e = .returned (.bool true) ∧ Below w.heap.size w w' := by
  have H1 := Lib.hid (fun W => Sh8.promise W)
  have H2 := Lib.hid (fun W => Sh8.cast1 W)
  have H3 := Lib.hid (fun W => Sh8.cast2 W)
  have H4 := Lib.hid (fun W g hg => Sh8.decided W g hg)
  have hg : ∀ (x y : Operand) (W : World), (eqGuard .eql 24 x y Sh8.aA Sh8.aA).run Try.prog W = .ok () W := fun x y W => voteGuard Sh8.a Sh8.a x y W
  have hq : ∀ W : World, (binOp .eql 24 Sh8.aA Sh8.aA).run Try.prog W = .ok (.bool true) W := fun W => (voteEql Sh8.a Sh8.a W).trans (by rw [decide_eq_true rfl])
  dsimp only [Sh8.aA] at hg hq
  go_enter Try.func10, Try.ntmps10
  go_wp2_with (first
    | (go_at_call 12; refine (H1.out _).mono ?_; rintro e w1 ⟨rfl, hb1⟩; have r1 := World.alloc_heap_new w1 (.cells #[.int .u64 17, .int .u64 0, .string ⟨#[]⟩] 24); have hs1 := World.size_alloc w1 (.cells #[.int .u64 17, .int .u64 0, .string ⟨#[]⟩] 24))
    | (go_at_call 14; have H := H2; clear H2; refine (H.out _).mono ?_; rintro e w2 ⟨rfl, hb2⟩; have r2 := (Below.heap_alloc w2 (.cells #[.int .u64 0, .int .u64 0, .string ⟨#[]⟩] 24) w1.heap.size (by have := hb2.size; omega)).trans ((hb2.block _ (by rw [hs1]; omega)).trans r1); have hs2 := hb2.size; have hs2' := World.size_alloc w2 (.cells #[.int .u64 0, .int .u64 0, .string ⟨#[]⟩] 24); have x0 : (w2.alloc (.cells #[.int .u64 0, .int .u64 0, .string ⟨#[]⟩] 24)).cell? ⟨w1.heap.size, 0, none⟩ = some (.int .u64 17) := cell_of r2 rfl; have x1 : (w2.alloc (.cells #[.int .u64 0, .int .u64 0, .string ⟨#[]⟩] 24)).cell? ⟨w1.heap.size, 1, none⟩ = some (.int .u64 0) := cell_of r2 rfl; have x2 : (w2.alloc (.cells #[.int .u64 0, .int .u64 0, .string ⟨#[]⟩] 24)).cell? ⟨w1.heap.size, 2, none⟩ = some (.string ⟨#[]⟩) := cell_of r2 rfl)
    | (go_at_call 14; refine (H3.out _).mono ?_; rintro e w3 ⟨rfl, hb3⟩; have r3 := (hb3.block _ (by omega)).trans r2; have hs3 := hb3.size)
    | (go_at_call 21; refine (H4.out _ _ (by simp)).mono ?_; rintro e w4 ⟨rfl, hb4⟩; have r4 := (hb4.block w1.heap.size (by simp; omega)).trans ((Below.heap_alloc _ _ _ (by omega)).trans r3); have z0 : w4.cell? ⟨w1.heap.size, 0, none⟩ = some (.int .u64 17) := cell_of r4 rfl; have z1 : w4.cell? ⟨w1.heap.size, 1, none⟩ = some (.int .u64 0) := cell_of r4 rfl; have z2 : w4.cell? ⟨w1.heap.size, 2, none⟩ = some (.string ⟨#[]⟩) := cell_of r4 rfl))
  go_ret
  exact ⟨rfl, hb1.trans (((Below.refl w1.heap.size w1).alloc (Nat.le_refl _) _).trans ((hb2.mono (by omega)).trans (((Below.refl w1.heap.size w2).alloc (by omega) _).trans ((hb3.mono (by omega)).trans (((Below.refl w1.heap.size w3).alloc (by omega) _).trans (hb4.mono (by simp; omega))))))|>.mono hb1.size)⟩
end Go.Proofs.Ytigameebcicgpaa
