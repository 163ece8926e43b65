/-
  A struct that was handed in (api.Frame): opened.
-/
import Derived.Test.YtlbhfkiihikimaaArgs
import Derived.Deep.Slices
import Derived.ProofKit
import Derived.OpenShut
import Derived.ShutString
import Derived.ChangeOld
import Derived.Below
import Derived.ChangeArms
namespace Go.Proofs.Ytlbhfkiihikimaa
open Go.ChangeShapes Go.WideShapes Go.ChangeAt Go.RowKit
set_option linter.unusedVariables false
set_option linter.unusedSimpArgs false
set_option maxRecDepth 100000 in
theorem open_frame6 {H : Type} {enc : TypeId × Value → H} {W : World} {r : Reach} {b0 base : Nat} {spare : Nat → Bool} {held : Bool} {v : Value} {d : DataW H} {p : List MemPlace} (hv : Value.okWide Try.prog W r b0 24 v) (h : DataW.Trod enc Try.prog W base spare held 24 v d p) :
    ∃ (x0 : Int) (x1 : Int) (x2 : Int) (x3 : Int) (x4 : BitVec 32) (x5 : BitVec 32) (x6 : BitVec 32) (x7 : BitVec 32) (x8 : ByteArray), v = .agg #[.int .i64 x0, .int .i64 x1, .int .i64 x2, .int .i64 x3, .int .u32 (x4.toNat : Int), .int .u32 (x5.toNat : Int), .int .u32 (x6.toNat : Int), .int .u32 (x7.toNat : Int), .string x8] ∧ (x0 ≤ 2 ^ 63 - 1 ∧ x1 ≤ 2 ^ 63 - 1 ∧ x2 ≤ 2 ^ 63 - 1 ∧ x3 ≤ 2 ^ 63 - 1 ∧ x8.size ≤ maxLen) ∧ p = [] := by
  obtain ⟨cs, rfl, hsz⟩ := okWide_struct Try.underlying24 hv
  have hC : Try.prog.cellsOf 24 = 9 := by kernel_rfl
  have c_int : Try.prog.cellsOf 3 = 1 := by kernel_rfl
  have c_string : Try.prog.cellsOf 9 = 1 := by kernel_rfl
  have c_u32 : Try.prog.cellsOf 22 = 1 := by kernel_rfl
  rw [hC] at hsz
  obtain ⟨l⟩ := cs
  obtain ⟨c0, c1, c2, c3, c4, c5, c6, c7, c8, rfl⟩ : ∃ c0 c1 c2 c3 c4 c5 c6 c7 c8, l = [c0, c1, c2, c3, c4, c5, c6, c7, c8] := by
    match l, hsz with
    | [c0, c1, c2, c3, c4, c5, c6, c7, c8], _ => exact ⟨c0, c1, c2, c3, c4, c5, c6, c7, c8, rfl⟩
  obtain ⟨fuel, hf⟩ := h
  obtain ⟨xs, n, _, hx, hl, hlen, hfs⟩ := DataW.trod_struct Try.underlying24 hf
  obtain ⟨y0, y1, y2, y3, y4, y5, y6, y7, y8, rfl⟩ : ∃ y0 y1 y2 y3 y4 y5 y6 y7 y8, xs = [y0, y1, y2, y3, y4, y5, y6, y7, y8] := by
    match xs, hlen with
    | [y0, y1, y2, y3, y4, y5, y6, y7, y8], _ => exact ⟨y0, y1, y2, y3, y4, y5, y6, y7, y8, rfl⟩
  have k0 : DataW.trod enc Try.prog W base spare held n 3 (([c0, c1, c2, c3, c4, c5, c6, c7, c8].drop 0).take (Try.prog.cellsOf 3)) = some y0 := hfs 0 _ rfl
  rw [c_int] at k0
  change DataW.trod enc Try.prog W base spare held n 3 [c0] = some y0 at k0
  have k1 : DataW.trod enc Try.prog W base spare held n 3 (([c0, c1, c2, c3, c4, c5, c6, c7, c8].drop 1).take (Try.prog.cellsOf 3)) = some y1 := hfs 1 _ rfl
  rw [c_int] at k1
  change DataW.trod enc Try.prog W base spare held n 3 [c1] = some y1 at k1
  have k2 : DataW.trod enc Try.prog W base spare held n 3 (([c0, c1, c2, c3, c4, c5, c6, c7, c8].drop 2).take (Try.prog.cellsOf 3)) = some y2 := hfs 2 _ rfl
  rw [c_int] at k2
  change DataW.trod enc Try.prog W base spare held n 3 [c2] = some y2 at k2
  have k3 : DataW.trod enc Try.prog W base spare held n 3 (([c0, c1, c2, c3, c4, c5, c6, c7, c8].drop 3).take (Try.prog.cellsOf 3)) = some y3 := hfs 3 _ rfl
  rw [c_int] at k3
  change DataW.trod enc Try.prog W base spare held n 3 [c3] = some y3 at k3
  have k4 : DataW.trod enc Try.prog W base spare held n 22 (([c0, c1, c2, c3, c4, c5, c6, c7, c8].drop 4).take (Try.prog.cellsOf 22)) = some y4 := hfs 4 _ rfl
  rw [c_u32] at k4
  change DataW.trod enc Try.prog W base spare held n 22 [c4] = some y4 at k4
  have k5 : DataW.trod enc Try.prog W base spare held n 22 (([c0, c1, c2, c3, c4, c5, c6, c7, c8].drop 5).take (Try.prog.cellsOf 22)) = some y5 := hfs 5 _ rfl
  rw [c_u32] at k5
  change DataW.trod enc Try.prog W base spare held n 22 [c5] = some y5 at k5
  have k6 : DataW.trod enc Try.prog W base spare held n 22 (([c0, c1, c2, c3, c4, c5, c6, c7, c8].drop 6).take (Try.prog.cellsOf 22)) = some y6 := hfs 6 _ rfl
  rw [c_u32] at k6
  change DataW.trod enc Try.prog W base spare held n 22 [c6] = some y6 at k6
  have k7 : DataW.trod enc Try.prog W base spare held n 22 (([c0, c1, c2, c3, c4, c5, c6, c7, c8].drop 7).take (Try.prog.cellsOf 22)) = some y7 := hfs 7 _ rfl
  rw [c_u32] at k7
  change DataW.trod enc Try.prog W base spare held n 22 [c7] = some y7 at k7
  have k8 : DataW.trod enc Try.prog W base spare held n 9 (([c0, c1, c2, c3, c4, c5, c6, c7, c8].drop 8).take (Try.prog.cellsOf 9)) = some y8 := hfs 8 _ rfl
  rw [c_string] at k8
  change DataW.trod enc Try.prog W base spare held n 9 [c8] = some y8 at k8
  obtain ⟨z0, e0, rfl, w0⟩ := DataW.trod_int Try.underlying3 k0
  obtain ⟨z1, e1, rfl, w1⟩ := DataW.trod_int Try.underlying3 k1
  obtain ⟨z2, e2, rfl, w2⟩ := DataW.trod_int Try.underlying3 k2
  obtain ⟨z3, e3, rfl, w3⟩ := DataW.trod_int Try.underlying3 k3
  obtain ⟨z4, e4, rfl, w4⟩ := DataW.trod_int Try.underlying22 k4
  obtain ⟨z5, e5, rfl, w5⟩ := DataW.trod_int Try.underlying22 k5
  obtain ⟨z6, e6, rfl, w6⟩ := DataW.trod_int Try.underlying22 k6
  obtain ⟨z7, e7, rfl, w7⟩ := DataW.trod_int Try.underlying22 k7
  obtain ⟨z8, e8, rfl, w8⟩ := DataW.trod_string Try.underlying9 k8
  simp only [List.cons.injEq, and_true] at e0 e1 e2 e3 e4 e5 e6 e7 e8
  subst e0 e1 e2 e3 e4 e5 e6 e7 e8
  obtain ⟨b4, rfl⟩ := b32_of_wf w4
  obtain ⟨b5, rfl⟩ := b32_of_wf w5
  obtain ⟨b6, rfl⟩ := b32_of_wf w6
  obtain ⟨b7, rfl⟩ := b32_of_wf w7
  refine ⟨z0, z1, z2, z3, b4, b5, b6, b7, z8, rfl, ⟨(i64_of_wf w0).2, (i64_of_wf w1).2, (i64_of_wf w2).2, (i64_of_wf w3).2, w8⟩, ?_⟩
  have := congrArg Prod.snd hx
  simpa using this
end Go.Proofs.Ytlbhfkiihikimaa
