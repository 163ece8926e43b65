/-
  A struct that was handed in (rostrumlaw05.Act): opened.
-/
import Derived.Test.YtialmaapahjchaaArgs
import Derived.Deep.Slices
import Derived.ProofKit
import Derived.OpenShut
import Derived.ShutString
import Derived.ChangeOld
import Derived.Below
import Derived.ChangeArms
namespace Go.Proofs.Ytialmaapahjchaa
open Go.ChangeShapes Go.WideShapes Go.ChangeAt Go.RowKit
set_option linter.unusedVariables false
set_option linter.unusedSimpArgs false
set_option maxRecDepth 100000 in
theorem open_act5 {H : Type} {enc : TypeId × Value → H} {W : World} {r : Reach} {b0 base : Nat} {spare : Nat → Bool} {held : Bool} {v : Value} {d : DataW H} {p : List MemPlace} (hv : Value.okWide Try.prog W r b0 33 v) (h : DataW.Trod enc Try.prog W base spare held 33 v d p) :
    ∃ (x0 : Int) (x1 : Int) (x2 : Int) (x3 : BitVec 32) (x4 : ByteArray), v = .agg #[.int .i64 x0, .int .i64 x1, .int .i64 x2, .int .u32 (x3.toNat : Int), .string x4] ∧ (x0 ≤ 2 ^ 63 - 1 ∧ x1 ≤ 2 ^ 63 - 1 ∧ x2 ≤ 2 ^ 63 - 1 ∧ x4.size ≤ maxLen) ∧ p = [] := by
  obtain ⟨cs, rfl, hsz⟩ := okWide_struct Try.underlying33 hv
  have hC : Try.prog.cellsOf 33 = 5 := by kernel_rfl
  have c_int : Try.prog.cellsOf 3 = 1 := by kernel_rfl
  have c_string : Try.prog.cellsOf 9 = 1 := by kernel_rfl
  have c_u32 : Try.prog.cellsOf 28 = 1 := by kernel_rfl
  rw [hC] at hsz
  obtain ⟨l⟩ := cs
  obtain ⟨c0, c1, c2, c3, c4, rfl⟩ : ∃ c0 c1 c2 c3 c4, l = [c0, c1, c2, c3, c4] := by
    match l, hsz with
    | [c0, c1, c2, c3, c4], _ => exact ⟨c0, c1, c2, c3, c4, rfl⟩
  obtain ⟨fuel, hf⟩ := h
  obtain ⟨xs, n, _, hx, hl, hlen, hfs⟩ := DataW.trod_struct Try.underlying33 hf
  obtain ⟨y0, y1, y2, y3, y4, rfl⟩ : ∃ y0 y1 y2 y3 y4, xs = [y0, y1, y2, y3, y4] := by
    match xs, hlen with
    | [y0, y1, y2, y3, y4], _ => exact ⟨y0, y1, y2, y3, y4, rfl⟩
  have k0 : DataW.trod enc Try.prog W base spare held n 3 (([c0, c1, c2, c3, c4].drop 0).take (Try.prog.cellsOf 3)) = some y0 := hfs 0 _ rfl
  rw [c_int] at k0
  change DataW.trod enc Try.prog W base spare held n 3 [c0] = some y0 at k0
  have k1 : DataW.trod enc Try.prog W base spare held n 3 (([c0, c1, c2, c3, c4].drop 1).take (Try.prog.cellsOf 3)) = some y1 := hfs 1 _ rfl
  rw [c_int] at k1
  change DataW.trod enc Try.prog W base spare held n 3 [c1] = some y1 at k1
  have k2 : DataW.trod enc Try.prog W base spare held n 3 (([c0, c1, c2, c3, c4].drop 2).take (Try.prog.cellsOf 3)) = some y2 := hfs 2 _ rfl
  rw [c_int] at k2
  change DataW.trod enc Try.prog W base spare held n 3 [c2] = some y2 at k2
  have k3 : DataW.trod enc Try.prog W base spare held n 28 (([c0, c1, c2, c3, c4].drop 3).take (Try.prog.cellsOf 28)) = some y3 := hfs 3 _ rfl
  rw [c_u32] at k3
  change DataW.trod enc Try.prog W base spare held n 28 [c3] = some y3 at k3
  have k4 : DataW.trod enc Try.prog W base spare held n 9 (([c0, c1, c2, c3, c4].drop 4).take (Try.prog.cellsOf 9)) = some y4 := hfs 4 _ rfl
  rw [c_string] at k4
  change DataW.trod enc Try.prog W base spare held n 9 [c4] = some y4 at k4
  obtain ⟨z0, e0, rfl, w0⟩ := DataW.trod_int Try.underlying3 k0
  obtain ⟨z1, e1, rfl, w1⟩ := DataW.trod_int Try.underlying3 k1
  obtain ⟨z2, e2, rfl, w2⟩ := DataW.trod_int Try.underlying3 k2
  obtain ⟨z3, e3, rfl, w3⟩ := DataW.trod_int Try.underlying28 k3
  obtain ⟨z4, e4, rfl, w4⟩ := DataW.trod_string Try.underlying9 k4
  simp only [List.cons.injEq, and_true] at e0 e1 e2 e3 e4
  subst e0 e1 e2 e3 e4
  obtain ⟨b3, rfl⟩ := b32_of_wf w3
  refine ⟨z0, z1, z2, b3, z4, rfl, ⟨(i64_of_wf w0).2, (i64_of_wf w1).2, (i64_of_wf w2).2, w4⟩, ?_⟩
  have := congrArg Prod.snd hx
  simpa using this
end Go.Proofs.Ytialmaapahjchaa
