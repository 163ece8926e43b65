/-
  A struct that was handed in (api.Vote): opened.
-/
import Derived.Test.YtigameebcicgpaaArgs
import Derived.Deep.Slices
import Derived.ProofKit
import Derived.OpenShut
import Derived.ShutString
import Derived.ChangeOld
import Derived.Below
import Derived.ChangeArms
namespace Go.Proofs.Ytigameebcicgpaa
open Go.ChangeShapes Go.WideShapes Go.ChangeAt Go.RowKit
set_option linter.unusedVariables false
set_option linter.unusedSimpArgs false
set_option maxRecDepth 100000 in
theorem open_vote8 {H : Type} {enc : TypeId × Value → H} {W : World} {r : Reach} {b0 base : Nat} {spare : Nat → Bool} {held : Bool} {v : Value} {d : DataW H} {p : List MemPlace} (hv : Value.okWide Try.prog W r b0 24 v) (h : DataW.Trod enc Try.prog W base spare held 24 v d p) :
    ∃ (x0 : Nat) (x1 : Nat) (x2 : ByteArray), v = .agg #[.int .u64 (x0 : Int), .int .u64 (x1 : Int), .string x2] ∧ (x0 < 2 ^ 64 ∧ x1 < 2 ^ 64 ∧ x2.size ≤ maxLen) ∧ p = [] := by
  obtain ⟨cs, rfl, hsz⟩ := okWide_struct Try.underlying24 hv
  have hC : Try.prog.cellsOf 24 = 3 := by kernel_rfl
  have c_string : Try.prog.cellsOf 9 = 1 := by kernel_rfl
  have c_u64 : Try.prog.cellsOf 22 = 1 := by kernel_rfl
  rw [hC] at hsz
  obtain ⟨l⟩ := cs
  obtain ⟨c0, c1, c2, rfl⟩ : ∃ c0 c1 c2, l = [c0, c1, c2] := by
    match l, hsz with
    | [c0, c1, c2], _ => exact ⟨c0, c1, c2, rfl⟩
  obtain ⟨fuel, hf⟩ := h
  obtain ⟨xs, n, _, hx, hl, hlen, hfs⟩ := DataW.trod_struct Try.underlying24 hf
  obtain ⟨y0, y1, y2, rfl⟩ : ∃ y0 y1 y2, xs = [y0, y1, y2] := by
    match xs, hlen with
    | [y0, y1, y2], _ => exact ⟨y0, y1, y2, rfl⟩
  have k0 : DataW.trod enc Try.prog W base spare held n 22 (([c0, c1, c2].drop 0).take (Try.prog.cellsOf 22)) = some y0 := hfs 0 _ rfl
  rw [c_u64] at k0
  change DataW.trod enc Try.prog W base spare held n 22 [c0] = some y0 at k0
  have k1 : DataW.trod enc Try.prog W base spare held n 22 (([c0, c1, c2].drop 1).take (Try.prog.cellsOf 22)) = some y1 := hfs 1 _ rfl
  rw [c_u64] at k1
  change DataW.trod enc Try.prog W base spare held n 22 [c1] = some y1 at k1
  have k2 : DataW.trod enc Try.prog W base spare held n 9 (([c0, c1, c2].drop 2).take (Try.prog.cellsOf 9)) = some y2 := hfs 2 _ rfl
  rw [c_string] at k2
  change DataW.trod enc Try.prog W base spare held n 9 [c2] = some y2 at k2
  obtain ⟨z0, e0, rfl, w0⟩ := DataW.trod_int Try.underlying22 k0
  obtain ⟨z1, e1, rfl, w1⟩ := DataW.trod_int Try.underlying22 k1
  obtain ⟨z2, e2, rfl, w2⟩ := DataW.trod_string Try.underlying9 k2
  simp only [List.cons.injEq, and_true] at e0 e1 e2
  subst e0 e1 e2
  obtain ⟨b0, rfl, u0⟩ := u64_of_wf w0
  obtain ⟨b1, rfl, u1⟩ := u64_of_wf w1
  refine ⟨b0, b1, z2, rfl, ⟨u0, u1, w2⟩, ?_⟩
  have := congrArg Prod.snd hx
  simpa using this
end Go.Proofs.Ytigameebcicgpaa
