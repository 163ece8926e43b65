/-
  A frame handed in: opened. What the row's list gives a walk.
-/
import Derived.Test.YtphfnlgjiomjkaaDoorFrameLaw
import Derived.Test.YtphfnlgjiomjkaaDoorRows
import Derived.ProofKit
import Derived.OpenShut
import Derived.Carry
import Derived.Stop.LaidTwo
import Derived.LaidMore
import Derived.Lay
import Derived.RowKitTokens
namespace Go.Proofs.YtphfnlgjiomjkaaDoor
open Go.ChangeShapes Go.WideShapes Go.ChangeAt Go.RowKit
set_option linter.unusedVariables false

theorem frame_of_ints {a b c d : Int} {l s k h : Int} {x : ByteArray} (w4 : (Lit.int .u32 l).wf = true) (w5 : (Lit.int .u32 s).wf = true) (w6 : (Lit.int .u32 k).wf = true) (w7 : (Lit.int .u32 h).wf = true) :
    ∃ f : Fr, (.agg #[.int .i64 a, .int .i64 b, .int .i64 c, .int .i64 d, .int .u32 l, .int .u32 s, .int .u32 k, .int .u32 h, .string x] : Value) = f.val ∧ f.data = x := by
  have u : ∀ {n : Int}, (Lit.int .u32 n).wf = true → ∃ x : BitVec 32, n = (x.toNat : Int) := by
    intro n hn
    simp [Lit.wf, IntKind.min, IntKind.max, IntKind.signed, IntKind.bits] at hn
    exact ⟨BitVec.ofNat 32 n.toNat, by rw [BitVec.toNat_ofNat, Nat.mod_eq_of_lt (by omega)]; omega⟩
  obtain ⟨l', rfl⟩ := u w4
  obtain ⟨s', rfl⟩ := u w5
  obtain ⟨k', rfl⟩ := u w6
  obtain ⟨h', rfl⟩ := u w7
  exact ⟨⟨a, b, c, d, l', s', k', h', x⟩, rfl, rfl⟩
set_option maxRecDepth 100000 in
theorem open_frame {H : Type} {enc : TypeId × Value → H} {W : World} {r : Reach} {b0 base : Nat} {spare : Nat → Bool} {held : Bool} {v : Value} {d : DataW H} {p : List MemPlace} (hv : Value.okWide Tryd.prog W r b0 26 v) (h : DataW.Trod enc Tryd.prog W base spare held 26 v d p) :
    ∃ f : Fr, v = f.val ∧ f.data.size ≤ maxLen ∧ p = [] := by
  obtain ⟨cs, rfl, hsz⟩ := okWide_struct Tryd.underlying26 hv
  have hC : Tryd.prog.cellsOf 26 = 9 := by kernel_rfl
  have cI : Tryd.prog.cellsOf 3 = 1 := by kernel_rfl
  have cU : Tryd.prog.cellsOf 24 = 1 := by kernel_rfl
  have cS : Tryd.prog.cellsOf 9 = 1 := by kernel_rfl
  rw [hC] at hsz
  obtain ⟨l⟩ := cs
  obtain ⟨c0, c1, c2, c3, c4, c5, c6, c7, c8, rfl⟩ : ∃ c0 c1 c2 c3 c4 c5 c6 c7 c8, l = [c0, c1, c2, c3, c4, c5, c6, c7, c8] := by
    match l, hsz with
    | [c0, c1, c2, c3, c4, c5, c6, c7, c8], _ => exact ⟨c0, c1, c2, c3, c4, c5, c6, c7, c8, rfl⟩
  obtain ⟨fuel, hf⟩ := h
  obtain ⟨xs, n, _, hx, hl, hlen, hfs⟩ := DataW.trod_struct Tryd.underlying26 hf
  obtain ⟨y0, y1, y2, y3, y4, y5, y6, y7, y8, rfl⟩ : ∃ y0 y1 y2 y3 y4 y5 y6 y7 y8, xs = [y0, y1, y2, y3, y4, y5, y6, y7, y8] := by
    match xs, hlen with
    | [y0, y1, y2, y3, y4, y5, y6, y7, y8], _ => exact ⟨y0, y1, y2, y3, y4, y5, y6, y7, y8, rfl⟩
  have k0 : DataW.trod enc Tryd.prog W base spare held n 3 (([c0, c1, c2, c3, c4, c5, c6, c7, c8].drop 0).take (Tryd.prog.cellsOf 3)) = some y0 := hfs 0 _ rfl
  rw [cI] at k0
  change DataW.trod enc Tryd.prog W base spare held n 3 [c0] = some y0 at k0
  have k1 : DataW.trod enc Tryd.prog W base spare held n 3 (([c0, c1, c2, c3, c4, c5, c6, c7, c8].drop 1).take (Tryd.prog.cellsOf 3)) = some y1 := hfs 1 _ rfl
  rw [cI] at k1
  change DataW.trod enc Tryd.prog W base spare held n 3 [c1] = some y1 at k1
  have k2 : DataW.trod enc Tryd.prog W base spare held n 3 (([c0, c1, c2, c3, c4, c5, c6, c7, c8].drop 2).take (Tryd.prog.cellsOf 3)) = some y2 := hfs 2 _ rfl
  rw [cI] at k2
  change DataW.trod enc Tryd.prog W base spare held n 3 [c2] = some y2 at k2
  have k3 : DataW.trod enc Tryd.prog W base spare held n 3 (([c0, c1, c2, c3, c4, c5, c6, c7, c8].drop 3).take (Tryd.prog.cellsOf 3)) = some y3 := hfs 3 _ rfl
  rw [cI] at k3
  change DataW.trod enc Tryd.prog W base spare held n 3 [c3] = some y3 at k3
  have k4 : DataW.trod enc Tryd.prog W base spare held n 24 (([c0, c1, c2, c3, c4, c5, c6, c7, c8].drop 4).take (Tryd.prog.cellsOf 24)) = some y4 := hfs 4 _ rfl
  rw [cU] at k4
  change DataW.trod enc Tryd.prog W base spare held n 24 [c4] = some y4 at k4
  have k5 : DataW.trod enc Tryd.prog W base spare held n 24 (([c0, c1, c2, c3, c4, c5, c6, c7, c8].drop 5).take (Tryd.prog.cellsOf 24)) = some y5 := hfs 5 _ rfl
  rw [cU] at k5
  change DataW.trod enc Tryd.prog W base spare held n 24 [c5] = some y5 at k5
  have k6 : DataW.trod enc Tryd.prog W base spare held n 24 (([c0, c1, c2, c3, c4, c5, c6, c7, c8].drop 6).take (Tryd.prog.cellsOf 24)) = some y6 := hfs 6 _ rfl
  rw [cU] at k6
  change DataW.trod enc Tryd.prog W base spare held n 24 [c6] = some y6 at k6
  have k7 : DataW.trod enc Tryd.prog W base spare held n 24 (([c0, c1, c2, c3, c4, c5, c6, c7, c8].drop 7).take (Tryd.prog.cellsOf 24)) = some y7 := hfs 7 _ rfl
  rw [cU] at k7
  change DataW.trod enc Tryd.prog W base spare held n 24 [c7] = some y7 at k7
  have k8 : DataW.trod enc Tryd.prog W base spare held n 9 (([c0, c1, c2, c3, c4, c5, c6, c7, c8].drop 8).take (Tryd.prog.cellsOf 9)) = some y8 := hfs 8 _ rfl
  rw [cS] at k8
  change DataW.trod enc Tryd.prog W base spare held n 9 [c8] = some y8 at k8
  obtain ⟨a0, e0, rfl, w0⟩ := DataW.trod_int Tryd.underlying3 k0
  obtain ⟨a1, e1, rfl, w1⟩ := DataW.trod_int Tryd.underlying3 k1
  obtain ⟨a2, e2, rfl, w2⟩ := DataW.trod_int Tryd.underlying3 k2
  obtain ⟨a3, e3, rfl, w3⟩ := DataW.trod_int Tryd.underlying3 k3
  obtain ⟨a4, e4, rfl, w4⟩ := DataW.trod_int Tryd.underlying24 k4
  obtain ⟨a5, e5, rfl, w5⟩ := DataW.trod_int Tryd.underlying24 k5
  obtain ⟨a6, e6, rfl, w6⟩ := DataW.trod_int Tryd.underlying24 k6
  obtain ⟨a7, e7, rfl, w7⟩ := DataW.trod_int Tryd.underlying24 k7
  obtain ⟨x, e8, rfl, wx⟩ := DataW.trod_string Tryd.underlying9 k8
  simp only [List.cons.injEq, and_true] at e0 e1 e2 e3 e4 e5 e6 e7 e8
  subst e0 e1 e2 e3 e4 e5 e6 e7 e8
  obtain ⟨f, hf1, hf2⟩ := frame_of_ints (a := a0) (b := a1) (c := a2) (d := a3) (x := x) w4 w5 w6 w7
  refine ⟨f, hf1, by rw [hf2]; exact wx, ?_⟩
  have := congrArg Prod.snd hx
  simpa using this
theorem star_err : "*" ++ "errors.errorString" = "*errors.errorString" := by decide
theorem row_err (u : TypeId) (h : Tryd.prog.typeName? 3 u = some "*errors.errorString") : u = 107 :=
  typeName_ptr_named (nm := "errors.errorString") (by rw [star_err]; kernel_rfl) (by kernel_rfl) (by decide) u (by rw [star_err]; exact h)
theorem g_old : Tryd.prog.globalNamed "rostrum/frame.errOld" = some 0 := by kernel_rfl
theorem g_frame : Tryd.prog.globalNamed "rostrum/frame.errFrame" = some 1 := by kernel_rfl
theorem g_old_type : (Tryd.prog.globals[0]?).map (·.type) = some 38 := by kernel_rfl
theorem g_frame_type : (Tryd.prog.globals[1]?).map (·.type) = some 38 := by kernel_rfl
abbrev laidErrs : List (String × DataW Unit) := [("rostrum/frame.errOld", Rows.laid_rostrum_frame_errOld), ("rostrum/frame.errFrame", Rows.laid_rostrum_frame_errFrame)]
theorem errs_of_laid {W : World} (h : laidMetH Tryd.prog laidErrs W) : ∃ a0 a1, Errs W a0 a1 := by
  rw [MakeChecks.laidMetH_plain _ _ _ (by kernel_rfl)] at h
  unfold laidErrs Rows.laid_rostrum_frame_errOld Rows.laid_rostrum_frame_errFrame at h
  obtain ⟨a0, a1, s0, s1, c0, c1, t0, t1, hv0, hv1, hc0, hs0, hz0, hc1, hs1, hz1, hne, hb0, hb1⟩ := laid_sentinels2 h g_old g_old_type g_frame g_frame_type Tryd.underlying38 row_err Tryd.underlying107 Tryd.underlying130 rfl rfl Tryd.underlying9 (by kernel_rfl) (by kernel_rfl)
  exact ⟨a0, a1, by simpa using World.var?_cell g_old hv0 0, by simpa using World.var?_cell g_frame hv1 0, hne, ⟨c0, t0, hb0⟩, ⟨c1, t1, hb1⟩⟩
end Go.Proofs.YtphfnlgjiomjkaaDoor
