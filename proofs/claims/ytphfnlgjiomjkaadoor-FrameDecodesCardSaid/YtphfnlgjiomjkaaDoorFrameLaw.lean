/-
  What the laws of layer 2 share: shown, cut.
-/
import Derived.Test.YtphfnlgjiomjkaaDoorFrameTurn
import Derived.Test.YtphfnlgjiomjkaaDoorFrameEncode
import Derived.Test.YtphfnlgjiomjkaaDoorFrameEq
namespace Go.Proofs.YtphfnlgjiomjkaaDoor
open Go.RowKit Go.Shelf
attribute [local go_sem] Oper.semAt_some
set_option linter.unusedVariables false
set_option linter.unusedSimpArgs false

/-- The frame whose bytes are shown. -/
def F0 : Fr := ⟨1, 1, 2, 3, 0, 0, 0, 0, ⟨#[]⟩⟩
def S0 : ByteArray := txt (CrcM.withSum F0.body)
theorem F0_right : F0.Right := by decide +kernel
theorem S0_size : S0.size = 24 := by decide +kernel
theorem S0_head : S0.extract 0 4 = ⟨#[72, 1, 1, 35]⟩ := by decide +kernel
theorem S0_dec : decF S0 = (F0, 0) := by decide +kernel
theorem nil_dec : decF ⟨#[]⟩ = (Fr.nil, 21) := by decide +kernel
theorem shownEncode (w : World) : Calls Tryd.prog 8 #[F0.val] w fun e w' => e = .returned (.tuple #[.string S0, .int .i64 0]) ∧ Below w.heap.size w w' := frameEncodeYes F0 F0_right w
theorem shownDecode (a0 a1 : Addr) (w : World) (L : Errs w a0 a1) : Calls Tryd.prog 6 #[.string S0] w fun e w' => e = .returned (.tuple #[F0.val, .int .i64 0]) ∧ Below w.heap.size w w' := by
  have h := frameDecode S0 (by rw [S0_size]; omega) a0 a1 w L
  rw [S0_dec] at h
  exact h
theorem shownNone (a0 a1 : Addr) (w : World) (L : Errs w a0 a1) : Calls Tryd.prog 6 #[.string ⟨#[]⟩] w fun e w' => e = .returned (.tuple #[Fr.nil.val, .int .i64 21]) ∧ Below w.heap.size w w' := by
  have h := frameDecode ⟨#[]⟩ (by show 0 ≤ 100000; omega) a0 a1 w L
  rw [nil_dec] at h
  exact h
set_option maxRecDepth 100000 in
set_option maxHeartbeats 4000000 in
theorem lawShown (a0 a1 : Addr) (w : World) (L : Errs w a0 a1) : Calls Tryd.prog 4 #[] w fun e w' => e = .returned (.bool true) ∧ Below w.heap.size w w' := by
  have hg : ∀ (x y : Operand) (W : World), (eqGuard .eql 26 x y (.agg #[.int .i64 1, .int .i64 1, .int .i64 2, .int .i64 3, .int .u32 0, .int .u32 0, .int .u32 0, .int .u32 0, .string ⟨#[]⟩]) (.agg #[.int .i64 1, .int .i64 1, .int .i64 2, .int .i64 3, .int .u32 0, .int .u32 0, .int .u32 0, .int .u32 0, .string ⟨#[]⟩])).run Tryd.prog W = .ok () W := fun x y W => frameGuard F0 F0 x y W
  have hq : ∀ W : World, (binOp .eql 26 (.agg #[.int .i64 1, .int .i64 1, .int .i64 2, .int .i64 3, .int .u32 0, .int .u32 0, .int .u32 0, .int .u32 0, .string ⟨#[]⟩]) (.agg #[.int .i64 1, .int .i64 1, .int .i64 2, .int .i64 3, .int .u32 0, .int .u32 0, .int .u32 0, .int .u32 0, .string ⟨#[]⟩])).run Tryd.prog W = .ok (.bool true) W := fun W => frameEql F0 F0 W
  have e1 : ∀ W, Calls Tryd.prog 8 #[.agg #[.int .i64 1, .int .i64 1, .int .i64 2, .int .i64 3, .int .u32 0, .int .u32 0, .int .u32 0, .int .u32 0, .string ⟨#[]⟩]] W fun e w' => e = .returned (.tuple #[.string S0, .int .i64 0]) ∧ Below W.heap.size W w' := shownEncode
  have d1 : ∀ W, Errs W a0 a1 → Calls Tryd.prog 6 #[.string S0] W fun e w' => e = .returned (.tuple #[.agg #[.int .i64 1, .int .i64 1, .int .i64 2, .int .i64 3, .int .u32 0, .int .u32 0, .int .u32 0, .int .u32 0, .string ⟨#[]⟩], .int .i64 0]) ∧ Below W.heap.size W w' := fun W => shownDecode a0 a1 W
  have d2 : ∀ W, Errs W a0 a1 → Calls Tryd.prog 6 #[.string ⟨#[]⟩] W fun e w' => e = .returned (.tuple #[.agg #[.int .i64 0, .int .i64 0, .int .i64 0, .int .i64 0, .int .u32 0, .int .u32 0, .int .u32 0, .int .u32 0, .string ⟨#[]⟩], .int .i64 21]) ∧ Below W.heap.size W w' := fun W => shownNone a0 a1 W
  have hz := S0_size
  have hh := S0_head
  generalize S0 = S at *
  have hi : (S.size : Int) = 24 := by omega
  go_enter Tryd.func4, Tryd.ntmps4
  go_wp2_with (first
    | (go_at_call 8; refine (e1 _).mono ?_; rintro e w1 ⟨rfl, hb1⟩; have L1 := L.below hb1 (Nat.le_refl _))
    | (go_at_call 6; have L1' := L1; refine (d1 _ L1').mono ?_; clear L1 L1'; rintro e w2 ⟨rfl, hb2⟩; replace hb2 := hb1.trans (hb2.mono hb1.size); have hb3 := hb2.alloc hb2.size (.cells #[.int .i64 1, .int .i64 1, .int .i64 2, .int .i64 3, .int .u32 0, .int .u32 0, .int .u32 0, .int .u32 0, .string ⟨#[]⟩] 26); have L2 := L.below hb3 (Nat.le_refl _))
    | (go_at_call 6; refine (d2 _ L2).mono ?_; rintro e w3 ⟨rfl, hb4⟩; have rF := (Row.new w2 #[.int .i64 1, .int .i64 1, .int .i64 2, .int .i64 3, .int .u32 0, .int .u32 0, .int .u32 0, .int .u32 0, .string ⟨#[]⟩] 26).below hb4 (by simp); have q0 := fun o => (rF.alloc o).cell 0 _ rfl; have q1 := fun o => (rF.alloc o).cell 1 _ rfl; have q2 := fun o => (rF.alloc o).cell 2 _ rfl; have q3 := fun o => (rF.alloc o).cell 3 _ rfl; have q4 := fun o => (rF.alloc o).cell 4 _ rfl; have q5 := fun o => (rF.alloc o).cell 5 _ rfl; have q6 := fun o => (rF.alloc o).cell 6 _ rfl; have q7 := fun o => (rF.alloc o).cell 7 _ rfl; have q8 := fun o => (rF.alloc o).cell 8 _ rfl))
  go_ret
  exact ⟨rfl, (hb3.trans (hb4.mono hb3.size)).alloc (by have := hb3.size; have := hb4.size; omega) _⟩
/- LAWS -/
/-- A frame of the first so many bytes of data. -/
def Fr.cut (f : Fr) : Fr := { f with data := f.data.extract 0 (min f.data.size 4200) }
theorem Fr.cut_size (f : Fr) : f.cut.data.size ≤ 4200 := by rw [Fr.cut, ByteArray.size_extract]; omega
theorem cut_spelled (s : ByteArray) : s.extract 0 (min (s.size : Int) 4200).toNat = s.extract 0 (min s.size 4200) := by
  rw [show (min (s.size : Int) 4200).toNat = min s.size 4200 from by omega]
end Go.Proofs.YtphfnlgjiomjkaaDoor
