/-
  Layer 4's data: walked.
-/
import Derived.Test.YtfbponiiejanfaaStActs
import Derived.Test.YtfbponiiejanfaaStTwo
import Derived.Test.YtfbponiiejanfaaJZeros
namespace Go.Proofs.Ytfbponiiejanfaa
open Go.RowKit Go.Shelf
attribute [local go_sem] Oper.semAt_some
set_option linter.unusedVariables false
set_option linter.unusedSimpArgs false

/-- An act's text. -/
def dataF (x : Int × ByteArray × Int) : ByteArray := if x.2.2 = 99 then zeros 5000 else hun x.2.1
theorem dataF_small (x : Int × ByteArray × Int) : (dataF x).size ≤ 100 ∨ ((dataF x).size = 5000) := by
  by_cases h : x.2.2 = 99
  · right; rw [dataF, if_pos h, zeros_size]
  · left; rw [dataF, if_neg h]; exact hun_size _
theorem zeros_txt : txt (List.replicate 5000 0) = zeros 5000 := rfl
set_option maxRecDepth 100000 in
theorem lawData (x : Int) (s : ByteArray) (n : Int) (w : World) (hs : s.size ≤ maxLen) : Calls Try.prog 15 #[.agg #[.int .i64 x, .string s, .int .i64 n]] w fun e w' => e = .returned (.string (dataF (x, s, n))) ∧ Below w.heap.size w w' := by
  by_cases h : n = 99
  · subst h
    have hD : dataF (x, s, 99) = zeros 5000 := by rw [dataF, if_pos rfl]
    rw [hD]
    have hz := zeros_txt
    have hlen : (List.replicate 5000 (0 : UInt8)).length = 5000 := List.length_replicate
    generalize zeros 5000 = Z at *
    obtain ⟨i0, hi, hz0, hz1, hz2⟩ := info_parts infoByte
    have hb0 : Below w.heap.size w (w.alloc (.cells #[.int .i64 x, .string s, .int .i64 99] 38)) := (Below.refl _ w).alloc (Nat.le_refl _) _
    go_enter Try.func15, Try.ntmps15
    go_wp2_with (at_make; refine wpList_make_full _ rfl _ _ _ rfl w.heap.size 5 i0 (.int .u8 0) 1 Try.underlying52 hi hz0 hz1 .i64 .i64 _ _ 5000 rfl rfl rfl rfl (by rw [hz2]; omega) (by unfold maxLen; omega) hb0.size ?_; intro w2 hown hgrow; have hr := run_text w2 _ 0 5000 (List.replicate 5000 0) (holds_zeros hown); rw [hlen, hz] at hr; simp only [World.size_alloc] at hr; have hb := hb0.grown hgrow hb0.size (by simp); clear hown hgrow)
    go_ret
    exact ⟨rfl, hb⟩
  · have hD : dataF (x, s, n) = s.extract 0 (min (s.size : Int) 100).toNat := by rw [dataF, if_neg h]; rfl
    rw [hD]
    have hm1 : min (s.size : Int) 100 ≤ (s.size : Int) := by omega
    have hm0 : (0 : Int) ≤ min (s.size : Int) 100 := by omega
    go_enter Try.func15, Try.ntmps15
    go_wp2
    go_ret
    exact ⟨rfl, (Below.refl _ w).alloc (Nat.le_refl _) _⟩
end Go.Proofs.Ytfbponiiejanfaa
