/-
  journal.Whole: walked.
-/
import Derived.Test.YtfbponiiejanfaaJRead
namespace Go.Proofs.Ytfbponiiejanfaa
open Go.RowKit Go.Shelf
attribute [local go_sem] Oper.semAt_some
set_option linter.unusedVariables false
set_option linter.unusedSimpArgs false

def wholeF (s : ByteArray) : Bool := (J.end' s.data.toList : Int) == (s.size : Int)
theorem end_le (l : List UInt8) : J.end' l ≤ l.length := by
  rw [J.end', J.sum_flat]
  obtain ⟨t, ht⟩ := J.pieces_flat l
  have h1 : (J.good l).flatten.length ≤ (J.pieces l).flatten.length := by
    have : J.pieces l = J.good l ++ (J.pieces l).dropWhile J.ok := by rw [J.good, List.takeWhile_append_dropWhile]
    rw [this, List.flatten_append, List.length_append]
    have e : J.good l = (J.pieces l).takeWhile J.ok := rfl
    omega
  have h2 := congrArg List.length ht
  rw [List.length_append] at h2
  omega
set_option maxRecDepth 100000 in
theorem jWhole (s : ByteArray) (hs : s.size ≤ 100000) (w : World) : Calls Try.prog 26 #[.string s] w fun e w' => e = .returned (.bool (wholeF s)) ∧ Below w.heap.size w w' := by
  have hw : wholeF s = ((J.end' s.data.toList : Int) == (s.size : Int)) := rfl
  rw [hw]
  have HR := Lib.hid (jRead s hs)
  generalize J.end' s.data.toList = q at *
  go_enter Try.func26, Try.ntmps26
  go_wp2_with (go_at_call 24; refine (HR.out _).mono ?_; rintro e w1 ⟨⟨v, rfl, hT⟩, hb1⟩)
  go_ret
  exact ⟨rfl, hb1⟩
end Go.Proofs.Ytfbponiiejanfaa
