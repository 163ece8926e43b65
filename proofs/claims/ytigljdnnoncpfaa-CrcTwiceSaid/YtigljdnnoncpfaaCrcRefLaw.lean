/-
  What the document's answer to crc.Open comes to; what the statements of layer 1 begin with.
-/
import Derived.Test.YtigljdnnoncpfaaCrcRef
namespace Go.Proofs.Ytigljdnnoncpfaa
open Go.RowKit Go.Shelf
attribute [local go_sem] Oper.semAt_some

theorem sum_nine : CrcM.sum [49, 50, 51, 52, 53, 54, 55, 56, 57] = 0xcbf43926#32 := by decide +kernel
theorem crcSum9 (w : World) : Calls Try.prog 14 #[.string ⟨#[49, 50, 51, 52, 53, 54, 55, 56, 57]⟩] w fun e w' => e = .returned (.int .u32 3421780262) ∧ Below w.heap.size w w' :=
  (crcSum ⟨#[49, 50, 51, 52, 53, 54, 55, 56, 57]⟩ (by show 9 ≤ maxLen; unfold maxLen; omega) w).mono fun e w' ⟨he, hb⟩ => ⟨by rw [he]; exact ret_int (congrArg (fun x : BitVec 32 => (x.toNat : Int)) sum_nine), hb⟩
theorem seal_none : CrcM.withSum [] = [0, 0, 0, 0] := by decide +kernel
theorem crcSeal0 (w : World) : Calls Try.prog 27 #[.string ⟨#[]⟩] w fun e w' => e = .returned (.string ⟨#[0, 0, 0, 0]⟩) ∧ Below w.heap.size w w' :=
  (crcSeal ⟨#[]⟩ (by show 0 ≤ 100000; omega) w).mono fun e w' ⟨he, hb⟩ => ⟨by rw [he]; exact congrArg (fun l => Ending.returned (.string (txt l))) seal_none, hb⟩
set_option maxRecDepth 100000 in
set_option maxHeartbeats 1000000 in
theorem lawShown (w : World) : Calls Try.prog 11 #[] w fun e w' => e = .returned (.bool true) ∧ Below w.heap.size w w' := by
  go_enter Try.func11, Try.ntmps11
  go_wp2_with (first | (go_at_call 21; refine (crcGetNo ⟨#[]⟩ (by decide) _).mono ?_; rintro e w' ⟨rfl, rfl⟩) | (go_at_call 14; refine (crcSum9 _).mono ?_; rintro e w1 ⟨rfl, hb1⟩) | (go_at_call 27; refine (crcSeal0 _).mono ?_; rintro e w2 ⟨rfl, hb2⟩))
  go_ret
  exact ⟨rfl, hb1.trans (hb2.mono hb1.size)⟩
/-- The first bytes of a text. -/
def cutTo (n : Nat) (s : ByteArray) : ByteArray := s.extract 0 (min s.size n)
theorem cutTo_size (n : Nat) (s : ByteArray) : (cutTo n s).size ≤ n := by rw [cutTo, ByteArray.size_extract]; omega
theorem cut_spelled (n : Nat) (s : ByteArray) : s.extract 0 (min (s.size : Int) (n : Int)).toNat = cutTo n s := by
  rw [cutTo, show (min (s.size : Int) (n : Int)).toNat = min s.size n from by omega]
set_option maxRecDepth 100000 in
theorem lawCut (s : ByteArray) (hs : s.size ≤ maxLen) (w : World) : Calls Try.prog 15 #[.string s] w fun e w' => e = .returned (.string (cutTo 3000 s)) ∧ w = w' := by
  unfold maxLen at hs
  go_enter Try.func15, Try.ntmps15
  go_wp2
  go_ret
  exact ⟨by rw [← cut_spelled]; rfl, rfl⟩
end Go.Proofs.Ytigljdnnoncpfaa
