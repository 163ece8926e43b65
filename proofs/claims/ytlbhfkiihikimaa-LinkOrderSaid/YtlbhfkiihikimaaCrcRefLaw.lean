/-
  What the document's answer to crc.Open comes to; what the statements of layer 1 begin with.
-/
import Derived.Test.YtlbhfkiihikimaaCrcRef
namespace Go.Proofs.Ytlbhfkiihikimaa
open Go.RowKit Go.Shelf
attribute [local go_sem] Oper.semAt_some

theorem sum_nine : CrcM.sum [49, 50, 51, 52, 53, 54, 55, 56, 57] = 0xcbf43926#32 := by decide +kernel
theorem seal_none : CrcM.withSum [] = [0, 0, 0, 0] := by decide +kernel
/-- The first bytes of a text. -/
def cutTo (n : Nat) (s : ByteArray) : ByteArray := s.extract 0 (min s.size n)
theorem cutTo_size (n : Nat) (s : ByteArray) : (cutTo n s).size ≤ n := by rw [cutTo, ByteArray.size_extract]; omega
theorem cut_spelled (n : Nat) (s : ByteArray) : s.extract 0 (min (s.size : Int) (n : Int)).toNat = cutTo n s := by
  rw [cutTo, show (min (s.size : Int) (n : Int)).toNat = min s.size n from by omega]
end Go.Proofs.Ytlbhfkiihikimaa
