/-
  What the document's answer to crc.Open comes to; what the statements of layer 1 begin with.
-/
import Derived.Test.YtlbhfkiihikimaaCrcOpen2
namespace Go.Proofs.Ytlbhfkiihikimaa
open Go.RowKit Go.Shelf
attribute [local go_sem] Oper.semAt_some

theorem opened_get (s : ByteArray) (k : Nat) (hk : s.size = k + 4) (l : List UInt8) (hl : (s.extract k s.size).data.toList = l) : CrcM.opened s.data.toList = decide (CrcM.get l = CrcM.sum (s.data.toList.take k)) := by
  have hn : s.data.toList.length = s.size := by simp
  have hd : s.data.toList.drop k = l := by
    rw [← hl, Lib.extract_data, List.take_of_length_le (by rw [List.length_drop, hn]; omega)]
  have h4 : l.length = 4 := by rw [← hd, List.length_drop, hn]; omega
  rw [CrcM.opened, hn, hk, Nat.add_sub_cancel, hd]
  simp only [show (4 ≤ k + 4) from by omega, decide_true, Bool.true_and]
  rw [Bool.eq_iff_iff, beq_iff_eq, decide_eq_true_iff]
  exact ⟨fun h => by rw [h, CrcM.get_put], fun h => by rw [← h, CrcM.put_get l h4]⟩
theorem last_four (s : ByteArray) (k : Nat) (hk : s.size = k + 4) : ∃ a b c d, s.extract k s.size = ⟨#[a, b, c, d]⟩ := four _ (by rw [ByteArray.size_extract]; omega)
end Go.Proofs.Ytlbhfkiihikimaa
