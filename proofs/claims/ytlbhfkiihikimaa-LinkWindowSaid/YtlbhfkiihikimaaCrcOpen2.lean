/-
  What crc.Open, and the document's answer to it, come to.
-/
import Derived.Test.YtlbhfkiihikimaaCrcOpen
import Derived.Deep.RegionHeld3
import Derived.RegionTactic
namespace Go.Proofs.Ytlbhfkiihikimaa
open Go.RowKit Go.Shelf
attribute [local go_sem] Oper.semAt_some

theorem below_drewN {B : Nat} {a w : World} (h : Below B a w) (n : Nat) : Below B a (w.drewN n) := ⟨h.os, h.tape, h.output, h.size, h.block⟩
theorem opened_spelled (s : ByteArray) (k : Nat) (hk : s.size = k + 4) : ((s.extract k s.size).toList == (txt (CrcM.put (CrcM.sum (List.take k s.data.toList)))).toList) = CrcM.opened s.data.toList := by
  have hl : s.data.toList.length = s.size := by simp
  rw [Lib.toList_data, Lib.toList_data, txt_toList, Lib.extract_data, CrcM.opened, hl, hk, Nat.add_sub_cancel, List.take_of_length_le (by rw [List.length_drop, hl]; omega)]
  simp
end Go.Proofs.Ytlbhfkiihikimaa
