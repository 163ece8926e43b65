/-
  The statements of layer 1 that speak of changes, walked: a change made twice; another bit, another sum; what is sealed and then changed is not opened.
-/
import Derived.Test.YtlbhfkiihikimaaCrcChange
import Derived.Test.YtlbhfkiihikimaaCrcLaws
namespace Go.Proofs.Ytlbhfkiihikimaa
open Go.RowKit Go.Shelf
attribute [local go_sem] Oper.semAt_some

/-- A bit that there is. -/
def inBits (s : ByteArray) (bit : Int) : Prop := 0 ≤ bit ∧ bit < 8 * (s.size : Int)
theorem chg_size (s : ByteArray) (B m : Nat) : (txt (CrcM.chg s.data.toList B m)).size = s.size := by rw [txt_size, CrcM.chg_length]; simp
theorem chg_back (s : ByteArray) (B m : Nat) : txt (CrcM.chg (txt (CrcM.chg s.data.toList B m)).data.toList B m) = s := by rw [txt_toList, CrcM.chg_chg, txt_data]

theorem sum_ne (s : ByteArray) (B : Nat) (h : B < 8 * s.size) : (CrcM.sum (txt (CrcM.chg s.data.toList B 1)).data.toList).toNat ≠ (CrcM.sum s.data.toList).toNat := by
  have hl : s.data.toList.length = s.size := by simp
  rw [txt_toList]
  intro e
  have e1 := BitVec.eq_of_toNat_eq e
  simp only [CrcM.sum, CrcM.more] at e1
  have e2 := congrArg (fun x : BitVec 32 => ~~~ x) e1
  simp only [BitVec.not_not] at e2
  exact CrcM.chg_ne s.data.toList B (by omega) (CrcM.chg_same _ _ _ _ (by decide) (by omega) e2)
end Go.Proofs.Ytlbhfkiihikimaa
