/-
  The statements of layer 1, walked: sums, parts, sealing, what is sealed is opened.
-/
import Derived.Test.YtlbhfkiihikimaaCrcRefLaw
namespace Go.Proofs.Ytlbhfkiihikimaa
open Go.RowKit Go.Shelf
attribute [local go_sem] Oper.semAt_some

theorem u32_of_wf {n : Int} (h : (Lit.int .u32 n).wf = true) : ∃ x : BitVec 32, n = (x.toNat : Int) := by
  simp [Lit.wf, IntKind.min, IntKind.max, IntKind.signed, IntKind.bits] at h
  exact nat_bv n (by omega) (by omega)
theorem u8_of_wf {n : Int} (h : (Lit.int .u8 n).wf = true) : ∃ x : UInt8, n = (x.toNat : Int) := by
  simp [Lit.wf, IntKind.min, IntKind.max, IntKind.signed, IntKind.bits] at h
  exact ⟨UInt8.ofNat n.toNat, by rw [UInt8.toNat_ofNat']; omega⟩
theorem append_toList (s t : ByteArray) : (s ++ t).data.toList = s.data.toList ++ t.data.toList := by simp
/-- What Get and Open answer, part by part. -/
def getN (s : ByteArray) : Int := if s.size = 4 then ((CrcM.get s.data.toList).toNat : Int) else 0
def getE (s : ByteArray) : Int := if s.size = 4 then 0 else 2
def openB (s : ByteArray) : Bool := decide (4 ≤ s.size) && CrcM.opened s.data.toList
def openT (s : ByteArray) : ByteArray := if openB s = true then s.extract 0 (s.size - 4) else ⟨#[]⟩
end Go.Proofs.Ytlbhfkiihikimaa
