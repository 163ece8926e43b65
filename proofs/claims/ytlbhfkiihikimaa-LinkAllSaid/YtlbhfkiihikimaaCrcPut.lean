/-
  What the functions of package crc, and of the document's answers to it, come to: sums, numbers as bytes, sealing, opening.
-/
import Derived.Test.YtlbhfkiihikimaaCrcWalks
import Derived.Test.YtlbhfkiihikimaaShelfClone
import Derived.Laws.IdiomStrings
namespace Go.Proofs.Ytlbhfkiihikimaa
open Go.RowKit Go.Shelf
attribute [local go_sem] Oper.semAt_some

/-- A text of bytes. -/
def txt (l : List UInt8) : ByteArray := ⟨l.toArray⟩
theorem txt_data (s : ByteArray) : txt s.data.toList = s := by simp [txt]
theorem txt_toList (l : List UInt8) : (txt l).data.toList = l := by simp [txt]

theorem not_spelled (x : BitVec 32) : ((4294967295 - x.toNat : Nat) : Int) = ((~~~ x).toNat : Int) := by rw [BitVec.toNat_not]
/-- Cells that hold bytes. -/
def Holds (w : World) (b o : Nat) (l : List UInt8) : Prop := ∀ j (hj : j < l.length), w.cell? ⟨b, o + j, none⟩ = some (.int .u8 (l[j].toNat : Int))
theorem add_at (b o j : Nat) : (Addr.add ⟨b, o, none⟩ j) = ⟨b, o + j, none⟩ := by
  simp only [Addr.add]
  split <;> simp_all
theorem run_text (w : World) (b o cap : Nat) (l : List UInt8) (h : Holds w b o l) :
    (convert 35 9 (.slice (some ⟨b, o, none⟩) l.length cap)).run Try.prog w = .ok (.string (txt l)) w :=
  run_convert_bytes_back w 35 9 5 ⟨b, o, none⟩ cap l Try.underlying35 Try.underlying5 Try.underlying9 (fun j hj => by rw [add_at]; exact h j hj)
theorem byte_at (n j : Nat) : ((UInt8.ofNat (n / 256 ^ j)).toNat : Int) = ((n : Int) / ((256 ^ j : Nat) : Int)) % 256 := by
  rw [UInt8.toNat_ofNat']; omega
/-- The four bytes of a number, as the walk lays them. -/
theorem holds_put (w : World) (n : BitVec 32) :
    Holds (w.alloc (.cells #[.int .u8 ((n.toNat : Int) % 256), .int .u8 ((n.toNat : Int) / 256 % 256), .int .u8 ((n.toNat : Int) / 65536 % 256), .int .u8 ((n.toNat : Int) / 16777216)] 5)) w.heap.size 0 (CrcM.put n) := by
  intro j hj
  have hn := n.isLt
  rw [CrcM.put_length] at hj
  have : j = 0 ∨ j = 1 ∨ j = 2 ∨ j = 3 := by omega
  rcases this with rfl | rfl | rfl | rfl <;> simp [CrcM.put, CrcM.bytesN] <;> omega
end Go.Proofs.Ytlbhfkiihikimaa
