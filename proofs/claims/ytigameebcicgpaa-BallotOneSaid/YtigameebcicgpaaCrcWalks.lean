/-
  What the functions of package crc, and of the document's answers to it, come to: steps, sums.
-/
import Derived.Test.YtigameebcicgpaaRows
import Derived.Test.YtigameebcicgpaaCrcWords
import Derived.Test.YtigameebcicgpaaRange
import Derived.RangeFuncCalls
import Derived.Shelf.Abstract
import Derived.Shelf.RegionOpen
import Derived.WalkKit
import Derived.OwnWalkIn
import Derived.TacticsInMore
import Derived.LoopNIn
import Derived.LoopIn
namespace Go.Proofs.Ytigameebcicgpaa
open Go.RowKit Go.Shelf
attribute [local go_sem] Oper.semAt_some

/-- A text's bytes, each with its place. -/
def bytesAt (s : ByteArray) : List (Nat × UInt8) := s.data.toList.zipIdx.map fun p => (p.2, p.1)
theorem bytesAt_length (s : ByteArray) : (bytesAt s).length = s.size := by simp [bytesAt]
theorem bytesAt_get (s : ByteArray) (k : Nat) (x : Nat × UInt8) (h : (bytesAt s)[k]? = some x) : ∃ h : k < s.size, x = (k, s[k]) := by
  simp only [bytesAt, List.getElem?_map, List.getElem?_zipIdx, Option.map_map, Option.map_eq_some_iff] at h
  obtain ⟨b, hb, rfl⟩ := h
  obtain ⟨hk, rfl⟩ := List.getElem?_eq_some_iff.1 hb
  exact ⟨by simpa using hk, by simp; rfl⟩
theorem bytesAt_at (s : ByteArray) (k : Nat) (h : k < s.size) : (bytesAt s)[k]? = some (k, s[k]) := by
  simp only [bytesAt, List.getElem?_map, List.getElem?_zipIdx]
  rw [List.getElem?_eq_getElem (by simpa using h)]
  simp; rfl
abbrev encAt (x : Nat × UInt8) : Array Value := #[.int .i64 (x.1 : Int), .int .u8 (x.2.toNat : Int)]

theorem take_snoc (s : ByteArray) (k : Nat) (h : k < s.size) : s.data.toList.take (k + 1) = s.data.toList.take k ++ [s[k]] := by
  rw [List.take_succ_eq_append_getElem (by simpa using h)]; rfl
theorem not_max (x : BitVec 32) : bits .xor .u32 IntKind.u32.max (x.toNat : Int) = ((~~~ x).toNat : Int) := by
  have h : bits .xor .u32 IntKind.u32.max (x.toNat : Int) = ((0xffffffff#32 ^^^ x).toNat : Int) := bits_xor 0xffffffff#32 x
  rw [h, BitVec.xor_comm]
  congr 2
  exact CrcM.xor_ones x

end Go.Proofs.Ytigameebcicgpaa
