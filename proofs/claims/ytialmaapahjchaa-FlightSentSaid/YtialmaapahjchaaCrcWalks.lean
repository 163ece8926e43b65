/-
  What the functions of package crc, and of the document's answers to it, come to: steps, sums.
-/
import Derived.Test.YtialmaapahjchaaRows
import Derived.Test.YtialmaapahjchaaCrcWords
import Derived.Test.YtialmaapahjchaaRange
import Derived.RangeFuncCalls
import Derived.Shelf.Abstract
import Derived.Shelf.RegionOpen
import Derived.WalkKit
import Derived.OwnWalkIn
import Derived.TacticsInMore
import Derived.LoopNIn
import Derived.LoopIn
namespace Go.Proofs.Ytialmaapahjchaa
open Go.RowKit Go.Shelf
attribute [local go_sem] Oper.semAt_some

theorem crcBytesOf (s : ByteArray) (w : World) : Calls Try.prog 39 #[.string s] w fun e w' =>
    e = .returned (.func (.func 42) #[] #[.pointer (some ⟨w.heap.size, 0, none⟩)]) ∧ w.alloc (.cells #[.string s] 9) = w' := by
  go_enter Try.func39, Try.ntmps39
  go_wp2
  go_ret
  exact ⟨rfl, rfl⟩

/-- A text's bytes, each with its place. -/
def bytesAt (s : ByteArray) : List (Nat × UInt8) := s.data.toList.zipIdx.map fun p => (p.2, p.1)
theorem bytesAt_length (s : ByteArray) : (bytesAt s).length = s.size := by simp [bytesAt]
theorem bytesAt_get (s : ByteArray) (k : Nat) (x : Nat × UInt8) (h : (bytesAt s)[k]? = some x) : ∃ h : k < s.size, x = (k, s[k]) := by
  simp only [bytesAt, List.getElem?_map, List.getElem?_zipIdx, Option.map_map, Option.map_eq_some_iff] at h
  obtain ⟨b, hb, rfl⟩ := h
  obtain ⟨hk, rfl⟩ := List.getElem?_eq_some_iff.1 hb
  exact ⟨by simpa using hk, by simp; rfl⟩
theorem bytesAt_at (s : ByteArray) (k : Nat) (h : k < s.size) : (bytesAt s)[k]? = some (k, s[k]) := by
  simp only [bytesAt, List.getElem?_map, List.getElem?_zipIdx]
  rw [List.getElem?_eq_getElem (by simpa using h)]
  simp; rfl
abbrev encAt (x : Nat × UInt8) : Array Value := #[.int .i64 (x.1 : Int), .int .u8 (x.2.toNat : Int)]

set_option maxRecDepth 100000 in
set_option maxHeartbeats 1000000 in
theorem crcBytesGoes (F : Fence) (n : Nat) (hF : F.fn 42) (hro : F.round = none) (hn : 1 ≤ n) (w : World) (B : Nat) (s : ByteArray) (hs : s.size ≤ maxLen) (hB : B < w.heap.size) (hc : w.cell? ⟨B, 0, none⟩ = some (.string s)) :
    Goes F n Try.prog 42 #[.pointer (some ⟨B, 0, none⟩)] encAt (Keeps (· = B)) (bytesAt s) w := by
  intro l J Jx W hW hJ hJx hY h0
  unfold maxLen at hs
  refine callsIn_of_wp Try.func42 rfl hF ?_ hro
  simp only [Try.ntmps42, List.size_toArray, List.length_cons, List.length_nil, Nat.reduceAdd, Nat.reduceSub, Array.replicate_succ, Array.replicate_zero, List.push_toArray, List.append_toArray, List.nil_append, List.cons_append]
  have hcW : W.cell? ⟨B, 0, none⟩ = some (.string s) := (hW.cell (p := ⟨B, 0, none⟩) hB).trans hc
  clear hc
  gi_wp2
  gi_loopw [6] (fun i wr => ∃ k : Nat, k ≤ s.size ∧ i = .int .i64 k ∧ J k wr ∧ wr.cell? ⟨B, 0, none⟩ = some (.string s))
    (fun i _ => s.size - (intOf i).toNat)
  case atStart => exact ⟨0, Nat.zero_le _, rfl, h0, hcW⟩
  case round =>
    obtain ⟨k, hk, rfl, hJs, hcr⟩ := hrel
    by_cases hlt : k < s.size
    · obtain ⟨fn, tmps, assign, body, hy, hR⟩ := hY k _ wr (bytesAt_at s k hlt) hJs
      dsimp only [encAt] at hy
      clear hcW
      gi_wp2
      refine hR.mono ?_
      rintro e W3 (⟨rfl, hJ3, hk3⟩ | ⟨rfl, hJx3⟩)
      · have hc3 : W3.cell? ⟨B, 0, none⟩ = some (.string s) := (hk3.cell (p := ⟨B, 0, none⟩) rfl).trans hcr
        clear hcr
        gi_wp2
        go_roundw
        case rel => exact ⟨k + 1, by omega, by simp, hJ3, hc3⟩
        case measure => simp [intOf]; omega
      · gi_wp2
        refine bodyPost_ret (results_none rfl _ _ _) rfl ?_
        exact ⟨⟨_, rfl⟩, .inr ⟨k, by rw [bytesAt_length]; exact hlt, hJx3⟩⟩
    · obtain rfl : k = s.size := by omega
      clear hcW
      gi_wp2
      go_end0
      exact ⟨⟨_, rfl⟩, .inl (by rw [bytesAt_length]; exact hJs)⟩

theorem take_snoc (s : ByteArray) (k : Nat) (h : k < s.size) : s.data.toList.take (k + 1) = s.data.toList.take k ++ [s[k]] := by
  rw [List.take_succ_eq_append_getElem (by simpa using h)]; rfl
theorem not_max (x : BitVec 32) : bits .xor .u32 IntKind.u32.max (x.toNat : Int) = ((~~~ x).toNat : Int) := by
  have h : bits .xor .u32 IntKind.u32.max (x.toNat : Int) = ((0xffffffff#32 ^^^ x).toNat : Int) := bits_xor 0xffffffff#32 x
  rw [h, BitVec.xor_comm]
  congr 2
  exact CrcM.xor_ones x

end Go.Proofs.Ytialmaapahjchaa
