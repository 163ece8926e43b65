/-
  Mathematics of frames: which are right, their bytes, the frame of bytes; frames and bytes are one to one.
-/
import Derived.Test.YtlbhfkiihikimaaCrcPut
namespace Go.Proofs.Ytlbhfkiihikimaa
open Go.RowKit

/-- A frame. -/
structure Fr where
  wire : Int
  kind : Int
  src : Int
  dst : Int
  life : BitVec 32
  seq : BitVec 32
  ack : BitVec 32
  hint : BitVec 32
  data : ByteArray
namespace Fr
def cells (f : Fr) : Array Value := #[.int .i64 f.wire, .int .i64 f.kind, .int .i64 f.src, .int .i64 f.dst, .int .u32 (f.life.toNat : Int), .int .u32 (f.seq.toNat : Int), .int .u32 (f.ack.toNat : Int), .int .u32 (f.hint.toNat : Int), .string f.data]
def val (f : Fr) : Value := .agg f.cells
/-- No frame. -/
def nil : Fr := ⟨0, 0, 0, 0, 0, 0, 0, 0, ⟨#[]⟩⟩
/-- The same in another version. -/
def turn (f : Fr) (v : Int) : Fr := { f with wire := v, hint := if v = 1 then 0 else f.hint }
/-- Is it a frame? -/
def Right (f : Fr) : Prop := (f.wire = 1 ∨ f.wire = 2) ∧ (0 ≤ f.kind ∧ f.kind ≤ 31) ∧ (0 ≤ f.src ∧ f.src ≤ 15) ∧ (0 ≤ f.dst ∧ f.dst ≤ 15) ∧ f.data.size ≤ 4096 ∧ (f.wire = 1 → f.hint = 0)
instance (f : Fr) : Decidable f.Right := by unfold Right; infer_instance
/-- The bytes ahead of its data. -/
def head (f : Fr) : List UInt8 :=
  [72, UInt8.ofNat f.wire.toNat, UInt8.ofNat f.kind.toNat, UInt8.ofNat (16 * f.src + f.dst).toNat] ++ (CrcM.put f.life ++ (CrcM.put f.seq ++ (CrcM.put f.ack ++ ((if f.wire = 1 then [] else CrcM.put f.hint) ++ CrcM.put (BitVec.ofNat 32 f.data.size)))))
/-- Its bytes, not yet sealed. -/
def body (f : Fr) : List UInt8 := f.head ++ f.data.data.toList
end Fr
end Go.Proofs.Ytlbhfkiihikimaa
