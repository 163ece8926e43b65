/-
  The frame of bytes, as a list; what frame.split and frameOf make of bytes is that.
-/
import Derived.Test.YtphfnlgjiomjkaaDoorFrameSplit
namespace Go.Proofs.YtphfnlgjiomjkaaDoor
open Go.RowKit Go.Shelf
set_option linter.unusedVariables false
set_option linter.unusedSimpArgs false

namespace Bytes
/-- The byte at a place. -/
def at' (l : List UInt8) (o : Nat) : UInt8 := l.getD o 0
/-- The number at a place. -/
def num (l : List UInt8) (o : Nat) : BitVec 32 := CrcM.get ((l.drop o).take 4)
def one (l : List UInt8) : Bool := (at' l 1) == 1
/-- How many bytes lie ahead of the data. -/
def ahead (l : List UInt8) : Nat := if one l = true then 20 else 24
/-- The frame, if there is one. -/
def fr (l : List UInt8) : Fr :=
  { wire := ((at' l 1).toNat : Int), kind := ((at' l 2).toNat : Int), src := ((at' l 3).toNat : Int) / 16, dst := ((at' l 3).toNat : Int) % 16, life := num l 4, seq := num l 8, ack := num l 12,
    hint := if one l = true then 0 else num l 16, data := txt (l.drop (ahead l)) }
def known (l : List UInt8) : Bool := ver ((at' l 1).toNat : Int)
/-- Bytes of a version that is not known. -/
def old (l : List UInt8) : Bool := decide (2 ≤ l.length) && (at' l 0 == 72) && !known l
/-- Is what lies ahead of the data there? -/
def long (l : List UInt8) : Bool := decide (2 ≤ l.length) && (at' l 0 == 72) && known l && decide (ahead l ≤ l.length)
/-- Bytes of a frame. -/
def good (l : List UInt8) : Bool := long l && decide ((num l (ahead l - 4)).toNat = l.length - ahead l) && decide (fr l).Right
end Bytes
open Bytes

theorem val_one (b : ByteArray) (o : Nat) (ho : o < b.size) : (valAt (b.extract o b.size) 1).toNat = (at' b.data.toList o).toNat := by
  have hl : b.data.toList.length = b.size := by simp
  have hd : (b.extract o b.size).data.toList = b.data.toList.drop o := by rw [Lib.extract_data, List.take_of_length_le (by rw [List.length_drop, hl]; exact Nat.le_refl _)]
  obtain ⟨x, t, hx⟩ : ∃ x t, b.data.toList.drop o = x :: t := by
    cases h : b.data.toList.drop o with
    | nil => rw [List.drop_eq_nil_iff] at h; omega
    | cons x t => exact ⟨x, t, rfl⟩
  rw [byte_val _ x t (hd.trans hx), at', List.getD_eq_getElem?_getD]
  have : b.data.toList[o]? = some x := by
    have := congrArg (·[0]?) hx
    simpa using this
  rw [this]; rfl
theorem val_four (b : ByteArray) (o : Nat) : valAt (b.extract o b.size) 4 = num b.data.toList o := by
  have hl : b.data.toList.length = b.size := by simp
  have hd : (b.extract o b.size).data.toList = b.data.toList.drop o := by rw [Lib.extract_data, List.take_of_length_le (by rw [List.length_drop, hl]; exact Nat.le_refl _)]
  have h1 : ((b.extract o b.size).extract 0 4).data.toList = (b.data.toList.drop o).take 4 := by rw [Lib.extract_data, hd, List.drop_zero]
  have h2 : (noughts.extract 4 4).data.toList = [] := rfl
  rw [valAt, num, ByteArray.data_append, Array.toList_append, h1, h2, List.append_nil]
abbrev cellAt (b : ByteArray) (o wd : Nat) : Value := .int .u32 ((valAt (b.extract o b.size) wd).toNat : Int)
theorem after_one (b : ByteArray) : (afterFields b (fieldsOf true)).1 = #[cellAt b 0 1, cellAt b 1 1, cellAt b 2 1, cellAt b 3 1, cellAt b 4 4, cellAt b 8 4, cellAt b 12 4, .int .u32 0, cellAt b 16 4] := by
  rw [afterFields, show (zeros9, b) = (zeros9, b.extract 0 b.size) from by rw [extract_zero]]
  simp only [fieldsOf, if_true, List.cons_append, List.nil_append, List.foldl_cons, List.foldl_nil, fieldStep, extract_extract]
  simp only [zeros9, List.setIfInBounds_toArray, List.set_cons_zero, List.set_cons_succ, Nat.reduceAdd, Nat.zero_add]
theorem after_two (b : ByteArray) : (afterFields b (fieldsOf false)).1 = #[cellAt b 0 1, cellAt b 1 1, cellAt b 2 1, cellAt b 3 1, cellAt b 4 4, cellAt b 8 4, cellAt b 12 4, cellAt b 16 4, cellAt b 20 4] := by
  rw [afterFields, show (zeros9, b) = (zeros9, b.extract 0 b.size) from by rw [extract_zero]]
  simp only [fieldsOf, Bool.false_eq_true, if_false, List.cons_append, List.nil_append, List.foldl_cons, List.foldl_nil, fieldStep, extract_extract]
  simp only [zeros9, List.setIfInBounds_toArray, List.set_cons_zero, List.set_cons_succ, Nat.reduceAdd, Nat.zero_add]
theorem after_wire (b : ByteArray) (one : Bool) (h : 2 ≤ b.size) : (afterFields b ((fieldsOf one).take 7)).1[1]? = some (.int .u32 ((at' b.data.toList 1).toNat : Int)) := by
  have e : (fieldsOf one).take 7 = [(1, 0), (1, 1), (1, 2), (1, 3), (4, 4), (4, 5), (4, 6)] := by cases one <;> rfl
  rw [e, afterFields, show (zeros9, b) = (zeros9, b.extract 0 b.size) from by rw [extract_zero]]
  simp only [List.foldl_cons, List.foldl_nil, fieldStep, extract_extract]
  simp only [zeros9, List.setIfInBounds_toArray, List.set_cons_zero, List.set_cons_succ, Nat.reduceAdd, Nat.zero_add]
  show some (cellAt b 1 1) = _
  rw [cellAt, val_one b 1 (by omega)]
end Go.Proofs.YtphfnlgjiomjkaaDoor
