/-
  Mathematics of journals: a record's bytes, how many bytes a head tells of, what is read, what is good.
-/
import Derived.Test.YtfbponiiejanfaaJBuilder
import Derived.Test.YtfbponiiejanfaaCrcOpen2
namespace Go.Proofs.Ytfbponiiejanfaa
open Go.RowKit Go.Shelf
set_option linter.unusedVariables false
set_option linter.unusedSimpArgs false

namespace J
/-- A record ahead of its sum. -/
def bare (d : List UInt8) : List UInt8 := 52 :: (CrcM.put (BitVec.ofNat 32 d.length) ++ d)
/-- A record's bytes. -/
def rec (d : List UInt8) : List UInt8 := CrcM.withSum (bare d)
theorem bare_length (d : List UInt8) : (bare d).length = d.length + 5 := by simp [bare, CrcM.put_length]; omega
theorem rec_length (d : List UInt8) : (rec d).length = d.length + 9 := by rw [rec, CrcM.seal_length, bare_length]
/-- How many bytes of data a head tells of. -/
def size (l : List UInt8) : Nat := (CrcM.get ((l.drop 1).take 4)).toNat
/-- Does a head tell of a record that has room here? -/
def told (l : List UInt8) : Bool := decide (9 ≤ l.length) && (l.getD 0 0 == 52) && decide (size l ≤ 4096) && decide (size l + 9 ≤ l.length)
theorem told_length {l : List UInt8} (h : told l = true) : size l + 9 ≤ l.length := by simp [told] at h; omega
/-- The pieces that heads part bytes in. -/
def pieces (l : List UInt8) : List (List UInt8) := if h : told l = true then l.take (size l + 9) :: pieces (l.drop (size l + 9)) else []
termination_by l.length
decreasing_by rw [List.length_drop]; have := told_length h; omega
/-- Is a piece a record? -/
def ok (p : List UInt8) : Bool := CrcM.opened p
/-- Its data. -/
def data (p : List UInt8) : List UInt8 := (p.take (p.length - 4)).drop 5
/-- The pieces that are read. -/
def good (l : List UInt8) : List (List UInt8) := (pieces l).takeWhile ok
def read (l : List UInt8) : List (List UInt8) := (good l).map data
def end' (l : List UInt8) : Nat := ((good l).map List.length).sum
end J
end Go.Proofs.Ytfbponiiejanfaa
