/-
  How the walk spells the numbers of 32 bits, against bit vectors: xor, and, moves; a step's round, in both spellings.
-/
import Derived.Test.YtigameebcicgpaaCrcMath
import Derived.WalkKit
import Derived.Below
import Derived.Lib.Hide
namespace Go.Proofs.Ytigameebcicgpaa
open Go.RowKit

theorem bv_ofInt (x : BitVec 32) : BitVec.ofInt 32 (x.toNat : Int) = x := by simp
theorem bits_xor (x y : BitVec 32) : bits .xor .u32 (x.toNat : Int) (y.toNat : Int) = ((x ^^^ y).toNat : Int) := by
  have h := (x ^^^ y).isLt
  simp only [bits, IntKind.bits, bv_ofInt, IntKind.wrap, IntKind.signed]
  simp only [Bool.false_and, Bool.false_eq_true, if_false]
  show (((x ^^^ y).toNat : Nat) : Int) % 2 ^ 32 = _
  generalize (x ^^^ y).toNat = n at *
  omega
theorem bits_and (x y : BitVec 32) : bits .and .u32 (x.toNat : Int) (y.toNat : Int) = ((x &&& y).toNat : Int) := by
  have h := (x &&& y).isLt
  simp only [bits, IntKind.bits, bv_ofInt, IntKind.wrap, IntKind.signed]
  simp only [Bool.false_and, Bool.false_eq_true, if_false]
  show (((x &&& y).toNat : Nat) : Int) % 2 ^ 32 = _
  generalize (x &&& y).toNat = n at *
  omega
theorem bits_or (x y : BitVec 32) : bits .or .u32 (x.toNat : Int) (y.toNat : Int) = ((x ||| y).toNat : Int) := by
  have h := (x ||| y).isLt
  simp only [bits, IntKind.bits, bv_ofInt, IntKind.wrap, IntKind.signed]
  simp only [Bool.false_and, Bool.false_eq_true, if_false]
  show (((x ||| y).toNat : Nat) : Int) % 2 ^ 32 = _
  generalize (x ||| y).toNat = n at *
  omega
theorem half_nat (x : BitVec 32) : (x.toNat : Int) / (2 : Int) = ((x >>> 1).toNat : Int) := by
  rw [BitVec.toNat_ushiftRight, Nat.shiftRight_eq_div_pow]
  omega
theorem byte_nat (b : UInt8) : (b.toNat : Int) = ((BitVec.ofNat 32 b.toNat).toNat : Int) := by
  have := b.toNat_lt
  rw [BitVec.toNat_ofNat]
  omega
theorem xor_byte (s : BitVec 32) (b : UInt8) : bits .xor .u32 (s.toNat : Int) (b.toNat : Int) = ((s ^^^ BitVec.ofNat 32 b.toNat).toNat : Int) := by
  rw [byte_nat, bits_xor]
theorem lsb_of_odd (x : BitVec 32) : x.getLsbD 0 = decide (x.toNat % 2 = 1) := by
  simp [BitVec.getLsbD, Nat.testBit_zero]
theorem and_one (x : BitVec 32) : x &&& 1#32 = if x.getLsbD 0 = true then 1#32 else 0#32 := by
  apply BitVec.eq_of_toNat_eq
  rw [BitVec.toNat_and, lsb_of_odd]
  show x.toNat &&& 1 = _
  rw [Nat.and_one_is_mod]
  by_cases h : x.toNat % 2 = 1
  · simp [h]
  · have : x.toNat % 2 = 0 := by omega
    simp [this]
/-- The round of a step that masks. -/
theorem F_masked (x : BitVec 32) : bits .xor .u32 ((x.toNat : Int) / (2 : Int)) (bits .and .u32 3988292384 (-bits .and .u32 (x.toNat : Int) 1 % 4294967296)) = ((CrcM.F x).toNat : Int) := by
  have h1 : bits .and .u32 (x.toNat : Int) 1 = ((x &&& 1#32).toNat : Int) := bits_and x 1#32
  rw [h1, and_one, half_nat, CrcM.F]
  by_cases h : x.getLsbD 0 = true
  · rw [if_pos h, if_pos h, ← bits_xor]
    congr 1
  · rw [if_neg h, if_neg h, ← bits_xor]
    congr 1
/-- The round of a step that asks. -/
theorem F_odd (x : BitVec 32) (h : x.toNat % 2 = 1) : bits .xor .u32 ((x.toNat : Int) / (2 : Int)) 3988292384 = ((CrcM.F x).toNat : Int) := by
  rw [half_nat, CrcM.F, lsb_of_odd, decide_eq_true h, if_pos rfl]
  exact bits_xor _ 0xedb88320#32
theorem F_even (x : BitVec 32) (h : ¬ x.toNat % 2 = 1) : (x.toNat : Int) / (2 : Int) = ((CrcM.F x).toNat : Int) := by
  rw [half_nat, CrcM.F, lsb_of_odd, decide_eq_false h, if_neg (by decide), BitVec.xor_zero]
theorem not_xor (x : BitVec 32) : bits .xor .u32 (x.toNat : Int) 4294967295 = ((~~~ x).toNat : Int) := by
  rw [show (4294967295 : Int) = ((0xffffffff#32 : BitVec 32).toNat : Int) from rfl, bits_xor]
  congr 2
  exact CrcM.xor_ones x
theorem nat_bv (n : Int) (h0 : 0 ≤ n) (h1 : n < 4294967296) : ∃ x : BitVec 32, n = (x.toNat : Int) := ⟨BitVec.ofNat 32 n.toNat, by rw [BitVec.toNat_ofNat]; omega⟩
theorem ret_int {k : IntKind} {a b : Int} (h : a = b) : Ending.returned (.int k a) = .returned (.int k b) := by rw [h]
end Go.Proofs.Ytigameebcicgpaa
