/-
  What the functions of package crc, and of the document's answers to it, come to: sealing, opening, numbers out of bytes.
-/
import Derived.Test.YtlbhfkiihikimaaCrcPut
import Derived.Test.YtlbhfkiihikimaaTail
import Derived.Deep.QuietTactic
import Derived.BigQuiet
namespace Go.Proofs.Ytlbhfkiihikimaa
open Go.RowKit Go.Shelf
attribute [local go_sem] Oper.semAt_some

theorem txt_size (l : List UInt8) : (txt l).size = l.length := by simp [txt, ByteArray.size]
theorem txt_seal (s : ByteArray) : s ++ txt (CrcM.put (CrcM.sum s.data.toList)) = txt (CrcM.withSum s.data.toList) := by
  apply ByteArray.ext
  simp [txt, CrcM.withSum]
theorem bits_or_nat (x y : Nat) (hx : x < 4294967296) (hy : y < 4294967296) : bits .or .u32 (x : Int) (y : Int) = ((x ||| y : Nat) : Int) := by
  have h := bits_or (BitVec.ofNat 32 x) (BitVec.ofNat 32 y)
  rw [BitVec.toNat_or, BitVec.toNat_ofNat, BitVec.toNat_ofNat, Nat.mod_eq_of_lt hx, Nat.mod_eq_of_lt hy] at h
  exact h
theorem bits_or_add (x y i : Nat) (hx : x < 2 ^ i) (hy : y * 2 ^ i + x < 4294967296) : bits .or .u32 (x : Int) ((y * 2 ^ i : Nat) : Int) = ((y * 2 ^ i + x : Nat) : Int) := by
  rw [bits_or_nat _ _ (by omega) (by omega), Nat.or_comm, ← Nat.shiftLeft_eq, ← Nat.shiftLeft_add_eq_or_of_lt hx, Nat.shiftLeft_eq]
theorem get_nat (a b c d : UInt8) : (CrcM.get [a, b, c, d]).toNat = d.toNat * 2 ^ 24 + (c.toNat * 2 ^ 16 + (b.toNat * 2 ^ 8 + a.toNat)) := by
  have ha := a.toNat_lt; have hb := b.toNat_lt; have hc := c.toNat_lt; have hd := d.toNat_lt
  simp only [CrcM.get, List.getD_cons_zero, List.getD_cons_succ, BitVec.toNat_ofNat]
  omega
theorem get_spelled (a b c d : UInt8) : bits .or .u32 (bits .or .u32 (bits .or .u32 ((a.toNat : Int) % 4294967296) ((b.toNat : Int) % 4294967296 * 256 % 4294967296)) ((c.toNat : Int) % 4294967296 * 65536 % 4294967296)) ((d.toNat : Int) % 4294967296 * 16777216 % 4294967296) = ((CrcM.get [a, b, c, d]).toNat : Int) := by
  have ha := a.toNat_lt; have hb := b.toNat_lt; have hc := c.toNat_lt; have hd := d.toNat_lt
  rw [get_nat]
  rw [show (a.toNat : Int) % 4294967296 = (a.toNat : Int) from by omega, show (b.toNat : Int) % 4294967296 * 256 % 4294967296 = ((b.toNat * 2 ^ 8 : Nat) : Int) from by omega,
    show (c.toNat : Int) % 4294967296 * 65536 % 4294967296 = ((c.toNat * 2 ^ 16 : Nat) : Int) from by omega, show (d.toNat : Int) % 4294967296 * 16777216 % 4294967296 = ((d.toNat * 2 ^ 24 : Nat) : Int) from by omega]
  rw [bits_or_add _ _ 8 (by omega) (by omega), bits_or_add _ _ 16 (by omega) (by omega), bits_or_add _ _ 24 (by omega) (by omega)]
theorem four (s : ByteArray) (h : s.size = 4) : ∃ a b c d, s = ⟨#[a, b, c, d]⟩ := by
  obtain ⟨⟨l⟩⟩ := s
  match l, h with
  | [a, b, c, d], _ => exact ⟨a, b, c, d, rfl⟩
/-- The number of the first bytes of four. -/
def accN (a b c d : UInt8) : Nat → Nat
  | 0 => 0
  | 1 => a.toNat
  | 2 => b.toNat * 2 ^ 8 + a.toNat
  | 3 => c.toNat * 2 ^ 16 + (b.toNat * 2 ^ 8 + a.toNat)
  | _ => d.toNat * 2 ^ 24 + (c.toNat * 2 ^ 16 + (b.toNat * 2 ^ 8 + a.toNat))

theorem acc0 (a b c d : UInt8) : bits .or .u32 (accN a b c d 0 : Int) ((a.toNat : Int) % 4294967296 % 4294967296) = (accN a b c d 1 : Int) := by
  have ha := a.toNat_lt
  have h := bits_or_nat 0 a.toNat (by omega) (by omega)
  rw [Nat.zero_or] at h
  rw [show (a.toNat : Int) % 4294967296 % 4294967296 = (a.toNat : Int) from by omega]
  exact h
theorem acc1 (a b c d : UInt8) : bits .or .u32 (accN a b c d 1 : Int) ((b.toNat : Int) % 4294967296 * 256 % 4294967296) = (accN a b c d 2 : Int) := by
  have ha := a.toNat_lt; have hb := b.toNat_lt
  rw [show (b.toNat : Int) % 4294967296 * 256 % 4294967296 = ((b.toNat * 2 ^ 8 : Nat) : Int) from by omega]
  exact bits_or_add _ _ 8 (by simp only [accN]; omega) (by simp only [accN]; omega)
theorem acc2 (a b c d : UInt8) : bits .or .u32 (accN a b c d 2 : Int) ((c.toNat : Int) % 4294967296 * 65536 % 4294967296) = (accN a b c d 3 : Int) := by
  have ha := a.toNat_lt; have hb := b.toNat_lt; have hc := c.toNat_lt
  rw [show (c.toNat : Int) % 4294967296 * 65536 % 4294967296 = ((c.toNat * 2 ^ 16 : Nat) : Int) from by omega]
  exact bits_or_add _ _ 16 (by simp only [accN]; omega) (by simp only [accN]; omega)
theorem acc3 (a b c d : UInt8) : bits .or .u32 (accN a b c d 3 : Int) ((d.toNat : Int) % 4294967296 * 16777216 % 4294967296) = (accN a b c d 4 : Int) := by
  have ha := a.toNat_lt; have hb := b.toNat_lt; have hc := c.toNat_lt; have hd := d.toNat_lt
  rw [show (d.toNat : Int) % 4294967296 * 16777216 % 4294967296 = ((d.toNat * 2 ^ 24 : Nat) : Int) from by omega]
  exact bits_or_add _ _ 24 (by simp only [accN]; omega) (by simp only [accN]; omega)

end Go.Proofs.Ytlbhfkiihikimaa
