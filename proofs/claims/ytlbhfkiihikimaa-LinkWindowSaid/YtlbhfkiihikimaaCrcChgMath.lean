/-
  Bytes that are changed, one by one and bit by bit: plain mathematics for the walk of crc.Change.
-/
import Derived.Test.YtlbhfkiihikimaaCrcMath
namespace Go.Proofs.Ytlbhfkiihikimaa.CrcM

/-- The number of the mask's bits that a byte meets, from a bit r of the first byte on. -/
def meets (mask r j : Nat) : Nat := mask * 2 ^ r / 256 ^ j
theorem pow256 (j : Nat) : 256 ^ j = 2 ^ (8 * j) := by rw [show (256 : Nat) = 2 ^ 8 from rfl, ← Nat.pow_mul]
theorem meets_bit (mask r j q : Nat) : (meets mask r j).testBit q = (decide (r ≤ 8 * j + q) && mask.testBit (8 * j + q - r)) := by
  rw [meets, pow256, Nat.testBit_div_two_pow, ← Nat.shiftLeft_eq, Nat.testBit_shiftLeft]
  rw [show q + 8 * j = 8 * j + q from by omega]
theorem chg_at (l : List UInt8) (r mask j : Nat) (h : j < l.length) : (chg l r mask)[j]? = some (l[j] ^^^ UInt8.ofNat (meets mask r j)) := chg_get l r mask j h
/-- The first q bits of a number, as a byte. -/
def low (M q : Nat) : UInt8 := UInt8.ofNat (M % 2 ^ q)
theorem low_zero (M : Nat) : low M 0 = 0 := by simp [low, Nat.mod_one]
theorem low_eight (M : Nat) : low M 8 = UInt8.ofNat M := by
  apply UInt8.toNat_inj.1
  rw [low, UInt8.toNat_ofNat', UInt8.toNat_ofNat']
  omega
theorem mod_succ_of_not (M q : Nat) (h : M.testBit q = false) : M % 2 ^ (q + 1) = M % 2 ^ q := by
  apply Nat.eq_of_testBit_eq
  intro i
  rw [Nat.testBit_mod_two_pow, Nat.testBit_mod_two_pow]
  by_cases hi : i = q
  · subst hi; simp [h]
  · by_cases h1 : i < q
    · simp [h1, show i < q + 1 from by omega]
    · simp [h1, show ¬ i < q + 1 from by omega]
theorem mod_succ_of (M q : Nat) (h : M.testBit q = true) : M % 2 ^ (q + 1) = M % 2 ^ q ^^^ 2 ^ q := by
  apply Nat.eq_of_testBit_eq
  intro i
  rw [Nat.testBit_xor, Nat.testBit_mod_two_pow, Nat.testBit_mod_two_pow, Nat.testBit_two_pow]
  by_cases hi : i = q
  · subst hi; simp [h]
  · by_cases h1 : i < q
    · simp [h1, show i < q + 1 from by omega, show ¬ q = i from by omega]
    · simp [h1, show ¬ i < q + 1 from by omega, show ¬ q = i from by omega]
theorem low_skip (mask r j q : Nat) (h : 8 * j + q < r) : low (meets mask r j) (q + 1) = low (meets mask r j) q := by
  rw [low, low, mod_succ_of_not _ _ (by rw [meets_bit, decide_eq_false (by omega)]; rfl)]
theorem low_over (mask r j q : Nat) (hm : mask < 2 ^ 32) (h : 32 + r ≤ 8 * j + q) : low (meets mask r j) q = UInt8.ofNat (meets mask r j) := by
  rw [low, Nat.mod_eq_of_lt]
  rw [meets, pow256, Nat.div_lt_iff_lt_mul (Nat.two_pow_pos _), ← Nat.pow_add]
  refine Nat.lt_of_lt_of_le (Nat.mul_lt_mul_of_pos_right hm (Nat.two_pow_pos r)) ?_
  rw [← Nat.pow_add]
  exact Nat.pow_le_pow_right (by omega) (by omega)
/-- One bit more. -/
theorem low_next (mask r j q : Nat) (h : r ≤ 8 * j + q) : low (meets mask r j) (q + 1) = low (meets mask r j) q ^^^ UInt8.ofNat (mask / 2 ^ (8 * j + q - r) % 2 * 2 ^ q) := by
  have hb := meets_bit mask r j q
  rw [decide_eq_true h, Bool.true_and, Nat.testBit_eq_decide_div_mod_eq (x := mask)] at hb
  by_cases h1 : mask / 2 ^ (8 * j + q - r) % 2 = 1
  · rw [decide_eq_true h1] at hb
    rw [low, low, mod_succ_of _ _ hb, h1, Nat.one_mul, UInt8.ofNat_xor]
  · have h0 : mask / 2 ^ (8 * j + q - r) % 2 = 0 := by omega
    rw [decide_eq_false h1] at hb
    rw [low, low, mod_succ_of_not _ _ hb, h0, Nat.zero_mul]
    simp
/-- A change from a bit on is one of the bytes from its byte on. -/
theorem chg_split (l : List UInt8) (f r mask : Nat) (hf : f ≤ l.length) : chg l (8 * f + r) mask = l.take f ++ chg (l.drop f) r mask := by
  apply List.ext_getElem?
  intro j
  by_cases hj : j < l.length
  · rw [chg_get l _ mask j hj, List.getElem?_append, List.length_take, Nat.min_eq_left hf]
    by_cases h1 : j < f
    · rw [if_pos h1, List.getElem?_take_of_lt h1, List.getElem?_eq_getElem hj]
      congr 1
      have h0 : UInt8.ofNat (mask * 2 ^ (8 * f + r) / 256 ^ j) = 0 := by
        apply UInt8.toNat_inj.1
        rw [UInt8.toNat_ofNat', pow256]
        have e : mask * 2 ^ (8 * f + r) = (mask * 2 ^ (8 * f + r - 8 * j - 8) * 256) * 2 ^ (8 * j) := by
          rw [show (256 : Nat) = 2 ^ 8 from rfl, Nat.mul_assoc, Nat.mul_assoc, ← Nat.pow_add, ← Nat.pow_add]
          congr 2
          omega
        rw [e, Nat.mul_div_cancel _ (Nat.two_pow_pos _)]
        show _ % 256 = 0
        omega
      rw [h0]; simp
    · rw [if_neg h1, chg_get (l.drop f) r mask (j - f) (by rw [List.length_drop]; omega)]
      congr 1
      have e : mask * 2 ^ (8 * f + r) / 256 ^ j = mask * 2 ^ r / 256 ^ (j - f) := by
        rw [pow256, pow256, show mask * 2 ^ (8 * f + r) = mask * 2 ^ r * 2 ^ (8 * f) from by rw [Nat.pow_add, Nat.mul_assoc, Nat.mul_comm (2 ^ r)],
          show 8 * j = 8 * (j - f) + 8 * f from by omega, Nat.pow_add, Nat.mul_div_mul_right _ _ (Nat.two_pow_pos _)]
      rw [e, List.getElem_drop]
      congr 2
      omega
  · rw [List.getElem?_eq_none (by rw [chg_length]; omega), List.getElem?_eq_none (by rw [List.length_append, chg_length, List.length_take, List.length_drop]; omega)]
/-- Behind the mask's last bit nothing is changed. -/
theorem chg_drop (l : List UInt8) (r mask k : Nat) (hm : mask < 2 ^ 32) (h : 32 + r ≤ 8 * k) : (chg l r mask).drop k = l.drop k := by
  apply List.ext_getElem?
  intro j
  rw [List.getElem?_drop, List.getElem?_drop]
  by_cases hj : k + j < l.length
  · rw [chg_at l r mask _ hj, List.getElem?_eq_getElem hj]
    have h0 := low_over mask r (k + j) 0 hm (by omega)
    rw [low_zero] at h0
    rw [← h0]; simp
  · rw [List.getElem?_eq_none (by rw [chg_length]; omega), List.getElem?_eq_none (by omega)]
/-- The bytes that have been made when a round's bits are being turned over. -/
def part (l : List UInt8) (mask r j q : Nat) : List UInt8 := (chg l r mask).take j ++ [l.getD j 0 ^^^ low (meets mask r j) q]
theorem part_length (l : List UInt8) (mask r j q : Nat) (h : j ≤ l.length) : (part l mask r j q).length = j + 1 := by
  rw [part, List.length_append, List.length_take, chg_length]; simp; omega
theorem part_zero (l : List UInt8) (mask r j : Nat) (h : j < l.length) : part l mask r j 0 = (chg l r mask).take j ++ [l[j]] := by
  rw [part, low_zero]; simp [h]
theorem part_full (l : List UInt8) (mask r j q : Nat) (h : j < l.length) (hq : low (meets mask r j) q = UInt8.ofNat (meets mask r j)) : part l mask r j q = (chg l r mask).take (j + 1) := by
  have hj : j < (chg l r mask).length := by rw [chg_length]; exact h
  rw [part, hq, List.take_succ_eq_append_getElem hj]
  congr 2
  have := chg_at l r mask j h
  rw [List.getElem?_eq_getElem hj] at this
  rw [Option.some.inj this]
  simp [h]
theorem part_last (l : List UInt8) (mask r j q : Nat) (h : j < l.length) : (part l mask r j q)[j]? = some (l.getD j 0 ^^^ low (meets mask r j) q) := by
  rw [part, List.getElem?_append_right (by rw [List.length_take, chg_length]; omega), List.length_take, chg_length, Nat.min_eq_left (by omega)]
  simp
theorem part_set (l : List UInt8) (mask r j q : Nat) (h : j < l.length) (b : UInt8) (hb : b = l.getD j 0 ^^^ low (meets mask r j) (q + 1)) : (part l mask r j q).set j b = part l mask r j (q + 1) := by
  have e : ((chg l r mask).take j).length = j := by rw [List.length_take, chg_length]; omega
  rw [part, part, hb, List.set_append_right _ _ (by omega), e]
  simp
end Go.Proofs.Ytlbhfkiihikimaa.CrcM
