/-
  What the document's answer to crc.Change comes to.
-/
import Derived.Test.YtlbhfkiihikimaaCrcLaws2
namespace Go.Proofs.Ytlbhfkiihikimaa
open Go.RowKit Go.Shelf
attribute [local go_sem] Oper.semAt_some

namespace CrcM
theorem div256 (j x : Nat) : x / 256 ^ j = x >>> (8 * j) := by rw [pow256, Nat.shiftRight_eq_div_pow]
/-- One bit of the mask more: one byte is changed, or none. -/
theorem chg_skip (l : List UInt8) (B mask i : Nat) (h : mask.testBit i = false ∨ 8 * l.length ≤ B + i) : chg l B (mask % 2 ^ (i + 1)) = chg l B (mask % 2 ^ i) := by
  by_cases hb : mask.testBit i = true
  · have h' : 8 * l.length ≤ B + i := by
      rcases h with h | h
      · rw [hb] at h; cases h
      · exact h
    apply List.ext_getElem?
    intro j
    by_cases hj : j < l.length
    · rw [chg_get _ _ _ _ hj, chg_get _ _ _ _ hj]
      congr 2
      apply UInt8.toNat_inj.1
      rw [UInt8.toNat_ofNat', UInt8.toNat_ofNat', mod_succ_of _ _ hb, ← Nat.shiftLeft_eq, Nat.shiftLeft_xor_distrib, div256, Nat.shiftRight_xor_distrib, Nat.xor_mod_two_pow (n := 8), ← Nat.shiftLeft_eq, div256]
      have h0 : 2 ^ i <<< B >>> (8 * j) % 2 ^ 8 = 0 := by
        rw [Nat.shiftLeft_eq, ← Nat.pow_add, Nat.shiftRight_eq_div_pow]
        rw [show i + B = (i + B - 8 * j - 8) + 8 + 8 * j from by omega, Nat.pow_add, Nat.mul_div_cancel _ (Nat.two_pow_pos _), Nat.pow_add, Nat.mul_mod_left]
      rw [h0, Nat.xor_zero]
    · rw [List.getElem?_eq_none (by rw [chg_length]; omega), List.getElem?_eq_none (by rw [chg_length]; omega)]
  · rw [mod_succ_of_not _ _ (by simpa using hb)]
theorem chg_turn (l : List UInt8) (B mask i : Nat) (h : mask.testBit i = true) :
    chg l B (mask % 2 ^ (i + 1)) = (chg l B (mask % 2 ^ i)).set ((B + i) / 8) ((chg l B (mask % 2 ^ i)).getD ((B + i) / 8) 0 ^^^ UInt8.ofNat (2 ^ ((B + i) % 8))) := by
  apply List.ext_getElem?
  intro j
  by_cases hj : j < l.length
  · have e : UInt8.ofNat (mask % 2 ^ (i + 1) * 2 ^ B / 256 ^ j) = UInt8.ofNat (mask % 2 ^ i * 2 ^ B / 256 ^ j) ^^^ UInt8.ofNat (2 ^ (B + i) / 256 ^ j) := by
      apply UInt8.toNat_inj.1
      rw [UInt8.toNat_xor, UInt8.toNat_ofNat', UInt8.toNat_ofNat', UInt8.toNat_ofNat', mod_succ_of _ _ h, ← Nat.shiftLeft_eq, Nat.shiftLeft_xor_distrib, div256, Nat.shiftRight_xor_distrib, Nat.xor_mod_two_pow (n := 8), ← Nat.shiftLeft_eq, div256, div256, Nat.shiftLeft_eq (2 ^ i), ← Nat.pow_add, Nat.add_comm i B]
    rw [chg_get _ _ _ _ hj, e, List.getElem?_set]
    by_cases hjk : (B + i) / 8 = j
    · subst hjk
      rw [if_pos rfl, if_pos (by rw [chg_length]; exact hj), List.getD_eq_getElem?_getD, chg_get _ _ _ _ hj, Option.getD_some, UInt8.xor_assoc]
      congr 3
      congr 1
      rw [div256, Nat.shiftRight_eq_div_pow, show 2 ^ (B + i) = 2 ^ ((B + i) % 8) * 2 ^ (8 * ((B + i) / 8)) from by rw [← Nat.pow_add]; congr 1; omega, Nat.mul_div_cancel _ (Nat.two_pow_pos _)]
    · rw [if_neg hjk, chg_get _ _ _ _ hj]
      have h0 : UInt8.ofNat (2 ^ (B + i) / 256 ^ j) = 0 := by
        apply UInt8.toNat_inj.1
        rw [UInt8.toNat_ofNat', div256, Nat.shiftRight_eq_div_pow]
        show _ % 256 = 0
        by_cases hlt : B + i < 8 * j
        · rw [Nat.div_eq_of_lt (Nat.pow_lt_pow_right (by omega) hlt)]
        · rw [show 2 ^ (B + i) = 2 ^ (B + i - 8 * j - 8) * 256 * 2 ^ (8 * j) from by rw [show (256 : Nat) = 2 ^ 8 from rfl, ← Nat.pow_add, ← Nat.pow_add]; congr 1; omega, Nat.mul_div_cancel _ (Nat.two_pow_pos _)]
          omega
      rw [h0, UInt8.xor_zero]
  · rw [List.getElem?_eq_none (by rw [chg_length]; omega), List.getElem?_eq_none (by rw [List.length_set, chg_length]; omega)]
theorem chg_none (l : List UInt8) (B : Nat) : chg l B 0 = l := by
  rw [chg, Nat.zero_mul, bytesN_zero _ _ (by simp), zipWith_zero]
end CrcM

/-- Cells that hold bytes, and may be written. -/
def Room (W : World) (b : Nat) (l : List UInt8) : Prop := ∀ j (h : j < l.length), W.cell? ⟨b, j, none⟩ = some (byteV l[j]) ∧ W.frozen? ⟨b, j, none⟩ = false
theorem Room.set {W : World} {b : Nat} {l : List UInt8} (h : Room W b l) (j : Nat) (c : UInt8) : Room (W.setCell ⟨b, j, none⟩ (byteV c)) b (l.set j c) := fun i hi => by
  have hi' : i < l.length := by simpa using hi
  refine ⟨?_, by rw [World.frozen?_setCell]; exact (h i hi').2⟩
  rw [List.getElem_set]
  by_cases e : j = i
  · subst e
    rw [if_pos rfl]
    exact World.cell?_setCell_same' _ _ _ (by rw [(h j hi').1]; rfl)
  · rw [if_neg e]
    exact (World.cell?_setCell_other W ⟨b, j, none⟩ ⟨b, i, none⟩ _ (fun he => e (by injection he))).trans (h i hi').1
theorem Room.new (w : World) (s : ByteArray) : Room (w.drew.alloc (.cells (bytesRow s (grownCap w s.size 0 5)) 5 ((bytesRow s (grownCap w s.size 0 5)).size, (bytesRow s (grownCap w s.size 0 5)).size + 1))) w.heap.size s.data.toList := fun j hj => by
  have hj' : j < s.data.size := by simpa using hj
  refine ⟨?_, ?_⟩
  · have := World.cell?_alloc_mark w.drew (bytesRow s (grownCap w s.size 0 5)) 5 ((bytesRow s (grownCap w s.size 0 5)).size, (bytesRow s (grownCap w s.size 0 5)).size + 1) j
    refine Eq.trans this ?_
    rw [bytesRow, Array.getElem?_append_left (by simpa using hj'), Array.getElem?_map, Array.getElem?_eq_getElem hj']
    rfl
  · have := World.frozen?_alloc_mark w.drew (bytesRow s (grownCap w s.size 0 5)) 5 (bytesRow s (grownCap w s.size 0 5)).size ((bytesRow s (grownCap w s.size 0 5)).size + 1) j
    refine Eq.trans this ?_
    have hsz : j < (bytesRow s (grownCap w s.size 0 5)).size := by rw [bytesRow, Array.size_append, Array.size_map]; omega
    rw [decide_eq_false (by omega)]; rfl

theorem bit_asked (m : BitVec 32) (q : Nat) : (bits .and .u32 ((m.toNat : Int) / 2 ^ q) 1 == 1) = m.toNat.testBit q := by
  have hm := m.isLt
  have e : (m.toNat : Int) / 2 ^ q = ((m.toNat / 2 ^ q : Nat) : Int) := by simp
  rw [e, bits_and_one _ (Nat.lt_of_le_of_lt (Nat.div_le_self _ _) hm), Nat.testBit_eq_decide_div_mod_eq, Bool.eq_iff_iff, beq_iff_eq, decide_eq_true_iff]
  omega
theorem flip_spelled (c : UInt8) (k : Nat) : bits .xor .u8 (c.toNat : Int) (2 ^ k % 256) = ((c ^^^ UInt8.ofNat (2 ^ k)).toNat : Int) := by
  rw [← bits_xor8]
  congr 1
theorem int_le_of_wf {n : Int} (h : (Lit.int .i64 n).wf = true) : n ≤ 2 ^ 63 - 1 := by
  simp [Lit.wf, IntKind.min, IntKind.max, IntKind.signed, IntKind.bits] at h
  omega
end Go.Proofs.Ytlbhfkiihikimaa
