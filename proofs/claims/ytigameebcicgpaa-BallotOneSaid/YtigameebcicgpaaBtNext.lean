/-
  Package ballot: Next; walked.
-/
import Derived.Test.YtigameebcicgpaaBtSmall
namespace Go.Proofs.Ytigameebcicgpaa
open Go.RowKit Go.Shelf
attribute [local go_sem] Oper.semAt_some
set_option linter.unusedVariables false
set_option linter.unusedSimpArgs false

theorem or_low (q m : Nat) (hq : q * 16 < 2 ^ 61) (hm : m < 16) : bits .or .u64 ((q * 16 : Nat) : Int) (m : Int) = ((q * 16 + m : Nat) : Int) := by
  have h1 : (q * 16) ||| m = q * 16 + m := by
    have := Nat.shiftLeft_add_eq_or_of_lt (a := q) (b := m) (i := 4) (by omega)
    rw [Nat.shiftLeft_eq, show (2 : Nat) ^ 4 = 16 from rfl] at this
    exact this.symm
  have e1 : BitVec.ofInt 64 ((q * 16 : Nat) : Int) = BitVec.ofNat 64 (q * 16) := BitVec.ofInt_natCast _ _
  have e2 : BitVec.ofInt 64 (m : Int) = BitVec.ofNat 64 m := BitVec.ofInt_natCast _ _
  have h2 : (BitVec.ofNat 64 (q * 16) ||| BitVec.ofNat 64 m).toNat = q * 16 + m := by
    rw [BitVec.toNat_or, BitVec.toNat_ofNat, BitVec.toNat_ofNat, Nat.mod_eq_of_lt (by omega), Nat.mod_eq_of_lt (by omega), h1]
  simp only [bits, IntKind.bits, IntKind.wrap, IntKind.signed]
  simp only [Bool.false_and, Bool.false_eq_true, if_false]
  rw [e1, e2]
  show (((BitVec.ofNat 64 (q * 16) ||| BitVec.ofNat 64 m).toNat : Nat) : Int) % 2 ^ 64 = _
  rw [h2]
  omega
set_option maxRecDepth 100000 in
set_option maxHeartbeats 1000000 in
theorem btNext (b : Nat) (node : Int) (w : World) : Calls Try.prog 23 #[.int .u64 (b : Int), .int .i64 node] w fun e w' => e = .returned (.tuple #[.int .u64 (Bt.nextV b node : Int), .int .i64 (Bt.nextE b node)]) ∧ Below w.heap.size w w' := by
  by_cases h : 0 ≤ node ∧ node ≤ 15 ∧ b ≤ 1152921504606846976
  · have hE : Bt.nextE b node = 0 := if_pos h
    obtain ⟨h0, h1, h2⟩ := h
    obtain ⟨m, rfl⟩ : ∃ m : Nat, node = (m : Int) := ⟨node.toNat, by omega⟩
    have hV : Bt.nextV b (m : Int) = b + 1 + (m + 16 - (b + 1) % 16) % 16 := by unfold Bt.nextV; rw [if_pos hE]; simp
    have d0 : decide ((m : Int) < 0) = false := decide_eq_false (by omega)
    have d1 : decide (16 ≤ (m : Int)) = false := decide_eq_false (by omega)
    have d2 : decide ((1152921504606846976 : Int) < (b : Int)) = false := decide_eq_false (by omega)
    have d2' : ¬ (1152921504606846976 : Int) < (b : Int) := by omega
    have hor : bits .or .u64 ((b : Int) / 16 * 16) (m : Int) = ((b / 16 * 16 + m : Nat) : Int) := by
      rw [← or_low (b / 16) m (by omega) (by omega)]; congr 1
    have hmw : IntKind.u64.wrap (m : Int) = (m : Int) := by rw [IntWalk.u64_in] <;> omega
    obtain ⟨z, hz⟩ : ∃ z, b / 16 * 16 + m = z := ⟨_, rfl⟩
    rw [hz] at hor
    by_cases hle : z ≤ b
    · have d3 : decide ((z : Int) ≤ (b : Int)) = true := decide_eq_true (by omega)
      have d3' : (z : Int) ≤ (b : Int) := by omega
      have hu : IntKind.u64.wrap ((z : Int) + 16) = ((z + 16 : Nat) : Int) := by rw [IntWalk.u64_in] <;> omega
      have hv : Bt.nextV b (m : Int) = z + 16 := by rw [hV]; omega
      rw [hE, hv]
      clear hE hv hV hz h0 h1 h2
      go_enter Try.func23, Try.ntmps23
      go_wp2
      go_ret2
      exact ⟨rfl, Below.refl _ _⟩
    · have d3 : decide ((z : Int) ≤ (b : Int)) = false := decide_eq_false (by omega)
      have d3' : ¬ (z : Int) ≤ (b : Int) := by omega
      have hv : Bt.nextV b (m : Int) = z := by rw [hV]; omega
      rw [hE, hv]
      clear hE hv hV hz h0 h1 h2
      go_enter Try.func23, Try.ntmps23
      go_wp2
      go_ret2
      exact ⟨rfl, Below.refl _ _⟩
  · have hE : Bt.nextE b node = 2 := if_neg h
    have hV : Bt.nextV b node = 0 := by unfold Bt.nextV; rw [hE]; rfl
    rw [hE, hV]
    by_cases h0 : node < 0
    · have d0 : decide (node < 0) = true := decide_eq_true h0
      clear hE hV h
      go_enter Try.func23, Try.ntmps23
      go_wp2
      go_ret2
      exact ⟨rfl, Below.refl _ _⟩
    · have d0 : decide (node < 0) = false := decide_eq_false h0
      by_cases h1 : 16 ≤ node
      · have d1 : decide (16 ≤ node) = true := decide_eq_true h1
        clear hE hV h
        go_enter Try.func23, Try.ntmps23
        go_wp2
        go_ret2
        exact ⟨rfl, Below.refl _ _⟩
      · have d1 : decide (16 ≤ node) = false := decide_eq_false h1
        have d2 : decide ((1152921504606846976 : Int) < (b : Int)) = true := decide_eq_true (by omega)
        have d2' : (1152921504606846976 : Int) < (b : Int) := by omega
        clear hE hV h
        go_enter Try.func23, Try.ntmps23
        go_wp2
        go_ret2
        exact ⟨rfl, Below.refl _ _⟩
end Go.Proofs.Ytigameebcicgpaa
