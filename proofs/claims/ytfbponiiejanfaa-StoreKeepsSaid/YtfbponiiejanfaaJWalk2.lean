/-
  journal.told, Record: walked.
-/
import Derived.Test.YtfbponiiejanfaaJWalk1
namespace Go.Proofs.Ytfbponiiejanfaa
open Go.RowKit Go.Shelf
attribute [local go_sem] Oper.semAt_some
set_option linter.unusedVariables false
set_option linter.unusedSimpArgs false

theorem at_first (b : ByteArray) (h : 0 < b.size) : b[0] = b.data.toList.getD 0 0 := by
  rw [List.getD_eq_getElem?_getD, List.getElem?_eq_getElem (by simpa using h)]; rfl
theorem head_four (b : ByteArray) (h : 9 ≤ b.size) : ∃ x y z u, b.extract 1 5 = ⟨#[x, y, z, u]⟩ ∧ (CrcM.get [x, y, z, u]).toNat = J.size b.data.toList := by
  obtain ⟨x, y, z, u, e⟩ := four (b.extract 1 5) (by rw [ByteArray.size_extract]; omega)
  refine ⟨x, y, z, u, e, ?_⟩
  have h1 := congrArg (fun v : ByteArray => v.data.toList) e
  simp only [Lib.extract_data] at h1
  rw [J.size, show (b.data.toList.drop 1).take 4 = [x, y, z, u] from h1]
/-- What told answers. -/
def toldF (b : ByteArray) : Int × Bool := if J.told b.data.toList = true then (((J.size b.data.toList + 9 : Nat) : Int), true) else (0, false)
set_option maxRecDepth 100000 in
set_option maxHeartbeats 2000000 in
theorem jTold (b : ByteArray) (hs : b.size ≤ maxLen) (w : World) : Calls Try.prog 36 #[.string b] w fun e w' => e = .returned (.tuple #[.int .i64 (toldF b).1, .bool (toldF b).2]) ∧ Below w.heap.size w w' := by
  have hl : b.data.toList.length = b.size := by simp
  unfold maxLen at hs
  by_cases h9 : 9 ≤ b.size
  · have hd9 : decide ((b.size : Int) < 9) = false := by simp; omega
    have hi0 : 0 < b.size := by omega
    have hj0 : (0 : Int) < (b.size : Int) := by omega
    by_cases h52 : b.data.toList.getD 0 0 = 52
    · have hq : ((b[0].toNat : Int) != 52) = false := by rw [at_first b hi0, h52]; rfl
      obtain ⟨x, y, z, u, e, hg⟩ := head_four b h9
      have hlt := (CrcM.get [x, y, z, u]).isLt
      have hj5 : (5 : Int) ≤ (b.size : Int) := by omega
      by_cases hsz : J.size b.data.toList ≤ 4096
      · have hd1 : decide (4096 < ((CrcM.get [x, y, z, u]).toNat : Int)) = false := by rw [decide_eq_false_iff_not]; omega
        by_cases hroom : J.size b.data.toList + 9 ≤ b.size
        · have ht : J.told b.data.toList = true := by
            rw [J.told, h52, hl, decide_eq_true h9, decide_eq_true hsz, decide_eq_true hroom]; rfl
          rw [toldF, if_pos ht]
          have hd2 : decide ((b.size : Int) - 9 < ((CrcM.get [x, y, z, u]).toNat : Int)) = false := by rw [decide_eq_false_iff_not]; omega
          have hr : ((J.size b.data.toList + 9 : Nat) : Int) = 9 + ((CrcM.get [x, y, z, u]).toNat : Int) := by omega
          have hwr : wrap64 (9 + ((CrcM.get [x, y, z, u]).toNat : Int)) = 9 + ((CrcM.get [x, y, z, u]).toNat : Int) := by unfold wrap64; omega
          have hwi : wrap64 ((CrcM.get [x, y, z, u]).toNat : Int) = ((CrcM.get [x, y, z, u]).toNat : Int) := by unfold wrap64; omega
          dsimp only
          rw [hr]
          clear hr ht hsz hroom
          have HE := Lib.hid e
          clear e hg hlt h52 hl
          go_enter Try.func36, Try.ntmps36
          go_wp2_with (go_at_call 44; rw [HE.out]; refine (crcGet4 x y z u _).mono ?_; rintro e w1 ⟨rfl, hb1⟩)
          go_ret2
          exact ⟨rfl, hb1⟩
        · have ht : J.told b.data.toList = false := by
            rw [J.told, h52, hl, decide_eq_true h9, decide_eq_true hsz, decide_eq_false hroom]; rfl
          rw [toldF, if_neg (by rw [ht]; simp)]
          have hd2 : decide ((b.size : Int) - 9 < ((CrcM.get [x, y, z, u]).toNat : Int)) = true := by rw [decide_eq_true_iff]; omega
          have hwi : wrap64 ((CrcM.get [x, y, z, u]).toNat : Int) = ((CrcM.get [x, y, z, u]).toNat : Int) := by unfold wrap64; omega
          clear ht hsz hroom
          have HE := Lib.hid e
          clear e hg hlt h52 hl
          go_enter Try.func36, Try.ntmps36
          go_wp2_with (go_at_call 44; rw [HE.out]; refine (crcGet4 x y z u _).mono ?_; rintro e w1 ⟨rfl, hb1⟩)
          go_ret2
          exact ⟨rfl, hb1⟩
      · have ht : J.told b.data.toList = false := by
          rw [J.told, h52, hl, decide_eq_true h9, decide_eq_false hsz]; rfl
        rw [toldF, if_neg (by rw [ht]; simp)]
        have hd1 : decide (4096 < ((CrcM.get [x, y, z, u]).toNat : Int)) = true := by rw [decide_eq_true_iff]; omega
        clear ht hsz
        have HE := Lib.hid e
        clear e hg hlt h52 hl
        go_enter Try.func36, Try.ntmps36
        go_wp2_with (go_at_call 44; rw [HE.out]; refine (crcGet4 x y z u _).mono ?_; rintro e w1 ⟨rfl, hb1⟩)
        go_ret2
        exact ⟨rfl, hb1⟩
    · have hn : ¬ b[0].toNat = 52 := fun hx => by rw [at_first b hi0] at hx; exact h52 (UInt8.toNat_inj.1 hx)
      have hq : ((b[0].toNat : Int) != 52) = true := by rw [bne_iff_ne]; omega
      have ht : J.told b.data.toList = false := by
        rw [J.told, beq_eq_false_iff_ne.2 h52]; simp
      rw [toldF, if_neg (by rw [ht]; simp)]
      clear hn ht h52
      go_enter Try.func36, Try.ntmps36
      go_wp2
      go_ret2
      exact ⟨rfl, Below.refl _ _⟩
  · have hd9 : decide ((b.size : Int) < 9) = true := by simp; omega
    have ht : J.told b.data.toList = false := by
      rw [J.told, hl, decide_eq_false h9]; rfl
    rw [toldF, if_neg (by rw [ht]; simp)]
    go_enter Try.func36, Try.ntmps36
    go_wp2
    go_ret2
    exact ⟨rfl, Below.refl _ _⟩
end Go.Proofs.Ytfbponiiejanfaa
