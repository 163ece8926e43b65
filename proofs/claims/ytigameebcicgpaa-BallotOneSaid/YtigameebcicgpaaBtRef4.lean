/-
  The document's Next; the law's cut, some: walked.
-/
import Derived.Test.YtigameebcicgpaaBtRef3
namespace Go.Proofs.Ytigameebcicgpaa
open Go.RowKit Go.Shelf
attribute [local go_sem] Oper.semAt_some
set_option linter.unusedVariables false
set_option linter.unusedSimpArgs false

set_option maxRecDepth 100000 in
set_option maxHeartbeats 1000000 in
theorem refNext (b : Nat) (node : Int) (w : World) : Calls Try.prog 24 #[.int .u64 (b : Int), .int .i64 node] w fun e w' => e = .returned (.tuple #[.int .u64 (Bt.nextV b node : Int), .int .i64 (Bt.nextE b node)]) ∧ w = w' := by
  have HE := Lib.hid (show Bt.nextE b node = if 0 ≤ node ∧ node ≤ 15 ∧ b ≤ 1152921504606846976 then 0 else 2 from rfl)
  have HV := Lib.hid (show Bt.nextV b node = if Bt.nextE b node = 0 then b + 1 + (node.toNat + 16 - (b + 1) % 16) % 16 else 0 from rfl)
  by_cases h1 : node < 0
  · have hE : Bt.nextE b node = 2 := by rw [HE.out, if_neg (by omega)]
    have hV : Bt.nextV b node = 0 := by rw [HV.out, hE]; rfl
    rw [hE, hV]
    have d1 : decide (node < 0) = true := decide_eq_true h1
    clear HE HV hE hV
    go_enter Try.func24, Try.ntmps24
    go_wp2
    go_ret2
    exact ⟨rfl, rfl⟩
  · have d1 : decide (node < 0) = false := decide_eq_false h1
    by_cases h2 : 16 ≤ node
    · have hE : Bt.nextE b node = 2 := by rw [HE.out, if_neg (by omega)]
      have hV : Bt.nextV b node = 0 := by rw [HV.out, hE]; rfl
      rw [hE, hV]
      have d2 : decide (16 ≤ node) = true := decide_eq_true h2
      clear HE HV hE hV
      go_enter Try.func24, Try.ntmps24
      go_wp2
      go_ret2
      exact ⟨rfl, rfl⟩
    · have d2 : decide (16 ≤ node) = false := decide_eq_false h2
      by_cases h3 : 1152921504606846976 < b
      · have hE : Bt.nextE b node = 2 := by rw [HE.out, if_neg (by omega)]
        have hV : Bt.nextV b node = 0 := by rw [HV.out, hE]; rfl
        rw [hE, hV]
        have d3 : decide ((1152921504606846976 : Int) < (b : Int)) = true := decide_eq_true (by omega)
        have d3' : (1152921504606846976 : Int) < (b : Int) := by omega
        clear HE HV hE hV
        go_enter Try.func24, Try.ntmps24
        go_wp2
        go_ret2
        exact ⟨rfl, rfl⟩
      · have hE : Bt.nextE b node = 0 := by rw [HE.out, if_pos (by omega)]
        have hV : Bt.nextV b node = b + 1 + (node.toNat + 16 - (b + 1) % 16) % 16 := by rw [HV.out, hE]; rfl
        have d3 : decide ((1152921504606846976 : Int) < (b : Int)) = false := decide_eq_false (by omega)
        have d3' : ¬ (1152921504606846976 : Int) < (b : Int) := by omega
        obtain ⟨m, rfl⟩ := Int.eq_ofNat_of_zero_le (show 0 ≤ node by omega)
        have hm : m ≤ 15 := by omega
        have hwm : IntKind.u64.wrap (m : Int) = (m : Int) := IntWalk.u64_in _ (by omega)
        have hw1 : IntKind.u64.wrap ((b : Int) + 1) = ((b + 1 : Nat) : Int) := by rw [IntWalk.u64_in _ (by omega)]; omega
        rw [hE]
        obtain ⟨N, hN⟩ : ∃ N, Bt.nextV b (m : Int) = N := ⟨_, rfl⟩
        rw [hN] at hV ⊢
        rw [Int.toNat_natCast] at hV
        have hN1 : b + 1 ≤ N ∧ N ≤ b + 17 ∧ N % 16 = m ∧ N < b + 1 + 16 := by omega
        have HN := Lib.hid hN1
        have HB := Lib.hid (show b ≤ 1152921504606846976 by omega)
        clear HE HV hE hV hN h1 h2 h3 hN1 hm
        go_enter Try.func24, Try.ntmps24
        go_wp2
        go_loopw [6] (fun c W => ∃ c' : Nat, b + 1 ≤ c' ∧ c' ≤ N ∧ c = .int .u64 (c' : Int) ∧ W = w) (fun c _ => N - (intOf c).toNat)
        case atStart => exact ⟨b + 1, Nat.le_refl _, HN.out.1, rfl, rfl⟩
        case round =>
          obtain ⟨c, hc1, hc2, rfl, rfl⟩ := hrel
          by_cases he : c = N
          · obtain rfl := he
            have m1 : (c : Int) % 16 = (m : Int) := by have := HN.out; omega
            have m2 : (c : Int).tmod 16 = (m : Int) := by rw [Int.tmod_eq_emod_of_nonneg (by omega)]; exact m1
            go_wp2
            go_ret2
            exact ⟨rfl, rfl⟩
          · have hlt : c < N := by omega
            have hne : ¬ c % 16 = m := by have := HN.out; omega
            have m1 : ¬ (c : Int) % 16 = (m : Int) := by omega
            have m2 : ¬ (c : Int).tmod 16 = (m : Int) := by rw [Int.tmod_eq_emod_of_nonneg (by omega)]; exact m1
            have m3 : ((c : Int) % 16 == (m : Int)) = false := beq_eq_false_iff_ne.2 m1
            have m4 : ((c : Int) % 16 != (m : Int)) = true := by rw [bne, m3]; rfl
            have hwc : IntKind.u64.wrap ((c : Int) + 1) = ((c + 1 : Nat) : Int) := by have := HN.out; have := HB.out; rw [IntWalk.u64_in _ (by omega)]; omega
            clear hne
            go_wp2
            go_roundw
            case rel => exact ⟨c + 1, by omega, by omega, rfl, trivial⟩
            case measure => simp [intOf]; omega
/-- A text's first 4100 bytes. -/
def cut41 (s : ByteArray) : ByteArray := s.extract 0 (min (s.size : Int) 4100).toNat
theorem cut41_size (s : ByteArray) : (cut41 s).size ≤ 4100 := by rw [cut41, ByteArray.size_extract]; omega
set_option maxRecDepth 100000 in
theorem lawCut8 (s : ByteArray) (hs : s.size ≤ maxLen) (w : World) : Calls Try.prog 11 #[.string s] w fun e w' => e = .returned (.string (cut41 s)) ∧ w = w' := by
  unfold maxLen at hs
  have h1 : ¬ (s.size : Int) < 0 := by omega
  unfold cut41
  by_cases h : (4100 : Int) < (s.size : Int)
  · have e : min (s.size : Int) 4100 = 4100 := by omega
    rw [e]
    go_enter Try.func11, Try.ntmps11
    go_wp2
    go_ret
    exact ⟨rfl, rfl⟩
  · have e : min (s.size : Int) 4100 = (s.size : Int) := by omega
    rw [e]
    go_enter Try.func11, Try.ntmps11
    go_wp2
    go_ret
    exact ⟨by simp, rfl⟩
end Go.Proofs.Ytigameebcicgpaa
