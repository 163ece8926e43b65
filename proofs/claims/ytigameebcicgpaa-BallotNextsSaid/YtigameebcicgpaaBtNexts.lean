/-
  The law BallotNexts: walked.
-/
import Derived.Test.YtigameebcicgpaaBtShown
namespace Go.Proofs.Ytigameebcicgpaa
open Go.RowKit Go.Shelf
attribute [local go_sem] Oper.semAt_some
set_option linter.unusedVariables false
set_option linter.unusedSimpArgs false

set_option maxRecDepth 100000 in
set_option maxHeartbeats 2000000 in
theorem lawNexts8 (b : Nat) (node : Int) (w : World) : Calls Try.prog 5 #[.int .u64 (b : Int), .int .i64 node] w fun e w' => e = .returned (.bool true) ∧ Below w.heap.size w w' := by
  have H1 := Lib.hid (fun W => lawShown8 W)
  have h2 := fun W => btNext b node W
  have h3 := fun W => refNext b node W
  by_cases he : Bt.nextE b node = 0
  · obtain ⟨p1, p2, p3⟩ := Bt.nextV_props he
    have hb60 : b ≤ 1152921504606846976 := by
      unfold Bt.nextE at he
      split at he
      · rename_i hh; exact hh.2.2
      · cases he
    generalize Bt.nextV b node = N at *
    rw [he] at h2 h3
    have H2 := Lib.hid h2
    have H3 := Lib.hid h3
    have hn0 : 0 ≤ node ∧ node ≤ 15 := by omega
    have m1 : decide ((b : Int) < (N : Int)) = true := decide_eq_true (by omega)
    have m1' : (b : Int) < (N : Int) := by omega
    have m2 : (N : Int) % 16 = node := by omega
    have m2' : (N : Int).tmod 16 = node := by rw [Int.tmod_eq_emod_of_nonneg (by omega)]; exact m2
    have m3 : IntKind.u64.wrap node = node := IntWalk.u64_in _ (by omega)
    have m4 : IntKind.u64.wrap ((N : Int) - (b : Int)) = (N : Int) - (b : Int) := IntWalk.u64_in _ (by omega)
    have m5 : decide ((N : Int) - (b : Int) ≤ 16) = true := decide_eq_true (by omega)
    have m5' : (N : Int) - (b : Int) ≤ 16 := by omega
    clear p1 p2 p3 hb60 he h2 h3 hn0
    go_enter Try.func5, Try.ntmps5
    go_wp2_with (first
      | (go_at_call 10; refine (H1.out _).mono ?_; rintro e w1 ⟨rfl, hb1⟩)
      | (go_at_call 23; refine (H2.out _).mono ?_; rintro e w2 ⟨rfl, hb2⟩)
      | (go_at_call 24; refine (H3.out _).mono ?_; rintro e w3 ⟨rfl, rfl⟩))
    go_ret
    exact ⟨rfl, hb1.trans (hb2.mono hb1.size)⟩
  · have hV : Bt.nextV b node = 0 := by unfold Bt.nextV; rw [if_neg he]
    have hE : Bt.nextE b node = 2 := by
      unfold Bt.nextE at he ⊢
      split
      · rename_i hh; rw [if_pos hh] at he; exact absurd rfl he
      · rfl
    rw [hV, hE] at h2 h3
    have H2 := Lib.hid h2
    have H3 := Lib.hid h3
    clear he hV hE h2 h3
    go_enter Try.func5, Try.ntmps5
    go_wp2_with (first
      | (go_at_call 10; refine (H1.out _).mono ?_; rintro e w1 ⟨rfl, hb1⟩)
      | (go_at_call 23; refine (H2.out _).mono ?_; rintro e w2 ⟨rfl, hb2⟩)
      | (go_at_call 24; refine (H3.out _).mono ?_; rintro e w3 ⟨rfl, rfl⟩))
    go_ret
    exact ⟨rfl, hb1.trans (hb2.mono hb1.size)⟩
theorem lawNexts8W (b node : Int) (hb : (Lit.int .u64 b).wf = true) (w : World) : Calls Try.prog 5 #[.int .u64 b, .int .i64 node] w fun e w' => e = .returned (.bool true) ∧ Below w.heap.size w w' := by
  obtain ⟨x, rfl, _⟩ := u64_of_wf hb
  exact lawNexts8 x node w
end Go.Proofs.Ytigameebcicgpaa
