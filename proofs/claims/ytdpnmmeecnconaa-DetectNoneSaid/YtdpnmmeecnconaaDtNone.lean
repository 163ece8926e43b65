/-
  The law DetectNone: walked.
-/
import Derived.Test.YtdpnmmeecnconaaDtShown
namespace Go.Proofs.Ytdpnmmeecnconaa
open Go.RowKit Go.Shelf
attribute [local go_sem] Oper.semAt_some
set_option linter.unusedVariables false
set_option linter.unusedSimpArgs false

set_option maxRecDepth 100000 in
set_option maxHeartbeats 4000000 in
theorem lawNone (k : Int) (t : Nat) (w : World) : Calls Try.prog 3 #[.int .i64 k, .int .u64 (t : Int)] w fun e w' => e = .returned (.bool true) ∧ Below w.heap.size w w' := by
  have H1 := Lib.hid (fun W => lawShown7 W)
  have H2 := Lib.hid (fun W => dtTickNil t W)
  have H3 := Lib.hid (fun W => dtHearNil k t W)
  have H4 := Lib.hid (fun W => dtLeaderNil W)
  have H5 := Lib.hid (fun W => dtSuspectsNil W)
  have H6 := Lib.hid (fun W => dtTimeoutNil k W)
  go_enter Try.func3, Try.ntmps3
  go_wp2_with (first
    | (go_at_call 8; refine (H1.out _).mono ?_; rintro e w1 ⟨rfl, hb1⟩)
    | (go_at_call 9; refine (H2.out _).mono ?_; rintro e w2 ⟨rfl, hb2⟩)
    | (go_at_call 10; refine (H3.out _).mono ?_; rintro e w3 ⟨rfl, rfl⟩)
    | (go_at_call 11; refine (H4.out _).mono ?_; rintro e w4 ⟨rfl, hb4⟩)
    | (go_at_call 12; refine (H5.out _).mono ?_; rintro e w5 ⟨⟨u, rfl, hN⟩, hb5⟩; obtain ⟨a, c, hu, _⟩ := hN.form; subst hu)
    | (go_at_call 13; refine (H6.out _).mono ?_; rintro e w6 ⟨rfl, rfl⟩))
  go_ret
  exact ⟨rfl, hb1.trans ((hb2.trans ((hb4.trans (hb5.mono hb4.size)).mono hb2.size)).mono hb1.size)⟩
theorem lawNoneW (k t : Int) (ht : (Lit.int .u64 t).wf = true) (w : World) : Calls Try.prog 3 #[.int .i64 k, .int .u64 t] w fun e w' => e = .returned (.bool true) ∧ Below w.heap.size w w' := by
  obtain ⟨x, rfl, _⟩ := u64_of_wf ht
  exact lawNone k x w
end Go.Proofs.Ytdpnmmeecnconaa
