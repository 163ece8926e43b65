/-
  The law BallotProposals: walked.
-/
import Derived.Test.YtigameebcicgpaaBtShown
namespace Go.Proofs.Ytigameebcicgpaa
open Go.RowKit Go.Shelf
attribute [local go_sem] Oper.semAt_some
set_option linter.unusedVariables false
set_option linter.unusedSimpArgs false

set_option maxRecDepth 100000 in
set_option maxHeartbeats 2000000 in
theorem lawProps8 (n : Int) (v0 : Value) (l : List Vi) (own : ByteArray) (w : World) (hT : VtIn w v0 l) (hl : l.length ≤ maxLen) (hsz : ∀ x ∈ l, x.2.2.size ≤ maxLen) (hown : own.size ≤ maxLen) : Calls Try.prog 4 #[.int .i64 n, v0, .string own] w fun e w' => e = .returned (.bool true) ∧ Below w.heap.size w w' := by
  obtain ⟨a0, c0, hv0, _⟩ := vtin_form hT
  generalize l.length = l0 at hv0
  have H1 := Lib.hid (fun W => lawShown8 W)
  have H2 := Lib.hid (fun (W : World) (hb : Below w.heap.size w W) => lawSome8 v0 l W (VtIn.below hT hb (Nat.le_refl _)) hl hsz)
  have H3 := Lib.hid (fun W => lawCut8 own hown W)
  have hsl := someOf_len l
  have HP := Lib.hid (fun (u : Value) (W : World) (hR : VtsR W u (someOf l)) => btProposal n u (someOf l) (cut41 own) W hR (by omega) (fun v hv => Nat.le_trans (someOf_small l v hv) (by decide)) (Nat.le_trans (cut41_size own) (by decide)))
  have HQ := Lib.hid (fun (u : Value) (W : World) (hR : VtsR W u (someOf l)) => refProposal n u (someOf l) (cut41 own) W hR (by omega) (fun v hv => Nat.le_trans (someOf_small l v hv) (by decide)) (Nat.le_trans (cut41_size own) (by decide)))
  have HD := Lib.hid (fun (u : Value) (W : World) (hR : VtsR W u (someOf l)) => btDecided u (someOf l) W hR (by omega) (fun v hv => Nat.le_trans (someOf_small l v hv) (by decide)))
  have HE := Lib.hid (fun (u : Value) (W : World) (hR : VtsR W u (someOf l)) => refDecided u (someOf l) W hR (by omega) (fun v hv => Nat.le_trans (someOf_small l v hv) (by decide)))
  clear hT hl hsz hown hsl
  generalize Bt.propS n (someOf l) (cut41 own) = pS at *
  generalize Bt.propE n (someOf l) (cut41 own) = pE at *
  generalize Bt.decS (someOf l) = dS at *
  generalize Bt.decB (someOf l) = dB at *
  generalize Bt.decE (someOf l) = dE at *
  subst hv0
  go_enter Try.func4, Try.ntmps4
  go_wp2_with (first
    | (go_at_call 10; refine (H1.out _).mono ?_; rintro e w1 ⟨rfl, hb1⟩)
    | (go_at_call 18; refine (H2.out _ hb1).mono ?_; rintro e w2 ⟨⟨u, rfl, hV⟩, hb2⟩; have hR2 := hV.toR; obtain ⟨a, c, hu, _⟩ := hV.form; generalize (someOf l).length = sl at hu; subst hu)
    | (go_at_call 11; refine (H3.out _).mono ?_; rintro e w3 ⟨rfl, rfl⟩)
    | (go_at_call 19; refine (HP.out _ _ hR2).mono ?_; rintro e w4 ⟨rfl, hb4⟩; have hR4 := hR2.below hb4)
    | (go_at_call 20; refine (HQ.out _ _ hR4).mono ?_; rintro e w5 ⟨rfl, hb5⟩; have hR5 := hR4.below hb5)
    | (go_at_call 21; refine (HD.out _ _ hR5).mono ?_; rintro e w6 ⟨rfl, hb6⟩; have hR6 := hR5.below hb6)
    | (go_at_call 22; refine (HE.out _ _ hR6).mono ?_; rintro e w7 ⟨rfl, hb7⟩))
  go_ret
  have hbb : Below w.heap.size w w7 := hb1.trans ((hb2.trans ((hb4.trans ((hb5.trans ((hb6.trans (hb7.mono hb6.size)).mono hb5.size)).mono hb4.size)).mono hb2.size)).mono hb1.size)
  exact ⟨by simp, hbb⟩
end Go.Proofs.Ytigameebcicgpaa
