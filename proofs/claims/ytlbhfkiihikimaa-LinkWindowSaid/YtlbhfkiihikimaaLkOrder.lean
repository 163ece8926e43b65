/-
  The law LinkOrder: walked.
-/
import Derived.Test.YtlbhfkiihikimaaLkEnded
import Derived.Test.YtlbhfkiihikimaaLkShown
import Derived.Deep.DeepCutAuto
namespace Go.Proofs.Ytlbhfkiihikimaa
open Go.RowKit Go.Shelf
attribute [local go_sem] Oper.semAt_some
set_option linter.unusedVariables false
set_option linter.unusedSimpArgs false

set_option maxRecDepth 100000 in
set_option maxHeartbeats 4000000 in
/-- A window that is not one. -/
theorem lawEndedNo (win : Int) (v0 : Value) (h : win < 1 ∨ 64 < win) (w : World) : Calls Try.prog 14 #[.int .i64 win, v0] w fun e w' =>
    e = .returned (.tuple #[.slice none 0 0, .slice none 0 0, .pointer none, .pointer none, .bool false]) ∧ Below w.heap.size w w' := by
  have N1 := fun W => lkNewNo 1 2 2 win 3 (by decide) (by decide) rfl (.inr rfl) h W
  have N2 := fun W => lkNewNo 2 1 2 win 4 (by decide) (by decide) rfl (.inr rfl) h W
  have H1 := Lib.hid (show ∀ W, Calls Try.prog 10 #[.int .i64 1, .int .i64 2, .int .i64 2, .int .i64 win, .int .u32 3] W _ from N1)
  have H2 := Lib.hid (show ∀ W, Calls Try.prog 10 #[.int .i64 2, .int .i64 1, .int .i64 2, .int .i64 win, .int .u32 4] W _ from N2)
  clear N1 N2
  go_enter Try.func14, Try.ntmps14
  go_wp2_with (first
    | (go_at_call 10; have H := H1; clear H1; refine (H.out _).mono ?_; rintro e w1 ⟨rfl, hb1⟩)
    | (go_at_call 10; have H := H2; clear H2; refine (H.out _).mono ?_; rintro e w2 ⟨rfl, hb2⟩))
  refine bodyPost_ret (v := .tuple #[.slice none 0 0, .slice none 0 0, .pointer none, .pointer none, .bool false]) ?_ rfl ⟨rfl, hb1.trans (hb2.mono hb1.size)⟩
  simp [results, Try.results14, go_sem]
/-- What the laws begin with, behind a script. -/
theorem fits100 {win : Int} (hW : 1 ≤ win ∧ win ≤ 64) (l : List Sc) : Ws.Fits win 100 (Ws.run win ((l.take 100).map spOf)) :=
  (Ws.run_fits hW ((l.take 100).map spOf) (by simp; omega)).mono (by simp; omega)
theorem Words.first {w : World} {base : Nat} {ax : Option Addr} {n c : Nat} {l : List ByteArray} (h : Words w base (.slice ax n c) l) (k : Nat) (hk : k ≤ l.length) : TextsW w (.slice ax k c) (l.take k) := by
  rcases h.part with ⟨h1, h2⟩ | ⟨g, o, c', h1, h2, h3⟩
  · rw [h2] at hk
    obtain rfl : k = 0 := by simpa using hk
    simp only [Value.slice.injEq] at h1
    obtain ⟨rfl, rfl, rfl⟩ := h1
    exact .inl ⟨rfl, by simp⟩
  · simp only [Value.slice.injEq] at h1
    obtain ⟨rfl, rfl, rfl⟩ := h1
    have hl : (l.take k).length = k := by rw [List.length_take]; omega
    refine .inr ⟨g, o, c, by rw [hl], h2, fun j hj => ?_⟩
    rw [hl] at hj
    rw [h3 j (by omega)]
    simp
set_option maxRecDepth 100000 in
set_option maxHeartbeats 4000000 in
theorem orderYes (win : Int) (v0 : Value) (l : List Sc) (w : World) (hW : 1 ≤ win ∧ win ≤ 64) (hT : LkSteps w v0 l) (hll : l.length ≤ maxLen) (hsz : ∀ x ∈ l, x.2.2.size ≤ maxLen) : Calls Try.prog 4 #[.int .i64 win, v0] w fun e w' => e = .returned (.bool true) ∧ Below w.heap.size w w' := by
  have HEN := Lib.hid (fun (W : World) (hb : Below w.heap.size w W) => lawEnded win v0 l W hW (hT.below hb (Nat.le_refl _)) hll hsz)
  have HF := Lib.hid (fits100 hW l)
  clear hT hll hsz hW
  generalize Ws.run win ((l.take 100).map spOf) = S at *
  go_enter Try.func4, Try.ntmps4
  go_upto_region 5 with (first
    | (go_at_call 8; refine (lawShown6 _).mono ?_; rintro e w1 ⟨rfl, hb1⟩)
    | (go_at_call 14; refine (HEN.out _ hb1).mono ?_; rintro e w2 ⟨a, ma, b, mb, wv, sv, cv, rfl, hM⟩))
  have hcl : S.came.length ≤ S.sent.length := by rw [HF.out.came, List.length_take]; omega
  have hce : S.came = S.sent.take S.came.length := by have h1 := HF.out.came; have h2 := HF.out.got; rw [h1]; rw [List.length_take, Nat.min_eq_left h2]
  obtain ⟨ax, cs, rfl, hsc⟩ := hM.sent.form
  obtain ⟨ac, cc, rfl, hcc⟩ := hM.came.form
  have hA := hM.came.part
  have hB := hM.sent.first S.came.length hcl
  rw [← hce] at hB
  have hfew : S.came.length ≤ 100000 := by have := HF.out.few; omega
  have hSM := refSame _ _ _ _ _ hA hB hfew
  rw [decide_eq_true rfl] at hSM
  have HSM := Lib.hid hSM
  have hcap : S.came.length ≤ cs := by omega
  have HM := Lib.hid (hb1.trans (hM.bel.mono hb1.size))
  clear hA hB hfew hSM hce hM hsc hcc
  generalize S.came.length = nc at *
  generalize S.sent.length = ns at *
  have hle : decide ((nc : Int) ≤ (ns : Int)) = true := decide_eq_true (by omega)
  have hle2 : decide (nc ≤ ns) = true := decide_eq_true hcl
  go_wp2_with (go_at_call 15; refine HSM.out.mono ?_; rintro e w3 ⟨rfl, hb3⟩)
  go_ret
  exact ⟨rfl, HM.out.trans (hb3.mono HM.out.size)⟩
theorem lawOrder6 (win : Int) (v0 : Value) (l : List Sc) (w : World) (hT : LkSteps w v0 l) (hll : l.length ≤ maxLen) (hsz : ∀ x ∈ l, (x.1 ≤ 2 ^ 63 - 1 ∧ x.2.1 ≤ 2 ^ 63 - 1 ∧ x.2.2.size ≤ maxLen)) : Calls Try.prog 4 #[.int .i64 win, v0] w fun e w' => e = .returned (.bool true) ∧ Below w.heap.size w w' := by
  by_cases hW : 1 ≤ win ∧ win ≤ 64
  · exact orderYes win v0 l w hW hT hll (fun x hx => (hsz x hx).2.2)
  · have HN := Lib.hid (fun W => lawEndedNo win v0 (by omega) W)
    clear hT hll hsz hW
    go_enter Try.func4, Try.ntmps4
    go_wp2_with (first
      | (go_at_call 8; refine (lawShown6 _).mono ?_; rintro e w1 ⟨rfl, hb1⟩)
      | (go_at_call 14; refine (HN.out _).mono ?_; rintro e w2 ⟨rfl, hb2⟩))
    go_ret
    exact ⟨rfl, hb1.trans (hb2.mono hb1.size)⟩
end Go.Proofs.Ytlbhfkiihikimaa
