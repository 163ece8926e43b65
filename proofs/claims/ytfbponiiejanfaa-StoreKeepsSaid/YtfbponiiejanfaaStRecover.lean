/-
  medium.taken, (*Store).Recover: walked.
-/
import Derived.Test.YtfbponiiejanfaaStRepair
namespace Go.Proofs.Ytfbponiiejanfaa
open Go.RowKit Go.Shelf
attribute [local go_sem] Oper.semAt_some
set_option linter.unusedVariables false
set_option linter.unusedSimpArgs false

theorem mRepair (S : St) (B : Nat) (v : Value) (w : World) (h : Is S B v w) : Calls Try.prog 17 #[.pointer (some ⟨B, 0, none⟩)] w fun e w' =>
    (∃ u, e = .returned u ∧ Texts w' u S.ds ∧ ∀ g, u.ownBlock = some g → w.heap.size ≤ g) ∧ Shrinks S.mended B v w w' := by
  cases ht : S.torn with
  | none => exact mRepairNone S B v w h ht
  | some t => exact mRepairLast S B v w t h ht
/-- The snapshot's data, or none. -/
def St.told (S : St) : List UInt8 := match S.snap with | none => [] | some d => d
theorem mTaken (S : St) (B : Nat) (v : Value) (w : World) (h : Is S B v w) : Calls Try.prog 18 #[.pointer (some ⟨B, 0, none⟩)] w fun e w' => e = .returned (strV S.told) ∧ Below w.heap.size w w' := by
  have hc : w.cell? ⟨B, 0, none⟩ = some (strV S.mark) := h.cell 0 _ rfl
  cases hs : S.snap with
  | none =>
    have hm : S.mark = [] := by simp [St.mark, hs]
    have ht : S.told = [] := by simp [St.told, hs]
    have hr := fun W => jRead (txt []) (by rw [txt_size]; simp) W
    rw [txt_toList, J.read_nil.1, J.read_nil.2] at hr
    rw [hm] at hc
    rw [ht]
    have he : txt [] = ⟨#[]⟩ := rfl
    have HR := Lib.hid hr
    clear hr h hs hm ht
    go_enter Try.func18, Try.ntmps18
    go_wp2_with (go_at_call 24; refine (HR.out _).mono ?_; rintro e w1 ⟨⟨u, rfl, hTu⟩, hb1⟩; obtain ⟨ua, uc, rfl⟩ := texts_len' hTu)
    go_ret
    exact ⟨rfl, hb1⟩
  | some d =>
    have hd := h.ok.snap d hs
    have hm : S.mark = J.rec d := by simp [St.mark, hs]
    have ht : S.told = d := by simp [St.told, hs]
    obtain ⟨h1, h2⟩ := J.read_rec d [] hd
    rw [List.append_nil, J.read_nil.1] at h1
    rw [List.append_nil, J.read_nil.2] at h2
    have hr := fun W => jRead (txt (J.rec d)) (by rw [txt_size, J.rec_length]; omega) W
    rw [txt_toList, h1, h2] at hr
    rw [hm] at hc
    rw [ht]
    have HR := Lib.hid hr
    clear hr h hs hm ht h1 h2
    generalize J.rec d = l at *
    go_enter Try.func18, Try.ntmps18
    go_wp2_with (go_at_call 24; refine (HR.out _).mono ?_; rintro e w1 ⟨⟨u, rfl, hTu⟩, hb1⟩; rcases hTu with ⟨_, h0⟩ | ⟨g, c, rfl, hcc, hg, hx⟩; exact absurd h0 (by simp); have hcx : w1.cell? ⟨g, 0, none⟩ = some (strV d) := hx 0 (by simp))
    go_ret
    exact ⟨rfl, hb1⟩
/-- Behind a recovery. -/
def St.fresh (S : St) : St := { S with torn := none, state := 0, keep := 0 }
set_option maxRecDepth 100000 in
theorem stRecover (S : St) (B : Nat) (v : Value) (w : World) (h : Is S B v w) : Calls Try.prog 8 #[.pointer (some ⟨B, 0, none⟩)] w fun e w' =>
    (∃ u, e = .returned (.tuple #[strV S.told, u, .int .i64 0]) ∧ Texts w' u S.ds ∧ ∀ g, u.ownBlock = some g → w.heap.size ≤ g) ∧ Shrinks S.fresh B v w w' := by
  obtain ⟨hN, hS⟩ := h.next' 0 0
  have hc4 := h.cell 4 _ rfl
  have hc5 := h.cell 5 _ rfl
  have hf4 := h.thawed 4
  have hf5 := h.thawed 5
  have HI := Lib.hid h
  have HN := Lib.hid hN
  have HS := Lib.hid hS
  clear h hN hS
  have ed : St.ds { S with state := 0, keep := 0 } = S.ds := rfl
  go_enter Try.func8, Try.ntmps8
  go_wp2_with (first
    | (go_at_call 17; refine (mRepair _ B v _ HN.out).mono ?_; rintro e w1 ⟨⟨u, rfl, hTu, hfu⟩, ⟨v', hI', hv', hS'⟩⟩)
    | (go_at_call 18; refine (mTaken _ B v' _ hI').mono ?_; rintro e w2 ⟨rfl, hb2⟩))
  go_ret3
  exact ⟨⟨u, rfl, hTu.below hb2 (Nat.le_refl _), fun g hg => Nat.le_trans HS.out.size (hfu g hg)⟩, ⟨v', hI'.below hb2, hv', (HS.out.trans hS' (fun g hg => .inl hg)).trans (Still.of_below (o := v.ownBlock) hb2) (fun g hg => .inl hg)⟩⟩
end Go.Proofs.Ytfbponiiejanfaa
