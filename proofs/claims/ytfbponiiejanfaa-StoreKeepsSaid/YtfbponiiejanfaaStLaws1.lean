/-
  Layer 4's laws: shown, StoreNone: walked.
-/
import Derived.Test.YtfbponiiejanfaaStCalls
import Derived.Test.YtfbponiiejanfaaJSame
namespace Go.Proofs.Ytfbponiiejanfaa
open Go.RowKit Go.Shelf
attribute [local go_sem] Oper.semAt_some
set_option linter.unusedVariables false
set_option linter.unusedSimpArgs false

/-- The store of the first law, call by call. -/
def s1 : St := (newSt 100).wrote [97]
def s2 : St := { s1 with state := 1, keep := 3 }
def s3 : St := { s2.tore ((J.rec [98]).take 3) with state := 2, keep := 0 }
theorem s1_held : s1.held = 10 := by rw [s1, wrote_held _ _ rfl]; rfl
theorem s2_held : s2.held = 10 := s1_held
/-- From here on: what lay below B lies as it lay. -/
def Nx (S : St) (B n : Nat) (w w' : World) : Prop := ∃ v', Is S B v' w' ∧ Below n w w'
theorem Turns.nx {S0 S : St} {B n : Nat} {v : Value} {w0 w1 : World} (hI : Is S0 B v w0) (h : Turns S B v w0 w1) (hn : n ≤ B) : Nx S B n w0 w1 := h.below hI hn
theorem same_one (u : Value) (w : World) (h : Texts w u [[97]]) :
    Calls Try.prog 16 #[u, .slice (some ⟨w.heap.size, 0, none⟩) 1 1] (w.alloc (.cells #[.string ⟨#[97]⟩] 9)) fun e w' => e = .returned (.bool true) ∧ Below w.heap.size w w' := by
  have hb : Below w.heap.size w (w.alloc (.cells #[.string ⟨#[97]⟩] 9)) := (Below.refl _ w).alloc (Nat.le_refl _) _
  have hA := (h.below hb (Nat.le_refl _)).toO
  have hB : TextsO (w.alloc (.cells #[.string ⟨#[97]⟩] 9)) (.slice (some ⟨w.heap.size, 0, none⟩) 1 1) [[97]] := .inr ⟨w.heap.size, 0, 1, rfl, by simp, fun j hj => by
    have : j = 0 := by simpa using hj
    subst this
    exact (Boxed.new w 9 (.string ⟨#[97]⟩)).cell⟩
  have := refSame u _ [[97]] [[97]] _ hA hB (by simp)
  rw [decide_eq_true rfl] at this
  exact this.mono fun e w' ⟨h1, h2⟩ => ⟨h1, hb.trans (h2.mono (by simp))⟩
set_option maxRecDepth 100000 in
set_option maxHeartbeats 2000000 in
theorem lawShown (w : World) : Calls Try.prog 7 #[] w fun e w' => e = .returned (.bool true) ∧ Below w.heap.size w w' := by
  have HN : Hid (∀ W, Calls Try.prog 14 #[.int .i64 100] W fun e w' => e = .returned (.tuple #[.pointer (some ⟨W.heap.size, 0, none⟩), .int .i64 0]) ∧ Is (newSt 100) W.heap.size (.slice none 0 0) w' ∧ Below W.heap.size W w') := Lib.hid (fun W => stNew 100 (by decide) (by decide) W)
  have HM : Hid (∀ W, Calls Try.prog 14 #[.int .i64 63] W fun e w' => e = .returned (.tuple #[.pointer none, .int .i64 2]) ∧ Below W.heap.size W w') := Lib.hid (fun W => stNewNo 63 (by decide) W)
  have HA := Lib.hid (fun (v : Value) (W : World) (h : Is (newSt 100) w.heap.size v W) => (writeYes (newSt 100) w.heap.size v ⟨#[97]⟩ W h rfl rfl (by decide) (by decide)).mono fun e w' ⟨h1, h2⟩ => (⟨h1, h2.nx h (Nat.le_refl _)⟩ : _ ∧ Nx s1 w.heap.size w.heap.size W w'))
  have HC : Hid (∀ v W, Is s1 w.heap.size v W → Calls Try.prog 11 #[.pointer (some ⟨w.heap.size, 0, none⟩), .int .i64 3] W fun e w' => e = .returned (.int .i64 0) ∧ Nx s2 w.heap.size w.heap.size W w') := Lib.hid (fun (v : Value) (W : World) (h : Is s1 w.heap.size v W) => (stCut s1 w.heap.size v 3 W h (by decide)).mono fun e w' ⟨h1, h2⟩ => (⟨h1, h2.nx h (Nat.le_refl _)⟩ : _ ∧ Nx s2 w.heap.size w.heap.size W w'))
  have HB := Lib.hid (fun (v : Value) (W : World) (h : Is s2 w.heap.size v W) => (writeTorn s2 w.heap.size v ⟨#[98]⟩ 3 W h rfl rfl rfl (by decide) (by rw [s2_held]; decide) (by decide)).mono fun e w' ⟨h1, h2⟩ => (⟨h1, h2.nx h (Nat.le_refl _)⟩ : _ ∧ Nx s3 w.heap.size w.heap.size W w'))
  have HD := Lib.hid (fun (v : Value) (W : World) (h : Is s3 w.heap.size v W) => (writeDown s3 w.heap.size v ⟨#[99]⟩ W h rfl).mono fun e w' ⟨h1, h2⟩ => (⟨h1, h2.nx h (Nat.le_refl _)⟩ : _ ∧ Nx s3 w.heap.size w.heap.size W w'))
  have HR := Lib.hid (fun (v : Value) (W : World) (h : Is s3 w.heap.size v W) => (stRecover s3 w.heap.size v W h).mono fun e w' ⟨⟨u, h1, h2, h3⟩, h4⟩ => (⟨⟨u, h1, h2, h3⟩, h4.turns.nx h (Nat.le_refl _)⟩ : (∃ u, e = Ending.returned (.tuple #[.string ⟨#[]⟩, u, .int .i64 0]) ∧ Texts w' u [[97]] ∧ ∀ g, u.ownBlock = some g → W.heap.size ≤ g) ∧ Nx s3.fresh w.heap.size w.heap.size W w'))
  go_enter Try.func7, Try.ntmps7
  go_wp2_with (first
    | (go_at_call 14; have H := HN; refine (H.out _).mono ?_; clear H HN; rintro e w1 ⟨rfl, hI, hb⟩)
    | (go_at_call 9; have H := HA; refine (H.out _ _ hI).mono ?_; clear H HA; rintro e w2 ⟨rfl, v2, hI2, hb2⟩; replace hb := hb.trans hb2; clear hb2)
    | (go_at_call 11; refine (HC.out _ _ hI2).mono ?_; rintro e w3 ⟨rfl, v3, hI3, hb3⟩; replace hb := hb.trans hb3; clear hb3)
    | (go_at_call 9; have H := HB; refine (H.out _ _ hI3).mono ?_; clear H HB; rintro e w4 ⟨rfl, v4, hI4, hb4⟩; replace hb := hb.trans hb4; clear hb4)
    | (go_at_call 9; have H := HD; refine (H.out _ _ hI4).mono ?_; clear H HD; rintro e w5 ⟨rfl, v5, hI5, hb5⟩; replace hb := hb.trans hb5; clear hb5)
    | (go_at_call 8; refine (HR.out _ _ hI5).mono ?_; rintro e w6 ⟨⟨u, rfl, hTu, hfu⟩, v6, hI6, hb6⟩; replace hb := hb.trans hb6; clear hb6)
    | (go_at_call 14; have H := HM; refine (H.out _).mono ?_; clear H HM; rintro e w7 ⟨rfl, hb7⟩; have hTu7 := hTu.below hb7 (Nat.le_refl _); replace hb := hb.trans (hb7.mono hb.size))
    | (go_at_call 16; refine (same_one u w7 hTu7).mono ?_; rintro e w8 ⟨rfl, hb8⟩))
  go_ret
  exact ⟨rfl, hb.trans (hb8.mono hb.size)⟩
theorem lawNone (d : ByteArray) (n : Int) (w : World) : Calls Try.prog 3 #[.string d, .int .i64 n] w fun e w' => e = .returned (.bool true) ∧ Below w.heap.size w w' := by
  go_enter Try.func3, Try.ntmps3
  go_wp2_with (first
    | (go_at_call 7; refine (lawShown _).mono ?_; rintro e w1 ⟨rfl, hb⟩)
    | (go_at_call 8; refine (nilRecover _).mono ?_; rintro e w2 ⟨rfl, rfl⟩)
    | (go_at_call 9; refine (nilWrite _ _).mono ?_; rintro e w2 ⟨rfl, rfl⟩)
    | (go_at_call 10; refine (nilSnapshot _ _).mono ?_; rintro e w2 ⟨rfl, rfl⟩)
    | (go_at_call 11; refine (nilCut _ _).mono ?_; rintro e w2 ⟨rfl, rfl⟩)
    | (go_at_call 12; refine (nilHolds _).mono ?_; rintro e w2 ⟨rfl, rfl⟩)
    | (go_at_call 13; refine (nilRecords _).mono ?_; rintro e w2 ⟨rfl, rfl⟩))
  go_ret
  exact ⟨rfl, hb⟩
end Go.Proofs.Ytfbponiiejanfaa
