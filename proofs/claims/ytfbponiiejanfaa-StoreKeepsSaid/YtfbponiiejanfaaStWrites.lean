/-
  (*Store).Write, Snapshot: walked.
-/
import Derived.Test.YtfbponiiejanfaaStWrite
import Derived.Deep.RegionHeld3
namespace Go.Proofs.Ytfbponiiejanfaa
open Go.RowKit Go.Shelf
attribute [local go_sem] Oper.semAt_some
set_option linter.unusedVariables false
set_option linter.unusedSimpArgs false

theorem Is.drew {S : St} {B : Nat} {v : Value} {w : World} (h : Is S B v w) : Is S B v w.drew := h.below (Below.refl _ w).drew
set_option maxRecDepth 100000 in
theorem stWrite (S S' : St) (B : Nat) (v : Value) (d : ByteArray) (n : Int) (w : World) (h : Is S B v w)
    (HC : ∀ W, Is S B v W → Calls Try.prog 19 #[.pointer (some ⟨B, 0, none⟩), .string d, .int .i64 (S.held : Int), .func (.func 20) #[.pointer (some ⟨B, 0, none⟩)] #[]] W fun e w' => e = .returned (.int .i64 n) ∧ Turns S' B v W w') :
    Calls Try.prog 9 #[.pointer (some ⟨B, 0, none⟩), .string d] w fun e w' => e = .returned (.int .i64 n) ∧ Turns S' B v w w' := by
  have hc : w.drew.cell? ⟨B, 2, none⟩ = some (.int .i64 (S.held : Int)) := h.drew.cell 2 _ rfl
  have H := Lib.hid (HC w.drew h.drew)
  clear HC
  generalize (S.held : Int) = q at *
  go_enter Try.func9, Try.ntmps9
  go_wp2
  go_region_with (go_at_call 19; refine H.out.mono ?_; rintro e w1 ⟨rfl, hT⟩)
  all_goals (go_wp2; go_ret; exact ⟨rfl, Turns.trans (Still.of_below (Below.refl _ w).drew) (fun g hg => .inl hg) hT⟩)
set_option maxRecDepth 100000 in
theorem stSnapshot (S S' : St) (B : Nat) (v : Value) (d : ByteArray) (n : Int) (w : World) (h : Is S B v w)
    (HC : ∀ W, Is S B v W → Calls Try.prog 19 #[.pointer (some ⟨B, 0, none⟩), .string d, .int .i64 ((0 : Nat) : Int), .func (.func 21) #[.pointer (some ⟨B, 0, none⟩)] #[]] W fun e w' => e = .returned (.int .i64 n) ∧ Turns S' B v W w') :
    Calls Try.prog 10 #[.pointer (some ⟨B, 0, none⟩), .string d] w fun e w' => e = .returned (.int .i64 n) ∧ Turns S' B v w w' := by
  have H := Lib.hid (HC w h)
  clear HC
  go_enter Try.func10, Try.ntmps10
  go_wp2_with (go_at_call 19; refine H.out.mono ?_; rintro e w1 ⟨rfl, hT⟩)
  go_ret
  exact ⟨rfl, hT⟩
end Go.Proofs.Ytfbponiiejanfaa
