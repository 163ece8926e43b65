/-
  Layer 5's laws: shown; a nil flight; FlightNone.
-/
import Derived.Test.YtialmaapahjchaaFlTake
import Derived.Test.YtialmaapahjchaaFlCopy
import Derived.Test.YtialmaapahjchaaFlHurt
import Derived.Test.YtialmaapahjchaaFlOldest
namespace Go.Proofs.Ytialmaapahjchaa
open Go.RowKit Go.Shelf
attribute [local go_sem] Oper.semAt_some
set_option linter.unusedVariables false
set_option linter.unusedSimpArgs false

theorem Fl.Turns.low {k : Bool} {F0 F : Fl} {B n : Nat} {v : Value} {w0 w1 : World} (hI : Fl.Is k F0 B v w0) (h : Fl.Turns k F B v w0 w1) (hn : n ≤ B) : ∃ v', Fl.Is k F B v' w1 ∧ Below n w0 w1 := by
  obtain ⟨v', h1, h2, h3⟩ := h
  have hB := hI.lt
  exact ⟨v', h1, h3.below (by omega) hn (fun g hg => by have := (hI.own.lt g hg).1; omega)⟩
def exS : ByteArray := ⟨#[120]⟩
def sh1 : Fl := ⟨[⟨1, 3, exS⟩], 1⟩
def sh2 : Fl := ⟨[⟨1, 3, exS⟩, ⟨2, 3, exS⟩], 2⟩
def sh3 : Fl := ⟨[⟨1, 3, exS⟩], 2⟩
theorem shSend (B : Nat) (v : Value) (w : World) (h : Fl.Is true Fl.new B v w) : Calls Try.prog 17 #[.pointer (some ⟨B, 0, none⟩), .int .i64 3, .string ⟨#[120]⟩] w fun e w' =>
    e = .returned (.tuple #[.int .u32 1, .int .i64 0]) ∧ Fl.Turns true sh1 B v w w' := flSend Fl.new B v 3 exS w h (by decide)
theorem shCopy (B : Nat) (v : Value) (w : World) (h : Fl.Is true sh1 B v w) : Calls Try.prog 19 #[.pointer (some ⟨B, 0, none⟩), .int .i64 0] w fun e w' =>
    e = .returned (.tuple #[.int .u32 2, .int .i64 0]) ∧ Fl.Turns true sh2 B v w w' := flCopy sh1 B v 0 w h
theorem shTake (B : Nat) (v : Value) (w : World) (h : Fl.Is true sh2 B v w) : Calls Try.prog 18 #[.pointer (some ⟨B, 0, none⟩), .int .i64 1] w fun e w' =>
    e = .returned (.tuple #[.agg #[.int .u32 2, .int .i64 3, .string ⟨#[120]⟩], .int .i64 0]) ∧ Fl.Turns true sh3 B v w w' := flTake sh2 B v 1 w h
theorem shTake2 (B : Nat) (v : Value) (w : World) (h : Fl.Is true sh3 B v w) : Calls Try.prog 18 #[.pointer (some ⟨B, 0, none⟩), .int .i64 1] w fun e w' =>
    e = .returned (.tuple #[.agg #[.int .u32 0, .int .i64 0, .string ⟨#[]⟩], .int .i64 2]) ∧ Fl.Turns true sh3 B v w w' := flTake sh3 B v 1 w h
set_option maxRecDepth 100000 in
set_option maxHeartbeats 4000000 in
theorem lawShown5 (w : World) : Calls Try.prog 10 #[] w fun e w' => e = .returned (.bool true) ∧ Below w.heap.size w w' := by
  have HT1 := Lib.hid shTake
  have HT2 := Lib.hid shTake2
  go_enter Try.func10, Try.ntmps10
  go_wp2_with (first
    | (go_at_call 11; refine (flNew _).mono ?_; rintro e w1 ⟨rfl, hI1, hb1⟩)
    | (go_at_call 17; refine (shSend _ _ _ hI1).mono ?_; rintro e w2 ⟨rfl, hT2⟩; obtain ⟨v2, hI2, hb2⟩ := hT2.low hI1 (Nat.le_refl _))
    | (go_at_call 19; refine (shCopy _ _ _ hI2).mono ?_; rintro e w3 ⟨rfl, hT3⟩; obtain ⟨v3, hI3, hb3⟩ := hT3.low hI2 (Nat.le_refl _))
    | (go_at_call 18; have H := HT1; refine (H.out _ _ _ hI3).mono ?_; clear H HT1; rintro e w4 ⟨rfl, hT4⟩; obtain ⟨v4, hI4, hb4⟩ := hT4.low hI3 (Nat.le_refl _); have hlt4 := Lib.hid (fun g (e : v4.ownBlock = some g) => (hI4.own.lt g e).2); have hB4 := hI4.lt; have hI4 := hI4.below ((Below.refl _ w4).alloc (Nat.le_refl _) (.cells #[.int .u32 2, .int .i64 3, .string ⟨#[120]⟩] 42)))
    | (go_at_call 18; have H := HT2; refine (H.out _ _ _ hI4).mono ?_; clear H HT2; rintro e w5 ⟨rfl, hT5⟩; obtain ⟨v5, hI5, hb5⟩ := hT5.low hI4 (Nat.le_refl _); obtain ⟨_, _, _, hs5⟩ := hT5; have r5 := (hs5.block w4.heap.size (by simp) (by omega) (fun e => by have := hlt4.out _ e; omega)).trans (World.alloc_heap_new w4 _); have q0 : w5.cell? ⟨w4.heap.size, 0, none⟩ = some (.int .u32 2) := (by simp [World.cell?, r5]); have q1 : w5.cell? ⟨w4.heap.size, 1, none⟩ = some (.int .i64 3) := (by simp [World.cell?, r5]); have q2 : w5.cell? ⟨w4.heap.size, 2, none⟩ = some (.string ⟨#[120]⟩) := (by simp [World.cell?, r5]); have hB5 : w4.heap.size < w5.heap.size := (Array.getElem?_eq_some_iff.1 r5).1; clear r5))
  go_ret
  have hb34 := hb3.trans hb4
  have h4 : w.heap.size ≤ w4.heap.size := by omega
  exact ⟨rfl, (((hb1.trans (hb2.trans hb34)).alloc h4 _).trans hb5).alloc (by omega) _⟩
end Go.Proofs.Ytialmaapahjchaa
