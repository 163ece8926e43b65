/-
  What the laws of layer 6 begin with: shown; walked.
-/
import Derived.Test.YtlbhfkiihikimaaLkMem
import Derived.LoopTactic
namespace Go.Proofs.Ytlbhfkiihikimaa
open Go.RowKit Go.Shelf
attribute [local go_sem] Oper.semAt_some
set_option linter.unusedVariables false
set_option linter.unusedSimpArgs false

theorem Mem.came_new {a ma b mb n : Nat} {S : Ws} {wv sv cv cv' : Value} {w W : World} (h : Mem a ma b mb n S wv sv cv w W) (hsv : sv.ownBlock = none) {l : List ByteArray} (ho : Words W n cv' l) : Mem a ma b mb n { S with came := l } wv sv cv' w W :=
  ⟨h.pair, h.way, h.sent, ho, (fun g e => by rw [hsv] at e; cases e), h.bel⟩
namespace Sh
def x : ByteArray := ⟨#[120]⟩
def F : Fr := ⟨1, 1, 1, 2, 1, 1, 0, 0, x⟩
def s0 : Ws := ⟨Lk.new 1 2 1 4 1, Lk.new 2 1 1 4 1, [], [], []⟩
def s1 : Ws := { s0 with a := s0.a.send x }
def s2 : Ws := { s1 with way := [F] }
def s3 : Ws := { { s2 with b := s2.b.recv F } with came := [x] }
def s4 : Ws := { s3 with b := s3.b.recv F }
theorem e1 : s0.a.sendE x = 0 := by decide
theorem e2 : s1.a.sent = [F] := by rfl
theorem e3 : s2.b.recvD F = [x] ∧ (s2.b.recvA F).length = 1 := ⟨rfl, rfl⟩
theorem e4 : s3.b.recvD F = [] := rfl
abbrev agg : Value := .agg #[.int .i64 1, .int .i64 1, .int .i64 1, .int .i64 2, .int .u32 1, .int .u32 1, .int .u32 0, .int .u32 0, .string ⟨#[120]⟩]
theorem val : F.val = agg := rfl
variable {a ma b mb n : Nat} {wv sv cv : Value} {w W : World}
theorem send (h : Mem a ma b mb n s0 wv sv cv w W) : Calls Try.prog 11 #[.pointer (some ⟨a, 0, none⟩), .string ⟨#[120]⟩] W fun e w' => e = .returned (.int .i64 0) ∧ Mem a ma b mb n s1 wv sv cv w w' :=
  (memSend h x (by decide)).mono fun e w' ⟨h1, h2, _⟩ => ⟨by rw [e1] at h1; exact h1, h2⟩
/-- The one frame that is sent, in memory. -/
def Has (g : Nat) (W : World) : Prop := W.cell? ⟨g, 0, none⟩ = some (.int .i64 1) ∧ W.cell? ⟨g, 1, none⟩ = some (.int .i64 1) ∧ W.cell? ⟨g, 2, none⟩ = some (.int .i64 1) ∧ W.cell? ⟨g, 3, none⟩ = some (.int .i64 2) ∧ W.cell? ⟨g, 4, none⟩ = some (.int .u32 1) ∧ W.cell? ⟨g, 5, none⟩ = some (.int .u32 1) ∧ W.cell? ⟨g, 6, none⟩ = some (.int .u32 0) ∧ W.cell? ⟨g, 7, none⟩ = some (.int .u32 0) ∧ W.cell? ⟨g, 8, none⟩ = some (.string ⟨#[120]⟩)
theorem has {S : Ws} {g c : Nat} (hw : S.way = [F]) (h : Mem a ma b mb n S (.slice (some ⟨g, 0, none⟩) 1 c) sv cv w W) : Has g W := by
  have hf := h.way
  rw [hw] at hf
  obtain ⟨g', c', e, _, _, _, _, hc⟩ := hf.at' 0 (by decide)
  cases e
  have := hc.cells
  simp only [Nat.zero_mul, Nat.zero_add] at this
  exact this
theorem out (h : Mem a ma b mb n s1 wv sv cv w W) : Calls Try.prog 12 #[.pointer (some ⟨a, 0, none⟩)] W fun e w' => ∃ g c, e = .returned (.slice (some ⟨g, 0, none⟩) 1 c) ∧ (1 ≤ c) ∧ Mem a ma b mb n s2 (.slice (some ⟨g, 0, none⟩) 1 c) sv cv w w' :=
  (memOut h).mono fun e w' ⟨⟨u, h1, h2⟩, h3, _⟩ => by
    rw [e2] at h2
    obtain ⟨g, c, rfl, hc, _⟩ := h2.get (by decide)
    exact ⟨g, c, h1, hc, h3.way_new (Below.refl _ _) h2⟩
theorem recv1 {g c : Nat} (h : Mem a ma b mb n s2 (.slice (some ⟨g, 0, none⟩) 1 c) (.slice none 0 0) cv w W) : Calls Try.prog 9 #[.pointer (some ⟨b, 0, none⟩), agg] W fun e w' =>
    ∃ dv ay cy, e = .returned (.tuple #[dv, .slice ay 1 cy, .int .i64 0]) ∧ Mem a ma b mb n s3 (.slice (some ⟨g, 0, none⟩) 1 c) (.slice none 0 0) dv w w' := by
  rw [← val]
  refine (memRecvB h F (by decide) (by decide) (.inl rfl) rfl rfl).mono fun e w' ⟨⟨dv, av, h1, h2, h3, _⟩, h4⟩ => ?_
  obtain ⟨ay, cy, h5, _⟩ := h3.form
  rw [e3.2] at h5
  rw [e3.1] at h2
  subst h5
  exact ⟨dv, ay, cy, h1, h4.came_new rfl h2⟩
theorem recv2 {g c : Nat} (h : Mem a ma b mb n s3 (.slice (some ⟨g, 0, none⟩) 1 c) (.slice none 0 0) cv w W) : Calls Try.prog 9 #[.pointer (some ⟨b, 0, none⟩), agg] W fun e w' =>
    ∃ ad cd av, e = .returned (.tuple #[.slice ad 0 cd, av, .int .i64 0]) ∧ Mem a ma b mb n s4 (.slice (some ⟨g, 0, none⟩) 1 c) (.slice none 0 0) cv w w' := by
  rw [← val]
  refine (memRecvB h F (by decide) (by decide) (.inl rfl) rfl rfl).mono fun e w' ⟨⟨dv, av, h1, h2, h3, _⟩, h4⟩ => ?_
  obtain ⟨ad, cd, h5, _⟩ := h2.form
  rw [e4] at h5
  subst h5
  exact ⟨ad, cd, av, h1, h4⟩
theorem recv3 {g c : Nat} (h : Mem a ma b mb n s4 (.slice (some ⟨g, 0, none⟩) 1 c) (.slice none 0 0) cv w W) : Calls Try.prog 9 #[.pointer (some ⟨a, 0, none⟩), agg] W fun e w' =>
    e = .returned (.tuple #[.slice none 0 0, .slice none 0 0, .int .i64 60]) ∧ Mem a ma b mb n s4 (.slice (some ⟨g, 0, none⟩) 1 c) (.slice none 0 0) cv w w' := by
  rw [← val]
  refine (lkRecvNo s4.a a ma F W h.pair.l (by decide)).mono fun e w' ⟨h1, h2⟩ => ⟨h1, ?_⟩
  exact h.left h2
theorem same {S : Ws} {sv : Value} (h : Mem a ma b mb n S wv sv cv w W) (hc : S.came = [x]) : Calls Try.prog 15 #[cv, .slice (some ⟨W.heap.size, 0, none⟩) 1 1] (W.alloc (.cells #[.string ⟨#[120]⟩] 9)) fun e w' => e = .returned (.bool true) ∧ Below W.heap.size W w' := by
  have h1 := (h.came.below ((Below.refl _ W).alloc (Nat.le_refl _) (.cells #[.string ⟨#[120]⟩] 9))).part
  rw [hc] at h1
  have h2 := (one_word W x W.heap.size (Nat.le_refl _)).part
  refine (refSame _ _ _ _ _ h1 h2 (by decide)).mono fun e w' ⟨h3, h4⟩ => ⟨by rw [decide_eq_true rfl] at h3; exact h3, ((Below.refl _ W).alloc (Nat.le_refl _) _).trans (h4.mono (by simp))⟩
end Sh
set_option maxRecDepth 100000 in
set_option maxHeartbeats 4000000 in
theorem lawShown6 (w : World) : Calls Try.prog 8 #[] w fun e w' => e = .returned (.bool true) ∧ Below w.heap.size w w' := by
  have N1 := fun W => lkNew 1 2 1 4 1 (by decide) (by decide) rfl (.inl rfl) (by decide) (by decide) (by decide) W
  have N2 := fun W => lkNew 2 1 1 4 1 (by decide) (by decide) rfl (.inl rfl) (by decide) (by decide) (by decide) W
  have H1 := Lib.hid (show ∀ W, Calls Try.prog 10 #[.int .i64 1, .int .i64 2, .int .i64 1, .int .i64 4, .int .u32 1] W _ from N1)
  have H2 := Lib.hid (show ∀ W, Calls Try.prog 10 #[.int .i64 2, .int .i64 1, .int .i64 1, .int .i64 4, .int .u32 1] W _ from N2)
  clear N1 N2
  go_enter Try.func8, Try.ntmps8
  go_wp2_with (first
    | (go_at_call 10; have H := H1; clear H1; refine (H.out _).mono ?_; rintro e w1 ⟨⟨a, ma, rfl, hla, hlm, hI1⟩, hb1⟩)
    | (go_at_call 10; have H := H2; clear H2; refine (H.out _).mono ?_; rintro e w2 ⟨⟨b, mb, rfl, hlb, hlmb, hI2⟩, hb2⟩; have hM0 : Mem a ma b mb w.heap.size Sh.s0 (.slice none 0 0) (.slice none 0 0) (.slice none 0 0) w w2 := ⟨Pair.mk' hI1 ⟨hla, hlm⟩ hb2 hI2 hlb hlmb, Frames.nil _ _, Words.nil _ _, Words.nil _ _, (fun g e => by cases e), hb1.trans (hb2.mono hb1.size)⟩; clear hb1 hb2 hI1 hI2 hla hlm hlb hlmb)
    | (go_at_call 11; refine (Sh.send hM0).mono ?_; rintro e w3 ⟨rfl, hM1⟩; clear hM0)
    | (go_at_call 12; refine (Sh.out hM1).mono ?_; rintro e w4 ⟨g, c, rfl, hc1, hM2⟩; clear hM1; obtain ⟨q0, q1, q2, q3, q4, q5, q6, q7, q8⟩ := Sh.has rfl hM2)
    | (go_at_call 9; have h := hM2; clear hM2; refine (Sh.recv1 h).mono ?_; rintro e w5 ⟨dv, ay, cy, rfl, hM3⟩; clear h q0 q1 q2 q3 q4 q5 q6 q7 q8; obtain ⟨q0, q1, q2, q3, q4, q5, q6, q7, q8⟩ := Sh.has rfl hM3)
    | (go_at_call 9; have h := hM3; clear hM3; refine (Sh.recv2 h).mono ?_; rintro e w6 ⟨ad, cd, av, rfl, hM4⟩; clear h q0 q1 q2 q3 q4 q5 q6 q7 q8; obtain ⟨q0, q1, q2, q3, q4, q5, q6, q7, q8⟩ := Sh.has rfl hM4)
    | (go_at_call 9; have h := hM4; clear hM4; refine (Sh.recv3 h).mono ?_; rintro e w7 ⟨rfl, hM5⟩; clear h)
    | (go_at_call 15; refine (Sh.same hM5 rfl).mono ?_; rintro e w8 ⟨rfl, hb8⟩))
  go_ret
  exact ⟨rfl, hM5.bel.trans (hb8.mono hM5.size)⟩
end Go.Proofs.Ytlbhfkiihikimaa
