/-
  Send, Marks: walked; each method of a nil end.
-/
import Derived.Test.YtlbhfkiihikimaaLkWalk1
import Derived.StillTailTactics
import Derived.WalkMore
namespace Go.Proofs.Ytlbhfkiihikimaa
open Go.RowKit Go.Shelf
attribute [local go_sem] Oper.semAt_some
set_option linter.unusedVariables false
set_option linter.unusedSimpArgs false

set_option maxRecDepth 100000 in
set_option maxHeartbeats 1000000 in
/-- Send. -/
theorem lkSend (L : Lk) (B M : Nat) (s : ByteArray) (w : World) (h : Lk.Is L B M w) (ht : L.top < 1000) : Calls Try.prog 11 #[.pointer (some ⟨B, 0, none⟩), .string s] w fun e w' =>
    e = .returned (.int .i64 (L.sendE s)) ∧ Lk.Turns (L.send s) B M w w' := by
  by_cases hs : 4096 < s.size
  · have e1 : L.sendE s = 2 := by simp [Lk.sendE, hs]
    have e2 : L.send s = L := by simp [Lk.send, e1]
    rw [e1, e2]
    have HT := Lib.hid (Lk.Turns.refl h)
    have hsi : (4096 : Int) < (s.size : Int) := by omega
    clear h ht e1 e2 hs
    go_enter Try.func11, Try.ntmps11
    go_wp2
    go_ret
    exact ⟨rfl, HT.out⟩
  · have hsi : ¬ (4096 : Int) < (s.size : Int) := by omega
    have HF := lkFull L B M w h
    by_cases hf : L.window ≤ (L.out.length : Int)
    · have e1 : L.sendE s = 30 := by simp [Lk.sendE, hs, hf]
      have e2 : L.send s = L := by simp [Lk.send, e1]
      rw [e1, e2]
      rw [decide_eq_true hf] at HF
      have HT := Lib.hid (fun (W : World) (hb : Below w.heap.size w W) => Lk.Turns.of_below h hb)
      clear h ht e1 e2 hs hf
      go_enter Try.func11, Try.ntmps11
      go_wp2_with (go_at_call 21; refine HF.mono ?_; rintro e w1 ⟨rfl, hb⟩)
      go_ret
      exact ⟨rfl, HT.out _ hb⟩
    · have e1 : L.sendE s = 0 := by simp [Lk.sendE, hs, hf]
      have e2 : L.send s = { L with out := L.out ++ [s] } := by simp [Lk.send, e1]
      rw [e1, e2]
      rw [decide_eq_false hf] at HF
      have HL := Lib.hid (fun (W : World) (hb : Below w.heap.size w W) => lkLay L B M s W (h.below hb) ht (by omega))
      clear h e1 e2 hs hf
      go_enter Try.func11, Try.ntmps11
      go_wp2_with (first
        | (go_at_call 21; refine HF.mono ?_; rintro e w1 ⟨rfl, hb⟩)
        | (go_at_call 22; refine (HL.out _ hb).mono ?_; rintro e w2 ⟨⟨v, rfl⟩, hT⟩))
      go_ret
      exact ⟨rfl, hT.1, (Stays.of_below hb).trans hT.2 fun g hg => .inl hg⟩
theorem lkSendNil (s : ByteArray) (w : World) : Calls Try.prog 11 #[.pointer none, .string s] w fun e w' => e = .returned (.int .i64 1) ∧ Below w.heap.size w w' := by
  go_enter Try.func11, Try.ntmps11
  go_wp2
  go_ret
  exact ⟨rfl, Below.refl _ _⟩
theorem lkOutNil (w : World) : Calls Try.prog 12 #[.pointer none] w fun e w' => e = .returned (.slice none 0 0) ∧ Below w.heap.size w w' := by
  go_enter Try.func12, Try.ntmps12
  go_wp2
  go_ret
  exact ⟨rfl, (Below.refl _ w).alloc (Nat.le_refl _) _⟩
theorem lkMarksNil (w : World) : Calls Try.prog 13 #[.pointer none] w fun e w' => e = .returned (.slice none 0 0) ∧ Below w.heap.size w w' := by
  go_enter Try.func13, Try.ntmps13
  go_wp2
  go_ret
  exact ⟨rfl, Below.refl _ _⟩
theorem lkReceiveNil (f : Fr) (w : World) : Calls Try.prog 9 #[.pointer none, f.val] w fun e w' => e = .returned (.tuple #[.slice none 0 0, .slice none 0 0, .int .i64 1]) ∧ Below w.heap.size w w' := by
  unfold Fr.val Fr.cells
  go_enter Try.func9, Try.ntmps9
  go_wp2
  refine bodyPost_ret (v := .tuple #[.slice none 0 0, .slice none 0 0, .int .i64 1]) ?_ rfl ⟨rfl, (Below.refl _ w).alloc (Nat.le_refl _) _⟩
  simp [results, Try.results9, go_sem]
/-- Marks. -/
theorem lkMarks (L : Lk) (B M : Nat) (w : World) (h : Lk.Is L B M w) : Calls Try.prog 13 #[.pointer (some ⟨B, 0, none⟩)] w fun e w' =>
    (∃ g, e = .returned (.slice (some ⟨g, 0, none⟩) 4 4) ∧ w.heap.size ≤ g ∧ w'.heap[g]? = some (.cells #[.int .u32 ((L.top : Int) + 1), .int .u32 (L.out.length : Int), .int .u32 (L.plife.toNat : Int), .int .u32 ((L.got : Int) + 1)] 22 (0, 0))) ∧ Below w.heap.size w w' := by
  have h5 : w.drew.cell? ⟨B, 5, none⟩ = some (.int .u32 ((L.top : Int) + 1)) := h.cell 5 _ rfl
  have h6 : w.drew.cell? ⟨B, 6, none⟩ = some (.map (some M)) := h.cell 6 _ rfl
  have h7 : w.drew.cell? ⟨B, 7, none⟩ = some (.int .u32 (L.plife.toNat : Int)) := h.cell 7 _ rfl
  have h8 : w.drew.cell? ⟨B, 8, none⟩ = some (.int .u32 ((L.got : Int) + 1)) := h.cell 8 _ rfl
  have hlen : ∀ ty, (Builtin.len_ #[46] ty #[.map (some M)]).run Try.prog w.drew = .ok (.int .i64 (L.out.length : Int)) w.drew := fun ty => Lk.Is.lenMap (h.below (drewN_below (Below.refl _ _) 1)) ty
  have hf := h.ok.few
  have hw : IntKind.u32.wrap (L.out.length : Int) = (L.out.length : Int) := IntWalk.u32_in _ (by unfold Lk.top at hf; omega)
  have hw2 : (L.out.length : Int) % 4294967296 = (L.out.length : Int) := by unfold Lk.top at hf; omega
  clear hf
  generalize L.top = t at *
  generalize L.out.length = n at *
  generalize L.plife.toNat = p at *
  generalize L.got = g at *
  clear h
  have HW := Lib.hid hw2
  clear hw2
  go_enter Try.func13, Try.ntmps13
  go_wp2
  go_still_tail 22, (by kernel_rfl)
  change wpList _ _ _ _ _ w.drew
  go_wp2
  go_ret
  exact ⟨⟨_, rfl, Nat.le_refl _, World.alloc_heap_new w _⟩, ((Below.refl _ w).alloc (Nat.le_refl _) _).drew⟩
end Go.Proofs.Ytlbhfkiihikimaa
