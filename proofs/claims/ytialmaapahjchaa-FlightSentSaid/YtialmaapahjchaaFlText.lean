/-
  Layer 5's laws: text; Same.
-/
import Derived.Test.YtialmaapahjchaaFlLaw1
import Derived.Test.YtialmaapahjchaaArgs
import Derived.LoopTactic
import Derived.BigQuiet
import Derived.Deep.QuietTactic
namespace Go.Proofs.Ytialmaapahjchaa
open Go.RowKit Go.Shelf
attribute [local go_sem] Oper.semAt_some
set_option linter.unusedVariables false
set_option linter.unusedSimpArgs false

theorem lawText5 (d a b : Int) (m : BitVec 32) (s : ByteArray) (w : World) : Calls Try.prog 22 #[.agg #[.int .i64 d, .int .i64 a, .int .i64 b, .int .u32 (m.toNat : Int), .string s]] w fun e w' =>
    e = .returned (.string (hun s)) ∧ Below w.heap.size w w' := by
  have h1 : (0 : Int) ≤ min (s.size : Int) 100 := by omega
  have h2 : min (s.size : Int) 100 ≤ (s.size : Int) := by omega
  have HH := Lib.hid (show s.extract 0 (min (s.size : Int) 100).toNat = hun s from rfl)
  go_enter Try.func22, Try.ntmps22
  go_wp2
  go_ret
  exact ⟨by simp [HH.out], (Below.refl _ w).alloc (Nat.le_refl _) _⟩
/-- Two lists of the same notes. -/
theorem refSame (l : List Nt) (u v : Value) (b1 b2 : Nat) (w : World) (h : Notes w b1 u l) (h' : Notes w b2 v l) (hl : l.length ≤ 1000) : Calls Try.prog 13 #[u, v] w fun e w' =>
    e = .returned (.bool true) ∧ Below w.heap.size w w' := by
  obtain ⟨a, c, rfl, _⟩ := h.form
  obtain ⟨a', c', rfl, _⟩ := h'.form
  obtain ⟨n, hn⟩ : ∃ n, l.length = n := ⟨_, rfl⟩
  have HN := Lib.hid hn
  rw [hn] at h h' ⊢
  rw [hn] at hl
  have H1 := Lib.hid h
  have H2 := Lib.hid h'
  clear h h' hn
  go_enter Try.func13, Try.ntmps13
  go_wp2
  go_loopw [5] (fun i W => ∃ k : Nat, k ≤ n ∧ i = .int .i64 k ∧ Below w.heap.size w W) (fun i _ => n - (intOf i).toNat)
  case atStart => exact ⟨0, Nat.zero_le _, rfl, Below.refl _ _⟩
  case round =>
    obtain ⟨k, hk, rfl, hB⟩ := hrel
    by_cases hlt : k < n
    · have hkl : k < l.length := by rw [HN.out]; exact hlt
      have hki : (k : Int) < (n : Int) := by omega
      obtain ⟨g, c1, e1, _, _, _, _, q0, q1, q2⟩ := (H1.out.below hB).cell k hkl
      obtain ⟨g', c1', e1', _, _, _, _, q0', q1', q2'⟩ := (H2.out.below hB).cell k hkl
      simp only [Value.slice.injEq] at e1 e1'
      obtain ⟨rfl, -, rfl⟩ := e1
      obtain ⟨rfl, -, rfl⟩ := e1'
      generalize l[k] = x at *
      obtain ⟨xi, xt, xs⟩ := x
      dsimp only at q0 q1 q2 q0' q1' q2'
      go_wp2
      go_quiet (fail)
      go_wp2
      have hd : ∀ nq, Below wr.heap.size wr (wr.drewN nq) := fun nq => ⟨rfl, rfl, rfl, Nat.le_refl _, fun _ _ => rfl⟩
      go_roundw
      case rel => exact ⟨k + 1, by omega, by go_num, hB.trans ((hd _).mono hB.size)⟩
      case measure => simp [intOf]; omega
    · obtain rfl : k = n := by omega
      go_wp2
      go_ret
      exact ⟨rfl, hB⟩
end Go.Proofs.Ytialmaapahjchaa
