/-
  Package ballot: fit, hasVoted, Right, group, moreThanHalf, sound, voted, Next; walked.
-/
import Derived.Test.YtigameebcicgpaaBtEq
import Derived.Test.YtigameebcicgpaaShelfClone
namespace Go.Proofs.Ytigameebcicgpaa
open Go.RowKit Go.Shelf
attribute [local go_sem] Oper.semAt_some
set_option linter.unusedVariables false
set_option linter.unusedSimpArgs false

theorem voteNeq (f g : Vt) (w : World) : (binOp .neq 24 f.val g.val).run Try.prog w = .ok (.bool (!decide (f = g))) w := by
  have h := voteEql f g w
  unfold Vt.val at h ⊢
  rw [run_eql_struct] at h
  rw [run_neq_struct]
  cases hr : (Op.equalIn 10000 24 (.agg #[.int .u64 (f.prom : Int), .int .u64 (f.bal : Int), .string f.val']) (.agg #[.int .u64 (g.prom : Int), .int .u64 (g.bal : Int), .string g.val'])).run Try.prog w with
  | ok b w1 => rw [hr] at h; simp only [Result.andThen, Result.ok.injEq, Value.bool.injEq] at h ⊢; obtain ⟨rfl, rfl⟩ := h; exact ⟨rfl, rfl⟩
  | _ => rw [hr] at h; simp [Result.andThen] at h
theorem voteGuardN (f g : Vt) (x y : Operand) (w : World) : (eqGuard .neq 24 x y f.val g.val).run Try.prog w = .ok () w := run_eqGuard_agg w _ _ _ _ _ _ (by kernel_rfl)
namespace Bt
/-- Has an acceptor voted, by what it holds? -/
def Voted (v : Vt) : Prop := v ≠ ⟨v.prom, 0, ⟨#[]⟩⟩
instance (v : Vt) : Decidable (Voted v) := by unfold Voted; infer_instance
theorem voted_iff (v : Vt) : Voted v ↔ 0 < v.bal ∨ v.val'.size ≠ 0 := by
  obtain ⟨p, b, s⟩ := v
  unfold Voted
  simp only [ne_eq, Vt.mk.injEq, true_and]
  constructor
  · intro h
    by_cases hb : b = 0
    · exact .inr (fun e => h ⟨hb, empty_of_size e⟩)
    · exact .inl (by omega)
  · rintro (h | h) ⟨h1, h2⟩
    · omega
    · exact h (by rw [h2]; rfl)
theorem voted_of_right {v : Vt} (h : Right v) : Voted v ↔ 0 < v.bal := by
  rw [voted_iff]
  exact ⟨fun h1 => h1.elim id (fun h2 => h.2.1.elim id (fun h3 => absurd h3 h2)), .inl⟩
theorem right_iff (v : Vt) : Right v ↔ (Voted v → 1 ≤ v.bal ∧ v.bal ≤ v.prom ∧ v.val'.size ≤ 4000) := by
  rw [voted_iff]
  unfold Right
  constructor
  · rintro ⟨h1, h2, h3⟩ h4
    refine ⟨?_, h1, h3⟩
    rcases h2 with h2 | h2
    · exact h2
    · rcases h4 with h4 | h4
      · exact h4
      · exact absurd h2 h4
  · intro h
    by_cases hb : 0 < v.bal
    · obtain ⟨_, h2, h3⟩ := h (.inl hb)
      exact ⟨h2, .inl hb, h3⟩
    · by_cases hs : v.val'.size = 0
      · exact ⟨by omega, .inr hs, by omega⟩
      · have := h (.inr hs)
        omega
end Bt
theorem btHasVoted (v : Vt) (w : World) : Calls Try.prog 27 #[v.val] w fun e w' => e = .returned (.bool (decide (Bt.Voted v))) ∧ Below w.heap.size w w' := by
  obtain ⟨p, b, s⟩ := v
  have HV := Lib.hid (Bt.voted_iff ⟨p, b, s⟩)
  generalize hR : decide (Bt.Voted ⟨p, b, s⟩) = R at *
  have HR := Lib.hid hR
  clear hR
  unfold Vt.val
  dsimp only at HV ⊢
  by_cases hb : b = 0
  · by_cases hs : s.size = 0
    · have HF := Lib.hid (show R = false from by rw [← HR.out]; exact decide_eq_false (fun h => (HV.out.1 h).elim (by omega) (fun k => k hs)))
      obtain rfl := empty_of_size hs
      subst hb
      go_enter Try.func27, Try.ntmps27
      go_wp2
      go_ret
      exact ⟨by rw [HF.out]; rfl, (Below.refl _ w).alloc (Nat.le_refl _) _⟩
    · have HF := Lib.hid (show R = true from by rw [← HR.out]; exact decide_eq_true (HV.out.2 (.inr hs)))
      have hne : s ≠ ⟨#[]⟩ := fun e => hs (by rw [e]; rfl)
      have e1 := toList_ne hs
      have e2 := toList_not hs
      subst hb
      clear hs
      go_enter Try.func27, Try.ntmps27
      go_wp2
      go_ret
      exact ⟨by rw [HF.out]; rfl, (Below.refl _ w).alloc (Nat.le_refl _) _⟩
  · have HF := Lib.hid (show R = true from by rw [← HR.out]; exact decide_eq_true (HV.out.2 (.inl (by omega))))
    have e0 : ¬ (b : Int) = 0 := by omega
    have e1 : ((b : Int) == 0) = false := by simpa using hb
    go_enter Try.func27, Try.ntmps27
    go_wp2
    go_ret
    exact ⟨by rw [HF.out]; rfl, (Below.refl _ w).alloc (Nat.le_refl _) _⟩
theorem btGroup (n : Int) (w : World) : Calls Try.prog 28 #[.int .i64 n] w fun e w' => e = .returned (.bool (decide (1 ≤ n ∧ n ≤ 16))) ∧ w = w' := by
  by_cases h1 : 1 ≤ n
  · by_cases h2 : n ≤ 16
    · have d1 : decide (1 ≤ n) = true := decide_eq_true h1
      have d2 : decide (n ≤ 16) = true := decide_eq_true h2
      rw [decide_eq_true (show 1 ≤ n ∧ n ≤ 16 from ⟨h1, h2⟩)]
      go_enter Try.func28, Try.ntmps28
      go_wp2
      go_ret
      exact ⟨rfl, rfl⟩
    · have d1 : decide (1 ≤ n) = true := decide_eq_true h1
      have d2 : decide (n ≤ 16) = false := decide_eq_false h2
      rw [decide_eq_false (show ¬ (1 ≤ n ∧ n ≤ 16) from fun h => h2 h.2)]
      go_enter Try.func28, Try.ntmps28
      go_wp2
      go_ret
      exact ⟨rfl, rfl⟩
  · have d1 : decide (1 ≤ n) = false := decide_eq_false h1
    rw [decide_eq_false (show ¬ (1 ≤ n ∧ n ≤ 16) from fun h => h1 h.1)]
    go_enter Try.func28, Try.ntmps28
    go_wp2
    go_ret
    exact ⟨rfl, rfl⟩
theorem btHalf (c : Nat) (n : Int) (hc : c ≤ 1000000) (w : World) : Calls Try.prog 29 #[.int .i64 (c : Int), .int .i64 n] w fun e w' => e = .returned (.bool (decide (n < 2 * (c : Int)))) ∧ w = w' := by
  go_enter Try.func29, Try.ntmps29
  go_wp2
  go_ret
  exact ⟨rfl, rfl⟩
/-- No value beside votes: none is too long. -/
theorem btFit0 (w : World) : Calls Try.prog 26 #[.slice none 0 0] w fun e w' => e = .returned (.bool true) ∧ w = w' := by
  go_enter Try.func26, Try.ntmps26
  go_wp2
  refine wp_loop_rounds 1 ?_
  rw [rounds_succ]
  go_wp2
  go_ret
  exact ⟨rfl, rfl⟩
theorem btFit1 (s : ByteArray) (hs : s.size ≤ 1000000) (g : Nat) (w : World) (h : w.cell? ⟨g, 0, none⟩ = some (.string s)) : Calls Try.prog 26 #[.slice (some ⟨g, 0, none⟩) 1 1] w fun e w' => e = .returned (.bool (decide (s.size ≤ 4000))) ∧ w = w' := by
  by_cases h1 : 4000 < s.size
  · have d1 : decide ((4000 : Int) < (s.size : Int)) = true := decide_eq_true (by omega)
    have d1' : (4000 : Int) < (s.size : Int) := by omega
    rw [decide_eq_false (show ¬ s.size ≤ 4000 by omega)]
    clear h1
    go_enter Try.func26, Try.ntmps26
    go_wp2
    refine wp_loop_rounds 2 ?_
    rw [rounds_succ]
    go_wp2
    go_ret
    exact ⟨rfl, rfl⟩
  · have d1 : decide ((4000 : Int) < (s.size : Int)) = false := decide_eq_false (by omega)
    have d1' : ¬ (4000 : Int) < (s.size : Int) := by omega
    rw [decide_eq_true (show s.size ≤ 4000 by omega)]
    clear h1
    go_enter Try.func26, Try.ntmps26
    go_wp2
    refine wp_loop_rounds 2 ?_
    rw [rounds_succ]
    go_wp2
    rw [rounds_succ]
    go_wp2
    go_ret
    exact ⟨rfl, rfl⟩
set_option maxRecDepth 100000 in
set_option maxHeartbeats 1000000 in
theorem btRight (v : Vt) (hs : v.val'.size ≤ 1000000) (w : World) : Calls Try.prog 16 #[v.val] w fun e w' => e = .returned (.bool (decide (Bt.Right v))) ∧ Below w.heap.size w w' := by
  have HH := Lib.hid (fun W => btHasVoted v W)
  have HD := Lib.hid (Bt.right_iff v)
  generalize hR : decide (Bt.Right v) = R at *
  have HR := Lib.hid hR
  clear hR
  obtain ⟨p, b, s⟩ := v
  unfold Vt.val at HH ⊢
  dsimp only at hs HH HD ⊢
  by_cases hv : Bt.Voted ⟨p, b, s⟩
  · rw [decide_eq_true hv] at HH
    by_cases h1 : 1 ≤ b
    · have d1 : decide ((1 : Int) ≤ (b : Int)) = true := decide_eq_true (by omega)
      have d1' : (1 : Int) ≤ (b : Int) := by omega
      by_cases h2 : b ≤ p
      · have d2 : decide ((b : Int) ≤ (p : Int)) = true := decide_eq_true (by omega)
        have d2' : (b : Int) ≤ (p : Int) := by omega
        have HF := Lib.hid (show R = decide (s.size ≤ 4000) from by rw [← HR.out]; exact decide_eq_decide.2 ⟨fun h => (HD.out.1 h hv).2.2, fun h => HD.out.2 (fun _ => ⟨h1, h2, h⟩)⟩)
        clear hv h1 h2
        go_enter Try.func16, Try.ntmps16
        go_wp2_with (first
          | (go_at_call 27; refine (HH.out _).mono ?_; rintro e w1 ⟨rfl, hb1⟩; have hr1 := (hb1.block w.heap.size (by simp)).trans (World.alloc_heap_new w _); have x0 : w1.cell? ⟨w.heap.size, 0, none⟩ = some (.int .u64 (p : Int)) := (by simp [World.cell?, hr1]); have x1 : w1.cell? ⟨w.heap.size, 1, none⟩ = some (.int .u64 (b : Int)) := (by simp [World.cell?, hr1]); have x2 : w1.cell? ⟨w.heap.size, 2, none⟩ = some (.string s) := (by simp [World.cell?, hr1]))
          | (go_at_call 26; refine (btFit1 s hs _ _ (by simp)).mono ?_; rintro e w2 ⟨rfl, rfl⟩))
        go_ret
        exact ⟨by rw [HF.out]; rfl, (((Below.refl _ w).alloc (Nat.le_refl _) _).trans (hb1.mono (by simp))).alloc (by have := hb1.size; simp at this; omega) _⟩
      · have d2 : decide ((b : Int) ≤ (p : Int)) = false := decide_eq_false (by omega)
        have d2' : ¬ (b : Int) ≤ (p : Int) := by omega
        have HF := Lib.hid (show R = false from by rw [← HR.out]; exact decide_eq_false (fun h => h2 (HD.out.1 h hv).2.1))
        clear hv h1 h2
        go_enter Try.func16, Try.ntmps16
        go_wp2_with (first
          | (go_at_call 27; refine (HH.out _).mono ?_; rintro e w1 ⟨rfl, hb1⟩; have hr1 := (hb1.block w.heap.size (by simp)).trans (World.alloc_heap_new w _); have x0 : w1.cell? ⟨w.heap.size, 0, none⟩ = some (.int .u64 (p : Int)) := (by simp [World.cell?, hr1]); have x1 : w1.cell? ⟨w.heap.size, 1, none⟩ = some (.int .u64 (b : Int)) := (by simp [World.cell?, hr1]); have x2 : w1.cell? ⟨w.heap.size, 2, none⟩ = some (.string s) := (by simp [World.cell?, hr1])))
        go_ret
        exact ⟨by rw [HF.out]; rfl, ((Below.refl _ w).alloc (Nat.le_refl _) _).trans (hb1.mono (by simp))⟩
    · have d1 : decide ((1 : Int) ≤ (b : Int)) = false := decide_eq_false (by omega)
      have d1' : ¬ (1 : Int) ≤ (b : Int) := by omega
      have HF := Lib.hid (show R = false from by rw [← HR.out]; exact decide_eq_false (fun h => h1 (HD.out.1 h hv).1))
      clear hv h1
      go_enter Try.func16, Try.ntmps16
      go_wp2_with (first
        | (go_at_call 27; refine (HH.out _).mono ?_; rintro e w1 ⟨rfl, hb1⟩; have hr1 := (hb1.block w.heap.size (by simp)).trans (World.alloc_heap_new w _); have x0 : w1.cell? ⟨w.heap.size, 0, none⟩ = some (.int .u64 (p : Int)) := (by simp [World.cell?, hr1]); have x1 : w1.cell? ⟨w.heap.size, 1, none⟩ = some (.int .u64 (b : Int)) := (by simp [World.cell?, hr1]); have x2 : w1.cell? ⟨w.heap.size, 2, none⟩ = some (.string s) := (by simp [World.cell?, hr1])))
      go_ret
      exact ⟨by rw [HF.out]; rfl, ((Below.refl _ w).alloc (Nat.le_refl _) _).trans (hb1.mono (by simp))⟩
  · rw [decide_eq_false hv] at HH
    have HF := Lib.hid (show R = true from by rw [← HR.out]; exact decide_eq_true (HD.out.2 (fun h => absurd h hv)))
    clear hv
    go_enter Try.func16, Try.ntmps16
    go_wp2_with (first
      | (go_at_call 27; refine (HH.out _).mono ?_; rintro e w1 ⟨rfl, hb1⟩; have hr1 := (hb1.block w.heap.size (by simp)).trans (World.alloc_heap_new w _); have x0 : w1.cell? ⟨w.heap.size, 0, none⟩ = some (.int .u64 (p : Int)) := (by simp [World.cell?, hr1]); have x1 : w1.cell? ⟨w.heap.size, 1, none⟩ = some (.int .u64 (b : Int)) := (by simp [World.cell?, hr1]); have x2 : w1.cell? ⟨w.heap.size, 2, none⟩ = some (.string s) := (by simp [World.cell?, hr1])))
    go_ret
    exact ⟨by rw [HF.out]; rfl, ((Below.refl _ w).alloc (Nat.le_refl _) _).trans (hb1.mono (by simp))⟩
theorem btVoted (a : Option Addr) (n c : Nat) (w : World) : Calls Try.prog 31 #[.slice a n c] w fun e w' =>
    e = .returned (.func (.func 33) #[] #[.pointer (some ⟨w.heap.size, 0, none⟩)]) ∧ w.alloc (.cells #[.slice a n c] 33) = w' := by
  go_enter Try.func31, Try.ntmps31
  go_wp2
  go_ret
  exact ⟨rfl, rfl⟩
end Go.Proofs.Ytigameebcicgpaa
