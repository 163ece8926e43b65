/-
  BallotOne: the beginning of its memory.
-/
import Derived.Test.YtigameebcicgpaaBtOneApp
namespace Go.Proofs.Ytigameebcicgpaa
open Go.RowKit Go.Shelf
set_option linter.unusedVariables false
set_option linter.unusedSimpArgs false
namespace One
abbrev R0 : Nat → Bt.Race := fun _ => ⟨[], List.replicate 16 false, ⟨#[]⟩, false⟩
abbrev V0 : Nat → Value := fun _ => .slice none 0 0
theorem info_races : (Try.prog.info? 50).map (fun i => (i.zero, i.size)) = some (some (.agg (rcs V0 R0 0 41).toArray), 779) := by kernel_rfl
theorem zero_races (w : World) : (zeroValue 50).run Try.prog w = .ok (.agg (rcs V0 R0 0 41).toArray) w := (zero_of_info info_races).1 w
theorem made (n : Nat) : (madeCells (Value.agg #[.int .u64 0, .int .u64 0, .string ⟨#[]⟩]).cells (n * 3)).toList = flat (List.replicate n Vt.zero) := by
  apply List.ext_getElem?
  intro i
  by_cases hi : i < n * 3
  · have hk : i / 3 < (List.replicate n Vt.zero).length := by rw [List.length_replicate]; omega
    have hg := flat_get (List.replicate n Vt.zero) (i / 3) (i % 3) (by omega) hk
    rw [show i / 3 * 3 + i % 3 = i by omega] at hg
    rw [hg]
    have e : (madeCells (Value.agg #[.int .u64 0, .int .u64 0, .string ⟨#[]⟩]).cells (n * 3)).toList[i]? = some ((#[Value.int .u64 0, .int .u64 0, .string ⟨#[]⟩] : Array Value)[i % 3]!) := by
      unfold madeCells
      simp [hi, Value.cells]
    rw [e]
    simp only [List.getElem_replicate]
    have h3 : i % 3 = 0 ∨ i % 3 = 1 ∨ i % 3 = 2 := by omega
    rcases h3 with h | h | h <;> rw [h] <;> rfl
  · rw [List.getElem?_eq_none (by simp [size_madeCells]; omega), List.getElem?_eq_none (by rw [flat_length, List.length_replicate]; omega)]
theorem mem0 {w w1 w2 : World} {n : Nat} (hb1 : Below w.heap.size w w1) (hown : w2.ownsRow w.heap.size 24 3 (.slice (some ⟨w1.heap.size, 0, none⟩) n n) n (madeCells (Value.agg #[.int .u64 0, .int .u64 0, .string ⟨#[]⟩]).cells (n * 3)).toList) (hgrow : w1.grownBy w2 none) :
    Mem w w1.heap.size w2.heap.size (List.replicate n Vt.zero) R0 V0 (w2.alloc (.cells (rcs V0 R0 0 41).toArray 50)) := by
  have hb2 := one_grown hgrow
  rw [made] at hown
  rcases hown.2 with ⟨h1, _⟩ | ⟨g, cap, cur, h1, h2, h3, h4, h5, h6, h7⟩
  · cases h1
  · simp only [Value.slice.injEq, Option.some.injEq, Addr.mk.injEq, and_true, true_and] at h1
    obtain ⟨rfl, rfl⟩ := h1
    have hcur : cur = (flat (List.replicate n Vt.zero)).toArray := by
      apply Array.toList_inj.1
      rw [List.take_of_length_le (by simp [h6])] at h7
      simpa using h7
    rw [hcur] at h3
    have hl := (Array.getElem?_eq_some_iff.1 h3).1
    refine ⟨(Below.heap_alloc w2 _ _ hl).trans h3, World.alloc_heap_new w2 _, fun b _ => .inl ⟨rfl, rfl⟩, fun b _ => ⟨fun e => (by cases e), fun e => (by cases e)⟩, by omega, ⟨hb1.size, by have := hb1.size; omega⟩, ?_⟩
    exact (hb1.trans (hb2.mono hb1.size)).alloc (by have := hb1.size; omega) _
end One
set_option maxRecDepth 100000 in
set_option maxHeartbeats 2000000 in
/-- No number of acceptors, or too many. -/
theorem lawOneNo (n : Int) (h : n < 1 ∨ 16 < n) (a0 : Option Addr) (len c0 : Nat) (w : World) : Calls Try.prog 7 #[.int .i64 n, .slice a0 len c0] w fun e w' => e = .returned (.bool true) ∧ Below w.heap.size w w' := by
  have H1 := Lib.hid (fun W => lawShown8 W)
  by_cases h1 : n < 1
  · have k1 : decide (n < 1) = true := decide_eq_true h1
    clear h
    go_enter Try.func7, Try.ntmps7
    go_wp2_with (go_at_call 10; refine (H1.out _).mono ?_; rintro e w1 ⟨rfl, hb1⟩)
    go_ret
    exact ⟨rfl, hb1⟩
  · have h2 : 16 < n := h.resolve_left h1
    have k1 : decide (n < 1) = false := decide_eq_false h1
    have k2 : decide (16 < n) = true := decide_eq_true h2
    clear h
    go_enter Try.func7, Try.ntmps7
    go_wp2_with (go_at_call 10; refine (H1.out _).mono ?_; rintro e w1 ⟨rfl, hb1⟩)
    go_ret
    exact ⟨rfl, hb1⟩
end Go.Proofs.Ytigameebcicgpaa
