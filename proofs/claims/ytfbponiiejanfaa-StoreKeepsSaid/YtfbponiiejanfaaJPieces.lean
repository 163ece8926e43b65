/-
  Mathematics of journals: what is read, step by step; records ahead of others; beginnings of records.
-/
import Derived.Test.YtfbponiiejanfaaJMath
namespace Go.Proofs.Ytfbponiiejanfaa
open Go.RowKit Go.Shelf
set_option linter.unusedVariables false
set_option linter.unusedSimpArgs false
namespace J
theorem pieces_yes {l : List UInt8} (h : told l = true) : pieces l = l.take (size l + 9) :: pieces (l.drop (size l + 9)) := by rw [pieces, dif_pos h]
theorem pieces_no {l : List UInt8} (h : told l = false) : pieces l = [] := by rw [pieces, dif_neg (by rw [h]; simp)]
/-- The pieces, one behind the other, are what bytes begin with. -/
theorem pieces_flat (l : List UInt8) : ∃ t, l = (pieces l).flatten ++ t := by
  cases h : told l with
  | false => exact ⟨l, by rw [pieces_no h]; rfl⟩
  | true =>
    obtain ⟨t, ht⟩ := pieces_flat (l.drop (size l + 9))
    refine ⟨t, ?_⟩
    rw [pieces_yes h, List.flatten_cons, List.append_assoc, ← ht, List.take_append_drop]
termination_by l.length
decreasing_by rw [List.length_drop]; have := told_length h; omega
theorem pieces_long (l : List UInt8) : ∀ p ∈ pieces l, 9 ≤ p.length := by
  cases h : told l with
  | false => rw [pieces_no h]; intro p hp; cases hp
  | true =>
    rw [pieces_yes h]
    intro p hp
    rcases List.mem_cons.1 hp with rfl | hp
    · have := told_length h
      rw [List.length_take]; omega
    · exact pieces_long (l.drop (size l + 9)) p hp
termination_by l.length
decreasing_by rw [List.length_drop]; have := told_length h; omega
theorem pieces_count (l : List UInt8) : (pieces l).length ≤ l.length := by
  cases h : told l with
  | false => rw [pieces_no h]; exact Nat.zero_le _
  | true =>
    have h1 := pieces_count (l.drop (size l + 9))
    have h2 := told_length h
    rw [pieces_yes h, List.length_cons]
    rw [List.length_drop] at h1
    omega
termination_by l.length
decreasing_by rw [List.length_drop]; have := told_length h; omega
theorem sum_flat (ls : List (List UInt8)) : (ls.map List.length).sum = ls.flatten.length := by rw [List.length_flatten]
theorem pieces_sum (l : List UInt8) (k : Nat) : (((pieces l).take k).map List.length).sum ≤ l.length := by
  obtain ⟨t, ht⟩ := pieces_flat l
  have h1 : (pieces l).flatten = ((pieces l).take k).flatten ++ ((pieces l).drop k).flatten := by rw [← List.flatten_append, List.take_append_drop]
  rw [sum_flat]
  have h2 := congrArg List.length ht
  rw [List.length_append, h1, List.length_append] at h2
  omega
theorem pieces_le (l : List UInt8) (k : Nat) (p : List UInt8) (h : (pieces l)[k]? = some p) : p.length ≤ l.length := by
  have h1 := pieces_sum l (k + 1)
  obtain ⟨hk, rfl⟩ := List.getElem?_eq_some_iff.1 h
  rw [List.take_succ_eq_append_getElem hk, List.map_append, List.sum_append] at h1
  simp at h1
  omega
/-- What is good goes on as long as pieces are records. -/
theorem good_yes {l : List UInt8} (h : told l = true) (ho : ok (l.take (size l + 9)) = true) : good l = l.take (size l + 9) :: good (l.drop (size l + 9)) := by
  rw [good, pieces_yes h, List.takeWhile_cons, if_pos ho]; rfl
theorem good_bad {l : List UInt8} (h : told l = true) (ho : ok (l.take (size l + 9)) = false) : good l = [] := by
  rw [good, pieces_yes h, List.takeWhile_cons, if_neg (by rw [ho]; simp)]
theorem good_no {l : List UInt8} (h : told l = false) : good l = [] := by rw [good, pieces_no h]; rfl
theorem takeWhile_all {α : Type} (f : α → Bool) (xs : List α) (h : ∀ x ∈ xs, f x = true) : xs.takeWhile f = xs := by
  induction xs with
  | nil => rfl
  | cons a t ih => rw [List.takeWhile_cons, if_pos (h a (by simp)), ih (fun x hx => h x (List.mem_cons_of_mem _ hx))]
/-- The first k pieces are records, all of them or up to one that is none. -/
theorem good_all (l : List UInt8) (h : ∀ p ∈ pieces l, ok p = true) : good l = pieces l := by
  rw [good]; exact takeWhile_all ok _ h
theorem takeWhile_stop {α : Type} (f : α → Bool) (xs : List α) (k : Nat) (hk : k < xs.length) (h : ∀ x ∈ xs.take k, f x = true) (hx : f xs[k] = false) : xs.takeWhile f = xs.take k := by
  induction xs generalizing k with
  | nil => simp at hk
  | cons a t ih =>
    cases k with
    | zero => simp at hx; rw [List.takeWhile_cons, if_neg (by rw [hx]; simp)]; rfl
    | succ k =>
      have ha : f a = true := h a (by simp)
      rw [List.takeWhile_cons, if_pos ha, List.take_succ_cons]
      rw [ih k (by simpa using hk) (fun x hx' => h x (by rw [List.take_succ_cons]; exact List.mem_cons_of_mem _ hx')) (by simpa using hx)]
theorem good_stop (l : List UInt8) (k : Nat) (hk : k < (pieces l).length) (h : ∀ p ∈ (pieces l).take k, ok p = true) (hx : ok (pieces l)[k] = false) : good l = (pieces l).take k :=
  takeWhile_stop ok _ k hk h hx
end J
end Go.Proofs.Ytfbponiiejanfaa
