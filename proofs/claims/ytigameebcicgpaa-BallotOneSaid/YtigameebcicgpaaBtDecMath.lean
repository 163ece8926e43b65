/-
  What is decided, counted one by one: mathematics.
-/
import Derived.Test.YtigameebcicgpaaBtCounts
namespace Go.Proofs.Ytigameebcicgpaa
open Go.RowKit
set_option linter.unusedVariables false
set_option linter.unusedSimpArgs false
namespace Bt
theorem count_le_vd (l : List Vt) (b : Nat) (s : ByteArray) (hb : 0 < b) : count (vd l) b s = count l b s := by
  unfold count vd
  rw [List.countP_filter]
  refine List.countP_congr fun v hv => ?_
  simp only [Bool.and_eq_true, decide_eq_true_eq]
  constructor
  · exact fun h => h.1
  · rintro ⟨rfl, rfl⟩; exact ⟨⟨rfl, rfl⟩, (voted_iff v).2 (.inl hb)⟩
theorem count_take_le (l : List Vt) (k : Nat) (b : Nat) (s : ByteArray) : count (l.take k) b s ≤ count l b s := by
  unfold count
  exact (List.take_sublist k l).countP_le
theorem count_succ (l : List Vt) (k : Nat) (x : Vt) (h : l[k]? = some x) (b : Nat) (s : ByteArray) : count (l.take (k + 1)) b s = count (l.take k) b s + (if b = x.bal ∧ s = x.val' then 1 else 0) := by
  obtain ⟨hk, rfl⟩ := List.getElem?_eq_some_iff.1 h
  unfold count
  rw [List.take_succ_eq_append_getElem hk, List.countP_append]
  congr 1
  rw [List.countP_singleton]
  by_cases h : b = l[k].bal ∧ s = l[k].val'
  · rw [if_pos h, if_pos (by simpa using ⟨h.1.symm, h.2.symm⟩)]
  · rw [if_neg h, if_neg (by simp; exact fun h1 h2 => h ⟨h1.symm, h2.symm⟩)]
theorem count_two (l : List Vt) {b c : Nat} {s u : ByteArray} (h : ¬ (b = c ∧ s = u)) : count l b s + count l c u ≤ l.length := by
  unfold count
  induction l with
  | nil => simp
  | cons v l ih =>
    rw [List.countP_cons, List.countP_cons, List.length_cons]
    by_cases h1 : v.bal = b ∧ v.val' = s
    · have h2 : ¬ (v.bal = c ∧ v.val' = u) := fun h2 => h ⟨h1.1.symm.trans h2.1, h1.2.symm.trans h2.2⟩
      rw [if_pos (by simpa using h1), if_neg (by simpa using h2)]
      omega
    · rw [if_neg (by simpa using h1)]
      split <;> omega
theorem wins_one {l : List Vt} {v x : Vt} (hv : wins l v = true) (hx : wins l x = true) : v.val' = x.val' := by
  unfold wins at hv hx
  rw [decide_eq_true_eq] at hv hx
  refine Classical.byContradiction fun hne => ?_
  have := count_two l (b := v.bal) (c := x.bal) (s := v.val') (u := x.val') (fun h => hne h.2)
  omega
/-- A value that more than half voted for in one ballot is decided. -/
theorem decided_at {l : List Vt} (he : decE l = 0) {x : Vt} (hx : x ∈ l) (h0 : 0 < x.bal) (hc : l.length < 2 * count l x.bal x.val') : decB l = true ∧ decS l = x.val' := by
  have hw : wins l x = true := decide_eq_true ⟨h0, hc⟩
  have hwin : winner l = l.find? (wins l) := if_pos he
  cases hf : l.find? (wins l) with
  | none =>
    rw [List.find?_eq_none] at hf
    exact absurd hw (hf x hx)
  | some v =>
    have h1 := List.find?_some hf
    rw [hf] at hwin
    refine ⟨by unfold decB; rw [hwin]; rfl, ?_⟩
    unfold decS
    rw [hwin]
    exact wins_one h1 hw
theorem decided_not {l : List Vt} (h : ∀ x ∈ l, 0 < x.bal → ¬ l.length < 2 * count l x.bal x.val') : decB l = false ∧ decS l = none' := by
  have hwin : winner l = none := by
    unfold winner
    split
    · rw [List.find?_eq_none]
      intro v hv hw
      unfold wins at hw
      rw [decide_eq_true_eq] at hw
      exact h v hv hw.1 hw.2
    · rfl
  exact ⟨by unfold decB; rw [hwin]; rfl, by unfold decS; rw [hwin]; rfl⟩
end Bt
/-- The counts are those of the first k of those that have voted; none is more than half. -/
def Counts (l : List Vt) (k : Nat) (cs : List Ct) : Prop := (∀ b s, Ct.ask cs b s = Bt.count ((vd l).take k) b s) ∧ ∀ b s, ¬ l.length < 2 * Ct.ask cs b s
theorem Counts.start (l : List Vt) : Counts l 0 [] := ⟨fun b s => rfl, fun b s h => by simp [Ct.ask] at h⟩
theorem Counts.next {l : List Vt} {k : Nat} {cs : List Ct} (h : Counts l k cs) {x : Vt} (hx : (vd l)[k]? = some x) (hn : ¬ l.length < 2 * (Ct.ask cs x.bal x.val' + 1)) : Counts l (k + 1) (Ct.bump cs x.bal x.val') := by
  refine ⟨fun b s => ?_, fun b s => ?_⟩
  · rw [Ct.ask_bump, Bt.count_succ _ _ _ hx, h.1]
  · rw [Ct.ask_bump]
    by_cases hb : b = x.bal ∧ s = x.val'
    · rw [if_pos hb, hb.1, hb.2]; exact hn
    · rw [if_neg hb]; exact h.2 b s
theorem mem_vd {l : List Vt} {k : Nat} {x : Vt} (hx : (vd l)[k]? = some x) : x ∈ l ∧ Bt.Voted x := by
  have := List.mem_of_getElem? hx
  unfold vd at this
  rw [List.mem_filter] at this
  exact ⟨this.1, by simpa using this.2⟩
theorem Counts.won {l : List Vt} {k : Nat} {cs : List Ct} (h : Counts l k cs) (hr : ∀ v ∈ l, Bt.Right v) (he : Bt.decE l = 0) {x : Vt} (hx : (vd l)[k]? = some x) (hn : l.length < 2 * (Ct.ask cs x.bal x.val' + 1)) : Bt.decB l = true ∧ Bt.decS l = x.val' := by
  obtain ⟨hm, hv⟩ := mem_vd hx
  have h0 := (Bt.voted_of_right (hr x hm)).1 hv
  refine Bt.decided_at he hm h0 ?_
  have h1 := Bt.count_succ (vd l) k x hx x.bal x.val'
  rw [if_pos ⟨rfl, rfl⟩, ← h.1] at h1
  have h2 := Bt.count_take_le (vd l) (k + 1) x.bal x.val'
  rw [Bt.count_le_vd l _ _ h0] at h2
  omega
theorem Counts.none {l : List Vt} {cs : List Ct} (h : Counts l (vd l).length cs) : Bt.decB l = false ∧ Bt.decS l = Bt.none' := by
  refine Bt.decided_not fun x hx h0 hc => ?_
  have h1 := h.1 x.bal x.val'
  rw [List.take_length, Bt.count_le_vd l _ _ h0] at h1
  exact h.2 x.bal x.val' (by omega)
theorem Counts.small {l : List Vt} {k : Nat} {cs : List Ct} (h : Counts l k cs) (b : Nat) (s : ByteArray) : Ct.ask cs b s ≤ l.length := by
  have := h.2 b s
  omega
end Go.Proofs.Ytigameebcicgpaa
