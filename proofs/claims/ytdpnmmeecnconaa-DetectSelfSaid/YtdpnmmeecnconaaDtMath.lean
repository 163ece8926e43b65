/-
  Layer 7: a detector, as mathematics: what it keeps, its calls; timeouts never fall; suspicions are seldom; who leads.
-/
import Derived.Test.YtdpnmmeecnconaaArgs
namespace Go.Proofs.Ytdpnmmeecnconaa
open Go.RowKit
set_option linter.unusedVariables false
set_option linter.unusedSimpArgs false

/-- What is kept of a node: when it was heard, its timeout, is it suspected. -/
structure Nd where
  last : Nat
  out : Nat
  sus : Bool
/-- A detector. -/
structure Dt where
  me : Nat
  first : Nat
  most : Nat
  step : Nat
  now : Nat
  nodes : List Nd
namespace Dt
def maxTime : Nat := 1152921504606846976
def new (me n first most step now : Nat) : Dt := ⟨me, first, most, step, now, List.replicate n ⟨now, first, false⟩⟩
/-- Is it one? -/
def right (me n first most step now : Int) : Prop := 1 ≤ n ∧ n ≤ 16 ∧ 0 ≤ me ∧ me < n ∧ 1 ≤ first ∧ first ≤ most ∧ most ≤ (maxTime : Int) ∧ step ≤ (maxTime : Int) ∧ now ≤ (maxTime : Int)
/-- May a time be told? -/
def timely (D : Dt) (t : Nat) : Prop := D.now ≤ t ∧ t ≤ maxTime
instance (D : Dt) (t : Nat) : Decidable (D.timely t) := by unfold timely; infer_instance
/-- A node that is heard. -/
def heard (D : Dt) (t : Nat) (x : Nd) : Nd := ⟨t, if x.sus then min D.most (x.out + D.step) else x.out, false⟩
def hear (D : Dt) (k t : Nat) : Dt := { D with now := t, nodes := D.nodes.modify k (D.heard t) }
def hearE (D : Dt) (k : Int) (t : Nat) : Int := if 0 ≤ k ∧ k < (D.nodes.length : Int) then if D.timely t then 0 else 70 else 2
/-- Is a node late? -/
def late (D : Dt) (t i : Nat) (x : Nd) : Bool := !(i == D.me) && !x.sus && decide (x.out < t - x.last)
def ticked (D : Dt) (t i : Nat) (x : Nd) : Nd := if D.late t i x then { x with sus := true } else x
def tick (D : Dt) (t : Nat) : Dt := { D with now := t, nodes := D.nodes.mapIdx (D.ticked t) }
/-- The nodes that a Tick lets be suspected. -/
def fresh (D : Dt) (t : Nat) : List Nat := (List.range D.nodes.length).filter fun i => match D.nodes[i]? with
  | some x => D.late t i x
  | none => false
def suspects (D : Dt) : List Nat := (List.range D.nodes.length).filter fun i => match D.nodes[i]? with
  | some x => x.sus
  | none => false
def leader (D : Dt) : Nat := D.nodes.findIdx fun x => !x.sus
def timeout (D : Dt) (k : Nat) : Nat := ((D.nodes[k]?).map Nd.out).getD 0
/-- What holds behind all calls. -/
structure Ok (D : Dt) : Prop where
  me : D.me < D.nodes.length
  self : ∀ x, D.nodes[D.me]? = some x → x.sus = false
  out : ∀ x ∈ D.nodes, x.out ≤ D.most
  last : ∀ x ∈ D.nodes, x.last ≤ D.now
  few : D.nodes.length ≤ 16
  most' : D.most ≤ maxTime
  step' : D.step ≤ maxTime
  now' : D.now ≤ maxTime
theorem new_ok {me n first most step now : Nat} (h1 : me < n) (h2 : first ≤ most) (h3 : n ≤ 16) (h4 : most ≤ maxTime) (h5 : step ≤ maxTime) (h6 : now ≤ maxTime) : (new me n first most step now).Ok where
  few := by simpa [new] using h3
  most' := h4
  step' := h5
  now' := h6
  me := by simp [new, h1]
  self := fun x hx => by simp only [new, List.getElem?_replicate] at hx; split at hx <;> simp_all [eq_comm]
  out := fun x hx => by simp only [new, List.mem_replicate] at hx; rw [hx.2]; exact h2
  last := fun x hx => by simp only [new, List.mem_replicate] at hx; rw [hx.2]; exact Nat.le_refl _
theorem hear_length (D : Dt) (k t : Nat) : (D.hear k t).nodes.length = D.nodes.length := by simp [hear]
theorem tick_length (D : Dt) (t : Nat) : (D.tick t).nodes.length = D.nodes.length := by simp [tick]
theorem hear_ok {D : Dt} (h : D.Ok) (k t : Nat) (htt : D.timely t) : (D.hear k t).Ok := by
  have ht := htt.1
  have hmem : ∀ x ∈ (D.hear k t).nodes, (∃ y ∈ D.nodes, x = y ∨ x = D.heard t y) := fun x hx => by
    obtain ⟨i, hi, rfl⟩ := List.mem_iff_getElem.1 hx
    have hi' : i < D.nodes.length := by rwa [hear_length] at hi
    refine ⟨D.nodes[i], List.getElem_mem hi', ?_⟩
    simp only [hear, List.getElem_modify]
    split
    · exact .inr rfl
    · exact .inl rfl
  refine ⟨by rw [hear_length]; exact h.me, fun x hx => ?_, fun x hx => ?_, fun x hx => ?_, by rw [hear_length]; exact h.few, h.most', h.step', htt.2⟩
  · simp only [hear, List.getElem?_modify] at hx
    have hm := h.me
    rw [List.getElem?_eq_getElem hm] at hx
    simp only [Option.map_eq_map, Option.map_some, Option.some.injEq] at hx
    have hs := h.self D.nodes[D.me] (List.getElem?_eq_getElem hm)
    subst hx
    split
    · rfl
    · exact hs
  · obtain ⟨y, hy, rfl | rfl⟩ := hmem x hx
    · exact h.out x hy
    · have := h.out y hy
      show (if y.sus then min D.most (y.out + D.step) else y.out) ≤ D.most
      split <;> omega
  · obtain ⟨y, hy, rfl | rfl⟩ := hmem x hx
    · exact Nat.le_trans (h.last x hy) ht
    · exact Nat.le_refl t
theorem ticked_out (D : Dt) (t i : Nat) (x : Nd) : (D.ticked t i x).out = x.out ∧ (D.ticked t i x).last = x.last := by unfold ticked; split <;> exact ⟨rfl, rfl⟩
theorem tick_ok {D : Dt} (h : D.Ok) (t : Nat) (htt : D.timely t) : (D.tick t).Ok := by
  have ht := htt.1
  have hmem : ∀ x ∈ (D.tick t).nodes, ∃ y ∈ D.nodes, x.out = y.out ∧ x.last = y.last := fun x hx => by
    obtain ⟨i, hi, rfl⟩ := List.mem_iff_getElem.1 hx
    have hi' : i < D.nodes.length := by rwa [tick_length] at hi
    refine ⟨D.nodes[i], List.getElem_mem hi', ?_⟩
    simp only [tick, List.getElem_mapIdx]
    exact ticked_out _ _ _ _
  refine ⟨by rw [tick_length]; exact h.me, fun x hx => ?_, fun x hx => ?_, fun x hx => ?_, by rw [tick_length]; exact h.few, h.most', h.step', htt.2⟩
  · simp only [tick, List.getElem?_mapIdx] at hx
    have hm := h.me
    rw [List.getElem?_eq_getElem hm] at hx
    simp only [Option.map_some, Option.some.injEq] at hx
    have hs := h.self D.nodes[D.me] (List.getElem?_eq_getElem hm)
    subst hx
    unfold ticked late
    simp [hs]
  · obtain ⟨y, hy, e, _⟩ := hmem x hx
    rw [e]; exact h.out y hy
  · obtain ⟨y, hy, _, e⟩ := hmem x hx
    rw [e]; exact Nat.le_trans (h.last y hy) ht
/-- Timeouts never fall. -/
theorem hear_grows {D : Dt} (h : D.Ok) (k t j : Nat) : D.timeout j ≤ (D.hear k t).timeout j := by
  unfold timeout
  simp only [hear, List.getElem?_modify]
  cases hj : D.nodes[j]? with
  | none => simp
  | some x =>
    have := h.out x (List.mem_of_getElem? hj)
    simp only [Option.map_some, Option.getD_some]
    split
    · show x.out ≤ (if x.sus then min D.most (x.out + D.step) else x.out)
      split <;> omega
    · exact Nat.le_refl _
theorem tick_same (D : Dt) (t j : Nat) : (D.tick t).timeout j = D.timeout j := by
  unfold timeout
  simp only [tick, List.getElem?_mapIdx]
  cases hj : D.nodes[j]? with
  | none => rfl
  | some x => simp [(ticked_out D t j x).1]
theorem timeout_most {D : Dt} (h : D.Ok) (j : Nat) : D.timeout j ≤ D.most := by
  unfold timeout
  cases hj : D.nodes[j]? with
  | none => simp
  | some x => simpa using h.out x (List.mem_of_getElem? hj)
/-- Who leads: not later than the node itself. -/
theorem leader_le {D : Dt} (h : D.Ok) : D.leader ≤ D.me := by
  unfold leader
  have hm := h.me
  have hs := h.self D.nodes[D.me] (List.getElem?_eq_getElem hm)
  refine Nat.le_of_not_lt fun hlt => ?_
  have := List.not_of_lt_findIdx hlt
  simp [hs] at this
theorem leader_lt {D : Dt} (h : D.Ok) : D.leader < D.nodes.length := Nat.lt_of_le_of_lt (leader_le h) h.me
theorem leader_free {D : Dt} (h : D.Ok) : ∀ x, D.nodes[D.leader]? = some x → x.sus = false := fun x hx => by
  have hl := leader_lt h
  have h1 : D.nodes.findIdx (fun x => !x.sus) < D.nodes.length := hl
  have := List.findIdx_getElem (w := h1)
  unfold leader at hx
  rw [List.getElem?_eq_getElem h1] at hx
  simp only [Option.some.injEq] at hx
  rw [hx] at this
  simpa using this
theorem ahead_sus {D : Dt} (j : Nat) (hj : j < D.leader) : ∃ x, D.nodes[j]? = some x ∧ x.sus = true := by
  unfold leader at hj
  have hl : j < D.nodes.length := Nat.lt_of_lt_of_le hj List.findIdx_le_length
  have := List.not_of_lt_findIdx hj
  exact ⟨D.nodes[j], List.getElem?_eq_getElem hl, by simpa using this⟩
theorem mem_suspects {D : Dt} (i : Nat) : i ∈ D.suspects ↔ ∃ x, D.nodes[i]? = some x ∧ x.sus = true := by
  unfold suspects
  rw [List.mem_filter, List.mem_range]
  constructor
  · rintro ⟨h1, h2⟩
    rw [List.getElem?_eq_getElem h1] at h2
    exact ⟨_, List.getElem?_eq_getElem h1, h2⟩
  · rintro ⟨x, h1, h2⟩
    exact ⟨(List.getElem?_eq_some_iff.1 h1).1, by rw [h1]; exact h2⟩
/-- The suspects begin with all ahead of the leader. -/
theorem filter_range (p : Nat → Bool) (k n : Nat) (hk : k ≤ n) (h : ∀ j, j < k → p j = true) : ((List.range n).filter p).take k = List.range k := by
  obtain ⟨m, rfl⟩ : ∃ m, n = k + m := ⟨n - k, by omega⟩
  rw [List.range_add, List.filter_append]
  have h1 : (List.range k).filter p = List.range k := List.filter_eq_self.2 fun j hj => h j (List.mem_range.1 hj)
  rw [h1, List.take_append_of_le_length (by simp)]
  exact List.take_of_length_le (by simp)
theorem suspects_head {D : Dt} (h : D.Ok) : D.suspects.take D.leader = List.range D.leader := by
  unfold suspects
  refine filter_range _ _ _ (Nat.le_of_lt (leader_lt h)) fun j hj => ?_
  obtain ⟨x, h1, h2⟩ := ahead_sus j hj
  rw [h1]; exact h2
theorem suspects_long {D : Dt} (h : D.Ok) : D.leader ≤ D.suspects.length := by
  have := congrArg List.length (suspects_head h)
  simp only [List.length_take, List.length_range] at this
  omega
theorem suspects_at {D : Dt} (h : D.Ok) (j : Nat) (hj : j < D.leader) : D.suspects[j]? = some j := by
  have h1 := congrArg (fun l => l[j]?) (suspects_head h)
  simp only [List.getElem?_take] at h1
  rw [if_pos hj] at h1
  rw [h1]
  simp [hj]
theorem not_self {D : Dt} (h : D.Ok) (i : Nat) (hi : i ∈ D.suspects) : i ≠ D.me ∧ i ≠ D.leader := by
  obtain ⟨x, h1, h2⟩ := (mem_suspects i).1 hi
  refine ⟨fun e => ?_, fun e => ?_⟩
  · rw [e] at h1
    have := h.self x h1
    rw [h2] at this; cases this
  · rw [e] at h1
    have := leader_free h x h1
    rw [h2] at this; cases this
/-- A node that is heard again and again: its timeout, how often it was suspected. -/
structure Sel (first most step out times : Nat) : Prop where
  grown : out = most ∨ out = first + times * step
  upto : out ≤ most
  few : times = 0 ∨ (times - 1) * step < most
theorem Sel.begin {first most step : Nat} (h : first ≤ most) : Sel first most step first 0 := ⟨.inr (by simp), h, .inl rfl⟩
theorem Sel.late {first most step out times d : Nat} (h : Sel first most step out times) (hd : d ≤ most) (hl : out < d) : Sel first most step (min most (out + step)) (times + 1) := by
  have he : out = first + times * step := h.grown.resolve_left (by omega)
  refine ⟨?_, Nat.min_le_left _ _, .inr ?_⟩
  · have e : (times + 1) * step = times * step + step := Nat.succ_mul times step
    by_cases hm : most ≤ out + step
    · exact .inl (Nat.min_eq_left hm)
    · rw [Nat.min_eq_right (by omega)]
      exact .inr (by rw [e]; omega)
  · rw [Nat.add_sub_cancel]; omega
theorem Sel.bound {first most step out times : Nat} (h : Sel first most step out times) (hs : 1 ≤ step) : times ≤ most / step + 1 := by
  rcases h.few with h0 | h0
  · rw [h0]; exact Nat.zero_le _
  · have hp : 0 < step := hs
    have : times - 1 ≤ most / step := (Nat.le_div_iff_mul_le hp).2 (Nat.le_of_lt h0)
    exact Nat.le_add_of_sub_le this
end Dt
end Go.Proofs.Ytdpnmmeecnconaa
