/-
  Layer 8: votes, as mathematics: each call; one value is decided.
-/
import Derived.Test.YtigameebcicgpaaBtRows
namespace Go.Proofs.Ytigameebcicgpaa
open Go.RowKit
set_option linter.unusedVariables false
set_option linter.unusedSimpArgs false

namespace Bt
def none' : ByteArray := ⟨#[]⟩
/-- Is an acceptor right? -/
def Right (v : Vt) : Prop := v.bal ≤ v.prom ∧ (0 < v.bal ∨ v.val'.size = 0) ∧ v.val'.size ≤ 4000
instance (v : Vt) : Decidable (Right v) := by unfold Right; infer_instance
def promE (v : Vt) (b : Nat) : Int := if Right v ∧ 1 ≤ b then if b ≤ v.prom then 80 else 0 else 2
def promV (v : Vt) (b : Nat) : Vt := if promE v b = 0 then { v with prom := b } else Vt.zero
def castE (v : Vt) (b : Nat) (s : ByteArray) : Int := if Right v ∧ 1 ≤ b ∧ s.size ≤ 4000 then if b < v.prom then 80 else 0 else 2
def castV (v : Vt) (b : Nat) (s : ByteArray) : Vt := if castE v b s = 0 then ⟨b, b, s⟩ else Vt.zero
/-- The greatest ballot's value, the first of these. -/
def upTo (p : Nat × ByteArray) (v : Vt) : Nat × ByteArray := if p.1 < v.bal then (v.bal, v.val') else p
def best (l : List Vt) (own : ByteArray) : Nat × ByteArray := l.foldl upTo (0, own)
def propE (n : Int) (l : List Vt) (own : ByteArray) : Int := if 1 ≤ n ∧ n ≤ 16 ∧ (l.length : Int) ≤ n ∧ n < 2 * (l.length : Int) then if own.size ≤ 4000 ∧ ∀ v ∈ l, Right v then 0 else 2 else 81
def propS (n : Int) (l : List Vt) (own : ByteArray) : ByteArray := if propE n l own = 0 then (best l own).2 else none'
/-- How many voted so. -/
def count (l : List Vt) (b : Nat) (s : ByteArray) : Nat := l.countP fun v => decide (v.bal = b ∧ v.val' = s)
def wins (l : List Vt) (v : Vt) : Bool := decide (0 < v.bal ∧ l.length < 2 * count l v.bal v.val')
def decE (l : List Vt) : Int := if 1 ≤ l.length ∧ l.length ≤ 16 then if ∀ v ∈ l, Right v then 0 else 2 else 81
def winner (l : List Vt) : Option Vt := if decE l = 0 then l.find? (wins l) else none
def decB (l : List Vt) : Bool := (winner l).isSome
def decS (l : List Vt) : ByteArray := ((winner l).map Vt.val').getD none'
def nextE (b : Nat) (node : Int) : Int := if 0 ≤ node ∧ node ≤ 15 ∧ b ≤ 1152921504606846976 then 0 else 2
def nextV (b : Nat) (node : Int) : Nat := if nextE b node = 0 then b + 1 + (node.toNat + 16 - (b + 1) % 16) % 16 else 0
theorem nextV_props {b : Nat} {node : Int} (h : nextE b node = 0) : b < nextV b node ∧ ((nextV b node % 16 : Nat) : Int) = node ∧ nextV b node - b ≤ 16 := by
  have hn : 0 ≤ node ∧ node ≤ 15 := by
    unfold nextE at h
    split at h
    · rename_i hh; exact ⟨hh.1, hh.2.1⟩
    · cases h
  unfold nextV
  rw [if_pos h]
  omega
/-! Counting. -/
theorem nodup_le (n : Nat) (l : List Nat) (hn : l.Nodup) (hl : ∀ x ∈ l, x < n) : l.length ≤ n := by
  induction n generalizing l with
  | zero =>
    cases l with
    | nil => exact Nat.le_refl _
    | cons a l => have := hl a (by simp); omega
  | succ n ih =>
    have h := ih (l.erase n) (hn.erase n) (fun x hx => by
      rw [hn.mem_erase_iff] at hx
      have := hl x hx.2
      have := hx.1
      omega)
    by_cases hm : n ∈ l
    · rw [List.length_erase_of_mem hm] at h; omega
    · rw [List.erase_of_not_mem hm] at h; omega
theorem meet {n : Nat} {a b : List Nat} (ha : a.Nodup) (hb : b.Nodup) (ha' : ∀ x ∈ a, x < n) (hb' : ∀ x ∈ b, x < n) (h : n < a.length + b.length) : ∃ x, x ∈ a ∧ x ∈ b := by
  refine Classical.byContradiction fun hno => ?_
  have hd : (a ++ b).Nodup := by
    rw [List.nodup_append]
    exact ⟨ha, hb, fun x hx y hy e => hno ⟨x, hx, e ▸ hy⟩⟩
  have := nodup_le n (a ++ b) hd (fun x hx => (List.mem_append.1 hx).elim (ha' x) (hb' x))
  rw [List.length_append] at this
  omega
theorem count_places (l : List Vt) (p : Vt → Bool) : ∃ vs : List Nat, vs.Nodup ∧ (∀ a ∈ vs, ∃ h : a < l.length, p l[a] = true) ∧ vs.length = l.countP p := by
  refine ⟨(List.range l.length).filter (fun i => match l[i]? with
    | some v => p v
    | none => false), List.Pairwise.sublist List.filter_sublist List.nodup_range, fun a ha => ?_, ?_⟩
  · rw [List.mem_filter, List.mem_range] at ha
    refine ⟨ha.1, ?_⟩
    have := ha.2
    rw [List.getElem?_eq_getElem ha.1] at this
    exact this
  · induction l with
    | nil => rfl
    | cons v l ih =>
      rw [List.length_cons, List.range_succ_eq_map, List.countP_cons, List.filter_cons, List.filter_map, ← ih]
      have e : ((fun i => match (v :: l)[i]? with
          | some v => p v
          | none => false) ∘ Nat.succ) = fun i => match l[i]? with
          | some v => p v
          | none => false := by
        funext i
        simp
      rw [e]
      cases hp : p v <;> simp [hp]
/-- The greatest ballot: it is one of them, or none has voted. -/
theorem best_spec (l : List Vt) (p : Nat × ByteArray) : p.1 ≤ (l.foldl upTo p).1 ∧ (∀ v ∈ l, v.bal ≤ (l.foldl upTo p).1) ∧ (l.foldl upTo p = p ∨ ∃ v ∈ l, l.foldl upTo p = (v.bal, v.val') ∧ 0 < v.bal) := by
  induction l generalizing p with
  | nil => exact ⟨Nat.le_refl _, (fun v hv => by cases hv), .inl rfl⟩
  | cons v l ih =>
    obtain ⟨h1, h2, h3⟩ := ih (upTo p v)
    have hp : p.1 ≤ (upTo p v).1 ∧ v.bal ≤ (upTo p v).1 := by
      unfold upTo
      by_cases hlt : p.1 < v.bal
      · rw [if_pos hlt]; exact ⟨Nat.le_of_lt hlt, Nat.le_refl _⟩
      · rw [if_neg hlt]; exact ⟨Nat.le_refl _, Nat.le_of_not_lt hlt⟩
    rw [List.foldl_cons]
    refine ⟨Nat.le_trans hp.1 h1, fun x hx => ?_, ?_⟩
    · rcases List.mem_cons.1 hx with rfl | hx
      · exact Nat.le_trans hp.2 h1
      · exact h2 x hx
    · rcases h3 with h3 | ⟨x, hx, h3⟩
      · by_cases hv : p.1 < v.bal
        · refine .inr ⟨v, by simp, ?_, by omega⟩
          rw [h3, upTo, if_pos hv]
        · refine .inl ?_
          rw [h3, upTo, if_neg hv]
      · exact .inr ⟨x, List.mem_cons_of_mem _ hx, h3⟩
/-! The race of ballots. -/
structure Race where
  by' : List Vt
  has : List Bool
  value : ByteArray
  fixed : Bool
/-- What holds of a system of n acceptors; H: who has ever voted in which ballot; I: whose promises a ballot's proposer has. -/
structure Inv (n : Nat) (own : Nat → ByteArray) (A : List Vt) (R : Nat → Race) (H : Nat → Nat → Prop) (I : Nat → List Nat) : Prop where
  len : A.length = n
  few : n ≤ 16
  small : ∀ b, (own b).size ≤ 4000
  right : ∀ v ∈ A, Right v
  voted : ∀ b a, H b a → ∃ ha : a < A.length, 1 ≤ b ∧ (R b).fixed = true ∧ b ≤ A[a].bal
  last : ∀ a (ha : a < A.length), 0 < A[a].bal → H A[a].bal a ∧ A[a].val' = (R A[a].bal).value
  ids : ∀ b, (I b).Nodup ∧ (I b).length = (R b).by'.length ∧ (R b).has.length = 16 ∧ (∀ a, a ∈ I b ↔ (R b).has[a]? = some true)
  kept : ∀ b i (hi : i < (I b).length) (hj : i < (R b).by'.length), ∃ ha : (I b)[i] < A.length,
    Right (R b).by'[i] ∧ b ≤ A[(I b)[i]].prom ∧ (∀ c, c < b → H c (I b)[i] → c ≤ (R b).by'[i].bal) ∧
    (0 < (R b).by'[i].bal → (R b).by'[i].bal < b ∧ H (R b).by'[i].bal (I b)[i] ∧ (R b).by'[i].val' = (R (R b).by'[i].bal).value)
  fixed : ∀ b, (R b).fixed = true → n < 2 * (R b).by'.length ∧ (R b).value = (best (R b).by' (own b)).2 ∧ (R b).value.size ≤ 4000
/-- A ballot in which more than half have voted at some time. -/
def Maj (n : Nat) (H : Nat → Nat → Prop) (b : Nat) : Prop := ∃ vs : List Nat, vs.Nodup ∧ (∀ a ∈ vs, H b a) ∧ n < 2 * vs.length
variable {n : Nat} {own : Nat → ByteArray} {A : List Vt} {R : Nat → Race} {H : Nat → Nat → Prop} {I : Nat → List Nat}
theorem Maj.mono {H' : Nat → Nat → Prop} {b : Nat} (h : Maj n H b) (hh : ∀ c a, H c a → H' c a) : Maj n H' b := by
  obtain ⟨vs, h1, h2, h3⟩ := h
  exact ⟨vs, h1, fun a ha => hh _ _ (h2 a ha), h3⟩
/-- Later ballots have the value of one that was decided. -/
theorem Inv.later (h : Inv n own A R H I) (b : Nat) (hm : Maj n H b) : ∀ c, b < c → (R c).fixed = true → (R c).value = (R b).value := by
  intro c
  induction c using Nat.strongRecOn with
  | _ c ih =>
    intro hbc hf
    obtain ⟨hq, hv, _⟩ := h.fixed c hf
    obtain ⟨vs, hvn, hvh, hvl⟩ := hm
    obtain ⟨hin, hil, _, _⟩ := h.ids c
    obtain ⟨a, ha1, ha2⟩ := meet (n := n) hin hvn (fun x hx => by
      obtain ⟨i, hi, rfl⟩ := List.getElem_of_mem hx
      obtain ⟨hlt, _⟩ := h.kept c i hi (by omega)
      have := h.len
      omega) (fun x hx => by
      obtain ⟨hlt, _⟩ := h.voted b x (hvh x hx)
      have := h.len
      omega) (by omega)
    obtain ⟨i, hi, rfl⟩ := List.getElem_of_mem ha1
    obtain ⟨_, _, _, hk3, _⟩ := h.kept c i hi (by omega)
    have hge : b ≤ (R c).by'[i].bal := hk3 b hbc (hvh _ ha2)
    obtain ⟨_, hb1, _⟩ := h.voted b _ (hvh _ ha2)
    obtain ⟨s1, s2, s3⟩ := best_spec (R c).by' (0, own c)
    have hbi := s2 _ (List.getElem_mem (show i < (R c).by'.length by omega))
    rcases s3 with s3 | ⟨u, hu, s3, hu0⟩
    · rw [s3] at hbi
      simp only at hbi
      omega
    · obtain ⟨j, hj, rfl⟩ := List.getElem_of_mem hu
      obtain ⟨_, _, _, _, hk4⟩ := h.kept c j (by omega) hj
      obtain ⟨hlt, hH, he⟩ := hk4 hu0
      rw [s3] at hbi
      simp only at hbi
      have hval : (R c).value = (R (R c).by'[j].bal).value := by
        rw [hv]
        unfold best
        rw [s3, he]
      rw [hval]
      by_cases heq : (R c).by'[j].bal = b
      · rw [heq]
      · obtain ⟨_, _, hfx, _⟩ := h.voted _ _ hH
        exact ih _ hlt (by omega) hfx
theorem Inv.one (h : Inv n own A R H I) {b c : Nat} (fb : (R b).fixed = true) (fc : (R c).fixed = true) (mb : Maj n H b) (mc : Maj n H c) : (R b).value = (R c).value := by
  rcases Nat.lt_trichotomy b c with hl | rfl | hl
  · exact (h.later b mb c hl fc).symm
  · rfl
  · exact h.later c mc b hl fb
/-- What is decided has a ballot in which more than half have voted. -/
theorem Inv.decided (h : Inv n own A R H I) (v : Vt) (hw : winner A = some v) : (R v.bal).fixed = true ∧ Maj n H v.bal ∧ v.val' = (R v.bal).value := by
  unfold winner at hw
  split at hw
  · have hmem := List.mem_of_find?_eq_some hw
    have hp := List.find?_some hw
    unfold wins at hp
    rw [decide_eq_true_eq] at hp
    obtain ⟨hv0, hc⟩ := hp
    obtain ⟨a, ha, rfl⟩ := List.getElem_of_mem hmem
    obtain ⟨hH, he⟩ := h.last a ha hv0
    obtain ⟨_, _, hfx, _⟩ := h.voted _ _ hH
    refine ⟨hfx, ?_, he⟩
    obtain ⟨vs, h1, h2, h3⟩ := count_places A (fun v => decide (v.bal = A[a].bal ∧ v.val' = A[a].val'))
    refine ⟨vs, h1, fun x hx => ?_, ?_⟩
    · obtain ⟨hx1, hx2⟩ := h2 x hx
      rw [decide_eq_true_eq] at hx2
      obtain ⟨hHx, _⟩ := h.last x hx1 (by rw [hx2.1]; exact hv0)
      rwa [hx2.1] at hHx
    · rw [h3, ← h.len]; exact hc
  · cases hw
/-! The steps. -/
def upd (R : Nat → Race) (b : Nat) (r : Race) : Nat → Race := fun c => if c = b then r else R c
def cnt (R : Nat → Race) (A : List Vt) (b a : Nat) (ha : a < A.length) : Race := { R b with by' := (R b).by' ++ [A[a]], has := (R b).has.set a true }
def fx (R : Nat → Race) (own : Nat → ByteArray) (b : Nat) : Race := { R b with value := (best (R b).by' (own b)).2, fixed := true }
theorem upd_same (R : Nat → Race) (b : Nat) (r : Race) : upd R b r b = r := if_pos rfl
theorem upd_ne (R : Nat → Race) {b c : Nat} (r : Race) (h : c ≠ b) : upd R b r c = R c := if_neg h
/-- An acceptor promises. -/
theorem Inv.promised (h : Inv n own A R H I) (b a : Nat) (ha : a < A.length) (he : promE A[a] b = 0) : Inv n own (A.set a (promV A[a] b)) R H I := by
  obtain ⟨hr, hb1, hlt⟩ : Right A[a] ∧ 1 ≤ b ∧ A[a].prom < b := by
    unfold promE at he
    split at he
    · rename_i hh
      split at he
      · cases he
      · exact ⟨hh.1, hh.2, by omega⟩
    · cases he
  have hv : promV A[a] b = { A[a] with prom := b } := by unfold promV; rw [if_pos he]
  have hget : ∀ x (hx : x < A.length), (A.set a (promV A[a] b))[x]'(by rw [List.length_set]; exact hx) = if a = x then { A[x] with prom := b } else A[x] := fun x hx => by
    rw [List.getElem_set, hv]
    split
    · rename_i e; subst e; rfl
    · rfl
  have hbal : ∀ x (hx : x < A.length), ((A.set a (promV A[a] b))[x]'(by rw [List.length_set]; exact hx)).bal = A[x].bal := fun x hx => by rw [hget x hx]; split <;> rfl
  have hval : ∀ x (hx : x < A.length), ((A.set a (promV A[a] b))[x]'(by rw [List.length_set]; exact hx)).val' = A[x].val' := fun x hx => by rw [hget x hx]; split <;> rfl
  refine ⟨by rw [List.length_set]; exact h.len, h.few, h.small, fun v hvm => ?_, fun c x hH => ?_, fun x hx h0 => ?_, h.ids, fun c i hi hj => ?_, h.fixed⟩
  · obtain ⟨x, hx, rfl⟩ := List.getElem_of_mem hvm
    have hx' : x < A.length := by rwa [List.length_set] at hx
    rw [hget x hx']
    have hxr := h.right _ (List.getElem_mem hx')
    split
    · rename_i e
      subst e
      exact ⟨by have := hr.1; show A[a].bal ≤ b; omega, hr.2⟩
    · exact hxr
  · obtain ⟨hx, h1, h2, h3⟩ := h.voted c x hH
    exact ⟨by rw [List.length_set]; exact hx, h1, h2, by rw [hbal x hx]; exact h3⟩
  · have hx' : x < A.length := by rwa [List.length_set] at hx
    have hb := hbal x hx'
    have hvv := hval x hx'
    skip
    rw [hb] at h0 ⊢
    rw [hvv]
    exact h.last x hx' h0
  · obtain ⟨hx, h1, h2, h3, h4⟩ := h.kept c i hi hj
    refine ⟨by rw [List.length_set]; exact hx, h1, ?_, h3, h4⟩
    rw [hget _ hx]
    split
    · rename_i e
      show c ≤ b
      have h2' : c ≤ A[a].prom := by simp only [e]; exact h2
      omega
    · exact h2
/-- The promise is counted. -/
theorem Inv.counted (h : Inv n own A R H I) (b a : Nat) (ha : a < A.length) (hp : A[a].prom = b) (hlb : A[a].bal < b) (hf : (R b).fixed = false) (hh : (R b).has[a]? = some false) :
    Inv n own A (upd R b (cnt R A b a ha)) H (fun c => if c = b then I b ++ [a] else I c) := by
  have hfx : ∀ c, (upd R b (cnt R A b a ha) c).fixed = (R c).fixed ∧ (upd R b (cnt R A b a ha) c).value = (R c).value := fun c => by
    unfold upd
    split
    · rename_i e; subst e; exact ⟨rfl, rfl⟩
    · exact ⟨rfl, rfl⟩
  obtain ⟨i1, i2, i3, i4⟩ := h.ids b
  have hna : a ∉ I b := fun hm => by rw [(i4 a).1 hm] at hh; cases hh
  refine ⟨h.len, h.few, h.small, h.right, fun c x hH => ?_, fun x hx h0 => ?_, fun c => ?_, fun c i hi hj => ?_, fun c hc => ?_⟩
  · obtain ⟨hx, h1, h2, h3⟩ := h.voted c x hH
    exact ⟨hx, h1, by rw [(hfx c).1]; exact h2, h3⟩
  · obtain ⟨h1, h2⟩ := h.last x hx h0
    exact ⟨h1, by rw [(hfx _).2]; exact h2⟩
  · by_cases e : c = b
    · subst e
      rw [upd_same]
      simp only [if_true]
      refine ⟨?_, by simp [i2, cnt], by simp [i3, cnt], fun x => ?_⟩
      · rw [List.nodup_append]
        refine ⟨i1, by simp, fun x hx y hy e => ?_⟩
        rw [List.mem_singleton] at hy
        subst hy e
        exact hna hx
      · rw [List.mem_append, List.mem_singleton, i4 x]
        show _ ↔ ((R c).has.set a true)[x]? = some true
        rw [List.getElem?_set]
        have hal : a < (R c).has.length := (List.getElem?_eq_some_iff.1 hh).1
        by_cases hx : a = x
        · subst hx
          simp [hal]
        · simp [hx, Ne.symm hx]
    · rw [upd_ne _ _ e]
      simp only [if_neg e]
      exact h.ids c
  · by_cases e : c = b
    · subst e
      simp only [upd_same, if_true, cnt] at hi hj ⊢
      by_cases hil : i < (I c).length
      · have hjl : i < (R c).by'.length := by omega
        obtain ⟨hx, h1, h2, h3, h4⟩ := h.kept c i hil hjl
        have e1 : (I c ++ [a])[i] = (I c)[i] := List.getElem_append_left hil
        have e2 : ((R c).by' ++ [A[a]])[i] = (R c).by'[i] := List.getElem_append_left hjl
        refine ⟨by rw [e1]; exact hx, ?_⟩
        simp only [e1, e2]
        refine ⟨h1, h2, h3, fun h0 => ?_⟩
        obtain ⟨g1, g2, g3⟩ := h4 h0
        exact ⟨g1, g2, by rw [upd_ne _ _ (by omega)]; exact g3⟩
      · have hil' : i = (I c).length := by rw [List.length_append, List.length_singleton] at hi; omega
        have e1 : (I c ++ [a])[i] = a := by
          rw [List.getElem_append_right (by omega)]
          simp
        have e2 : ((R c).by' ++ [A[a]])[i] = A[a] := by
          rw [List.getElem_append_right (by omega)]
          simp
        refine ⟨by rw [e1]; exact ha, ?_⟩
        simp only [e1, e2]
        refine ⟨h.right _ (List.getElem_mem ha), by omega, fun d hd hH => ?_, fun h0 => ?_⟩
        · obtain ⟨_, _, _, h3⟩ := h.voted d a hH
          exact h3
        · obtain ⟨g1, g2⟩ := h.last a ha h0
          exact ⟨hlb, g1, by rw [upd_ne _ _ (by omega)]; exact g2⟩
    · simp only [if_neg e] at hi ⊢
      have e3 := upd_ne R (cnt R A b a ha) e
      have hj' : i < (R c).by'.length := by rw [← e3]; exact hj
      have e4 : (upd R b (cnt R A b a ha) c).by'[i]'hj = (R c).by'[i] := by simp only [e3]
      obtain ⟨hx, h1, h2, h3, h4⟩ := h.kept c i hi hj'
      refine ⟨hx, ?_⟩
      simp only [e4]
      refine ⟨h1, h2, h3, fun h0 => ?_⟩
      obtain ⟨g1, g2, g3⟩ := h4 h0
      exact ⟨g1, g2, by rw [(hfx _).2]; exact g3⟩
  · rw [(hfx c).1] at hc
    have e : c ≠ b := fun e => by subst e; rw [hf] at hc; cases hc
    rw [upd_ne _ _ e]
    exact h.fixed c hc
/-- A ballot's value is chosen. -/
theorem Inv.chosen (h : Inv n own A R H I) (b : Nat) (hf : (R b).fixed = false) (hq : n < 2 * (R b).by'.length) (hs : (best (R b).by' (own b)).2.size ≤ 4000) :
    Inv n own A (upd R b (fx R own b)) H I := by
  have hne : ∀ c a, H c a → c ≠ b := fun c a hH e => by
    obtain ⟨_, _, h2, _⟩ := h.voted c a hH
    rw [e, hf] at h2; cases h2
  have hby : ∀ c, (upd R b (fx R own b) c).by' = (R c).by' ∧ (upd R b (fx R own b) c).has = (R c).has := fun c => by
    unfold upd
    split
    · rename_i e; subst e; exact ⟨rfl, rfl⟩
    · exact ⟨rfl, rfl⟩
  refine ⟨h.len, h.few, h.small, h.right, fun c x hH => ?_, fun x hx h0 => ?_, fun c => ?_, fun c i hi hj => ?_, fun c hc => ?_⟩
  · obtain ⟨hx, h1, h2, h3⟩ := h.voted c x hH
    exact ⟨hx, h1, by rw [upd_ne _ _ (hne c x hH)]; exact h2, h3⟩
  · obtain ⟨h1, h2⟩ := h.last x hx h0
    exact ⟨h1, by rw [upd_ne _ _ (hne _ _ h1)]; exact h2⟩
  · rw [(hby c).1, (hby c).2]
    exact h.ids c
  · have e1 := (hby c).1
    have hj' : i < (R c).by'.length := by rw [← e1]; exact hj
    obtain ⟨hx, h1, h2, h3, h4⟩ := h.kept c i hi hj'
    have e2 : (upd R b (fx R own b) c).by'[i]'hj = (R c).by'[i] := by simp only [e1]
    refine ⟨hx, ?_⟩
    simp only [e2]
    refine ⟨h1, h2, h3, fun h0 => ?_⟩
    obtain ⟨g1, g2, g3⟩ := h4 h0
    exact ⟨g1, g2, by rw [upd_ne _ _ (hne _ _ g2)]; exact g3⟩
  · by_cases e : c = b
    · subst e
      rw [upd_same]
      exact ⟨hq, rfl, hs⟩
    · rw [upd_ne _ _ e] at hc ⊢
      exact h.fixed c hc
/-- An acceptor votes. -/
theorem Inv.cast (h : Inv n own A R H I) (b a : Nat) (ha : a < A.length) (hf : (R b).fixed = true) (he : castE A[a] b (R b).value = 0) :
    Inv n own (A.set a (castV A[a] b (R b).value)) R (fun c x => H c x ∨ (c = b ∧ x = a)) I := by
  obtain ⟨hr, hb1, hsz, hle⟩ : Right A[a] ∧ 1 ≤ b ∧ (R b).value.size ≤ 4000 ∧ A[a].prom ≤ b := by
    unfold castE at he
    split at he
    · rename_i hh
      split at he
      · cases he
      · exact ⟨hh.1, hh.2.1, hh.2.2, by omega⟩
    · cases he
  have hv : castV A[a] b (R b).value = ⟨b, b, (R b).value⟩ := by unfold castV; rw [if_pos he]
  have hget : ∀ x (hx : x < A.length), (A.set a (castV A[a] b (R b).value))[x]'(by rw [List.length_set]; exact hx) = if a = x then ⟨b, b, (R b).value⟩ else A[x] := fun x hx => by
    rw [List.getElem_set, hv]
  refine ⟨by rw [List.length_set]; exact h.len, h.few, h.small, fun v hvm => ?_, fun c x hH => ?_, fun x hx h0 => ?_, h.ids, fun c i hi hj => ?_, h.fixed⟩
  · obtain ⟨x, hx, rfl⟩ := List.getElem_of_mem hvm
    have hx' : x < A.length := by rwa [List.length_set] at hx
    rw [hget x hx']
    split
    · exact ⟨Nat.le_refl _, .inl hb1, hsz⟩
    · exact h.right _ (List.getElem_mem hx')
  · rcases hH with hH | ⟨rfl, rfl⟩
    · obtain ⟨hx, h1, h2, h3⟩ := h.voted c x hH
      refine ⟨by rw [List.length_set]; exact hx, h1, h2, ?_⟩
      rw [hget x hx]
      split
      · rename_i e
        subst e
        have := hr.1
        show c ≤ b
        omega
      · exact h3
    · refine ⟨by rw [List.length_set]; exact ha, hb1, hf, ?_⟩
      rw [hget _ ha, if_pos rfl]
      exact Nat.le_refl _
  · have hx' : x < A.length := by rwa [List.length_set] at hx
    have hg := hget x hx'
    skip
    rw [hg] at h0 ⊢
    split
    · rename_i e
      subst e
      exact ⟨.inr ⟨rfl, rfl⟩, rfl⟩
    · rename_i e
      rw [if_neg e] at h0
      obtain ⟨h1, h2⟩ := h.last x hx' h0
      exact ⟨.inl h1, h2⟩
  · obtain ⟨hx, h1, h2, h3, h4⟩ := h.kept c i hi hj
    refine ⟨by rw [List.length_set]; exact hx, h1, ?_, fun d hd hH => ?_, fun h0 => ?_⟩
    · rw [hget _ hx]
      split
      · rename_i e
        show c ≤ b
        have h2' : c ≤ A[a].prom := by simp only [e]; exact h2
        omega
      · exact h2
    · rcases hH with hH | ⟨rfl, e⟩
      · exact h3 d hd hH
      · have h2' : c ≤ A[a].prom := by simp only [← e]; exact h2
        omega
    · obtain ⟨g1, g2, g3⟩ := h4 h0
      exact ⟨g1, .inl g2, g3⟩
end Bt
end Go.Proofs.Ytigameebcicgpaa
