/-
  slices.Values and slices.All over a list of notes, as ranges.
-/
import Derived.Test.YtialmaapahjchaaFlRows
import Derived.LoopNIn
import Derived.LoopIn
import Derived.TacticsInMore
namespace Go.Proofs.Ytialmaapahjchaa
open Go.RowKit Go.Shelf
attribute [local go_sem] Oper.semAt_some
set_option linter.unusedVariables false
set_option linter.unusedSimpArgs false

theorem notesValues (a : Option Addr) (n c : Nat) (w : World) : Calls Try.prog 35 #[.slice a n c] w fun e w' =>
    e = .returned (.func (.func 41) #[] #[.pointer (some ⟨w.heap.size, 0, none⟩)]) ∧ w.alloc (.cells #[.slice a n c] 27) = w' := by
  go_enter Try.func35, Try.ntmps35
  go_wp2
  go_ret
  exact ⟨rfl, rfl⟩
theorem notesAll (a : Option Addr) (n c : Nat) (w : World) : Calls Try.prog 28 #[.slice a n c] w fun e w' =>
    e = .returned (.func (.func 36) #[] #[.pointer (some ⟨w.heap.size, 0, none⟩)]) ∧ w.alloc (.cells #[.slice a n c] 27) = w' := by
  go_enter Try.func28, Try.ntmps28
  go_wp2
  go_ret
  exact ⟨rfl, rfl⟩
abbrev encN (x : Nt) : Array Value := #[x.val]
abbrev encNA (x : Nat × Nt) : Array Value := #[.int .i64 (x.1 : Int), x.2.val]
theorem Notes.keeps {w W : World} {base n₀ : Nat} {v : Value} {l : List Nt} (h : Notes w base v l) (hk : Keeps (· < n₀) w W) (hn : ∀ g, v.ownBlock = some g → g < n₀) : Notes W base v l := h.keep fun g hg => hk g (hn g hg)
theorem keeps_lt {w W : World} {n₀ : Nat} (hk : Keeps (· < n₀) w W) (hn : n₀ ≤ w.heap.size) (b : Nat) (hb : b < n₀) : b < W.heap.size := by
  have h := hk b hb
  rw [Array.getElem?_eq_getElem (show b < w.heap.size by omega)] at h
  exact (Array.getElem?_eq_some_iff.1 h).1
set_option maxRecDepth 100000 in
set_option maxHeartbeats 1000000 in
/-- What slices.Values goes through: the list's notes, in order, if the round leaves all below n₀. -/
theorem notesGoes (n : Nat) (hn : 1 ≤ n) (n₀ : Nat) (w : World) (B base : Nat) (v : Value) (ds : List Nt) (hB : B < w.heap.size) (hc : w.cell? ⟨B, 0, none⟩ = some v) (hT : Notes w base v ds) (hn₀ : ∀ g, v.ownBlock = some g → g < n₀) (hnw : n₀ ≤ w.heap.size) (hd : ds.length ≤ 1000000) :
    Goes Fence.wide n Try.prog 41 #[.pointer (some ⟨B, 0, none⟩)] encN (Keeps (· < n₀)) ds w := by
  intro l J' Jx W hW hJ hJx hY h0
  refine callsIn_of_wp Try.func41 rfl trivial ?_ rfl
  simp only [Try.ntmps41, List.size_toArray, List.length_cons, List.length_nil, Nat.reduceAdd, Nat.reduceSub, Array.replicate_succ, Array.replicate_zero, List.push_toArray, List.append_toArray, List.nil_append, List.cons_append]
  have hcW : W.cell? ⟨B, 0, none⟩ = some v := (hW.cell (p := ⟨B, 0, none⟩) hB).trans hc
  have hTW : Notes W base v ds := hT.below hW
  obtain ⟨a, c, hv, hac⟩ := hT.form
  have hnW : n₀ ≤ W.heap.size := Nat.le_trans hnw hW.size
  clear hc hT hB hW hnw
  obtain ⟨m, hm⟩ : ∃ m, ds.length = m := ⟨_, rfl⟩
  have HM := Lib.hid hm
  rw [hm] at hv hd
  have hmi : m ≤ 1000000 := hd
  clear hm hac
  subst hv
  gi_wp2
  gi_loopw [7] (fun i wr => ∃ k : Nat, k ≤ m ∧ i = .int .i64 k ∧ J' k wr ∧ Keeps (· < n₀) W wr) (fun i _ => m - (intOf i).toNat)
  case atStart => exact ⟨0, Nat.zero_le _, rfl, h0, Keeps.refl _ _⟩
  case round =>
    obtain ⟨k, hk, rfl, hJs, hnx⟩ := hrel
    by_cases hlt : k < m
    · have hkd : k < ds.length := by rw [HM.out]; exact hlt
      obtain ⟨g, c', e1, _, _, hgw, hfz, q0, q1, q2⟩ := (hTW.keeps hnx hn₀).cell k hkd
      simp only [Value.slice.injEq] at e1
      obtain ⟨e1, -, -⟩ := e1
      subst e1
      have HY := fun wr hJs => hY k ds[k] wr (List.getElem?_eq_getElem hkd) hJs
      have HJ := fun (w2 : World) (hb : Below wr.heap.size wr w2) => hJ k wr w2 none hJs ⟨hb.os, hb.tape, hb.output, hb.size, fun j hj _ => hb.block j hj⟩ (fun r h => by cases h)
      have NB : ∀ b, b < n₀ → b < wr.heap.size := fun b hb => keeps_lt hnx hnW b hb
      have hgn := hn₀ g rfl
      have HG := Lib.hid hn₀
      clear hY hTW hcW
      generalize ds[k] = x at *
      obtain ⟨xi, xt, xs⟩ := x
      have hki : (k : Int) < (m : Int) := by omega
      dsimp only at q0 q1 q2
      obtain ⟨fn, tmps, assign, body, hy, hR⟩ := HY (wr.alloc (.cells #[.int .u32 (xi.toNat : Int), .int .i64 xt, .string xs] 42)) (HJ _ ((Below.refl _ wr).alloc (Nat.le_refl _) _))
      dsimp only [encN, Nt.val] at hy
      clear HY HJ
      gi_wp2
      refine hR.mono ?_
      rintro e W3 (⟨rfl, hJ3, hk3⟩ | ⟨rfl, hJx3⟩)
      · gi_wp2
        go_roundw
        case rel => exact ⟨k + 1, by omega, by go_num, hJ3, hnx.trans ((Keeps.of_below ((Below.refl _ wr).alloc (Nat.le_refl _) _) (fun b hb => NB b hb)).trans hk3)⟩
        case measure => simp [intOf]; omega
      · gi_wp2
        refine bodyPost_ret (results_none rfl _ _ _) rfl ?_
        exact ⟨⟨_, rfl⟩, .inr ⟨k, by rw [HM.out]; exact hlt, hJx3⟩⟩
    · obtain rfl : k = m := by omega
      gi_wp2
      go_end0
      exact ⟨⟨_, rfl⟩, .inl (by rw [HM.out]; exact hJs)⟩
set_option maxRecDepth 100000 in
set_option maxHeartbeats 1000000 in
/-- What slices.All goes through: the list's places and notes, in order, if the round leaves all below n₀. -/
theorem notesAllGoes (n : Nat) (hn : 1 ≤ n) (n₀ : Nat) (w : World) (B base : Nat) (v : Value) (ds : List Nt) (hB : B < w.heap.size) (hc : w.cell? ⟨B, 0, none⟩ = some v) (hT : Notes w base v ds) (hn₀ : ∀ g, v.ownBlock = some g → g < n₀) (hnw : n₀ ≤ w.heap.size) (hd : ds.length ≤ 1000000) :
    Goes Fence.wide n Try.prog 36 #[.pointer (some ⟨B, 0, none⟩)] encNA (Keeps (· < n₀)) (ds.zipIdx.map fun p => (p.2, p.1)) w := by
  intro l J' Jx W hW hJ hJx hY h0
  refine callsIn_of_wp Try.func36 rfl trivial ?_ rfl
  simp only [Try.ntmps36, List.size_toArray, List.length_cons, List.length_nil, Nat.reduceAdd, Nat.reduceSub, Array.replicate_succ, Array.replicate_zero, List.push_toArray, List.append_toArray, List.nil_append, List.cons_append]
  have hcW : W.cell? ⟨B, 0, none⟩ = some v := (hW.cell (p := ⟨B, 0, none⟩) hB).trans hc
  have hTW : Notes W base v ds := hT.below hW
  obtain ⟨a, c, hv, hac⟩ := hT.form
  have hnW : n₀ ≤ W.heap.size := Nat.le_trans hnw hW.size
  clear hc hT hB hW hnw
  obtain ⟨m, hm⟩ : ∃ m, ds.length = m := ⟨_, rfl⟩
  have HM := Lib.hid hm
  rw [hm] at hv hd
  have hmi : m ≤ 1000000 := hd
  clear hm hac
  subst hv
  gi_wp2
  gi_loopw [7] (fun i wr => ∃ k : Nat, k ≤ m ∧ i = .int .i64 k ∧ J' k wr ∧ Keeps (· < n₀) W wr) (fun i _ => m - (intOf i).toNat)
  case atStart => exact ⟨0, Nat.zero_le _, rfl, h0, Keeps.refl _ _⟩
  case round =>
    obtain ⟨k, hk, rfl, hJs, hnx⟩ := hrel
    by_cases hlt : k < m
    · have hkd : k < ds.length := by rw [HM.out]; exact hlt
      obtain ⟨g, c', e1, _, _, hgw, hfz, q0, q1, q2⟩ := (hTW.keeps hnx hn₀).cell k hkd
      simp only [Value.slice.injEq] at e1
      obtain ⟨e1, -, -⟩ := e1
      subst e1
      have HY := fun wr hJs => hY k (k, ds[k]) wr (by simp [hkd]) hJs
      have HJ := fun (w2 : World) (hb : Below wr.heap.size wr w2) => hJ k wr w2 none hJs ⟨hb.os, hb.tape, hb.output, hb.size, fun j hj _ => hb.block j hj⟩ (fun r h => by cases h)
      have NB : ∀ b, b < n₀ → b < wr.heap.size := fun b hb => keeps_lt hnx hnW b hb
      have hgn := hn₀ g rfl
      have HG := Lib.hid hn₀
      clear hY hTW hcW
      generalize ds[k] = x at *
      obtain ⟨xi, xt, xs⟩ := x
      have hki : (k : Int) < (m : Int) := by omega
      dsimp only at q0 q1 q2
      obtain ⟨fn, tmps, assign, body, hy, hR⟩ := HY (wr.alloc (.cells #[.int .u32 (xi.toNat : Int), .int .i64 xt, .string xs] 42)) (HJ _ ((Below.refl _ wr).alloc (Nat.le_refl _) _))
      dsimp only [encNA, Nt.val] at hy
      clear HY HJ
      gi_wp2
      refine hR.mono ?_
      rintro e W3 (⟨rfl, hJ3, hk3⟩ | ⟨rfl, hJx3⟩)
      · gi_wp2
        go_roundw
        case rel => exact ⟨k + 1, by omega, by go_num, hJ3, hnx.trans ((Keeps.of_below ((Below.refl _ wr).alloc (Nat.le_refl _) _) (fun b hb => NB b hb)).trans hk3)⟩
        case measure => simp [intOf]; omega
      · gi_wp2
        refine bodyPost_ret (results_none rfl _ _ _) rfl ?_
        exact ⟨⟨_, rfl⟩, .inr ⟨k, by rw [List.length_map, List.length_zipIdx, HM.out]; exact hlt, hJx3⟩⟩
    · obtain rfl : k = m := by omega
      gi_wp2
      go_end0
      exact ⟨⟨_, rfl⟩, .inl (by rw [List.length_map, List.length_zipIdx, HM.out]; exact hJs)⟩
end Go.Proofs.Ytialmaapahjchaa
