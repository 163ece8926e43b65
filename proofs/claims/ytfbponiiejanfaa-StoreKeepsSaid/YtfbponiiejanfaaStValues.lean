/-
  slices.Values over a list of texts, as a range; append of a list of texts.
-/
import Derived.Test.YtfbponiiejanfaaJSame
import Derived.Laws.OwnMore
import Derived.LoopNIn
import Derived.LoopIn
import Derived.TacticsInMore
namespace Go.Proofs.Ytfbponiiejanfaa
open Go.RowKit Go.Shelf
attribute [local go_sem] Oper.semAt_some
set_option linter.unusedVariables false
set_option linter.unusedSimpArgs false

theorem slValues (a : Option Addr) (n c : Nat) (w : World) : Calls Try.prog 27 #[.slice a n c] w fun e w' =>
    e = .returned (.func (.func 34) #[] #[.pointer (some ⟨w.heap.size, 0, none⟩)]) ∧ w.alloc (.cells #[.slice a n c] 24) = w' := by
  go_enter Try.func27, Try.ntmps27
  go_wp2
  go_ret
  exact ⟨rfl, rfl⟩
set_option maxRecDepth 100000 in
set_option maxHeartbeats 1000000 in
/-- What slices.Values goes through: the list's texts, in order, if the round leaves all below n₀. -/
theorem valuesGoes (n : Nat) (hn : 1 ≤ n) (n₀ : Nat) (w : World) (B : Nat) (v : Value) (ds : List (List UInt8)) (hB : B < w.heap.size) (hc : w.cell? ⟨B, 0, none⟩ = some v) (hT : TextsO w v ds) (hn₀ : ∀ g, v.ownBlock = some g → g < n₀) (hd : ds.length ≤ 1000000) :
    Goes Fence.wide n Try.prog 34 #[.pointer (some ⟨B, 0, none⟩)] encP (Keeps (· < n₀)) ds w := by
  intro l J' Jx W hW hJ hJx hY h0
  refine callsIn_of_wp Try.func34 rfl trivial ?_ rfl
  simp only [Try.ntmps34, List.size_toArray, List.length_cons, List.length_nil, Nat.reduceAdd, Nat.reduceSub, Array.replicate_succ, Array.replicate_zero, List.push_toArray, List.append_toArray, List.nil_append, List.cons_append]
  have hcW : W.cell? ⟨B, 0, none⟩ = some v := (hW.cell (p := ⟨B, 0, none⟩) hB).trans hc
  have hTW : TextsO W v ds := hT.below hW (Nat.le_refl _)
  clear hc hT hB hW
  rcases hTW with ⟨rfl, rfl⟩ | ⟨g, o, c, rfl, hg, hx⟩
  · gi_wp2
    gi_loopw [7] (fun i wr => i = .int .i64 0 ∧ J' 0 wr) (fun _ _ => 0)
    case atStart => exact ⟨rfl, h0⟩
    case round =>
      obtain ⟨rfl, hJs⟩ := hrel
      gi_wp2
      go_end0
      exact ⟨⟨_, rfl⟩, .inl hJs⟩
  · have hgn := hn₀ g rfl
    obtain ⟨m, hm⟩ : ∃ m, ds.length = m := ⟨_, rfl⟩
    have HX := Lib.hid hx
    have HM := Lib.hid hm
    rw [hm] at hcW hd ⊢
    have hmi : m ≤ 1000000 := hd
    clear hx hm
    gi_wp2
    gi_loopw [7] (fun i wr => ∃ k : Nat, k ≤ m ∧ i = .int .i64 k ∧ J' k wr ∧ Keeps (· < n₀) W wr) (fun i _ => m - (intOf i).toNat)
    case atStart => exact ⟨0, Nat.zero_le _, rfl, h0, Keeps.refl _ _⟩
    case round =>
      obtain ⟨k, hk, rfl, hJs, hnx⟩ := hrel
      by_cases hlt : k < m
      · have hkd : k < ds.length := by rw [HM.out]; exact hlt
        have hcx : wr.cell? ⟨g, o + k, none⟩ = some (strV ds[k]) := (hnx.cell (p := ⟨g, o + k, none⟩) hgn).trans (HX.out k hkd)
        obtain ⟨fn, tmps, assign, body, hy, hR⟩ := hY k _ wr (List.getElem?_eq_getElem hkd) hJs
        dsimp only [encP] at hy
        generalize ds[k] = x at *
        gi_wp2
        refine hR.mono ?_
        rintro e W3 (⟨rfl, hJ3, hk3⟩ | ⟨rfl, hJx3⟩)
        · gi_wp2
          go_roundw
          case rel => exact ⟨k + 1, by omega, by go_num, hJ3, hnx.trans hk3⟩
          case measure => simp [intOf]; omega
        · gi_wp2
          refine bodyPost_ret (results_none rfl _ _ _) rfl ?_
          exact ⟨⟨_, rfl⟩, .inr ⟨k, hlt, hJx3⟩⟩
      · obtain rfl : k = m := by omega
        gi_wp2
        go_end0
        exact ⟨⟨_, rfl⟩, .inl hJs⟩
/-- append of a list of texts that was handed back. -/
theorem wpListIn_append_texts {F : Fence} {n : Nat} (w : World) {ops : Array Oper} {rest : List Oper} {o : Oper} {a : Act} {Q : Exit → Act → World → Prop}
    (hg : o.guard = none) (s x : Operand) (hop : o.op = Op.call { callee := Callee.builtin Builtin.append, args := #[s, x], argTypes := #[24, 24] })
    (base : Nat) (v u : Value) (k : Nat) (xs : List Value) (ys : List (List UInt8)) (hs : a.eval s = v) (hown : w.ownsRow base 9 1 v k xs) (hT : Texts w u ys) (hx : a.eval x = u) (hsz : k + ys.length ≤ 1000000) (b3 : base ≤ w.heap.size)
    (hK : ∀ v' w', w'.ownsRow base 9 1 v' (k + ys.length) (xs ++ ys.map strV) → w.grownBy w' v.ownBlock → wpListIn F n Try.prog ops Q rest (a.put o.dst v') w') :
    wpListIn F n Try.prog ops Q (o :: rest) a w := by
  obtain ⟨i0, hi, hz0, hz1, hz2⟩ := info_parts info_str
  rcases hT with ⟨rfl, rfl⟩ | ⟨g, c, rfl, hc, hgw, hcell⟩
  · refine wpListIn_plain hg fun K hK' => ?_
    have hrun := run_append_owned_none (P := Try.prog) (w := w) base 24 o.type 9 i0 1 Try.underlying24 hi v k xs hown
    unfold Oper.wpIn
    refine ⟨?_, ?_⟩
    · simp [Oper.about, hop, resolve, Target.leads, Sem.run_pure]
    · rw [Oper.semAt_plain F _ _ (by rw [hop]; intro c hc'; cases hc')]
      simp [execOp, hop, resolve, invoke, builtin, hs, hx, hrun, Result.andThen]
      exact hK' _ _ (hK v w (by simpa using hown) ⟨rfl, rfl, rfl, Nat.le_refl _, fun _ _ _ => rfl⟩)
  · refine wpListIn_append_own w hg s x 24 hop base 9 i0 (.string ⟨#[]⟩) 1 16 Try.underlying24 hi hz0 hz1 hz2 rfl (by decide) v k xs hs hown ⟨g, 0, none⟩ ys.length c (ys.map strV) hx (by simp) ?_ ?_ (by unfold maxLen; omega) (by omega) b3 (fun v' w' h1 h2 _ => hK v' w' h1 h2)
    · intro j y hj
      rw [List.getElem?_map] at hj
      obtain ⟨z, hz, rfl⟩ := Option.map_eq_some_iff.1 hj
      obtain ⟨hl, rfl⟩ := List.getElem?_eq_some_iff.1 hz
      have e : (⟨g, 0, none⟩ : Addr).add j = ⟨g, j, none⟩ := by
        by_cases h0 : j = 0
        · subst h0; rfl
        · simp [Addr.add, h0]
      rw [e]; exact hcell j hl
    · intro y hy
      obtain ⟨z, _, rfl⟩ := List.mem_map.1 hy
      rfl
end Go.Proofs.Ytfbponiiejanfaa
