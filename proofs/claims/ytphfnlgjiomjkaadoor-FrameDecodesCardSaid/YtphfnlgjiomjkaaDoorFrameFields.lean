/-
  What frame.each, fields and headOf go through: a head's numbers, in the order of their bytes, each with how many it has.
-/
import Derived.Test.YtphfnlgjiomjkaaDoorFrameRight
import Derived.Test.YtphfnlgjiomjkaaDoorHeld
namespace Go.Proofs.YtphfnlgjiomjkaaDoor
open Go.RowKit Go.Shelf
attribute [local go_sem] Oper.semAt_some
set_option linter.unusedVariables false
set_option linter.unusedSimpArgs false

theorem round_deep {F : Fence} (hd : F.depth = none) {m m' : Nat} {P : Program} {l f : Nat} {tmps : Array Value} {assign body : Code} {W : World} {R : Ending → World → Prop} (h : RoundIn F m P l f tmps assign body W R) : RoundIn F m' P l f tmps assign body W R :=
  ⟨h.1, fun c cs _ => h.2 c cs (fun d e => by rw [hd] at e; cases e)⟩
theorem yield_deep {F : Fence} (hd : F.depth = none) {m : Nat} (m' : Nat) {P : Program} {l : Nat} {args : Array Value} {W : World} {R : Ending → World → Prop} (h : YieldAt F m P l args W R) : YieldAt F m' P l args W R := by
  obtain ⟨fn, tmps, assign, body, hy, hR⟩ := h
  exact ⟨fn, tmps, assign, body, hy, round_deep hd hR⟩
/-- A field of a head: of how many bytes, and the place of its cell. -/
abbrev encF (B : Nat) (x : Nat × Nat) : Array Value := #[.int .i64 (x.1 : Int), .pointer (some ⟨B, x.2, none⟩)]
/-- A list of pointers into the head at B. -/
def ptrs (B : Nat) (os : List Nat) : Array Value := (os.map fun o => Value.pointer (some ⟨B, o, none⟩)).toArray

set_option maxRecDepth 100000 in
set_option maxHeartbeats 1000000 in
/-- each: it hands on the fields os, from the j-th of the whole list on. -/
theorem frameEach (F : Fence) (n : Nat) (hF : F.fn 38) (hro : F.round = none) (hdp : F.depth = none) (l B wd : Nat) (os : List Nat) (T e : Nat → Prop) (J Jx : Nat → World → Prop) (j0 : Nat) (X : Nat) (W : World)
    (hos : os.length ≤ 100) (hX : Row W X (ptrs B os) 57) (hT : ¬ T X) (he : ¬ e 57)
    (hY : ∀ k o W1, os[k]? = some o → J (j0 + k) W1 → YieldAt F 0 Tryd.prog l (encF B (wd, o)) W1 fun e' W' => (e' = .returned (.bool true) ∧ J (j0 + k + 1) W' ∧ Kept T e W1 W') ∨ (e' = .returned (.bool false) ∧ Jx (j0 + k) W'))
    (h0 : J j0 W) :
    CallsIn F n Tryd.prog 38 #[.func (.yield l) #[] #[], .int .i64 (wd : Int), .slice (some ⟨X, 0, none⟩) os.length os.length] W fun e' W' =>
      (e' = .returned (.bool true) ∧ J (j0 + os.length) W' ∧ Kept T e W W') ∨ (e' = .returned (.bool false) ∧ ∃ k, k < os.length ∧ Jx (j0 + k) W') := by
  refine callsIn_of_wp Tryd.func38 rfl hF ?_ hro
  simp only [Tryd.ntmps38, List.size_toArray, List.length_cons, List.length_nil, Nat.reduceAdd, Nat.reduceSub, Array.replicate_succ, Array.replicate_zero, List.push_toArray, List.append_toArray, List.nil_append, List.cons_append]
  gi_wp2
  gi_loopw [11] (fun i wr => ∃ k : Nat, k ≤ os.length ∧ i = .int .i64 k ∧ J (j0 + k) wr ∧ Kept T e W wr) (fun i _ => os.length - (intOf i).toNat)
  case atStart => exact ⟨0, Nat.zero_le _, rfl, h0, Kept.refl _ _ _⟩
  case round =>
    obtain ⟨k, hk, rfl, hJ, hKp⟩ := hrel
    by_cases hlt : k < os.length
    · have hxr : Row wr X (ptrs B os) 57 := hX.kept hKp hT he
      have hc : wr.cell? ⟨X, k, none⟩ = some (.pointer (some ⟨B, os[k], none⟩)) := hxr.cell k _ (by simp [ptrs, hlt])
      obtain ⟨fn, tmps, assign, body, hy, hR⟩ := yield_deep hdp (n - 1) (hY k os[k] wr (List.getElem?_eq_getElem hlt) hJ)
      dsimp only [encF] at hy
      have hk0 : (0 : Int) ≤ (k : Int) := by omega
      have hk1 : (k : Int) < (os.length : Int) := by omega
      generalize os[k] = ok at *
      have HK := Lib.hid hKp
      clear hKp hY hX hxr
      gi_wp2
      refine hR.mono ?_
      rintro e' W3 (⟨rfl, hJ3, hk3⟩ | ⟨rfl, hJx3⟩)
      · clear hy hR hc
        gi_wp2
        go_roundw
        case rel => exact ⟨k + 1, by omega, by go_num, hJ3, HK.out.trans hk3⟩
        case measure => simp [intOf]; omega
      · clear hy hR hc
        gi_wp2
        go_ret
        exact .inr ⟨rfl, k, hlt, hJx3⟩
    · obtain rfl : k = os.length := by omega
      clear hY
      gi_wp2
      go_ret
      exact .inl ⟨rfl, hJ, hKp⟩
end Go.Proofs.YtphfnlgjiomjkaaDoor
