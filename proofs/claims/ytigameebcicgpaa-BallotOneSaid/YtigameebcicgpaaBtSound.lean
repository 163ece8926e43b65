/-
  Package ballot: sound, Next; walked.
-/
import Derived.Test.YtigameebcicgpaaBtSmall
namespace Go.Proofs.Ytigameebcicgpaa
open Go.RowKit Go.Shelf
attribute [local go_sem] Oper.semAt_some
set_option linter.unusedVariables false
set_option linter.unusedSimpArgs false

set_option maxRecDepth 100000 in
set_option maxHeartbeats 1000000 in
theorem btSound (v0 : Value) (l : List Vt) (a1 : Option Addr) (n1 c1 : Nat) (F : Bool) (w : World) (hT : VtsR w v0 l) (hl : l.length ≤ 1000000) (hsz : ∀ v ∈ l, v.val'.size ≤ 1000000)
    (hf : ∀ W, Below w.heap.size w W → Calls Try.prog 26 #[.slice a1 n1 c1] W fun e w' => e = .returned (.bool F) ∧ W = w') :
    Calls Try.prog 30 #[v0, .slice a1 n1 c1] w fun e w' => e = .returned (.bool (decide (∀ v ∈ l, Bt.Right v) && F)) ∧ Below w.heap.size w w' := by
  obtain ⟨a0, c0, rfl⟩ := hT.form
  obtain ⟨len, hlen⟩ : ∃ len, l.length = len := ⟨_, rfl⟩
  have HT := Lib.hid hT
  have HL := Lib.hid hlen
  have HSZ := Lib.hid hsz
  have HF := Lib.hid hf
  rw [hlen] at hl ⊢
  clear hT hlen hsz hf
  generalize hR : (decide (∀ v ∈ l, Bt.Right v) && F) = R at *
  have HR := Lib.hid hR
  clear hR
  go_enter Try.func30, Try.ntmps30
  go_wp2
  go_loopw [9] (fun i wr => ∃ k : Nat, k ≤ len ∧ i = .int .i64 (k : Int) ∧ (∀ j (h : j < l.length), j < k → Bt.Right l[j]) ∧ Below w.heap.size w wr) (fun i _ => len - (intOf i).toNat)
  case atStart => exact ⟨0, Nat.zero_le _, rfl, (fun j h hj => absurd hj (Nat.not_lt_zero _)), Below.refl _ _⟩
  case round =>
    obtain ⟨k, hk, rfl, hte, hBW⟩ := hrel
    have HTE := Lib.hid hte
    clear hte
    by_cases hlt : k < len
    · have hkl : k < l.length := by rw [HL.out]; exact hlt
      obtain ⟨g, c', e1, hx⟩ := HT.out.at' k hkl
      simp only [Value.slice.injEq] at e1
      obtain ⟨rfl, -, -⟩ := e1
      have hki : (k : Int) < (len : Int) := by omega
      obtain ⟨q0, q1, q2⟩ := hx wr hBW
      have HRT := Lib.hid (fun W => btRight l[k] (HSZ.out _ (List.getElem_mem hkl)) W)
      have hmem := List.getElem_mem hkl
      have hsw := hBW.size
      clear hx
      by_cases hr : Bt.Right l[k]
      · have HN := Lib.hid (fun (j : Nat) (h : j < l.length) (hj : j < k + 1) => show Bt.Right l[j] from by
          by_cases e : j = k
          · subst e; exact hr
          · exact HTE.out j h (by omega))
        rw [decide_eq_true hr] at HRT
        clear hr hmem
        generalize l[k] = x at *
        obtain ⟨p, c, s⟩ := x
        unfold Vt.val at HRT
        dsimp only at q0 q1 q2 HRT
        go_wp2_with (go_at_call 16; refine (HRT.out _).mono ?_; rintro e w1 ⟨rfl, hb1⟩)
        go_roundw
        case rel => exact ⟨k + 1, by omega, by go_num, HN.out, (hBW.alloc hsw _).trans (hb1.mono (by simp; omega))⟩
        case measure => simp [intOf]; omega
      · have HRR := Lib.hid (show R = false from by rw [← HR.out, decide_eq_false (fun h => hr (h _ hmem))]; rfl)
        rw [decide_eq_false hr] at HRT
        clear hr hmem
        generalize l[k] = x at *
        obtain ⟨p, c, s⟩ := x
        unfold Vt.val at HRT
        dsimp only at q0 q1 q2 HRT
        go_wp2_with (go_at_call 16; refine (HRT.out _).mono ?_; rintro e w1 ⟨rfl, hb1⟩)
        go_ret
        exact ⟨by rw [HRR.out]; rfl, (hBW.alloc hsw _).trans (hb1.mono (by simp; omega))⟩
    · obtain rfl : k = len := by omega
      have hall : ∀ v ∈ l, Bt.Right v := fun v hv => by
        obtain ⟨j, hj, rfl⟩ := List.getElem_of_mem hv
        exact HTE.out j hj (by have := HL.out; omega)
      have HRR := Lib.hid (show R = F from by rw [← HR.out, decide_eq_true hall]; rfl)
      have HFF := Lib.hid (HF.out wr hBW)
      clear hall
      go_wp2_with (go_at_call 26; refine HFF.out.mono ?_; rintro e w1 ⟨rfl, rfl⟩)
      go_ret
      exact ⟨by rw [HRR.out]; rfl, hBW⟩
end Go.Proofs.Ytigameebcicgpaa
