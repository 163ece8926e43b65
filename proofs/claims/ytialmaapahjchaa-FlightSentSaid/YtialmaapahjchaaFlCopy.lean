/-
  flight's Copy: walked.
-/
import Derived.Test.YtialmaapahjchaaFlCalls
namespace Go.Proofs.Ytialmaapahjchaa
open Go.RowKit Go.Shelf
attribute [local go_sem] Oper.semAt_some
set_option linter.unusedVariables false
set_option linter.unusedSimpArgs false

set_option maxRecDepth 100000 in
set_option maxHeartbeats 4000000 in
theorem flCopy (F : Fl) (B : Nat) (v : Value) (at' : Int) (w : World) (h : Fl.Is true F B v w) : Calls Try.prog 19 #[.pointer (some ⟨B, 0, none⟩), .int .i64 at'] w fun e w' =>
    e = .returned (.tuple #[.int .u32 ((F.copyN at').toNat : Int), .int .i64 (F.copyE at')]) ∧ Fl.Turns true (F.copy at') B v w w' := by
  have HC := flCheck F B v at' w h
  by_cases hp : F.place at' = true
  · obtain ⟨k, rfl, hk⟩ := Fl.place_iff.1 hp
    have e1 : F.checkE (k : Int) = 0 := by simp [Fl.checkE, hp]
    have e2 : F.copy (k : Int) = F.lay F.notes[k].to F.notes[k].s ∧ F.copyN (k : Int) = F.layN ∧ F.copyE (k : Int) = F.layE := by simp [Fl.copy, Fl.copyN, Fl.copyE, hp, Fl.note_at hk]
    obtain ⟨e2, e3, e4⟩ := e2
    rw [e1] at HC
    rw [e2, e3, e4]
    have hd := h.below (Below.refl _ w).drew
    have HL := flLay F B v F.notes[k].to F.notes[k].s w.drew hd (h.ok.small _ (List.getElem_mem hk))
    have HW := Lib.hid (fun (w2 : World) (ht : Fl.Turns true (F.lay F.notes[k].to F.notes[k].s) B v w.drew w2) => Fl.Turns.wrap h (Below.refl _ w).drew ht (Below.refl _ _))
    have hc1 : w.drew.cell? ⟨B, 1, none⟩ = some v := hd.cell 1 _ rfl
    obtain ⟨g, c, hv, hc, hbg, hgw, hfz, q0, q1, q2⟩ := hd.own.cell k hk
    generalize hx : F.notes[k] = x at *
    obtain ⟨n, hn⟩ : ∃ n, F.notes.length = n := ⟨_, rfl⟩
    rw [hn] at hv hc hk
    have hki : (k : Int) < (n : Int) := by omega
    obtain ⟨xi, xt, xs⟩ := x
    dsimp only at q0 q1 q2 HL HW ⊢
    generalize F.layN = LN at *
    generalize F.layE = LE at *
    subst hv
    clear h hd hn hfz hp e1 e2 e3 e4 hx
    go_enter Try.func19, Try.ntmps19
    go_wp2_with (first
      | (go_at_call 31; refine HC.mono ?_; rintro e w' ⟨rfl, rfl⟩))
    refine (wpIn_wide (n := 3)).1 ?_
    refine wpIn_region_any (by kernel_rfl) ?_
    change wpAnyIn _ _ _ _ _ _ 22 _ _ w.drew
    refine wpAnyIn_phase wide_plain 0 17 (g := 5) (by kernel_rfl) rfl (by kernel_rfl) rfl ?_
    simp only [List.drop_succ_cons, List.drop_zero, List.take_succ_cons, List.take_zero, Nat.reduceSub]
    repeat still_step
    refine wpStill_nil ?_
    refine wpAnyIn_sole 17 (by kernel_rfl) rfl (fun K hK => ?_)
    go_simp
    refine ⟨trivial, (callsIn_wide.2 HL).mono ?_⟩
    rintro e w2 ⟨rfl, hT⟩
    refine hK _ _ ?_
    clear hK K
    refine wpAnyIn_phase wide_plain 18 20 (g := 2) (by kernel_rfl) rfl (by kernel_rfl) rfl ?_
    simp only [List.drop_succ_cons, List.drop_zero, List.take_succ_cons, List.take_zero, Nat.reduceSub]
    repeat still_step
    refine wpStill_nil ?_
    refine wpAnyIn_of_seq (List.drop 20 (Array.toList _)) 20 _ _ _ (fun j => by rw [List.getElem?_drop, Array.getElem?_toList]) (by kernel_rfl) ?_
    simp only [List.drop_succ_cons, List.drop_zero]
    gi_wp2
    go_wp2
    go_ret2
    exact ⟨rfl, HW.out _ hT⟩
  · have e1 : F.checkE at' = 2 := by simp [Fl.checkE, hp]
    have e2 : F.copy at' = F ∧ F.copyN at' = 0 ∧ F.copyE at' = 2 := by simp [Fl.copy, Fl.copyN, Fl.copyE, hp]
    obtain ⟨e2, e3, e4⟩ := e2
    rw [e1] at HC
    rw [e2, e3, e4]
    have HT := Lib.hid (Fl.Turns.refl h)
    clear h hp e1 e2 e3 e4
    go_enter Try.func19, Try.ntmps19
    go_wp2_with (first
      | (go_at_call 31; refine HC.mono ?_; rintro e w' ⟨rfl, rfl⟩))
    go_ret2
    exact ⟨rfl, HT.out⟩
end Go.Proofs.Ytialmaapahjchaa
