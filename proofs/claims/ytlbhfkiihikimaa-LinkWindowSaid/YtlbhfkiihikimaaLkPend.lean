/-
  pending: what is out, as a range over a function.
-/
import Derived.Test.YtlbhfkiihikimaaLkWalk1
import Derived.Test.YtlbhfkiihikimaaRange2
import Derived.LoopNIn
import Derived.LoopIn
import Derived.TacticsInMore
import Derived.WalkMore
namespace Go.Proofs.Ytlbhfkiihikimaa
open Go.RowKit Go.Shelf
attribute [local go_sem] Oper.semAt_some
set_option linter.unusedVariables false
set_option linter.unusedSimpArgs false

theorem lkPending (B : Nat) (w : World) : Calls Try.prog 23 #[.pointer (some ⟨B, 3, none⟩)] w fun e w' =>
    e = .returned (.func (.func 29) #[] #[.pointer (some ⟨w.heap.size, 0, none⟩)]) ∧ w.alloc (.cells #[.pointer (some ⟨B, 3, none⟩)] 67) = w' := by
  go_enter Try.func23, Try.ntmps23
  go_wp2
  go_ret
  exact ⟨rfl, rfl⟩
namespace Lk
/-- The first d that are out are out no more. -/
def shed (L : Lk) (d : Nat) : Lk := { L with base := L.base + d, out := L.out.drop d }
theorem shed_zero (L : Lk) : L.shed 0 = L := by simp [shed]
theorem shed_top (L : Lk) (d : Nat) (h : d ≤ L.out.length) : (L.shed d).top = L.top := by simp only [shed, top, List.length_drop]; omega
/-- What is out, with its numbers. -/
def pend (L : Lk) : List (Nat × ByteArray) := L.out.zipIdx.map fun p => (L.base + p.2 + 1, p.1)
theorem pend_length (L : Lk) : L.pend.length = L.out.length := by simp [pend]
theorem pend_get (L : Lk) (k : Nat) (hk : k < L.out.length) : L.pend[k]? = some (L.base + k + 1, L.out[k]) := by simp [pend, hk]
abbrev encP (x : Nat × ByteArray) : Array Value := #[.int .u32 ((x.1 : Nat) : Int), .string x.2]
/-- What a round of the iterator needs: the end as it is, but for some that are out no more; its own variable. -/
def Need (L : Lk) (B M Z : Nat) (k : Nat) (W : World) : Prop := (∃ d, d ≤ k ∧ d ≤ L.out.length ∧ Is (L.shed d) B M W) ∧ W.cell? ⟨Z, 0, none⟩ = some (.pointer (some ⟨B, 3, none⟩))
theorem Need.facts {L : Lk} {B M Z k : Nat} {W : World} (h : L.Need B M Z k W) : W.cell? ⟨B, 5, none⟩ = some (.int .u32 ((L.top : Int) + 1)) ∧ W.cell? ⟨B, 6, none⟩ = some (.map (some M)) ∧ W.cell? ⟨Z, 0, none⟩ = some (.pointer (some ⟨B, 3, none⟩)) := by
  obtain ⟨⟨d, hd, hdl, hI⟩, hz⟩ := h
  refine ⟨?_, hI.cell 6 _ rfl, hz⟩
  have h := hI.cell 5 (num ((L.shed d).top + 1)) rfl
  rw [shed_top _ _ hdl] at h
  exact h
theorem Need.look {L : Lk} {B M Z k : Nat} {W : World} (h : L.Need B M Z k W) (hk : k < L.out.length) : (Instr.lookup 46 (.map (some M)) (.int .u32 ((L.base : Int) + k + 1)) false).run Try.prog W = .ok (.string L.out[k]) W := by
  obtain ⟨⟨d, hd, hdl, hI⟩, hz⟩ := h
  have hlk := Lk.look hI.map (k - d) (by simp only [shed, List.length_drop]; omega)
  have e1 : num ((L.shed d).base + (k - d) + 1) = .int .u32 ((L.base : Int) + k + 1) := by
    simp only [num, shed]
    congr 1
    omega
  have e2 : (L.shed d).out[k - d]'(by simp only [shed, List.length_drop]; omega) = L.out[k] := by
    simp only [shed, List.getElem_drop]
    congr 1
    omega
  rw [e1, e2] at hlk
  exact hlk
end Lk
set_option maxRecDepth 100000 in
set_option maxHeartbeats 1000000 in
/-- What pending goes through. -/
theorem pendGoes (n : Nat) (hn : 1 ≤ n) (w : World) (L : Lk) (B M Z : Nat) (hw : Lk.Is L B M w) (hz : w.cell? ⟨Z, 0, none⟩ = some (.pointer (some ⟨B, 3, none⟩))) :
    GoesN Fence.wide n Try.prog 29 #[.pointer (some ⟨Z, 0, none⟩)] Lk.encP (fun _ _ => True) (L.Need B M Z) L.pend w := by
  intro l J' Jx W hW hJ hJx hN hY h0
  refine callsIn_of_wp Try.func29 rfl trivial ?_ rfl
  simp only [Try.ntmps29, List.size_toArray, List.length_cons, List.length_nil, Nat.reduceAdd, Nat.reduceSub, Array.replicate_succ, Array.replicate_zero, List.push_toArray, List.append_toArray, List.nil_append, List.cons_append]
  have hI : Lk.Is L B M W := hw.below hW
  have hzl := lt_of_cell hz
  have hzW : W.cell? ⟨Z, 0, none⟩ = some (.pointer (some ⟨B, 3, none⟩)) := (hW.cell (p := ⟨Z, 0, none⟩) hzl).trans hz
  have h5 : W.cell? ⟨B, 5, none⟩ = some (.int .u32 ((L.top : Int) + 1)) := hI.cell 5 _ rfl
  have h6 : W.cell? ⟨B, 6, none⟩ = some (.map (some M)) := hI.cell 6 _ rfl
  have hlen : ∀ ty, (Builtin.len_ #[46] ty #[.map (some M)]).run Try.prog W = .ok (.int .i64 (L.out.length : Int)) W := fun ty => hI.lenMap ty
  have hlen2 : ∀ k ty, (Builtin.len_ #[46] ty #[.map (some M)]).run Try.prog (W.drewN k) = .ok (.int .i64 (L.out.length : Int)) (W.drewN k) := fun k ty => Lk.Is.lenMap (hI.below (drewN_below (Below.refl _ _) k)) ty
  have hfew := hI.ok.few
  have hw1 : IntKind.u32.wrap (L.out.length : Int) = (L.out.length : Int) := IntWalk.u32_in _ (by unfold Lk.top at hfew; omega)
  have hw2 : IntKind.u32.wrap ((L.top : Int) + 1 - (L.out.length : Int)) = (L.base : Int) + 1 := by rw [IntWalk.u32_in _ (by unfold Lk.top at *; omega)]; unfold Lk.top; omega
  have hw3 : (L.out.length : Int) % 4294967296 = (L.out.length : Int) := by unfold Lk.top at *; omega
  have HFW := Lib.hid hfew
  clear hw hz hzl hW hI hfew
  refine wpIn_wide.2 ?_
  go_wp2
  go_quiet (fail)
  rename_i K aK
  change K _ _
  refine aK _ _ ?_
  refine (wpIn_wide (n := n)).1 ?_
  have hJ0 : J' 0 (W.drewN nq) := hJ 0 W _ none h0 ⟨rfl, rfl, rfl, Nat.le_refl _, fun _ _ _ => rfl⟩ (fun r h => by cases h)
  have HLN := Lib.hid (L.pend_length)
  have HG := Lib.hid L.pend_get
  have hn1 : ∀ (k : Nat), k ≤ L.out.length → IntKind.u32.wrap ((L.base : Int) + k + 1 + 1) = (L.base : Int) + k + 1 + 1 := fun k hk => IntWalk.u32_in _ (by have := HFW.out; unfold Lk.top at this; omega)
  have HN1 := Lib.hid hn1
  have htop : (L.top : Int) = (L.base : Int) + L.out.length := by unfold Lk.top; omega
  have HTP := Lib.hid htop
  clear aK h0 hn1 htop h5 h6 hzW hlen hlen2 hw1 hw2 hw3
  gi_wp2
  gi_loopw [3] (fun i wr => ∃ k : Nat, k ≤ L.out.length ∧ i = .int .u32 ((L.base : Int) + k + 1) ∧ J' k wr) (fun i _ => L.base + L.out.length + 1 - (intOf i).toNat)
  case atStart => exact ⟨0, Nat.zero_le _, by simp, hJ0⟩
  case round =>
    obtain ⟨k, hk, rfl, hJs⟩ := hrel
    obtain ⟨q5, q6, qz⟩ := (hN k wr hJs).facts
    by_cases hlt : k < L.out.length
    · have hlk := (hN k wr hJs).look hlt
      obtain ⟨fn, tmps, assign, body, hy, hR⟩ := hY k _ wr (HG.out k hlt) hJs
      have hlti : (L.base : Int) + k + 1 < (L.top : Int) + 1 := by rw [HTP.out]; omega
      have hwr := HN1.out k hk
      dsimp only [Lk.encP] at hy
      have hpush : ((L.base + k + 1 : Nat) : Int) = (L.base : Int) + k + 1 := by omega
      rw [hpush] at hy
      generalize L.out[k] = s at *
      clear hY hpush
      gi_wp2
      refine hR.mono ?_
      rintro e W3 (⟨rfl, hJ3, -⟩ | ⟨rfl, hJx3⟩)
      · gi_wp2
        go_roundw
        case rel => exact ⟨k + 1, by omega, by go_num, hJ3⟩
        case measure => simp [intOf]; omega
      · gi_wp2
        refine bodyPost_ret (results_none rfl _ _ _) rfl ?_
        exact ⟨⟨_, rfl⟩, .inr ⟨k, by rw [HLN.out]; exact hlt, hJx3⟩⟩
    · obtain rfl : k = L.out.length := by omega
      have hnl : ¬ (L.base : Int) + L.out.length + 1 < (L.top : Int) + 1 := by rw [HTP.out]; omega
      gi_wp2
      go_end0
      exact ⟨⟨_, rfl⟩, .inl (by rw [HLN.out]; exact hJs)⟩
end Go.Proofs.Ytlbhfkiihikimaa
