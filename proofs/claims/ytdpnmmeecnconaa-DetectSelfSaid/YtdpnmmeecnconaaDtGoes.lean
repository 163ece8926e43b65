/-
  all, as a range over a function: what it goes through.
-/
import Derived.Test.YtdpnmmeecnconaaDtWalk1
namespace Go.Proofs.Ytdpnmmeecnconaa
open Go.RowKit Go.Shelf
attribute [local go_sem] Oper.semAt_some
set_option linter.unusedVariables false
set_option linter.unusedSimpArgs false

abbrev encD (x : Nat × Nd) : Array Value := #[intV x.1, x.2.val]
/-- A detector's nodes, with their numbers. -/
def Dt.pairs (D : Dt) : List (Nat × Nd) := D.nodes.zipIdx.map fun p => (p.2, p.1)
theorem Dt.pairs_length (D : Dt) : D.pairs.length = D.nodes.length := by simp [Dt.pairs]
theorem Dt.pairs_get (D : Dt) (k : Nat) (hk : k < D.nodes.length) : D.pairs[k]? = some (k, D.nodes[k]) := by simp [Dt.pairs, hk]
set_option maxRecDepth 100000 in
set_option maxHeartbeats 1000000 in
theorem allGoesNil (n : Nat) (hn : 1 ≤ n) (w : World) (Z : Nat) (S : Nat → Prop) (hz : w.cell? ⟨Z, 0, none⟩ = some (.pointer none)) :
    Goes Fence.wide n Try.prog 23 #[.pointer (some ⟨Z, 0, none⟩)] encD (Keeps S) [] w := by
  intro l J' Jx W hW hJ hJx hY h0
  refine callsIn_of_wp Try.func23 rfl trivial ?_ rfl
  simp only [Try.ntmps23, List.size_toArray, List.length_cons, List.length_nil, Nat.reduceAdd, Nat.reduceSub, Array.replicate_succ, Array.replicate_zero, List.push_toArray, List.append_toArray, List.nil_append, List.cons_append]
  have hzW : W.cell? ⟨Z, 0, none⟩ = some (.pointer none) := (hW.cell (p := ⟨Z, 0, none⟩) (lt_of_cell hz)).trans hz
  clear hz hY
  gi_wp2
  refine bodyPost_ret (results_none rfl _ _ _) rfl ?_
  exact ⟨⟨_, rfl⟩, .inl h0⟩
set_option maxRecDepth 100000 in
set_option maxHeartbeats 1000000 in
theorem allGoes (n : Nat) (hn : 1 ≤ n) (w : World) (D : Dt) (B M Z : Nat) (S : Nat → Prop) (hSB : S B) (hSM : S M) (hSZ : S Z) (hw : Dt.Is D B M w) (hz : w.cell? ⟨Z, 0, none⟩ = some (.pointer (some ⟨B, 0, none⟩))) :
    Goes Fence.wide n Try.prog 23 #[.pointer (some ⟨Z, 0, none⟩)] encD (Keeps S) D.pairs w := by
  intro l J' Jx W hW hJ hJx hY h0
  refine callsIn_of_wp Try.func23 rfl trivial ?_ rfl
  simp only [Try.ntmps23, List.size_toArray, List.length_cons, List.length_nil, Nat.reduceAdd, Nat.reduceSub, Array.replicate_succ, Array.replicate_zero, List.push_toArray, List.append_toArray, List.nil_append, List.cons_append]
  have hzW : W.cell? ⟨Z, 0, none⟩ = some (.pointer (some ⟨B, 0, none⟩)) := (hW.cell (p := ⟨Z, 0, none⟩) (lt_of_cell hz)).trans hz
  have hI : Dt.Is D B M W := hw.below hW
  have h4 : W.cell? ⟨B, 4, none⟩ = some (.map (some M)) := hI.cell 4 _ rfl
  have hlen : ∀ ty, (Builtin.len_ #[46] ty #[.map (some M)]).run Try.prog W = .ok (.int .i64 (D.nodes.length : Int)) W := fun ty => hI.lenMap ty
  have hfew := hI.ok.few
  have HLN := Lib.hid (D.pairs_length)
  have HG := Lib.hid D.pairs_get
  have HK := Lib.hid (fun (wr : World) (hk : Keeps S W wr) => show Dt.Is D B M wr ∧ wr.cell? ⟨Z, 0, none⟩ = some (.pointer (some ⟨B, 0, none⟩)) from
    ⟨hI.keep (hk B hSB) (hk M hSM), (World.cell?_of_block (w := W) (a := ⟨Z, 0, none⟩) (hk Z hSZ)).trans hzW⟩)
  obtain ⟨m, hm⟩ : ∃ m, D.nodes.length = m := ⟨_, rfl⟩
  have HM := Lib.hid hm
  rw [hm] at hlen hfew
  clear hw hz hW hI hm
  gi_wp2
  gi_loopw [11] (fun i wr => ∃ k : Nat, k ≤ m ∧ i = .int .i64 (k : Int) ∧ J' k wr ∧ Keeps S W wr) (fun i _ => m - (intOf i).toNat)
  case atStart => exact ⟨0, Nat.zero_le _, by simp, h0, Keeps.refl _ _⟩
  case round =>
    obtain ⟨k, hk, rfl, hJs, hks⟩ := hrel
    obtain ⟨hIr, qz⟩ := HK.out wr hks
    have q4 : wr.cell? ⟨B, 4, none⟩ = some (.map (some M)) := hIr.cell 4 _ rfl
    by_cases hlt : k < m
    · have hkd : k < D.nodes.length := by rw [HM.out]; exact hlt
      have hlk := Dt.look hIr.map k hkd
      obtain ⟨fn, tmps, assign, body, hy, hR⟩ := hY k _ wr (HG.out k hkd) hJs
      have hki : (k : Int) < (m : Int) := by omega
      dsimp only [encD] at hy
      clear hY hlen h4 hIr
      generalize D.nodes[k] = x at *
      gi_wp2
      refine hR.mono ?_
      rintro e W3 (⟨rfl, hJ3, hk3⟩ | ⟨rfl, hJx3⟩)
      · gi_wp2
        go_roundw
        case rel => exact ⟨k + 1, by omega, by go_num, hJ3, hks.trans hk3⟩
        case measure => simp [intOf]; omega
      · gi_wp2
        refine bodyPost_ret (results_none rfl _ _ _) rfl ?_
        exact ⟨⟨_, rfl⟩, .inr ⟨k, by rw [HLN.out]; exact hkd, hJx3⟩⟩
    · obtain rfl : k = m := by omega
      clear hlen h4
      gi_wp2
      go_end0
      exact ⟨⟨_, rfl⟩, .inl (by rw [HLN.out, HM.out]; exact hJs)⟩
end Go.Proofs.Ytdpnmmeecnconaa
