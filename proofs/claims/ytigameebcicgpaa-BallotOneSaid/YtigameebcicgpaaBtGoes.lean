/-
  voted, as a range over a function: what it goes through.
-/
import Derived.Test.YtigameebcicgpaaBtSmall
import Derived.Test.YtigameebcicgpaaRange3
import Derived.LoopNIn
import Derived.LoopIn
import Derived.TacticsInMore
namespace Go.Proofs.Ytigameebcicgpaa
open Go.RowKit Go.Shelf
attribute [local go_sem] Oper.semAt_some
set_option linter.unusedVariables false
set_option linter.unusedSimpArgs false

abbrev encV (x : Vt) : Array Value := #[x.val]
/-- Those of a list that have voted. -/
def vd (l : List Vt) : List Vt := l.filter fun v => decide (Bt.Voted v)
theorem vd_take_succ (l : List Vt) (k : Nat) (hk : k < l.length) : vd (l.take (k + 1)) = vd (l.take k) ++ (if Bt.Voted l[k] then [l[k]] else []) := by
  unfold vd
  rw [List.take_succ_eq_append_getElem hk, List.filter_append]
  by_cases h : Bt.Voted l[k] <;> simp [h]
theorem vd_at (l : List Vt) (k : Nat) (hk : k < l.length) (h : Bt.Voted l[k]) : (vd l)[(vd (l.take k)).length]? = some l[k] := by
  have e : l = l.take k ++ (l[k] :: l.drop (k + 1)) := by rw [← List.drop_eq_getElem_cons hk, List.take_append_drop]
  have e2 : vd l = vd (l.take k) ++ (l[k] :: vd (l.drop (k + 1))) := by
    have : vd l = vd (l.take k ++ (l[k] :: l.drop (k + 1))) := by rw [← e]
    rw [this]
    unfold vd
    rw [List.filter_append, List.filter_cons, if_pos (by simpa using h)]
  rw [e2, List.getElem?_append_right (Nat.le_refl _)]
  simp
theorem vd_len (l : List Vt) (k : Nat) : (vd (l.take k)).length ≤ (vd l).length := by
  have : vd l = vd (l.take k) ++ vd (l.drop k) := by unfold vd; rw [← List.filter_append, List.take_append_drop]
  rw [this, List.length_append]; omega
theorem keeps_lt {w W : World} {n₀ : Nat} (hk : Keeps (· < n₀) w W) (hn : n₀ ≤ w.heap.size) (b : Nat) (hb : b < n₀) : b < W.heap.size := by
  have h := hk b hb
  rw [Array.getElem?_eq_getElem (show b < w.heap.size by omega)] at h
  exact (Array.getElem?_eq_some_iff.1 h).1
/-- What a list of votes lies in. -/
theorem VtsR.keep {w w' : World} {v : Value} {l : List Vt} (h : VtsR w v l) (hb : ∀ g, v.ownBlock = some g → w'.heap[g]? = w.heap[g]?) : VtsR w' v l := by
  rcases h with h | ⟨g, c, rfl, hg, hx⟩
  · exact .inl h
  · have e := hb g rfl
    refine .inr ⟨g, c, rfl, ?_, fun j hj => ?_⟩
    · rw [Array.getElem?_eq_getElem hg] at e
      exact (Array.getElem?_eq_some_iff.1 e).1
    · obtain ⟨h0, h1, h2⟩ := hx j hj
      exact ⟨(World.cell?_of_block (w := w) (a := ⟨g, j * 3, none⟩) e).trans h0, (World.cell?_of_block (w := w) (a := ⟨g, j * 3 + 1, none⟩) e).trans h1, (World.cell?_of_block (w := w) (a := ⟨g, j * 3 + 2, none⟩) e).trans h2⟩
theorem VtsR.lt {w : World} {v : Value} {l : List Vt} (h : VtsR w v l) : ∀ g, v.ownBlock = some g → g < w.heap.size := fun g hg => by
  rcases h with ⟨rfl, _⟩ | ⟨g', c, rfl, hg', hx⟩
  · cases hg
  · cases hg; exact hg'
set_option maxRecDepth 100000 in
set_option maxHeartbeats 1000000 in
/-- What voted goes through: those that have voted, in order, if the round leaves all below n₀. -/
theorem votedGoes (n : Nat) (hn : 1 ≤ n) (n₀ : Nat) (w : World) (B : Nat) (v : Value) (ds : List Vt) (hB : B < w.heap.size) (hc : w.cell? ⟨B, 0, none⟩ = some v) (hT : VtsR w v ds) (hn₀ : ∀ g, v.ownBlock = some g → g < n₀) (hnw : n₀ ≤ w.heap.size) (hd : ds.length ≤ 1000000) :
    Goes Fence.wide n Try.prog 33 #[.pointer (some ⟨B, 0, none⟩)] encV (Keeps (· < n₀)) (vd ds) w := by
  intro l J' Jx W hW hJ hJx hY h0
  refine callsIn_of_wp Try.func33 rfl trivial ?_ rfl
  simp only [Try.ntmps33, List.size_toArray, List.length_cons, List.length_nil, Nat.reduceAdd, Nat.reduceSub, Array.replicate_succ, Array.replicate_zero, List.push_toArray, List.append_toArray, List.nil_append, List.cons_append]
  have hcW : W.cell? ⟨B, 0, none⟩ = some v := (hW.cell (p := ⟨B, 0, none⟩) hB).trans hc
  have hTW : VtsR W v ds := hT.below hW
  obtain ⟨a, c, hv⟩ := hT.form
  have hnW : n₀ ≤ W.heap.size := Nat.le_trans hnw hW.size
  clear hc hT hB hW hnw
  obtain ⟨m, hm⟩ : ∃ m, ds.length = m := ⟨_, rfl⟩
  have HM := Lib.hid hm
  rw [hm] at hv hd
  have hmi : m ≤ 1000000 := hd
  clear hm
  subst hv
  gi_wp2
  gi_loopw [7] (fun i wr => ∃ k : Nat, k ≤ m ∧ i = .int .i64 k ∧ J' (vd (ds.take k)).length wr ∧ Keeps (· < n₀) W wr) (fun i _ => m - (intOf i).toNat)
  case atStart => exact ⟨0, Nat.zero_le _, rfl, h0, Keeps.refl _ _⟩
  case round =>
    obtain ⟨k, hk, rfl, hJs, hnx⟩ := hrel
    by_cases hlt : k < m
    · have hkd : k < ds.length := by rw [HM.out]; exact hlt
      obtain ⟨g, c', e1, hx⟩ := (hTW.keep (fun g hg => hnx g (hn₀ g hg))).at' k hkd
      simp only [Value.slice.injEq] at e1
      obtain ⟨e1, -, -⟩ := e1
      subst e1
      obtain ⟨q0, q1, q2⟩ := hx wr (Below.refl _ _)
      have HY := fun (hv : Bt.Voted ds[k]) wr hJs => hY (vd (ds.take k)).length ds[k] wr (vd_at ds k hkd hv) hJs
      have HS0 := Lib.hid (vd_take_succ ds k hkd)
      have HLN0 := Lib.hid (fun (hv : Bt.Voted ds[k]) => (List.getElem?_eq_some_iff.1 (vd_at ds k hkd hv)).1)
      have HJ := fun (w2 : World) (hb : Below wr.heap.size wr w2) => hJ _ wr w2 none hJs ⟨hb.os, hb.tape, hb.output, hb.size, fun j hj _ => hb.block j hj⟩ (fun r h => by cases h)
      have NB : ∀ b, b < n₀ → b < wr.heap.size := fun b hb => keeps_lt hnx hnW b hb
      have hgn := hn₀ g rfl
      have HG := Lib.hid hn₀
      clear hY hTW hcW hx
      generalize ds[k] = x at *
      have HH := Lib.hid (fun W => btHasVoted x W)
      have hki : (k : Int) < (m : Int) := by omega
      by_cases hv : Bt.Voted x
      · have HY := HY hv
        have HLN := Lib.hid (HLN0.out hv)
        rw [decide_eq_true hv] at HH
        have HS := Lib.hid (show (vd (ds.take (k + 1))).length = (vd (ds.take k)).length + 1 from by rw [HS0.out, if_pos hv, List.length_append]; rfl)
        clear hv HS0 HLN0
        obtain ⟨xp, xb, xs⟩ := x
        unfold Vt.val at HH
        dsimp only at q0 q1 q2 HH
        have HY := Lib.hid (fun (w2 : World) (hb : Below wr.heap.size wr w2) => HY w2 (HJ w2 hb))
        clear HJ
        gi_wp2_with (first
          | (refine ⟨trivial, ?_⟩; gi_at_call 27; refine (callsIn_wide.2 (HH.out _)).mono ?_; rintro e w1 ⟨rfl, hb1⟩; have hb1' : Below wr.heap.size wr w1 := ((Below.refl _ wr).alloc (Nat.le_refl _) _).trans (hb1.mono (by simp)); have hr1 := (hb1.block wr.heap.size (by simp)).trans (World.alloc_heap_new wr _); have x0 : w1.cell? ⟨wr.heap.size, 0, none⟩ = some (.int .u64 (xp : Int)) := (by simp [World.cell?, hr1]); have x1 : w1.cell? ⟨wr.heap.size, 1, none⟩ = some (.int .u64 (xb : Int)) := (by simp [World.cell?, hr1]); have x2 : w1.cell? ⟨wr.heap.size, 2, none⟩ = some (.string xs) := (by simp [World.cell?, hr1]); obtain ⟨fn, tmps, assign, body, hy, hR⟩ := HY.out w1 hb1'; dsimp only [encV, Vt.val] at hy; clear HY))
        refine hR.mono ?_
        rintro e W3 (⟨rfl, hJ3, hk3⟩ | ⟨rfl, hJx3⟩)
        · gi_wp2
          go_roundw
          case rel => exact ⟨k + 1, by omega, by go_num, by rw [HS.out]; exact hJ3, hnx.trans ((Keeps.of_below hb1' (fun b hb => NB b hb)).trans hk3)⟩
          case measure => simp [intOf]; omega
        · gi_wp2
          refine bodyPost_ret (results_none rfl _ _ _) rfl ?_
          exact ⟨⟨_, rfl⟩, .inr ⟨_, HLN.out, hJx3⟩⟩
      · rw [decide_eq_false hv] at HH
        have HS := Lib.hid (show (vd (ds.take (k + 1))).length = (vd (ds.take k)).length from by rw [HS0.out, if_neg hv, List.append_nil])
        clear hv HY HLN0 HS0
        obtain ⟨xp, xb, xs⟩ := x
        unfold Vt.val at HH
        dsimp only at q0 q1 q2 HH
        gi_wp2_with (first
          | (refine ⟨trivial, ?_⟩; gi_at_call 27; refine (callsIn_wide.2 (HH.out _)).mono ?_; rintro e w1 ⟨rfl, hb1⟩; have hb1' : Below wr.heap.size wr w1 := ((Below.refl _ wr).alloc (Nat.le_refl _) _).trans (hb1.mono (by simp))))
        refine ⟨fun f h => (by cases h), ?_⟩
        rename_i K aK _ _ _ _
        refine aK _ _ ?_
        clear aK
        gi_wp2
        go_roundw
        case rel => exact ⟨k + 1, by omega, by go_num, by rw [HS.out]; exact HJ _ hb1', hnx.trans (Keeps.of_below hb1' (fun b hb => NB b hb))⟩
        case measure => simp [intOf]; omega
    · obtain rfl : k = m := by omega
      have HL := Lib.hid (show (vd (ds.take k)).length = (vd ds).length from by rw [List.take_of_length_le (by rw [HM.out]; exact Nat.le_refl _)])
      gi_wp2
      go_end0
      exact ⟨⟨_, rfl⟩, .inl (by rw [← HL.out]; exact hJs)⟩
end Go.Proofs.Ytigameebcicgpaa
