/-
  addressed: walked.
-/
import Derived.Test.YtlbhfkiihikimaaLkWalk1
import Derived.WalkMore
namespace Go.Proofs.Ytlbhfkiihikimaa
open Go.RowKit Go.Shelf
attribute [local go_sem] Oper.semAt_some
set_option linter.unusedVariables false
set_option linter.unusedSimpArgs false

/-- A frame as it goes from an end to its peer. -/
def Lk.addr (L : Lk) (f : Fr) : Fr := { f with wire := L.wire, src := L.me, dst := L.peer }
theorem HasFr.cells {W : World} {g k : Nat} {f : Fr} (h : HasFr W g k f) : W.cell? ⟨g, k, none⟩ = some (.int .i64 f.wire) ∧ W.cell? ⟨g, k + 1, none⟩ = some (.int .i64 f.kind) ∧ W.cell? ⟨g, k + 2, none⟩ = some (.int .i64 f.src) ∧ W.cell? ⟨g, k + 3, none⟩ = some (.int .i64 f.dst) ∧
    W.cell? ⟨g, k + 4, none⟩ = some (.int .u32 (f.life.toNat : Int)) ∧ W.cell? ⟨g, k + 5, none⟩ = some (.int .u32 (f.seq.toNat : Int)) ∧ W.cell? ⟨g, k + 6, none⟩ = some (.int .u32 (f.ack.toNat : Int)) ∧ W.cell? ⟨g, k + 7, none⟩ = some (.int .u32 (f.hint.toNat : Int)) ∧ W.cell? ⟨g, k + 8, none⟩ = some (.string f.data) :=
  ⟨h 0 _ rfl, h 1 _ rfl, h 2 _ rfl, h 3 _ rfl, h 4 _ rfl, h 5 _ rfl, h 6 _ rfl, h 7 _ rfl, h 8 _ rfl⟩
set_option maxRecDepth 100000 in
set_option maxHeartbeats 4000000 in
/-- addressed. -/
theorem lkAddressed (L : Lk) (B M : Nat) (fs : List Fr) (base : Nat) (v : Value) (w : World) (h : Lk.Is L B M w) (hv : Frames w base v fs) (hf : fs.length ≤ 1000) : Calls Try.prog 17 #[.pointer (some ⟨B, 0, none⟩), v] w fun e w' =>
    (∃ u, e = .returned u ∧ Frames w' w.heap.size u (fs.map L.addr)) ∧ Below w.heap.size w w' := by
  obtain ⟨ao, c, hvs, hlc⟩ := hv.form
  obtain ⟨n, hn⟩ : ∃ n, fs.length = n := ⟨_, rfl⟩
  obtain ⟨wm, hmk, hF0, hB0⟩ := run_make_frames w w.heap.size n (by omega) (Nat.le_refl _)
  rw [hn] at hf hvs
  have HN := Lib.hid hn
  have HV := Lib.hid (show Frames w base (.slice ao n c) fs from hvs ▸ hv)
  have HC := Lib.hid (fun (W : World) (hb : Below w.heap.size w W) => show W.cell? ⟨B, 0, none⟩ = some (.int .i64 L.me) ∧ W.cell? ⟨B, 1, none⟩ = some (.int .i64 L.peer) ∧ W.cell? ⟨B, 2, none⟩ = some (.int .i64 L.wire) ∧ B < W.heap.size from ⟨(h.below hb).cell 0 _ rfl, (h.below hb).cell 1 _ rfl, (h.below hb).cell 2 _ rfl, (h.below hb).lt⟩)
  clear hn hv h hlc
  subst hvs
  have HM := Lib.hid hB0
  go_enter Try.func17, Try.ntmps17
  go_wp2
  go_loopw [5, 7, 13] (fun al _ i W => ∃ k : Nat, k ≤ n ∧ i = .int .i64 k ∧ Frames W w.heap.size al ((fs.take k).map L.addr) ∧ Below w.heap.size w W) (fun _ _ i _ => n - (intOf i).toNat)
  case atStart => exact ⟨0, Nat.zero_le _, rfl, hF0, hB0⟩
  case round =>
    obtain ⟨k, hk, rfl, hal, hB⟩ := hrel
    by_cases hlt : k < n
    · have hkd : k < fs.length := by rw [HN.out]; exact hlt
      obtain ⟨g, c', e1, _, _, hgw, hfz, hfr⟩ := (HV.out.keep (fun g hg => hB.block g (HV.out.lt g hg).2)).at' k hkd
      simp only [Value.slice.injEq] at e1
      obtain ⟨rfl, -, -⟩ := e1
      obtain ⟨q0, q1, q2, q3, q4, q5, q6, q7, q8⟩ := hfr.cells
      obtain ⟨c0, c1, c2, hBW⟩ := HC.out _ hB
      have hnext : (fs.take (k + 1)).map L.addr = (fs.take k).map L.addr ++ [L.addr fs[k]] := by rw [List.take_succ_eq_append_getElem hkd, List.map_append]; rfl
      have HX := Lib.hid hnext
      have HAL := Lib.hid (fun (W : World) (hb : Below wr.heap.size wr W) => hal.below hb)
      have hsz := hB.size
      have HE := Lib.hid (fun (W w2 : World) (hb : Below wr.heap.size wr W) (hg : W.grownBy w2 u5.ownBlock) => (hB.trans (hb.mono hsz)).grown hg (Nat.le_trans hsz hb.size) (fun g e => (hal.lt g e).1))
      have HFW := Lib.hid (show ((fs.take k).map L.addr).length + 1 ≤ 1000000 by rw [List.length_map, List.length_take]; omega)
      have hki : (k : Int) < (n : Int) := by omega
      clear hnext hfr HC HV hal
      unfold Lk.addr at *
      generalize fs[k] = f at *
      obtain ⟨wi, ki, sr, ds, li, se, ac, hi, da⟩ := f
      dsimp only at q0 q1 q2 q3 q4 q5 q6 q7 q8
      have hne0 := World.new_ne wr _ c0
      have hne1 := World.new_ne wr _ c1
      have hne2 := World.new_ne wr _ c2
      go_wp2
      go_region_held3 (fun W => W.cell? ⟨B, 0, none⟩ = some (.int .i64 L.me) ∧ W.cell? ⟨B, 1, none⟩ = some (.int .i64 L.peer) ∧ W.cell? ⟨B, 2, none⟩ = some (.int .i64 L.wire)) (go_keep) (fail)
      all_goals
        go_wp2_with (at_builtin; refine wpList_append_frames rfl _ _ rfl w.heap.size _ _ rfl (HAL.out _ ((((Below.refl _ wr).alloc (Nat.le_refl _) _).alloc (by simp) _).drew)) _ rfl [⟨L.wire, ki, L.me, L.peer, li, se, ac, hi, da⟩] (given_two _ _ ⟨L.wire, ki, L.me, L.peer, li, se, ac, hi, da⟩ _ _) HFW.out (by simp; omega) ?_; intro v' w2 ho hg hat; have hend := HE.out _ _ ((((Below.refl _ wr).alloc (Nat.le_refl _) _).alloc (by simp) _).drew) hg)
        go_roundw
        case rel => exact ⟨k + 1, by omega, by go_num, by rw [HX.out]; exact ho, hend⟩
        case measure => simp [intOf]; omega
    · obtain rfl : k = n := by omega
      have ht : fs.take k = fs := by rw [← HN.out, List.take_length]
      rw [ht] at hal
      go_wp2
      go_ret
      exact ⟨⟨_, rfl, hal⟩, hB⟩
end Go.Proofs.Ytlbhfkiihikimaa
