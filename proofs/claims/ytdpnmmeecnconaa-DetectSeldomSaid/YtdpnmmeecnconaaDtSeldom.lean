/-
  The law DetectSeldom: walked.
-/
import Derived.Test.YtdpnmmeecnconaaDtHeard
namespace Go.Proofs.Ytdpnmmeecnconaa
open Go.RowKit Go.Shelf
attribute [local go_sem] Oper.semAt_some
set_option linter.unusedVariables false
set_option linter.unusedSimpArgs false

namespace Dt
/-- A detector with one other node, that was heard at the last time. -/
def One (D : Dt) (t out : Nat) : Prop := D.me = 0 ∧ D.now = t ∧ ∃ x0 : Nd, D.nodes = [x0, ⟨t, out, false⟩] ∧ x0.sus = false
theorem seldom {D : Dt} {t out u : Nat} (h : D.One t out) (htu : t ≤ u) (hu : u ≤ maxTime) :
    D.tickE u = 0 ∧ D.tickS u = D.tick u ∧ D.tickL u = (if out < u - t then [1] else []) ∧ (D.tick u).hearE 1 u = 0 ∧ (D.tick u).hearS 1 u = (D.tick u).hear 1 u ∧
      One ((D.tick u).hear 1 u) u (if out < u - t then min D.most (out + D.step) else out) := by
  obtain ⟨hm, hn, x0, hx, hs⟩ := h
  have ht : D.timely u := ⟨by rw [hn]; exact htu, hu⟩
  have ht2 : (D.tick u).timely u := ⟨Nat.le_refl _, hu⟩
  have hl0 : D.late u 0 x0 = false := by simp [late, hm]
  have hl1 : D.late u 1 ⟨t, out, false⟩ = decide (out < u - t) := by simp [late, hm]
  have hn3 : (D.tick u).nodes = [x0, ⟨t, out, decide (out < u - t)⟩] := by
    simp only [tick, hx]
    by_cases hd : out < u - t
    · simp [List.mapIdx_cons, ticked, hl0, hl1, hd]
    · simp [List.mapIdx_cons, ticked, hl0, hl1, hd]
  have e4 : (D.tick u).hearE 1 u = 0 := by
    unfold hearE
    rw [if_pos (by rw [hn3]; simp), if_pos ht2]
  refine ⟨by unfold tickE; rw [if_pos ht], by unfold tickS; rw [if_pos ht], ?_, e4, by unfold hearS; rw [if_pos e4]; rfl, hm, rfl, x0, ?_, hs⟩
  · unfold tickL
    rw [if_pos ht]
    unfold fresh
    rw [hx]
    by_cases hd : out < u - t
    · simp [List.range_succ, List.filter, hl0, hl1, hd]
    · simp [List.range_succ, List.filter, hl0, hl1, hd]
  · simp only [hear, hn3]
    by_cases hd : out < u - t
    · simp [heard, hd, tick]
    · simp [heard, hd, tick]
end Dt
set_option maxRecDepth 100000 in
set_option maxHeartbeats 4000000 in
theorem lawSeldomNo (first most step : Nat) (v0 : Value) (l : List Nat) (w : World) (hT : U64s w v0 l) (hll : l.length ≤ maxLen) (hr : ¬ Dt.right 0 2 first most step 0) : Calls Try.prog 6 #[.agg #[.int .u64 (first : Int), .int .u64 (most : Int), .int .u64 (step : Int)], v0] w fun e w' => e = .returned (.bool true) ∧ Below w.heap.size w w' := by
  obtain ⟨a0, c0, rfl⟩ := u64s_form hT
  obtain ⟨len, hlen⟩ : ∃ len, l.length = len := ⟨_, rfl⟩
  have HT := Lib.hid hT
  have HL := Lib.hid hlen
  rw [hlen] at hll ⊢
  clear hT hlen
  unfold maxLen at hll
  have H1 := Lib.hid (fun W => lawShown7 W)
  have b0 : (w.alloc (.cells (beatC first most step) 35)).heap[w.heap.size]? = some (.cells (beatC first most step) 35 (0, 0)) := World.alloc_heap_new w _
  have HB0 := Lib.hid (fun (W : World) (hb : Below (w.alloc (.cells (beatC first most step) 35)).heap.size (w.alloc (.cells (beatC first most step) 35)) W) =>
    show W.cell? ⟨w.heap.size, 0, none⟩ = some (.int .u64 (first : Int)) ∧ W.cell? ⟨w.heap.size, 1, none⟩ = some (.int .u64 (most : Int)) ∧ W.cell? ⟨w.heap.size, 2, none⟩ = some (.int .u64 (step : Int)) from by
      have := (hb.block w.heap.size (by simp)).trans b0
      simp [World.cell?, this])
  clear b0
  have HN := Lib.hid (fun W => memNewNo 0 2 first most step W hr)
  clear hr
  go_enter Try.func6, Try.ntmps6
  go_wp2_with (first
    | (go_at_call 8; refine (H1.out _).mono ?_; rintro e w1 ⟨rfl, hb1⟩; obtain ⟨p0, p1, p2⟩ := HB0.out w1 hb1)
    | (go_at_call 14; refine (HN.out _).mono ?_; rintro e w2 ⟨rfl, hb2⟩))
  go_ret
  exact ⟨rfl, ((Below.refl _ w).alloc (Nat.le_refl _) _).trans ((hb1.trans (hb2.mono hb1.size)).mono (by simp))⟩
set_option maxRecDepth 100000 in
set_option maxHeartbeats 4000000 in
theorem lawSeldomStep (first most step : Nat) (v0 : Value) (l : List Nat) (w : World) (hT : U64s w v0 l) (hll : l.length ≤ maxLen) (hr : Dt.right 0 2 first most step 0) (hs : step < 1) : Calls Try.prog 6 #[.agg #[.int .u64 (first : Int), .int .u64 (most : Int), .int .u64 (step : Int)], v0] w fun e w' => e = .returned (.bool true) ∧ Below w.heap.size w w' := by
  obtain ⟨a0, c0, rfl⟩ := u64s_form hT
  obtain ⟨len, hlen⟩ : ∃ len, l.length = len := ⟨_, rfl⟩
  have HT := Lib.hid hT
  have HL := Lib.hid hlen
  rw [hlen] at hll ⊢
  clear hT hlen
  unfold maxLen at hll
  have H1 := Lib.hid (fun W => lawShown7 W)
  have b0 : (w.alloc (.cells (beatC first most step) 35)).heap[w.heap.size]? = some (.cells (beatC first most step) 35 (0, 0)) := World.alloc_heap_new w _
  have HB0 := Lib.hid (fun (W : World) (hb : Below (w.alloc (.cells (beatC first most step) 35)).heap.size (w.alloc (.cells (beatC first most step) 35)) W) =>
    show W.cell? ⟨w.heap.size, 0, none⟩ = some (.int .u64 (first : Int)) ∧ W.cell? ⟨w.heap.size, 1, none⟩ = some (.int .u64 (most : Int)) ∧ W.cell? ⟨w.heap.size, 2, none⟩ = some (.int .u64 (step : Int)) from by
      have := (hb.block w.heap.size (by simp)).trans b0
      simp [World.cell?, this])
  clear b0
  have HN := Lib.hid (fun (W : World) (hb : Below (w.alloc (.cells (beatC first most step) 35)).heap.size (w.alloc (.cells (beatC first most step) 35)) W) => memNew 0 2 first most step w W hr hb)
  have s1 : decide ((step : Int) < 1) = true := decide_eq_true (by omega)
  have s2 : (step : Int) < 1 := by omega
  clear hr hs
  go_enter Try.func6, Try.ntmps6
  go_wp2_with (first
    | (go_at_call 8; refine (H1.out _).mono ?_; rintro e w1 ⟨rfl, hb1⟩; obtain ⟨p0, p1, p2⟩ := HB0.out w1 hb1)
    | (go_at_call 14; refine (HN.out _ hb1).mono ?_; rintro e w2 ⟨B, M, rfl, hM⟩; obtain ⟨y0, y1, y2⟩ := hM.cells))
  have HB := Lib.hid hM.bel
  clear hM hb1
  go_ret
  exact ⟨rfl, HB.out⟩
set_option maxRecDepth 100000 in
set_option maxHeartbeats 4000000 in
theorem lawSeldomMost (first most step : Nat) (v0 : Value) (l : List Nat) (w : World) (hT : U64s w v0 l) (hll : l.length ≤ maxLen) (hr : Dt.right 0 2 first most step 0) (hs : ¬ step < 1) (hm : 100000 < most) : Calls Try.prog 6 #[.agg #[.int .u64 (first : Int), .int .u64 (most : Int), .int .u64 (step : Int)], v0] w fun e w' => e = .returned (.bool true) ∧ Below w.heap.size w w' := by
  obtain ⟨a0, c0, rfl⟩ := u64s_form hT
  obtain ⟨len, hlen⟩ : ∃ len, l.length = len := ⟨_, rfl⟩
  have HT := Lib.hid hT
  have HL := Lib.hid hlen
  rw [hlen] at hll ⊢
  clear hT hlen
  unfold maxLen at hll
  have H1 := Lib.hid (fun W => lawShown7 W)
  have b0 : (w.alloc (.cells (beatC first most step) 35)).heap[w.heap.size]? = some (.cells (beatC first most step) 35 (0, 0)) := World.alloc_heap_new w _
  have HB0 := Lib.hid (fun (W : World) (hb : Below (w.alloc (.cells (beatC first most step) 35)).heap.size (w.alloc (.cells (beatC first most step) 35)) W) =>
    show W.cell? ⟨w.heap.size, 0, none⟩ = some (.int .u64 (first : Int)) ∧ W.cell? ⟨w.heap.size, 1, none⟩ = some (.int .u64 (most : Int)) ∧ W.cell? ⟨w.heap.size, 2, none⟩ = some (.int .u64 (step : Int)) from by
      have := (hb.block w.heap.size (by simp)).trans b0
      simp [World.cell?, this])
  clear b0
  have HN := Lib.hid (fun (W : World) (hb : Below (w.alloc (.cells (beatC first most step) 35)).heap.size (w.alloc (.cells (beatC first most step) 35)) W) => memNew 0 2 first most step w W hr hb)
  have s1 : decide ((step : Int) < 1) = false := decide_eq_false (by omega)
  have s2 : ¬ (step : Int) < 1 := by omega
  have s3 : decide ((100000 : Int) < (most : Int)) = true := decide_eq_true (by omega)
  have s4 : (100000 : Int) < (most : Int) := by omega
  clear hr hs hm
  go_enter Try.func6, Try.ntmps6
  go_wp2_with (first
    | (go_at_call 8; refine (H1.out _).mono ?_; rintro e w1 ⟨rfl, hb1⟩; obtain ⟨p0, p1, p2⟩ := HB0.out w1 hb1)
    | (go_at_call 14; refine (HN.out _ hb1).mono ?_; rintro e w2 ⟨B, M, rfl, hM⟩; obtain ⟨y0, y1, y2⟩ := hM.cells))
  have HB := Lib.hid hM.bel
  clear hM hb1
  go_ret
  exact ⟨rfl, HB.out⟩
set_option maxRecDepth 100000 in
set_option maxHeartbeats 4000000 in
theorem lawSeldomYes (first most step : Nat) (v0 : Value) (l : List Nat) (w : World) (hT : U64s w v0 l) (hll : l.length ≤ maxLen) (hr : Dt.right 0 2 first most step 0) (hs : ¬ step < 1) (hm : ¬ 100000 < most) : Calls Try.prog 6 #[.agg #[.int .u64 (first : Int), .int .u64 (most : Int), .int .u64 (step : Int)], v0] w fun e w' => e = .returned (.bool true) ∧ Below w.heap.size w w' := by
  obtain ⟨a0, c0, rfl⟩ := u64s_form hT
  obtain ⟨len, hlen⟩ : ∃ len, l.length = len := ⟨_, rfl⟩
  have HT := Lib.hid hT
  have HL := Lib.hid hlen
  rw [hlen] at hll ⊢
  clear hT hlen
  unfold maxLen at hll
  have H1 := Lib.hid (fun W => lawShown7 W)
  have b0 : (w.alloc (.cells (beatC first most step) 35)).heap[w.heap.size]? = some (.cells (beatC first most step) 35 (0, 0)) := World.alloc_heap_new w _
  have HB0 := Lib.hid (fun (W : World) (hb : Below (w.alloc (.cells (beatC first most step) 35)).heap.size (w.alloc (.cells (beatC first most step) 35)) W) =>
    show W.cell? ⟨w.heap.size, 0, none⟩ = some (.int .u64 (first : Int)) ∧ W.cell? ⟨w.heap.size, 1, none⟩ = some (.int .u64 (most : Int)) ∧ W.cell? ⟨w.heap.size, 2, none⟩ = some (.int .u64 (step : Int)) from by
      have := (hb.block w.heap.size (by simp)).trans b0
      simp [World.cell?, this])
  clear b0
  have HN := Lib.hid (fun (W : World) (hb : Below (w.alloc (.cells (beatC first most step) 35)).heap.size (w.alloc (.cells (beatC first most step) 35)) W) => memNew 0 2 first most step w W hr hb)
  have s1 : decide ((step : Int) < 1) = false := decide_eq_false (by omega)
  have s2 : ¬ (step : Int) < 1 := by omega
  have s3 : decide ((100000 : Int) < (most : Int)) = false := decide_eq_false (by omega)
  have s4 : ¬ (100000 : Int) < (most : Int) := by omega
  have hfm : first ≤ most := by unfold Dt.right at hr; omega
  have HIN := Lib.hid (show (Dt.new (0 : Int).toNat (2 : Int).toNat first most step 0).One 0 first ∧ (Dt.new (0 : Int).toNat (2 : Int).toNat first most step 0).most = most ∧ (Dt.new (0 : Int).toNat (2 : Int).toNat first most step 0).step = step from ⟨⟨rfl, rfl, _, rfl, rfl⟩, rfl, rfl⟩)
  have HS := Lib.hid hs
  have HMB := Lib.hid hm
  have HFM := Lib.hid hfm
  clear hr hs hm hfm
  generalize Dt.new (0 : Int).toNat (2 : Int).toNat first most step 0 = D0 at *
  go_enter Try.func6, Try.ntmps6
  go_wp2_with (first
    | (go_at_call 8; refine (H1.out _).mono ?_; rintro e w1 ⟨rfl, hb1⟩; obtain ⟨p0, p1, p2⟩ := HB0.out w1 hb1)
    | (go_at_call 14; refine (HN.out _ hb1).mono ?_; rintro e w2 ⟨B, M, rfl, hM⟩; obtain ⟨y0, y1, y2⟩ := hM.cells))
  clear hb1 p0 p1 p2 y0 y1 y2
  go_loopw [8, 9, 10] (fun now ti i wr => ∃ (k t out times : Nat) (D : Dt), k ≤ len ∧ k ≤ 200 ∧ i = .int .i64 (k : Int) ∧ now = .int .u64 (t : Int) ∧ ti = .int .u64 (times : Int) ∧ times ≤ k ∧ t ≤ 100000 * k ∧ D.One t out ∧ Dt.Sel first most step out times ∧ D.most = most ∧ D.step = step ∧ Mem D B M first most step w wr) (fun _ _ i _ => 200 - (intOf i).toNat)
  case atStart => exact ⟨0, 0, first, 0, D0, Nat.zero_le _, Nat.zero_le _, rfl, rfl, rfl, Nat.le_refl _, Nat.le_refl _, HIN.out.1, Dt.Sel.begin HFM.out, HIN.out.2.1, HIN.out.2.2, hM⟩
  case round =>
    obtain ⟨k, t, out, times, D, hk, hk100, rfl, rfl, rfl, htik, htk, hone, hsel, hDm, hDs, hMk⟩ := hrel
    obtain ⟨y0, y1, y2⟩ := hMk.cells
    by_cases hlt : k < len
    · by_cases h100 : k < 200
      · have hkl : k < l.length := by rw [HL.out]; exact hlt
        obtain ⟨ad, c', h0, hx⟩ := u64s_at HT.out k hkl
        simp only [Value.slice.injEq] at h0
        obtain ⟨rfl, -, -⟩ := h0
        have hki : (k : Int) < (len : Int) := by omega
        have hki100 : (k : Int) < 200 := by omega
        generalize l[k] = xt at *
        have q0 := hx wr hMk.bel
        have q0d := hx wr.drew hMk.bel.drew
        clear hx
        have hm0 := HMB.out
        have hmod : xt % (most + 1) ≤ most := Nat.le_of_lt_succ (Nat.mod_lt _ (Nat.succ_pos _))
        have hw1 : IntKind.u64.wrap ((most : Int) + 1) = (most : Int) + 1 := by rw [IntWalk.u64_in _ (by omega)]
        have hne : ((most : Int) + 1 == 0) = false := by rw [beq_eq_false_iff_ne]; omega
        have hne2 : ¬ (most : Int) + 1 = 0 := by omega
        have hmodi : (xt : Int) % ((most : Int) + 1) = ((xt % (most + 1) : Nat) : Int) := by simp
        have hmodt : (xt : Int).tmod ((most : Int) + 1) = ((xt % (most + 1) : Nat) : Int) := by rw [Int.tmod_eq_emod_of_nonneg (by omega)]; simp
        obtain ⟨d, hd⟩ : ∃ d, xt % (most + 1) = d := ⟨_, rfl⟩
        rw [hd] at hmod hmodi hmodt
        have hwr : IntKind.u64.wrap ((t : Int) + (d : Int)) = ((t + d : Nat) : Int) := by rw [IntWalk.u64_in _ (by omega)]; omega
        have hwt : ∀ z : Nat, z ≤ 1 → IntKind.u64.wrap ((times : Int) + (z : Int)) = ((times + z : Nat) : Int) := fun z hz => by rw [IntWalk.u64_in _ (by omega)]; omega
        have hwz : ∀ z : Nat, z ≤ 1 → IntKind.u64.wrap (z : Int) = (z : Int) := fun z hz => IntWalk.u64_in _ (by omega)
        have ht2 : t + d ≤ 100000 * (k + 1) := by omega
        obtain ⟨g1, g2, g3, g4, g5, g6⟩ := Dt.seldom hone (show t ≤ t + d by omega) (by unfold Dt.maxTime; omega)
        rw [Nat.add_sub_cancel_left] at g3 g6
        have hsel2 : Dt.Sel first most step (if out < d then min D.most (out + D.step) else out) (times + (if out < d then 1 else 0)) := by
          split
          · rw [hDm, hDs]; exact hsel.late hmod ‹_›
          · exact hsel
        have hlen3 : (D.tickL (t + d)).length = (if out < d then 1 else 0) := by rw [g3]; split <;> rfl
        obtain ⟨z, hz⟩ : ∃ z, (if out < d then 1 else 0) = z := ⟨_, rfl⟩
        have hz1 : z ≤ 1 := by rw [← hz]; split <;> omega
        rw [hz] at hsel2 hlen3
        generalize (if out < d then min D.most (out + D.step) else out) = out2 at *
        have hwt' := hwt z hz1
        have hwz' := hwz z hz1
        have HT2 := Lib.hid (show t + d ≤ 100000 * (k + 1) ∧ times + z ≤ k + 1 from ⟨ht2, by omega⟩)
        have hDm2 : ((D.tick (t + d)).hear 1 (t + d)).most = most ∧ ((D.tick (t + d)).hear 1 (t + d)).step = step := ⟨hDm, hDs⟩
        generalize t + d = t' at *
        have HE1 := Lib.hid (fun (nq : Nat) => show Calls Try.prog 9 #[.pointer (some ⟨B, 0, none⟩), .int .u64 (t' : Int)] (wr.drewN nq) fun e w' => (∃ a c, e = .returned (.tuple #[.slice a z c, .int .i64 0])) ∧ Mem (D.tick t') B M first most step w w' from
          (memTick (hMk.below (drewN_below (Below.refl _ _) nq)) t').mono fun e w' ⟨⟨u, r1, r2⟩, r3⟩ => by
            rw [g1] at r1; rw [g2] at r3
            obtain ⟨a, c, hu, _⟩ := r2.form
            rw [hlen3] at hu
            exact ⟨⟨a, c, by rw [r1, hu]⟩, r3⟩)
        have HE2 := Lib.hid (fun (W : World) (h : Mem (D.tick t') B M first most step w W) => show Calls Try.prog 10 #[.pointer (some ⟨B, 0, none⟩), .int .i64 1, .int .u64 (t' : Int)] W fun e w' => e = .returned (.int .i64 0) ∧ Mem ((D.tick t').hear 1 t') B M first most step w w' from
          (memHear h 1 t').mono fun e w' ⟨r1, r3⟩ => by
            rw [g4] at r1; rw [g5] at r3
            exact ⟨r1, r3⟩)
        have G6 := Lib.hid (And.intro g6 (And.intro hsel2 hDm2))
        clear g1 g2 g3 g4 g5 g6 hsel2 hone hsel hMk hM hwt hwz hz hz1 hlen3 hd hDm hDs hDm2 htik htk ht2 hmod hm0
        have y1d : wr.drew.cell? ⟨w.heap.size, 1, none⟩ = some (.int .u64 (most : Int)) := y1
        generalize (D.tick t').hear 1 t' = D2 at *
        generalize D.tick t' = D1 at *
        go_wp2
        go_quiet (fail)
        go_wp2_with (first
          | (go_at_call 9; refine (HE1.out _).mono ?_; rintro e w4 ⟨⟨a4, c4, rfl⟩, hM4⟩)
          | (go_at_call 10; refine (HE2.out _ hM4).mono ?_; rintro e w3 ⟨rfl, hM3⟩))
        go_roundw
        case rel => exact ⟨k + 1, t', out2, times + z, D2, by omega, by omega, by go_num, rfl, rfl, HT2.out.2, HT2.out.1, G6.out.1, G6.out.2.1, G6.out.2.2.1, G6.out.2.2.2, hM3⟩
        case measure => simp [intOf]; omega
      · obtain rfl : k = 200 := by omega
        have HB := Lib.hid hMk.bel
        have hfew := hsel.bound (show 1 ≤ step from by have := HS.out; omega)
        have e1 : (most : Int) / (step : Int) = ((most / step : Nat) : Int) := by simp
        have e2 : (most : Int).tdiv (step : Int) = ((most / step : Nat) : Int) := by simp
        have hq : most / step ≤ 100000 := Nat.le_trans (Nat.div_le_self _ _) (by have := HMB.out; omega)
        have hst : ((step : Int) == 0) = false := by rw [beq_eq_false_iff_ne]; omega
        have hst2 : ¬ (step : Int) = 0 := by omega
        generalize most / step = q at *
        have e0 : IntKind.u64.wrap (q : Int) = (q : Int) := IntWalk.u64_in _ (by omega)
        have e3 : IntKind.u64.wrap ((q : Int) + 1) = (q : Int) + 1 := by rw [IntWalk.u64_in _ (by omega)]
        have e4 : decide ((times : Int) ≤ (q : Int) + 1) = true := decide_eq_true (by omega)
        have e5 : (times : Int) ≤ (q : Int) + 1 := by omega
        clear hMk hM hone hsel hDm hDs hfew hq htk htik
        go_wp2
        go_ret
        exact ⟨rfl, HB.out⟩
    · obtain rfl : k = len := by omega
      have HB := Lib.hid hMk.bel
      have hfew := hsel.bound (show 1 ≤ step from by have := HS.out; omega)
      have e1 : (most : Int) / (step : Int) = ((most / step : Nat) : Int) := by simp
      have e2 : (most : Int).tdiv (step : Int) = ((most / step : Nat) : Int) := by simp
      have hq : most / step ≤ 100000 := Nat.le_trans (Nat.div_le_self _ _) (by have := HMB.out; omega)
      have hst : ((step : Int) == 0) = false := by rw [beq_eq_false_iff_ne]; omega
      have hst2 : ¬ (step : Int) = 0 := by omega
      generalize most / step = q at *
      have e0 : IntKind.u64.wrap (q : Int) = (q : Int) := IntWalk.u64_in _ (by omega)
      have e3 : IntKind.u64.wrap ((q : Int) + 1) = (q : Int) + 1 := by rw [IntWalk.u64_in _ (by omega)]
      have e4 : decide ((times : Int) ≤ (q : Int) + 1) = true := decide_eq_true (by omega)
      have e5 : (times : Int) ≤ (q : Int) + 1 := by omega
      clear hMk hM hone hsel hDm hDs hfew hq htk htik
      go_wp2
      go_ret
      exact ⟨rfl, HB.out⟩
theorem lawSeldom (first most step : Nat) (v0 : Value) (l : List Nat) (w : World) (hT : U64s w v0 l) (hll : l.length ≤ maxLen) : Calls Try.prog 6 #[.agg #[.int .u64 (first : Int), .int .u64 (most : Int), .int .u64 (step : Int)], v0] w fun e w' => e = .returned (.bool true) ∧ Below w.heap.size w w' := by
  by_cases hr : Dt.right 0 2 first most step 0
  · by_cases hs : step < 1
    · exact lawSeldomStep first most step v0 l w hT hll hr hs
    · by_cases hm : 100000 < most
      · exact lawSeldomMost first most step v0 l w hT hll hr hs hm
      · exact lawSeldomYes first most step v0 l w hT hll hr hs hm
  · exact lawSeldomNo first most step v0 l w hT hll hr
end Go.Proofs.Ytdpnmmeecnconaa
