/-
  New: walked.
-/
import Derived.Test.YtdpnmmeecnconaaDtTick
namespace Go.Proofs.Ytdpnmmeecnconaa
open Go.RowKit Go.Shelf
attribute [local go_sem] Oper.semAt_some
set_option linter.unusedVariables false
set_option linter.unusedSimpArgs false

theorem make_map (n : Int) (w : World) : (Instr.makeMap 46 (some (.int .i64 n))).run Try.prog w = .ok (.map (some w.heap.size)) (w.alloc (.map #[] 0)) := by
  simp [Instr.makeMap, run_underlying Try.underlying46, asInt, asIntOf, Result.andThen]
theorem row_threeg (k : IntKind) (W : World) (g : Nat) (a b c : Int) (T : TypeId) (hg : g = W.heap.size) : ∀ j (h : j < [a, b, c].length), (W.alloc (.cells #[.int k a, .int k b, .int k c] T)).cell? ⟨g, j, none⟩ = some (.int k [a, b, c][j]) := by
  subst hg; exact row_three k W a b c T
theorem row_twog (k : IntKind) (W : World) (g : Nat) (a b : Int) (T : TypeId) (hg : g = W.heap.size) : ∀ j (h : j < [a, b].length), (W.alloc (.cells #[.int k a, .int k b] T)).cell? ⟨g, j, none⟩ = some (.int k [a, b][j]) := by
  subst hg; exact row_two k W a b T
theorem row_fourg (k : IntKind) (W : World) (g : Nat) (a b c d : Int) (T : TypeId) (hg : g = W.heap.size) : ∀ j (h : j < [a, b, c, d].length), (W.alloc (.cells #[.int k a, .int k b, .int k c, .int k d] T)).cell? ⟨g, j, none⟩ = some (.int k [a, b, c, d][j]) := by
  subst hg; exact row_four k W a b c d T
set_option maxRecDepth 100000 in
set_option maxHeartbeats 1000000 in
theorem dtNewNo1 (me n : Int) (first most step now : Nat)  (c1 : ¬ (1 ≤ n ∧ n ≤ 16)) (w : World) : Calls Try.prog 14 #[.int .i64 me, .int .i64 n, .agg #[.int .u64 (first : Int), .int .u64 (most : Int), .int .u64 (step : Int)], .int .u64 (now : Int)] w fun e w' =>
    e = .returned (.tuple #[.pointer none, .int .i64 70]) ∧ Below w.heap.size w w' := by
  have H1 := Lib.hid (show rises [1, n, 16] = false from by
    rw [rises_three]; (try simp only [← Bool.decide_and]); exact decide_eq_false (by omega))
  have C := Lib.hid (fun (W : World) (hb : Below (w.alloc (.cells #[.int .u64 (first : Int), .int .u64 (most : Int), .int .u64 (step : Int)] 35)).heap.size (w.alloc (.cells #[.int .u64 (first : Int), .int .u64 (most : Int), .int .u64 (step : Int)] 35)) W) (j : Nat) (v : Value) (hj : (#[.int .u64 (first : Int), .int .u64 (most : Int), .int .u64 (step : Int)] : Array Value)[j]? = some v) => show W.cell? ⟨w.heap.size, j, none⟩ = some v from by
    refine (hb.cell (p := ⟨w.heap.size, j, none⟩) (by simp)).trans ?_
    simp only [World.cell?, World.alloc_heap_new w]
    simpa using hj)
  clear c1
  go_enter Try.func14, Try.ntmps14
  go_wp2_with (first
    | (go_at_call 19; have hr1 := H1.out; refine (dtRisingI [1, n, 16] _ _ _ (by simp) (row_threeg _ _ _ _ _ _ _ (by simp)) (by simp) (by simp)).mono ?_; rintro e w1 ⟨rfl, hx⟩; have hb1 : Below (w.alloc (.cells #[.int .u64 (first : Int), .int .u64 (most : Int), .int .u64 (step : Int)] 35)).heap.size (w.alloc (.cells #[.int .u64 (first : Int), .int .u64 (most : Int), .int .u64 (step : Int)] 35)) w1 := ((Below.refl _ _).alloc (Nat.le_refl _) _).trans (hx.mono (by simp)); clear hx H1; have z0 := C.out _ hb1 0 _ rfl; have z1 := C.out _ hb1 1 _ rfl; have z2 := C.out _ hb1 2 _ rfl))
  go_ret2
  exact ⟨rfl, ((Below.refl _ w).alloc (Nat.le_refl _) _).trans (hb1.mono (by simp))⟩
set_option maxRecDepth 100000 in
set_option maxHeartbeats 1000000 in
theorem dtNewNo2 (me n : Int) (first most step now : Nat) (c1 : (1 ≤ n ∧ n ≤ 16)) (c2 : ¬ (0 ≤ me ∧ me ≤ n - 1)) (w : World) : Calls Try.prog 14 #[.int .i64 me, .int .i64 n, .agg #[.int .u64 (first : Int), .int .u64 (most : Int), .int .u64 (step : Int)], .int .u64 (now : Int)] w fun e w' =>
    e = .returned (.tuple #[.pointer none, .int .i64 70]) ∧ Below w.heap.size w w' := by
  have hw : IntKind.i64.wrap (n - 1) = n - 1 := IntWalk.i64_in _ (by omega)
  have H1 := Lib.hid (show rises [1, n, 16] = true from by
    rw [rises_three]; (try simp only [← Bool.decide_and]); exact decide_eq_true (by omega))
  have H2 := Lib.hid (show rises [0, me, n - 1] = false from by
    rw [rises_three]; (try simp only [← Bool.decide_and]); exact decide_eq_false (by omega))
  have C := Lib.hid (fun (W : World) (hb : Below (w.alloc (.cells #[.int .u64 (first : Int), .int .u64 (most : Int), .int .u64 (step : Int)] 35)).heap.size (w.alloc (.cells #[.int .u64 (first : Int), .int .u64 (most : Int), .int .u64 (step : Int)] 35)) W) (j : Nat) (v : Value) (hj : (#[.int .u64 (first : Int), .int .u64 (most : Int), .int .u64 (step : Int)] : Array Value)[j]? = some v) => show W.cell? ⟨w.heap.size, j, none⟩ = some v from by
    refine (hb.cell (p := ⟨w.heap.size, j, none⟩) (by simp)).trans ?_
    simp only [World.cell?, World.alloc_heap_new w]
    simpa using hj)
  clear c1 c2
  go_enter Try.func14, Try.ntmps14
  go_wp2_with (first
    | (go_at_call 19; have hr1 := H1.out; refine (dtRisingI [1, n, 16] _ _ _ (by simp) (row_threeg _ _ _ _ _ _ _ (by simp)) (by simp) (by simp)).mono ?_; rintro e w1 ⟨rfl, hx⟩; have hb1 : Below (w.alloc (.cells #[.int .u64 (first : Int), .int .u64 (most : Int), .int .u64 (step : Int)] 35)).heap.size (w.alloc (.cells #[.int .u64 (first : Int), .int .u64 (most : Int), .int .u64 (step : Int)] 35)) w1 := ((Below.refl _ _).alloc (Nat.le_refl _) _).trans (hx.mono (by simp)); clear hx H1; have z0 := C.out _ hb1 0 _ rfl; have z1 := C.out _ hb1 1 _ rfl; have z2 := C.out _ hb1 2 _ rfl)
    | (go_at_call 19; have hr2 := H2.out; refine (dtRisingI [0, me, n - 1] _ _ _ (by simp) (row_threeg _ _ _ _ _ _ _ (by simp)) (by simp) (by simp)).mono ?_; rintro e w2 ⟨rfl, hx⟩; have hb2 : Below (w.alloc (.cells #[.int .u64 (first : Int), .int .u64 (most : Int), .int .u64 (step : Int)] 35)).heap.size (w.alloc (.cells #[.int .u64 (first : Int), .int .u64 (most : Int), .int .u64 (step : Int)] 35)) w2 := hb1.trans ((((Below.refl _ _).alloc (Nat.le_refl _) _).trans (hx.mono (by simp))).mono hb1.size); clear hx H2 z0 z1 z2; have z0 := C.out _ hb2 0 _ rfl; have z1 := C.out _ hb2 1 _ rfl; have z2 := C.out _ hb2 2 _ rfl))
  go_ret2
  exact ⟨rfl, ((Below.refl _ w).alloc (Nat.le_refl _) _).trans (hb2.mono (by simp))⟩
set_option maxRecDepth 100000 in
set_option maxHeartbeats 1000000 in
theorem dtNewNo3 (me n : Int) (first most step now : Nat) (c1 : (1 ≤ n ∧ n ≤ 16)) (c2 : (0 ≤ me ∧ me ≤ n - 1)) (c3 : ¬ (1 ≤ first ∧ first ≤ most ∧ most ≤ Dt.maxTime)) (w : World) : Calls Try.prog 14 #[.int .i64 me, .int .i64 n, .agg #[.int .u64 (first : Int), .int .u64 (most : Int), .int .u64 (step : Int)], .int .u64 (now : Int)] w fun e w' =>
    e = .returned (.tuple #[.pointer none, .int .i64 70]) ∧ Below w.heap.size w w' := by
  have hw : IntKind.i64.wrap (n - 1) = n - 1 := IntWalk.i64_in _ (by omega)
  have H1 := Lib.hid (show rises [1, n, 16] = true from by
    rw [rises_three]; (try simp only [← Bool.decide_and]); exact decide_eq_true (by omega))
  have H2 := Lib.hid (show rises [0, me, n - 1] = true from by
    rw [rises_three]; (try simp only [← Bool.decide_and]); exact decide_eq_true (by omega))
  have H3 := Lib.hid (show rises [1, (first : Int), (most : Int), 1152921504606846976] = false from by
    rw [rises_four]; unfold Dt.maxTime at *; (try simp only [← Bool.decide_and]); exact decide_eq_false (by omega))
  have C := Lib.hid (fun (W : World) (hb : Below (w.alloc (.cells #[.int .u64 (first : Int), .int .u64 (most : Int), .int .u64 (step : Int)] 35)).heap.size (w.alloc (.cells #[.int .u64 (first : Int), .int .u64 (most : Int), .int .u64 (step : Int)] 35)) W) (j : Nat) (v : Value) (hj : (#[.int .u64 (first : Int), .int .u64 (most : Int), .int .u64 (step : Int)] : Array Value)[j]? = some v) => show W.cell? ⟨w.heap.size, j, none⟩ = some v from by
    refine (hb.cell (p := ⟨w.heap.size, j, none⟩) (by simp)).trans ?_
    simp only [World.cell?, World.alloc_heap_new w]
    simpa using hj)
  clear c1 c2 c3
  go_enter Try.func14, Try.ntmps14
  go_wp2_with (first
    | (go_at_call 19; have hr1 := H1.out; refine (dtRisingI [1, n, 16] _ _ _ (by simp) (row_threeg _ _ _ _ _ _ _ (by simp)) (by simp) (by simp)).mono ?_; rintro e w1 ⟨rfl, hx⟩; have hb1 : Below (w.alloc (.cells #[.int .u64 (first : Int), .int .u64 (most : Int), .int .u64 (step : Int)] 35)).heap.size (w.alloc (.cells #[.int .u64 (first : Int), .int .u64 (most : Int), .int .u64 (step : Int)] 35)) w1 := ((Below.refl _ _).alloc (Nat.le_refl _) _).trans (hx.mono (by simp)); clear hx H1; have z0 := C.out _ hb1 0 _ rfl; have z1 := C.out _ hb1 1 _ rfl; have z2 := C.out _ hb1 2 _ rfl)
    | (go_at_call 19; have hr2 := H2.out; refine (dtRisingI [0, me, n - 1] _ _ _ (by simp) (row_threeg _ _ _ _ _ _ _ (by simp)) (by simp) (by simp)).mono ?_; rintro e w2 ⟨rfl, hx⟩; have hb2 : Below (w.alloc (.cells #[.int .u64 (first : Int), .int .u64 (most : Int), .int .u64 (step : Int)] 35)).heap.size (w.alloc (.cells #[.int .u64 (first : Int), .int .u64 (most : Int), .int .u64 (step : Int)] 35)) w2 := hb1.trans ((((Below.refl _ _).alloc (Nat.le_refl _) _).trans (hx.mono (by simp))).mono hb1.size); clear hx H2 z0 z1 z2; have z0 := C.out _ hb2 0 _ rfl; have z1 := C.out _ hb2 1 _ rfl; have z2 := C.out _ hb2 2 _ rfl)
    | (go_at_call 22; have hr3 := H3.out; refine (dtRisingU [1, (first : Int), (most : Int), 1152921504606846976] _ _ _ (by simp) (row_fourg _ _ _ _ _ _ _ _ (by simp)) (by simp) (by simp)).mono ?_; rintro e w3 ⟨rfl, hx⟩; have hb3 : Below (w.alloc (.cells #[.int .u64 (first : Int), .int .u64 (most : Int), .int .u64 (step : Int)] 35)).heap.size (w.alloc (.cells #[.int .u64 (first : Int), .int .u64 (most : Int), .int .u64 (step : Int)] 35)) w3 := hb2.trans ((((Below.refl _ _).alloc (Nat.le_refl _) _).trans (hx.mono (by simp))).mono hb2.size); clear hx H3 z0 z1 z2; have z0 := C.out _ hb3 0 _ rfl; have z1 := C.out _ hb3 1 _ rfl; have z2 := C.out _ hb3 2 _ rfl))
  go_ret2
  exact ⟨rfl, ((Below.refl _ w).alloc (Nat.le_refl _) _).trans (hb3.mono (by simp))⟩
set_option maxRecDepth 100000 in
set_option maxHeartbeats 1000000 in
theorem dtNewNo4 (me n : Int) (first most step now : Nat) (c1 : (1 ≤ n ∧ n ≤ 16)) (c2 : (0 ≤ me ∧ me ≤ n - 1)) (c3 : (1 ≤ first ∧ first ≤ most ∧ most ≤ Dt.maxTime)) (c4 : ¬ (step ≤ Dt.maxTime)) (w : World) : Calls Try.prog 14 #[.int .i64 me, .int .i64 n, .agg #[.int .u64 (first : Int), .int .u64 (most : Int), .int .u64 (step : Int)], .int .u64 (now : Int)] w fun e w' =>
    e = .returned (.tuple #[.pointer none, .int .i64 70]) ∧ Below w.heap.size w w' := by
  have hw : IntKind.i64.wrap (n - 1) = n - 1 := IntWalk.i64_in _ (by omega)
  have H1 := Lib.hid (show rises [1, n, 16] = true from by
    rw [rises_three]; (try simp only [← Bool.decide_and]); exact decide_eq_true (by omega))
  have H2 := Lib.hid (show rises [0, me, n - 1] = true from by
    rw [rises_three]; (try simp only [← Bool.decide_and]); exact decide_eq_true (by omega))
  have H3 := Lib.hid (show rises [1, (first : Int), (most : Int), 1152921504606846976] = true from by
    rw [rises_four]; unfold Dt.maxTime at *; (try simp only [← Bool.decide_and]); exact decide_eq_true (by omega))
  have H4 := Lib.hid (show rises [(step : Int), 1152921504606846976] = false from by
    rw [rises_two]; unfold Dt.maxTime at *; (try simp only [← Bool.decide_and]); exact decide_eq_false (by omega))
  have C := Lib.hid (fun (W : World) (hb : Below (w.alloc (.cells #[.int .u64 (first : Int), .int .u64 (most : Int), .int .u64 (step : Int)] 35)).heap.size (w.alloc (.cells #[.int .u64 (first : Int), .int .u64 (most : Int), .int .u64 (step : Int)] 35)) W) (j : Nat) (v : Value) (hj : (#[.int .u64 (first : Int), .int .u64 (most : Int), .int .u64 (step : Int)] : Array Value)[j]? = some v) => show W.cell? ⟨w.heap.size, j, none⟩ = some v from by
    refine (hb.cell (p := ⟨w.heap.size, j, none⟩) (by simp)).trans ?_
    simp only [World.cell?, World.alloc_heap_new w]
    simpa using hj)
  clear c1 c2 c3 c4
  go_enter Try.func14, Try.ntmps14
  go_wp2_with (first
    | (go_at_call 19; have hr1 := H1.out; refine (dtRisingI [1, n, 16] _ _ _ (by simp) (row_threeg _ _ _ _ _ _ _ (by simp)) (by simp) (by simp)).mono ?_; rintro e w1 ⟨rfl, hx⟩; have hb1 : Below (w.alloc (.cells #[.int .u64 (first : Int), .int .u64 (most : Int), .int .u64 (step : Int)] 35)).heap.size (w.alloc (.cells #[.int .u64 (first : Int), .int .u64 (most : Int), .int .u64 (step : Int)] 35)) w1 := ((Below.refl _ _).alloc (Nat.le_refl _) _).trans (hx.mono (by simp)); clear hx H1; have z0 := C.out _ hb1 0 _ rfl; have z1 := C.out _ hb1 1 _ rfl; have z2 := C.out _ hb1 2 _ rfl)
    | (go_at_call 19; have hr2 := H2.out; refine (dtRisingI [0, me, n - 1] _ _ _ (by simp) (row_threeg _ _ _ _ _ _ _ (by simp)) (by simp) (by simp)).mono ?_; rintro e w2 ⟨rfl, hx⟩; have hb2 : Below (w.alloc (.cells #[.int .u64 (first : Int), .int .u64 (most : Int), .int .u64 (step : Int)] 35)).heap.size (w.alloc (.cells #[.int .u64 (first : Int), .int .u64 (most : Int), .int .u64 (step : Int)] 35)) w2 := hb1.trans ((((Below.refl _ _).alloc (Nat.le_refl _) _).trans (hx.mono (by simp))).mono hb1.size); clear hx H2 z0 z1 z2; have z0 := C.out _ hb2 0 _ rfl; have z1 := C.out _ hb2 1 _ rfl; have z2 := C.out _ hb2 2 _ rfl)
    | (go_at_call 22; have hr3 := H3.out; refine (dtRisingU [1, (first : Int), (most : Int), 1152921504606846976] _ _ _ (by simp) (row_fourg _ _ _ _ _ _ _ _ (by simp)) (by simp) (by simp)).mono ?_; rintro e w3 ⟨rfl, hx⟩; have hb3 : Below (w.alloc (.cells #[.int .u64 (first : Int), .int .u64 (most : Int), .int .u64 (step : Int)] 35)).heap.size (w.alloc (.cells #[.int .u64 (first : Int), .int .u64 (most : Int), .int .u64 (step : Int)] 35)) w3 := hb2.trans ((((Below.refl _ _).alloc (Nat.le_refl _) _).trans (hx.mono (by simp))).mono hb2.size); clear hx H3 z0 z1 z2; have z0 := C.out _ hb3 0 _ rfl; have z1 := C.out _ hb3 1 _ rfl; have z2 := C.out _ hb3 2 _ rfl)
    | (go_at_call 22; have hr4 := H4.out; refine (dtRisingU [(step : Int), 1152921504606846976] _ _ _ (by simp) (row_twog _ _ _ _ _ _ (by simp)) (by simp) (by simp)).mono ?_; rintro e w4 ⟨rfl, hx⟩; have hb4 : Below (w.alloc (.cells #[.int .u64 (first : Int), .int .u64 (most : Int), .int .u64 (step : Int)] 35)).heap.size (w.alloc (.cells #[.int .u64 (first : Int), .int .u64 (most : Int), .int .u64 (step : Int)] 35)) w4 := hb3.trans ((((Below.refl _ _).alloc (Nat.le_refl _) _).trans (hx.mono (by simp))).mono hb3.size); clear hx H4 z0 z1 z2; have z0 := C.out _ hb4 0 _ rfl; have z1 := C.out _ hb4 1 _ rfl; have z2 := C.out _ hb4 2 _ rfl))
  go_ret2
  exact ⟨rfl, ((Below.refl _ w).alloc (Nat.le_refl _) _).trans (hb4.mono (by simp))⟩
set_option maxRecDepth 100000 in
set_option maxHeartbeats 1000000 in
theorem dtNewNo5 (me n : Int) (first most step now : Nat) (c1 : (1 ≤ n ∧ n ≤ 16)) (c2 : (0 ≤ me ∧ me ≤ n - 1)) (c3 : (1 ≤ first ∧ first ≤ most ∧ most ≤ Dt.maxTime)) (c4 : (step ≤ Dt.maxTime)) (c5 : ¬ (now ≤ Dt.maxTime)) (w : World) : Calls Try.prog 14 #[.int .i64 me, .int .i64 n, .agg #[.int .u64 (first : Int), .int .u64 (most : Int), .int .u64 (step : Int)], .int .u64 (now : Int)] w fun e w' =>
    e = .returned (.tuple #[.pointer none, .int .i64 70]) ∧ Below w.heap.size w w' := by
  have hw : IntKind.i64.wrap (n - 1) = n - 1 := IntWalk.i64_in _ (by omega)
  have H1 := Lib.hid (show rises [1, n, 16] = true from by
    rw [rises_three]; (try simp only [← Bool.decide_and]); exact decide_eq_true (by omega))
  have H2 := Lib.hid (show rises [0, me, n - 1] = true from by
    rw [rises_three]; (try simp only [← Bool.decide_and]); exact decide_eq_true (by omega))
  have H3 := Lib.hid (show rises [1, (first : Int), (most : Int), 1152921504606846976] = true from by
    rw [rises_four]; unfold Dt.maxTime at *; (try simp only [← Bool.decide_and]); exact decide_eq_true (by omega))
  have H4 := Lib.hid (show rises [(step : Int), 1152921504606846976] = true from by
    rw [rises_two]; unfold Dt.maxTime at *; (try simp only [← Bool.decide_and]); exact decide_eq_true (by omega))
  have H5 := Lib.hid (show rises [(now : Int), 1152921504606846976] = false from by
    rw [rises_two]; unfold Dt.maxTime at *; (try simp only [← Bool.decide_and]); exact decide_eq_false (by omega))
  have C := Lib.hid (fun (W : World) (hb : Below (w.alloc (.cells #[.int .u64 (first : Int), .int .u64 (most : Int), .int .u64 (step : Int)] 35)).heap.size (w.alloc (.cells #[.int .u64 (first : Int), .int .u64 (most : Int), .int .u64 (step : Int)] 35)) W) (j : Nat) (v : Value) (hj : (#[.int .u64 (first : Int), .int .u64 (most : Int), .int .u64 (step : Int)] : Array Value)[j]? = some v) => show W.cell? ⟨w.heap.size, j, none⟩ = some v from by
    refine (hb.cell (p := ⟨w.heap.size, j, none⟩) (by simp)).trans ?_
    simp only [World.cell?, World.alloc_heap_new w]
    simpa using hj)
  clear c1 c2 c3 c4 c5
  go_enter Try.func14, Try.ntmps14
  go_wp2_with (first
    | (go_at_call 19; have hr1 := H1.out; refine (dtRisingI [1, n, 16] _ _ _ (by simp) (row_threeg _ _ _ _ _ _ _ (by simp)) (by simp) (by simp)).mono ?_; rintro e w1 ⟨rfl, hx⟩; have hb1 : Below (w.alloc (.cells #[.int .u64 (first : Int), .int .u64 (most : Int), .int .u64 (step : Int)] 35)).heap.size (w.alloc (.cells #[.int .u64 (first : Int), .int .u64 (most : Int), .int .u64 (step : Int)] 35)) w1 := ((Below.refl _ _).alloc (Nat.le_refl _) _).trans (hx.mono (by simp)); clear hx H1; have z0 := C.out _ hb1 0 _ rfl; have z1 := C.out _ hb1 1 _ rfl; have z2 := C.out _ hb1 2 _ rfl)
    | (go_at_call 19; have hr2 := H2.out; refine (dtRisingI [0, me, n - 1] _ _ _ (by simp) (row_threeg _ _ _ _ _ _ _ (by simp)) (by simp) (by simp)).mono ?_; rintro e w2 ⟨rfl, hx⟩; have hb2 : Below (w.alloc (.cells #[.int .u64 (first : Int), .int .u64 (most : Int), .int .u64 (step : Int)] 35)).heap.size (w.alloc (.cells #[.int .u64 (first : Int), .int .u64 (most : Int), .int .u64 (step : Int)] 35)) w2 := hb1.trans ((((Below.refl _ _).alloc (Nat.le_refl _) _).trans (hx.mono (by simp))).mono hb1.size); clear hx H2 z0 z1 z2; have z0 := C.out _ hb2 0 _ rfl; have z1 := C.out _ hb2 1 _ rfl; have z2 := C.out _ hb2 2 _ rfl)
    | (go_at_call 22; have hr3 := H3.out; refine (dtRisingU [1, (first : Int), (most : Int), 1152921504606846976] _ _ _ (by simp) (row_fourg _ _ _ _ _ _ _ _ (by simp)) (by simp) (by simp)).mono ?_; rintro e w3 ⟨rfl, hx⟩; have hb3 : Below (w.alloc (.cells #[.int .u64 (first : Int), .int .u64 (most : Int), .int .u64 (step : Int)] 35)).heap.size (w.alloc (.cells #[.int .u64 (first : Int), .int .u64 (most : Int), .int .u64 (step : Int)] 35)) w3 := hb2.trans ((((Below.refl _ _).alloc (Nat.le_refl _) _).trans (hx.mono (by simp))).mono hb2.size); clear hx H3 z0 z1 z2; have z0 := C.out _ hb3 0 _ rfl; have z1 := C.out _ hb3 1 _ rfl; have z2 := C.out _ hb3 2 _ rfl)
    | (go_at_call 22; have hr4 := H4.out; refine (dtRisingU [(step : Int), 1152921504606846976] _ _ _ (by simp) (row_twog _ _ _ _ _ _ (by simp)) (by simp) (by simp)).mono ?_; rintro e w4 ⟨rfl, hx⟩; have hb4 : Below (w.alloc (.cells #[.int .u64 (first : Int), .int .u64 (most : Int), .int .u64 (step : Int)] 35)).heap.size (w.alloc (.cells #[.int .u64 (first : Int), .int .u64 (most : Int), .int .u64 (step : Int)] 35)) w4 := hb3.trans ((((Below.refl _ _).alloc (Nat.le_refl _) _).trans (hx.mono (by simp))).mono hb3.size); clear hx H4 z0 z1 z2; have z0 := C.out _ hb4 0 _ rfl; have z1 := C.out _ hb4 1 _ rfl; have z2 := C.out _ hb4 2 _ rfl)
    | (go_at_call 22; have hr5 := H5.out; refine (dtRisingU [(now : Int), 1152921504606846976] _ _ _ (by simp) (row_twog _ _ _ _ _ _ (by simp)) (by simp) (by simp)).mono ?_; rintro e w5 ⟨rfl, hx⟩; have hb5 : Below (w.alloc (.cells #[.int .u64 (first : Int), .int .u64 (most : Int), .int .u64 (step : Int)] 35)).heap.size (w.alloc (.cells #[.int .u64 (first : Int), .int .u64 (most : Int), .int .u64 (step : Int)] 35)) w5 := hb4.trans ((((Below.refl _ _).alloc (Nat.le_refl _) _).trans (hx.mono (by simp))).mono hb4.size); clear hx H5 z0 z1 z2; have z0 := C.out _ hb5 0 _ rfl; have z1 := C.out _ hb5 1 _ rfl; have z2 := C.out _ hb5 2 _ rfl))
  go_ret2
  exact ⟨rfl, ((Below.refl _ w).alloc (Nat.le_refl _) _).trans (hb5.mono (by simp))⟩
set_option maxRecDepth 100000 in
set_option maxHeartbeats 1000000 in
theorem dtNewYes (me n : Int) (first most step now : Nat) (c1 : (1 ≤ n ∧ n ≤ 16)) (c2 : (0 ≤ me ∧ me ≤ n - 1)) (c3 : (1 ≤ first ∧ first ≤ most ∧ most ≤ Dt.maxTime)) (c4 : (step ≤ Dt.maxTime)) (c5 : (now ≤ Dt.maxTime)) (w : World) : Calls Try.prog 14 #[.int .i64 me, .int .i64 n, .agg #[.int .u64 (first : Int), .int .u64 (most : Int), .int .u64 (step : Int)], .int .u64 (now : Int)] w fun e w' =>
    (∃ B M, e = .returned (.tuple #[.pointer (some ⟨B, 0, none⟩), .int .i64 0]) ∧ w.heap.size ≤ B ∧ w.heap.size ≤ M ∧ Dt.Is (Dt.new me.toNat n.toNat first most step now) B M w') ∧ Below w.heap.size w w' := by
  have hw : IntKind.i64.wrap (n - 1) = n - 1 := IntWalk.i64_in _ (by omega)
  have H1 := Lib.hid (show rises [1, n, 16] = true from by
    rw [rises_three]; (try simp only [← Bool.decide_and]); exact decide_eq_true (by omega))
  have H2 := Lib.hid (show rises [0, me, n - 1] = true from by
    rw [rises_three]; (try simp only [← Bool.decide_and]); exact decide_eq_true (by omega))
  have H3 := Lib.hid (show rises [1, (first : Int), (most : Int), 1152921504606846976] = true from by
    rw [rises_four]; unfold Dt.maxTime at *; (try simp only [← Bool.decide_and]); exact decide_eq_true (by omega))
  have H4 := Lib.hid (show rises [(step : Int), 1152921504606846976] = true from by
    rw [rises_two]; unfold Dt.maxTime at *; (try simp only [← Bool.decide_and]); exact decide_eq_true (by omega))
  have H5 := Lib.hid (show rises [(now : Int), 1152921504606846976] = true from by
    rw [rises_two]; unfold Dt.maxTime at *; (try simp only [← Bool.decide_and]); exact decide_eq_true (by omega))
  have C := Lib.hid (fun (W : World) (hb : Below (w.alloc (.cells #[.int .u64 (first : Int), .int .u64 (most : Int), .int .u64 (step : Int)] 35)).heap.size (w.alloc (.cells #[.int .u64 (first : Int), .int .u64 (most : Int), .int .u64 (step : Int)] 35)) W) (j : Nat) (v : Value) (hj : (#[.int .u64 (first : Int), .int .u64 (most : Int), .int .u64 (step : Int)] : Array Value)[j]? = some v) => show W.cell? ⟨w.heap.size, j, none⟩ = some v from by
    refine (hb.cell (p := ⟨w.heap.size, j, none⟩) (by simp)).trans ?_
    simp only [World.cell?, World.alloc_heap_new w]
    simpa using hj)
  have hmm := fun (W : World) => make_map n W
  have K1 := Lib.hid c1
  have K2 := Lib.hid c2
  have K3 := Lib.hid c3
  have K4 := Lib.hid c4
  have K5 := Lib.hid c5
  clear c1 c2 c3 c4 c5
  go_enter Try.func14, Try.ntmps14
  go_wp2_with (first
    | (go_at_call 19; have hr1 := H1.out; refine (dtRisingI [1, n, 16] _ _ _ (by simp) (row_threeg _ _ _ _ _ _ _ (by simp)) (by simp) (by simp)).mono ?_; rintro e w1 ⟨rfl, hx⟩; have hb1 : Below (w.alloc (.cells #[.int .u64 (first : Int), .int .u64 (most : Int), .int .u64 (step : Int)] 35)).heap.size (w.alloc (.cells #[.int .u64 (first : Int), .int .u64 (most : Int), .int .u64 (step : Int)] 35)) w1 := ((Below.refl _ _).alloc (Nat.le_refl _) _).trans (hx.mono (by simp)); clear hx H1; have z0 := C.out _ hb1 0 _ rfl; have z1 := C.out _ hb1 1 _ rfl; have z2 := C.out _ hb1 2 _ rfl)
    | (go_at_call 19; have hr2 := H2.out; refine (dtRisingI [0, me, n - 1] _ _ _ (by simp) (row_threeg _ _ _ _ _ _ _ (by simp)) (by simp) (by simp)).mono ?_; rintro e w2 ⟨rfl, hx⟩; have hb2 : Below (w.alloc (.cells #[.int .u64 (first : Int), .int .u64 (most : Int), .int .u64 (step : Int)] 35)).heap.size (w.alloc (.cells #[.int .u64 (first : Int), .int .u64 (most : Int), .int .u64 (step : Int)] 35)) w2 := hb1.trans ((((Below.refl _ _).alloc (Nat.le_refl _) _).trans (hx.mono (by simp))).mono hb1.size); clear hx H2 z0 z1 z2; have z0 := C.out _ hb2 0 _ rfl; have z1 := C.out _ hb2 1 _ rfl; have z2 := C.out _ hb2 2 _ rfl)
    | (go_at_call 22; have hr3 := H3.out; refine (dtRisingU [1, (first : Int), (most : Int), 1152921504606846976] _ _ _ (by simp) (row_fourg _ _ _ _ _ _ _ _ (by simp)) (by simp) (by simp)).mono ?_; rintro e w3 ⟨rfl, hx⟩; have hb3 : Below (w.alloc (.cells #[.int .u64 (first : Int), .int .u64 (most : Int), .int .u64 (step : Int)] 35)).heap.size (w.alloc (.cells #[.int .u64 (first : Int), .int .u64 (most : Int), .int .u64 (step : Int)] 35)) w3 := hb2.trans ((((Below.refl _ _).alloc (Nat.le_refl _) _).trans (hx.mono (by simp))).mono hb2.size); clear hx H3 z0 z1 z2; have z0 := C.out _ hb3 0 _ rfl; have z1 := C.out _ hb3 1 _ rfl; have z2 := C.out _ hb3 2 _ rfl)
    | (go_at_call 22; have hr4 := H4.out; refine (dtRisingU [(step : Int), 1152921504606846976] _ _ _ (by simp) (row_twog _ _ _ _ _ _ (by simp)) (by simp) (by simp)).mono ?_; rintro e w4 ⟨rfl, hx⟩; have hb4 : Below (w.alloc (.cells #[.int .u64 (first : Int), .int .u64 (most : Int), .int .u64 (step : Int)] 35)).heap.size (w.alloc (.cells #[.int .u64 (first : Int), .int .u64 (most : Int), .int .u64 (step : Int)] 35)) w4 := hb3.trans ((((Below.refl _ _).alloc (Nat.le_refl _) _).trans (hx.mono (by simp))).mono hb3.size); clear hx H4 z0 z1 z2; have z0 := C.out _ hb4 0 _ rfl; have z1 := C.out _ hb4 1 _ rfl; have z2 := C.out _ hb4 2 _ rfl)
    | (go_at_call 22; have hr5 := H5.out; refine (dtRisingU [(now : Int), 1152921504606846976] _ _ _ (by simp) (row_twog _ _ _ _ _ _ (by simp)) (by simp) (by simp)).mono ?_; rintro e w5 ⟨rfl, hx⟩; have hb5 : Below (w.alloc (.cells #[.int .u64 (first : Int), .int .u64 (most : Int), .int .u64 (step : Int)] 35)).heap.size (w.alloc (.cells #[.int .u64 (first : Int), .int .u64 (most : Int), .int .u64 (step : Int)] 35)) w5 := hb4.trans ((((Below.refl _ _).alloc (Nat.le_refl _) _).trans (hx.mono (by simp))).mono hb4.size); clear hx H5 z0 z1 z2; have z0 := C.out _ hb5 0 _ rfl; have z1 := C.out _ hb5 1 _ rfl; have z2 := C.out _ hb5 2 _ rfl))
  have v1 : w5.drew.cell? ⟨w.heap.size, 1, none⟩ = some (.int .u64 (most : Int)) := z1
  have v2 : w5.drew.cell? ⟨w.heap.size, 2, none⟩ = some (.int .u64 (step : Int)) := z2
  go_region_held3 (fun W => W.cell? ⟨w.heap.size, 1, none⟩ = some (.int .u64 (most : Int)) ∧ W.cell? ⟨w.heap.size, 2, none⟩ = some (.int .u64 (step : Int))) (first | exact ⟨v1, v2⟩ | go_keep) (fail)
  generalize hV : (w5.alloc (.map #[] 0)).alloc (.cells #[.int .i64 me, .int .u64 (step : Int), .int .u64 (most : Int), .int .u64 (now : Int), .map (some w5.heap.size)] 48) = V
  have hw5 := hb5.size
  have hbw : Below w.heap.size w w5 := ((Below.refl _ w).alloc (Nat.le_refl _) _).trans (hb5.mono (by simp))
  have hbV : Below w5.heap.size w5 V := by rw [← hV]; exact ((Below.refl _ w5).alloc (Nat.le_refl _) _).alloc (by simp) _
  have hrowV : V.drew.heap[w5.heap.size + 1]? = some (.cells #[.int .i64 me, .int .u64 (step : Int), .int .u64 (most : Int), .int .u64 (now : Int), .map (some w5.heap.size)] 48 (0, 0)) := by
    rw [← hV]
    have := World.alloc_heap_new (w5.alloc (.map #[] 0)) (.cells #[.int .i64 me, .int .u64 (step : Int), .int .u64 (most : Int), .int .u64 (now : Int), .map (some w5.heap.size)] 48)
    rwa [World.size_alloc] at this
  have hmapV : V.drew.heap[w5.heap.size]? = some (Dt.mapL (List.replicate 0 ⟨now, first, false⟩)) := by
    rw [← hV]
    exact (Below.heap_alloc _ _ _ (by simp)).trans (World.alloc_heap_new w5 _)
  have hb0V : V.drew.cell? ⟨w.heap.size, 0, none⟩ = some (.int .u64 (first : Int)) := (hbV.cell (p := ⟨w.heap.size, 0, none⟩) (show w.heap.size < w5.heap.size by simp at hw5; omega)).trans z0
  have hBV : Below w.heap.size w V.drew := (hbw.trans (hbV.mono hbw.size)).drew
  have hsw : w.heap.size < w5.heap.size := by simp at hw5; omega
  obtain ⟨m, hm⟩ : ∃ m, n.toNat = m := ⟨_, rfl⟩
  have hn : n = (m : Int) := by have := K1.out; omega
  have hm16 : m ≤ 16 := by have := K1.out; omega
  have K := Lib.hid (show (Dt.new me.toNat m first most step now).Ok from Dt.new_ok (by have := K1.out; have := K2.out; omega) (K3.out.2.1) hm16 K3.out.2.2 K4.out K5.out)
  have HME := Lib.hid (show me = (me.toNat : Int) from by have := K2.out; omega)
  subst hn
  clear hm hV hbV hw5 hbw z0 z1 z2 v1 v2 hb5 hb4 hb3 hb2 hb1 C K1 K2 K3 K4 K5
  generalize V.drew = V2 at *
  generalize w5.heap.size = M at *
  go_wp2
  go_loopw [51] (fun i wr => ∃ k : Nat, k ≤ m ∧ i = .int .i64 (k : Int) ∧ wr.heap[M + 1]? = some (.cells #[.int .i64 me, .int .u64 (step : Int), .int .u64 (most : Int), .int .u64 (now : Int), .map (some M)] 48 (0, 0)) ∧ wr.heap[M]? = some (Dt.mapL (List.replicate k ⟨now, first, false⟩)) ∧ wr.cell? ⟨w.heap.size, 0, none⟩ = some (.int .u64 (first : Int)) ∧ Below w.heap.size w wr) (fun i _ => m - (intOf i).toNat)
  case atStart => exact ⟨0, Nat.zero_le _, rfl, hrowV, hmapV, hb0V, hBV⟩
  case round =>
    obtain ⟨k, hk, rfl, hrk, hmk, hbk, hBk⟩ := hrel
    clear hrowV hmapV hb0V hBV
    by_cases hlt : k < m
    · have hki : (k : Int) < (m : Int) := by omega
      have x4 : wr.drew.cell? ⟨M + 1, 4, none⟩ = some (.map (some M)) := by
        have : wr.drew.heap[M + 1]? = _ := hrk
        simp [World.cell?, this]
      have x0 : wr.drew.cell? ⟨w.heap.size, 0, none⟩ = some (.int .u64 (first : Int)) := hbk
      have hp := Dt.push (w := wr.drew) hmk ⟨now, first, false⟩
      rw [List.length_replicate, ← List.replicate_succ'] at hp
      have hMs : M < wr.heap.size := (Array.getElem?_eq_some_iff.1 hmk).1
      have HP := Lib.hid (show ((wr.drew.putObj M (Dt.mapL (List.replicate (k + 1) ⟨now, first, false⟩))).heap[M + 1]? = some (.cells #[.int .i64 me, .int .u64 (step : Int), .int .u64 (most : Int), .int .u64 (now : Int), .map (some M)] 48 (0, 0)) ∧ (wr.drew.putObj M (Dt.mapL (List.replicate (k + 1) ⟨now, first, false⟩))).heap[M]? = some (Dt.mapL (List.replicate (k + 1) ⟨now, first, false⟩)) ∧ (wr.drew.putObj M (Dt.mapL (List.replicate (k + 1) ⟨now, first, false⟩))).cell? ⟨w.heap.size, 0, none⟩ = some (.int .u64 (first : Int)) ∧ Below w.heap.size w (wr.drew.putObj M (Dt.mapL (List.replicate (k + 1) ⟨now, first, false⟩)))) from
        ⟨(World.putObj_heap_other (by omega)).trans hrk, World.putObj_heap_same hMs, (World.cell?_of_block (w := wr) (a := ⟨w.heap.size, 0, none⟩) (World.putObj_heap_other (show w.heap.size ≠ M by omega))).trans hbk, (((Save.of_below (T := fun k => k = M) hBk).drewN 1).put M _ (.inl rfl)).below (Nat.le_refl _) (fun j hj => by omega)⟩)
      clear hrk hmk hbk hBk
      dsimp only [Nd.val] at hp
      generalize hO : Dt.mapL (List.replicate (k + 1) ⟨now, first, false⟩) = O at *
      have HO := Lib.hid hO
      clear hO
      go_wp2
      go_still_tail 9, (by kernel_rfl)
      change wpList _ _ _ _ _ wr.drew
      go_wp2
      go_roundw
      case rel =>
        refine ⟨k + 1, by omega, by go_num, ?_⟩
        rw [HO.out]
        exact HP.out
      case measure => simp [intOf]; omega
    · obtain rfl : k = m := by omega
      have HE := Lib.hid (show Dt.Is (Dt.new me.toNat k first most step now) (M + 1) M wr from ⟨hrk.trans (by rw [HME.out]; rfl), hmk, by omega, K.out⟩)
      have HBB := Lib.hid hBk
      clear hrk hmk hbk hBk
      go_wp2
      go_ret2
      exact ⟨⟨_, _, rfl, by omega, by omega, HE.out⟩, HBB.out⟩
/-- New. -/
theorem dtNew (me n : Int) (first most step now : Nat) (w : World) : Calls Try.prog 14 #[.int .i64 me, .int .i64 n, .agg #[.int .u64 (first : Int), .int .u64 (most : Int), .int .u64 (step : Int)], .int .u64 (now : Int)] w fun e w' =>
    ((Dt.right me n first most step now ∧ ∃ B M, e = .returned (.tuple #[.pointer (some ⟨B, 0, none⟩), .int .i64 0]) ∧ w.heap.size ≤ B ∧ w.heap.size ≤ M ∧ Dt.Is (Dt.new me.toNat n.toNat first most step now) B M w') ∨
      (¬ Dt.right me n first most step now ∧ e = .returned (.tuple #[.pointer none, .int .i64 70]))) ∧ Below w.heap.size w w' := by
  by_cases c1 : 1 ≤ n ∧ n ≤ 16
  · by_cases c2 : 0 ≤ me ∧ me ≤ n - 1
    · by_cases c3 : 1 ≤ first ∧ first ≤ most ∧ most ≤ Dt.maxTime
      · by_cases c4 : step ≤ Dt.maxTime
        · by_cases c5 : now ≤ Dt.maxTime
          · exact (dtNewYes me n first most step now c1 c2 c3 c4 c5 w).mono fun e w' ⟨h, hb⟩ => ⟨.inl ⟨by unfold Dt.right; omega, h⟩, hb⟩
          · exact (dtNewNo5 me n first most step now c1 c2 c3 c4 c5 w).mono fun e w' ⟨h, hb⟩ => ⟨.inr ⟨by unfold Dt.right; omega, h⟩, hb⟩
        · exact (dtNewNo4 me n first most step now c1 c2 c3 c4 w).mono fun e w' ⟨h, hb⟩ => ⟨.inr ⟨by unfold Dt.right; omega, h⟩, hb⟩
      · exact (dtNewNo3 me n first most step now c1 c2 c3 w).mono fun e w' ⟨h, hb⟩ => ⟨.inr ⟨by unfold Dt.right; omega, h⟩, hb⟩
    · exact (dtNewNo2 me n first most step now c1 c2 w).mono fun e w' ⟨h, hb⟩ => ⟨.inr ⟨by unfold Dt.right; omega, h⟩, hb⟩
  · exact (dtNewNo1 me n first most step now c1 w).mono fun e w' ⟨h, hb⟩ => ⟨.inr ⟨by unfold Dt.right; omega, h⟩, hb⟩
end Go.Proofs.Ytdpnmmeecnconaa
