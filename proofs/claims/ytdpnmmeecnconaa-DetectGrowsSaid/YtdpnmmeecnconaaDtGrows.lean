/-
  The law DetectGrows: walked.
-/
import Derived.Test.YtdpnmmeecnconaaDtMem
namespace Go.Proofs.Ytdpnmmeecnconaa
open Go.RowKit Go.Shelf
attribute [local go_sem] Oper.semAt_some
set_option linter.unusedVariables false
set_option linter.unusedSimpArgs false

set_option maxRecDepth 100000 in
set_option maxHeartbeats 4000000 in
theorem lawGrows (me n : Int) (first most step : Nat) (v0 : Value) (l : List Ac) (w : World) (hT : DtActs w v0 l) (hll : l.length ≤ maxLen) : Calls Try.prog 5 #[.int .i64 me, .int .i64 n, .agg #[.int .u64 (first : Int), .int .u64 (most : Int), .int .u64 (step : Int)], v0] w fun e w' => e = .returned (.bool true) ∧ Below w.heap.size w w' := by
  obtain ⟨a0, c0, rfl⟩ := acts_form hT
  obtain ⟨len, hlen⟩ : ∃ len, l.length = len := ⟨_, rfl⟩
  have HT := Lib.hid hT
  have HL := Lib.hid hlen
  rw [hlen] at hll ⊢
  clear hT hlen
  unfold maxLen at hll
  have H1 := Lib.hid (fun W => lawShown7 W)
  have b0 : (w.alloc (.cells (beatC first most step) 35)).heap[w.heap.size]? = some (.cells (beatC first most step) 35 (0, 0)) := World.alloc_heap_new w _
  have HB0 := Lib.hid (fun (W : World) (hb : Below (w.alloc (.cells (beatC first most step) 35)).heap.size (w.alloc (.cells (beatC first most step) 35)) W) =>
    show W.cell? ⟨w.heap.size, 0, none⟩ = some (.int .u64 (first : Int)) ∧ W.cell? ⟨w.heap.size, 1, none⟩ = some (.int .u64 (most : Int)) ∧ W.cell? ⟨w.heap.size, 2, none⟩ = some (.int .u64 (step : Int)) from by
      have := (hb.block w.heap.size (by simp)).trans b0
      simp [World.cell?, this])
  clear b0
  by_cases hr : Dt.right me n first most step 0
  · have HN := Lib.hid (fun (W : World) (hb : Below (w.alloc (.cells (beatC first most step) 35)).heap.size (w.alloc (.cells (beatC first most step) 35)) W) => memNew me n first most step w W hr hb)
    have HMO := Lib.hid (show (Dt.new me.toNat n.toNat first most step 0).most = most from rfl)
    clear hr
    generalize Dt.new me.toNat n.toNat first most step 0 = D0 at *
    go_enter Try.func5, Try.ntmps5
    go_wp2_with (first
      | (go_at_call 8; refine (H1.out _).mono ?_; rintro e w1 ⟨rfl, hb1⟩; obtain ⟨p0, p1, p2⟩ := HB0.out w1 hb1)
      | (go_at_call 14; refine (HN.out _ hb1).mono ?_; rintro e w2 ⟨B, M, rfl, hM⟩))
    clear hb1 p0 p1 p2
    go_loopw [12, 13] (fun now i wr => ∃ (k t : Nat) (D : Dt), k ≤ len ∧ k ≤ 100 ∧ i = .int .i64 (k : Int) ∧ now = .int .u64 (t : Int) ∧ t ≤ 1000 * k ∧ D.most = most ∧ Mem D B M first most step w wr) (fun _ i _ => 100 - (intOf i).toNat)
    case atStart => exact ⟨0, 0, D0, Nat.zero_le _, Nat.zero_le _, rfl, rfl, Nat.le_refl _, HMO.out, hM⟩
    case round =>
      obtain ⟨k, t, D, hk, hk100, rfl, rfl, htk, hmo, hMk⟩ := hrel
      by_cases hlt : k < len
      · by_cases h100 : k < 100
        · have hkl : k < l.length := by rw [HL.out]; exact hlt
          obtain ⟨ad, c', h0, hx⟩ := acts_at HT.out k hkl
          simp only [Value.slice.injEq] at h0
          obtain ⟨rfl, -, -⟩ := h0
          have hki : (k : Int) < (len : Int) := by omega
          have hki100 : (k : Int) < 100 := by omega
          generalize l[k] = x at *
          obtain ⟨xh, xn, xt, xa⟩ := x
          dsimp only at hx
          have HX := Lib.hid hx
          clear hx
          have hok := hMk.is.ok
          have ht2 : t + xt % 1000 ≤ 1000 * (k + 1) := by omega
          have HT2 := Lib.hid ht2
          have hwr : IntKind.u64.wrap ((t : Int) + (xt : Int) % 1000) = ((t + xt % 1000 : Nat) : Int) := by rw [IntWalk.u64_in _ (by omega)]; omega
          have hMM := Lib.hid hMk
          have HT1 := Lib.hid (memTimeout hMk xn)
          generalize t + xt % 1000 = t' at *
          obtain ⟨q0, q1, q2⟩ := HX.out wr hMM.out.bel
          cases xh with
          | true =>
            have hgr := Dt.hearS_grows hok xn t' xn
            have hmo2 : (D.hearS xn t').most = most := ((D.hearS_keeps xn t').2.1).trans hmo
            have hle := Dt.outOf_most (Dt.hearS_ok hok xn t') xn
            rw [hmo2] at hle
            have HMO2 := Lib.hid hmo2
            have g1 : decide ((((D.hearS xn t').outOf xn : Nat) : Int) < ((D.outOf xn : Nat) : Int)) = false := decide_eq_false (by omega)
            have g2 : ¬ (((D.hearS xn t').outOf xn : Nat) : Int) < ((D.outOf xn : Nat) : Int) := by omega
            have g3 : decide ((most : Int) < (((D.hearS xn t').outOf xn : Nat) : Int)) = false := decide_eq_false (by omega)
            have g4 : ¬ (most : Int) < (((D.hearS xn t').outOf xn : Nat) : Int) := by omega
            have HTO := Lib.hid (fun (W : World) (h : Mem (D.hearS xn t') B M first most step w W) => memTimeout h xn)
            clear hgr hmo2 hle hok hmo
            generalize hD2 : D.hearS xn t' = D2 at *
            generalize D.outOf xn = o1 at *
            generalize D2.outOf xn = o2 at *
            go_wp2_with (first
              | (go_at_call 13; have h := HT1; clear HT1; refine h.out.mono ?_; rintro e w3 ⟨rfl, rfl⟩)
              | (go_at_call 10; refine (memHear hMk xn t').mono ?_; rintro e w4 ⟨rfl, hM4⟩; clear hMk; rw [hD2] at hM4; obtain ⟨_, c1, _⟩ := hM4.cells; obtain ⟨r0, r1, r2⟩ := HX.out w4 hM4.bel)
              | (go_at_call 13; refine (HTO.out _ hM4).mono ?_; rintro e w5 ⟨rfl, rfl⟩))
            go_roundw
            case rel => exact ⟨k + 1, t', D2, by omega, by omega, by go_num, rfl, HT2.out, HMO2.out, hM4⟩
            case measure => simp [intOf]; omega
          | false =>
            have hgr := Nat.le_of_eq (D.tickS_same t' xn).symm
            have hmo2 : (D.tickS t').most = most := ((D.tickS_keeps t').2.1).trans hmo
            have hle := Dt.outOf_most (Dt.tickS_ok hok t') xn
            rw [hmo2] at hle
            have HMO2 := Lib.hid hmo2
            have g1 : decide ((((D.tickS t').outOf xn : Nat) : Int) < ((D.outOf xn : Nat) : Int)) = false := decide_eq_false (by omega)
            have g2 : ¬ (((D.tickS t').outOf xn : Nat) : Int) < ((D.outOf xn : Nat) : Int) := by omega
            have g3 : decide ((most : Int) < (((D.tickS t').outOf xn : Nat) : Int)) = false := decide_eq_false (by omega)
            have g4 : ¬ (most : Int) < (((D.tickS t').outOf xn : Nat) : Int) := by omega
            have HTO := Lib.hid (fun (W : World) (h : Mem (D.tickS t') B M first most step w W) => memTimeout h xn)
            clear hgr hmo2 hle hok hmo
            generalize hD2 : D.tickS t' = D2 at *
            generalize D.outOf xn = o1 at *
            generalize D2.outOf xn = o2 at *
            go_wp2_with (first
              | (go_at_call 13; have h := HT1; clear HT1; refine h.out.mono ?_; rintro e w3 ⟨rfl, rfl⟩)
              | (go_at_call 9; refine (memTick hMk t').mono ?_; rintro e w4 ⟨⟨u4, rfl, _⟩, hM4⟩; clear hMk; rw [hD2] at hM4; obtain ⟨_, c1, _⟩ := hM4.cells; obtain ⟨r0, r1, r2⟩ := HX.out w4 hM4.bel)
              | (go_at_call 13; refine (HTO.out _ hM4).mono ?_; rintro e w5 ⟨rfl, rfl⟩))
            go_roundw
            case rel => exact ⟨k + 1, t', D2, by omega, by omega, by go_num, rfl, HT2.out, HMO2.out, hM4⟩
            case measure => simp [intOf]; omega
        · obtain rfl : k = 100 := by omega
          have HB := Lib.hid hMk.bel
          have h100i : ¬ ((100 : Nat) : Int) < 100 := by omega
          clear hMk hM
          go_wp2
          go_ret
          exact ⟨rfl, HB.out⟩
      · obtain rfl : k = len := by omega
        have HB := Lib.hid hMk.bel
        clear hMk hM
        go_wp2
        go_ret
        exact ⟨rfl, HB.out⟩
  · have HN := Lib.hid (fun W => memNewNo me n first most step W hr)
    clear hr
    go_enter Try.func5, Try.ntmps5
    go_wp2_with (first
      | (go_at_call 8; refine (H1.out _).mono ?_; rintro e w1 ⟨rfl, hb1⟩; obtain ⟨p0, p1, p2⟩ := HB0.out w1 hb1)
      | (go_at_call 14; refine (HN.out _).mono ?_; rintro e w2 ⟨rfl, hb2⟩))
    go_ret
    exact ⟨rfl, ((Below.refl _ w).alloc (Nat.le_refl _) _).trans ((hb1.trans (hb2.mono hb1.size)).mono (by simp))⟩
end Go.Proofs.Ytdpnmmeecnconaa
