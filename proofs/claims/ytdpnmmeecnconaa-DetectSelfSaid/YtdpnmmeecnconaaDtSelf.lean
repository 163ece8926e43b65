/-
  The law DetectSelf: walked.
-/
import Derived.Test.YtdpnmmeecnconaaDtMem
namespace Go.Proofs.Ytdpnmmeecnconaa
open Go.RowKit Go.Shelf
attribute [local go_sem] Oper.semAt_some
set_option linter.unusedVariables false
set_option linter.unusedSimpArgs false

theorem suspects_two {D : Dt} (h : D.Ok) (j : Nat) (hj : j < D.suspects.length) : D.suspects[j] ≠ D.me ∧ D.suspects[j] ≠ D.leader ∧ (j < D.leader → D.suspects[j] = j) := by
  obtain ⟨h1, h2⟩ := D.not_self h _ (List.getElem_mem hj)
  refine ⟨h1, h2, fun hl => ?_⟩
  have := D.suspects_at h j hl
  rw [List.getElem?_eq_getElem hj] at this
  simpa using this
theorem memLeader2 {D : Dt} {B M first most step : Nat} {w W : World} (h : Mem D B M first most step w W) : Calls Try.prog 11 #[.pointer (some ⟨B, 0, none⟩)] W fun e w' => e = .returned (.int .i64 (D.leader : Int)) ∧ Mem D B M first most step w w' ∧ Below W.heap.size W w' :=
  (dtLeader D B M W h.is).mono fun e w' ⟨h1, h2⟩ => ⟨h1, h.below h2, h2⟩
set_option maxRecDepth 100000 in
set_option maxHeartbeats 4000000 in
theorem lawSelf (me n : Int) (first most step : Nat) (v0 : Value) (l : List Ac) (w : World) (hT : DtActs w v0 l) (hll : l.length ≤ maxLen) : Calls Try.prog 4 #[.int .i64 me, .int .i64 n, .agg #[.int .u64 (first : Int), .int .u64 (most : Int), .int .u64 (step : Int)], v0] w fun e w' => e = .returned (.bool true) ∧ Below w.heap.size w w' := by
  obtain ⟨a0, c0, rfl⟩ := acts_form hT
  obtain ⟨len, hlen⟩ : ∃ len, l.length = len := ⟨_, rfl⟩
  have HT := Lib.hid hT
  have HL := Lib.hid hlen
  rw [hlen] at hll ⊢
  clear hT hlen
  unfold maxLen at hll
  have H1 := Lib.hid (fun W => lawShown7 W)
  have b0 : (w.alloc (.cells (beatC first most step) 35)).heap[w.heap.size]? = some (.cells (beatC first most step) 35 (0, 0)) := World.alloc_heap_new w _
  have HB0 := Lib.hid (fun (W : World) (hb : Below (w.alloc (.cells (beatC first most step) 35)).heap.size (w.alloc (.cells (beatC first most step) 35)) W) =>
    show W.cell? ⟨w.heap.size, 0, none⟩ = some (.int .u64 (first : Int)) ∧ W.cell? ⟨w.heap.size, 1, none⟩ = some (.int .u64 (most : Int)) ∧ W.cell? ⟨w.heap.size, 2, none⟩ = some (.int .u64 (step : Int)) from by
      have := (hb.block w.heap.size (by simp)).trans b0
      simp [World.cell?, this])
  clear b0
  by_cases hr : Dt.right me n first most step 0
  · have HN := Lib.hid (fun (W : World) (hb : Below (w.alloc (.cells (beatC first most step) 35)).heap.size (w.alloc (.cells (beatC first most step) 35)) W) => memNew me n first most step w W hr hb)
    have HMO := Lib.hid (show (((Dt.new me.toNat n.toNat first most step 0).me : Nat) : Int) = me from by show ((me.toNat : Nat) : Int) = me; unfold Dt.right at hr; omega)
    clear hr
    generalize Dt.new me.toNat n.toNat first most step 0 = D0 at *
    go_enter Try.func4, Try.ntmps4
    go_wp2_with (first
      | (go_at_call 8; refine (H1.out _).mono ?_; rintro e w1 ⟨rfl, hb1⟩; obtain ⟨p0, p1, p2⟩ := HB0.out w1 hb1)
      | (go_at_call 14; refine (HN.out _ hb1).mono ?_; rintro e w2 ⟨B, M, rfl, hM⟩))
    clear hb1 p0 p1 p2
    go_loopw [12, 13] (fun now i wr => ∃ (k t : Nat) (D : Dt), k ≤ len ∧ k ≤ 100 ∧ i = .int .i64 (k : Int) ∧ now = .int .u64 (t : Int) ∧ t ≤ 1000 * k ∧ ((D.me : Nat) : Int) = me ∧ Mem D B M first most step w wr) (fun _ i _ => 100 - (intOf i).toNat)
    case atStart => exact ⟨0, 0, D0, Nat.zero_le _, Nat.zero_le _, rfl, rfl, Nat.le_refl _, HMO.out, hM⟩
    case round =>
      obtain ⟨k, t, D, hk, hk100, rfl, rfl, htk, hmo, hMk⟩ := hrel
      by_cases hlt : k < len
      · by_cases h100 : k < 100
        · have hkl : k < l.length := by rw [HL.out]; exact hlt
          obtain ⟨ad, c', h0, hx⟩ := acts_at HT.out k hkl
          simp only [Value.slice.injEq] at h0
          obtain ⟨rfl, -, -⟩ := h0
          have hki : (k : Int) < (len : Int) := by omega
          have hki100 : (k : Int) < 100 := by omega
          generalize l[k] = x at *
          obtain ⟨xh, xn, xt, xa⟩ := x
          have HX := Lib.hid hx
          clear hx
          have hok := hMk.is.ok
          have ht2 : t + xt % 1000 ≤ 1000 * (k + 1) := by omega
          have HT2 := Lib.hid ht2
          have hwr : IntKind.u64.wrap ((t : Int) + (xt : Int) % 1000) = ((t + xt % 1000 : Nat) : Int) := by rw [IntWalk.u64_in _ (by omega)]; omega
          have hMM := Lib.hid hMk
          generalize t + xt % 1000 = t' at *
          obtain ⟨q0, q1, q2⟩ := HX.out wr hMM.out.bel
          cases xh with
          | true =>
            have hok2 := Dt.hearS_ok hok xn t'
            have hmo2 : (((D.hearS xn t').me : Nat) : Int) = me := by rw [(D.hearS_keeps xn t').1]; exact hmo
            clear hok hmo
            generalize hD2 : D.hearS xn t' = D2 at *
            have hle := Dt.leader_le hok2
            have hlong := Dt.suspects_long hok2
            have HTWO := Lib.hid (fun j hj => suspects_two (D := D2) hok2 j hj)
            have HMO2 := Lib.hid hmo2
            have HSU := Lib.hid (fun (W : World) (h : Mem D2 B M first most step w W) => memSuspects h)
            have HLE := Lib.hid (fun (W : World) (h : Mem D2 B M first most step w W) => memLeader2 h)
            have HOK2 := Lib.hid hok2
            obtain ⟨ld, hld⟩ : ∃ ld, D2.leader = ld := ⟨_, rfl⟩
            rw [hld] at hle hlong
            have g1 : decide ((ld : Int) < 0) = false := decide_eq_false (by omega)
            have g2 : ¬ (ld : Int) < 0 := by omega
            have g3 : decide (me < (ld : Int)) = false := decide_eq_false (by omega)
            have g4 : ¬ me < (ld : Int) := by omega
            have HLD := Lib.hid hld
            obtain ⟨sn, hsn⟩ : ∃ sn, D2.suspects.length = sn := ⟨_, rfl⟩
            have HSN := Lib.hid hsn
            rw [hsn] at hlong
            have g5 : decide ((sn : Int) < (ld : Int)) = false := decide_eq_false (by omega)
            have g6 : ¬ (sn : Int) < (ld : Int) := by omega
            have hs16 : sn ≤ 16 := by rw [← hsn]; exact Nat.le_trans (List.length_filter_le _ _) (by rw [List.length_range]; exact hok2.few)
            clear hok2 hmo2 hle hlong hld hsn
            go_wp2_with (first
              | (go_at_call 10; refine (memHear hMk xn t').mono ?_; rintro e w4 ⟨rfl, hM4⟩; clear hMk; rw [hD2] at hM4)
              | (go_at_call 12; refine (HSU.out _ hM4).mono ?_; rintro e w5 ⟨⟨u5, rfl, hN5⟩, hM5⟩; obtain ⟨a5, c5, hu5, _⟩ := hN5.form; rw [HSN.out] at hu5; subst hu5)
              | (go_at_call 11; refine (HLE.out _ hM5).mono ?_; rw [HLD.out]; rintro e w6 ⟨rfl, hM6, hb6⟩; have hN6 := hN5.below hb6))
            clear hD2 hM4 hM5 hN5
            have HM6 := Lib.hid hM6
            have HN6 := Lib.hid hN6
            clear hM6 hN6
            go_loopw [16] (fun j wq => ∃ jn : Nat, jn ≤ sn ∧ j = .int .i64 (jn : Int) ∧ wq = w6) (fun j _ => sn - (intOf j).toNat)
            case atStart => exact ⟨0, Nat.zero_le _, rfl, rfl⟩
            case round =>
              obtain ⟨jn, hjn, rfl, rfl⟩ := hrel
              by_cases hjl : jn < sn
              · have hjd : jn < D2.suspects.length := by rw [HSN.out]; exact hjl
                obtain ⟨r1, r2, r3⟩ := HTWO.out jn hjd
                rcases HN6.out with ⟨_, e0⟩ | ⟨g, c', e1, _, _, _, hx6⟩
                · rw [e0] at hjd; simp at hjd
                simp only [Value.slice.injEq] at e1
                obtain ⟨rfl, -, -⟩ := e1
                have q6 := hx6 jn hjd
                have hjs : (jn : Int) < (sn : Int) := by omega
                rw [HLD.out] at r2 r3
                have hme := HMO2.out
                generalize D2.suspects[jn] = sv at *
                clear hx6
                have k1 : ((sv : Int) == me) = false := by rw [beq_eq_false_iff_ne]; omega
                have k2 : ¬ (sv : Int) = me := by omega
                have k3 : ((sv : Int) == (ld : Int)) = false := by rw [beq_eq_false_iff_ne]; omega
                have k4 : ¬ (sv : Int) = (ld : Int) := by omega
                clear hme r1 r2
                by_cases hjk : jn < ld
                · have k5 : decide ((jn : Int) < (ld : Int)) = true := decide_eq_true (by omega)
                  have k6 : (jn : Int) < (ld : Int) := by omega
                  obtain rfl := r3 hjk
                  clear hjk r3
                  go_wp2
                  go_roundw
                  case rel => exact ⟨sv + 1, by omega, by go_num, by first | rfl | trivial⟩
                  case measure => simp [intOf]; omega
                · have k5 : decide ((jn : Int) < (ld : Int)) = false := decide_eq_false (by omega)
                  have k6 : ¬ (jn : Int) < (ld : Int) := by omega
                  clear hjk r3
                  go_wp2
                  go_roundw
                  case rel => exact ⟨jn + 1, by omega, by go_num, by first | rfl | trivial⟩
                  case measure => simp [intOf]; omega
              · obtain rfl : jn = sn := by omega
                go_wp2
                go_roundw
                case rel => exact ⟨k + 1, t', D2, by omega, by omega, by go_num, rfl, HT2.out, HMO2.out, HM6.out⟩
                case measure => simp [intOf]; omega
          | false =>
            have hok2 := Dt.tickS_ok hok t'
            have hmo2 : (((D.tickS t').me : Nat) : Int) = me := by rw [(D.tickS_keeps t').1]; exact hmo
            clear hok hmo
            generalize hD2 : D.tickS t' = D2 at *
            have hle := Dt.leader_le hok2
            have hlong := Dt.suspects_long hok2
            have HTWO := Lib.hid (fun j hj => suspects_two (D := D2) hok2 j hj)
            have HMO2 := Lib.hid hmo2
            have HSU := Lib.hid (fun (W : World) (h : Mem D2 B M first most step w W) => memSuspects h)
            have HLE := Lib.hid (fun (W : World) (h : Mem D2 B M first most step w W) => memLeader2 h)
            have HOK2 := Lib.hid hok2
            obtain ⟨ld, hld⟩ : ∃ ld, D2.leader = ld := ⟨_, rfl⟩
            rw [hld] at hle hlong
            have g1 : decide ((ld : Int) < 0) = false := decide_eq_false (by omega)
            have g2 : ¬ (ld : Int) < 0 := by omega
            have g3 : decide (me < (ld : Int)) = false := decide_eq_false (by omega)
            have g4 : ¬ me < (ld : Int) := by omega
            have HLD := Lib.hid hld
            obtain ⟨sn, hsn⟩ : ∃ sn, D2.suspects.length = sn := ⟨_, rfl⟩
            have HSN := Lib.hid hsn
            rw [hsn] at hlong
            have g5 : decide ((sn : Int) < (ld : Int)) = false := decide_eq_false (by omega)
            have g6 : ¬ (sn : Int) < (ld : Int) := by omega
            have hs16 : sn ≤ 16 := by rw [← hsn]; exact Nat.le_trans (List.length_filter_le _ _) (by rw [List.length_range]; exact hok2.few)
            clear hok2 hmo2 hle hlong hld hsn
            go_wp2_with (first
              | (go_at_call 9; refine (memTick hMk t').mono ?_; rintro e w4 ⟨⟨u4, rfl, _⟩, hM4⟩; clear hMk; rw [hD2] at hM4)
              | (go_at_call 12; refine (HSU.out _ hM4).mono ?_; rintro e w5 ⟨⟨u5, rfl, hN5⟩, hM5⟩; obtain ⟨a5, c5, hu5, _⟩ := hN5.form; rw [HSN.out] at hu5; subst hu5)
              | (go_at_call 11; refine (HLE.out _ hM5).mono ?_; rw [HLD.out]; rintro e w6 ⟨rfl, hM6, hb6⟩; have hN6 := hN5.below hb6))
            clear hD2 hM4 hM5 hN5
            have HM6 := Lib.hid hM6
            have HN6 := Lib.hid hN6
            clear hM6 hN6
            go_loopw [16] (fun j wq => ∃ jn : Nat, jn ≤ sn ∧ j = .int .i64 (jn : Int) ∧ wq = w6) (fun j _ => sn - (intOf j).toNat)
            case atStart => exact ⟨0, Nat.zero_le _, rfl, rfl⟩
            case round =>
              obtain ⟨jn, hjn, rfl, rfl⟩ := hrel
              by_cases hjl : jn < sn
              · have hjd : jn < D2.suspects.length := by rw [HSN.out]; exact hjl
                obtain ⟨r1, r2, r3⟩ := HTWO.out jn hjd
                rcases HN6.out with ⟨_, e0⟩ | ⟨g, c', e1, _, _, _, hx6⟩
                · rw [e0] at hjd; simp at hjd
                simp only [Value.slice.injEq] at e1
                obtain ⟨rfl, -, -⟩ := e1
                have q6 := hx6 jn hjd
                have hjs : (jn : Int) < (sn : Int) := by omega
                rw [HLD.out] at r2 r3
                have hme := HMO2.out
                generalize D2.suspects[jn] = sv at *
                clear hx6
                have k1 : ((sv : Int) == me) = false := by rw [beq_eq_false_iff_ne]; omega
                have k2 : ¬ (sv : Int) = me := by omega
                have k3 : ((sv : Int) == (ld : Int)) = false := by rw [beq_eq_false_iff_ne]; omega
                have k4 : ¬ (sv : Int) = (ld : Int) := by omega
                clear hme r1 r2
                by_cases hjk : jn < ld
                · have k5 : decide ((jn : Int) < (ld : Int)) = true := decide_eq_true (by omega)
                  have k6 : (jn : Int) < (ld : Int) := by omega
                  obtain rfl := r3 hjk
                  clear hjk r3
                  go_wp2
                  go_roundw
                  case rel => exact ⟨sv + 1, by omega, by go_num, by first | rfl | trivial⟩
                  case measure => simp [intOf]; omega
                · have k5 : decide ((jn : Int) < (ld : Int)) = false := decide_eq_false (by omega)
                  have k6 : ¬ (jn : Int) < (ld : Int) := by omega
                  clear hjk r3
                  go_wp2
                  go_roundw
                  case rel => exact ⟨jn + 1, by omega, by go_num, by first | rfl | trivial⟩
                  case measure => simp [intOf]; omega
              · obtain rfl : jn = sn := by omega
                go_wp2
                go_roundw
                case rel => exact ⟨k + 1, t', D2, by omega, by omega, by go_num, rfl, HT2.out, HMO2.out, HM6.out⟩
                case measure => simp [intOf]; omega
        · obtain rfl : k = 100 := by omega
          have HB := Lib.hid hMk.bel
          have h100i : ¬ ((100 : Nat) : Int) < 100 := by omega
          clear hMk hM
          go_wp2
          go_ret
          exact ⟨rfl, HB.out⟩
      · obtain rfl : k = len := by omega
        have HB := Lib.hid hMk.bel
        clear hMk hM
        go_wp2
        go_ret
        exact ⟨rfl, HB.out⟩
  · have HN := Lib.hid (fun W => memNewNo me n first most step W hr)
    clear hr
    go_enter Try.func4, Try.ntmps4
    go_wp2_with (first
      | (go_at_call 8; refine (H1.out _).mono ?_; rintro e w1 ⟨rfl, hb1⟩; obtain ⟨p0, p1, p2⟩ := HB0.out w1 hb1)
      | (go_at_call 14; refine (HN.out _).mono ?_; rintro e w2 ⟨rfl, hb2⟩))
    go_ret
    exact ⟨rfl, ((Below.refl _ w).alloc (Nat.le_refl _) _).trans ((hb1.trans (hb2.mono hb1.size)).mono (by simp))⟩
end Go.Proofs.Ytdpnmmeecnconaa
