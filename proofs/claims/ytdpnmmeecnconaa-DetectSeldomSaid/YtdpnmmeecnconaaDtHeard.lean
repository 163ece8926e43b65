/-
  The law DetectHeard: walked.
-/
import Derived.Test.YtdpnmmeecnconaaDtMem
import Derived.Test.YtdpnmmeecnconaaDtU64s
namespace Go.Proofs.Ytdpnmmeecnconaa
open Go.RowKit Go.Shelf
attribute [local go_sem] Oper.semAt_some
set_option linter.unusedVariables false
set_option linter.unusedSimpArgs false

namespace Dt
/-- Two nodes, of which the first is the detector's own. -/
structure Two (D : Dt) (t : Nat) : Prop where
  me : D.me = 0
  two : D.nodes.length = 2
  now : D.now = t
theorem Two.form {D : Dt} {t : Nat} (h : D.Two t) (hok : D.Ok) : ∃ x0 x1 : Nd, D.nodes = [x0, x1] ∧ x0.sus = false := by
  have h2 := h.two
  have hs := hok.self
  rw [h.me] at hs
  match hn : D.nodes, h2 with
  | [x0, x1], _ =>
    rw [hn] at hs
    exact ⟨x0, x1, rfl, hs x0 rfl⟩
theorem quiet {D : Dt} {t u : Nat} (h : D.Two t) (hok : D.Ok) (htu : t ≤ u) (hu : u ≤ maxTime) :
    D.hearE 1 u = 0 ∧ D.hearS 1 u = D.hear 1 u ∧ (D.hear 1 u).tickE u = 0 ∧ (D.hear 1 u).tickS u = (D.hear 1 u).tick u ∧ (D.hear 1 u).tickL u = [] ∧ ((D.hear 1 u).tick u).suspects = [] ∧ ((D.hear 1 u).tick u).Two u := by
  have ht : D.timely u := ⟨by rw [h.now]; exact htu, hu⟩
  have e1 : D.hearE 1 u = 0 := by unfold hearE; rw [if_pos (by rw [h.two]; decide), if_pos ht]
  have ht2 : (D.hear 1 u).timely u := ⟨Nat.le_refl _, hu⟩
  obtain ⟨x0, x1, hn, hx0⟩ := h.form hok
  have hn2 : (D.hear 1 u).nodes = [x0, D.heard u x1] := by simp [hear, hn]
  have hl0 : (D.hear 1 u).late u 0 x0 = false := by simp [late, hear, h.me]
  have hl1 : (D.hear 1 u).late u 1 (D.heard u x1) = false := by simp [late, heard]
  have hn3 : ((D.hear 1 u).tick u).nodes = [x0, D.heard u x1] := by
    simp only [tick, hn2]
    simp [List.mapIdx_cons, ticked, hl0, hl1]
  refine ⟨e1, by unfold hearS; rw [if_pos e1]; rfl, by unfold tickE; rw [if_pos ht2], by unfold tickS; rw [if_pos ht2], ?_, ?_, ⟨h.me, by rw [hn3]; rfl, rfl⟩⟩
  · unfold tickL
    rw [if_pos ht2]
    unfold fresh
    rw [hn2]
    simp [List.range_succ, List.filter, hl0, hl1]
  · unfold suspects
    rw [hn3]
    simp [List.range_succ, List.filter, hx0, heard]
end Dt
set_option maxRecDepth 100000 in
set_option maxHeartbeats 4000000 in
theorem lawHeard (first most step : Nat) (v0 : Value) (l : List Nat) (w : World) (hT : U64s w v0 l) (hll : l.length ≤ maxLen) : Calls Try.prog 7 #[.agg #[.int .u64 (first : Int), .int .u64 (most : Int), .int .u64 (step : Int)], v0] w fun e w' => e = .returned (.bool true) ∧ Below w.heap.size w w' := by
  obtain ⟨a0, c0, rfl⟩ := u64s_form hT
  obtain ⟨len, hlen⟩ : ∃ len, l.length = len := ⟨_, rfl⟩
  have HT := Lib.hid hT
  have HL := Lib.hid hlen
  rw [hlen] at hll ⊢
  clear hT hlen
  unfold maxLen at hll
  have H1 := Lib.hid (fun W => lawShown7 W)
  have b0 : (w.alloc (.cells (beatC first most step) 35)).heap[w.heap.size]? = some (.cells (beatC first most step) 35 (0, 0)) := World.alloc_heap_new w _
  have HB0 := Lib.hid (fun (W : World) (hb : Below (w.alloc (.cells (beatC first most step) 35)).heap.size (w.alloc (.cells (beatC first most step) 35)) W) =>
    show W.cell? ⟨w.heap.size, 0, none⟩ = some (.int .u64 (first : Int)) ∧ W.cell? ⟨w.heap.size, 1, none⟩ = some (.int .u64 (most : Int)) ∧ W.cell? ⟨w.heap.size, 2, none⟩ = some (.int .u64 (step : Int)) from by
      have := (hb.block w.heap.size (by simp)).trans b0
      simp [World.cell?, this])
  clear b0
  by_cases hr : Dt.right 0 2 first most step 0
  · have HN := Lib.hid (fun (W : World) (hb : Below (w.alloc (.cells (beatC first most step) 35)).heap.size (w.alloc (.cells (beatC first most step) 35)) W) => memNew 0 2 first most step w W hr hb)
    have HTW := Lib.hid (show (Dt.new (0 : Int).toNat (2 : Int).toNat first most step 0).Two 0 from ⟨rfl, rfl, rfl⟩)
    clear hr
    generalize Dt.new (0 : Int).toNat (2 : Int).toNat first most step 0 = D0 at *
    go_enter Try.func7, Try.ntmps7
    go_wp2_with (first
      | (go_at_call 8; refine (H1.out _).mono ?_; rintro e w1 ⟨rfl, hb1⟩; obtain ⟨p0, p1, p2⟩ := HB0.out w1 hb1)
      | (go_at_call 14; refine (HN.out _ hb1).mono ?_; rintro e w2 ⟨B, M, rfl, hM⟩))
    clear hb1 p0 p1 p2
    go_loopw [8, 9] (fun now i wr => ∃ (k t : Nat) (D : Dt), k ≤ len ∧ k ≤ 50 ∧ i = .int .i64 (k : Int) ∧ now = .int .u64 (t : Int) ∧ t ≤ 100000 * k ∧ D.Two t ∧ Mem D B M first most step w wr) (fun _ i _ => 50 - (intOf i).toNat)
    case atStart => exact ⟨0, 0, D0, Nat.zero_le _, Nat.zero_le _, rfl, rfl, Nat.le_refl _, HTW.out, hM⟩
    case round =>
      obtain ⟨k, t, D, hk, hk100, rfl, rfl, htk, htw, hMk⟩ := hrel
      by_cases hlt : k < len
      · by_cases h100 : k < 50
        · have hkl : k < l.length := by rw [HL.out]; exact hlt
          obtain ⟨ad, c', h0, hx⟩ := u64s_at HT.out k hkl
          simp only [Value.slice.injEq] at h0
          obtain ⟨rfl, -, -⟩ := h0
          have hki : (k : Int) < (len : Int) := by omega
          have hki100 : (k : Int) < 50 := by omega
          generalize l[k] = xt at *
          have q0 := hx wr hMk.bel
          clear hx
          have hok := hMk.is.ok
          have ht2 : t + xt % 100000 ≤ 100000 * (k + 1) := by omega
          have HT2 := Lib.hid ht2
          have hwr : IntKind.u64.wrap ((t : Int) + (xt : Int) % 100000) = ((t + xt % 100000 : Nat) : Int) := by rw [IntWalk.u64_in _ (by omega)]; omega
          obtain ⟨g1, g2, g3, g4, g5, g6, g7⟩ := Dt.quiet htw hok (show t ≤ t + xt % 100000 by omega) (by unfold Dt.maxTime; omega)
          generalize t + xt % 100000 = t' at *
          have h1 := memHear hMk 1 t'
          rw [g1, g2] at h1
          have HE1 := Lib.hid h1
          have HE2 := Lib.hid (fun (W : World) (h : Mem (D.hear 1 t') B M first most step w W) => show Calls Try.prog 9 #[.pointer (some ⟨B, 0, none⟩), .int .u64 (t' : Int)] W fun e w' => (∃ a c, e = .returned (.tuple #[.slice a 0 c, .int .i64 0])) ∧ Mem ((D.hear 1 t').tick t') B M first most step w w' from
            (memTick h t').mono fun e w' ⟨⟨u, r1, r2⟩, r3⟩ => by
              rw [g3] at r1; rw [g5] at r2; rw [g4] at r3
              obtain ⟨a, c, hu, _⟩ := r2.form
              exact ⟨⟨a, c, by rw [r1, hu]; rfl⟩, r3⟩)
          have HE3 := Lib.hid (fun (W : World) (h : Mem ((D.hear 1 t').tick t') B M first most step w W) => show Calls Try.prog 12 #[.pointer (some ⟨B, 0, none⟩)] W fun e w' => (∃ a c, e = .returned (.slice a 0 c)) ∧ Mem ((D.hear 1 t').tick t') B M first most step w w' from
            (memSuspects h).mono fun e w' ⟨⟨u, r1, r2⟩, r3⟩ => by
              rw [g6] at r2
              obtain ⟨a, c, hu, _⟩ := r2.form
              exact ⟨⟨a, c, by rw [r1, hu]; rfl⟩, r3⟩)
          have G7 := Lib.hid g7
          clear h1 g1 g2 g3 g4 g5 g6 g7 hok htw hM hMk
          generalize (D.hear 1 t').tick t' = D2 at *
          generalize D.hear 1 t' = D1 at *
          go_wp2_with (first
            | (go_at_call 10; refine HE1.out.mono ?_; rintro e w3 ⟨rfl, hM3⟩)
            | (go_at_call 9; refine (HE2.out _ hM3).mono ?_; rintro e w4 ⟨⟨a4, c4, rfl⟩, hM4⟩)
            | (go_at_call 12; refine (HE3.out _ hM4).mono ?_; rintro e w5 ⟨⟨a5, c5, rfl⟩, hM5⟩))
          go_roundw
          case rel => exact ⟨k + 1, t', D2, by omega, by omega, by go_num, rfl, HT2.out, G7.out, hM5⟩
          case measure => simp [intOf]; omega
        · obtain rfl : k = 50 := by omega
          have HB := Lib.hid hMk.bel
          clear hMk hM
          go_wp2
          go_ret
          exact ⟨rfl, HB.out⟩
      · obtain rfl : k = len := by omega
        have HB := Lib.hid hMk.bel
        clear hMk hM
        go_wp2
        go_ret
        exact ⟨rfl, HB.out⟩
  · have HN := Lib.hid (fun W => memNewNo 0 2 first most step W hr)
    clear hr
    go_enter Try.func7, Try.ntmps7
    go_wp2_with (first
      | (go_at_call 8; refine (H1.out _).mono ?_; rintro e w1 ⟨rfl, hb1⟩; obtain ⟨p0, p1, p2⟩ := HB0.out w1 hb1)
      | (go_at_call 14; refine (HN.out _).mono ?_; rintro e w2 ⟨rfl, hb2⟩))
    go_ret
    exact ⟨rfl, ((Below.refl _ w).alloc (Nat.le_refl _) _).trans ((hb1.trans (hb2.mono hb1.size)).mono (by simp))⟩
end Go.Proofs.Ytdpnmmeecnconaa
