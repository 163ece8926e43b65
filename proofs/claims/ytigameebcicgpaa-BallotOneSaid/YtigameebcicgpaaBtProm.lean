/-
  Package ballot: Promise; walked.
-/
import Derived.Test.YtigameebcicgpaaBtSmall
namespace Go.Proofs.Ytigameebcicgpaa
open Go.RowKit Go.Shelf
attribute [local go_sem] Oper.semAt_some
set_option linter.unusedVariables false
set_option linter.unusedSimpArgs false

set_option maxRecDepth 100000 in
set_option maxHeartbeats 1000000 in
theorem btPromOk (p c b : Nat) (s : ByteArray) (hr : Bt.Right ⟨p, c, s⟩) (h1 : 1 ≤ b) (h2 : ¬ b ≤ p) (w : World) : Calls Try.prog 12 #[(Vt.mk p c s).val, .int .u64 (b : Int)] w fun e w' => e = .returned (.tuple #[(Vt.mk b c s).val, .int .i64 0]) ∧ Below w.heap.size w w' := by
  have hs := hr.2.2
  dsimp only at hs
  have HRT := Lib.hid (fun W => btRight ⟨p, c, s⟩ (by dsimp only; omega) W)
  have HC := Lib.hid (fun W => Try.strings_Clone s W (by omega))
  rw [decide_eq_true hr] at HRT
  unfold Vt.val at HRT ⊢
  dsimp only at HRT ⊢
  have d1 : decide ((b : Int) < 1) = false := decide_eq_false (by omega)
  have d1' : ¬ (b : Int) < 1 := by omega
  have d2 : decide ((b : Int) ≤ (p : Int)) = false := decide_eq_false (by omega)
  have d2' : ¬ (b : Int) ≤ (p : Int) := by omega
  clear hr h1 h2 hs
  go_enter Try.func12, Try.ntmps12
  go_wp2_with (go_at_call 16; refine (HRT.out _).mono ?_; rintro e w1 ⟨rfl, hb1⟩; obtain ⟨t1, t2⟩ := two_boxes hb1; have x0 : w1.cell? ⟨w.heap.size, 0, none⟩ = some (.int .u64 (p : Int)) := (by simp [World.cell?, t1]); have x1 : w1.cell? ⟨w.heap.size, 1, none⟩ = some (.int .u64 (c : Int)) := (by simp [World.cell?, t1]); have x2 : w1.cell? ⟨w.heap.size, 2, none⟩ = some (.string s) := (by simp [World.cell?, t1]))
  have hlA : w.heap.size + 1 < w1.heap.size := (Array.getElem?_eq_some_iff.1 t2).1
  have hbw := two_below hb1
  have FS := Lib.hid (fun (W : World) (hb : Below w1.heap.size w1 W) => show W.cell? ⟨w.heap.size, 1, none⟩ = some (.int .u64 (c : Int)) ∧ W.cell? ⟨w.heap.size, 2, none⟩ = some (.string s) ∧ W.heap[w.heap.size + 1]? = some (.cells #[.int .u64 0, .int .u64 0, .string ⟨#[]⟩] 24 (0, 0)) from
    ⟨(hb.cell (p := ⟨w.heap.size, 1, none⟩) (by show w.heap.size < _; omega)).trans x1, (hb.cell (p := ⟨w.heap.size, 2, none⟩) (by show w.heap.size < _; omega)).trans x2, (hb.block _ hlA).trans t2⟩)
  have F0 := FS.out w1.drew (Below.refl _ w1).drew
  obtain ⟨y1, y2, t3⟩ := F0
  have yf0 := row_thawed t3 0
  have yf1 := row_thawed t3 1
  have yf2 := row_thawed t3 2
  have hS0 : w1.drew.cell? ⟨w.heap.size, 1, none⟩ = some (.int .u64 (c : Int)) ∧ w1.drew.cell? ⟨w.heap.size, 2, none⟩ = some (.string s) ∧ w1.drew.heap[w.heap.size + 1]? = some (.cells #[.int .u64 0, .int .u64 0, .string ⟨#[]⟩] 24 (0, 0)) := ⟨y1, y2, t3⟩
  have z0 : w1.drew.cell? ⟨w.heap.size + 1, 0, none⟩ = some (.int .u64 0) := by simp [World.cell?, t3]
  have z1 : w1.drew.cell? ⟨w.heap.size + 1, 1, none⟩ = some (.int .u64 0) := by simp [World.cell?, t3]
  have z2 : w1.drew.cell? ⟨w.heap.size + 1, 2, none⟩ = some (.string ⟨#[]⟩) := by simp [World.cell?, t3]
  go_region_held3 (fun W => W.cell? ⟨w.heap.size, 1, none⟩ = some (.int .u64 (c : Int)) ∧ W.cell? ⟨w.heap.size, 2, none⟩ = some (.string s)) (first | exact ⟨y1, y2⟩ | exact ⟨r1, r2⟩ | go_keep) (first | (go_at_call 25; refine (HC.out _).mono ?_; rintro e w2 ⟨rfl, hb2⟩; have hb12 : Below w1.heap.size w1 w2 := (Below.refl _ w1).drew.trans (hb2.mono (Nat.le_refl _)); obtain ⟨r1, r2, t4⟩ := FS.out _ hb12; have rf0 := row_thawed t4 0; have rf1 := row_thawed t4 1; have rf2 := row_thawed t4 2; have r0 : w2.cell? ⟨w.heap.size + 1, 0, none⟩ = some (.int .u64 0) := (by simp [World.cell?, t4]); have r3 : w2.cell? ⟨w.heap.size + 1, 1, none⟩ = some (.int .u64 0) := (by simp [World.cell?, t4]); have r4 : w2.cell? ⟨w.heap.size + 1, 2, none⟩ = some (.string ⟨#[]⟩) := (by simp [World.cell?, t4])))
  have r := row_setB (row_setB (row_setB t4 0 (.int .u64 (b : Int))) 1 (.int .u64 (c : Int))) 2 (.string s)
  have hbe : Below w.heap.size w w2 := hbw.trans (hb12.mono (by omega))
  rename_i hHeld
  clear hHeld hS0 y1 y2 t3 yf0 yf1 yf2 z0 z1 z2 r1 r2 r0 r3 r4 rf0 rf1 rf2 FS x0 x1 x2
  go_wp2
  exact bodyPost_ret (v := .tuple #[.agg #[.int .u64 (b : Int), .int .u64 (c : Int), .string s], .int .i64 0]) (by simp [results, Try.results12, go_sem, World.cell?, r]) rfl ⟨rfl, ((hbe.setCell (p := ⟨w.heap.size + 1, 0, none⟩) (by simp) _).setCell (p := ⟨w.heap.size + 1, 1, none⟩) (by simp) _).setCell (p := ⟨w.heap.size + 1, 2, none⟩) (by simp) _⟩
set_option maxRecDepth 100000 in
set_option maxHeartbeats 1000000 in
theorem btPromise (v : Vt) (b : Nat) (hs : v.val'.size ≤ 1000000) (w : World) : Calls Try.prog 12 #[v.val, .int .u64 (b : Int)] w fun e w' => e = .returned (.tuple #[(Bt.promV v b).val, .int .i64 (Bt.promE v b)]) ∧ Below w.heap.size w w' := by
  have HRT := Lib.hid (fun W => btRight v hs W)
  have HE := Lib.hid (show Bt.promE v b = if Bt.Right v ∧ 1 ≤ b then if b ≤ v.prom then 80 else 0 else 2 from rfl)
  have HV := Lib.hid (show Bt.promV v b = if Bt.promE v b = 0 then { v with prom := b } else Vt.zero from rfl)
  obtain ⟨p, c, s⟩ := v
  unfold Vt.val at HRT ⊢
  dsimp only at hs HRT ⊢
  by_cases hr : Bt.Right ⟨p, c, s⟩
  · rw [decide_eq_true hr] at HRT
    by_cases h1 : 1 ≤ b
    · have d1 : decide ((b : Int) < 1) = false := decide_eq_false (by omega)
      have d1' : ¬ (b : Int) < 1 := by omega
      by_cases h2 : b ≤ p
      · have d2 : decide ((b : Int) ≤ (p : Int)) = true := decide_eq_true (by omega)
        have d2' : (b : Int) ≤ (p : Int) := by omega
        have hE : Bt.promE ⟨p, c, s⟩ b = 80 := by rw [HE.out, if_pos ⟨hr, h1⟩, if_pos h2]
        have hV : Bt.promV ⟨p, c, s⟩ b = Vt.zero := by rw [HV.out, hE]; rfl
        rw [hE, hV]
        clear hr h1 h2 HE HV hE hV
        go_enter Try.func12, Try.ntmps12
        go_wp2_with (go_at_call 16; refine (HRT.out _).mono ?_; rintro e w1 ⟨rfl, hb1⟩; obtain ⟨t1, t2⟩ := two_boxes hb1; have x0 : w1.cell? ⟨w.heap.size, 0, none⟩ = some (.int .u64 (p : Int)) := (by simp [World.cell?, t1]); have x1 : w1.cell? ⟨w.heap.size, 1, none⟩ = some (.int .u64 (c : Int)) := (by simp [World.cell?, t1]); have x2 : w1.cell? ⟨w.heap.size, 2, none⟩ = some (.string s) := (by simp [World.cell?, t1]); have xf := fun j => row_thawed t1 j; have xf0 := xf 0; have yf0 := row_thawed t2 0; have yf1 := row_thawed t2 1; have yf2 := row_thawed t2 2; have y0 : w1.cell? ⟨w.heap.size + 1, 0, none⟩ = some (.int .u64 0) := (by simp [World.cell?, t2]); have y1 : w1.cell? ⟨w.heap.size + 1, 1, none⟩ = some (.int .u64 0) := (by simp [World.cell?, t2]); have y2 : w1.cell? ⟨w.heap.size + 1, 2, none⟩ = some (.string ⟨#[]⟩) := (by simp [World.cell?, t2]))
        have r := row_setB (row_setB (row_setB t2 0 (.int .u64 0)) 1 (.int .u64 0)) 2 (.string ⟨#[]⟩)
        exact bodyPost_ret (v := .tuple #[.agg #[.int .u64 0, .int .u64 0, .string ⟨#[]⟩], .int .i64 80]) (by simp [results, Try.results12, go_sem, World.cell?, r]) rfl ⟨rfl, (((two_below hb1).setCell (p := ⟨w.heap.size + 1, 0, none⟩) (by simp) _).setCell (p := ⟨w.heap.size + 1, 1, none⟩) (by simp) _).setCell (p := ⟨w.heap.size + 1, 2, none⟩) (by simp) _⟩
      · have d2 : decide ((b : Int) ≤ (p : Int)) = false := decide_eq_false (by omega)
        have d2' : ¬ (b : Int) ≤ (p : Int) := by omega
        have hE : Bt.promE ⟨p, c, s⟩ b = 0 := by rw [HE.out, if_pos ⟨hr, h1⟩, if_neg h2]
        have hV : Bt.promV ⟨p, c, s⟩ b = ⟨b, c, s⟩ := by rw [HV.out, hE]; rfl
        rw [hE, hV]
        exact btPromOk p c b s hr h1 h2 w
    · have d1 : decide ((b : Int) < 1) = true := decide_eq_true (by omega)
      have d1' : (b : Int) < 1 := by omega
      have hE : Bt.promE ⟨p, c, s⟩ b = 2 := by rw [HE.out, if_neg (fun h => h1 h.2)]
      have hV : Bt.promV ⟨p, c, s⟩ b = Vt.zero := by rw [HV.out, hE]; rfl
      rw [hE, hV]
      clear hr h1 HE HV hE hV
      go_enter Try.func12, Try.ntmps12
      go_wp2_with (go_at_call 16; refine (HRT.out _).mono ?_; rintro e w1 ⟨rfl, hb1⟩; obtain ⟨t1, t2⟩ := two_boxes hb1; have x0 : w1.cell? ⟨w.heap.size, 0, none⟩ = some (.int .u64 (p : Int)) := (by simp [World.cell?, t1]); have x1 : w1.cell? ⟨w.heap.size, 1, none⟩ = some (.int .u64 (c : Int)) := (by simp [World.cell?, t1]); have x2 : w1.cell? ⟨w.heap.size, 2, none⟩ = some (.string s) := (by simp [World.cell?, t1]); have xf := fun j => row_thawed t1 j; have xf0 := xf 0; have yf0 := row_thawed t2 0; have yf1 := row_thawed t2 1; have yf2 := row_thawed t2 2; have y0 : w1.cell? ⟨w.heap.size + 1, 0, none⟩ = some (.int .u64 0) := (by simp [World.cell?, t2]); have y1 : w1.cell? ⟨w.heap.size + 1, 1, none⟩ = some (.int .u64 0) := (by simp [World.cell?, t2]); have y2 : w1.cell? ⟨w.heap.size + 1, 2, none⟩ = some (.string ⟨#[]⟩) := (by simp [World.cell?, t2]))
      have r := row_setB (row_setB (row_setB t2 0 (.int .u64 0)) 1 (.int .u64 0)) 2 (.string ⟨#[]⟩)
      exact bodyPost_ret (v := .tuple #[.agg #[.int .u64 0, .int .u64 0, .string ⟨#[]⟩], .int .i64 2]) (by simp [results, Try.results12, go_sem, World.cell?, r]) rfl ⟨rfl, (((two_below hb1).setCell (p := ⟨w.heap.size + 1, 0, none⟩) (by simp) _).setCell (p := ⟨w.heap.size + 1, 1, none⟩) (by simp) _).setCell (p := ⟨w.heap.size + 1, 2, none⟩) (by simp) _⟩
  · rw [decide_eq_false hr] at HRT
    have hE : Bt.promE ⟨p, c, s⟩ b = 2 := by rw [HE.out, if_neg (fun h => hr h.1)]
    have hV : Bt.promV ⟨p, c, s⟩ b = Vt.zero := by rw [HV.out, hE]; rfl
    rw [hE, hV]
    clear hr HE HV hE hV
    go_enter Try.func12, Try.ntmps12
    go_wp2_with (go_at_call 16; refine (HRT.out _).mono ?_; rintro e w1 ⟨rfl, hb1⟩; obtain ⟨t1, t2⟩ := two_boxes hb1; have x0 : w1.cell? ⟨w.heap.size, 0, none⟩ = some (.int .u64 (p : Int)) := (by simp [World.cell?, t1]); have x1 : w1.cell? ⟨w.heap.size, 1, none⟩ = some (.int .u64 (c : Int)) := (by simp [World.cell?, t1]); have x2 : w1.cell? ⟨w.heap.size, 2, none⟩ = some (.string s) := (by simp [World.cell?, t1]); have xf := fun j => row_thawed t1 j; have xf0 := xf 0; have yf0 := row_thawed t2 0; have yf1 := row_thawed t2 1; have yf2 := row_thawed t2 2; have y0 : w1.cell? ⟨w.heap.size + 1, 0, none⟩ = some (.int .u64 0) := (by simp [World.cell?, t2]); have y1 : w1.cell? ⟨w.heap.size + 1, 1, none⟩ = some (.int .u64 0) := (by simp [World.cell?, t2]); have y2 : w1.cell? ⟨w.heap.size + 1, 2, none⟩ = some (.string ⟨#[]⟩) := (by simp [World.cell?, t2]))
    have r := row_setB (row_setB (row_setB t2 0 (.int .u64 0)) 1 (.int .u64 0)) 2 (.string ⟨#[]⟩)
    exact bodyPost_ret (v := .tuple #[.agg #[.int .u64 0, .int .u64 0, .string ⟨#[]⟩], .int .i64 2]) (by simp [results, Try.results12, go_sem, World.cell?, r]) rfl ⟨rfl, (((two_below hb1).setCell (p := ⟨w.heap.size + 1, 0, none⟩) (by simp) _).setCell (p := ⟨w.heap.size + 1, 1, none⟩) (by simp) _).setCell (p := ⟨w.heap.size + 1, 2, none⟩) (by simp) _⟩
end Go.Proofs.Ytigameebcicgpaa
