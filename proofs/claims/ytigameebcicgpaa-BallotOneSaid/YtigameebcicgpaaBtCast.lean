/-
  Package ballot: Cast; walked.
-/
import Derived.Test.YtigameebcicgpaaBtProm
namespace Go.Proofs.Ytigameebcicgpaa
open Go.RowKit Go.Shelf
attribute [local go_sem] Oper.semAt_some
set_option linter.unusedVariables false
set_option linter.unusedSimpArgs false

set_option maxRecDepth 100000 in
set_option maxHeartbeats 1000000 in
theorem btCast (v : Vt) (b : Nat) (u : ByteArray) (hs : v.val'.size ≤ 1000000) (hu : u.size ≤ 1000000) (w : World) : Calls Try.prog 14 #[v.val, .int .u64 (b : Int), .string u] w fun e w' => e = .returned (.tuple #[(Bt.castV v b u).val, .int .i64 (Bt.castE v b u)]) ∧ Below w.heap.size w w' := by
  have HRT := Lib.hid (fun W => btRight v hs W)
  have HC := Lib.hid (fun W => Try.strings_Clone u W (by omega))
  have HE := Lib.hid (show Bt.castE v b u = if Bt.Right v ∧ 1 ≤ b ∧ u.size ≤ 4000 then if b < v.prom then 80 else 0 else 2 from rfl)
  have HV := Lib.hid (show Bt.castV v b u = if Bt.castE v b u = 0 then ⟨b, b, u⟩ else Vt.zero from rfl)
  obtain ⟨p, c, s⟩ := v
  unfold Vt.val at HRT ⊢
  dsimp only at hs HRT ⊢
  by_cases hr : Bt.Right ⟨p, c, s⟩
  · rw [decide_eq_true hr] at HRT
    by_cases h1 : 1 ≤ b
    · have d1 : decide ((b : Int) < 1) = false := decide_eq_false (by omega)
      have d1' : ¬ (b : Int) < 1 := by omega
      by_cases h3 : u.size ≤ 4000
      · have d3 : decide (u.size ≤ 4000) = true := decide_eq_true (by omega)
        skip
        by_cases h2 : b < p
        · have d2 : decide ((b : Int) < (p : Int)) = true := decide_eq_true (by omega)
          have d2' : (b : Int) < (p : Int) := by omega
          have hE : Bt.castE ⟨p, c, s⟩ b u = 80 := by rw [HE.out, if_pos ⟨hr, h1, h3⟩, if_pos h2]
          have hV : Bt.castV ⟨p, c, s⟩ b u = Vt.zero := by rw [HV.out, hE]; rfl
          rw [hE, hV]
          clear hr h1 h2 h3 HE HV hE hV
          go_enter Try.func14, Try.ntmps14
          go_wp2_with (first
            | (go_at_call 16; refine (HRT.out _).mono ?_; rintro e w1 ⟨rfl, hb1⟩; obtain ⟨t1, t2⟩ := two_boxes hb1; have x0 : w1.cell? ⟨w.heap.size, 0, none⟩ = some (.int .u64 (p : Int)) := (by simp [World.cell?, t1]); have yf0 := row_thawed t2 0; have yf1 := row_thawed t2 1; have yf2 := row_thawed t2 2; have y0 : w1.cell? ⟨w.heap.size + 1, 0, none⟩ = some (.int .u64 0) := (by simp [World.cell?, t2]); have y1 : w1.cell? ⟨w.heap.size + 1, 1, none⟩ = some (.int .u64 0) := (by simp [World.cell?, t2]); have y2 : w1.cell? ⟨w.heap.size + 1, 2, none⟩ = some (.string ⟨#[]⟩) := (by simp [World.cell?, t2]); have hbA := two_below hb1; have hsA : w.heap.size + 1 < w1.heap.size := (Array.getElem?_eq_some_iff.1 t2).1)
            | (go_at_call 26; refine (btFit1 u hu _ _ (by simp)).mono ?_; rintro e w2 ⟨rfl, hw2⟩; have T1 := (Below.heap_alloc w1 (.cells #[.string u] 9) _ (by omega)).trans t1; have T2 := (Below.heap_alloc w1 (.cells #[.string u] 9) _ hsA).trans t2; have hbB := hbA.alloc (by omega) (.cells #[.string u] 9); have hsB : w1.heap.size < (w1.alloc (.cells #[.string u] 9)).heap.size := (by simp); rw [hw2] at T1 T2 hbB hsB; clear x0 yf0 yf1 yf2 y0 y1 y2 t1 t2 hbA; have t1 := T1; have t2 := T2; have hbA := hbB; clear T1 T2 hbB; have x0 : w2.cell? ⟨w.heap.size, 0, none⟩ = some (.int .u64 (p : Int)) := (by simp [World.cell?, t1]); have yf0 := row_thawed t2 0; have yf1 := row_thawed t2 1; have yf2 := row_thawed t2 2; have y0 : w2.cell? ⟨w.heap.size + 1, 0, none⟩ = some (.int .u64 0) := (by simp [World.cell?, t2]); have y1 : w2.cell? ⟨w.heap.size + 1, 1, none⟩ = some (.int .u64 0) := (by simp [World.cell?, t2]); have y2 : w2.cell? ⟨w.heap.size + 1, 2, none⟩ = some (.string ⟨#[]⟩) := (by simp [World.cell?, t2]))
            | (go_at_call 25; refine (HC.out _).mono ?_; rintro e w3 ⟨rfl, hb3⟩; have T2 := (hb3.block _ (by omega)).trans t2; have hbB := hbA.trans (hb3.mono (by omega)); clear x0 yf0 yf1 yf2 y0 y1 y2 t2 hbA; have t2 := T2; have hbA := hbB; clear T2 hbB; have yf0 := row_thawed t2 0; have yf1 := row_thawed t2 1; have yf2 := row_thawed t2 2; have y0 : w3.cell? ⟨w.heap.size + 1, 0, none⟩ = some (.int .u64 0) := (by simp [World.cell?, t2]); have y1 : w3.cell? ⟨w.heap.size + 1, 1, none⟩ = some (.int .u64 0) := (by simp [World.cell?, t2]); have y2 : w3.cell? ⟨w.heap.size + 1, 2, none⟩ = some (.string ⟨#[]⟩) := (by simp [World.cell?, t2])))
          have r := row_setB (row_setB (row_setB t2 0 (.int .u64 0)) 1 (.int .u64 0)) 2 (.string ⟨#[]⟩)
          exact bodyPost_ret (v := .tuple #[.agg #[.int .u64 0, .int .u64 0, .string ⟨#[]⟩], .int .i64 80]) (by simp [results, Try.results14, go_sem, World.cell?, r]) rfl ⟨rfl, (((hbA).setCell (p := ⟨w.heap.size + 1, 0, none⟩) (by simp) _).setCell (p := ⟨w.heap.size + 1, 1, none⟩) (by simp) _).setCell (p := ⟨w.heap.size + 1, 2, none⟩) (by simp) _⟩
        · have d2 : decide ((b : Int) < (p : Int)) = false := decide_eq_false (by omega)
          have d2' : ¬ (b : Int) < (p : Int) := by omega
          have hE : Bt.castE ⟨p, c, s⟩ b u = 0 := by rw [HE.out, if_pos ⟨hr, h1, h3⟩, if_neg h2]
          have hV : Bt.castV ⟨p, c, s⟩ b u = ⟨b, b, u⟩ := by rw [HV.out, hE]; rfl
          rw [hE, hV]
          clear hr h1 h2 h3 HE HV hE hV
          go_enter Try.func14, Try.ntmps14
          go_wp2_with (first
            | (go_at_call 16; refine (HRT.out _).mono ?_; rintro e w1 ⟨rfl, hb1⟩; obtain ⟨t1, t2⟩ := two_boxes hb1; have x0 : w1.cell? ⟨w.heap.size, 0, none⟩ = some (.int .u64 (p : Int)) := (by simp [World.cell?, t1]); have yf0 := row_thawed t2 0; have yf1 := row_thawed t2 1; have yf2 := row_thawed t2 2; have y0 : w1.cell? ⟨w.heap.size + 1, 0, none⟩ = some (.int .u64 0) := (by simp [World.cell?, t2]); have y1 : w1.cell? ⟨w.heap.size + 1, 1, none⟩ = some (.int .u64 0) := (by simp [World.cell?, t2]); have y2 : w1.cell? ⟨w.heap.size + 1, 2, none⟩ = some (.string ⟨#[]⟩) := (by simp [World.cell?, t2]); have hbA := two_below hb1; have hsA : w.heap.size + 1 < w1.heap.size := (Array.getElem?_eq_some_iff.1 t2).1)
            | (go_at_call 26; refine (btFit1 u hu _ _ (by simp)).mono ?_; rintro e w2 ⟨rfl, hw2⟩; have T1 := (Below.heap_alloc w1 (.cells #[.string u] 9) _ (by omega)).trans t1; have T2 := (Below.heap_alloc w1 (.cells #[.string u] 9) _ hsA).trans t2; have hbB := hbA.alloc (by omega) (.cells #[.string u] 9); have hsB : w1.heap.size < (w1.alloc (.cells #[.string u] 9)).heap.size := (by simp); rw [hw2] at T1 T2 hbB hsB; clear x0 yf0 yf1 yf2 y0 y1 y2 t1 t2 hbA; have t1 := T1; have t2 := T2; have hbA := hbB; clear T1 T2 hbB; have x0 : w2.cell? ⟨w.heap.size, 0, none⟩ = some (.int .u64 (p : Int)) := (by simp [World.cell?, t1]); have yf0 := row_thawed t2 0; have yf1 := row_thawed t2 1; have yf2 := row_thawed t2 2; have y0 : w2.cell? ⟨w.heap.size + 1, 0, none⟩ = some (.int .u64 0) := (by simp [World.cell?, t2]); have y1 : w2.cell? ⟨w.heap.size + 1, 1, none⟩ = some (.int .u64 0) := (by simp [World.cell?, t2]); have y2 : w2.cell? ⟨w.heap.size + 1, 2, none⟩ = some (.string ⟨#[]⟩) := (by simp [World.cell?, t2]))
            | (go_at_call 25; refine (HC.out _).mono ?_; rintro e w3 ⟨rfl, hb3⟩; have T2 := (hb3.block _ (by omega)).trans t2; have hbB := hbA.trans (hb3.mono (by omega)); clear x0 yf0 yf1 yf2 y0 y1 y2 t2 hbA; have t2 := T2; have hbA := hbB; clear T2 hbB; have yf0 := row_thawed t2 0; have yf1 := row_thawed t2 1; have yf2 := row_thawed t2 2; have y0 : w3.cell? ⟨w.heap.size + 1, 0, none⟩ = some (.int .u64 0) := (by simp [World.cell?, t2]); have y1 : w3.cell? ⟨w.heap.size + 1, 1, none⟩ = some (.int .u64 0) := (by simp [World.cell?, t2]); have y2 : w3.cell? ⟨w.heap.size + 1, 2, none⟩ = some (.string ⟨#[]⟩) := (by simp [World.cell?, t2])))
          have r := row_setB (row_setB (row_setB t2 0 (.int .u64 (b : Int))) 1 (.int .u64 (b : Int))) 2 (.string u)
          exact bodyPost_ret (v := .tuple #[.agg #[.int .u64 (b : Int), .int .u64 (b : Int), .string u], .int .i64 0]) (by simp [results, Try.results14, go_sem, World.cell?, r]) rfl ⟨rfl, (((hbA).setCell (p := ⟨w.heap.size + 1, 0, none⟩) (by simp) _).setCell (p := ⟨w.heap.size + 1, 1, none⟩) (by simp) _).setCell (p := ⟨w.heap.size + 1, 2, none⟩) (by simp) _⟩
      · have d3 : decide (u.size ≤ 4000) = false := decide_eq_false (by omega)
        skip
        have hE : Bt.castE ⟨p, c, s⟩ b u = 2 := by rw [HE.out, if_neg (fun h => h3 h.2.2)]
        have hV : Bt.castV ⟨p, c, s⟩ b u = Vt.zero := by rw [HV.out, hE]; rfl
        rw [hE, hV]
        clear hr h1 h3 HE HV hE hV
        go_enter Try.func14, Try.ntmps14
        go_wp2_with (first
          | (go_at_call 16; refine (HRT.out _).mono ?_; rintro e w1 ⟨rfl, hb1⟩; obtain ⟨t1, t2⟩ := two_boxes hb1; have x0 : w1.cell? ⟨w.heap.size, 0, none⟩ = some (.int .u64 (p : Int)) := (by simp [World.cell?, t1]); have yf0 := row_thawed t2 0; have yf1 := row_thawed t2 1; have yf2 := row_thawed t2 2; have y0 : w1.cell? ⟨w.heap.size + 1, 0, none⟩ = some (.int .u64 0) := (by simp [World.cell?, t2]); have y1 : w1.cell? ⟨w.heap.size + 1, 1, none⟩ = some (.int .u64 0) := (by simp [World.cell?, t2]); have y2 : w1.cell? ⟨w.heap.size + 1, 2, none⟩ = some (.string ⟨#[]⟩) := (by simp [World.cell?, t2]); have hbA := two_below hb1; have hsA : w.heap.size + 1 < w1.heap.size := (Array.getElem?_eq_some_iff.1 t2).1)
          | (go_at_call 26; refine (btFit1 u hu _ _ (by simp)).mono ?_; rintro e w2 ⟨rfl, hw2⟩; have T1 := (Below.heap_alloc w1 (.cells #[.string u] 9) _ (by omega)).trans t1; have T2 := (Below.heap_alloc w1 (.cells #[.string u] 9) _ hsA).trans t2; have hbB := hbA.alloc (by omega) (.cells #[.string u] 9); have hsB : w1.heap.size < (w1.alloc (.cells #[.string u] 9)).heap.size := (by simp); rw [hw2] at T1 T2 hbB hsB; clear x0 yf0 yf1 yf2 y0 y1 y2 t1 t2 hbA; have t1 := T1; have t2 := T2; have hbA := hbB; clear T1 T2 hbB; have x0 : w2.cell? ⟨w.heap.size, 0, none⟩ = some (.int .u64 (p : Int)) := (by simp [World.cell?, t1]); have yf0 := row_thawed t2 0; have yf1 := row_thawed t2 1; have yf2 := row_thawed t2 2; have y0 : w2.cell? ⟨w.heap.size + 1, 0, none⟩ = some (.int .u64 0) := (by simp [World.cell?, t2]); have y1 : w2.cell? ⟨w.heap.size + 1, 1, none⟩ = some (.int .u64 0) := (by simp [World.cell?, t2]); have y2 : w2.cell? ⟨w.heap.size + 1, 2, none⟩ = some (.string ⟨#[]⟩) := (by simp [World.cell?, t2]))
          | (go_at_call 25; refine (HC.out _).mono ?_; rintro e w3 ⟨rfl, hb3⟩; have T2 := (hb3.block _ (by omega)).trans t2; have hbB := hbA.trans (hb3.mono (by omega)); clear x0 yf0 yf1 yf2 y0 y1 y2 t2 hbA; have t2 := T2; have hbA := hbB; clear T2 hbB; have yf0 := row_thawed t2 0; have yf1 := row_thawed t2 1; have yf2 := row_thawed t2 2; have y0 : w3.cell? ⟨w.heap.size + 1, 0, none⟩ = some (.int .u64 0) := (by simp [World.cell?, t2]); have y1 : w3.cell? ⟨w.heap.size + 1, 1, none⟩ = some (.int .u64 0) := (by simp [World.cell?, t2]); have y2 : w3.cell? ⟨w.heap.size + 1, 2, none⟩ = some (.string ⟨#[]⟩) := (by simp [World.cell?, t2])))
        have r := row_setB (row_setB (row_setB t2 0 (.int .u64 0)) 1 (.int .u64 0)) 2 (.string ⟨#[]⟩)
        exact bodyPost_ret (v := .tuple #[.agg #[.int .u64 0, .int .u64 0, .string ⟨#[]⟩], .int .i64 2]) (by simp [results, Try.results14, go_sem, World.cell?, r]) rfl ⟨rfl, (((hbA).setCell (p := ⟨w.heap.size + 1, 0, none⟩) (by simp) _).setCell (p := ⟨w.heap.size + 1, 1, none⟩) (by simp) _).setCell (p := ⟨w.heap.size + 1, 2, none⟩) (by simp) _⟩
    · have d1 : decide ((b : Int) < 1) = true := decide_eq_true (by omega)
      have d1' : (b : Int) < 1 := by omega
      have hE : Bt.castE ⟨p, c, s⟩ b u = 2 := by rw [HE.out, if_neg (fun h => h1 h.2.1)]
      have hV : Bt.castV ⟨p, c, s⟩ b u = Vt.zero := by rw [HV.out, hE]; rfl
      rw [hE, hV]
      clear hr h1 HE HV hE hV
      go_enter Try.func14, Try.ntmps14
      go_wp2_with (first
        | (go_at_call 16; refine (HRT.out _).mono ?_; rintro e w1 ⟨rfl, hb1⟩; obtain ⟨t1, t2⟩ := two_boxes hb1; have x0 : w1.cell? ⟨w.heap.size, 0, none⟩ = some (.int .u64 (p : Int)) := (by simp [World.cell?, t1]); have yf0 := row_thawed t2 0; have yf1 := row_thawed t2 1; have yf2 := row_thawed t2 2; have y0 : w1.cell? ⟨w.heap.size + 1, 0, none⟩ = some (.int .u64 0) := (by simp [World.cell?, t2]); have y1 : w1.cell? ⟨w.heap.size + 1, 1, none⟩ = some (.int .u64 0) := (by simp [World.cell?, t2]); have y2 : w1.cell? ⟨w.heap.size + 1, 2, none⟩ = some (.string ⟨#[]⟩) := (by simp [World.cell?, t2]); have hbA := two_below hb1; have hsA : w.heap.size + 1 < w1.heap.size := (Array.getElem?_eq_some_iff.1 t2).1)
        | (go_at_call 26; refine (btFit1 u hu _ _ (by simp)).mono ?_; rintro e w2 ⟨rfl, hw2⟩; have T1 := (Below.heap_alloc w1 (.cells #[.string u] 9) _ (by omega)).trans t1; have T2 := (Below.heap_alloc w1 (.cells #[.string u] 9) _ hsA).trans t2; have hbB := hbA.alloc (by omega) (.cells #[.string u] 9); have hsB : w1.heap.size < (w1.alloc (.cells #[.string u] 9)).heap.size := (by simp); rw [hw2] at T1 T2 hbB hsB; clear x0 yf0 yf1 yf2 y0 y1 y2 t1 t2 hbA; have t1 := T1; have t2 := T2; have hbA := hbB; clear T1 T2 hbB; have x0 : w2.cell? ⟨w.heap.size, 0, none⟩ = some (.int .u64 (p : Int)) := (by simp [World.cell?, t1]); have yf0 := row_thawed t2 0; have yf1 := row_thawed t2 1; have yf2 := row_thawed t2 2; have y0 : w2.cell? ⟨w.heap.size + 1, 0, none⟩ = some (.int .u64 0) := (by simp [World.cell?, t2]); have y1 : w2.cell? ⟨w.heap.size + 1, 1, none⟩ = some (.int .u64 0) := (by simp [World.cell?, t2]); have y2 : w2.cell? ⟨w.heap.size + 1, 2, none⟩ = some (.string ⟨#[]⟩) := (by simp [World.cell?, t2]))
        | (go_at_call 25; refine (HC.out _).mono ?_; rintro e w3 ⟨rfl, hb3⟩; have T2 := (hb3.block _ (by omega)).trans t2; have hbB := hbA.trans (hb3.mono (by omega)); clear x0 yf0 yf1 yf2 y0 y1 y2 t2 hbA; have t2 := T2; have hbA := hbB; clear T2 hbB; have yf0 := row_thawed t2 0; have yf1 := row_thawed t2 1; have yf2 := row_thawed t2 2; have y0 : w3.cell? ⟨w.heap.size + 1, 0, none⟩ = some (.int .u64 0) := (by simp [World.cell?, t2]); have y1 : w3.cell? ⟨w.heap.size + 1, 1, none⟩ = some (.int .u64 0) := (by simp [World.cell?, t2]); have y2 : w3.cell? ⟨w.heap.size + 1, 2, none⟩ = some (.string ⟨#[]⟩) := (by simp [World.cell?, t2])))
      have r := row_setB (row_setB (row_setB t2 0 (.int .u64 0)) 1 (.int .u64 0)) 2 (.string ⟨#[]⟩)
      exact bodyPost_ret (v := .tuple #[.agg #[.int .u64 0, .int .u64 0, .string ⟨#[]⟩], .int .i64 2]) (by simp [results, Try.results14, go_sem, World.cell?, r]) rfl ⟨rfl, (((hbA).setCell (p := ⟨w.heap.size + 1, 0, none⟩) (by simp) _).setCell (p := ⟨w.heap.size + 1, 1, none⟩) (by simp) _).setCell (p := ⟨w.heap.size + 1, 2, none⟩) (by simp) _⟩
  · rw [decide_eq_false hr] at HRT
    have hE : Bt.castE ⟨p, c, s⟩ b u = 2 := by rw [HE.out, if_neg (fun h => hr h.1)]
    have hV : Bt.castV ⟨p, c, s⟩ b u = Vt.zero := by rw [HV.out, hE]; rfl
    rw [hE, hV]
    clear hr HE HV hE hV
    go_enter Try.func14, Try.ntmps14
    go_wp2_with (first
      | (go_at_call 16; refine (HRT.out _).mono ?_; rintro e w1 ⟨rfl, hb1⟩; obtain ⟨t1, t2⟩ := two_boxes hb1; have x0 : w1.cell? ⟨w.heap.size, 0, none⟩ = some (.int .u64 (p : Int)) := (by simp [World.cell?, t1]); have yf0 := row_thawed t2 0; have yf1 := row_thawed t2 1; have yf2 := row_thawed t2 2; have y0 : w1.cell? ⟨w.heap.size + 1, 0, none⟩ = some (.int .u64 0) := (by simp [World.cell?, t2]); have y1 : w1.cell? ⟨w.heap.size + 1, 1, none⟩ = some (.int .u64 0) := (by simp [World.cell?, t2]); have y2 : w1.cell? ⟨w.heap.size + 1, 2, none⟩ = some (.string ⟨#[]⟩) := (by simp [World.cell?, t2]); have hbA := two_below hb1; have hsA : w.heap.size + 1 < w1.heap.size := (Array.getElem?_eq_some_iff.1 t2).1)
      | (go_at_call 26; refine (btFit1 u hu _ _ (by simp)).mono ?_; rintro e w2 ⟨rfl, hw2⟩; have T1 := (Below.heap_alloc w1 (.cells #[.string u] 9) _ (by omega)).trans t1; have T2 := (Below.heap_alloc w1 (.cells #[.string u] 9) _ hsA).trans t2; have hbB := hbA.alloc (by omega) (.cells #[.string u] 9); have hsB : w1.heap.size < (w1.alloc (.cells #[.string u] 9)).heap.size := (by simp); rw [hw2] at T1 T2 hbB hsB; clear x0 yf0 yf1 yf2 y0 y1 y2 t1 t2 hbA; have t1 := T1; have t2 := T2; have hbA := hbB; clear T1 T2 hbB; have x0 : w2.cell? ⟨w.heap.size, 0, none⟩ = some (.int .u64 (p : Int)) := (by simp [World.cell?, t1]); have yf0 := row_thawed t2 0; have yf1 := row_thawed t2 1; have yf2 := row_thawed t2 2; have y0 : w2.cell? ⟨w.heap.size + 1, 0, none⟩ = some (.int .u64 0) := (by simp [World.cell?, t2]); have y1 : w2.cell? ⟨w.heap.size + 1, 1, none⟩ = some (.int .u64 0) := (by simp [World.cell?, t2]); have y2 : w2.cell? ⟨w.heap.size + 1, 2, none⟩ = some (.string ⟨#[]⟩) := (by simp [World.cell?, t2]))
      | (go_at_call 25; refine (HC.out _).mono ?_; rintro e w3 ⟨rfl, hb3⟩; have T2 := (hb3.block _ (by omega)).trans t2; have hbB := hbA.trans (hb3.mono (by omega)); clear x0 yf0 yf1 yf2 y0 y1 y2 t2 hbA; have t2 := T2; have hbA := hbB; clear T2 hbB; have yf0 := row_thawed t2 0; have yf1 := row_thawed t2 1; have yf2 := row_thawed t2 2; have y0 : w3.cell? ⟨w.heap.size + 1, 0, none⟩ = some (.int .u64 0) := (by simp [World.cell?, t2]); have y1 : w3.cell? ⟨w.heap.size + 1, 1, none⟩ = some (.int .u64 0) := (by simp [World.cell?, t2]); have y2 : w3.cell? ⟨w.heap.size + 1, 2, none⟩ = some (.string ⟨#[]⟩) := (by simp [World.cell?, t2])))
    have r := row_setB (row_setB (row_setB t2 0 (.int .u64 0)) 1 (.int .u64 0)) 2 (.string ⟨#[]⟩)
    exact bodyPost_ret (v := .tuple #[.agg #[.int .u64 0, .int .u64 0, .string ⟨#[]⟩], .int .i64 2]) (by simp [results, Try.results14, go_sem, World.cell?, r]) rfl ⟨rfl, (((hbA).setCell (p := ⟨w.heap.size + 1, 0, none⟩) (by simp) _).setCell (p := ⟨w.heap.size + 1, 1, none⟩) (by simp) _).setCell (p := ⟨w.heap.size + 1, 2, none⟩) (by simp) _⟩
end Go.Proofs.Ytigameebcicgpaa
