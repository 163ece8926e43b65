/-
  The document's Right, Promise, Cast; walked.
-/
import Derived.Test.YtigameebcicgpaaBtMath
namespace Go.Proofs.Ytigameebcicgpaa
open Go.RowKit Go.Shelf
attribute [local go_sem] Oper.semAt_some
set_option linter.unusedVariables false
set_option linter.unusedSimpArgs false

theorem empty_of_size {s : ByteArray} (h : s.size = 0) : s = ⟨#[]⟩ := by
  obtain ⟨⟨l⟩⟩ := s
  have : l = [] := List.eq_nil_of_length_eq_zero h
  rw [this]
theorem toList_ne {s : ByteArray} (h : ¬ s.size = 0) : ¬ s.toList = [] := fun e => by
  rw [ByteArray.toList_eq] at e
  apply h
  have := congrArg List.length e
  simpa using this
theorem toList_not {s : ByteArray} (h : ¬ s.size = 0) : s.toList.isEmpty = false := by
  cases hl : s.toList with
  | nil => exact absurd hl (toList_ne h)
  | cons => rfl
set_option maxRecDepth 100000 in
set_option maxHeartbeats 1000000 in
theorem refRight (v : Vt) (hs : v.val'.size ≤ 1000000) (w : World) : Calls Try.prog 17 #[v.val] w fun e w' => e = .returned (.bool (decide (Bt.Right v))) ∧ Below w.heap.size w w' := by
  obtain ⟨p, b, s⟩ := v
  dsimp only at hs
  have HD := Lib.hid (show Bt.Right ⟨p, b, s⟩ ↔ b ≤ p ∧ (0 < b ∨ s.size = 0) ∧ s.size ≤ 4000 from Iff.rfl)
  generalize hR : decide (Bt.Right ⟨p, b, s⟩) = R at *
  have HR := Lib.hid hR
  clear hR
  have hbel := fun (C : Array Value) => (Below.refl w.heap.size w).alloc (Nat.le_refl _) (.cells C 24)
  unfold Vt.val
  dsimp only
  by_cases h1 : b ≤ p
  · have d1 : decide ((b : Int) ≤ (p : Int)) = true := decide_eq_true (by omega)
    have d1' : (b : Int) ≤ (p : Int) := by omega
    by_cases h2 : 0 < b
    · have d2 : decide ((0 : Int) < (b : Int)) = true := decide_eq_true (by omega)
      have d2' : (0 : Int) < (b : Int) := by omega
      by_cases h3 : s.size ≤ 4000
      · have d3 : decide ((s.size : Int) ≤ 4000) = true := decide_eq_true (by omega)
        have d3' : (s.size : Int) ≤ 4000 := by omega
        have HF := Lib.hid (show R = true from by rw [← HR.out]; exact decide_eq_true (HD.out.2 ⟨h1, .inl h2, h3⟩))
        clear hs h1 h2 h3
        go_enter Try.func17, Try.ntmps17
        go_wp2
        go_ret
        exact ⟨by rw [HF.out]; rfl, hbel _⟩
      · have d3 : decide ((s.size : Int) ≤ 4000) = false := decide_eq_false (by omega)
        have d3' : ¬ (s.size : Int) ≤ 4000 := by omega
        have HF := Lib.hid (show R = false from by rw [← HR.out]; exact decide_eq_false (fun h => h3 (HD.out.1 h).2.2))
        clear hs h1 h2 h3
        go_enter Try.func17, Try.ntmps17
        go_wp2
        go_ret
        exact ⟨by rw [HF.out]; rfl, hbel _⟩
    · obtain rfl : b = 0 := by omega
      by_cases h3 : s.size = 0
      · obtain rfl := empty_of_size h3
        have HF := Lib.hid (show R = true from by rw [← HR.out]; exact decide_eq_true (HD.out.2 ⟨h1, .inr rfl, by decide⟩))
        clear hs h1 h2 h3
        go_enter Try.func17, Try.ntmps17
        go_wp2
        go_ret
        exact ⟨by rw [HF.out]; rfl, hbel _⟩
      · have hne : s ≠ ⟨#[]⟩ := fun e => h3 (by rw [e]; rfl)
        have HF := Lib.hid (show R = false from by rw [← HR.out]; exact decide_eq_false (fun h => (HD.out.1 h).2.1.elim (by omega) h3))
        have e1 := toList_ne h3
        have e2 := toList_not h3
        clear hs h1 h2 h3
        go_enter Try.func17, Try.ntmps17
        go_wp2
        go_ret
        exact ⟨by rw [HF.out]; rfl, hbel _⟩
  · have d1 : decide ((b : Int) ≤ (p : Int)) = false := decide_eq_false (by omega)
    have d1' : ¬ (b : Int) ≤ (p : Int) := by omega
    have HF := Lib.hid (show R = false from by rw [← HR.out]; exact decide_eq_false (fun h => h1 (HD.out.1 h).1))
    clear hs h1
    go_enter Try.func17, Try.ntmps17
    go_wp2
    go_ret
    exact ⟨by rw [HF.out]; rfl, hbel _⟩
theorem two_boxes {w w1 : World} {C D : Array Value} {T U : TypeId} (hb : Below ((w.alloc (.cells C T)).alloc (.cells D U)).heap.size ((w.alloc (.cells C T)).alloc (.cells D U)) w1) : w1.heap[w.heap.size]? = some (.cells C T (0, 0)) ∧ w1.heap[w.heap.size + 1]? = some (.cells D U (0, 0)) := by
  refine ⟨(hb.block _ (by simp; omega)).trans ((Below.heap_alloc _ _ _ (by simp)).trans (World.alloc_heap_new w _)), (hb.block _ (by simp)).trans ?_⟩
  have := World.alloc_heap_new (w.alloc (.cells C T)) (.cells D U)
  rwa [World.size_alloc] at this
theorem row_setB {B : Nat} {W : World} {c : Array Value} {t : TypeId} (h : W.heap[B]? = some (.cells c t (0, 0))) (j : Nat) (u : Value) : (W.setCell ⟨B, j, none⟩ u).heap[B]? = some (.cells (c.setIfInBounds j u) t (0, 0)) := by
  simp only [World.setCell, Array.getElem?_modify, if_true]
  rw [h]
  simp
theorem row_thawed {w : World} {B : Nat} {C : Array Value} {T : TypeId} (h : w.heap[B]? = some (.cells C T (0, 0))) (j : Nat) : w.frozen? ⟨B, j, none⟩ = false := by simp [World.frozen?, h]
theorem two_below {w w1 : World} {C D : Array Value} {T U : TypeId} (hb : Below ((w.alloc (.cells C T)).alloc (.cells D U)).heap.size ((w.alloc (.cells C T)).alloc (.cells D U)) w1) : Below w.heap.size w w1 :=
  (((Below.refl _ w).alloc (Nat.le_refl _) _).alloc (by simp) _).trans (hb.mono (by simp; omega))
set_option maxRecDepth 100000 in
set_option maxHeartbeats 1000000 in
theorem refPromise (v : Vt) (b : Nat) (hs : v.val'.size ≤ 1000000) (w : World) : Calls Try.prog 13 #[v.val, .int .u64 (b : Int)] w fun e w' => e = .returned (.tuple #[(Bt.promV v b).val, .int .i64 (Bt.promE v b)]) ∧ Below w.heap.size w w' := by
  have HRT := Lib.hid (fun W => refRight v hs W)
  have HE := Lib.hid (show Bt.promE v b = if Bt.Right v ∧ 1 ≤ b then if b ≤ v.prom then 80 else 0 else 2 from rfl)
  have HV := Lib.hid (show Bt.promV v b = if Bt.promE v b = 0 then { v with prom := b } else Vt.zero from rfl)
  obtain ⟨p, c, s⟩ := v
  unfold Vt.val at HRT ⊢
  dsimp only at hs HRT ⊢
  by_cases hr : Bt.Right ⟨p, c, s⟩
  · rw [decide_eq_true hr] at HRT
    by_cases h1 : 1 ≤ b
    · have d1 : decide ((b : Int) < 1) = false := decide_eq_false (by omega)
      have d1' : ¬ (b : Int) < 1 := by omega
      by_cases h2 : b ≤ p
      · have d2 : decide ((b : Int) ≤ (p : Int)) = true := decide_eq_true (by omega)
        have d2' : (b : Int) ≤ (p : Int) := by omega
        have hE : Bt.promE ⟨p, c, s⟩ b = 80 := by rw [HE.out, if_pos ⟨hr, h1⟩, if_pos h2]
        have hV : Bt.promV ⟨p, c, s⟩ b = Vt.zero := by rw [HV.out, hE]; rfl
        rw [hE, hV]
        clear hr h1 h2 HE HV hE hV
        go_enter Try.func13, Try.ntmps13
        go_wp2_with (go_at_call 17; refine (HRT.out _).mono ?_; rintro e w1 ⟨rfl, hb1⟩; obtain ⟨t1, t2⟩ := two_boxes hb1; have x0 : w1.cell? ⟨w.heap.size, 0, none⟩ = some (.int .u64 (p : Int)) := (by simp [World.cell?, t1]); have x1 : w1.cell? ⟨w.heap.size, 1, none⟩ = some (.int .u64 (c : Int)) := (by simp [World.cell?, t1]); have x2 : w1.cell? ⟨w.heap.size, 2, none⟩ = some (.string s) := (by simp [World.cell?, t1]); have xf := fun j => row_thawed t1 j; have xf0 := xf 0; have yf0 := row_thawed t2 0; have yf1 := row_thawed t2 1; have yf2 := row_thawed t2 2; have y0 : w1.cell? ⟨w.heap.size + 1, 0, none⟩ = some (.int .u64 0) := (by simp [World.cell?, t2]); have y1 : w1.cell? ⟨w.heap.size + 1, 1, none⟩ = some (.int .u64 0) := (by simp [World.cell?, t2]); have y2 : w1.cell? ⟨w.heap.size + 1, 2, none⟩ = some (.string ⟨#[]⟩) := (by simp [World.cell?, t2]))
        have r := row_setB (row_setB (row_setB t2 0 (.int .u64 0)) 1 (.int .u64 0)) 2 (.string ⟨#[]⟩)
        exact bodyPost_ret (v := .tuple #[.agg #[.int .u64 0, .int .u64 0, .string ⟨#[]⟩], .int .i64 80]) (by simp [results, Try.results13, go_sem, World.cell?, r]) rfl ⟨rfl, (((two_below hb1).setCell (p := ⟨w.heap.size + 1, 0, none⟩) (by simp) _).setCell (p := ⟨w.heap.size + 1, 1, none⟩) (by simp) _).setCell (p := ⟨w.heap.size + 1, 2, none⟩) (by simp) _⟩
      · have d2 : decide ((b : Int) ≤ (p : Int)) = false := decide_eq_false (by omega)
        have d2' : ¬ (b : Int) ≤ (p : Int) := by omega
        have hE : Bt.promE ⟨p, c, s⟩ b = 0 := by rw [HE.out, if_pos ⟨hr, h1⟩, if_neg h2]
        have hV : Bt.promV ⟨p, c, s⟩ b = ⟨b, c, s⟩ := by rw [HV.out, hE]; rfl
        rw [hE, hV]
        clear hr h1 h2 HE HV hE hV
        go_enter Try.func13, Try.ntmps13
        go_wp2_with (go_at_call 17; refine (HRT.out _).mono ?_; rintro e w1 ⟨rfl, hb1⟩; obtain ⟨t1, t2⟩ := two_boxes hb1; have x0 : w1.cell? ⟨w.heap.size, 0, none⟩ = some (.int .u64 (p : Int)) := (by simp [World.cell?, t1]); have x1 : w1.cell? ⟨w.heap.size, 1, none⟩ = some (.int .u64 (c : Int)) := (by simp [World.cell?, t1]); have x2 : w1.cell? ⟨w.heap.size, 2, none⟩ = some (.string s) := (by simp [World.cell?, t1]); have xf := fun j => row_thawed t1 j; have xf0 := xf 0; have yf0 := row_thawed t2 0; have yf1 := row_thawed t2 1; have yf2 := row_thawed t2 2; have y0 : w1.cell? ⟨w.heap.size + 1, 0, none⟩ = some (.int .u64 0) := (by simp [World.cell?, t2]); have y1 : w1.cell? ⟨w.heap.size + 1, 1, none⟩ = some (.int .u64 0) := (by simp [World.cell?, t2]); have y2 : w1.cell? ⟨w.heap.size + 1, 2, none⟩ = some (.string ⟨#[]⟩) := (by simp [World.cell?, t2]))
        have r := row_setB (row_setB (row_setB ((Below.heap_setCell w1 ⟨w.heap.size, 0, none⟩ (.int .u64 (b : Int)) (w.heap.size + 1) (by simp)).trans t2) 0 (.int .u64 (b : Int))) 1 (.int .u64 (c : Int))) 2 (.string s)
        exact bodyPost_ret (v := .tuple #[.agg #[.int .u64 (b : Int), .int .u64 (c : Int), .string s], .int .i64 0]) (by simp [results, Try.results13, go_sem, World.cell?, r]) rfl ⟨rfl, ((((two_below hb1).setCell (p := ⟨w.heap.size, 0, none⟩) (by simp) _).setCell (p := ⟨w.heap.size + 1, 0, none⟩) (by simp) _).setCell (p := ⟨w.heap.size + 1, 1, none⟩) (by simp) _).setCell (p := ⟨w.heap.size + 1, 2, none⟩) (by simp) _⟩
    · have d1 : decide ((b : Int) < 1) = true := decide_eq_true (by omega)
      have d1' : (b : Int) < 1 := by omega
      have hE : Bt.promE ⟨p, c, s⟩ b = 2 := by rw [HE.out, if_neg (fun h => h1 h.2)]
      have hV : Bt.promV ⟨p, c, s⟩ b = Vt.zero := by rw [HV.out, hE]; rfl
      rw [hE, hV]
      clear hr h1 HE HV hE hV
      go_enter Try.func13, Try.ntmps13
      go_wp2_with (go_at_call 17; refine (HRT.out _).mono ?_; rintro e w1 ⟨rfl, hb1⟩; obtain ⟨t1, t2⟩ := two_boxes hb1; have x0 : w1.cell? ⟨w.heap.size, 0, none⟩ = some (.int .u64 (p : Int)) := (by simp [World.cell?, t1]); have x1 : w1.cell? ⟨w.heap.size, 1, none⟩ = some (.int .u64 (c : Int)) := (by simp [World.cell?, t1]); have x2 : w1.cell? ⟨w.heap.size, 2, none⟩ = some (.string s) := (by simp [World.cell?, t1]); have xf := fun j => row_thawed t1 j; have xf0 := xf 0; have yf0 := row_thawed t2 0; have yf1 := row_thawed t2 1; have yf2 := row_thawed t2 2; have y0 : w1.cell? ⟨w.heap.size + 1, 0, none⟩ = some (.int .u64 0) := (by simp [World.cell?, t2]); have y1 : w1.cell? ⟨w.heap.size + 1, 1, none⟩ = some (.int .u64 0) := (by simp [World.cell?, t2]); have y2 : w1.cell? ⟨w.heap.size + 1, 2, none⟩ = some (.string ⟨#[]⟩) := (by simp [World.cell?, t2]))
      have r := row_setB (row_setB (row_setB t2 0 (.int .u64 0)) 1 (.int .u64 0)) 2 (.string ⟨#[]⟩)
      exact bodyPost_ret (v := .tuple #[.agg #[.int .u64 0, .int .u64 0, .string ⟨#[]⟩], .int .i64 2]) (by simp [results, Try.results13, go_sem, World.cell?, r]) rfl ⟨rfl, (((two_below hb1).setCell (p := ⟨w.heap.size + 1, 0, none⟩) (by simp) _).setCell (p := ⟨w.heap.size + 1, 1, none⟩) (by simp) _).setCell (p := ⟨w.heap.size + 1, 2, none⟩) (by simp) _⟩
  · rw [decide_eq_false hr] at HRT
    have hE : Bt.promE ⟨p, c, s⟩ b = 2 := by rw [HE.out, if_neg (fun h => hr h.1)]
    have hV : Bt.promV ⟨p, c, s⟩ b = Vt.zero := by rw [HV.out, hE]; rfl
    rw [hE, hV]
    clear hr HE HV hE hV
    go_enter Try.func13, Try.ntmps13
    go_wp2_with (go_at_call 17; refine (HRT.out _).mono ?_; rintro e w1 ⟨rfl, hb1⟩; obtain ⟨t1, t2⟩ := two_boxes hb1; have x0 : w1.cell? ⟨w.heap.size, 0, none⟩ = some (.int .u64 (p : Int)) := (by simp [World.cell?, t1]); have x1 : w1.cell? ⟨w.heap.size, 1, none⟩ = some (.int .u64 (c : Int)) := (by simp [World.cell?, t1]); have x2 : w1.cell? ⟨w.heap.size, 2, none⟩ = some (.string s) := (by simp [World.cell?, t1]); have xf := fun j => row_thawed t1 j; have xf0 := xf 0; have yf0 := row_thawed t2 0; have yf1 := row_thawed t2 1; have yf2 := row_thawed t2 2; have y0 : w1.cell? ⟨w.heap.size + 1, 0, none⟩ = some (.int .u64 0) := (by simp [World.cell?, t2]); have y1 : w1.cell? ⟨w.heap.size + 1, 1, none⟩ = some (.int .u64 0) := (by simp [World.cell?, t2]); have y2 : w1.cell? ⟨w.heap.size + 1, 2, none⟩ = some (.string ⟨#[]⟩) := (by simp [World.cell?, t2]))
    have r := row_setB (row_setB (row_setB t2 0 (.int .u64 0)) 1 (.int .u64 0)) 2 (.string ⟨#[]⟩)
    exact bodyPost_ret (v := .tuple #[.agg #[.int .u64 0, .int .u64 0, .string ⟨#[]⟩], .int .i64 2]) (by simp [results, Try.results13, go_sem, World.cell?, r]) rfl ⟨rfl, (((two_below hb1).setCell (p := ⟨w.heap.size + 1, 0, none⟩) (by simp) _).setCell (p := ⟨w.heap.size + 1, 1, none⟩) (by simp) _).setCell (p := ⟨w.heap.size + 1, 2, none⟩) (by simp) _⟩
set_option maxRecDepth 100000 in
set_option maxHeartbeats 1000000 in
theorem refCast (v : Vt) (b : Nat) (u : ByteArray) (hs : v.val'.size ≤ 1000000) (hu : u.size ≤ 1000000) (w : World) : Calls Try.prog 15 #[v.val, .int .u64 (b : Int), .string u] w fun e w' => e = .returned (.tuple #[(Bt.castV v b u).val, .int .i64 (Bt.castE v b u)]) ∧ Below w.heap.size w w' := by
  have HRT := Lib.hid (fun W => refRight v hs W)
  have HE := Lib.hid (show Bt.castE v b u = if Bt.Right v ∧ 1 ≤ b ∧ u.size ≤ 4000 then if b < v.prom then 80 else 0 else 2 from rfl)
  have HV := Lib.hid (show Bt.castV v b u = if Bt.castE v b u = 0 then ⟨b, b, u⟩ else Vt.zero from rfl)
  obtain ⟨p, c, s⟩ := v
  unfold Vt.val at HRT ⊢
  dsimp only at hs HRT ⊢
  by_cases hr : Bt.Right ⟨p, c, s⟩
  · rw [decide_eq_true hr] at HRT
    by_cases h1 : 1 ≤ b
    · have d1 : decide ((b : Int) < 1) = false := decide_eq_false (by omega)
      have d1' : ¬ (b : Int) < 1 := by omega
      by_cases h3 : u.size ≤ 4000
      · have d3 : decide ((4000 : Int) < (u.size : Int)) = false := decide_eq_false (by omega)
        have d3' : ¬ (4000 : Int) < (u.size : Int) := by omega
        by_cases h2 : b < p
        · have d2 : decide ((b : Int) < (p : Int)) = true := decide_eq_true (by omega)
          have d2' : (b : Int) < (p : Int) := by omega
          have hE : Bt.castE ⟨p, c, s⟩ b u = 80 := by rw [HE.out, if_pos ⟨hr, h1, h3⟩, if_pos h2]
          have hV : Bt.castV ⟨p, c, s⟩ b u = Vt.zero := by rw [HV.out, hE]; rfl
          rw [hE, hV]
          clear hr h1 h2 h3 hu HE HV hE hV
          go_enter Try.func15, Try.ntmps15
          go_wp2_with (go_at_call 17; refine (HRT.out _).mono ?_; rintro e w1 ⟨rfl, hb1⟩; obtain ⟨t1, t2⟩ := two_boxes hb1; have x0 : w1.cell? ⟨w.heap.size, 0, none⟩ = some (.int .u64 (p : Int)) := (by simp [World.cell?, t1]); have x1 : w1.cell? ⟨w.heap.size, 1, none⟩ = some (.int .u64 (c : Int)) := (by simp [World.cell?, t1]); have x2 : w1.cell? ⟨w.heap.size, 2, none⟩ = some (.string s) := (by simp [World.cell?, t1]); have xf := fun j => row_thawed t1 j; have xf0 := xf 0; have yf0 := row_thawed t2 0; have yf1 := row_thawed t2 1; have yf2 := row_thawed t2 2; have y0 : w1.cell? ⟨w.heap.size + 1, 0, none⟩ = some (.int .u64 0) := (by simp [World.cell?, t2]); have y1 : w1.cell? ⟨w.heap.size + 1, 1, none⟩ = some (.int .u64 0) := (by simp [World.cell?, t2]); have y2 : w1.cell? ⟨w.heap.size + 1, 2, none⟩ = some (.string ⟨#[]⟩) := (by simp [World.cell?, t2]))
          have r := row_setB (row_setB (row_setB t2 0 (.int .u64 0)) 1 (.int .u64 0)) 2 (.string ⟨#[]⟩)
          exact bodyPost_ret (v := .tuple #[.agg #[.int .u64 0, .int .u64 0, .string ⟨#[]⟩], .int .i64 80]) (by simp [results, Try.results15, go_sem, World.cell?, r]) rfl ⟨rfl, (((two_below hb1).setCell (p := ⟨w.heap.size + 1, 0, none⟩) (by simp) _).setCell (p := ⟨w.heap.size + 1, 1, none⟩) (by simp) _).setCell (p := ⟨w.heap.size + 1, 2, none⟩) (by simp) _⟩
        · have d2 : decide ((b : Int) < (p : Int)) = false := decide_eq_false (by omega)
          have d2' : ¬ (b : Int) < (p : Int) := by omega
          have hE : Bt.castE ⟨p, c, s⟩ b u = 0 := by rw [HE.out, if_pos ⟨hr, h1, h3⟩, if_neg h2]
          have hV : Bt.castV ⟨p, c, s⟩ b u = ⟨b, b, u⟩ := by rw [HV.out, hE]; rfl
          rw [hE, hV]
          clear hr h1 h2 h3 hu HE HV hE hV
          go_enter Try.func15, Try.ntmps15
          go_wp2_with (go_at_call 17; refine (HRT.out _).mono ?_; rintro e w1 ⟨rfl, hb1⟩; obtain ⟨t1, t2⟩ := two_boxes hb1; have x0 : w1.cell? ⟨w.heap.size, 0, none⟩ = some (.int .u64 (p : Int)) := (by simp [World.cell?, t1]); have x1 : w1.cell? ⟨w.heap.size, 1, none⟩ = some (.int .u64 (c : Int)) := (by simp [World.cell?, t1]); have x2 : w1.cell? ⟨w.heap.size, 2, none⟩ = some (.string s) := (by simp [World.cell?, t1]); have xf := fun j => row_thawed t1 j; have xf0 := xf 0; have yf0 := row_thawed t2 0; have yf1 := row_thawed t2 1; have yf2 := row_thawed t2 2; have y0 : w1.cell? ⟨w.heap.size + 1, 0, none⟩ = some (.int .u64 0) := (by simp [World.cell?, t2]); have y1 : w1.cell? ⟨w.heap.size + 1, 1, none⟩ = some (.int .u64 0) := (by simp [World.cell?, t2]); have y2 : w1.cell? ⟨w.heap.size + 1, 2, none⟩ = some (.string ⟨#[]⟩) := (by simp [World.cell?, t2]))
          have r := row_setB (row_setB (row_setB t2 0 (.int .u64 (b : Int))) 1 (.int .u64 (b : Int))) 2 (.string u)
          exact bodyPost_ret (v := .tuple #[.agg #[.int .u64 (b : Int), .int .u64 (b : Int), .string u], .int .i64 0]) (by simp [results, Try.results15, go_sem, World.cell?, r]) rfl ⟨rfl, (((two_below hb1).setCell (p := ⟨w.heap.size + 1, 0, none⟩) (by simp) _).setCell (p := ⟨w.heap.size + 1, 1, none⟩) (by simp) _).setCell (p := ⟨w.heap.size + 1, 2, none⟩) (by simp) _⟩
      · have d3 : decide ((4000 : Int) < (u.size : Int)) = true := decide_eq_true (by omega)
        have d3' : (4000 : Int) < (u.size : Int) := by omega
        have hE : Bt.castE ⟨p, c, s⟩ b u = 2 := by rw [HE.out, if_neg (fun h => h3 h.2.2)]
        have hV : Bt.castV ⟨p, c, s⟩ b u = Vt.zero := by rw [HV.out, hE]; rfl
        rw [hE, hV]
        clear hr h1 h3 hu HE HV hE hV
        go_enter Try.func15, Try.ntmps15
        go_wp2_with (go_at_call 17; refine (HRT.out _).mono ?_; rintro e w1 ⟨rfl, hb1⟩; obtain ⟨t1, t2⟩ := two_boxes hb1; have x0 : w1.cell? ⟨w.heap.size, 0, none⟩ = some (.int .u64 (p : Int)) := (by simp [World.cell?, t1]); have x1 : w1.cell? ⟨w.heap.size, 1, none⟩ = some (.int .u64 (c : Int)) := (by simp [World.cell?, t1]); have x2 : w1.cell? ⟨w.heap.size, 2, none⟩ = some (.string s) := (by simp [World.cell?, t1]); have xf := fun j => row_thawed t1 j; have xf0 := xf 0; have yf0 := row_thawed t2 0; have yf1 := row_thawed t2 1; have yf2 := row_thawed t2 2; have y0 : w1.cell? ⟨w.heap.size + 1, 0, none⟩ = some (.int .u64 0) := (by simp [World.cell?, t2]); have y1 : w1.cell? ⟨w.heap.size + 1, 1, none⟩ = some (.int .u64 0) := (by simp [World.cell?, t2]); have y2 : w1.cell? ⟨w.heap.size + 1, 2, none⟩ = some (.string ⟨#[]⟩) := (by simp [World.cell?, t2]))
        have r := row_setB (row_setB (row_setB t2 0 (.int .u64 0)) 1 (.int .u64 0)) 2 (.string ⟨#[]⟩)
        exact bodyPost_ret (v := .tuple #[.agg #[.int .u64 0, .int .u64 0, .string ⟨#[]⟩], .int .i64 2]) (by simp [results, Try.results15, go_sem, World.cell?, r]) rfl ⟨rfl, (((two_below hb1).setCell (p := ⟨w.heap.size + 1, 0, none⟩) (by simp) _).setCell (p := ⟨w.heap.size + 1, 1, none⟩) (by simp) _).setCell (p := ⟨w.heap.size + 1, 2, none⟩) (by simp) _⟩
    · have d1 : decide ((b : Int) < 1) = true := decide_eq_true (by omega)
      have d1' : (b : Int) < 1 := by omega
      have hE : Bt.castE ⟨p, c, s⟩ b u = 2 := by rw [HE.out, if_neg (fun h => h1 h.2.1)]
      have hV : Bt.castV ⟨p, c, s⟩ b u = Vt.zero := by rw [HV.out, hE]; rfl
      rw [hE, hV]
      clear hr h1 hu HE HV hE hV
      go_enter Try.func15, Try.ntmps15
      go_wp2_with (go_at_call 17; refine (HRT.out _).mono ?_; rintro e w1 ⟨rfl, hb1⟩; obtain ⟨t1, t2⟩ := two_boxes hb1; have x0 : w1.cell? ⟨w.heap.size, 0, none⟩ = some (.int .u64 (p : Int)) := (by simp [World.cell?, t1]); have x1 : w1.cell? ⟨w.heap.size, 1, none⟩ = some (.int .u64 (c : Int)) := (by simp [World.cell?, t1]); have x2 : w1.cell? ⟨w.heap.size, 2, none⟩ = some (.string s) := (by simp [World.cell?, t1]); have xf := fun j => row_thawed t1 j; have xf0 := xf 0; have yf0 := row_thawed t2 0; have yf1 := row_thawed t2 1; have yf2 := row_thawed t2 2; have y0 : w1.cell? ⟨w.heap.size + 1, 0, none⟩ = some (.int .u64 0) := (by simp [World.cell?, t2]); have y1 : w1.cell? ⟨w.heap.size + 1, 1, none⟩ = some (.int .u64 0) := (by simp [World.cell?, t2]); have y2 : w1.cell? ⟨w.heap.size + 1, 2, none⟩ = some (.string ⟨#[]⟩) := (by simp [World.cell?, t2]))
      have r := row_setB (row_setB (row_setB t2 0 (.int .u64 0)) 1 (.int .u64 0)) 2 (.string ⟨#[]⟩)
      exact bodyPost_ret (v := .tuple #[.agg #[.int .u64 0, .int .u64 0, .string ⟨#[]⟩], .int .i64 2]) (by simp [results, Try.results15, go_sem, World.cell?, r]) rfl ⟨rfl, (((two_below hb1).setCell (p := ⟨w.heap.size + 1, 0, none⟩) (by simp) _).setCell (p := ⟨w.heap.size + 1, 1, none⟩) (by simp) _).setCell (p := ⟨w.heap.size + 1, 2, none⟩) (by simp) _⟩
  · rw [decide_eq_false hr] at HRT
    have hE : Bt.castE ⟨p, c, s⟩ b u = 2 := by rw [HE.out, if_neg (fun h => hr h.1)]
    have hV : Bt.castV ⟨p, c, s⟩ b u = Vt.zero := by rw [HV.out, hE]; rfl
    rw [hE, hV]
    clear hr hu HE HV hE hV
    go_enter Try.func15, Try.ntmps15
    go_wp2_with (go_at_call 17; refine (HRT.out _).mono ?_; rintro e w1 ⟨rfl, hb1⟩; obtain ⟨t1, t2⟩ := two_boxes hb1; have x0 : w1.cell? ⟨w.heap.size, 0, none⟩ = some (.int .u64 (p : Int)) := (by simp [World.cell?, t1]); have x1 : w1.cell? ⟨w.heap.size, 1, none⟩ = some (.int .u64 (c : Int)) := (by simp [World.cell?, t1]); have x2 : w1.cell? ⟨w.heap.size, 2, none⟩ = some (.string s) := (by simp [World.cell?, t1]); have xf := fun j => row_thawed t1 j; have xf0 := xf 0; have yf0 := row_thawed t2 0; have yf1 := row_thawed t2 1; have yf2 := row_thawed t2 2; have y0 : w1.cell? ⟨w.heap.size + 1, 0, none⟩ = some (.int .u64 0) := (by simp [World.cell?, t2]); have y1 : w1.cell? ⟨w.heap.size + 1, 1, none⟩ = some (.int .u64 0) := (by simp [World.cell?, t2]); have y2 : w1.cell? ⟨w.heap.size + 1, 2, none⟩ = some (.string ⟨#[]⟩) := (by simp [World.cell?, t2]))
    have r := row_setB (row_setB (row_setB t2 0 (.int .u64 0)) 1 (.int .u64 0)) 2 (.string ⟨#[]⟩)
    exact bodyPost_ret (v := .tuple #[.agg #[.int .u64 0, .int .u64 0, .string ⟨#[]⟩], .int .i64 2]) (by simp [results, Try.results15, go_sem, World.cell?, r]) rfl ⟨rfl, (((two_below hb1).setCell (p := ⟨w.heap.size + 1, 0, none⟩) (by simp) _).setCell (p := ⟨w.heap.size + 1, 1, none⟩) (by simp) _).setCell (p := ⟨w.heap.size + 1, 2, none⟩) (by simp) _⟩
end Go.Proofs.Ytigameebcicgpaa
