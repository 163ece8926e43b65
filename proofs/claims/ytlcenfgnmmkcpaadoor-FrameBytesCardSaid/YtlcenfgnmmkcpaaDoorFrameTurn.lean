/-
  frame.Turn and frame.Agreed walked through.
-/
import Derived.Test.YtlcenfgnmmkcpaaDoorFrameDecode
import Derived.Test.YtlcenfgnmmkcpaaDoorFrameRight2
import Derived.Test.YtlcenfgnmmkcpaaDoorShelfClone
namespace Go.Proofs.YtlcenfgnmmkcpaaDoor
open Go.RowKit Go.Shelf
attribute [local go_sem] Oper.semAt_some
set_option linter.unusedVariables false
set_option linter.unusedSimpArgs false

set_option maxRecDepth 100000 in
set_option maxHeartbeats 4000000 in
theorem turnNo (f : Fr) (n : Int) (hs : f.data.size ≤ maxLen) (hr : ¬ f.Right) (w : World) : Calls Tryd.prog 18 #[f.val, .int .i64 n] w fun e w' =>
    e = .returned (.tuple #[Fr.nil.val, .int .i64 20]) ∧ Below w.heap.size w w' := by
  have hd : decide f.Right = false := by simpa using hr
  go_enter Tryd.func18, Tryd.ntmps18
  unfold Fr.val Fr.cells
  have hB0 : Below w.heap.size w ((w.alloc (.cells #[.int .i64 f.wire, .int .i64 f.kind, .int .i64 f.src, .int .i64 f.dst, .int .u32 (f.life.toNat : Int), .int .u32 (f.seq.toNat : Int), .int .u32 (f.ack.toNat : Int), .int .u32 (f.hint.toNat : Int), .string f.data] 24)).alloc (.cells #[.int .i64 0, .int .i64 0, .int .i64 0, .int .i64 0, .int .u32 0, .int .u32 0, .int .u32 0, .int .u32 0, .string ⟨#[]⟩] 24)) := ((Below.refl _ w).alloc (Nat.le_refl _) _).alloc (by simp) _
  have rf := (Row.new w #[.int .i64 f.wire, .int .i64 f.kind, .int .i64 f.src, .int .i64 f.dst, .int .u32 (f.life.toNat : Int), .int .u32 (f.seq.toNat : Int), .int .u32 (f.ack.toNat : Int), .int .u32 (f.hint.toNat : Int), .string f.data] 24).alloc (.cells #[.int .i64 0, .int .i64 0, .int .i64 0, .int .i64 0, .int .u32 0, .int .u32 0, .int .u32 0, .int .u32 0, .string ⟨#[]⟩] 24)
  have rz := Row.new (w.alloc (.cells #[.int .i64 f.wire, .int .i64 f.kind, .int .i64 f.src, .int .i64 f.dst, .int .u32 (f.life.toNat : Int), .int .u32 (f.seq.toNat : Int), .int .u32 (f.ack.toNat : Int), .int .u32 (f.hint.toNat : Int), .string f.data] 24)) #[.int .i64 0, .int .i64 0, .int .i64 0, .int .i64 0, .int .u32 0, .int .u32 0, .int .u32 0, .int .u32 0, .string ⟨#[]⟩] 24
  have hV : ((w.alloc (.cells #[.int .i64 f.wire, .int .i64 f.kind, .int .i64 f.src, .int .i64 f.dst, .int .u32 (f.life.toNat : Int), .int .u32 (f.seq.toNat : Int), .int .u32 (f.ack.toNat : Int), .int .u32 (f.hint.toNat : Int), .string f.data] 24)).alloc (.cells #[.int .i64 0, .int .i64 0, .int .i64 0, .int .i64 0, .int .u32 0, .int .u32 0, .int .u32 0, .int .u32 0, .string ⟨#[]⟩] 24)).heap.size = w.heap.size + 2 := by simp
  simp only [World.size_alloc] at rz
  have hne : ¬ w.heap.size + 1 = w.heap.size := by omega
  have hne' : ¬ w.heap.size = w.heap.size + 1 := by omega
  go_wp2_with (first
    | (go_at_call 13
       refine (frameRight f hs _).mono ?_
       rintro e w1 ⟨rfl, hb1⟩
       rw [hd]
       have hs1 := hb1.size
       replace hB0 := hB0.trans (hb1.mono hB0.size)
       replace rz := rz.below hb1 (by omega)
       replace rf := rf.below hb1 (by omega)
       rw [hV] at hs1
       clear hb1 hV
       have z0 := rz.cell 0 _ rfl
       have y0 := rz.thawed 0
       have z1 := rz.cell 1 _ rfl
       have y1 := rz.thawed 1
       have z2 := rz.cell 2 _ rfl
       have y2 := rz.thawed 2
       have z3 := rz.cell 3 _ rfl
       have y3 := rz.thawed 3
       have z4 := rz.cell 4 _ rfl
       have y4 := rz.thawed 4
       have z5 := rz.cell 5 _ rfl
       have y5 := rz.thawed 5
       have z6 := rz.cell 6 _ rfl
       have y6 := rz.thawed 6
       have z7 := rz.cell 7 _ rfl
       have y7 := rz.thawed 7
       have z8 := rz.cell 8 _ rfl
       have y8 := rz.thawed 8))
  have rZ := (row_fill (.int .i64 0) (.int .i64 0) (.int .i64 0) (.int .i64 0) (.int .u32 0) (.int .u32 0) (.int .u32 0) (.int .u32 0) (.string ⟨#[]⟩) (.int .i64 0) (.int .i64 0) (.int .i64 0) (.int .i64 0) (.int .u32 0) (.int .u32 0) (.int .u32 0) (.int .u32 0) (.string ⟨#[]⟩) rz)
  have bZ := (below_fill (.int .i64 0) (.int .i64 0) (.int .i64 0) (.int .i64 0) (.int .u32 0) (.int .u32 0) (.int .u32 0) (.int .u32 0) (.string ⟨#[]⟩) hB0 (b := w.heap.size + 1) (by omega))
  change bodyPost _ _ _ _ _ (fill9 w1 (w.heap.size + 1) (.int .i64 0) (.int .i64 0) (.int .i64 0) (.int .i64 0) (.int .u32 0) (.int .u32 0) (.int .u32 0) (.int .u32 0) (.string ⟨#[]⟩))
  generalize (fill9 w1 (w.heap.size + 1) (.int .i64 0) (.int .i64 0) (.int .i64 0) (.int .i64 0) (.int .u32 0) (.int .u32 0) (.int .u32 0) (.int .u32 0) (.string ⟨#[]⟩)) = Z at *
  have p0 := rZ.cell 0 _ rfl; have p1 := rZ.cell 1 _ rfl; have p2 := rZ.cell 2 _ rfl; have p3 := rZ.cell 3 _ rfl; have p4 := rZ.cell 4 _ rfl; have p5 := rZ.cell 5 _ rfl; have p6 := rZ.cell 6 _ rfl; have p7 := rZ.cell 7 _ rfl; have p8 := rZ.cell 8 _ rfl
  exact bodyPost_ret (v := .tuple #[.agg #[.int .i64 0, .int .i64 0, .int .i64 0, .int .i64 0, .int .u32 0, .int .u32 0, .int .u32 0, .int .u32 0, .string ⟨#[]⟩], .int .i64 20]) (by simp [results, Tryd.results18, go_sem, p0, p1, p2, p3, p4, p5, p6, p7, p8]) rfl ⟨rfl, bZ⟩
set_option maxRecDepth 100000 in
set_option maxHeartbeats 4000000 in
theorem turnOld (f : Fr) (n : Int) (hs : f.data.size ≤ maxLen) (hr : f.Right) (hk : ver n = false) (w : World) : Calls Tryd.prog 18 #[f.val, .int .i64 n] w fun e w' =>
    e = .returned (.tuple #[Fr.nil.val, .int .i64 22]) ∧ Below w.heap.size w w' := by
  have hd : decide f.Right = true := by simpa using hr
  go_enter Tryd.func18, Tryd.ntmps18
  unfold Fr.val Fr.cells
  have hB0 : Below w.heap.size w ((w.alloc (.cells #[.int .i64 f.wire, .int .i64 f.kind, .int .i64 f.src, .int .i64 f.dst, .int .u32 (f.life.toNat : Int), .int .u32 (f.seq.toNat : Int), .int .u32 (f.ack.toNat : Int), .int .u32 (f.hint.toNat : Int), .string f.data] 24)).alloc (.cells #[.int .i64 0, .int .i64 0, .int .i64 0, .int .i64 0, .int .u32 0, .int .u32 0, .int .u32 0, .int .u32 0, .string ⟨#[]⟩] 24)) := ((Below.refl _ w).alloc (Nat.le_refl _) _).alloc (by simp) _
  have rf := (Row.new w #[.int .i64 f.wire, .int .i64 f.kind, .int .i64 f.src, .int .i64 f.dst, .int .u32 (f.life.toNat : Int), .int .u32 (f.seq.toNat : Int), .int .u32 (f.ack.toNat : Int), .int .u32 (f.hint.toNat : Int), .string f.data] 24).alloc (.cells #[.int .i64 0, .int .i64 0, .int .i64 0, .int .i64 0, .int .u32 0, .int .u32 0, .int .u32 0, .int .u32 0, .string ⟨#[]⟩] 24)
  have rz := Row.new (w.alloc (.cells #[.int .i64 f.wire, .int .i64 f.kind, .int .i64 f.src, .int .i64 f.dst, .int .u32 (f.life.toNat : Int), .int .u32 (f.seq.toNat : Int), .int .u32 (f.ack.toNat : Int), .int .u32 (f.hint.toNat : Int), .string f.data] 24)) #[.int .i64 0, .int .i64 0, .int .i64 0, .int .i64 0, .int .u32 0, .int .u32 0, .int .u32 0, .int .u32 0, .string ⟨#[]⟩] 24
  have hV : ((w.alloc (.cells #[.int .i64 f.wire, .int .i64 f.kind, .int .i64 f.src, .int .i64 f.dst, .int .u32 (f.life.toNat : Int), .int .u32 (f.seq.toNat : Int), .int .u32 (f.ack.toNat : Int), .int .u32 (f.hint.toNat : Int), .string f.data] 24)).alloc (.cells #[.int .i64 0, .int .i64 0, .int .i64 0, .int .i64 0, .int .u32 0, .int .u32 0, .int .u32 0, .int .u32 0, .string ⟨#[]⟩] 24)).heap.size = w.heap.size + 2 := by simp
  simp only [World.size_alloc] at rz
  have hne : ¬ w.heap.size + 1 = w.heap.size := by omega
  have hne' : ¬ w.heap.size = w.heap.size + 1 := by omega
  go_wp2_with (first
    | (go_at_call 13
       refine (frameRight f hs _).mono ?_
       rintro e w1 ⟨rfl, hb1⟩
       rw [hd]
       have hs1 := hb1.size
       replace hB0 := hB0.trans (hb1.mono hB0.size)
       replace rz := rz.below hb1 (by omega)
       replace rf := rf.below hb1 (by omega)
       rw [hV] at hs1
       clear hb1 hV
       have z0 := rz.cell 0 _ rfl
       have y0 := rz.thawed 0
       have z1 := rz.cell 1 _ rfl
       have y1 := rz.thawed 1
       have z2 := rz.cell 2 _ rfl
       have y2 := rz.thawed 2
       have z3 := rz.cell 3 _ rfl
       have y3 := rz.thawed 3
       have z4 := rz.cell 4 _ rfl
       have y4 := rz.thawed 4
       have z5 := rz.cell 5 _ rfl
       have y5 := rz.thawed 5
       have z6 := rz.cell 6 _ rfl
       have y6 := rz.thawed 6
       have z7 := rz.cell 7 _ rfl
       have y7 := rz.thawed 7
       have z8 := rz.cell 8 _ rfl
       have y8 := rz.thawed 8)
    | (go_at_call 30
       refine (frameKnown1 w1.heap.size _ n _ (by simp)).mono ?_
       rintro e w2 ⟨rfl, hb2⟩
       have hk1 := hb2.size
       rw [World.size_alloc] at hk1
       rw [hk]
       have hBk := (hB0.alloc hB0.size (.cells #[.int .i64 n] 3))
       replace hB0 := hBk.trans (hb2.mono hBk.size)
       replace rz := (rz.alloc (.cells #[.int .i64 n] 3)).below hb2 (by simp; omega)
       replace rf := (rf.alloc (.cells #[.int .i64 n] 3)).below hb2 (by simp; omega)
       clear hb2 hBk z0 z1 z2 z3 z4 z5 z6 z7 z8 y0 y1 y2 y3 y4 y5 y6 y7 y8
       have z0 := rz.cell 0 _ rfl
       have y0 := rz.thawed 0
       have z1 := rz.cell 1 _ rfl
       have y1 := rz.thawed 1
       have z2 := rz.cell 2 _ rfl
       have y2 := rz.thawed 2
       have z3 := rz.cell 3 _ rfl
       have y3 := rz.thawed 3
       have z4 := rz.cell 4 _ rfl
       have y4 := rz.thawed 4
       have z5 := rz.cell 5 _ rfl
       have y5 := rz.thawed 5
       have z6 := rz.cell 6 _ rfl
       have y6 := rz.thawed 6
       have z7 := rz.cell 7 _ rfl
       have y7 := rz.thawed 7
       have z8 := rz.cell 8 _ rfl
       have y8 := rz.thawed 8
       have f0 := rf.cell 0 _ rfl
       have g0 := rf.thawed 0
       have f1 := rf.cell 1 _ rfl
       have g1 := rf.thawed 1
       have f2 := rf.cell 2 _ rfl
       have g2 := rf.thawed 2
       have f3 := rf.cell 3 _ rfl
       have g3 := rf.thawed 3
       have f4 := rf.cell 4 _ rfl
       have g4 := rf.thawed 4
       have f5 := rf.cell 5 _ rfl
       have g5 := rf.thawed 5
       have f6 := rf.cell 6 _ rfl
       have g6 := rf.thawed 6
       have f7 := rf.cell 7 _ rfl
       have g7 := rf.thawed 7
       have f8 := rf.cell 8 _ rfl
       have g8 := rf.thawed 8))
  have rZ := (row_fill (.int .i64 0) (.int .i64 0) (.int .i64 0) (.int .i64 0) (.int .u32 0) (.int .u32 0) (.int .u32 0) (.int .u32 0) (.string ⟨#[]⟩) (.int .i64 0) (.int .i64 0) (.int .i64 0) (.int .i64 0) (.int .u32 0) (.int .u32 0) (.int .u32 0) (.int .u32 0) (.string ⟨#[]⟩) rz)
  have bZ := (below_fill (.int .i64 0) (.int .i64 0) (.int .i64 0) (.int .i64 0) (.int .u32 0) (.int .u32 0) (.int .u32 0) (.int .u32 0) (.string ⟨#[]⟩) hB0 (b := w.heap.size + 1) (by omega))
  change bodyPost _ _ _ _ _ (fill9 w2 (w.heap.size + 1) (.int .i64 0) (.int .i64 0) (.int .i64 0) (.int .i64 0) (.int .u32 0) (.int .u32 0) (.int .u32 0) (.int .u32 0) (.string ⟨#[]⟩))
  generalize (fill9 w2 (w.heap.size + 1) (.int .i64 0) (.int .i64 0) (.int .i64 0) (.int .i64 0) (.int .u32 0) (.int .u32 0) (.int .u32 0) (.int .u32 0) (.string ⟨#[]⟩)) = Z at *
  have p0 := rZ.cell 0 _ rfl; have p1 := rZ.cell 1 _ rfl; have p2 := rZ.cell 2 _ rfl; have p3 := rZ.cell 3 _ rfl; have p4 := rZ.cell 4 _ rfl; have p5 := rZ.cell 5 _ rfl; have p6 := rZ.cell 6 _ rfl; have p7 := rZ.cell 7 _ rfl; have p8 := rZ.cell 8 _ rfl
  exact bodyPost_ret (v := .tuple #[.agg #[.int .i64 0, .int .i64 0, .int .i64 0, .int .i64 0, .int .u32 0, .int .u32 0, .int .u32 0, .int .u32 0, .string ⟨#[]⟩], .int .i64 22]) (by simp [results, Tryd.results18, go_sem, p0, p1, p2, p3, p4, p5, p6, p7, p8]) rfl ⟨rfl, bZ⟩
set_option maxRecDepth 100000 in
set_option maxHeartbeats 4000000 in
theorem turnYes (f : Fr) (n : Int) (hs : f.data.size ≤ maxLen) (F : Fr) (hF : f.turn n = F) (hr : f.Right) (hk : ver n = true) (w : World) : Calls Tryd.prog 18 #[f.val, .int .i64 n] w fun e w' =>
    e = .returned (.tuple #[F.val, .int .i64 0]) ∧ Below w.heap.size w w' := by
  have hd : decide f.Right = true := by simpa using hr
  have hT := fun w => frameTurned f n w
  have hF4 : F.data.size ≤ 281474976710656 := by rw [← hF]; exact Nat.le_trans hr.2.2.2.2.1 (by decide)
  rw [hF] at hT
  have HT := Lib.hid hT
  clear hF hT
  go_enter Tryd.func18, Tryd.ntmps18
  unfold Fr.val Fr.cells
  have hB0 : Below w.heap.size w ((w.alloc (.cells #[.int .i64 f.wire, .int .i64 f.kind, .int .i64 f.src, .int .i64 f.dst, .int .u32 (f.life.toNat : Int), .int .u32 (f.seq.toNat : Int), .int .u32 (f.ack.toNat : Int), .int .u32 (f.hint.toNat : Int), .string f.data] 24)).alloc (.cells #[.int .i64 0, .int .i64 0, .int .i64 0, .int .i64 0, .int .u32 0, .int .u32 0, .int .u32 0, .int .u32 0, .string ⟨#[]⟩] 24)) := ((Below.refl _ w).alloc (Nat.le_refl _) _).alloc (by simp) _
  have rf := (Row.new w #[.int .i64 f.wire, .int .i64 f.kind, .int .i64 f.src, .int .i64 f.dst, .int .u32 (f.life.toNat : Int), .int .u32 (f.seq.toNat : Int), .int .u32 (f.ack.toNat : Int), .int .u32 (f.hint.toNat : Int), .string f.data] 24).alloc (.cells #[.int .i64 0, .int .i64 0, .int .i64 0, .int .i64 0, .int .u32 0, .int .u32 0, .int .u32 0, .int .u32 0, .string ⟨#[]⟩] 24)
  have rz := Row.new (w.alloc (.cells #[.int .i64 f.wire, .int .i64 f.kind, .int .i64 f.src, .int .i64 f.dst, .int .u32 (f.life.toNat : Int), .int .u32 (f.seq.toNat : Int), .int .u32 (f.ack.toNat : Int), .int .u32 (f.hint.toNat : Int), .string f.data] 24)) #[.int .i64 0, .int .i64 0, .int .i64 0, .int .i64 0, .int .u32 0, .int .u32 0, .int .u32 0, .int .u32 0, .string ⟨#[]⟩] 24
  have hV : ((w.alloc (.cells #[.int .i64 f.wire, .int .i64 f.kind, .int .i64 f.src, .int .i64 f.dst, .int .u32 (f.life.toNat : Int), .int .u32 (f.seq.toNat : Int), .int .u32 (f.ack.toNat : Int), .int .u32 (f.hint.toNat : Int), .string f.data] 24)).alloc (.cells #[.int .i64 0, .int .i64 0, .int .i64 0, .int .i64 0, .int .u32 0, .int .u32 0, .int .u32 0, .int .u32 0, .string ⟨#[]⟩] 24)).heap.size = w.heap.size + 2 := by simp
  simp only [World.size_alloc] at rz
  have hne : ¬ w.heap.size + 1 = w.heap.size := by omega
  have hne' : ¬ w.heap.size = w.heap.size + 1 := by omega
  go_wp2_with (first
    | (go_at_call 13
       refine (frameRight f hs _).mono ?_
       rintro e w1 ⟨rfl, hb1⟩
       rw [hd]
       have hs1 := hb1.size
       replace hB0 := hB0.trans (hb1.mono hB0.size)
       replace rz := rz.below hb1 (by omega)
       replace rf := rf.below hb1 (by omega)
       rw [hV] at hs1
       clear hb1 hV
       have z0 := rz.cell 0 _ rfl
       have y0 := rz.thawed 0
       have z1 := rz.cell 1 _ rfl
       have y1 := rz.thawed 1
       have z2 := rz.cell 2 _ rfl
       have y2 := rz.thawed 2
       have z3 := rz.cell 3 _ rfl
       have y3 := rz.thawed 3
       have z4 := rz.cell 4 _ rfl
       have y4 := rz.thawed 4
       have z5 := rz.cell 5 _ rfl
       have y5 := rz.thawed 5
       have z6 := rz.cell 6 _ rfl
       have y6 := rz.thawed 6
       have z7 := rz.cell 7 _ rfl
       have y7 := rz.thawed 7
       have z8 := rz.cell 8 _ rfl
       have y8 := rz.thawed 8)
    | (go_at_call 30
       refine (frameKnown1 w1.heap.size _ n _ (by simp)).mono ?_
       rintro e w2 ⟨rfl, hb2⟩
       have hk1 := hb2.size
       rw [World.size_alloc] at hk1
       rw [hk]
       have hBk := (hB0.alloc hB0.size (.cells #[.int .i64 n] 3))
       replace hB0 := hBk.trans (hb2.mono hBk.size)
       replace rz := (rz.alloc (.cells #[.int .i64 n] 3)).below hb2 (by simp; omega)
       replace rf := (rf.alloc (.cells #[.int .i64 n] 3)).below hb2 (by simp; omega)
       clear hb2 hBk z0 z1 z2 z3 z4 z5 z6 z7 z8 y0 y1 y2 y3 y4 y5 y6 y7 y8
       have z0 := rz.cell 0 _ rfl
       have y0 := rz.thawed 0
       have z1 := rz.cell 1 _ rfl
       have y1 := rz.thawed 1
       have z2 := rz.cell 2 _ rfl
       have y2 := rz.thawed 2
       have z3 := rz.cell 3 _ rfl
       have y3 := rz.thawed 3
       have z4 := rz.cell 4 _ rfl
       have y4 := rz.thawed 4
       have z5 := rz.cell 5 _ rfl
       have y5 := rz.thawed 5
       have z6 := rz.cell 6 _ rfl
       have y6 := rz.thawed 6
       have z7 := rz.cell 7 _ rfl
       have y7 := rz.thawed 7
       have z8 := rz.cell 8 _ rfl
       have y8 := rz.thawed 8
       have f0 := rf.cell 0 _ rfl
       have g0 := rf.thawed 0
       have f1 := rf.cell 1 _ rfl
       have g1 := rf.thawed 1
       have f2 := rf.cell 2 _ rfl
       have g2 := rf.thawed 2
       have f3 := rf.cell 3 _ rfl
       have g3 := rf.thawed 3
       have f4 := rf.cell 4 _ rfl
       have g4 := rf.thawed 4
       have f5 := rf.cell 5 _ rfl
       have g5 := rf.thawed 5
       have f6 := rf.cell 6 _ rfl
       have g6 := rf.thawed 6
       have f7 := rf.cell 7 _ rfl
       have g7 := rf.thawed 7
       have f8 := rf.cell 8 _ rfl
       have g8 := rf.thawed 8)
    | (go_at_call 31
       refine (HT.out _).mono ?_
       rintro e w3 ⟨rfl, hb3⟩
       unfold Fr.val Fr.cells
       have hk3 := hb3.size
       replace hB0 := hB0.trans (hb3.mono hB0.size)
       replace rz := rz.below hb3 (by omega)
       replace rf := rf.below hb3 (by omega)
       clear hb3 z0 z1 z2 z3 z4 z5 z6 z7 z8 y0 y1 y2 y3 y4 y5 y6 y7 y8 f0 f1 f2 f3 f4 f5 f6 f7 f8 g0 g1 g2 g3 g4 g5 g6 g7 g8
       have z0 := rz.cell 0 _ rfl
       have y0 := rz.thawed 0
       have z1 := rz.cell 1 _ rfl
       have y1 := rz.thawed 1
       have z2 := rz.cell 2 _ rfl
       have y2 := rz.thawed 2
       have z3 := rz.cell 3 _ rfl
       have y3 := rz.thawed 3
       have z4 := rz.cell 4 _ rfl
       have y4 := rz.thawed 4
       have z5 := rz.cell 5 _ rfl
       have y5 := rz.thawed 5
       have z6 := rz.cell 6 _ rfl
       have y6 := rz.thawed 6
       have z7 := rz.cell 7 _ rfl
       have y7 := rz.thawed 7
       have z8 := rz.cell 8 _ rfl
       have y8 := rz.thawed 8
       have f0 := rf.cell 0 _ rfl
       have g0 := rf.thawed 0
       have f1 := rf.cell 1 _ rfl
       have g1 := rf.thawed 1
       have f2 := rf.cell 2 _ rfl
       have g2 := rf.thawed 2
       have f3 := rf.cell 3 _ rfl
       have g3 := rf.thawed 3
       have f4 := rf.cell 4 _ rfl
       have g4 := rf.thawed 4
       have f5 := rf.cell 5 _ rfl
       have g5 := rf.thawed 5
       have f6 := rf.cell 6 _ rfl
       have g6 := rf.thawed 6
       have f7 := rf.cell 7 _ rfl
       have g7 := rf.thawed 7
       have f8 := rf.cell 8 _ rfl
       have g8 := rf.thawed 8)
    | (go_at_call 40
       change Calls _ _ _ (fill9 w3 w.heap.size (.int .i64 F.wire) (.int .i64 F.kind) (.int .i64 F.src) (.int .i64 F.dst) (.int .u32 (F.life.toNat : Int)) (.int .u32 (F.seq.toNat : Int)) (.int .u32 (F.ack.toNat : Int)) (.int .u32 (F.hint.toNat : Int)) (.string F.data)) _
       replace rf := row_fill (.int .i64 f.wire) (.int .i64 f.kind) (.int .i64 f.src) (.int .i64 f.dst) (.int .u32 (f.life.toNat : Int)) (.int .u32 (f.seq.toNat : Int)) (.int .u32 (f.ack.toNat : Int)) (.int .u32 (f.hint.toNat : Int)) (.string f.data) (.int .i64 F.wire) (.int .i64 F.kind) (.int .i64 F.src) (.int .i64 F.dst) (.int .u32 (F.life.toNat : Int)) (.int .u32 (F.seq.toNat : Int)) (.int .u32 (F.ack.toNat : Int)) (.int .u32 (F.hint.toNat : Int)) (.string F.data) rf
       replace hB0 := below_fill (.int .i64 F.wire) (.int .i64 F.kind) (.int .i64 F.src) (.int .i64 F.dst) (.int .u32 (F.life.toNat : Int)) (.int .u32 (F.seq.toNat : Int)) (.int .u32 (F.ack.toNat : Int)) (.int .u32 (F.hint.toNat : Int)) (.string F.data) hB0 (b := w.heap.size) (Nat.le_refl _)
       replace rz := row_keeps (.int .i64 F.wire) (.int .i64 F.kind) (.int .i64 F.src) (.int .i64 F.dst) (.int .u32 (F.life.toNat : Int)) (.int .u32 (F.seq.toNat : Int)) (.int .u32 (F.ack.toNat : Int)) (.int .u32 (F.hint.toNat : Int)) (.string F.data) rz hne'
       have hw3 : (fill9 w3 w.heap.size (.int .i64 F.wire) (.int .i64 F.kind) (.int .i64 F.src) (.int .i64 F.dst) (.int .u32 (F.life.toNat : Int)) (.int .u32 (F.seq.toNat : Int)) (.int .u32 (F.ack.toNat : Int)) (.int .u32 (F.hint.toNat : Int)) (.string F.data)).heap.size = w3.heap.size := by simp [fill9]
       clear z0 z1 z2 z3 z4 z5 z6 z7 z8 y0 y1 y2 y3 y4 y5 y6 y7 y8 f0 f1 f2 f3 f4 f5 f6 f7 f8 g0 g1 g2 g3 g4 g5 g6 g7 g8
       generalize (fill9 w3 w.heap.size (.int .i64 F.wire) (.int .i64 F.kind) (.int .i64 F.src) (.int .i64 F.dst) (.int .u32 (F.life.toNat : Int)) (.int .u32 (F.seq.toNat : Int)) (.int .u32 (F.ack.toNat : Int)) (.int .u32 (F.hint.toNat : Int)) (.string F.data)) = Y at *
       refine (Tryd.strings_Clone F.data Y hF4).mono ?_
       rintro e w4 ⟨rfl, hb4⟩
       have hk4 := hb4.size
       replace hB0 := hB0.trans (hb4.mono hB0.size)
       replace rz := rz.below hb4 (by omega)
       replace rf := rf.below hb4 (by omega)
       clear hb4
       have z0 := rz.cell 0 _ rfl
       have y0 := rz.thawed 0
       have z1 := rz.cell 1 _ rfl
       have y1 := rz.thawed 1
       have z2 := rz.cell 2 _ rfl
       have y2 := rz.thawed 2
       have z3 := rz.cell 3 _ rfl
       have y3 := rz.thawed 3
       have z4 := rz.cell 4 _ rfl
       have y4 := rz.thawed 4
       have z5 := rz.cell 5 _ rfl
       have y5 := rz.thawed 5
       have z6 := rz.cell 6 _ rfl
       have y6 := rz.thawed 6
       have z7 := rz.cell 7 _ rfl
       have y7 := rz.thawed 7
       have z8 := rz.cell 8 _ rfl
       have y8 := rz.thawed 8
       have f0 := rf.cell 0 _ rfl
       have g0 := rf.thawed 0
       have f1 := rf.cell 1 _ rfl
       have g1 := rf.thawed 1
       have f2 := rf.cell 2 _ rfl
       have g2 := rf.thawed 2
       have f3 := rf.cell 3 _ rfl
       have g3 := rf.thawed 3
       have f4 := rf.cell 4 _ rfl
       have g4 := rf.thawed 4
       have f5 := rf.cell 5 _ rfl
       have g5 := rf.thawed 5
       have f6 := rf.cell 6 _ rfl
       have g6 := rf.thawed 6
       have f7 := rf.cell 7 _ rfl
       have g7 := rf.thawed 7
       have f8 := rf.cell 8 _ rfl
       have g8 := rf.thawed 8))
  replace rz := rz.other (p := ⟨w.heap.size, 8, none⟩) hne' (.string F.data)
  replace hB0 := hB0.setCell (p := ⟨w.heap.size, 8, none⟩) (Nat.le_refl _) (.string F.data)
  have rZ := (row_fill (.int .i64 0) (.int .i64 0) (.int .i64 0) (.int .i64 0) (.int .u32 0) (.int .u32 0) (.int .u32 0) (.int .u32 0) (.string ⟨#[]⟩) (.int .i64 F.wire) (.int .i64 F.kind) (.int .i64 F.src) (.int .i64 F.dst) (.int .u32 (F.life.toNat : Int)) (.int .u32 (F.seq.toNat : Int)) (.int .u32 (F.ack.toNat : Int)) (.int .u32 (F.hint.toNat : Int)) (.string F.data) rz)
  have bZ := (below_fill (.int .i64 F.wire) (.int .i64 F.kind) (.int .i64 F.src) (.int .i64 F.dst) (.int .u32 (F.life.toNat : Int)) (.int .u32 (F.seq.toNat : Int)) (.int .u32 (F.ack.toNat : Int)) (.int .u32 (F.hint.toNat : Int)) (.string F.data) hB0 (b := w.heap.size + 1) (by omega))
  change bodyPost _ _ _ _ _ (fill9 (w4.setCell ⟨w.heap.size, 8, none⟩ (.string F.data)) (w.heap.size + 1) (.int .i64 F.wire) (.int .i64 F.kind) (.int .i64 F.src) (.int .i64 F.dst) (.int .u32 (F.life.toNat : Int)) (.int .u32 (F.seq.toNat : Int)) (.int .u32 (F.ack.toNat : Int)) (.int .u32 (F.hint.toNat : Int)) (.string F.data))
  generalize (fill9 (w4.setCell ⟨w.heap.size, 8, none⟩ (.string F.data)) (w.heap.size + 1) (.int .i64 F.wire) (.int .i64 F.kind) (.int .i64 F.src) (.int .i64 F.dst) (.int .u32 (F.life.toNat : Int)) (.int .u32 (F.seq.toNat : Int)) (.int .u32 (F.ack.toNat : Int)) (.int .u32 (F.hint.toNat : Int)) (.string F.data)) = Z at *
  have p0 := rZ.cell 0 _ rfl; have p1 := rZ.cell 1 _ rfl; have p2 := rZ.cell 2 _ rfl; have p3 := rZ.cell 3 _ rfl; have p4 := rZ.cell 4 _ rfl; have p5 := rZ.cell 5 _ rfl; have p6 := rZ.cell 6 _ rfl; have p7 := rZ.cell 7 _ rfl; have p8 := rZ.cell 8 _ rfl
  exact bodyPost_ret (v := .tuple #[.agg #[.int .i64 F.wire, .int .i64 F.kind, .int .i64 F.src, .int .i64 F.dst, .int .u32 (F.life.toNat : Int), .int .u32 (F.seq.toNat : Int), .int .u32 (F.ack.toNat : Int), .int .u32 (F.hint.toNat : Int), .string F.data], .int .i64 0]) (by simp [results, Tryd.results18, go_sem, p0, p1, p2, p3, p4, p5, p6, p7, p8]) rfl ⟨rfl, bZ⟩
/-- What Turn answers. -/
def turnF (f : Fr) (n : Int) : Fr × Int := if f.Right then if ver n = true then (f.turn n, 0) else (Fr.nil, 22) else (Fr.nil, 20)
theorem frameTurn (f : Fr) (n : Int) (hs : f.data.size ≤ maxLen) (w : World) : Calls Tryd.prog 18 #[f.val, .int .i64 n] w fun e w' =>
    e = .returned (.tuple #[(turnF f n).1.val, .int .i64 (turnF f n).2]) ∧ Below w.heap.size w w' := by
  by_cases hr : f.Right
  · rw [turnF, if_pos hr]
    cases hk : ver n with
    | true => rw [if_pos rfl]; exact turnYes f n hs _ rfl hr hk w
    | false => rw [if_neg (by decide)]; exact turnOld f n hs hr hk w
  · rw [turnF, if_neg hr]; exact turnNo f n hs hr w
/-- What Agreed answers. -/
def agreedF (a b : Int) : Int × Int := if ver a = true ∧ ver b = true then (min a b, 0) else (0, 22)
set_option maxRecDepth 100000 in
set_option maxHeartbeats 1000000 in
theorem frameAgreed (a b : Int) (w : World) : Calls Tryd.prog 20 #[.int .i64 a, .int .i64 b] w fun e w' =>
    e = .returned (.tuple #[.int .i64 (agreedF a b).1, .int .i64 (agreedF a b).2]) ∧ Below w.heap.size w w' := by
  by_cases h : ver a = true ∧ ver b = true
  · rw [agreedF, if_pos h]
    have hk : (ver a && ver b) = true := by rw [h.1, h.2]; rfl
    clear h
    go_enter Tryd.func20, Tryd.ntmps20
    go_wp2_with (go_at_call 30; refine (frameKnown2 w.heap.size _ a b _ (by simp) (by simp)).mono ?_; rintro e w2 ⟨rfl, hb2⟩; rw [hk])
    go_ret2
    exact ⟨rfl, ((Below.refl _ w).alloc (Nat.le_refl _) _).trans (hb2.mono (by simp))⟩
  · rw [agreedF, if_neg h]
    have hk : (ver a && ver b) = false := by
      cases ha : ver a <;> cases hb : ver b <;> simp_all
    clear h
    go_enter Tryd.func20, Tryd.ntmps20
    go_wp2_with (go_at_call 30; refine (frameKnown2 w.heap.size _ a b _ (by simp) (by simp)).mono ?_; rintro e w2 ⟨rfl, hb2⟩; rw [hk])
    go_ret2
    exact ⟨rfl, ((Below.refl _ w).alloc (Nat.le_refl _) _).trans (hb2.mono (by simp))⟩
end Go.Proofs.YtlcenfgnmmkcpaaDoor
