/-
  The law of frames' bytes held against the document's, walked.
-/
import Derived.Test.YtlcenfgnmmkcpaaDoorFrameRefEnc
namespace Go.Proofs.YtlcenfgnmmkcpaaDoor
open Go.RowKit Go.Shelf
attribute [local go_sem] Oper.semAt_some
set_option linter.unusedVariables false
set_option linter.unusedSimpArgs false

set_option maxRecDepth 100000 in
set_option maxHeartbeats 4000000 in
theorem lawBytes (f : Fr) (hs : f.data.size ≤ maxLen) (a0 a1 : Addr) (w : World) (L : Errs w a0 a1) : Calls Tryd.prog 3 #[f.val] w fun e w' => e = .returned (.bool true) ∧ Below w.heap.size w w' := by
  obtain ⟨F, hF⟩ : ∃ F, f.cut = F := ⟨_, rfl⟩
  have hc := fun w => lawCut f hs w
  have hz : F.data.size ≤ 4200 := by rw [← hF]; exact f.cut_size
  have hzm : F.data.size ≤ maxLen := by unfold maxLen; omega
  rw [hF] at hc
  have HC := Lib.hid hc
  clear hc hF
  have he1 := fun W => frameEncode F hzm W
  have he2 := fun W => refEncode F W
  have hr1 := fun W => frameRight F hzm W
  have hr2 := fun W => refRight F W
  generalize (encodeF F).2 = x at *
  generalize (encodeF F).1 = A at *
  generalize (decide F.Right) = B at *
  unfold Fr.val Fr.cells at he1 he2 hr1 hr2
  have HE1 := Lib.hid he1
  have HE2 := Lib.hid he2
  have HR1 := Lib.hid hr1
  have HR2 := Lib.hid hr2
  clear he1 he2 hr1 hr2
  go_enter Tryd.func3, Tryd.ntmps3
  unfold Fr.val Fr.cells
  have rf := Row.new w #[.int .i64 f.wire, .int .i64 f.kind, .int .i64 f.src, .int .i64 f.dst, .int .u32 (f.life.toNat : Int), .int .u32 (f.seq.toNat : Int), .int .u32 (f.ack.toNat : Int), .int .u32 (f.hint.toNat : Int), .string f.data] 24
  have hB0 : Below w.heap.size w (w.alloc (.cells #[.int .i64 f.wire, .int .i64 f.kind, .int .i64 f.src, .int .i64 f.dst, .int .u32 (f.life.toNat : Int), .int .u32 (f.seq.toNat : Int), .int .u32 (f.ack.toNat : Int), .int .u32 (f.hint.toNat : Int), .string f.data] 24)) := (Below.refl _ w).alloc (Nat.le_refl _) _
  go_wp2_with (first
    | (go_at_call 9
       refine (lawShown a0 a1 _ (L.below hB0 (Nat.le_refl _))).mono ?_
       rintro e w1 ⟨rfl, hb1⟩
       replace hB0 := hB0.trans (hb1.mono hB0.size)
       replace rf := rf.below hb1 rf.lt
       clear hb1
       have f0 := rf.cell 0 _ rfl
       have g0 := rf.thawed 0
       have f1 := rf.cell 1 _ rfl
       have g1 := rf.thawed 1
       have f2 := rf.cell 2 _ rfl
       have g2 := rf.thawed 2
       have f3 := rf.cell 3 _ rfl
       have g3 := rf.thawed 3
       have f4 := rf.cell 4 _ rfl
       have g4 := rf.thawed 4
       have f5 := rf.cell 5 _ rfl
       have g5 := rf.thawed 5
       have f6 := rf.cell 6 _ rfl
       have g6 := rf.thawed 6
       have f7 := rf.cell 7 _ rfl
       have g7 := rf.thawed 7
       have f8 := rf.cell 8 _ rfl
       have g8 := rf.thawed 8)
    | (go_at_call 10
       refine (HC.out _).mono ?_
       rintro e w2 ⟨rfl, hb2⟩
       unfold Fr.val Fr.cells
       replace hB0 := hB0.trans (hb2.mono hB0.size)
       replace rf := rf.below hb2 rf.lt
       clear hb2
       clear f0 f1 f2 f3 f4 f5 f6 f7 f8 g0 g1 g2 g3 g4 g5 g6 g7 g8
       have f0 := rf.cell 0 _ rfl
       have g0 := rf.thawed 0
       have f1 := rf.cell 1 _ rfl
       have g1 := rf.thawed 1
       have f2 := rf.cell 2 _ rfl
       have g2 := rf.thawed 2
       have f3 := rf.cell 3 _ rfl
       have g3 := rf.thawed 3
       have f4 := rf.cell 4 _ rfl
       have g4 := rf.thawed 4
       have f5 := rf.cell 5 _ rfl
       have g5 := rf.thawed 5
       have f6 := rf.cell 6 _ rfl
       have g6 := rf.thawed 6
       have f7 := rf.cell 7 _ rfl
       have g7 := rf.thawed 7
       have f8 := rf.cell 8 _ rfl
       have g8 := rf.thawed 8)
    | (go_at_call 11
       change Calls _ _ _ (fill9 w2 w.heap.size (.int .i64 F.wire) (.int .i64 F.kind) (.int .i64 F.src) (.int .i64 F.dst) (.int .u32 (F.life.toNat : Int)) (.int .u32 (F.seq.toNat : Int)) (.int .u32 (F.ack.toNat : Int)) (.int .u32 (F.hint.toNat : Int)) (.string F.data)) _
       replace rf := row_fill (.int .i64 f.wire) (.int .i64 f.kind) (.int .i64 f.src) (.int .i64 f.dst) (.int .u32 (f.life.toNat : Int)) (.int .u32 (f.seq.toNat : Int)) (.int .u32 (f.ack.toNat : Int)) (.int .u32 (f.hint.toNat : Int)) (.string f.data) (.int .i64 F.wire) (.int .i64 F.kind) (.int .i64 F.src) (.int .i64 F.dst) (.int .u32 (F.life.toNat : Int)) (.int .u32 (F.seq.toNat : Int)) (.int .u32 (F.ack.toNat : Int)) (.int .u32 (F.hint.toNat : Int)) (.string F.data) rf
       replace hB0 := below_fill (.int .i64 F.wire) (.int .i64 F.kind) (.int .i64 F.src) (.int .i64 F.dst) (.int .u32 (F.life.toNat : Int)) (.int .u32 (F.seq.toNat : Int)) (.int .u32 (F.ack.toNat : Int)) (.int .u32 (F.hint.toNat : Int)) (.string F.data) hB0 (b := w.heap.size) (Nat.le_refl _)
       clear f0 f1 f2 f3 f4 f5 f6 f7 f8 g0 g1 g2 g3 g4 g5 g6 g7 g8
       generalize (fill9 w2 w.heap.size (.int .i64 F.wire) (.int .i64 F.kind) (.int .i64 F.src) (.int .i64 F.dst) (.int .u32 (F.life.toNat : Int)) (.int .u32 (F.seq.toNat : Int)) (.int .u32 (F.ack.toNat : Int)) (.int .u32 (F.hint.toNat : Int)) (.string F.data)) = Y at *
       refine (HE1.out Y).mono ?_
       rintro e w3 ⟨rfl, hb3⟩
       replace hB0 := hB0.trans (hb3.mono hB0.size)
       replace rf := rf.below hb3 rf.lt
       clear hb3
       have f0 := rf.cell 0 _ rfl
       have g0 := rf.thawed 0
       have f1 := rf.cell 1 _ rfl
       have g1 := rf.thawed 1
       have f2 := rf.cell 2 _ rfl
       have g2 := rf.thawed 2
       have f3 := rf.cell 3 _ rfl
       have g3 := rf.thawed 3
       have f4 := rf.cell 4 _ rfl
       have g4 := rf.thawed 4
       have f5 := rf.cell 5 _ rfl
       have g5 := rf.thawed 5
       have f6 := rf.cell 6 _ rfl
       have g6 := rf.thawed 6
       have f7 := rf.cell 7 _ rfl
       have g7 := rf.thawed 7
       have f8 := rf.cell 8 _ rfl
       have g8 := rf.thawed 8)
    | (go_at_call 12
       refine (HE2.out _).mono ?_
       rintro e w4 ⟨rfl, hb4⟩
       replace hB0 := hB0.trans (hb4.mono hB0.size)
       replace rf := rf.below hb4 rf.lt
       clear hb4
       clear f0 f1 f2 f3 f4 f5 f6 f7 f8 g0 g1 g2 g3 g4 g5 g6 g7 g8
       have f0 := rf.cell 0 _ rfl
       have g0 := rf.thawed 0
       have f1 := rf.cell 1 _ rfl
       have g1 := rf.thawed 1
       have f2 := rf.cell 2 _ rfl
       have g2 := rf.thawed 2
       have f3 := rf.cell 3 _ rfl
       have g3 := rf.thawed 3
       have f4 := rf.cell 4 _ rfl
       have g4 := rf.thawed 4
       have f5 := rf.cell 5 _ rfl
       have g5 := rf.thawed 5
       have f6 := rf.cell 6 _ rfl
       have g6 := rf.thawed 6
       have f7 := rf.cell 7 _ rfl
       have g7 := rf.thawed 7
       have f8 := rf.cell 8 _ rfl
       have g8 := rf.thawed 8))
  replace hB0 := hB0.drew
  replace rf := rf.drew
  clear f0 f1 f2 f3 f4 f5 f6 f7 f8 g0 g1 g2 g3 g4 g5 g6 g7 g8
  have f0 := rf.cell 0 _ rfl
  have g0 := rf.thawed 0
  have f1 := rf.cell 1 _ rfl
  have g1 := rf.thawed 1
  have f2 := rf.cell 2 _ rfl
  have g2 := rf.thawed 2
  have f3 := rf.cell 3 _ rfl
  have g3 := rf.thawed 3
  have f4 := rf.cell 4 _ rfl
  have g4 := rf.thawed 4
  have f5 := rf.cell 5 _ rfl
  have g5 := rf.thawed 5
  have f6 := rf.cell 6 _ rfl
  have g6 := rf.thawed 6
  have f7 := rf.cell 7 _ rfl
  have g7 := rf.thawed 7
  have f8 := rf.cell 8 _ rfl
  have g8 := rf.thawed 8
  go_region_held3 (fun W => W.cell? ⟨w.heap.size, 0, none⟩ = some (.int .i64 F.wire) ∧ W.cell? ⟨w.heap.size, 1, none⟩ = some (.int .i64 F.kind) ∧ W.cell? ⟨w.heap.size, 2, none⟩ = some (.int .i64 F.src) ∧ W.cell? ⟨w.heap.size, 3, none⟩ = some (.int .i64 F.dst) ∧ W.cell? ⟨w.heap.size, 4, none⟩ = some (.int .u32 (F.life.toNat : Int)) ∧ W.cell? ⟨w.heap.size, 5, none⟩ = some (.int .u32 (F.seq.toNat : Int)) ∧ W.cell? ⟨w.heap.size, 6, none⟩ = some (.int .u32 (F.ack.toNat : Int)) ∧ W.cell? ⟨w.heap.size, 7, none⟩ = some (.int .u32 (F.hint.toNat : Int)) ∧ W.cell? ⟨w.heap.size, 8, none⟩ = some (.string F.data)) (first | exact ⟨rf.cell 0 _ rfl, rf.cell 1 _ rfl, rf.cell 2 _ rfl, rf.cell 3 _ rfl, rf.cell 4 _ rfl, rf.cell 5 _ rfl, rf.cell 6 _ rfl, rf.cell 7 _ rfl, rf.cell 8 _ rfl⟩ | go_keep) (first
    | (go_at_call 13; refine (HR1.out _).mono ?_; rintro e w5 ⟨rfl, hb5⟩; replace hB0 := hB0.trans (hb5.mono hB0.size); replace rf := rf.below hb5 rf.lt; clear hb5)
    | (go_at_call 14; refine (HR2.out _).mono ?_; rintro e w6 ⟨rfl, hb6⟩; replace hB0 := hB0.trans (hb6.mono hB0.size); replace rf := rf.below hb6 rf.lt; clear hb6))
  all_goals (go_wp2; go_ret; exact ⟨rfl, hB0⟩)
end Go.Proofs.YtlcenfgnmmkcpaaDoor
