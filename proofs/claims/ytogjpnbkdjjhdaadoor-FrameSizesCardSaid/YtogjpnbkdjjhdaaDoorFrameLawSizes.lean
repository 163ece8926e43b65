/-
  The law of a frame's sizes, walked.
-/
import Derived.Test.YtogjpnbkdjjhdaaDoorFrameLaw
namespace Go.Proofs.YtogjpnbkdjjhdaaDoor
open Go.RowKit Go.Shelf
attribute [local go_sem] Oper.semAt_some
set_option linter.unusedVariables false
set_option linter.unusedSimpArgs false

set_option maxRecDepth 100000 in
set_option maxHeartbeats 4000000 in
theorem sizesNo (f : Fr) (hs : f.data.size ≤ maxLen) (F : Fr) (hF : f.cut = F) (hr : ¬ F.Right) (a0 a1 : Addr) (w : World) (L : Errs w a0 a1) : Calls Tryd.prog 10 #[f.val] w fun e w' => e = .returned (.bool true) ∧ Below w.heap.size w w' := by
  have hc := fun w => lawCut f hs w
  have hz : F.data.size ≤ 4200 := by rw [← hF]; exact f.cut_size
  have hzm : F.data.size ≤ maxLen := by unfold maxLen; omega
  have hzi : (F.data.size : Int) ≤ 4200 := by omega
  rw [hF] at hc
  have HC := Lib.hid hc
  have he := fun w => frameEncodeNo F hr hzm w
  unfold Fr.val Fr.cells at he
  have HE := Lib.hid he
  clear he hr
  clear hc hF
  go_enter Tryd.func10, Tryd.ntmps10
  unfold Fr.val Fr.cells
  have rf := Row.new w #[.int .i64 f.wire, .int .i64 f.kind, .int .i64 f.src, .int .i64 f.dst, .int .u32 (f.life.toNat : Int), .int .u32 (f.seq.toNat : Int), .int .u32 (f.ack.toNat : Int), .int .u32 (f.hint.toNat : Int), .string f.data] 24
  have hB0 : Below w.heap.size w (w.alloc (.cells #[.int .i64 f.wire, .int .i64 f.kind, .int .i64 f.src, .int .i64 f.dst, .int .u32 (f.life.toNat : Int), .int .u32 (f.seq.toNat : Int), .int .u32 (f.ack.toNat : Int), .int .u32 (f.hint.toNat : Int), .string f.data] 24)) := (Below.refl _ w).alloc (Nat.le_refl _) _
  go_wp2_with (first
    | (go_at_call 11
       refine (lawShown a0 a1 _ (L.below hB0 (Nat.le_refl _))).mono ?_
       rintro e w1 ⟨rfl, hb1⟩
       replace hB0 := hB0.trans (hb1.mono hB0.size)
       replace rf := rf.below hb1 rf.lt
       clear hb1
       have f0 := rf.cell 0 _ rfl
       have g0 := rf.thawed 0
       have f1 := rf.cell 1 _ rfl
       have g1 := rf.thawed 1
       have f2 := rf.cell 2 _ rfl
       have g2 := rf.thawed 2
       have f3 := rf.cell 3 _ rfl
       have g3 := rf.thawed 3
       have f4 := rf.cell 4 _ rfl
       have g4 := rf.thawed 4
       have f5 := rf.cell 5 _ rfl
       have g5 := rf.thawed 5
       have f6 := rf.cell 6 _ rfl
       have g6 := rf.thawed 6
       have f7 := rf.cell 7 _ rfl
       have g7 := rf.thawed 7
       have f8 := rf.cell 8 _ rfl
       have g8 := rf.thawed 8)
    | (go_at_call 12
       refine (HC.out _).mono ?_
       rintro e w2 ⟨rfl, hb2⟩
       unfold Fr.val Fr.cells
       replace hB0 := hB0.trans (hb2.mono hB0.size)
       replace rf := rf.below hb2 rf.lt
       clear hb2
       clear f0 f1 f2 f3 f4 f5 f6 f7 f8 g0 g1 g2 g3 g4 g5 g6 g7 g8
       have f0 := rf.cell 0 _ rfl
       have g0 := rf.thawed 0
       have f1 := rf.cell 1 _ rfl
       have g1 := rf.thawed 1
       have f2 := rf.cell 2 _ rfl
       have g2 := rf.thawed 2
       have f3 := rf.cell 3 _ rfl
       have g3 := rf.thawed 3
       have f4 := rf.cell 4 _ rfl
       have g4 := rf.thawed 4
       have f5 := rf.cell 5 _ rfl
       have g5 := rf.thawed 5
       have f6 := rf.cell 6 _ rfl
       have g6 := rf.thawed 6
       have f7 := rf.cell 7 _ rfl
       have g7 := rf.thawed 7
       have f8 := rf.cell 8 _ rfl
       have g8 := rf.thawed 8)
    | (go_at_call 13
       change Calls _ _ _ (fill9 w2 w.heap.size (.int .i64 F.wire) (.int .i64 F.kind) (.int .i64 F.src) (.int .i64 F.dst) (.int .u32 (F.life.toNat : Int)) (.int .u32 (F.seq.toNat : Int)) (.int .u32 (F.ack.toNat : Int)) (.int .u32 (F.hint.toNat : Int)) (.string F.data)) _
       replace rf := row_fill (.int .i64 f.wire) (.int .i64 f.kind) (.int .i64 f.src) (.int .i64 f.dst) (.int .u32 (f.life.toNat : Int)) (.int .u32 (f.seq.toNat : Int)) (.int .u32 (f.ack.toNat : Int)) (.int .u32 (f.hint.toNat : Int)) (.string f.data) (.int .i64 F.wire) (.int .i64 F.kind) (.int .i64 F.src) (.int .i64 F.dst) (.int .u32 (F.life.toNat : Int)) (.int .u32 (F.seq.toNat : Int)) (.int .u32 (F.ack.toNat : Int)) (.int .u32 (F.hint.toNat : Int)) (.string F.data) rf
       replace hB0 := below_fill (.int .i64 F.wire) (.int .i64 F.kind) (.int .i64 F.src) (.int .i64 F.dst) (.int .u32 (F.life.toNat : Int)) (.int .u32 (F.seq.toNat : Int)) (.int .u32 (F.ack.toNat : Int)) (.int .u32 (F.hint.toNat : Int)) (.string F.data) hB0 (b := w.heap.size) (Nat.le_refl _)
       clear f0 f1 f2 f3 f4 f5 f6 f7 f8 g0 g1 g2 g3 g4 g5 g6 g7 g8
       generalize (fill9 w2 w.heap.size (.int .i64 F.wire) (.int .i64 F.kind) (.int .i64 F.src) (.int .i64 F.dst) (.int .u32 (F.life.toNat : Int)) (.int .u32 (F.seq.toNat : Int)) (.int .u32 (F.ack.toNat : Int)) (.int .u32 (F.hint.toNat : Int)) (.string F.data)) = Y at *
       refine (HE.out Y).mono ?_
       rintro e w3 ⟨rfl, hb3⟩
       replace hB0 := hB0.trans (hb3.mono hB0.size)
       replace rf := rf.below hb3 rf.lt
       clear hb3
       have f0 := rf.cell 0 _ rfl
       have g0 := rf.thawed 0
       have f1 := rf.cell 1 _ rfl
       have g1 := rf.thawed 1
       have f2 := rf.cell 2 _ rfl
       have g2 := rf.thawed 2
       have f3 := rf.cell 3 _ rfl
       have g3 := rf.thawed 3
       have f4 := rf.cell 4 _ rfl
       have g4 := rf.thawed 4
       have f5 := rf.cell 5 _ rfl
       have g5 := rf.thawed 5
       have f6 := rf.cell 6 _ rfl
       have g6 := rf.thawed 6
       have f7 := rf.cell 7 _ rfl
       have g7 := rf.thawed 7
       have f8 := rf.cell 8 _ rfl
       have g8 := rf.thawed 8))
  go_ret
  exact ⟨rfl, hB0⟩
set_option maxRecDepth 100000 in
set_option maxHeartbeats 4000000 in
theorem sizesOne (f : Fr) (hs : f.data.size ≤ maxLen) (F : Fr) (hF : f.cut = F) (hr : F.Right) (hwire : F.wire = 1) (a0 a1 : Addr) (w : World) (L : Errs w a0 a1) : Calls Tryd.prog 10 #[f.val] w fun e w' => e = .returned (.bool true) ∧ Below w.heap.size w w' := by
  have hc := fun w => lawCut f hs w
  have hz : F.data.size ≤ 4200 := by rw [← hF]; exact f.cut_size
  have hzm : F.data.size ≤ maxLen := by unfold maxLen; omega
  have hzi : (F.data.size : Int) ≤ 4200 := by omega
  rw [hF] at hc
  have HC := Lib.hid hc
  have he := fun w => frameEncodeYes F hr w
  have hT : (txt (CrcM.withSum F.body)).size = 24 + F.data.size := by
    rw [txt_size, CrcM.seal_length, Fr.body, List.length_append, F.head_length hr, if_pos hwire]; simp; omega
  have hw : (F.wire == 2) = false := by rw [hwire]; rfl
  generalize txt (CrcM.withSum F.body) = T at *
  have hTi : (T.size : Int) = 24 + (F.data.size : Int) := by omega
  unfold Fr.val Fr.cells at he
  have HE := Lib.hid he
  clear he hr hwire hT
  clear hc hF
  go_enter Tryd.func10, Tryd.ntmps10
  unfold Fr.val Fr.cells
  have rf := Row.new w #[.int .i64 f.wire, .int .i64 f.kind, .int .i64 f.src, .int .i64 f.dst, .int .u32 (f.life.toNat : Int), .int .u32 (f.seq.toNat : Int), .int .u32 (f.ack.toNat : Int), .int .u32 (f.hint.toNat : Int), .string f.data] 24
  have hB0 : Below w.heap.size w (w.alloc (.cells #[.int .i64 f.wire, .int .i64 f.kind, .int .i64 f.src, .int .i64 f.dst, .int .u32 (f.life.toNat : Int), .int .u32 (f.seq.toNat : Int), .int .u32 (f.ack.toNat : Int), .int .u32 (f.hint.toNat : Int), .string f.data] 24)) := (Below.refl _ w).alloc (Nat.le_refl _) _
  go_wp2_with (first
    | (go_at_call 11
       refine (lawShown a0 a1 _ (L.below hB0 (Nat.le_refl _))).mono ?_
       rintro e w1 ⟨rfl, hb1⟩
       replace hB0 := hB0.trans (hb1.mono hB0.size)
       replace rf := rf.below hb1 rf.lt
       clear hb1
       have f0 := rf.cell 0 _ rfl
       have g0 := rf.thawed 0
       have f1 := rf.cell 1 _ rfl
       have g1 := rf.thawed 1
       have f2 := rf.cell 2 _ rfl
       have g2 := rf.thawed 2
       have f3 := rf.cell 3 _ rfl
       have g3 := rf.thawed 3
       have f4 := rf.cell 4 _ rfl
       have g4 := rf.thawed 4
       have f5 := rf.cell 5 _ rfl
       have g5 := rf.thawed 5
       have f6 := rf.cell 6 _ rfl
       have g6 := rf.thawed 6
       have f7 := rf.cell 7 _ rfl
       have g7 := rf.thawed 7
       have f8 := rf.cell 8 _ rfl
       have g8 := rf.thawed 8)
    | (go_at_call 12
       refine (HC.out _).mono ?_
       rintro e w2 ⟨rfl, hb2⟩
       unfold Fr.val Fr.cells
       replace hB0 := hB0.trans (hb2.mono hB0.size)
       replace rf := rf.below hb2 rf.lt
       clear hb2
       clear f0 f1 f2 f3 f4 f5 f6 f7 f8 g0 g1 g2 g3 g4 g5 g6 g7 g8
       have f0 := rf.cell 0 _ rfl
       have g0 := rf.thawed 0
       have f1 := rf.cell 1 _ rfl
       have g1 := rf.thawed 1
       have f2 := rf.cell 2 _ rfl
       have g2 := rf.thawed 2
       have f3 := rf.cell 3 _ rfl
       have g3 := rf.thawed 3
       have f4 := rf.cell 4 _ rfl
       have g4 := rf.thawed 4
       have f5 := rf.cell 5 _ rfl
       have g5 := rf.thawed 5
       have f6 := rf.cell 6 _ rfl
       have g6 := rf.thawed 6
       have f7 := rf.cell 7 _ rfl
       have g7 := rf.thawed 7
       have f8 := rf.cell 8 _ rfl
       have g8 := rf.thawed 8)
    | (go_at_call 13
       change Calls _ _ _ (fill9 w2 w.heap.size (.int .i64 F.wire) (.int .i64 F.kind) (.int .i64 F.src) (.int .i64 F.dst) (.int .u32 (F.life.toNat : Int)) (.int .u32 (F.seq.toNat : Int)) (.int .u32 (F.ack.toNat : Int)) (.int .u32 (F.hint.toNat : Int)) (.string F.data)) _
       replace rf := row_fill (.int .i64 f.wire) (.int .i64 f.kind) (.int .i64 f.src) (.int .i64 f.dst) (.int .u32 (f.life.toNat : Int)) (.int .u32 (f.seq.toNat : Int)) (.int .u32 (f.ack.toNat : Int)) (.int .u32 (f.hint.toNat : Int)) (.string f.data) (.int .i64 F.wire) (.int .i64 F.kind) (.int .i64 F.src) (.int .i64 F.dst) (.int .u32 (F.life.toNat : Int)) (.int .u32 (F.seq.toNat : Int)) (.int .u32 (F.ack.toNat : Int)) (.int .u32 (F.hint.toNat : Int)) (.string F.data) rf
       replace hB0 := below_fill (.int .i64 F.wire) (.int .i64 F.kind) (.int .i64 F.src) (.int .i64 F.dst) (.int .u32 (F.life.toNat : Int)) (.int .u32 (F.seq.toNat : Int)) (.int .u32 (F.ack.toNat : Int)) (.int .u32 (F.hint.toNat : Int)) (.string F.data) hB0 (b := w.heap.size) (Nat.le_refl _)
       clear f0 f1 f2 f3 f4 f5 f6 f7 f8 g0 g1 g2 g3 g4 g5 g6 g7 g8
       generalize (fill9 w2 w.heap.size (.int .i64 F.wire) (.int .i64 F.kind) (.int .i64 F.src) (.int .i64 F.dst) (.int .u32 (F.life.toNat : Int)) (.int .u32 (F.seq.toNat : Int)) (.int .u32 (F.ack.toNat : Int)) (.int .u32 (F.hint.toNat : Int)) (.string F.data)) = Y at *
       refine (HE.out Y).mono ?_
       rintro e w3 ⟨rfl, hb3⟩
       replace hB0 := hB0.trans (hb3.mono hB0.size)
       replace rf := rf.below hb3 rf.lt
       clear hb3
       have f0 := rf.cell 0 _ rfl
       have g0 := rf.thawed 0
       have f1 := rf.cell 1 _ rfl
       have g1 := rf.thawed 1
       have f2 := rf.cell 2 _ rfl
       have g2 := rf.thawed 2
       have f3 := rf.cell 3 _ rfl
       have g3 := rf.thawed 3
       have f4 := rf.cell 4 _ rfl
       have g4 := rf.thawed 4
       have f5 := rf.cell 5 _ rfl
       have g5 := rf.thawed 5
       have f6 := rf.cell 6 _ rfl
       have g6 := rf.thawed 6
       have f7 := rf.cell 7 _ rfl
       have g7 := rf.thawed 7
       have f8 := rf.cell 8 _ rfl
       have g8 := rf.thawed 8))
  go_ret
  exact ⟨rfl, hB0⟩
set_option maxRecDepth 100000 in
set_option maxHeartbeats 4000000 in
theorem sizesTwo (f : Fr) (hs : f.data.size ≤ maxLen) (F : Fr) (hF : f.cut = F) (hr : F.Right) (hwire : F.wire = 2) (a0 a1 : Addr) (w : World) (L : Errs w a0 a1) : Calls Tryd.prog 10 #[f.val] w fun e w' => e = .returned (.bool true) ∧ Below w.heap.size w w' := by
  have hc := fun w => lawCut f hs w
  have hz : F.data.size ≤ 4200 := by rw [← hF]; exact f.cut_size
  have hzm : F.data.size ≤ maxLen := by unfold maxLen; omega
  have hzi : (F.data.size : Int) ≤ 4200 := by omega
  rw [hF] at hc
  have HC := Lib.hid hc
  have he := fun w => frameEncodeYes F hr w
  have hT : (txt (CrcM.withSum F.body)).size = 28 + F.data.size := by
    rw [txt_size, CrcM.seal_length, Fr.body, List.length_append, F.head_length hr, if_neg (by rw [hwire]; decide)]; simp; omega
  have hw : (F.wire == 2) = true := by rw [hwire]; rfl
  generalize txt (CrcM.withSum F.body) = T at *
  have hTi : (T.size : Int) = 28 + (F.data.size : Int) := by omega
  unfold Fr.val Fr.cells at he
  have HE := Lib.hid he
  clear he hr hwire hT
  clear hc hF
  go_enter Tryd.func10, Tryd.ntmps10
  unfold Fr.val Fr.cells
  have rf := Row.new w #[.int .i64 f.wire, .int .i64 f.kind, .int .i64 f.src, .int .i64 f.dst, .int .u32 (f.life.toNat : Int), .int .u32 (f.seq.toNat : Int), .int .u32 (f.ack.toNat : Int), .int .u32 (f.hint.toNat : Int), .string f.data] 24
  have hB0 : Below w.heap.size w (w.alloc (.cells #[.int .i64 f.wire, .int .i64 f.kind, .int .i64 f.src, .int .i64 f.dst, .int .u32 (f.life.toNat : Int), .int .u32 (f.seq.toNat : Int), .int .u32 (f.ack.toNat : Int), .int .u32 (f.hint.toNat : Int), .string f.data] 24)) := (Below.refl _ w).alloc (Nat.le_refl _) _
  go_wp2_with (first
    | (go_at_call 11
       refine (lawShown a0 a1 _ (L.below hB0 (Nat.le_refl _))).mono ?_
       rintro e w1 ⟨rfl, hb1⟩
       replace hB0 := hB0.trans (hb1.mono hB0.size)
       replace rf := rf.below hb1 rf.lt
       clear hb1
       have f0 := rf.cell 0 _ rfl
       have g0 := rf.thawed 0
       have f1 := rf.cell 1 _ rfl
       have g1 := rf.thawed 1
       have f2 := rf.cell 2 _ rfl
       have g2 := rf.thawed 2
       have f3 := rf.cell 3 _ rfl
       have g3 := rf.thawed 3
       have f4 := rf.cell 4 _ rfl
       have g4 := rf.thawed 4
       have f5 := rf.cell 5 _ rfl
       have g5 := rf.thawed 5
       have f6 := rf.cell 6 _ rfl
       have g6 := rf.thawed 6
       have f7 := rf.cell 7 _ rfl
       have g7 := rf.thawed 7
       have f8 := rf.cell 8 _ rfl
       have g8 := rf.thawed 8)
    | (go_at_call 12
       refine (HC.out _).mono ?_
       rintro e w2 ⟨rfl, hb2⟩
       unfold Fr.val Fr.cells
       replace hB0 := hB0.trans (hb2.mono hB0.size)
       replace rf := rf.below hb2 rf.lt
       clear hb2
       clear f0 f1 f2 f3 f4 f5 f6 f7 f8 g0 g1 g2 g3 g4 g5 g6 g7 g8
       have f0 := rf.cell 0 _ rfl
       have g0 := rf.thawed 0
       have f1 := rf.cell 1 _ rfl
       have g1 := rf.thawed 1
       have f2 := rf.cell 2 _ rfl
       have g2 := rf.thawed 2
       have f3 := rf.cell 3 _ rfl
       have g3 := rf.thawed 3
       have f4 := rf.cell 4 _ rfl
       have g4 := rf.thawed 4
       have f5 := rf.cell 5 _ rfl
       have g5 := rf.thawed 5
       have f6 := rf.cell 6 _ rfl
       have g6 := rf.thawed 6
       have f7 := rf.cell 7 _ rfl
       have g7 := rf.thawed 7
       have f8 := rf.cell 8 _ rfl
       have g8 := rf.thawed 8)
    | (go_at_call 13
       change Calls _ _ _ (fill9 w2 w.heap.size (.int .i64 F.wire) (.int .i64 F.kind) (.int .i64 F.src) (.int .i64 F.dst) (.int .u32 (F.life.toNat : Int)) (.int .u32 (F.seq.toNat : Int)) (.int .u32 (F.ack.toNat : Int)) (.int .u32 (F.hint.toNat : Int)) (.string F.data)) _
       replace rf := row_fill (.int .i64 f.wire) (.int .i64 f.kind) (.int .i64 f.src) (.int .i64 f.dst) (.int .u32 (f.life.toNat : Int)) (.int .u32 (f.seq.toNat : Int)) (.int .u32 (f.ack.toNat : Int)) (.int .u32 (f.hint.toNat : Int)) (.string f.data) (.int .i64 F.wire) (.int .i64 F.kind) (.int .i64 F.src) (.int .i64 F.dst) (.int .u32 (F.life.toNat : Int)) (.int .u32 (F.seq.toNat : Int)) (.int .u32 (F.ack.toNat : Int)) (.int .u32 (F.hint.toNat : Int)) (.string F.data) rf
       replace hB0 := below_fill (.int .i64 F.wire) (.int .i64 F.kind) (.int .i64 F.src) (.int .i64 F.dst) (.int .u32 (F.life.toNat : Int)) (.int .u32 (F.seq.toNat : Int)) (.int .u32 (F.ack.toNat : Int)) (.int .u32 (F.hint.toNat : Int)) (.string F.data) hB0 (b := w.heap.size) (Nat.le_refl _)
       clear f0 f1 f2 f3 f4 f5 f6 f7 f8 g0 g1 g2 g3 g4 g5 g6 g7 g8
       generalize (fill9 w2 w.heap.size (.int .i64 F.wire) (.int .i64 F.kind) (.int .i64 F.src) (.int .i64 F.dst) (.int .u32 (F.life.toNat : Int)) (.int .u32 (F.seq.toNat : Int)) (.int .u32 (F.ack.toNat : Int)) (.int .u32 (F.hint.toNat : Int)) (.string F.data)) = Y at *
       refine (HE.out Y).mono ?_
       rintro e w3 ⟨rfl, hb3⟩
       replace hB0 := hB0.trans (hb3.mono hB0.size)
       replace rf := rf.below hb3 rf.lt
       clear hb3
       have f0 := rf.cell 0 _ rfl
       have g0 := rf.thawed 0
       have f1 := rf.cell 1 _ rfl
       have g1 := rf.thawed 1
       have f2 := rf.cell 2 _ rfl
       have g2 := rf.thawed 2
       have f3 := rf.cell 3 _ rfl
       have g3 := rf.thawed 3
       have f4 := rf.cell 4 _ rfl
       have g4 := rf.thawed 4
       have f5 := rf.cell 5 _ rfl
       have g5 := rf.thawed 5
       have f6 := rf.cell 6 _ rfl
       have g6 := rf.thawed 6
       have f7 := rf.cell 7 _ rfl
       have g7 := rf.thawed 7
       have f8 := rf.cell 8 _ rfl
       have g8 := rf.thawed 8))
  go_ret
  exact ⟨rfl, hB0⟩
theorem lawSizes (f : Fr) (hs : f.data.size ≤ maxLen) (a0 a1 : Addr) (w : World) (L : Errs w a0 a1) : Calls Tryd.prog 10 #[f.val] w fun e w' => e = .returned (.bool true) ∧ Below w.heap.size w w' := by
  by_cases hr : f.cut.Right
  · rcases hr.1 with h | h
    · exact sizesOne f hs _ rfl hr h a0 a1 w L
    · exact sizesTwo f hs _ rfl hr h a0 a1 w L
  · exact sizesNo f hs _ rfl hr a0 a1 w L
end Go.Proofs.YtogjpnbkdjjhdaaDoor
