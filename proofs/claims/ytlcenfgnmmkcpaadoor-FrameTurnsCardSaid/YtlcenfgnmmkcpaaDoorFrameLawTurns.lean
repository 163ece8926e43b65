/-
  The law of a frame turned and of the version of two, held against the document's answers: walked.
-/
import Derived.Test.YtlcenfgnmmkcpaaDoorFrameLaw
import Derived.Test.YtlcenfgnmmkcpaaDoorFrameRef
namespace Go.Proofs.YtlcenfgnmmkcpaaDoor
open Go.RowKit Go.Shelf
attribute [local go_sem] Oper.semAt_some
set_option linter.unusedVariables false
set_option linter.unusedSimpArgs false

theorem refTurn (f : Fr) (n : Int) (w : World) : Calls Tryd.prog 19 #[f.val, .int .i64 n] w fun e w' => e = .returned (.tuple #[(turnF f n).1.val, .int .i64 (turnF f n).2]) ∧ Below w.heap.size w w' := by
  by_cases hr : f.Right
  · cases hv : ver n with
    | false => exact refTurnOld f n hr hv w
    | true =>
      rcases (ver_iff n).1 hv with h | h
      · exact refTurnOne f n hr h w
      · exact refTurnTwo f n hr h w
  · exact refTurnNo f n hr w
set_option maxRecDepth 100000 in
set_option maxHeartbeats 4000000 in
theorem lawTurns (f : Fr) (hs : f.data.size ≤ maxLen) (n m : Int) (a0 a1 : Addr) (w : World) (L : Errs w a0 a1) : Calls Tryd.prog 5 #[f.val, .int .i64 n, .int .i64 m] w fun e w' => e = .returned (.bool true) ∧ Below w.heap.size w w' := by
  obtain ⟨F, hF⟩ : ∃ F, f.cut = F := ⟨_, rfl⟩
  have hc := fun w => lawCut f hs w
  have hz : F.data.size ≤ 4200 := by rw [← hF]; exact f.cut_size
  have hzm : F.data.size ≤ maxLen := by unfold maxLen; omega
  rw [hF] at hc
  have HC := Lib.hid hc
  clear hc hF
  have ht1 := fun W => frameTurn F n hzm W
  have ht2 := fun W => refTurn F n W
  have ha1 := fun W => frameAgreed n m W
  have ha2 := fun W => refAgreed n m W
  generalize (turnF F n).2 = x at *
  generalize (turnF F n).1 = A at *
  generalize (agreedF n m).2 = y at *
  generalize (agreedF n m).1 = z at *
  unfold Fr.val Fr.cells at ht1 ht2
  have HT1 := Lib.hid ht1
  have HT2 := Lib.hid ht2
  have HA1 := Lib.hid ha1
  have HA2 := Lib.hid ha2
  clear ht1 ht2 ha1 ha2
  have hg : ∀ (x y : Operand) (W : World), (eqGuard .eql 24 x y (.agg #[.int .i64 A.wire, .int .i64 A.kind, .int .i64 A.src, .int .i64 A.dst, .int .u32 (A.life.toNat : Int), .int .u32 (A.seq.toNat : Int), .int .u32 (A.ack.toNat : Int), .int .u32 (A.hint.toNat : Int), .string A.data]) (.agg #[.int .i64 A.wire, .int .i64 A.kind, .int .i64 A.src, .int .i64 A.dst, .int .u32 (A.life.toNat : Int), .int .u32 (A.seq.toNat : Int), .int .u32 (A.ack.toNat : Int), .int .u32 (A.hint.toNat : Int), .string A.data])).run Tryd.prog W = .ok () W := fun x y W => frameGuard A A x y W
  have hq : ∀ W : World, (binOp .eql 24 (.agg #[.int .i64 A.wire, .int .i64 A.kind, .int .i64 A.src, .int .i64 A.dst, .int .u32 (A.life.toNat : Int), .int .u32 (A.seq.toNat : Int), .int .u32 (A.ack.toNat : Int), .int .u32 (A.hint.toNat : Int), .string A.data]) (.agg #[.int .i64 A.wire, .int .i64 A.kind, .int .i64 A.src, .int .i64 A.dst, .int .u32 (A.life.toNat : Int), .int .u32 (A.seq.toNat : Int), .int .u32 (A.ack.toNat : Int), .int .u32 (A.hint.toNat : Int), .string A.data])).run Tryd.prog W = .ok (.bool true) W := fun W => by have h := frameEql A A W; rw [decide_eq_true rfl] at h; exact h
  go_enter Tryd.func5, Tryd.ntmps5
  unfold Fr.val Fr.cells
  have rf := Row.new w #[.int .i64 f.wire, .int .i64 f.kind, .int .i64 f.src, .int .i64 f.dst, .int .u32 (f.life.toNat : Int), .int .u32 (f.seq.toNat : Int), .int .u32 (f.ack.toNat : Int), .int .u32 (f.hint.toNat : Int), .string f.data] 24
  have hB0 : Below w.heap.size w (w.alloc (.cells #[.int .i64 f.wire, .int .i64 f.kind, .int .i64 f.src, .int .i64 f.dst, .int .u32 (f.life.toNat : Int), .int .u32 (f.seq.toNat : Int), .int .u32 (f.ack.toNat : Int), .int .u32 (f.hint.toNat : Int), .string f.data] 24)) := (Below.refl _ w).alloc (Nat.le_refl _) _
  go_wp2_with (first
    | (go_at_call 9
       refine (lawShown a0 a1 _ (L.below hB0 (Nat.le_refl _))).mono ?_
       rintro e w1 ⟨rfl, hb1⟩
       replace hB0 := hB0.trans (hb1.mono hB0.size)
       replace rf := rf.below hb1 rf.lt
       clear hb1
       have f0 := rf.cell 0 _ rfl
       have g0 := rf.thawed 0
       have f1 := rf.cell 1 _ rfl
       have g1 := rf.thawed 1
       have f2 := rf.cell 2 _ rfl
       have g2 := rf.thawed 2
       have f3 := rf.cell 3 _ rfl
       have g3 := rf.thawed 3
       have f4 := rf.cell 4 _ rfl
       have g4 := rf.thawed 4
       have f5 := rf.cell 5 _ rfl
       have g5 := rf.thawed 5
       have f6 := rf.cell 6 _ rfl
       have g6 := rf.thawed 6
       have f7 := rf.cell 7 _ rfl
       have g7 := rf.thawed 7
       have f8 := rf.cell 8 _ rfl
       have g8 := rf.thawed 8)
    | (go_at_call 10
       refine (HC.out _).mono ?_
       rintro e w2 ⟨rfl, hb2⟩
       unfold Fr.val Fr.cells
       replace hB0 := hB0.trans (hb2.mono hB0.size)
       replace rf := rf.below hb2 rf.lt
       clear hb2
       clear f0 f1 f2 f3 f4 f5 f6 f7 f8 g0 g1 g2 g3 g4 g5 g6 g7 g8
       have f0 := rf.cell 0 _ rfl
       have g0 := rf.thawed 0
       have f1 := rf.cell 1 _ rfl
       have g1 := rf.thawed 1
       have f2 := rf.cell 2 _ rfl
       have g2 := rf.thawed 2
       have f3 := rf.cell 3 _ rfl
       have g3 := rf.thawed 3
       have f4 := rf.cell 4 _ rfl
       have g4 := rf.thawed 4
       have f5 := rf.cell 5 _ rfl
       have g5 := rf.thawed 5
       have f6 := rf.cell 6 _ rfl
       have g6 := rf.thawed 6
       have f7 := rf.cell 7 _ rfl
       have g7 := rf.thawed 7
       have f8 := rf.cell 8 _ rfl
       have g8 := rf.thawed 8)
    | (go_at_call 18
       change Calls _ _ _ (fill9 w2 w.heap.size (.int .i64 F.wire) (.int .i64 F.kind) (.int .i64 F.src) (.int .i64 F.dst) (.int .u32 (F.life.toNat : Int)) (.int .u32 (F.seq.toNat : Int)) (.int .u32 (F.ack.toNat : Int)) (.int .u32 (F.hint.toNat : Int)) (.string F.data)) _
       replace rf := row_fill (.int .i64 f.wire) (.int .i64 f.kind) (.int .i64 f.src) (.int .i64 f.dst) (.int .u32 (f.life.toNat : Int)) (.int .u32 (f.seq.toNat : Int)) (.int .u32 (f.ack.toNat : Int)) (.int .u32 (f.hint.toNat : Int)) (.string f.data) (.int .i64 F.wire) (.int .i64 F.kind) (.int .i64 F.src) (.int .i64 F.dst) (.int .u32 (F.life.toNat : Int)) (.int .u32 (F.seq.toNat : Int)) (.int .u32 (F.ack.toNat : Int)) (.int .u32 (F.hint.toNat : Int)) (.string F.data) rf
       replace hB0 := below_fill (.int .i64 F.wire) (.int .i64 F.kind) (.int .i64 F.src) (.int .i64 F.dst) (.int .u32 (F.life.toNat : Int)) (.int .u32 (F.seq.toNat : Int)) (.int .u32 (F.ack.toNat : Int)) (.int .u32 (F.hint.toNat : Int)) (.string F.data) hB0 (b := w.heap.size) (Nat.le_refl _)
       clear f0 f1 f2 f3 f4 f5 f6 f7 f8 g0 g1 g2 g3 g4 g5 g6 g7 g8
       generalize (fill9 w2 w.heap.size (.int .i64 F.wire) (.int .i64 F.kind) (.int .i64 F.src) (.int .i64 F.dst) (.int .u32 (F.life.toNat : Int)) (.int .u32 (F.seq.toNat : Int)) (.int .u32 (F.ack.toNat : Int)) (.int .u32 (F.hint.toNat : Int)) (.string F.data)) = Y at *
       refine (HT1.out Y).mono ?_
       rintro e w3 ⟨rfl, hb3⟩
       replace hB0 := hB0.trans (hb3.mono hB0.size)
       replace rf := rf.below hb3 rf.lt
       clear hb3
       have hB3 := hB0.alloc hB0.size (.cells #[.int .i64 A.wire, .int .i64 A.kind, .int .i64 A.src, .int .i64 A.dst, .int .u32 (A.life.toNat : Int), .int .u32 (A.seq.toNat : Int), .int .u32 (A.ack.toNat : Int), .int .u32 (A.hint.toNat : Int), .string A.data] 24)
       have ra := Row.new w3 #[.int .i64 A.wire, .int .i64 A.kind, .int .i64 A.src, .int .i64 A.dst, .int .u32 (A.life.toNat : Int), .int .u32 (A.seq.toNat : Int), .int .u32 (A.ack.toNat : Int), .int .u32 (A.hint.toNat : Int), .string A.data] 24
       have rf3 := rf.alloc (.cells #[.int .i64 A.wire, .int .i64 A.kind, .int .i64 A.src, .int .i64 A.dst, .int .u32 (A.life.toNat : Int), .int .u32 (A.seq.toNat : Int), .int .u32 (A.ack.toNat : Int), .int .u32 (A.hint.toNat : Int), .string A.data] 24)
       clear rf hB0
       have f0 := rf3.cell 0 _ rfl
       have g0 := rf3.thawed 0
       have f1 := rf3.cell 1 _ rfl
       have g1 := rf3.thawed 1
       have f2 := rf3.cell 2 _ rfl
       have g2 := rf3.thawed 2
       have f3 := rf3.cell 3 _ rfl
       have g3 := rf3.thawed 3
       have f4 := rf3.cell 4 _ rfl
       have g4 := rf3.thawed 4
       have f5 := rf3.cell 5 _ rfl
       have g5 := rf3.thawed 5
       have f6 := rf3.cell 6 _ rfl
       have g6 := rf3.thawed 6
       have f7 := rf3.cell 7 _ rfl
       have g7 := rf3.thawed 7
       have f8 := rf3.cell 8 _ rfl
       have g8 := rf3.thawed 8)
    | (go_at_call 19
       refine (HT2.out _).mono ?_
       rintro e w4 ⟨rfl, hb4⟩
       replace hB3 := hB3.trans (hb4.mono hB3.size)
       replace ra := ra.below hb4 ra.lt
       have h34 : w3.heap.size + 1 ≤ w4.heap.size := by have := hb4.size; simpa using this
       clear hb4 rf3
       clear f0 f1 f2 f3 f4 f5 f6 f7 f8 g0 g1 g2 g3 g4 g5 g6 g7 g8
       have hB4 := hB3.alloc hB3.size (.cells #[.int .i64 A.wire, .int .i64 A.kind, .int .i64 A.src, .int .i64 A.dst, .int .u32 (A.life.toNat : Int), .int .u32 (A.seq.toNat : Int), .int .u32 (A.ack.toNat : Int), .int .u32 (A.hint.toNat : Int), .string A.data] 24)
       have rb := Row.new w4 #[.int .i64 A.wire, .int .i64 A.kind, .int .i64 A.src, .int .i64 A.dst, .int .u32 (A.life.toNat : Int), .int .u32 (A.seq.toNat : Int), .int .u32 (A.ack.toNat : Int), .int .u32 (A.hint.toNat : Int), .string A.data] 24
       replace ra := ra.alloc (.cells #[.int .i64 A.wire, .int .i64 A.kind, .int .i64 A.src, .int .i64 A.dst, .int .u32 (A.life.toNat : Int), .int .u32 (A.seq.toNat : Int), .int .u32 (A.ack.toNat : Int), .int .u32 (A.hint.toNat : Int), .string A.data] 24)
       clear hB3)
    | (go_at_call 20
       refine (HA1.out _).mono ?_
       rintro e w5 ⟨rfl, hb5⟩
       replace hB4 := hB4.trans (hb5.mono hB4.size)
       replace ra := ra.below hb5 ra.lt
       replace rb := rb.below hb5 rb.lt
       clear hb5)
    | (go_at_call 21
       refine (HA2.out _).mono ?_
       rintro e w6 ⟨rfl, rfl⟩
       have qa0 := ra.cell 0 _ rfl
       have ya0 := ra.thawed 0
       have qa1 := ra.cell 1 _ rfl
       have ya1 := ra.thawed 1
       have qa2 := ra.cell 2 _ rfl
       have ya2 := ra.thawed 2
       have qa3 := ra.cell 3 _ rfl
       have ya3 := ra.thawed 3
       have qa4 := ra.cell 4 _ rfl
       have ya4 := ra.thawed 4
       have qa5 := ra.cell 5 _ rfl
       have ya5 := ra.thawed 5
       have qa6 := ra.cell 6 _ rfl
       have ya6 := ra.thawed 6
       have qa7 := ra.cell 7 _ rfl
       have ya7 := ra.thawed 7
       have qa8 := ra.cell 8 _ rfl
       have ya8 := ra.thawed 8
       have qb0 := rb.cell 0 _ rfl
       have yb0 := rb.thawed 0
       have qb1 := rb.cell 1 _ rfl
       have yb1 := rb.thawed 1
       have qb2 := rb.cell 2 _ rfl
       have yb2 := rb.thawed 2
       have qb3 := rb.cell 3 _ rfl
       have yb3 := rb.thawed 3
       have qb4 := rb.cell 4 _ rfl
       have yb4 := rb.thawed 4
       have qb5 := rb.cell 5 _ rfl
       have yb5 := rb.thawed 5
       have qb6 := rb.cell 6 _ rfl
       have yb6 := rb.thawed 6
       have qb7 := rb.cell 7 _ rfl
       have yb7 := rb.thawed 7
       have qb8 := rb.cell 8 _ rfl
       have yb8 := rb.thawed 8))
  go_ret
  exact ⟨rfl, hB4⟩
end Go.Proofs.YtlcenfgnmmkcpaaDoor
