/-
  The law of a frame turned and turned back, walked.
-/
import Derived.Test.YtogjpnbkdjjhdaaDoorFrameLaw
namespace Go.Proofs.YtogjpnbkdjjhdaaDoor
open Go.RowKit Go.Shelf
attribute [local go_sem] Oper.semAt_some
set_option linter.unusedVariables false
set_option linter.unusedSimpArgs false

set_option maxRecDepth 100000 in
set_option maxHeartbeats 4000000 in
theorem keepsNo (f : Fr) (hs : f.data.size ≤ maxLen) (F : Fr) (hF : f.cut = F) (hr : ¬ F.Right) (a0 a1 : Addr) (w : World) (L : Errs w a0 a1) : Calls Tryd.prog 8 #[f.val] w fun e w' => e = .returned (.bool true) ∧ Below w.heap.size w w' := by
  have hc := fun w => lawCut f hs w
  have hz : F.data.size ≤ 4200 := by rw [← hF]; exact f.cut_size
  have hzm : F.data.size ≤ maxLen := by unfold maxLen; omega
  rw [hF] at hc
  have HC := Lib.hid hc
  have hn : ¬ Fr.nil.Right := by decide +kernel
  have HT1 := Lib.hid (fun W => by have h := frameTurn F 2 hzm W; rw [turnF, if_neg hr] at h; exact h : ∀ W : World, Calls Tryd.prog 20 #[.agg #[.int .i64 F.wire, .int .i64 F.kind, .int .i64 F.src, .int .i64 F.dst, .int .u32 (F.life.toNat : Int), .int .u32 (F.seq.toNat : Int), .int .u32 (F.ack.toNat : Int), .int .u32 (F.hint.toNat : Int), .string F.data], .int .i64 2] W fun e w' => e = .returned (.tuple #[.agg #[.int .i64 0, .int .i64 0, .int .i64 0, .int .i64 0, .int .u32 0, .int .u32 0, .int .u32 0, .int .u32 0, .string ⟨#[]⟩], .int .i64 20]) ∧ Below W.heap.size W w')
  have HT2 := Lib.hid (fun W => by have h := frameTurn Fr.nil 1 (by decide) W; rw [turnF, if_neg hn] at h; exact h : ∀ W : World, Calls Tryd.prog 20 #[.agg #[.int .i64 0, .int .i64 0, .int .i64 0, .int .i64 0, .int .u32 0, .int .u32 0, .int .u32 0, .int .u32 0, .string ⟨#[]⟩], .int .i64 1] W fun e w' => e = .returned (.tuple #[.agg #[.int .i64 0, .int .i64 0, .int .i64 0, .int .i64 0, .int .u32 0, .int .u32 0, .int .u32 0, .int .u32 0, .string ⟨#[]⟩], .int .i64 20]) ∧ Below W.heap.size W w')
  have HR := Lib.hid (fun W => by have h := frameRight F hzm W; rw [decide_eq_false hr] at h; exact h : ∀ W : World, Calls Tryd.prog 15 #[.agg #[.int .i64 F.wire, .int .i64 F.kind, .int .i64 F.src, .int .i64 F.dst, .int .u32 (F.life.toNat : Int), .int .u32 (F.seq.toNat : Int), .int .u32 (F.ack.toNat : Int), .int .u32 (F.hint.toNat : Int), .string F.data]] W fun e w' => e = .returned (.bool false) ∧ Below W.heap.size W w')
  clear hc hF

  go_enter Tryd.func8, Tryd.ntmps8
  unfold Fr.val Fr.cells
  have rf := Row.new w #[.int .i64 f.wire, .int .i64 f.kind, .int .i64 f.src, .int .i64 f.dst, .int .u32 (f.life.toNat : Int), .int .u32 (f.seq.toNat : Int), .int .u32 (f.ack.toNat : Int), .int .u32 (f.hint.toNat : Int), .string f.data] 24
  have hB0 : Below w.heap.size w (w.alloc (.cells #[.int .i64 f.wire, .int .i64 f.kind, .int .i64 f.src, .int .i64 f.dst, .int .u32 (f.life.toNat : Int), .int .u32 (f.seq.toNat : Int), .int .u32 (f.ack.toNat : Int), .int .u32 (f.hint.toNat : Int), .string f.data] 24)) := (Below.refl _ w).alloc (Nat.le_refl _) _
  go_wp2_with (first
    | (go_at_call 11
       refine (lawShown a0 a1 _ (L.below hB0 (Nat.le_refl _))).mono ?_
       rintro e w1 ⟨rfl, hb1⟩
       replace hB0 := hB0.trans (hb1.mono hB0.size)
       replace rf := rf.below hb1 rf.lt
       clear hb1
       have f0 := rf.cell 0 _ rfl
       have g0 := rf.thawed 0
       have f1 := rf.cell 1 _ rfl
       have g1 := rf.thawed 1
       have f2 := rf.cell 2 _ rfl
       have g2 := rf.thawed 2
       have f3 := rf.cell 3 _ rfl
       have g3 := rf.thawed 3
       have f4 := rf.cell 4 _ rfl
       have g4 := rf.thawed 4
       have f5 := rf.cell 5 _ rfl
       have g5 := rf.thawed 5
       have f6 := rf.cell 6 _ rfl
       have g6 := rf.thawed 6
       have f7 := rf.cell 7 _ rfl
       have g7 := rf.thawed 7
       have f8 := rf.cell 8 _ rfl
       have g8 := rf.thawed 8)
    | (go_at_call 12
       refine (HC.out _).mono ?_
       rintro e w2 ⟨rfl, hb2⟩
       unfold Fr.val Fr.cells
       replace hB0 := hB0.trans (hb2.mono hB0.size)
       replace rf := rf.below hb2 rf.lt
       clear hb2
       clear f0 f1 f2 f3 f4 f5 f6 f7 f8 g0 g1 g2 g3 g4 g5 g6 g7 g8
       have f0 := rf.cell 0 _ rfl
       have g0 := rf.thawed 0
       have f1 := rf.cell 1 _ rfl
       have g1 := rf.thawed 1
       have f2 := rf.cell 2 _ rfl
       have g2 := rf.thawed 2
       have f3 := rf.cell 3 _ rfl
       have g3 := rf.thawed 3
       have f4 := rf.cell 4 _ rfl
       have g4 := rf.thawed 4
       have f5 := rf.cell 5 _ rfl
       have g5 := rf.thawed 5
       have f6 := rf.cell 6 _ rfl
       have g6 := rf.thawed 6
       have f7 := rf.cell 7 _ rfl
       have g7 := rf.thawed 7
       have f8 := rf.cell 8 _ rfl
       have g8 := rf.thawed 8)
    | (go_at_call 20
       have HT := HT1
       change Calls _ _ _ (fill9 w2 w.heap.size (.int .i64 F.wire) (.int .i64 F.kind) (.int .i64 F.src) (.int .i64 F.dst) (.int .u32 (F.life.toNat : Int)) (.int .u32 (F.seq.toNat : Int)) (.int .u32 (F.ack.toNat : Int)) (.int .u32 (F.hint.toNat : Int)) (.string F.data)) _
       replace rf := row_fill (.int .i64 f.wire) (.int .i64 f.kind) (.int .i64 f.src) (.int .i64 f.dst) (.int .u32 (f.life.toNat : Int)) (.int .u32 (f.seq.toNat : Int)) (.int .u32 (f.ack.toNat : Int)) (.int .u32 (f.hint.toNat : Int)) (.string f.data) (.int .i64 F.wire) (.int .i64 F.kind) (.int .i64 F.src) (.int .i64 F.dst) (.int .u32 (F.life.toNat : Int)) (.int .u32 (F.seq.toNat : Int)) (.int .u32 (F.ack.toNat : Int)) (.int .u32 (F.hint.toNat : Int)) (.string F.data) rf
       replace hB0 := below_fill (.int .i64 F.wire) (.int .i64 F.kind) (.int .i64 F.src) (.int .i64 F.dst) (.int .u32 (F.life.toNat : Int)) (.int .u32 (F.seq.toNat : Int)) (.int .u32 (F.ack.toNat : Int)) (.int .u32 (F.hint.toNat : Int)) (.string F.data) hB0 (b := w.heap.size) (Nat.le_refl _)
       clear f0 f1 f2 f3 f4 f5 f6 f7 f8 g0 g1 g2 g3 g4 g5 g6 g7 g8
       generalize (fill9 w2 w.heap.size (.int .i64 F.wire) (.int .i64 F.kind) (.int .i64 F.src) (.int .i64 F.dst) (.int .u32 (F.life.toNat : Int)) (.int .u32 (F.seq.toNat : Int)) (.int .u32 (F.ack.toNat : Int)) (.int .u32 (F.hint.toNat : Int)) (.string F.data)) = Y at *
       refine (HT.out Y).mono ?_
       clear HT HT1
       rintro e w3 ⟨rfl, hb3⟩
       replace hB0 := hB0.trans (hb3.mono hB0.size)
       replace rf := rf.below hb3 rf.lt
       clear hb3
       have hB3 := hB0.alloc hB0.size (.cells #[.int .i64 0, .int .i64 0, .int .i64 0, .int .i64 0, .int .u32 0, .int .u32 0, .int .u32 0, .int .u32 0, .string ⟨#[]⟩] 24)
       have ra := Row.new w3 #[.int .i64 0, .int .i64 0, .int .i64 0, .int .i64 0, .int .u32 0, .int .u32 0, .int .u32 0, .int .u32 0, .string ⟨#[]⟩] 24
       have rf3 := rf.alloc (.cells #[.int .i64 0, .int .i64 0, .int .i64 0, .int .i64 0, .int .u32 0, .int .u32 0, .int .u32 0, .int .u32 0, .string ⟨#[]⟩] 24))
    | (go_at_call 20
       refine (HT2.out _).mono ?_
       rintro e w4 ⟨rfl, hb4⟩
       replace hB3 := hB3.trans (hb4.mono hB3.size)
       replace rf3 := rf3.below hb4 rf3.lt
       replace ra := ra.below hb4 ra.lt
       clear rf hB0
       have h34 : w3.heap.size + 1 ≤ w4.heap.size := by have := hb4.size; simpa using this
       clear hb4
       have hB4 := hB3.alloc hB3.size (.cells #[.int .i64 0, .int .i64 0, .int .i64 0, .int .i64 0, .int .u32 0, .int .u32 0, .int .u32 0, .int .u32 0, .string ⟨#[]⟩] 24)
       have rb := Row.new w4 #[.int .i64 0, .int .i64 0, .int .i64 0, .int .i64 0, .int .u32 0, .int .u32 0, .int .u32 0, .int .u32 0, .string ⟨#[]⟩] 24
       have rf4 := rf3.alloc (.cells #[.int .i64 0, .int .i64 0, .int .i64 0, .int .i64 0, .int .u32 0, .int .u32 0, .int .u32 0, .int .u32 0, .string ⟨#[]⟩] 24)
       have ra4 := ra.alloc (.cells #[.int .i64 0, .int .i64 0, .int .i64 0, .int .i64 0, .int .u32 0, .int .u32 0, .int .u32 0, .int .u32 0, .string ⟨#[]⟩] 24)
       have f0 := rf4.cell 0 _ rfl
       have g0 := rf4.thawed 0
       have f1 := rf4.cell 1 _ rfl
       have g1 := rf4.thawed 1
       have f2 := rf4.cell 2 _ rfl
       have g2 := rf4.thawed 2
       have f3 := rf4.cell 3 _ rfl
       have g3 := rf4.thawed 3
       have f4 := rf4.cell 4 _ rfl
       have g4 := rf4.thawed 4
       have f5 := rf4.cell 5 _ rfl
       have g5 := rf4.thawed 5
       have f6 := rf4.cell 6 _ rfl
       have g6 := rf4.thawed 6
       have f7 := rf4.cell 7 _ rfl
       have g7 := rf4.thawed 7
       have f8 := rf4.cell 8 _ rfl
       have g8 := rf4.thawed 8)
    | (go_at_call 15
       refine (HR.out _).mono ?_
       rintro e w5 ⟨rfl, hb5⟩))
  go_ret
  exact ⟨rfl, hB4.trans (hb5.mono hB4.size)⟩
set_option maxRecDepth 100000 in
set_option maxHeartbeats 4000000 in
theorem keepsYes (f : Fr) (hs : f.data.size ≤ maxLen) (F : Fr) (hF : f.cut = F) (hr : F.Right) (a0 a1 : Addr) (w : World) (L : Errs w a0 a1) : Calls Tryd.prog 8 #[f.val] w fun e w' => e = .returned (.bool true) ∧ Below w.heap.size w w' := by
  have hc := fun w => lawCut f hs w
  have hz : F.data.size ≤ 4200 := by rw [← hF]; exact f.cut_size
  have hzm : F.data.size ≤ maxLen := by unfold maxLen; omega
  rw [hF] at hc
  have HC := Lib.hid hc
  have hw1 : (F.turn 2).Right := by
    obtain ⟨h1, h2, h3, h4, h5, h6⟩ := hr
    exact ⟨.inr rfl, h2, h3, h4, h5, fun h => absurd h (by show ¬ (2 : Int) = 1; decide)⟩
  have hw2 : (Fr.mk 1 F.kind F.src F.dst F.life F.seq F.ack 0 F.data).Right := by
    obtain ⟨h1, h2, h3, h4, h5, h6⟩ := hr
    exact ⟨.inl rfl, h2, h3, h4, h5, fun _ => rfl⟩
  have HT1 := Lib.hid (fun W => by have h := frameTurn F 2 hzm W; rw [turnF, if_pos hr, if_pos (by decide)] at h; exact h : ∀ W : World, Calls Tryd.prog 20 #[.agg #[.int .i64 F.wire, .int .i64 F.kind, .int .i64 F.src, .int .i64 F.dst, .int .u32 (F.life.toNat : Int), .int .u32 (F.seq.toNat : Int), .int .u32 (F.ack.toNat : Int), .int .u32 (F.hint.toNat : Int), .string F.data], .int .i64 2] W fun e w' => e = .returned (.tuple #[.agg #[.int .i64 2, .int .i64 F.kind, .int .i64 F.src, .int .i64 F.dst, .int .u32 (F.life.toNat : Int), .int .u32 (F.seq.toNat : Int), .int .u32 (F.ack.toNat : Int), .int .u32 (F.hint.toNat : Int), .string F.data], .int .i64 0]) ∧ Below W.heap.size W w')
  have HT2 := Lib.hid (fun W => by have h := frameTurn (F.turn 2) 1 hzm W; rw [turnF, if_pos hw1, if_pos (by decide)] at h; exact h : ∀ W : World, Calls Tryd.prog 20 #[.agg #[.int .i64 2, .int .i64 F.kind, .int .i64 F.src, .int .i64 F.dst, .int .u32 (F.life.toNat : Int), .int .u32 (F.seq.toNat : Int), .int .u32 (F.ack.toNat : Int), .int .u32 (F.hint.toNat : Int), .string F.data], .int .i64 1] W fun e w' => e = .returned (.tuple #[.agg #[.int .i64 1, .int .i64 F.kind, .int .i64 F.src, .int .i64 F.dst, .int .u32 (F.life.toNat : Int), .int .u32 (F.seq.toNat : Int), .int .u32 (F.ack.toNat : Int), .int .u32 0, .string F.data], .int .i64 0]) ∧ Below W.heap.size W w')
  have HR1 := Lib.hid (fun W => by have h := frameRight (F.turn 2) hzm W; rw [decide_eq_true hw1] at h; exact h : ∀ W : World, Calls Tryd.prog 15 #[.agg #[.int .i64 2, .int .i64 F.kind, .int .i64 F.src, .int .i64 F.dst, .int .u32 (F.life.toNat : Int), .int .u32 (F.seq.toNat : Int), .int .u32 (F.ack.toNat : Int), .int .u32 (F.hint.toNat : Int), .string F.data]] W fun e w' => e = .returned (.bool true) ∧ Below W.heap.size W w')
  have HR2 := Lib.hid (fun W => by have h := frameRight (Fr.mk 1 F.kind F.src F.dst F.life F.seq F.ack 0 F.data) hzm W; rw [decide_eq_true hw2] at h; exact h : ∀ W : World, Calls Tryd.prog 15 #[.agg #[.int .i64 1, .int .i64 F.kind, .int .i64 F.src, .int .i64 F.dst, .int .u32 (F.life.toNat : Int), .int .u32 (F.seq.toNat : Int), .int .u32 (F.ack.toNat : Int), .int .u32 0, .string F.data]] W fun e w' => e = .returned (.bool true) ∧ Below W.heap.size W w')
  have hg : ∀ (x y : Operand) (W : World), (eqGuard .eql 24 x y (.agg #[.int .i64 1, .int .i64 F.kind, .int .i64 F.src, .int .i64 F.dst, .int .u32 (F.life.toNat : Int), .int .u32 (F.seq.toNat : Int), .int .u32 (F.ack.toNat : Int), .int .u32 0, .string F.data]) (.agg #[.int .i64 1, .int .i64 F.kind, .int .i64 F.src, .int .i64 F.dst, .int .u32 (F.life.toNat : Int), .int .u32 (F.seq.toNat : Int), .int .u32 (F.ack.toNat : Int), .int .u32 0, .string F.data])).run Tryd.prog W = .ok () W := fun x y W => frameGuard (Fr.mk 1 F.kind F.src F.dst F.life F.seq F.ack 0 F.data) (Fr.mk 1 F.kind F.src F.dst F.life F.seq F.ack 0 F.data) x y W
  have hq : ∀ W : World, (binOp .eql 24 (.agg #[.int .i64 1, .int .i64 F.kind, .int .i64 F.src, .int .i64 F.dst, .int .u32 (F.life.toNat : Int), .int .u32 (F.seq.toNat : Int), .int .u32 (F.ack.toNat : Int), .int .u32 0, .string F.data]) (.agg #[.int .i64 1, .int .i64 F.kind, .int .i64 F.src, .int .i64 F.dst, .int .u32 (F.life.toNat : Int), .int .u32 (F.seq.toNat : Int), .int .u32 (F.ack.toNat : Int), .int .u32 0, .string F.data])).run Tryd.prog W = .ok (.bool true) W := fun W => by have h := frameEql (Fr.mk 1 F.kind F.src F.dst F.life F.seq F.ack 0 F.data) (Fr.mk 1 F.kind F.src F.dst F.life F.seq F.ack 0 F.data) W; rw [decide_eq_true rfl] at h; exact h
  clear hr hw1 hw2
  clear hc hF

  go_enter Tryd.func8, Tryd.ntmps8
  unfold Fr.val Fr.cells
  have rf := Row.new w #[.int .i64 f.wire, .int .i64 f.kind, .int .i64 f.src, .int .i64 f.dst, .int .u32 (f.life.toNat : Int), .int .u32 (f.seq.toNat : Int), .int .u32 (f.ack.toNat : Int), .int .u32 (f.hint.toNat : Int), .string f.data] 24
  have hB0 : Below w.heap.size w (w.alloc (.cells #[.int .i64 f.wire, .int .i64 f.kind, .int .i64 f.src, .int .i64 f.dst, .int .u32 (f.life.toNat : Int), .int .u32 (f.seq.toNat : Int), .int .u32 (f.ack.toNat : Int), .int .u32 (f.hint.toNat : Int), .string f.data] 24)) := (Below.refl _ w).alloc (Nat.le_refl _) _
  go_wp2_with (first
    | (go_at_call 11
       refine (lawShown a0 a1 _ (L.below hB0 (Nat.le_refl _))).mono ?_
       rintro e w1 ⟨rfl, hb1⟩
       replace hB0 := hB0.trans (hb1.mono hB0.size)
       replace rf := rf.below hb1 rf.lt
       clear hb1
       have f0 := rf.cell 0 _ rfl
       have g0 := rf.thawed 0
       have f1 := rf.cell 1 _ rfl
       have g1 := rf.thawed 1
       have f2 := rf.cell 2 _ rfl
       have g2 := rf.thawed 2
       have f3 := rf.cell 3 _ rfl
       have g3 := rf.thawed 3
       have f4 := rf.cell 4 _ rfl
       have g4 := rf.thawed 4
       have f5 := rf.cell 5 _ rfl
       have g5 := rf.thawed 5
       have f6 := rf.cell 6 _ rfl
       have g6 := rf.thawed 6
       have f7 := rf.cell 7 _ rfl
       have g7 := rf.thawed 7
       have f8 := rf.cell 8 _ rfl
       have g8 := rf.thawed 8)
    | (go_at_call 12
       refine (HC.out _).mono ?_
       rintro e w2 ⟨rfl, hb2⟩
       unfold Fr.val Fr.cells
       replace hB0 := hB0.trans (hb2.mono hB0.size)
       replace rf := rf.below hb2 rf.lt
       clear hb2
       clear f0 f1 f2 f3 f4 f5 f6 f7 f8 g0 g1 g2 g3 g4 g5 g6 g7 g8
       have f0 := rf.cell 0 _ rfl
       have g0 := rf.thawed 0
       have f1 := rf.cell 1 _ rfl
       have g1 := rf.thawed 1
       have f2 := rf.cell 2 _ rfl
       have g2 := rf.thawed 2
       have f3 := rf.cell 3 _ rfl
       have g3 := rf.thawed 3
       have f4 := rf.cell 4 _ rfl
       have g4 := rf.thawed 4
       have f5 := rf.cell 5 _ rfl
       have g5 := rf.thawed 5
       have f6 := rf.cell 6 _ rfl
       have g6 := rf.thawed 6
       have f7 := rf.cell 7 _ rfl
       have g7 := rf.thawed 7
       have f8 := rf.cell 8 _ rfl
       have g8 := rf.thawed 8)
    | (go_at_call 20
       have HT := HT1
       change Calls _ _ _ (fill9 w2 w.heap.size (.int .i64 F.wire) (.int .i64 F.kind) (.int .i64 F.src) (.int .i64 F.dst) (.int .u32 (F.life.toNat : Int)) (.int .u32 (F.seq.toNat : Int)) (.int .u32 (F.ack.toNat : Int)) (.int .u32 (F.hint.toNat : Int)) (.string F.data)) _
       replace rf := row_fill (.int .i64 f.wire) (.int .i64 f.kind) (.int .i64 f.src) (.int .i64 f.dst) (.int .u32 (f.life.toNat : Int)) (.int .u32 (f.seq.toNat : Int)) (.int .u32 (f.ack.toNat : Int)) (.int .u32 (f.hint.toNat : Int)) (.string f.data) (.int .i64 F.wire) (.int .i64 F.kind) (.int .i64 F.src) (.int .i64 F.dst) (.int .u32 (F.life.toNat : Int)) (.int .u32 (F.seq.toNat : Int)) (.int .u32 (F.ack.toNat : Int)) (.int .u32 (F.hint.toNat : Int)) (.string F.data) rf
       replace hB0 := below_fill (.int .i64 F.wire) (.int .i64 F.kind) (.int .i64 F.src) (.int .i64 F.dst) (.int .u32 (F.life.toNat : Int)) (.int .u32 (F.seq.toNat : Int)) (.int .u32 (F.ack.toNat : Int)) (.int .u32 (F.hint.toNat : Int)) (.string F.data) hB0 (b := w.heap.size) (Nat.le_refl _)
       clear f0 f1 f2 f3 f4 f5 f6 f7 f8 g0 g1 g2 g3 g4 g5 g6 g7 g8
       generalize (fill9 w2 w.heap.size (.int .i64 F.wire) (.int .i64 F.kind) (.int .i64 F.src) (.int .i64 F.dst) (.int .u32 (F.life.toNat : Int)) (.int .u32 (F.seq.toNat : Int)) (.int .u32 (F.ack.toNat : Int)) (.int .u32 (F.hint.toNat : Int)) (.string F.data)) = Y at *
       refine (HT.out Y).mono ?_
       clear HT HT1
       rintro e w3 ⟨rfl, hb3⟩
       replace hB0 := hB0.trans (hb3.mono hB0.size)
       replace rf := rf.below hb3 rf.lt
       clear hb3
       have hB3 := hB0.alloc hB0.size (.cells #[.int .i64 2, .int .i64 F.kind, .int .i64 F.src, .int .i64 F.dst, .int .u32 (F.life.toNat : Int), .int .u32 (F.seq.toNat : Int), .int .u32 (F.ack.toNat : Int), .int .u32 (F.hint.toNat : Int), .string F.data] 24)
       have ra := Row.new w3 #[.int .i64 2, .int .i64 F.kind, .int .i64 F.src, .int .i64 F.dst, .int .u32 (F.life.toNat : Int), .int .u32 (F.seq.toNat : Int), .int .u32 (F.ack.toNat : Int), .int .u32 (F.hint.toNat : Int), .string F.data] 24
       have rf3 := rf.alloc (.cells #[.int .i64 2, .int .i64 F.kind, .int .i64 F.src, .int .i64 F.dst, .int .u32 (F.life.toNat : Int), .int .u32 (F.seq.toNat : Int), .int .u32 (F.ack.toNat : Int), .int .u32 (F.hint.toNat : Int), .string F.data] 24))
    | (go_at_call 20
       refine (HT2.out _).mono ?_
       rintro e w4 ⟨rfl, hb4⟩
       replace hB3 := hB3.trans (hb4.mono hB3.size)
       replace rf3 := rf3.below hb4 rf3.lt
       replace ra := ra.below hb4 ra.lt
       clear rf hB0
       have h34 : w3.heap.size + 1 ≤ w4.heap.size := by have := hb4.size; simpa using this
       clear hb4
       have hB4 := hB3.alloc hB3.size (.cells #[.int .i64 1, .int .i64 F.kind, .int .i64 F.src, .int .i64 F.dst, .int .u32 (F.life.toNat : Int), .int .u32 (F.seq.toNat : Int), .int .u32 (F.ack.toNat : Int), .int .u32 0, .string F.data] 24)
       have rb := Row.new w4 #[.int .i64 1, .int .i64 F.kind, .int .i64 F.src, .int .i64 F.dst, .int .u32 (F.life.toNat : Int), .int .u32 (F.seq.toNat : Int), .int .u32 (F.ack.toNat : Int), .int .u32 0, .string F.data] 24
       have rf4 := rf3.alloc (.cells #[.int .i64 1, .int .i64 F.kind, .int .i64 F.src, .int .i64 F.dst, .int .u32 (F.life.toNat : Int), .int .u32 (F.seq.toNat : Int), .int .u32 (F.ack.toNat : Int), .int .u32 0, .string F.data] 24)
       have ra4 := ra.alloc (.cells #[.int .i64 1, .int .i64 F.kind, .int .i64 F.src, .int .i64 F.dst, .int .u32 (F.life.toNat : Int), .int .u32 (F.seq.toNat : Int), .int .u32 (F.ack.toNat : Int), .int .u32 0, .string F.data] 24)
       have f0 := rf4.cell 0 _ rfl
       have g0 := rf4.thawed 0
       have f1 := rf4.cell 1 _ rfl
       have g1 := rf4.thawed 1
       have f2 := rf4.cell 2 _ rfl
       have g2 := rf4.thawed 2
       have f3 := rf4.cell 3 _ rfl
       have g3 := rf4.thawed 3
       have f4 := rf4.cell 4 _ rfl
       have g4 := rf4.thawed 4
       have f5 := rf4.cell 5 _ rfl
       have g5 := rf4.thawed 5
       have f6 := rf4.cell 6 _ rfl
       have g6 := rf4.thawed 6
       have f7 := rf4.cell 7 _ rfl
       have g7 := rf4.thawed 7
       have f8 := rf4.cell 8 _ rfl
       have g8 := rf4.thawed 8
       have qa0 := fun o => (ra4.alloc o).cell 0 _ rfl
       have qa1 := fun o => (ra4.alloc o).cell 1 _ rfl
       have qa2 := fun o => (ra4.alloc o).cell 2 _ rfl
       have qa3 := fun o => (ra4.alloc o).cell 3 _ rfl
       have qa4 := fun o => (ra4.alloc o).cell 4 _ rfl
       have qa5 := fun o => (ra4.alloc o).cell 5 _ rfl
       have qa6 := fun o => (ra4.alloc o).cell 6 _ rfl
       have qa7 := fun o => (ra4.alloc o).cell 7 _ rfl
       have qa8 := fun o => (ra4.alloc o).cell 8 _ rfl
       have qb0 := fun o => (rb.alloc o).cell 0 _ rfl
       have qb1 := fun o => (rb.alloc o).cell 1 _ rfl
       have qb2 := fun o => (rb.alloc o).cell 2 _ rfl
       have qb3 := fun o => (rb.alloc o).cell 3 _ rfl
       have qb4 := fun o => (rb.alloc o).cell 4 _ rfl
       have qb5 := fun o => (rb.alloc o).cell 5 _ rfl
       have qb6 := fun o => (rb.alloc o).cell 6 _ rfl
       have qb7 := fun o => (rb.alloc o).cell 7 _ rfl
       have qb8 := fun o => (rb.alloc o).cell 8 _ rfl
       have qf0 := fun o => (rf4.alloc o).cell 0 _ rfl
       have qf1 := fun o => (rf4.alloc o).cell 1 _ rfl
       have qf2 := fun o => (rf4.alloc o).cell 2 _ rfl
       have qf3 := fun o => (rf4.alloc o).cell 3 _ rfl
       have qf4 := fun o => (rf4.alloc o).cell 4 _ rfl
       have qf5 := fun o => (rf4.alloc o).cell 5 _ rfl
       have qf6 := fun o => (rf4.alloc o).cell 6 _ rfl
       have qf7 := fun o => (rf4.alloc o).cell 7 _ rfl
       have qf8 := fun o => (rf4.alloc o).cell 8 _ rfl)
    | (go_at_call 15
       have HR := HR1
       refine (HR.out _).mono ?_
       clear HR HR1
       rintro e w5 ⟨rfl, hb5⟩
       have rc := Row.new (w4.alloc (.cells #[.int .i64 1, .int .i64 F.kind, .int .i64 F.src, .int .i64 F.dst, .int .u32 (F.life.toNat : Int), .int .u32 (F.seq.toNat : Int), .int .u32 (F.ack.toNat : Int), .int .u32 0, .string F.data] 24)) #[.int .i64 1, .int .i64 F.kind, .int .i64 F.src, .int .i64 F.dst, .int .u32 (F.life.toNat : Int), .int .u32 (F.seq.toNat : Int), .int .u32 (F.ack.toNat : Int), .int .u32 0, .string F.data] 24
       have hB5 := (hB4.alloc hB4.size (.cells #[.int .i64 1, .int .i64 F.kind, .int .i64 F.src, .int .i64 F.dst, .int .u32 (F.life.toNat : Int), .int .u32 (F.seq.toNat : Int), .int .u32 (F.ack.toNat : Int), .int .u32 0, .string F.data] 24)).trans (hb5.mono (hB4.alloc hB4.size _).size)
       replace rc := rc.below hb5 rc.lt
       have rf5 := (rf4.alloc (.cells #[.int .i64 1, .int .i64 F.kind, .int .i64 F.src, .int .i64 F.dst, .int .u32 (F.life.toNat : Int), .int .u32 (F.seq.toNat : Int), .int .u32 (F.ack.toNat : Int), .int .u32 0, .string F.data] 24)).below hb5 (rf4.alloc _).lt
       have ra5 := (ra4.alloc (.cells #[.int .i64 1, .int .i64 F.kind, .int .i64 F.src, .int .i64 F.dst, .int .u32 (F.life.toNat : Int), .int .u32 (F.seq.toNat : Int), .int .u32 (F.ack.toNat : Int), .int .u32 0, .string F.data] 24)).below hb5 (ra4.alloc _).lt
       have rb5 := (rb.alloc (.cells #[.int .i64 1, .int .i64 F.kind, .int .i64 F.src, .int .i64 F.dst, .int .u32 (F.life.toNat : Int), .int .u32 (F.seq.toNat : Int), .int .u32 (F.ack.toNat : Int), .int .u32 0, .string F.data] 24)).below hb5 (rb.alloc _).lt
       clear hb5
       clear f0 f1 f2 f3 f4 f5 f6 f7 f8 g0 g1 g2 g3 g4 g5 g6 g7 g8
       clear qa0 qa1 qa2 qa3 qa4 qa5 qa6 qa7 qa8 qb0 qb1 qb2 qb3 qb4 qb5 qb6 qb7 qb8 qf0 qf1 qf2 qf3 qf4 qf5 qf6 qf7 qf8
       have qb0 := rb5.cell 0 _ rfl
       have yb0 := rb5.thawed 0
       have qb1 := rb5.cell 1 _ rfl
       have yb1 := rb5.thawed 1
       have qb2 := rb5.cell 2 _ rfl
       have yb2 := rb5.thawed 2
       have qb3 := rb5.cell 3 _ rfl
       have yb3 := rb5.thawed 3
       have qb4 := rb5.cell 4 _ rfl
       have yb4 := rb5.thawed 4
       have qb5 := rb5.cell 5 _ rfl
       have yb5 := rb5.thawed 5
       have qb6 := rb5.cell 6 _ rfl
       have yb6 := rb5.thawed 6
       have qb7 := rb5.cell 7 _ rfl
       have yb7 := rb5.thawed 7
       have qb8 := rb5.cell 8 _ rfl
       have yb8 := rb5.thawed 8)
    | (go_at_call 15
       refine (HR2.out _).mono ?_
       rintro e w6 ⟨rfl, hb6⟩
       replace hB5 := hB5.trans (hb6.mono hB5.size)
       replace rc := rc.below hb6 rc.lt
       replace rf5 := rf5.below hb6 rf5.lt
       replace ra5 := ra5.below hb6 ra5.lt
       replace rb5 := rb5.below hb6 rb5.lt
       simp only [World.size_alloc] at rc
       clear hb6 qb0 yb0 qb1 yb1 qb2 yb2 qb3 yb3 qb4 yb4 qb5 yb5 qb6 yb6 qb7 yb7 qb8 yb8
       have f0 := rf5.cell 0 _ rfl
       have g0 := rf5.thawed 0
       have f1 := rf5.cell 1 _ rfl
       have g1 := rf5.thawed 1
       have f2 := rf5.cell 2 _ rfl
       have g2 := rf5.thawed 2
       have f3 := rf5.cell 3 _ rfl
       have g3 := rf5.thawed 3
       have f4 := rf5.cell 4 _ rfl
       have g4 := rf5.thawed 4
       have f5 := rf5.cell 5 _ rfl
       have g5 := rf5.thawed 5
       have f6 := rf5.cell 6 _ rfl
       have g6 := rf5.thawed 6
       have f7 := rf5.cell 7 _ rfl
       have g7 := rf5.thawed 7
       have f8 := rf5.cell 8 _ rfl
       have g8 := rf5.thawed 8
       have qa0 := ra5.cell 0 _ rfl
       have ya0 := ra5.thawed 0
       have qa1 := ra5.cell 1 _ rfl
       have ya1 := ra5.thawed 1
       have qa2 := ra5.cell 2 _ rfl
       have ya2 := ra5.thawed 2
       have qa3 := ra5.cell 3 _ rfl
       have ya3 := ra5.thawed 3
       have qa4 := ra5.cell 4 _ rfl
       have ya4 := ra5.thawed 4
       have qa5 := ra5.cell 5 _ rfl
       have ya5 := ra5.thawed 5
       have qa6 := ra5.cell 6 _ rfl
       have ya6 := ra5.thawed 6
       have qa7 := ra5.cell 7 _ rfl
       have ya7 := ra5.thawed 7
       have qa8 := ra5.cell 8 _ rfl
       have ya8 := ra5.thawed 8
       have qb0 := rb5.cell 0 _ rfl
       have yb0 := rb5.thawed 0
       have qb1 := rb5.cell 1 _ rfl
       have yb1 := rb5.thawed 1
       have qb2 := rb5.cell 2 _ rfl
       have yb2 := rb5.thawed 2
       have qb3 := rb5.cell 3 _ rfl
       have yb3 := rb5.thawed 3
       have qb4 := rb5.cell 4 _ rfl
       have yb4 := rb5.thawed 4
       have qb5 := rb5.cell 5 _ rfl
       have yb5 := rb5.thawed 5
       have qb6 := rb5.cell 6 _ rfl
       have yb6 := rb5.thawed 6
       have qb7 := rb5.cell 7 _ rfl
       have yb7 := rb5.thawed 7
       have qb8 := rb5.cell 8 _ rfl
       have yb8 := rb5.thawed 8
       have qc0 := rc.cell 0 _ rfl
       have yc0 := rc.thawed 0
       have qc1 := rc.cell 1 _ rfl
       have yc1 := rc.thawed 1
       have qc2 := rc.cell 2 _ rfl
       have yc2 := rc.thawed 2
       have qc3 := rc.cell 3 _ rfl
       have yc3 := rc.thawed 3
       have qc4 := rc.cell 4 _ rfl
       have yc4 := rc.thawed 4
       have qc5 := rc.cell 5 _ rfl
       have yc5 := rc.thawed 5
       have qc6 := rc.cell 6 _ rfl
       have yc6 := rc.thawed 6
       have qc7 := rc.cell 7 _ rfl
       have yc7 := rc.thawed 7
       have qc8 := rc.cell 8 _ rfl
       have yc8 := rc.thawed 8))
  go_ret
  exact ⟨rfl, hB5⟩
theorem lawKeeps (f : Fr) (hs : f.data.size ≤ maxLen) (a0 a1 : Addr) (w : World) (L : Errs w a0 a1) : Calls Tryd.prog 8 #[f.val] w fun e w' => e = .returned (.bool true) ∧ Below w.heap.size w w' := by
  by_cases hr : f.cut.Right
  · exact keepsYes f hs _ rfl hr a0 a1 w L
  · exact keepsNo f hs _ rfl hr a0 a1 w L
end Go.Proofs.YtogjpnbkdjjhdaaDoor
