/-
  The law of frames and bytes, walked.
-/
import Derived.Test.YtlcenfgnmmkcpaaDoorFrameBackMath
namespace Go.Proofs.YtlcenfgnmmkcpaaDoor
open Go.RowKit Go.Shelf
attribute [local go_sem] Oper.semAt_some
set_option linter.unusedVariables false
set_option linter.unusedSimpArgs false

/-- The first five thousand bytes, as the walk spells them. -/
def five (s : ByteArray) : ByteArray := s.extract 0 (min (s.size : Int) 5000).toNat
theorem five_size (s : ByteArray) : (five s).size ≤ 5000 := by rw [five, ByteArray.size_extract]; omega
set_option maxRecDepth 100000 in
set_option maxHeartbeats 4000000 in
theorem backNoGood (f : Fr) (hs : f.data.size ≤ maxLen) (s : ByteArray) (hss : s.size ≤ maxLen) (F : Fr) (hF : f.cut = F) (hr : ¬ F.Right) (C : Fr) (hd : decF (five s) = (C, 0)) (hCr : C.Right) (hCs : txt (CrcM.withSum C.body) = five s) (a0 a1 : Addr) (w : World) (L : Errs w a0 a1) : Calls Tryd.prog 6 #[f.val, .string s] w fun e w' => e = .returned (.bool true) ∧ Below w.heap.size w w' := by
  have hc := fun w => lawCut f hs w
  have hz : F.data.size ≤ 4200 := by rw [← hF]; exact f.cut_size
  have hzm : F.data.size ≤ maxLen := by unfold maxLen; omega
  have hS := five_size s
  rw [hF] at hc
  have HC := Lib.hid hc
  have hssi : (s.size : Int) ≤ 9223372036854775807 := by unfold maxLen at hss; omega
  have HE1 := Lib.hid (frameEncodeNo F hr hzm : ∀ W : World, Calls Tryd.prog 11 #[.agg #[.int .i64 F.wire, .int .i64 F.kind, .int .i64 F.src, .int .i64 F.dst, .int .u32 (F.life.toNat : Int), .int .u32 (F.seq.toNat : Int), .int .u32 (F.ack.toNat : Int), .int .u32 (F.hint.toNat : Int), .string F.data]] W fun e w' => e = .returned (.tuple #[.string ⟨#[]⟩, .int .i64 20]) ∧ Below W.heap.size W w')
  have HD1 := Lib.hid (fun W LW => by have h := frameDecode ⟨#[]⟩ (by show 0 ≤ 100000; omega) a0 a1 W LW; rw [nil_dec] at h; exact h : ∀ W : World, Errs W a0 a1 → Calls Tryd.prog 16 #[.string ⟨#[]⟩] W fun e w' => e = .returned (.tuple #[.agg #[.int .i64 0, .int .i64 0, .int .i64 0, .int .i64 0, .int .u32 0, .int .u32 0, .int .u32 0, .int .u32 0, .string ⟨#[]⟩], .int .i64 21]) ∧ Below W.heap.size W w')
  have HR := Lib.hid (fun W => by have h := frameRight F hzm W; rw [decide_eq_false hr] at h; exact h : ∀ W : World, Calls Tryd.prog 13 #[.agg #[.int .i64 F.wire, .int .i64 F.kind, .int .i64 F.src, .int .i64 F.dst, .int .u32 (F.life.toNat : Int), .int .u32 (F.seq.toNat : Int), .int .u32 (F.ack.toNat : Int), .int .u32 (F.hint.toNat : Int), .string F.data]] W fun e w' => e = .returned (.bool false) ∧ Below W.heap.size W w')
  clear hr
  have HD2 := Lib.hid (fun W LW => by have h := frameDecode (five s) (by omega) a0 a1 W LW; rw [hd] at h; exact h : ∀ W : World, Errs W a0 a1 → Calls Tryd.prog 16 #[.string (five s)] W fun e w' => e = .returned (.tuple #[.agg #[.int .i64 C.wire, .int .i64 C.kind, .int .i64 C.src, .int .i64 C.dst, .int .u32 (C.life.toNat : Int), .int .u32 (C.seq.toNat : Int), .int .u32 (C.ack.toNat : Int), .int .u32 (C.hint.toNat : Int), .string C.data], .int .i64 0]) ∧ Below W.heap.size W w')
  have HE2 := Lib.hid (fun W => by have h := frameEncodeYes C hCr W; rw [hCs] at h; exact h : ∀ W : World, Calls Tryd.prog 11 #[.agg #[.int .i64 C.wire, .int .i64 C.kind, .int .i64 C.src, .int .i64 C.dst, .int .u32 (C.life.toNat : Int), .int .u32 (C.seq.toNat : Int), .int .u32 (C.ack.toNat : Int), .int .u32 (C.hint.toNat : Int), .string C.data]] W fun e w' => e = .returned (.tuple #[.string (five s), .int .i64 0]) ∧ Below W.heap.size W w')
  have hcg : ∀ (x y : Operand) (W : World), (eqGuard .eql 24 x y (.agg #[.int .i64 C.wire, .int .i64 C.kind, .int .i64 C.src, .int .i64 C.dst, .int .u32 (C.life.toNat : Int), .int .u32 (C.seq.toNat : Int), .int .u32 (C.ack.toNat : Int), .int .u32 (C.hint.toNat : Int), .string C.data]) (.agg #[.int .i64 0, .int .i64 0, .int .i64 0, .int .i64 0, .int .u32 0, .int .u32 0, .int .u32 0, .int .u32 0, .string ⟨#[]⟩])).run Tryd.prog W = .ok () W := fun x y W => frameGuard C Fr.nil x y W
  clear hd hCr hCs
  have hfive : s.extract 0 (min (s.size : Int) 5000).toNat = five s := rfl
  have hfs := five_size s
  generalize five s = S at *
  clear hc hF

  go_enter Tryd.func6, Tryd.ntmps6
  unfold Fr.val Fr.cells
  have rf := Row.new w #[.int .i64 f.wire, .int .i64 f.kind, .int .i64 f.src, .int .i64 f.dst, .int .u32 (f.life.toNat : Int), .int .u32 (f.seq.toNat : Int), .int .u32 (f.ack.toNat : Int), .int .u32 (f.hint.toNat : Int), .string f.data] 24
  have hB0 : Below w.heap.size w (w.alloc (.cells #[.int .i64 f.wire, .int .i64 f.kind, .int .i64 f.src, .int .i64 f.dst, .int .u32 (f.life.toNat : Int), .int .u32 (f.seq.toNat : Int), .int .u32 (f.ack.toNat : Int), .int .u32 (f.hint.toNat : Int), .string f.data] 24)) := (Below.refl _ w).alloc (Nat.le_refl _) _
  go_wp2_with (first
    | (go_at_call 9
       refine (lawShown a0 a1 _ (L.below hB0 (Nat.le_refl _))).mono ?_
       rintro e w1 ⟨rfl, hb1⟩
       replace hB0 := hB0.trans (hb1.mono hB0.size)
       replace rf := rf.below hb1 rf.lt
       clear hb1
       have f0 := rf.cell 0 _ rfl
       have g0 := rf.thawed 0
       have f1 := rf.cell 1 _ rfl
       have g1 := rf.thawed 1
       have f2 := rf.cell 2 _ rfl
       have g2 := rf.thawed 2
       have f3 := rf.cell 3 _ rfl
       have g3 := rf.thawed 3
       have f4 := rf.cell 4 _ rfl
       have g4 := rf.thawed 4
       have f5 := rf.cell 5 _ rfl
       have g5 := rf.thawed 5
       have f6 := rf.cell 6 _ rfl
       have g6 := rf.thawed 6
       have f7 := rf.cell 7 _ rfl
       have g7 := rf.thawed 7
       have f8 := rf.cell 8 _ rfl
       have g8 := rf.thawed 8)
    | (go_at_call 10
       refine (HC.out _).mono ?_
       rintro e w2 ⟨rfl, hb2⟩
       unfold Fr.val Fr.cells
       replace hB0 := hB0.trans (hb2.mono hB0.size)
       replace rf := rf.below hb2 rf.lt
       clear hb2
       clear f0 f1 f2 f3 f4 f5 f6 f7 f8 g0 g1 g2 g3 g4 g5 g6 g7 g8
       have f0 := rf.cell 0 _ rfl
       have g0 := rf.thawed 0
       have f1 := rf.cell 1 _ rfl
       have g1 := rf.thawed 1
       have f2 := rf.cell 2 _ rfl
       have g2 := rf.thawed 2
       have f3 := rf.cell 3 _ rfl
       have g3 := rf.thawed 3
       have f4 := rf.cell 4 _ rfl
       have g4 := rf.thawed 4
       have f5 := rf.cell 5 _ rfl
       have g5 := rf.thawed 5
       have f6 := rf.cell 6 _ rfl
       have g6 := rf.thawed 6
       have f7 := rf.cell 7 _ rfl
       have g7 := rf.thawed 7
       have f8 := rf.cell 8 _ rfl
       have g8 := rf.thawed 8)
    | (go_at_call 11
       have HE := HE1
       change Calls _ _ _ (fill9 w2 w.heap.size (.int .i64 F.wire) (.int .i64 F.kind) (.int .i64 F.src) (.int .i64 F.dst) (.int .u32 (F.life.toNat : Int)) (.int .u32 (F.seq.toNat : Int)) (.int .u32 (F.ack.toNat : Int)) (.int .u32 (F.hint.toNat : Int)) (.string F.data)) _
       replace rf := row_fill (.int .i64 f.wire) (.int .i64 f.kind) (.int .i64 f.src) (.int .i64 f.dst) (.int .u32 (f.life.toNat : Int)) (.int .u32 (f.seq.toNat : Int)) (.int .u32 (f.ack.toNat : Int)) (.int .u32 (f.hint.toNat : Int)) (.string f.data) (.int .i64 F.wire) (.int .i64 F.kind) (.int .i64 F.src) (.int .i64 F.dst) (.int .u32 (F.life.toNat : Int)) (.int .u32 (F.seq.toNat : Int)) (.int .u32 (F.ack.toNat : Int)) (.int .u32 (F.hint.toNat : Int)) (.string F.data) rf
       replace hB0 := below_fill (.int .i64 F.wire) (.int .i64 F.kind) (.int .i64 F.src) (.int .i64 F.dst) (.int .u32 (F.life.toNat : Int)) (.int .u32 (F.seq.toNat : Int)) (.int .u32 (F.ack.toNat : Int)) (.int .u32 (F.hint.toNat : Int)) (.string F.data) hB0 (b := w.heap.size) (Nat.le_refl _)
       clear f0 f1 f2 f3 f4 f5 f6 f7 f8 g0 g1 g2 g3 g4 g5 g6 g7 g8
       generalize (fill9 w2 w.heap.size (.int .i64 F.wire) (.int .i64 F.kind) (.int .i64 F.src) (.int .i64 F.dst) (.int .u32 (F.life.toNat : Int)) (.int .u32 (F.seq.toNat : Int)) (.int .u32 (F.ack.toNat : Int)) (.int .u32 (F.hint.toNat : Int)) (.string F.data)) = Y at *
       refine (HE.out Y).mono ?_
       clear HE HE1
       rintro e w3 ⟨rfl, hb3⟩
       replace hB0 := hB0.trans (hb3.mono hB0.size)
       replace rf := rf.below hb3 rf.lt
       clear hb3)
    | (go_at_call 16
       have HD := HD1
       refine (HD.out _ (L.below hB0 (Nat.le_refl _))).mono ?_
       clear HD HD1
       rintro e w4 ⟨rfl, hb4⟩
       replace hB0 := hB0.trans (hb4.mono hB0.size)
       replace rf := rf.below hb4 rf.lt
       clear hb4
       have hB4 := hB0.alloc hB0.size (.cells #[.int .i64 0, .int .i64 0, .int .i64 0, .int .i64 0, .int .u32 0, .int .u32 0, .int .u32 0, .int .u32 0, .string ⟨#[]⟩] 24)
       have rb := Row.new w4 #[.int .i64 0, .int .i64 0, .int .i64 0, .int .i64 0, .int .u32 0, .int .u32 0, .int .u32 0, .int .u32 0, .string ⟨#[]⟩] 24
       replace rf := rf.alloc (.cells #[.int .i64 0, .int .i64 0, .int .i64 0, .int .i64 0, .int .u32 0, .int .u32 0, .int .u32 0, .int .u32 0, .string ⟨#[]⟩] 24)
       clear hB0)
    | (go_at_call 16
       refine (HD2.out _ (L.below hB4 (Nat.le_refl _))).mono ?_
       rintro e w5 ⟨rfl, hb5⟩
       replace hB4 := hB4.trans (hb5.mono hB4.size)
       replace rf := rf.below hb5 rf.lt
       replace rb := rb.below hb5 rb.lt
       have h45 : w4.heap.size + 1 ≤ w5.heap.size := by have := hb5.size; simpa using this
       clear hb5
       have hB5 := hB4.alloc hB4.size (.cells #[.int .i64 C.wire, .int .i64 C.kind, .int .i64 C.src, .int .i64 C.dst, .int .u32 (C.life.toNat : Int), .int .u32 (C.seq.toNat : Int), .int .u32 (C.ack.toNat : Int), .int .u32 (C.hint.toNat : Int), .string C.data] 24)
       have rc := Row.new w5 #[.int .i64 C.wire, .int .i64 C.kind, .int .i64 C.src, .int .i64 C.dst, .int .u32 (C.life.toNat : Int), .int .u32 (C.seq.toNat : Int), .int .u32 (C.ack.toNat : Int), .int .u32 (C.hint.toNat : Int), .string C.data] 24
       replace rf := rf.alloc (.cells #[.int .i64 C.wire, .int .i64 C.kind, .int .i64 C.src, .int .i64 C.dst, .int .u32 (C.life.toNat : Int), .int .u32 (C.seq.toNat : Int), .int .u32 (C.ack.toNat : Int), .int .u32 (C.hint.toNat : Int), .string C.data] 24)
       replace rb := rb.alloc (.cells #[.int .i64 C.wire, .int .i64 C.kind, .int .i64 C.src, .int .i64 C.dst, .int .u32 (C.life.toNat : Int), .int .u32 (C.seq.toNat : Int), .int .u32 (C.ack.toNat : Int), .int .u32 (C.hint.toNat : Int), .string C.data] 24)
       clear hB4)
    | (go_at_call 11
       refine (HE2.out _).mono ?_
       rintro e w6 ⟨rfl, hb6⟩
       replace hB5 := hB5.trans (hb6.mono hB5.size)
       replace rf := rf.below hb6 rf.lt
       replace rb := rb.below hb6 rb.lt
       replace rc := rc.below hb6 rc.lt
       clear hb6
       have f0 := rf.cell 0 _ rfl
       have g0 := rf.thawed 0
       have f1 := rf.cell 1 _ rfl
       have g1 := rf.thawed 1
       have f2 := rf.cell 2 _ rfl
       have g2 := rf.thawed 2
       have f3 := rf.cell 3 _ rfl
       have g3 := rf.thawed 3
       have f4 := rf.cell 4 _ rfl
       have g4 := rf.thawed 4
       have f5 := rf.cell 5 _ rfl
       have g5 := rf.thawed 5
       have f6 := rf.cell 6 _ rfl
       have g6 := rf.thawed 6
       have f7 := rf.cell 7 _ rfl
       have g7 := rf.thawed 7
       have f8 := rf.cell 8 _ rfl
       have g8 := rf.thawed 8)
    | (go_at_call 13
       refine (HR.out _).mono ?_
       rintro e w7 ⟨rfl, hb7⟩
       replace hB5 := hB5.trans (hb7.mono hB5.size)
       replace rf := rf.below hb7 rf.lt
       replace rb := rb.below hb7 rb.lt
       replace rc := rc.below hb7 rc.lt
       clear hb7
       clear f0 f1 f2 f3 f4 f5 f6 f7 f8 g0 g1 g2 g3 g4 g5 g6 g7 g8
       have f0 := rf.cell 0 _ rfl
       have g0 := rf.thawed 0
       have f1 := rf.cell 1 _ rfl
       have g1 := rf.thawed 1
       have f2 := rf.cell 2 _ rfl
       have g2 := rf.thawed 2
       have f3 := rf.cell 3 _ rfl
       have g3 := rf.thawed 3
       have f4 := rf.cell 4 _ rfl
       have g4 := rf.thawed 4
       have f5 := rf.cell 5 _ rfl
       have g5 := rf.thawed 5
       have f6 := rf.cell 6 _ rfl
       have g6 := rf.thawed 6
       have f7 := rf.cell 7 _ rfl
       have g7 := rf.thawed 7
       have f8 := rf.cell 8 _ rfl
       have g8 := rf.thawed 8
       have qb0 := rb.cell 0 _ rfl
       have yb0 := rb.thawed 0
       have qb1 := rb.cell 1 _ rfl
       have yb1 := rb.thawed 1
       have qb2 := rb.cell 2 _ rfl
       have yb2 := rb.thawed 2
       have qb3 := rb.cell 3 _ rfl
       have yb3 := rb.thawed 3
       have qb4 := rb.cell 4 _ rfl
       have yb4 := rb.thawed 4
       have qb5 := rb.cell 5 _ rfl
       have yb5 := rb.thawed 5
       have qb6 := rb.cell 6 _ rfl
       have yb6 := rb.thawed 6
       have qb7 := rb.cell 7 _ rfl
       have yb7 := rb.thawed 7
       have qb8 := rb.cell 8 _ rfl
       have yb8 := rb.thawed 8
       have qc0 := rc.cell 0 _ rfl
       have yc0 := rc.thawed 0
       have qc1 := rc.cell 1 _ rfl
       have yc1 := rc.thawed 1
       have qc2 := rc.cell 2 _ rfl
       have yc2 := rc.thawed 2
       have qc3 := rc.cell 3 _ rfl
       have yc3 := rc.thawed 3
       have qc4 := rc.cell 4 _ rfl
       have yc4 := rc.thawed 4
       have qc5 := rc.cell 5 _ rfl
       have yc5 := rc.thawed 5
       have qc6 := rc.cell 6 _ rfl
       have yc6 := rc.thawed 6
       have qc7 := rc.cell 7 _ rfl
       have yc7 := rc.thawed 7
       have qc8 := rc.cell 8 _ rfl
       have yc8 := rc.thawed 8
       have pf0 := fun o => (rf.alloc o).cell 0 _ rfl
       have pf1 := fun o => (rf.alloc o).cell 1 _ rfl
       have pf2 := fun o => (rf.alloc o).cell 2 _ rfl
       have pf3 := fun o => (rf.alloc o).cell 3 _ rfl
       have pf4 := fun o => (rf.alloc o).cell 4 _ rfl
       have pf5 := fun o => (rf.alloc o).cell 5 _ rfl
       have pf6 := fun o => (rf.alloc o).cell 6 _ rfl
       have pf7 := fun o => (rf.alloc o).cell 7 _ rfl
       have pf8 := fun o => (rf.alloc o).cell 8 _ rfl
       have pb0 := fun o => (rb.alloc o).cell 0 _ rfl
       have pb1 := fun o => (rb.alloc o).cell 1 _ rfl
       have pb2 := fun o => (rb.alloc o).cell 2 _ rfl
       have pb3 := fun o => (rb.alloc o).cell 3 _ rfl
       have pb4 := fun o => (rb.alloc o).cell 4 _ rfl
       have pb5 := fun o => (rb.alloc o).cell 5 _ rfl
       have pb6 := fun o => (rb.alloc o).cell 6 _ rfl
       have pb7 := fun o => (rb.alloc o).cell 7 _ rfl
       have pb8 := fun o => (rb.alloc o).cell 8 _ rfl
       have pc0 := fun o => (rc.alloc o).cell 0 _ rfl
       have pc1 := fun o => (rc.alloc o).cell 1 _ rfl
       have pc2 := fun o => (rc.alloc o).cell 2 _ rfl
       have pc3 := fun o => (rc.alloc o).cell 3 _ rfl
       have pc4 := fun o => (rc.alloc o).cell 4 _ rfl
       have pc5 := fun o => (rc.alloc o).cell 5 _ rfl
       have pc6 := fun o => (rc.alloc o).cell 6 _ rfl
       have pc7 := fun o => (rc.alloc o).cell 7 _ rfl
       have pc8 := fun o => (rc.alloc o).cell 8 _ rfl))
  go_ret
  exact ⟨rfl, hB5⟩
set_option maxRecDepth 100000 in
set_option maxHeartbeats 4000000 in
theorem backNoBad (f : Fr) (hs : f.data.size ≤ maxLen) (s : ByteArray) (hss : s.size ≤ maxLen) (F : Fr) (hF : f.cut = F) (hr : ¬ F.Right) (h : Int) (hh : h ≠ 0) (hd : decF (five s) = (Fr.nil, h)) (a0 a1 : Addr) (w : World) (L : Errs w a0 a1) : Calls Tryd.prog 6 #[f.val, .string s] w fun e w' => e = .returned (.bool true) ∧ Below w.heap.size w w' := by
  have hc := fun w => lawCut f hs w
  have hz : F.data.size ≤ 4200 := by rw [← hF]; exact f.cut_size
  have hzm : F.data.size ≤ maxLen := by unfold maxLen; omega
  have hS := five_size s
  rw [hF] at hc
  have HC := Lib.hid hc
  have hssi : (s.size : Int) ≤ 9223372036854775807 := by unfold maxLen at hss; omega
  have HE1 := Lib.hid (frameEncodeNo F hr hzm : ∀ W : World, Calls Tryd.prog 11 #[.agg #[.int .i64 F.wire, .int .i64 F.kind, .int .i64 F.src, .int .i64 F.dst, .int .u32 (F.life.toNat : Int), .int .u32 (F.seq.toNat : Int), .int .u32 (F.ack.toNat : Int), .int .u32 (F.hint.toNat : Int), .string F.data]] W fun e w' => e = .returned (.tuple #[.string ⟨#[]⟩, .int .i64 20]) ∧ Below W.heap.size W w')
  have HD1 := Lib.hid (fun W LW => by have h := frameDecode ⟨#[]⟩ (by show 0 ≤ 100000; omega) a0 a1 W LW; rw [nil_dec] at h; exact h : ∀ W : World, Errs W a0 a1 → Calls Tryd.prog 16 #[.string ⟨#[]⟩] W fun e w' => e = .returned (.tuple #[.agg #[.int .i64 0, .int .i64 0, .int .i64 0, .int .i64 0, .int .u32 0, .int .u32 0, .int .u32 0, .int .u32 0, .string ⟨#[]⟩], .int .i64 21]) ∧ Below W.heap.size W w')
  have HR := Lib.hid (fun W => by have h := frameRight F hzm W; rw [decide_eq_false hr] at h; exact h : ∀ W : World, Calls Tryd.prog 13 #[.agg #[.int .i64 F.wire, .int .i64 F.kind, .int .i64 F.src, .int .i64 F.dst, .int .u32 (F.life.toNat : Int), .int .u32 (F.seq.toNat : Int), .int .u32 (F.ack.toNat : Int), .int .u32 (F.hint.toNat : Int), .string F.data]] W fun e w' => e = .returned (.bool false) ∧ Below W.heap.size W w')
  clear hr
  have hn : ¬ Fr.nil.Right := by decide +kernel
  have hd' : decF (five s) = (Fr.nil, h) := hd
  have HD2 := Lib.hid (fun W LW => by have h' := frameDecode (five s) (by omega) a0 a1 W LW; rw [hd'] at h'; exact h' : ∀ W : World, Errs W a0 a1 → Calls Tryd.prog 16 #[.string (five s)] W fun e w' => e = .returned (.tuple #[.agg #[.int .i64 0, .int .i64 0, .int .i64 0, .int .i64 0, .int .u32 0, .int .u32 0, .int .u32 0, .int .u32 0, .string ⟨#[]⟩], .int .i64 h]) ∧ Below W.heap.size W w')
  have HE2 := Lib.hid (frameEncodeNo Fr.nil hn (by decide) : ∀ W : World, Calls Tryd.prog 11 #[.agg #[.int .i64 0, .int .i64 0, .int .i64 0, .int .i64 0, .int .u32 0, .int .u32 0, .int .u32 0, .int .u32 0, .string ⟨#[]⟩]] W fun e w' => e = .returned (.tuple #[.string ⟨#[]⟩, .int .i64 20]) ∧ Below W.heap.size W w')
  have hcg : ∀ (x y : Operand) (W : World), (eqGuard .eql 24 x y (.agg #[.int .i64 0, .int .i64 0, .int .i64 0, .int .i64 0, .int .u32 0, .int .u32 0, .int .u32 0, .int .u32 0, .string ⟨#[]⟩]) (.agg #[.int .i64 0, .int .i64 0, .int .i64 0, .int .i64 0, .int .u32 0, .int .u32 0, .int .u32 0, .int .u32 0, .string ⟨#[]⟩])).run Tryd.prog W = .ok () W := fun x y W => frameGuard Fr.nil Fr.nil x y W
  have hcq : ∀ W : World, (binOp .eql 24 (.agg #[.int .i64 0, .int .i64 0, .int .i64 0, .int .i64 0, .int .u32 0, .int .u32 0, .int .u32 0, .int .u32 0, .string ⟨#[]⟩]) (.agg #[.int .i64 0, .int .i64 0, .int .i64 0, .int .i64 0, .int .u32 0, .int .u32 0, .int .u32 0, .int .u32 0, .string ⟨#[]⟩])).run Tryd.prog W = .ok (.bool true) W := fun W => by have h := frameEql Fr.nil Fr.nil W; rw [decide_eq_true rfl] at h; exact h
  have hne' : (h == 0) = false := by rw [beq_eq_false_iff_ne]; exact hh
  clear hd hd' hn
  have hfive : s.extract 0 (min (s.size : Int) 5000).toNat = five s := rfl
  have hfs := five_size s
  generalize five s = S at *
  clear hc hF

  go_enter Tryd.func6, Tryd.ntmps6
  unfold Fr.val Fr.cells
  have rf := Row.new w #[.int .i64 f.wire, .int .i64 f.kind, .int .i64 f.src, .int .i64 f.dst, .int .u32 (f.life.toNat : Int), .int .u32 (f.seq.toNat : Int), .int .u32 (f.ack.toNat : Int), .int .u32 (f.hint.toNat : Int), .string f.data] 24
  have hB0 : Below w.heap.size w (w.alloc (.cells #[.int .i64 f.wire, .int .i64 f.kind, .int .i64 f.src, .int .i64 f.dst, .int .u32 (f.life.toNat : Int), .int .u32 (f.seq.toNat : Int), .int .u32 (f.ack.toNat : Int), .int .u32 (f.hint.toNat : Int), .string f.data] 24)) := (Below.refl _ w).alloc (Nat.le_refl _) _
  go_wp2_with (first
    | (go_at_call 9
       refine (lawShown a0 a1 _ (L.below hB0 (Nat.le_refl _))).mono ?_
       rintro e w1 ⟨rfl, hb1⟩
       replace hB0 := hB0.trans (hb1.mono hB0.size)
       replace rf := rf.below hb1 rf.lt
       clear hb1
       have f0 := rf.cell 0 _ rfl
       have g0 := rf.thawed 0
       have f1 := rf.cell 1 _ rfl
       have g1 := rf.thawed 1
       have f2 := rf.cell 2 _ rfl
       have g2 := rf.thawed 2
       have f3 := rf.cell 3 _ rfl
       have g3 := rf.thawed 3
       have f4 := rf.cell 4 _ rfl
       have g4 := rf.thawed 4
       have f5 := rf.cell 5 _ rfl
       have g5 := rf.thawed 5
       have f6 := rf.cell 6 _ rfl
       have g6 := rf.thawed 6
       have f7 := rf.cell 7 _ rfl
       have g7 := rf.thawed 7
       have f8 := rf.cell 8 _ rfl
       have g8 := rf.thawed 8)
    | (go_at_call 10
       refine (HC.out _).mono ?_
       rintro e w2 ⟨rfl, hb2⟩
       unfold Fr.val Fr.cells
       replace hB0 := hB0.trans (hb2.mono hB0.size)
       replace rf := rf.below hb2 rf.lt
       clear hb2
       clear f0 f1 f2 f3 f4 f5 f6 f7 f8 g0 g1 g2 g3 g4 g5 g6 g7 g8
       have f0 := rf.cell 0 _ rfl
       have g0 := rf.thawed 0
       have f1 := rf.cell 1 _ rfl
       have g1 := rf.thawed 1
       have f2 := rf.cell 2 _ rfl
       have g2 := rf.thawed 2
       have f3 := rf.cell 3 _ rfl
       have g3 := rf.thawed 3
       have f4 := rf.cell 4 _ rfl
       have g4 := rf.thawed 4
       have f5 := rf.cell 5 _ rfl
       have g5 := rf.thawed 5
       have f6 := rf.cell 6 _ rfl
       have g6 := rf.thawed 6
       have f7 := rf.cell 7 _ rfl
       have g7 := rf.thawed 7
       have f8 := rf.cell 8 _ rfl
       have g8 := rf.thawed 8)
    | (go_at_call 11
       have HE := HE1
       change Calls _ _ _ (fill9 w2 w.heap.size (.int .i64 F.wire) (.int .i64 F.kind) (.int .i64 F.src) (.int .i64 F.dst) (.int .u32 (F.life.toNat : Int)) (.int .u32 (F.seq.toNat : Int)) (.int .u32 (F.ack.toNat : Int)) (.int .u32 (F.hint.toNat : Int)) (.string F.data)) _
       replace rf := row_fill (.int .i64 f.wire) (.int .i64 f.kind) (.int .i64 f.src) (.int .i64 f.dst) (.int .u32 (f.life.toNat : Int)) (.int .u32 (f.seq.toNat : Int)) (.int .u32 (f.ack.toNat : Int)) (.int .u32 (f.hint.toNat : Int)) (.string f.data) (.int .i64 F.wire) (.int .i64 F.kind) (.int .i64 F.src) (.int .i64 F.dst) (.int .u32 (F.life.toNat : Int)) (.int .u32 (F.seq.toNat : Int)) (.int .u32 (F.ack.toNat : Int)) (.int .u32 (F.hint.toNat : Int)) (.string F.data) rf
       replace hB0 := below_fill (.int .i64 F.wire) (.int .i64 F.kind) (.int .i64 F.src) (.int .i64 F.dst) (.int .u32 (F.life.toNat : Int)) (.int .u32 (F.seq.toNat : Int)) (.int .u32 (F.ack.toNat : Int)) (.int .u32 (F.hint.toNat : Int)) (.string F.data) hB0 (b := w.heap.size) (Nat.le_refl _)
       clear f0 f1 f2 f3 f4 f5 f6 f7 f8 g0 g1 g2 g3 g4 g5 g6 g7 g8
       generalize (fill9 w2 w.heap.size (.int .i64 F.wire) (.int .i64 F.kind) (.int .i64 F.src) (.int .i64 F.dst) (.int .u32 (F.life.toNat : Int)) (.int .u32 (F.seq.toNat : Int)) (.int .u32 (F.ack.toNat : Int)) (.int .u32 (F.hint.toNat : Int)) (.string F.data)) = Y at *
       refine (HE.out Y).mono ?_
       clear HE HE1
       rintro e w3 ⟨rfl, hb3⟩
       replace hB0 := hB0.trans (hb3.mono hB0.size)
       replace rf := rf.below hb3 rf.lt
       clear hb3)
    | (go_at_call 16
       have HD := HD1
       refine (HD.out _ (L.below hB0 (Nat.le_refl _))).mono ?_
       clear HD HD1
       rintro e w4 ⟨rfl, hb4⟩
       replace hB0 := hB0.trans (hb4.mono hB0.size)
       replace rf := rf.below hb4 rf.lt
       clear hb4
       have hB4 := hB0.alloc hB0.size (.cells #[.int .i64 0, .int .i64 0, .int .i64 0, .int .i64 0, .int .u32 0, .int .u32 0, .int .u32 0, .int .u32 0, .string ⟨#[]⟩] 24)
       have rb := Row.new w4 #[.int .i64 0, .int .i64 0, .int .i64 0, .int .i64 0, .int .u32 0, .int .u32 0, .int .u32 0, .int .u32 0, .string ⟨#[]⟩] 24
       replace rf := rf.alloc (.cells #[.int .i64 0, .int .i64 0, .int .i64 0, .int .i64 0, .int .u32 0, .int .u32 0, .int .u32 0, .int .u32 0, .string ⟨#[]⟩] 24)
       clear hB0)
    | (go_at_call 16
       refine (HD2.out _ (L.below hB4 (Nat.le_refl _))).mono ?_
       rintro e w5 ⟨rfl, hb5⟩
       replace hB4 := hB4.trans (hb5.mono hB4.size)
       replace rf := rf.below hb5 rf.lt
       replace rb := rb.below hb5 rb.lt
       have h45 : w4.heap.size + 1 ≤ w5.heap.size := by have := hb5.size; simpa using this
       clear hb5
       have hB5 := hB4.alloc hB4.size (.cells #[.int .i64 0, .int .i64 0, .int .i64 0, .int .i64 0, .int .u32 0, .int .u32 0, .int .u32 0, .int .u32 0, .string ⟨#[]⟩] 24)
       have rc := Row.new w5 #[.int .i64 0, .int .i64 0, .int .i64 0, .int .i64 0, .int .u32 0, .int .u32 0, .int .u32 0, .int .u32 0, .string ⟨#[]⟩] 24
       replace rf := rf.alloc (.cells #[.int .i64 0, .int .i64 0, .int .i64 0, .int .i64 0, .int .u32 0, .int .u32 0, .int .u32 0, .int .u32 0, .string ⟨#[]⟩] 24)
       replace rb := rb.alloc (.cells #[.int .i64 0, .int .i64 0, .int .i64 0, .int .i64 0, .int .u32 0, .int .u32 0, .int .u32 0, .int .u32 0, .string ⟨#[]⟩] 24)
       clear hB4)
    | (go_at_call 11
       refine (HE2.out _).mono ?_
       rintro e w6 ⟨rfl, hb6⟩
       replace hB5 := hB5.trans (hb6.mono hB5.size)
       replace rf := rf.below hb6 rf.lt
       replace rb := rb.below hb6 rb.lt
       replace rc := rc.below hb6 rc.lt
       clear hb6
       have f0 := rf.cell 0 _ rfl
       have g0 := rf.thawed 0
       have f1 := rf.cell 1 _ rfl
       have g1 := rf.thawed 1
       have f2 := rf.cell 2 _ rfl
       have g2 := rf.thawed 2
       have f3 := rf.cell 3 _ rfl
       have g3 := rf.thawed 3
       have f4 := rf.cell 4 _ rfl
       have g4 := rf.thawed 4
       have f5 := rf.cell 5 _ rfl
       have g5 := rf.thawed 5
       have f6 := rf.cell 6 _ rfl
       have g6 := rf.thawed 6
       have f7 := rf.cell 7 _ rfl
       have g7 := rf.thawed 7
       have f8 := rf.cell 8 _ rfl
       have g8 := rf.thawed 8)
    | (go_at_call 13
       refine (HR.out _).mono ?_
       rintro e w7 ⟨rfl, hb7⟩
       replace hB5 := hB5.trans (hb7.mono hB5.size)
       replace rf := rf.below hb7 rf.lt
       replace rb := rb.below hb7 rb.lt
       replace rc := rc.below hb7 rc.lt
       clear hb7
       clear f0 f1 f2 f3 f4 f5 f6 f7 f8 g0 g1 g2 g3 g4 g5 g6 g7 g8
       have f0 := rf.cell 0 _ rfl
       have g0 := rf.thawed 0
       have f1 := rf.cell 1 _ rfl
       have g1 := rf.thawed 1
       have f2 := rf.cell 2 _ rfl
       have g2 := rf.thawed 2
       have f3 := rf.cell 3 _ rfl
       have g3 := rf.thawed 3
       have f4 := rf.cell 4 _ rfl
       have g4 := rf.thawed 4
       have f5 := rf.cell 5 _ rfl
       have g5 := rf.thawed 5
       have f6 := rf.cell 6 _ rfl
       have g6 := rf.thawed 6
       have f7 := rf.cell 7 _ rfl
       have g7 := rf.thawed 7
       have f8 := rf.cell 8 _ rfl
       have g8 := rf.thawed 8
       have qb0 := rb.cell 0 _ rfl
       have yb0 := rb.thawed 0
       have qb1 := rb.cell 1 _ rfl
       have yb1 := rb.thawed 1
       have qb2 := rb.cell 2 _ rfl
       have yb2 := rb.thawed 2
       have qb3 := rb.cell 3 _ rfl
       have yb3 := rb.thawed 3
       have qb4 := rb.cell 4 _ rfl
       have yb4 := rb.thawed 4
       have qb5 := rb.cell 5 _ rfl
       have yb5 := rb.thawed 5
       have qb6 := rb.cell 6 _ rfl
       have yb6 := rb.thawed 6
       have qb7 := rb.cell 7 _ rfl
       have yb7 := rb.thawed 7
       have qb8 := rb.cell 8 _ rfl
       have yb8 := rb.thawed 8
       have qc0 := rc.cell 0 _ rfl
       have yc0 := rc.thawed 0
       have qc1 := rc.cell 1 _ rfl
       have yc1 := rc.thawed 1
       have qc2 := rc.cell 2 _ rfl
       have yc2 := rc.thawed 2
       have qc3 := rc.cell 3 _ rfl
       have yc3 := rc.thawed 3
       have qc4 := rc.cell 4 _ rfl
       have yc4 := rc.thawed 4
       have qc5 := rc.cell 5 _ rfl
       have yc5 := rc.thawed 5
       have qc6 := rc.cell 6 _ rfl
       have yc6 := rc.thawed 6
       have qc7 := rc.cell 7 _ rfl
       have yc7 := rc.thawed 7
       have qc8 := rc.cell 8 _ rfl
       have yc8 := rc.thawed 8
       have pf0 := fun o => (rf.alloc o).cell 0 _ rfl
       have pf1 := fun o => (rf.alloc o).cell 1 _ rfl
       have pf2 := fun o => (rf.alloc o).cell 2 _ rfl
       have pf3 := fun o => (rf.alloc o).cell 3 _ rfl
       have pf4 := fun o => (rf.alloc o).cell 4 _ rfl
       have pf5 := fun o => (rf.alloc o).cell 5 _ rfl
       have pf6 := fun o => (rf.alloc o).cell 6 _ rfl
       have pf7 := fun o => (rf.alloc o).cell 7 _ rfl
       have pf8 := fun o => (rf.alloc o).cell 8 _ rfl
       have pb0 := fun o => (rb.alloc o).cell 0 _ rfl
       have pb1 := fun o => (rb.alloc o).cell 1 _ rfl
       have pb2 := fun o => (rb.alloc o).cell 2 _ rfl
       have pb3 := fun o => (rb.alloc o).cell 3 _ rfl
       have pb4 := fun o => (rb.alloc o).cell 4 _ rfl
       have pb5 := fun o => (rb.alloc o).cell 5 _ rfl
       have pb6 := fun o => (rb.alloc o).cell 6 _ rfl
       have pb7 := fun o => (rb.alloc o).cell 7 _ rfl
       have pb8 := fun o => (rb.alloc o).cell 8 _ rfl
       have pc0 := fun o => (rc.alloc o).cell 0 _ rfl
       have pc1 := fun o => (rc.alloc o).cell 1 _ rfl
       have pc2 := fun o => (rc.alloc o).cell 2 _ rfl
       have pc3 := fun o => (rc.alloc o).cell 3 _ rfl
       have pc4 := fun o => (rc.alloc o).cell 4 _ rfl
       have pc5 := fun o => (rc.alloc o).cell 5 _ rfl
       have pc6 := fun o => (rc.alloc o).cell 6 _ rfl
       have pc7 := fun o => (rc.alloc o).cell 7 _ rfl
       have pc8 := fun o => (rc.alloc o).cell 8 _ rfl))
  go_ret
  exact ⟨rfl, hB5⟩
set_option maxRecDepth 100000 in
set_option maxHeartbeats 4000000 in
theorem backYesGood (f : Fr) (hs : f.data.size ≤ maxLen) (s : ByteArray) (hss : s.size ≤ maxLen) (F : Fr) (hF : f.cut = F) (hr : F.Right) (C : Fr) (hd : decF (five s) = (C, 0)) (hCr : C.Right) (hCs : txt (CrcM.withSum C.body) = five s) (a0 a1 : Addr) (w : World) (L : Errs w a0 a1) : Calls Tryd.prog 6 #[f.val, .string s] w fun e w' => e = .returned (.bool true) ∧ Below w.heap.size w w' := by
  have hc := fun w => lawCut f hs w
  have hz : F.data.size ≤ 4200 := by rw [← hF]; exact f.cut_size
  have hzm : F.data.size ≤ maxLen := by unfold maxLen; omega
  have hS := five_size s
  rw [hF] at hc
  have HC := Lib.hid hc
  have hssi : (s.size : Int) ≤ 9223372036854775807 := by unfold maxLen at hss; omega
  have hA : (txt (CrcM.withSum F.body)).size ≤ 100000 := by
    rw [txt_size, CrcM.seal_length, body_length F hr]; have := hr.2.2.2.2.1; split <;> omega
  have hdb := decF_body F hr
  have HE1 := Lib.hid (frameEncodeYes F hr : ∀ W : World, Calls Tryd.prog 11 #[.agg #[.int .i64 F.wire, .int .i64 F.kind, .int .i64 F.src, .int .i64 F.dst, .int .u32 (F.life.toNat : Int), .int .u32 (F.seq.toNat : Int), .int .u32 (F.ack.toNat : Int), .int .u32 (F.hint.toNat : Int), .string F.data]] W fun e w' => e = .returned (.tuple #[.string (txt (CrcM.withSum F.body)), .int .i64 0]) ∧ Below W.heap.size W w')
  have HD1 := Lib.hid (fun W LW => by have h := frameDecode _ hA a0 a1 W LW; rw [hdb] at h; exact h : ∀ W : World, Errs W a0 a1 → Calls Tryd.prog 16 #[.string (txt (CrcM.withSum F.body))] W fun e w' => e = .returned (.tuple #[.agg #[.int .i64 F.wire, .int .i64 F.kind, .int .i64 F.src, .int .i64 F.dst, .int .u32 (F.life.toNat : Int), .int .u32 (F.seq.toNat : Int), .int .u32 (F.ack.toNat : Int), .int .u32 (F.hint.toNat : Int), .string F.data], .int .i64 0]) ∧ Below W.heap.size W w')
  have HR := Lib.hid (fun W => by have h := frameRight F hzm W; rw [decide_eq_true hr] at h; exact h : ∀ W : World, Calls Tryd.prog 13 #[.agg #[.int .i64 F.wire, .int .i64 F.kind, .int .i64 F.src, .int .i64 F.dst, .int .u32 (F.life.toNat : Int), .int .u32 (F.seq.toNat : Int), .int .u32 (F.ack.toNat : Int), .int .u32 (F.hint.toNat : Int), .string F.data]] W fun e w' => e = .returned (.bool true) ∧ Below W.heap.size W w')
  generalize txt (CrcM.withSum F.body) = A at *
  have hg : ∀ (x y : Operand) (W : World), (eqGuard .neq 24 x y (.agg #[.int .i64 F.wire, .int .i64 F.kind, .int .i64 F.src, .int .i64 F.dst, .int .u32 (F.life.toNat : Int), .int .u32 (F.seq.toNat : Int), .int .u32 (F.ack.toNat : Int), .int .u32 (F.hint.toNat : Int), .string F.data]) (.agg #[.int .i64 F.wire, .int .i64 F.kind, .int .i64 F.src, .int .i64 F.dst, .int .u32 (F.life.toNat : Int), .int .u32 (F.seq.toNat : Int), .int .u32 (F.ack.toNat : Int), .int .u32 (F.hint.toNat : Int), .string F.data])).run Tryd.prog W = .ok () W := fun x y W => frameGuardN F F x y W
  have hq : ∀ W : World, (binOp .neq 24 (.agg #[.int .i64 F.wire, .int .i64 F.kind, .int .i64 F.src, .int .i64 F.dst, .int .u32 (F.life.toNat : Int), .int .u32 (F.seq.toNat : Int), .int .u32 (F.ack.toNat : Int), .int .u32 (F.hint.toNat : Int), .string F.data]) (.agg #[.int .i64 F.wire, .int .i64 F.kind, .int .i64 F.src, .int .i64 F.dst, .int .u32 (F.life.toNat : Int), .int .u32 (F.seq.toNat : Int), .int .u32 (F.ack.toNat : Int), .int .u32 (F.hint.toNat : Int), .string F.data])).run Tryd.prog W = .ok (.bool false) W := fun W => by have h := frameNeq F F W; rw [decide_eq_true rfl] at h; exact h
  clear hr hdb hA
  have HD2 := Lib.hid (fun W LW => by have h := frameDecode (five s) (by omega) a0 a1 W LW; rw [hd] at h; exact h : ∀ W : World, Errs W a0 a1 → Calls Tryd.prog 16 #[.string (five s)] W fun e w' => e = .returned (.tuple #[.agg #[.int .i64 C.wire, .int .i64 C.kind, .int .i64 C.src, .int .i64 C.dst, .int .u32 (C.life.toNat : Int), .int .u32 (C.seq.toNat : Int), .int .u32 (C.ack.toNat : Int), .int .u32 (C.hint.toNat : Int), .string C.data], .int .i64 0]) ∧ Below W.heap.size W w')
  have HE2 := Lib.hid (fun W => by have h := frameEncodeYes C hCr W; rw [hCs] at h; exact h : ∀ W : World, Calls Tryd.prog 11 #[.agg #[.int .i64 C.wire, .int .i64 C.kind, .int .i64 C.src, .int .i64 C.dst, .int .u32 (C.life.toNat : Int), .int .u32 (C.seq.toNat : Int), .int .u32 (C.ack.toNat : Int), .int .u32 (C.hint.toNat : Int), .string C.data]] W fun e w' => e = .returned (.tuple #[.string (five s), .int .i64 0]) ∧ Below W.heap.size W w')
  have hcg : ∀ (x y : Operand) (W : World), (eqGuard .eql 24 x y (.agg #[.int .i64 C.wire, .int .i64 C.kind, .int .i64 C.src, .int .i64 C.dst, .int .u32 (C.life.toNat : Int), .int .u32 (C.seq.toNat : Int), .int .u32 (C.ack.toNat : Int), .int .u32 (C.hint.toNat : Int), .string C.data]) (.agg #[.int .i64 0, .int .i64 0, .int .i64 0, .int .i64 0, .int .u32 0, .int .u32 0, .int .u32 0, .int .u32 0, .string ⟨#[]⟩])).run Tryd.prog W = .ok () W := fun x y W => frameGuard C Fr.nil x y W
  clear hd hCr hCs
  have hfive : s.extract 0 (min (s.size : Int) 5000).toNat = five s := rfl
  have hfs := five_size s
  generalize five s = S at *
  clear hc hF

  go_enter Tryd.func6, Tryd.ntmps6
  unfold Fr.val Fr.cells
  have rf := Row.new w #[.int .i64 f.wire, .int .i64 f.kind, .int .i64 f.src, .int .i64 f.dst, .int .u32 (f.life.toNat : Int), .int .u32 (f.seq.toNat : Int), .int .u32 (f.ack.toNat : Int), .int .u32 (f.hint.toNat : Int), .string f.data] 24
  have hB0 : Below w.heap.size w (w.alloc (.cells #[.int .i64 f.wire, .int .i64 f.kind, .int .i64 f.src, .int .i64 f.dst, .int .u32 (f.life.toNat : Int), .int .u32 (f.seq.toNat : Int), .int .u32 (f.ack.toNat : Int), .int .u32 (f.hint.toNat : Int), .string f.data] 24)) := (Below.refl _ w).alloc (Nat.le_refl _) _
  go_wp2_with (first
    | (go_at_call 9
       refine (lawShown a0 a1 _ (L.below hB0 (Nat.le_refl _))).mono ?_
       rintro e w1 ⟨rfl, hb1⟩
       replace hB0 := hB0.trans (hb1.mono hB0.size)
       replace rf := rf.below hb1 rf.lt
       clear hb1
       have f0 := rf.cell 0 _ rfl
       have g0 := rf.thawed 0
       have f1 := rf.cell 1 _ rfl
       have g1 := rf.thawed 1
       have f2 := rf.cell 2 _ rfl
       have g2 := rf.thawed 2
       have f3 := rf.cell 3 _ rfl
       have g3 := rf.thawed 3
       have f4 := rf.cell 4 _ rfl
       have g4 := rf.thawed 4
       have f5 := rf.cell 5 _ rfl
       have g5 := rf.thawed 5
       have f6 := rf.cell 6 _ rfl
       have g6 := rf.thawed 6
       have f7 := rf.cell 7 _ rfl
       have g7 := rf.thawed 7
       have f8 := rf.cell 8 _ rfl
       have g8 := rf.thawed 8)
    | (go_at_call 10
       refine (HC.out _).mono ?_
       rintro e w2 ⟨rfl, hb2⟩
       unfold Fr.val Fr.cells
       replace hB0 := hB0.trans (hb2.mono hB0.size)
       replace rf := rf.below hb2 rf.lt
       clear hb2
       clear f0 f1 f2 f3 f4 f5 f6 f7 f8 g0 g1 g2 g3 g4 g5 g6 g7 g8
       have f0 := rf.cell 0 _ rfl
       have g0 := rf.thawed 0
       have f1 := rf.cell 1 _ rfl
       have g1 := rf.thawed 1
       have f2 := rf.cell 2 _ rfl
       have g2 := rf.thawed 2
       have f3 := rf.cell 3 _ rfl
       have g3 := rf.thawed 3
       have f4 := rf.cell 4 _ rfl
       have g4 := rf.thawed 4
       have f5 := rf.cell 5 _ rfl
       have g5 := rf.thawed 5
       have f6 := rf.cell 6 _ rfl
       have g6 := rf.thawed 6
       have f7 := rf.cell 7 _ rfl
       have g7 := rf.thawed 7
       have f8 := rf.cell 8 _ rfl
       have g8 := rf.thawed 8)
    | (go_at_call 11
       have HE := HE1
       change Calls _ _ _ (fill9 w2 w.heap.size (.int .i64 F.wire) (.int .i64 F.kind) (.int .i64 F.src) (.int .i64 F.dst) (.int .u32 (F.life.toNat : Int)) (.int .u32 (F.seq.toNat : Int)) (.int .u32 (F.ack.toNat : Int)) (.int .u32 (F.hint.toNat : Int)) (.string F.data)) _
       replace rf := row_fill (.int .i64 f.wire) (.int .i64 f.kind) (.int .i64 f.src) (.int .i64 f.dst) (.int .u32 (f.life.toNat : Int)) (.int .u32 (f.seq.toNat : Int)) (.int .u32 (f.ack.toNat : Int)) (.int .u32 (f.hint.toNat : Int)) (.string f.data) (.int .i64 F.wire) (.int .i64 F.kind) (.int .i64 F.src) (.int .i64 F.dst) (.int .u32 (F.life.toNat : Int)) (.int .u32 (F.seq.toNat : Int)) (.int .u32 (F.ack.toNat : Int)) (.int .u32 (F.hint.toNat : Int)) (.string F.data) rf
       replace hB0 := below_fill (.int .i64 F.wire) (.int .i64 F.kind) (.int .i64 F.src) (.int .i64 F.dst) (.int .u32 (F.life.toNat : Int)) (.int .u32 (F.seq.toNat : Int)) (.int .u32 (F.ack.toNat : Int)) (.int .u32 (F.hint.toNat : Int)) (.string F.data) hB0 (b := w.heap.size) (Nat.le_refl _)
       clear f0 f1 f2 f3 f4 f5 f6 f7 f8 g0 g1 g2 g3 g4 g5 g6 g7 g8
       generalize (fill9 w2 w.heap.size (.int .i64 F.wire) (.int .i64 F.kind) (.int .i64 F.src) (.int .i64 F.dst) (.int .u32 (F.life.toNat : Int)) (.int .u32 (F.seq.toNat : Int)) (.int .u32 (F.ack.toNat : Int)) (.int .u32 (F.hint.toNat : Int)) (.string F.data)) = Y at *
       refine (HE.out Y).mono ?_
       clear HE HE1
       rintro e w3 ⟨rfl, hb3⟩
       replace hB0 := hB0.trans (hb3.mono hB0.size)
       replace rf := rf.below hb3 rf.lt
       clear hb3)
    | (go_at_call 16
       have HD := HD1
       refine (HD.out _ (L.below hB0 (Nat.le_refl _))).mono ?_
       clear HD HD1
       rintro e w4 ⟨rfl, hb4⟩
       replace hB0 := hB0.trans (hb4.mono hB0.size)
       replace rf := rf.below hb4 rf.lt
       clear hb4
       have hB4 := hB0.alloc hB0.size (.cells #[.int .i64 F.wire, .int .i64 F.kind, .int .i64 F.src, .int .i64 F.dst, .int .u32 (F.life.toNat : Int), .int .u32 (F.seq.toNat : Int), .int .u32 (F.ack.toNat : Int), .int .u32 (F.hint.toNat : Int), .string F.data] 24)
       have rb := Row.new w4 #[.int .i64 F.wire, .int .i64 F.kind, .int .i64 F.src, .int .i64 F.dst, .int .u32 (F.life.toNat : Int), .int .u32 (F.seq.toNat : Int), .int .u32 (F.ack.toNat : Int), .int .u32 (F.hint.toNat : Int), .string F.data] 24
       replace rf := rf.alloc (.cells #[.int .i64 F.wire, .int .i64 F.kind, .int .i64 F.src, .int .i64 F.dst, .int .u32 (F.life.toNat : Int), .int .u32 (F.seq.toNat : Int), .int .u32 (F.ack.toNat : Int), .int .u32 (F.hint.toNat : Int), .string F.data] 24)
       clear hB0)
    | (go_at_call 16
       refine (HD2.out _ (L.below hB4 (Nat.le_refl _))).mono ?_
       rintro e w5 ⟨rfl, hb5⟩
       replace hB4 := hB4.trans (hb5.mono hB4.size)
       replace rf := rf.below hb5 rf.lt
       replace rb := rb.below hb5 rb.lt
       have h45 : w4.heap.size + 1 ≤ w5.heap.size := by have := hb5.size; simpa using this
       clear hb5
       have hB5 := hB4.alloc hB4.size (.cells #[.int .i64 C.wire, .int .i64 C.kind, .int .i64 C.src, .int .i64 C.dst, .int .u32 (C.life.toNat : Int), .int .u32 (C.seq.toNat : Int), .int .u32 (C.ack.toNat : Int), .int .u32 (C.hint.toNat : Int), .string C.data] 24)
       have rc := Row.new w5 #[.int .i64 C.wire, .int .i64 C.kind, .int .i64 C.src, .int .i64 C.dst, .int .u32 (C.life.toNat : Int), .int .u32 (C.seq.toNat : Int), .int .u32 (C.ack.toNat : Int), .int .u32 (C.hint.toNat : Int), .string C.data] 24
       replace rf := rf.alloc (.cells #[.int .i64 C.wire, .int .i64 C.kind, .int .i64 C.src, .int .i64 C.dst, .int .u32 (C.life.toNat : Int), .int .u32 (C.seq.toNat : Int), .int .u32 (C.ack.toNat : Int), .int .u32 (C.hint.toNat : Int), .string C.data] 24)
       replace rb := rb.alloc (.cells #[.int .i64 C.wire, .int .i64 C.kind, .int .i64 C.src, .int .i64 C.dst, .int .u32 (C.life.toNat : Int), .int .u32 (C.seq.toNat : Int), .int .u32 (C.ack.toNat : Int), .int .u32 (C.hint.toNat : Int), .string C.data] 24)
       clear hB4)
    | (go_at_call 11
       refine (HE2.out _).mono ?_
       rintro e w6 ⟨rfl, hb6⟩
       replace hB5 := hB5.trans (hb6.mono hB5.size)
       replace rf := rf.below hb6 rf.lt
       replace rb := rb.below hb6 rb.lt
       replace rc := rc.below hb6 rc.lt
       clear hb6
       have f0 := rf.cell 0 _ rfl
       have g0 := rf.thawed 0
       have f1 := rf.cell 1 _ rfl
       have g1 := rf.thawed 1
       have f2 := rf.cell 2 _ rfl
       have g2 := rf.thawed 2
       have f3 := rf.cell 3 _ rfl
       have g3 := rf.thawed 3
       have f4 := rf.cell 4 _ rfl
       have g4 := rf.thawed 4
       have f5 := rf.cell 5 _ rfl
       have g5 := rf.thawed 5
       have f6 := rf.cell 6 _ rfl
       have g6 := rf.thawed 6
       have f7 := rf.cell 7 _ rfl
       have g7 := rf.thawed 7
       have f8 := rf.cell 8 _ rfl
       have g8 := rf.thawed 8)
    | (go_at_call 13
       refine (HR.out _).mono ?_
       rintro e w7 ⟨rfl, hb7⟩
       replace hB5 := hB5.trans (hb7.mono hB5.size)
       replace rf := rf.below hb7 rf.lt
       replace rb := rb.below hb7 rb.lt
       replace rc := rc.below hb7 rc.lt
       clear hb7
       clear f0 f1 f2 f3 f4 f5 f6 f7 f8 g0 g1 g2 g3 g4 g5 g6 g7 g8
       have f0 := rf.cell 0 _ rfl
       have g0 := rf.thawed 0
       have f1 := rf.cell 1 _ rfl
       have g1 := rf.thawed 1
       have f2 := rf.cell 2 _ rfl
       have g2 := rf.thawed 2
       have f3 := rf.cell 3 _ rfl
       have g3 := rf.thawed 3
       have f4 := rf.cell 4 _ rfl
       have g4 := rf.thawed 4
       have f5 := rf.cell 5 _ rfl
       have g5 := rf.thawed 5
       have f6 := rf.cell 6 _ rfl
       have g6 := rf.thawed 6
       have f7 := rf.cell 7 _ rfl
       have g7 := rf.thawed 7
       have f8 := rf.cell 8 _ rfl
       have g8 := rf.thawed 8
       have qb0 := rb.cell 0 _ rfl
       have yb0 := rb.thawed 0
       have qb1 := rb.cell 1 _ rfl
       have yb1 := rb.thawed 1
       have qb2 := rb.cell 2 _ rfl
       have yb2 := rb.thawed 2
       have qb3 := rb.cell 3 _ rfl
       have yb3 := rb.thawed 3
       have qb4 := rb.cell 4 _ rfl
       have yb4 := rb.thawed 4
       have qb5 := rb.cell 5 _ rfl
       have yb5 := rb.thawed 5
       have qb6 := rb.cell 6 _ rfl
       have yb6 := rb.thawed 6
       have qb7 := rb.cell 7 _ rfl
       have yb7 := rb.thawed 7
       have qb8 := rb.cell 8 _ rfl
       have yb8 := rb.thawed 8
       have qc0 := rc.cell 0 _ rfl
       have yc0 := rc.thawed 0
       have qc1 := rc.cell 1 _ rfl
       have yc1 := rc.thawed 1
       have qc2 := rc.cell 2 _ rfl
       have yc2 := rc.thawed 2
       have qc3 := rc.cell 3 _ rfl
       have yc3 := rc.thawed 3
       have qc4 := rc.cell 4 _ rfl
       have yc4 := rc.thawed 4
       have qc5 := rc.cell 5 _ rfl
       have yc5 := rc.thawed 5
       have qc6 := rc.cell 6 _ rfl
       have yc6 := rc.thawed 6
       have qc7 := rc.cell 7 _ rfl
       have yc7 := rc.thawed 7
       have qc8 := rc.cell 8 _ rfl
       have yc8 := rc.thawed 8
       have pf0 := fun o => (rf.alloc o).cell 0 _ rfl
       have pf1 := fun o => (rf.alloc o).cell 1 _ rfl
       have pf2 := fun o => (rf.alloc o).cell 2 _ rfl
       have pf3 := fun o => (rf.alloc o).cell 3 _ rfl
       have pf4 := fun o => (rf.alloc o).cell 4 _ rfl
       have pf5 := fun o => (rf.alloc o).cell 5 _ rfl
       have pf6 := fun o => (rf.alloc o).cell 6 _ rfl
       have pf7 := fun o => (rf.alloc o).cell 7 _ rfl
       have pf8 := fun o => (rf.alloc o).cell 8 _ rfl
       have pb0 := fun o => (rb.alloc o).cell 0 _ rfl
       have pb1 := fun o => (rb.alloc o).cell 1 _ rfl
       have pb2 := fun o => (rb.alloc o).cell 2 _ rfl
       have pb3 := fun o => (rb.alloc o).cell 3 _ rfl
       have pb4 := fun o => (rb.alloc o).cell 4 _ rfl
       have pb5 := fun o => (rb.alloc o).cell 5 _ rfl
       have pb6 := fun o => (rb.alloc o).cell 6 _ rfl
       have pb7 := fun o => (rb.alloc o).cell 7 _ rfl
       have pb8 := fun o => (rb.alloc o).cell 8 _ rfl
       have pc0 := fun o => (rc.alloc o).cell 0 _ rfl
       have pc1 := fun o => (rc.alloc o).cell 1 _ rfl
       have pc2 := fun o => (rc.alloc o).cell 2 _ rfl
       have pc3 := fun o => (rc.alloc o).cell 3 _ rfl
       have pc4 := fun o => (rc.alloc o).cell 4 _ rfl
       have pc5 := fun o => (rc.alloc o).cell 5 _ rfl
       have pc6 := fun o => (rc.alloc o).cell 6 _ rfl
       have pc7 := fun o => (rc.alloc o).cell 7 _ rfl
       have pc8 := fun o => (rc.alloc o).cell 8 _ rfl))
  go_ret
  exact ⟨rfl, hB5⟩
set_option maxRecDepth 100000 in
set_option maxHeartbeats 4000000 in
theorem backYesBad (f : Fr) (hs : f.data.size ≤ maxLen) (s : ByteArray) (hss : s.size ≤ maxLen) (F : Fr) (hF : f.cut = F) (hr : F.Right) (h : Int) (hh : h ≠ 0) (hd : decF (five s) = (Fr.nil, h)) (a0 a1 : Addr) (w : World) (L : Errs w a0 a1) : Calls Tryd.prog 6 #[f.val, .string s] w fun e w' => e = .returned (.bool true) ∧ Below w.heap.size w w' := by
  have hc := fun w => lawCut f hs w
  have hz : F.data.size ≤ 4200 := by rw [← hF]; exact f.cut_size
  have hzm : F.data.size ≤ maxLen := by unfold maxLen; omega
  have hS := five_size s
  rw [hF] at hc
  have HC := Lib.hid hc
  have hssi : (s.size : Int) ≤ 9223372036854775807 := by unfold maxLen at hss; omega
  have hA : (txt (CrcM.withSum F.body)).size ≤ 100000 := by
    rw [txt_size, CrcM.seal_length, body_length F hr]; have := hr.2.2.2.2.1; split <;> omega
  have hdb := decF_body F hr
  have HE1 := Lib.hid (frameEncodeYes F hr : ∀ W : World, Calls Tryd.prog 11 #[.agg #[.int .i64 F.wire, .int .i64 F.kind, .int .i64 F.src, .int .i64 F.dst, .int .u32 (F.life.toNat : Int), .int .u32 (F.seq.toNat : Int), .int .u32 (F.ack.toNat : Int), .int .u32 (F.hint.toNat : Int), .string F.data]] W fun e w' => e = .returned (.tuple #[.string (txt (CrcM.withSum F.body)), .int .i64 0]) ∧ Below W.heap.size W w')
  have HD1 := Lib.hid (fun W LW => by have h := frameDecode _ hA a0 a1 W LW; rw [hdb] at h; exact h : ∀ W : World, Errs W a0 a1 → Calls Tryd.prog 16 #[.string (txt (CrcM.withSum F.body))] W fun e w' => e = .returned (.tuple #[.agg #[.int .i64 F.wire, .int .i64 F.kind, .int .i64 F.src, .int .i64 F.dst, .int .u32 (F.life.toNat : Int), .int .u32 (F.seq.toNat : Int), .int .u32 (F.ack.toNat : Int), .int .u32 (F.hint.toNat : Int), .string F.data], .int .i64 0]) ∧ Below W.heap.size W w')
  have HR := Lib.hid (fun W => by have h := frameRight F hzm W; rw [decide_eq_true hr] at h; exact h : ∀ W : World, Calls Tryd.prog 13 #[.agg #[.int .i64 F.wire, .int .i64 F.kind, .int .i64 F.src, .int .i64 F.dst, .int .u32 (F.life.toNat : Int), .int .u32 (F.seq.toNat : Int), .int .u32 (F.ack.toNat : Int), .int .u32 (F.hint.toNat : Int), .string F.data]] W fun e w' => e = .returned (.bool true) ∧ Below W.heap.size W w')
  generalize txt (CrcM.withSum F.body) = A at *
  have hg : ∀ (x y : Operand) (W : World), (eqGuard .neq 24 x y (.agg #[.int .i64 F.wire, .int .i64 F.kind, .int .i64 F.src, .int .i64 F.dst, .int .u32 (F.life.toNat : Int), .int .u32 (F.seq.toNat : Int), .int .u32 (F.ack.toNat : Int), .int .u32 (F.hint.toNat : Int), .string F.data]) (.agg #[.int .i64 F.wire, .int .i64 F.kind, .int .i64 F.src, .int .i64 F.dst, .int .u32 (F.life.toNat : Int), .int .u32 (F.seq.toNat : Int), .int .u32 (F.ack.toNat : Int), .int .u32 (F.hint.toNat : Int), .string F.data])).run Tryd.prog W = .ok () W := fun x y W => frameGuardN F F x y W
  have hq : ∀ W : World, (binOp .neq 24 (.agg #[.int .i64 F.wire, .int .i64 F.kind, .int .i64 F.src, .int .i64 F.dst, .int .u32 (F.life.toNat : Int), .int .u32 (F.seq.toNat : Int), .int .u32 (F.ack.toNat : Int), .int .u32 (F.hint.toNat : Int), .string F.data]) (.agg #[.int .i64 F.wire, .int .i64 F.kind, .int .i64 F.src, .int .i64 F.dst, .int .u32 (F.life.toNat : Int), .int .u32 (F.seq.toNat : Int), .int .u32 (F.ack.toNat : Int), .int .u32 (F.hint.toNat : Int), .string F.data])).run Tryd.prog W = .ok (.bool false) W := fun W => by have h := frameNeq F F W; rw [decide_eq_true rfl] at h; exact h
  clear hr hdb hA
  have hn : ¬ Fr.nil.Right := by decide +kernel
  have hd' : decF (five s) = (Fr.nil, h) := hd
  have HD2 := Lib.hid (fun W LW => by have h' := frameDecode (five s) (by omega) a0 a1 W LW; rw [hd'] at h'; exact h' : ∀ W : World, Errs W a0 a1 → Calls Tryd.prog 16 #[.string (five s)] W fun e w' => e = .returned (.tuple #[.agg #[.int .i64 0, .int .i64 0, .int .i64 0, .int .i64 0, .int .u32 0, .int .u32 0, .int .u32 0, .int .u32 0, .string ⟨#[]⟩], .int .i64 h]) ∧ Below W.heap.size W w')
  have HE2 := Lib.hid (frameEncodeNo Fr.nil hn (by decide) : ∀ W : World, Calls Tryd.prog 11 #[.agg #[.int .i64 0, .int .i64 0, .int .i64 0, .int .i64 0, .int .u32 0, .int .u32 0, .int .u32 0, .int .u32 0, .string ⟨#[]⟩]] W fun e w' => e = .returned (.tuple #[.string ⟨#[]⟩, .int .i64 20]) ∧ Below W.heap.size W w')
  have hcg : ∀ (x y : Operand) (W : World), (eqGuard .eql 24 x y (.agg #[.int .i64 0, .int .i64 0, .int .i64 0, .int .i64 0, .int .u32 0, .int .u32 0, .int .u32 0, .int .u32 0, .string ⟨#[]⟩]) (.agg #[.int .i64 0, .int .i64 0, .int .i64 0, .int .i64 0, .int .u32 0, .int .u32 0, .int .u32 0, .int .u32 0, .string ⟨#[]⟩])).run Tryd.prog W = .ok () W := fun x y W => frameGuard Fr.nil Fr.nil x y W
  have hcq : ∀ W : World, (binOp .eql 24 (.agg #[.int .i64 0, .int .i64 0, .int .i64 0, .int .i64 0, .int .u32 0, .int .u32 0, .int .u32 0, .int .u32 0, .string ⟨#[]⟩]) (.agg #[.int .i64 0, .int .i64 0, .int .i64 0, .int .i64 0, .int .u32 0, .int .u32 0, .int .u32 0, .int .u32 0, .string ⟨#[]⟩])).run Tryd.prog W = .ok (.bool true) W := fun W => by have h := frameEql Fr.nil Fr.nil W; rw [decide_eq_true rfl] at h; exact h
  have hne' : (h == 0) = false := by rw [beq_eq_false_iff_ne]; exact hh
  clear hd hd' hn
  have hfive : s.extract 0 (min (s.size : Int) 5000).toNat = five s := rfl
  have hfs := five_size s
  generalize five s = S at *
  clear hc hF

  go_enter Tryd.func6, Tryd.ntmps6
  unfold Fr.val Fr.cells
  have rf := Row.new w #[.int .i64 f.wire, .int .i64 f.kind, .int .i64 f.src, .int .i64 f.dst, .int .u32 (f.life.toNat : Int), .int .u32 (f.seq.toNat : Int), .int .u32 (f.ack.toNat : Int), .int .u32 (f.hint.toNat : Int), .string f.data] 24
  have hB0 : Below w.heap.size w (w.alloc (.cells #[.int .i64 f.wire, .int .i64 f.kind, .int .i64 f.src, .int .i64 f.dst, .int .u32 (f.life.toNat : Int), .int .u32 (f.seq.toNat : Int), .int .u32 (f.ack.toNat : Int), .int .u32 (f.hint.toNat : Int), .string f.data] 24)) := (Below.refl _ w).alloc (Nat.le_refl _) _
  go_wp2_with (first
    | (go_at_call 9
       refine (lawShown a0 a1 _ (L.below hB0 (Nat.le_refl _))).mono ?_
       rintro e w1 ⟨rfl, hb1⟩
       replace hB0 := hB0.trans (hb1.mono hB0.size)
       replace rf := rf.below hb1 rf.lt
       clear hb1
       have f0 := rf.cell 0 _ rfl
       have g0 := rf.thawed 0
       have f1 := rf.cell 1 _ rfl
       have g1 := rf.thawed 1
       have f2 := rf.cell 2 _ rfl
       have g2 := rf.thawed 2
       have f3 := rf.cell 3 _ rfl
       have g3 := rf.thawed 3
       have f4 := rf.cell 4 _ rfl
       have g4 := rf.thawed 4
       have f5 := rf.cell 5 _ rfl
       have g5 := rf.thawed 5
       have f6 := rf.cell 6 _ rfl
       have g6 := rf.thawed 6
       have f7 := rf.cell 7 _ rfl
       have g7 := rf.thawed 7
       have f8 := rf.cell 8 _ rfl
       have g8 := rf.thawed 8)
    | (go_at_call 10
       refine (HC.out _).mono ?_
       rintro e w2 ⟨rfl, hb2⟩
       unfold Fr.val Fr.cells
       replace hB0 := hB0.trans (hb2.mono hB0.size)
       replace rf := rf.below hb2 rf.lt
       clear hb2
       clear f0 f1 f2 f3 f4 f5 f6 f7 f8 g0 g1 g2 g3 g4 g5 g6 g7 g8
       have f0 := rf.cell 0 _ rfl
       have g0 := rf.thawed 0
       have f1 := rf.cell 1 _ rfl
       have g1 := rf.thawed 1
       have f2 := rf.cell 2 _ rfl
       have g2 := rf.thawed 2
       have f3 := rf.cell 3 _ rfl
       have g3 := rf.thawed 3
       have f4 := rf.cell 4 _ rfl
       have g4 := rf.thawed 4
       have f5 := rf.cell 5 _ rfl
       have g5 := rf.thawed 5
       have f6 := rf.cell 6 _ rfl
       have g6 := rf.thawed 6
       have f7 := rf.cell 7 _ rfl
       have g7 := rf.thawed 7
       have f8 := rf.cell 8 _ rfl
       have g8 := rf.thawed 8)
    | (go_at_call 11
       have HE := HE1
       change Calls _ _ _ (fill9 w2 w.heap.size (.int .i64 F.wire) (.int .i64 F.kind) (.int .i64 F.src) (.int .i64 F.dst) (.int .u32 (F.life.toNat : Int)) (.int .u32 (F.seq.toNat : Int)) (.int .u32 (F.ack.toNat : Int)) (.int .u32 (F.hint.toNat : Int)) (.string F.data)) _
       replace rf := row_fill (.int .i64 f.wire) (.int .i64 f.kind) (.int .i64 f.src) (.int .i64 f.dst) (.int .u32 (f.life.toNat : Int)) (.int .u32 (f.seq.toNat : Int)) (.int .u32 (f.ack.toNat : Int)) (.int .u32 (f.hint.toNat : Int)) (.string f.data) (.int .i64 F.wire) (.int .i64 F.kind) (.int .i64 F.src) (.int .i64 F.dst) (.int .u32 (F.life.toNat : Int)) (.int .u32 (F.seq.toNat : Int)) (.int .u32 (F.ack.toNat : Int)) (.int .u32 (F.hint.toNat : Int)) (.string F.data) rf
       replace hB0 := below_fill (.int .i64 F.wire) (.int .i64 F.kind) (.int .i64 F.src) (.int .i64 F.dst) (.int .u32 (F.life.toNat : Int)) (.int .u32 (F.seq.toNat : Int)) (.int .u32 (F.ack.toNat : Int)) (.int .u32 (F.hint.toNat : Int)) (.string F.data) hB0 (b := w.heap.size) (Nat.le_refl _)
       clear f0 f1 f2 f3 f4 f5 f6 f7 f8 g0 g1 g2 g3 g4 g5 g6 g7 g8
       generalize (fill9 w2 w.heap.size (.int .i64 F.wire) (.int .i64 F.kind) (.int .i64 F.src) (.int .i64 F.dst) (.int .u32 (F.life.toNat : Int)) (.int .u32 (F.seq.toNat : Int)) (.int .u32 (F.ack.toNat : Int)) (.int .u32 (F.hint.toNat : Int)) (.string F.data)) = Y at *
       refine (HE.out Y).mono ?_
       clear HE HE1
       rintro e w3 ⟨rfl, hb3⟩
       replace hB0 := hB0.trans (hb3.mono hB0.size)
       replace rf := rf.below hb3 rf.lt
       clear hb3)
    | (go_at_call 16
       have HD := HD1
       refine (HD.out _ (L.below hB0 (Nat.le_refl _))).mono ?_
       clear HD HD1
       rintro e w4 ⟨rfl, hb4⟩
       replace hB0 := hB0.trans (hb4.mono hB0.size)
       replace rf := rf.below hb4 rf.lt
       clear hb4
       have hB4 := hB0.alloc hB0.size (.cells #[.int .i64 F.wire, .int .i64 F.kind, .int .i64 F.src, .int .i64 F.dst, .int .u32 (F.life.toNat : Int), .int .u32 (F.seq.toNat : Int), .int .u32 (F.ack.toNat : Int), .int .u32 (F.hint.toNat : Int), .string F.data] 24)
       have rb := Row.new w4 #[.int .i64 F.wire, .int .i64 F.kind, .int .i64 F.src, .int .i64 F.dst, .int .u32 (F.life.toNat : Int), .int .u32 (F.seq.toNat : Int), .int .u32 (F.ack.toNat : Int), .int .u32 (F.hint.toNat : Int), .string F.data] 24
       replace rf := rf.alloc (.cells #[.int .i64 F.wire, .int .i64 F.kind, .int .i64 F.src, .int .i64 F.dst, .int .u32 (F.life.toNat : Int), .int .u32 (F.seq.toNat : Int), .int .u32 (F.ack.toNat : Int), .int .u32 (F.hint.toNat : Int), .string F.data] 24)
       clear hB0)
    | (go_at_call 16
       refine (HD2.out _ (L.below hB4 (Nat.le_refl _))).mono ?_
       rintro e w5 ⟨rfl, hb5⟩
       replace hB4 := hB4.trans (hb5.mono hB4.size)
       replace rf := rf.below hb5 rf.lt
       replace rb := rb.below hb5 rb.lt
       have h45 : w4.heap.size + 1 ≤ w5.heap.size := by have := hb5.size; simpa using this
       clear hb5
       have hB5 := hB4.alloc hB4.size (.cells #[.int .i64 0, .int .i64 0, .int .i64 0, .int .i64 0, .int .u32 0, .int .u32 0, .int .u32 0, .int .u32 0, .string ⟨#[]⟩] 24)
       have rc := Row.new w5 #[.int .i64 0, .int .i64 0, .int .i64 0, .int .i64 0, .int .u32 0, .int .u32 0, .int .u32 0, .int .u32 0, .string ⟨#[]⟩] 24
       replace rf := rf.alloc (.cells #[.int .i64 0, .int .i64 0, .int .i64 0, .int .i64 0, .int .u32 0, .int .u32 0, .int .u32 0, .int .u32 0, .string ⟨#[]⟩] 24)
       replace rb := rb.alloc (.cells #[.int .i64 0, .int .i64 0, .int .i64 0, .int .i64 0, .int .u32 0, .int .u32 0, .int .u32 0, .int .u32 0, .string ⟨#[]⟩] 24)
       clear hB4)
    | (go_at_call 11
       refine (HE2.out _).mono ?_
       rintro e w6 ⟨rfl, hb6⟩
       replace hB5 := hB5.trans (hb6.mono hB5.size)
       replace rf := rf.below hb6 rf.lt
       replace rb := rb.below hb6 rb.lt
       replace rc := rc.below hb6 rc.lt
       clear hb6
       have f0 := rf.cell 0 _ rfl
       have g0 := rf.thawed 0
       have f1 := rf.cell 1 _ rfl
       have g1 := rf.thawed 1
       have f2 := rf.cell 2 _ rfl
       have g2 := rf.thawed 2
       have f3 := rf.cell 3 _ rfl
       have g3 := rf.thawed 3
       have f4 := rf.cell 4 _ rfl
       have g4 := rf.thawed 4
       have f5 := rf.cell 5 _ rfl
       have g5 := rf.thawed 5
       have f6 := rf.cell 6 _ rfl
       have g6 := rf.thawed 6
       have f7 := rf.cell 7 _ rfl
       have g7 := rf.thawed 7
       have f8 := rf.cell 8 _ rfl
       have g8 := rf.thawed 8)
    | (go_at_call 13
       refine (HR.out _).mono ?_
       rintro e w7 ⟨rfl, hb7⟩
       replace hB5 := hB5.trans (hb7.mono hB5.size)
       replace rf := rf.below hb7 rf.lt
       replace rb := rb.below hb7 rb.lt
       replace rc := rc.below hb7 rc.lt
       clear hb7
       clear f0 f1 f2 f3 f4 f5 f6 f7 f8 g0 g1 g2 g3 g4 g5 g6 g7 g8
       have f0 := rf.cell 0 _ rfl
       have g0 := rf.thawed 0
       have f1 := rf.cell 1 _ rfl
       have g1 := rf.thawed 1
       have f2 := rf.cell 2 _ rfl
       have g2 := rf.thawed 2
       have f3 := rf.cell 3 _ rfl
       have g3 := rf.thawed 3
       have f4 := rf.cell 4 _ rfl
       have g4 := rf.thawed 4
       have f5 := rf.cell 5 _ rfl
       have g5 := rf.thawed 5
       have f6 := rf.cell 6 _ rfl
       have g6 := rf.thawed 6
       have f7 := rf.cell 7 _ rfl
       have g7 := rf.thawed 7
       have f8 := rf.cell 8 _ rfl
       have g8 := rf.thawed 8
       have qb0 := rb.cell 0 _ rfl
       have yb0 := rb.thawed 0
       have qb1 := rb.cell 1 _ rfl
       have yb1 := rb.thawed 1
       have qb2 := rb.cell 2 _ rfl
       have yb2 := rb.thawed 2
       have qb3 := rb.cell 3 _ rfl
       have yb3 := rb.thawed 3
       have qb4 := rb.cell 4 _ rfl
       have yb4 := rb.thawed 4
       have qb5 := rb.cell 5 _ rfl
       have yb5 := rb.thawed 5
       have qb6 := rb.cell 6 _ rfl
       have yb6 := rb.thawed 6
       have qb7 := rb.cell 7 _ rfl
       have yb7 := rb.thawed 7
       have qb8 := rb.cell 8 _ rfl
       have yb8 := rb.thawed 8
       have qc0 := rc.cell 0 _ rfl
       have yc0 := rc.thawed 0
       have qc1 := rc.cell 1 _ rfl
       have yc1 := rc.thawed 1
       have qc2 := rc.cell 2 _ rfl
       have yc2 := rc.thawed 2
       have qc3 := rc.cell 3 _ rfl
       have yc3 := rc.thawed 3
       have qc4 := rc.cell 4 _ rfl
       have yc4 := rc.thawed 4
       have qc5 := rc.cell 5 _ rfl
       have yc5 := rc.thawed 5
       have qc6 := rc.cell 6 _ rfl
       have yc6 := rc.thawed 6
       have qc7 := rc.cell 7 _ rfl
       have yc7 := rc.thawed 7
       have qc8 := rc.cell 8 _ rfl
       have yc8 := rc.thawed 8
       have pf0 := fun o => (rf.alloc o).cell 0 _ rfl
       have pf1 := fun o => (rf.alloc o).cell 1 _ rfl
       have pf2 := fun o => (rf.alloc o).cell 2 _ rfl
       have pf3 := fun o => (rf.alloc o).cell 3 _ rfl
       have pf4 := fun o => (rf.alloc o).cell 4 _ rfl
       have pf5 := fun o => (rf.alloc o).cell 5 _ rfl
       have pf6 := fun o => (rf.alloc o).cell 6 _ rfl
       have pf7 := fun o => (rf.alloc o).cell 7 _ rfl
       have pf8 := fun o => (rf.alloc o).cell 8 _ rfl
       have pb0 := fun o => (rb.alloc o).cell 0 _ rfl
       have pb1 := fun o => (rb.alloc o).cell 1 _ rfl
       have pb2 := fun o => (rb.alloc o).cell 2 _ rfl
       have pb3 := fun o => (rb.alloc o).cell 3 _ rfl
       have pb4 := fun o => (rb.alloc o).cell 4 _ rfl
       have pb5 := fun o => (rb.alloc o).cell 5 _ rfl
       have pb6 := fun o => (rb.alloc o).cell 6 _ rfl
       have pb7 := fun o => (rb.alloc o).cell 7 _ rfl
       have pb8 := fun o => (rb.alloc o).cell 8 _ rfl
       have pc0 := fun o => (rc.alloc o).cell 0 _ rfl
       have pc1 := fun o => (rc.alloc o).cell 1 _ rfl
       have pc2 := fun o => (rc.alloc o).cell 2 _ rfl
       have pc3 := fun o => (rc.alloc o).cell 3 _ rfl
       have pc4 := fun o => (rc.alloc o).cell 4 _ rfl
       have pc5 := fun o => (rc.alloc o).cell 5 _ rfl
       have pc6 := fun o => (rc.alloc o).cell 6 _ rfl
       have pc7 := fun o => (rc.alloc o).cell 7 _ rfl
       have pc8 := fun o => (rc.alloc o).cell 8 _ rfl))
  go_ret
  exact ⟨rfl, hB5⟩
theorem lawBack (f : Fr) (hs : f.data.size ≤ maxLen) (s : ByteArray) (hss : s.size ≤ maxLen) (a0 a1 : Addr) (w : World) (L : Errs w a0 a1) : Calls Tryd.prog 6 #[f.val, .string s] w fun e w' => e = .returned (.bool true) ∧ Below w.heap.size w w' := by
  have hk := decF_back (five s)
  by_cases hr : f.cut.Right
  · rcases hk with ⟨h1, h2⟩ | ⟨h1, h2, h3⟩
    · exact backYesBad f hs s hss _ rfl hr _ h1 (Prod.ext h2 rfl) a0 a1 w L
    · exact backYesGood f hs s hss _ rfl hr _ (Prod.ext rfl h1) h2 h3 a0 a1 w L
  · rcases hk with ⟨h1, h2⟩ | ⟨h1, h2, h3⟩
    · exact backNoBad f hs s hss _ rfl hr _ h1 (Prod.ext h2 rfl) a0 a1 w L
    · exact backNoGood f hs s hss _ rfl hr _ (Prod.ext rfl h1) h2 h3 a0 a1 w L
end Go.Proofs.YtlcenfgnmmkcpaaDoor
