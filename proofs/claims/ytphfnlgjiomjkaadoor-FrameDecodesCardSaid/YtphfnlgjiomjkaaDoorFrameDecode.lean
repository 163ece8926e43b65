/-
  frame.Decode walked through.
-/
import Derived.Test.YtphfnlgjiomjkaaDoorFrameRead3
import Derived.Test.YtphfnlgjiomjkaaDoorErrIs
import Derived.Test.YtphfnlgjiomjkaaDoorCrcOpen2
namespace Go.Proofs.YtphfnlgjiomjkaaDoor
open Go.RowKit Go.Shelf
attribute [local go_sem] Oper.semAt_some
set_option linter.unusedVariables false
set_option linter.unusedSimpArgs false
open Bytes

/-- What Open answers, part by part. -/
def openB (s : ByteArray) : Bool := decide (4 ≤ s.size) && CrcM.opened s.data.toList
def openT (s : ByteArray) : ByteArray := if openB s = true then s.extract 0 (s.size - 4) else ⟨#[]⟩
theorem crcOpen (s : ByteArray) (hs : s.size ≤ 100000) (w : World) : Calls Tryd.prog 11 #[.string s] w fun e w' => e = .returned (.tuple #[.string (openT s), .bool (openB s)]) ∧ Below w.heap.size w w' := by
  by_cases h : 4 ≤ s.size
  · cases ho : CrcM.opened s.data.toList with
    | true =>
      have hb : openB s = true := by rw [openB, ho, decide_eq_true h]; rfl
      rw [openT, if_pos hb, hb]
      exact crcOpenYes s (s.size - 4) (by omega) hs ho w
    | false =>
      have hb : openB s = false := by rw [openB, ho]; simp
      rw [openT, hb]
      exact crcOpenFails s (s.size - 4) (by omega) hs ho w
  · have hb : openB s = false := by rw [openB, decide_eq_false h]; rfl
    rw [openT, hb]
    exact crcOpenNo s (by omega) w
theorem openT_size (s : ByteArray) : (openT s).size ≤ s.size := by
  rw [openT]; split
  · rw [ByteArray.size_extract]; omega
  · exact Nat.zero_le _
/-- What Decode makes of bytes: the frame, the number of the error. -/
def decF (s : ByteArray) : Fr × Int :=
  if openB s = false then (Fr.nil, 21) else if old (openT s).data.toList = true then (Fr.nil, 22) else if good (openT s).data.toList = true then (fr (openT s).data.toList, 0) else (Fr.nil, 20)
theorem row_keeps {W : World} {b b' : Nat} {c : Array Value} {t : TypeId} (y0 y1 y2 y3 y4 y5 y6 y7 y8 : Value) (h : Row W b c t) (hn : b' ≠ b) : Row (fill9 W b' y0 y1 y2 y3 y4 y5 y6 y7 y8) b c t :=
  ((((((((h.other (p := ⟨b', 0, none⟩) hn y0).other (p := ⟨b', 1, none⟩) hn y1).other (p := ⟨b', 2, none⟩) hn y2).other (p := ⟨b', 3, none⟩) hn y3).other (p := ⟨b', 4, none⟩) hn y4).other (p := ⟨b', 5, none⟩) hn y5).other (p := ⟨b', 6, none⟩) hn y6).other (p := ⟨b', 7, none⟩) hn y7).other (p := ⟨b', 8, none⟩) hn y8
set_option maxRecDepth 100000 in
set_option maxHeartbeats 4000000 in
theorem decodeSum (s : ByteArray) (hs : s.size ≤ 100000) (ho : openB s = false) (w : World) : Calls Tryd.prog 6 #[.string s] w fun e w' =>
    e = .returned (.tuple #[Fr.nil.val, .int .i64 21]) ∧ Below w.heap.size w w' := by
  go_enter Tryd.func6, Tryd.ntmps6
  have hB0 : Below w.heap.size w (w.alloc (.cells #[.int .i64 0, .int .i64 0, .int .i64 0, .int .i64 0, .int .u32 0, .int .u32 0, .int .u32 0, .int .u32 0, .string ⟨#[]⟩] 26)) := (Below.refl _ w).alloc (Nat.le_refl _) _
  have rz := Row.new w #[.int .i64 0, .int .i64 0, .int .i64 0, .int .i64 0, .int .u32 0, .int .u32 0, .int .u32 0, .int .u32 0, .string ⟨#[]⟩] 26
  go_wp2_with (go_at_call 11; refine (crcOpen s hs _).mono ?_; rintro e w1 ⟨rfl, hb1⟩; rw [ho]; have hB1 := hB0.trans (hb1.mono hB0.size); replace rz := rz.below hb1 rz.lt
               have z0 := rz.cell 0 _ rfl
               have y0 := rz.thawed 0
               have z1 := rz.cell 1 _ rfl
               have y1 := rz.thawed 1
               have z2 := rz.cell 2 _ rfl
               have y2 := rz.thawed 2
               have z3 := rz.cell 3 _ rfl
               have y3 := rz.thawed 3
               have z4 := rz.cell 4 _ rfl
               have y4 := rz.thawed 4
               have z5 := rz.cell 5 _ rfl
               have y5 := rz.thawed 5
               have z6 := rz.cell 6 _ rfl
               have y6 := rz.thawed 6
               have z7 := rz.cell 7 _ rfl
               have y7 := rz.thawed 7
               have z8 := rz.cell 8 _ rfl
               have y8 := rz.thawed 8)
  have rZ := (row_fill (.int .i64 0) (.int .i64 0) (.int .i64 0) (.int .i64 0) (.int .u32 0) (.int .u32 0) (.int .u32 0) (.int .u32 0) (.string ⟨#[]⟩) (.int .i64 0) (.int .i64 0) (.int .i64 0) (.int .i64 0) (.int .u32 0) (.int .u32 0) (.int .u32 0) (.int .u32 0) (.string ⟨#[]⟩) rz)
  have bZ := (below_fill (.int .i64 0) (.int .i64 0) (.int .i64 0) (.int .i64 0) (.int .u32 0) (.int .u32 0) (.int .u32 0) (.int .u32 0) (.string ⟨#[]⟩) hB1 (Nat.le_refl w.heap.size))
  change bodyPost _ _ _ _ _ (fill9 w1 w.heap.size (.int .i64 0) (.int .i64 0) (.int .i64 0) (.int .i64 0) (.int .u32 0) (.int .u32 0) (.int .u32 0) (.int .u32 0) (.string ⟨#[]⟩))
  generalize (fill9 w1 w.heap.size (.int .i64 0) (.int .i64 0) (.int .i64 0) (.int .i64 0) (.int .u32 0) (.int .u32 0) (.int .u32 0) (.int .u32 0) (.string ⟨#[]⟩)) = Z at *
  have p0 := rZ.cell 0 _ rfl; have p1 := rZ.cell 1 _ rfl; have p2 := rZ.cell 2 _ rfl; have p3 := rZ.cell 3 _ rfl; have p4 := rZ.cell 4 _ rfl; have p5 := rZ.cell 5 _ rfl; have p6 := rZ.cell 6 _ rfl; have p7 := rZ.cell 7 _ rfl; have p8 := rZ.cell 8 _ rfl
  exact bodyPost_ret (v := .tuple #[.agg #[.int .i64 0, .int .i64 0, .int .i64 0, .int .i64 0, .int .u32 0, .int .u32 0, .int .u32 0, .int .u32 0, .string ⟨#[]⟩], .int .i64 21]) (by simp [results, Tryd.results6, go_sem, p0, p1, p2, p3, p4, p5, p6, p7, p8]) rfl ⟨rfl, bZ⟩
set_option maxRecDepth 100000 in
set_option maxHeartbeats 4000000 in
theorem decodeOld (s : ByteArray) (hs : s.size ≤ 100000) (ho : openB s = true) (a0 a1 : Addr) (hv : readVal (openT s).data.toList a0 a1 = .tuple #[Fr.nil.val, errV a0]) (w : World) (L : Errs w a0 a1) : Calls Tryd.prog 6 #[.string s] w fun e w' =>
    e = .returned (.tuple #[Fr.nil.val, .int .i64 22]) ∧ Below w.heap.size w w' := by
  have ul : 0 < w.heap.size := lt_of_cell (p := ⟨0, 0, none⟩) L.v0
  have um : 1 < w.heap.size := lt_of_cell (p := ⟨1, 0, none⟩) L.v1
  have RV := Lib.hid hv
  clear hv
  go_enter Tryd.func6, Tryd.ntmps6
  have hB0 : Below w.heap.size w (w.alloc (.cells #[.int .i64 0, .int .i64 0, .int .i64 0, .int .i64 0, .int .u32 0, .int .u32 0, .int .u32 0, .int .u32 0, .string ⟨#[]⟩] 26)) := (Below.refl _ w).alloc (Nat.le_refl _) _
  have rz := Row.new w #[.int .i64 0, .int .i64 0, .int .i64 0, .int .i64 0, .int .u32 0, .int .u32 0, .int .u32 0, .int .u32 0, .string ⟨#[]⟩] 26
  go_wp2_with (first
    | (go_at_call 11; refine (crcOpen s hs _).mono ?_; rintro e w1 ⟨rfl, hb1⟩; rw [ho]; replace hB0 := hB0.trans (hb1.mono hB0.size); replace rz := rz.below hb1 rz.lt; have L1 := L.below hB0 (Nat.le_refl _); clear hb1)
    | (go_at_call 12
       refine (frameRead (openT s) (Nat.le_trans (openT_size s) hs) a0 a1 _ L1).mono ?_
       rintro e w2 ⟨rfl, hb2⟩
       rw [RV.out]
       unfold Fr.nil Fr.val Fr.cells
       replace hB0 := hB0.trans (hb2.mono hB0.size)
       replace rz := rz.below hb2 rz.lt
       clear hb2 L1
       have hlt := rz.lt
       have hne : w2.heap.size ≠ w.heap.size := by omega
       have hn0 : ¬ w2.heap.size = 0 := by omega
       have hn1 : ¬ w2.heap.size = 1 := by omega
       have hm0 : ¬ 0 = w2.heap.size := by omega
       have hm1 : ¬ 1 = w2.heap.size := by omega
       have hB2 := hB0.alloc hB0.size (.cells #[.int .i64 0, .int .i64 0, .int .i64 0, .int .i64 0, .int .u32 0, .int .u32 0, .int .u32 0, .int .u32 0, .string ⟨#[]⟩] 26)
       have rn := Row.new w2 #[.int .i64 0, .int .i64 0, .int .i64 0, .int .i64 0, .int .u32 0, .int .u32 0, .int .u32 0, .int .u32 0, .string ⟨#[]⟩] 26
       have rz2 := rz.alloc (.cells #[.int .i64 0, .int .i64 0, .int .i64 0, .int .i64 0, .int .u32 0, .int .u32 0, .int .u32 0, .int .u32 0, .string ⟨#[]⟩] 26)
       have L2 := L.below hB2 (Nat.le_refl _)
       have u0 := fun o => (L.below (hB0.alloc hB0.size o) (Nat.le_refl _)).v0
       have z0 := rn.cell 0 _ rfl
       have y0 := rn.thawed 0
       have z1 := rn.cell 1 _ rfl
       have y1 := rn.thawed 1
       have z2 := rn.cell 2 _ rfl
       have y2 := rn.thawed 2
       have z3 := rn.cell 3 _ rfl
       have y3 := rn.thawed 3
       have z4 := rn.cell 4 _ rfl
       have y4 := rn.thawed 4
       have z5 := rn.cell 5 _ rfl
       have y5 := rn.thawed 5
       have z6 := rn.cell 6 _ rfl
       have y6 := rn.thawed 6
       have z7 := rn.cell 7 _ rfl
       have y7 := rn.thawed 7
       have z8 := rn.cell 8 _ rfl
       have y8 := rn.thawed 8)
    | (go_at_call 13
       change Calls _ _ _ (w2.alloc (.cells #[.int .i64 0, .int .i64 0, .int .i64 0, .int .i64 0, .int .u32 0, .int .u32 0, .int .u32 0, .int .u32 0, .string ⟨#[]⟩] 26)) _
       have rN := Row.new w2 #[.int .i64 0, .int .i64 0, .int .i64 0, .int .i64 0, .int .u32 0, .int .u32 0, .int .u32 0, .int .u32 0, .string ⟨#[]⟩] 26
       have bN := hB0.alloc hB0.size (.cells #[.int .i64 0, .int .i64 0, .int .i64 0, .int .i64 0, .int .u32 0, .int .u32 0, .int .u32 0, .int .u32 0, .string ⟨#[]⟩] 26)
       have rY := rz.alloc (.cells #[.int .i64 0, .int .i64 0, .int .i64 0, .int .i64 0, .int .u32 0, .int .u32 0, .int .u32 0, .int .u32 0, .string ⟨#[]⟩] 26)
       have LN := L.below bN (Nat.le_refl _)
       clear z0 z1 z2 z3 z4 z5 z6 z7 z8 y0 y1 y2 y3 y4 y5 y6 y7 y8 u0 L2 rn rz2 hB2
       generalize (w2.alloc (.cells #[.int .i64 0, .int .i64 0, .int .i64 0, .int .i64 0, .int .u32 0, .int .u32 0, .int .u32 0, .int .u32 0, .string ⟨#[]⟩] 26)) = Y at *
       have u1 := LN.v1
       obtain ⟨c0, t0, k0⟩ := LN.b0
       obtain ⟨c1, t1, k1⟩ := LN.b1
       have hane := LN.ne
       have f0 := rN.cell 0 _ rfl
       have g0 := rN.thawed 0
       have f1 := rN.cell 1 _ rfl
       have g1 := rN.thawed 1
       have f2 := rN.cell 2 _ rfl
       have g2 := rN.thawed 2
       have f3 := rN.cell 3 _ rfl
       have g3 := rN.thawed 3
       have f4 := rN.cell 4 _ rfl
       have g4 := rN.thawed 4
       have f5 := rN.cell 5 _ rfl
       have g5 := rN.thawed 5
       have f6 := rN.cell 6 _ rfl
       have g6 := rN.thawed 6
       have f7 := rN.cell 7 _ rfl
       have g7 := rN.thawed 7
       have f8 := rN.cell 8 _ rfl
       have g8 := rN.thawed 8
       have z0 := rY.cell 0 _ rfl
       have y0 := rY.thawed 0
       have z1 := rY.cell 1 _ rfl
       have y1 := rY.thawed 1
       have z2 := rY.cell 2 _ rfl
       have y2 := rY.thawed 2
       have z3 := rY.cell 3 _ rfl
       have y3 := rY.thawed 3
       have z4 := rY.cell 4 _ rfl
       have y4 := rY.thawed 4
       have z5 := rY.cell 5 _ rfl
       have y5 := rY.thawed 5
       have z6 := rY.cell 6 _ rfl
       have y6 := rY.thawed 6
       have z7 := rY.cell 7 _ rfl
       have y7 := rY.thawed 7
       have z8 := rY.cell 8 _ rfl
       have y8 := rY.thawed 8
       refine (is_same a0 Y).mono ?_
       rintro e w3 ⟨rfl, rfl⟩)
    | (go_at_call 13
       refine (is_same a0 Y).mono ?_
       rintro e w4 ⟨rfl, rfl⟩))
  have rZ := (row_fill (.int .i64 0) (.int .i64 0) (.int .i64 0) (.int .i64 0) (.int .u32 0) (.int .u32 0) (.int .u32 0) (.int .u32 0) (.string ⟨#[]⟩) (.int .i64 0) (.int .i64 0) (.int .i64 0) (.int .i64 0) (.int .u32 0) (.int .u32 0) (.int .u32 0) (.int .u32 0) (.string ⟨#[]⟩) rY)
  have bZ := (below_fill (.int .i64 0) (.int .i64 0) (.int .i64 0) (.int .i64 0) (.int .u32 0) (.int .u32 0) (.int .u32 0) (.int .u32 0) (.string ⟨#[]⟩) bN (Nat.le_refl w.heap.size))
  change bodyPost _ _ _ _ _ (fill9 Y w.heap.size (.int .i64 0) (.int .i64 0) (.int .i64 0) (.int .i64 0) (.int .u32 0) (.int .u32 0) (.int .u32 0) (.int .u32 0) (.string ⟨#[]⟩))
  generalize (fill9 Y w.heap.size (.int .i64 0) (.int .i64 0) (.int .i64 0) (.int .i64 0) (.int .u32 0) (.int .u32 0) (.int .u32 0) (.int .u32 0) (.string ⟨#[]⟩)) = Z at *
  have p0 := rZ.cell 0 _ rfl; have p1 := rZ.cell 1 _ rfl; have p2 := rZ.cell 2 _ rfl; have p3 := rZ.cell 3 _ rfl; have p4 := rZ.cell 4 _ rfl; have p5 := rZ.cell 5 _ rfl; have p6 := rZ.cell 6 _ rfl; have p7 := rZ.cell 7 _ rfl; have p8 := rZ.cell 8 _ rfl
  exact bodyPost_ret (v := .tuple #[.agg #[.int .i64 0, .int .i64 0, .int .i64 0, .int .i64 0, .int .u32 0, .int .u32 0, .int .u32 0, .int .u32 0, .string ⟨#[]⟩], .int .i64 22]) (by simp [results, Tryd.results6, go_sem, p0, p1, p2, p3, p4, p5, p6, p7, p8]) rfl ⟨rfl, bZ⟩
set_option maxRecDepth 100000 in
set_option maxHeartbeats 4000000 in
theorem decodeBad (s : ByteArray) (hs : s.size ≤ 100000) (ho : openB s = true) (a0 a1 : Addr) (hv : readVal (openT s).data.toList a0 a1 = .tuple #[Fr.nil.val, errV a1]) (w : World) (L : Errs w a0 a1) : Calls Tryd.prog 6 #[.string s] w fun e w' =>
    e = .returned (.tuple #[Fr.nil.val, .int .i64 20]) ∧ Below w.heap.size w w' := by
  have ul : 0 < w.heap.size := lt_of_cell (p := ⟨0, 0, none⟩) L.v0
  have um : 1 < w.heap.size := lt_of_cell (p := ⟨1, 0, none⟩) L.v1
  have RV := Lib.hid hv
  clear hv
  go_enter Tryd.func6, Tryd.ntmps6
  have hB0 : Below w.heap.size w (w.alloc (.cells #[.int .i64 0, .int .i64 0, .int .i64 0, .int .i64 0, .int .u32 0, .int .u32 0, .int .u32 0, .int .u32 0, .string ⟨#[]⟩] 26)) := (Below.refl _ w).alloc (Nat.le_refl _) _
  have rz := Row.new w #[.int .i64 0, .int .i64 0, .int .i64 0, .int .i64 0, .int .u32 0, .int .u32 0, .int .u32 0, .int .u32 0, .string ⟨#[]⟩] 26
  go_wp2_with (first
    | (go_at_call 11; refine (crcOpen s hs _).mono ?_; rintro e w1 ⟨rfl, hb1⟩; rw [ho]; replace hB0 := hB0.trans (hb1.mono hB0.size); replace rz := rz.below hb1 rz.lt; have L1 := L.below hB0 (Nat.le_refl _); clear hb1)
    | (go_at_call 12
       refine (frameRead (openT s) (Nat.le_trans (openT_size s) hs) a0 a1 _ L1).mono ?_
       rintro e w2 ⟨rfl, hb2⟩
       rw [RV.out]
       unfold Fr.nil Fr.val Fr.cells
       replace hB0 := hB0.trans (hb2.mono hB0.size)
       replace rz := rz.below hb2 rz.lt
       clear hb2 L1
       have hlt := rz.lt
       have hne : w2.heap.size ≠ w.heap.size := by omega
       have hn0 : ¬ w2.heap.size = 0 := by omega
       have hn1 : ¬ w2.heap.size = 1 := by omega
       have hm0 : ¬ 0 = w2.heap.size := by omega
       have hm1 : ¬ 1 = w2.heap.size := by omega
       have hB2 := hB0.alloc hB0.size (.cells #[.int .i64 0, .int .i64 0, .int .i64 0, .int .i64 0, .int .u32 0, .int .u32 0, .int .u32 0, .int .u32 0, .string ⟨#[]⟩] 26)
       have rn := Row.new w2 #[.int .i64 0, .int .i64 0, .int .i64 0, .int .i64 0, .int .u32 0, .int .u32 0, .int .u32 0, .int .u32 0, .string ⟨#[]⟩] 26
       have rz2 := rz.alloc (.cells #[.int .i64 0, .int .i64 0, .int .i64 0, .int .i64 0, .int .u32 0, .int .u32 0, .int .u32 0, .int .u32 0, .string ⟨#[]⟩] 26)
       have L2 := L.below hB2 (Nat.le_refl _)
       have u0 := fun o => (L.below (hB0.alloc hB0.size o) (Nat.le_refl _)).v0
       have z0 := rn.cell 0 _ rfl
       have y0 := rn.thawed 0
       have z1 := rn.cell 1 _ rfl
       have y1 := rn.thawed 1
       have z2 := rn.cell 2 _ rfl
       have y2 := rn.thawed 2
       have z3 := rn.cell 3 _ rfl
       have y3 := rn.thawed 3
       have z4 := rn.cell 4 _ rfl
       have y4 := rn.thawed 4
       have z5 := rn.cell 5 _ rfl
       have y5 := rn.thawed 5
       have z6 := rn.cell 6 _ rfl
       have y6 := rn.thawed 6
       have z7 := rn.cell 7 _ rfl
       have y7 := rn.thawed 7
       have z8 := rn.cell 8 _ rfl
       have y8 := rn.thawed 8)
    | (go_at_call 13
       change Calls _ _ _ (w2.alloc (.cells #[.int .i64 0, .int .i64 0, .int .i64 0, .int .i64 0, .int .u32 0, .int .u32 0, .int .u32 0, .int .u32 0, .string ⟨#[]⟩] 26)) _
       have rN := Row.new w2 #[.int .i64 0, .int .i64 0, .int .i64 0, .int .i64 0, .int .u32 0, .int .u32 0, .int .u32 0, .int .u32 0, .string ⟨#[]⟩] 26
       have bN := hB0.alloc hB0.size (.cells #[.int .i64 0, .int .i64 0, .int .i64 0, .int .i64 0, .int .u32 0, .int .u32 0, .int .u32 0, .int .u32 0, .string ⟨#[]⟩] 26)
       have rY := rz.alloc (.cells #[.int .i64 0, .int .i64 0, .int .i64 0, .int .i64 0, .int .u32 0, .int .u32 0, .int .u32 0, .int .u32 0, .string ⟨#[]⟩] 26)
       have LN := L.below bN (Nat.le_refl _)
       clear z0 z1 z2 z3 z4 z5 z6 z7 z8 y0 y1 y2 y3 y4 y5 y6 y7 y8 u0 L2 rn rz2 hB2
       generalize (w2.alloc (.cells #[.int .i64 0, .int .i64 0, .int .i64 0, .int .i64 0, .int .u32 0, .int .u32 0, .int .u32 0, .int .u32 0, .string ⟨#[]⟩] 26)) = Y at *
       have u1 := LN.v1
       obtain ⟨c0, t0, k0⟩ := LN.b0
       obtain ⟨c1, t1, k1⟩ := LN.b1
       have hane := LN.ne
       have f0 := rN.cell 0 _ rfl
       have g0 := rN.thawed 0
       have f1 := rN.cell 1 _ rfl
       have g1 := rN.thawed 1
       have f2 := rN.cell 2 _ rfl
       have g2 := rN.thawed 2
       have f3 := rN.cell 3 _ rfl
       have g3 := rN.thawed 3
       have f4 := rN.cell 4 _ rfl
       have g4 := rN.thawed 4
       have f5 := rN.cell 5 _ rfl
       have g5 := rN.thawed 5
       have f6 := rN.cell 6 _ rfl
       have g6 := rN.thawed 6
       have f7 := rN.cell 7 _ rfl
       have g7 := rN.thawed 7
       have f8 := rN.cell 8 _ rfl
       have g8 := rN.thawed 8
       have z0 := rY.cell 0 _ rfl
       have y0 := rY.thawed 0
       have z1 := rY.cell 1 _ rfl
       have y1 := rY.thawed 1
       have z2 := rY.cell 2 _ rfl
       have y2 := rY.thawed 2
       have z3 := rY.cell 3 _ rfl
       have y3 := rY.thawed 3
       have z4 := rY.cell 4 _ rfl
       have y4 := rY.thawed 4
       have z5 := rY.cell 5 _ rfl
       have y5 := rY.thawed 5
       have z6 := rY.cell 6 _ rfl
       have y6 := rY.thawed 6
       have z7 := rY.cell 7 _ rfl
       have y7 := rY.thawed 7
       have z8 := rY.cell 8 _ rfl
       have y8 := rY.thawed 8
       refine (is_other a1 a0 c1 c0 t1 t0 Y hane.symm k1 k0).mono ?_
       rintro e w3 ⟨rfl, rfl⟩)
    | (go_at_call 13
       refine (is_same a1 Y).mono ?_
       rintro e w4 ⟨rfl, rfl⟩))
  have rZ := (row_fill (.int .i64 0) (.int .i64 0) (.int .i64 0) (.int .i64 0) (.int .u32 0) (.int .u32 0) (.int .u32 0) (.int .u32 0) (.string ⟨#[]⟩) (.int .i64 0) (.int .i64 0) (.int .i64 0) (.int .i64 0) (.int .u32 0) (.int .u32 0) (.int .u32 0) (.int .u32 0) (.string ⟨#[]⟩) rY)
  have bZ := (below_fill (.int .i64 0) (.int .i64 0) (.int .i64 0) (.int .i64 0) (.int .u32 0) (.int .u32 0) (.int .u32 0) (.int .u32 0) (.string ⟨#[]⟩) bN (Nat.le_refl w.heap.size))
  change bodyPost _ _ _ _ _ (fill9 Y w.heap.size (.int .i64 0) (.int .i64 0) (.int .i64 0) (.int .i64 0) (.int .u32 0) (.int .u32 0) (.int .u32 0) (.int .u32 0) (.string ⟨#[]⟩))
  generalize (fill9 Y w.heap.size (.int .i64 0) (.int .i64 0) (.int .i64 0) (.int .i64 0) (.int .u32 0) (.int .u32 0) (.int .u32 0) (.int .u32 0) (.string ⟨#[]⟩)) = Z at *
  have p0 := rZ.cell 0 _ rfl; have p1 := rZ.cell 1 _ rfl; have p2 := rZ.cell 2 _ rfl; have p3 := rZ.cell 3 _ rfl; have p4 := rZ.cell 4 _ rfl; have p5 := rZ.cell 5 _ rfl; have p6 := rZ.cell 6 _ rfl; have p7 := rZ.cell 7 _ rfl; have p8 := rZ.cell 8 _ rfl
  exact bodyPost_ret (v := .tuple #[.agg #[.int .i64 0, .int .i64 0, .int .i64 0, .int .i64 0, .int .u32 0, .int .u32 0, .int .u32 0, .int .u32 0, .string ⟨#[]⟩], .int .i64 20]) (by simp [results, Tryd.results6, go_sem, p0, p1, p2, p3, p4, p5, p6, p7, p8]) rfl ⟨rfl, bZ⟩
set_option maxRecDepth 100000 in
set_option maxHeartbeats 4000000 in
theorem decodeFine (s : ByteArray) (hs : s.size ≤ 100000) (ho : openB s = true) (a0 a1 : Addr) (F : Fr) (hv : readVal (openT s).data.toList a0 a1 = .tuple #[F.val, .nilIface]) (w : World) (L : Errs w a0 a1) : Calls Tryd.prog 6 #[.string s] w fun e w' =>
    e = .returned (.tuple #[F.val, .int .i64 0]) ∧ Below w.heap.size w w' := by
  have ul : 0 < w.heap.size := lt_of_cell (p := ⟨0, 0, none⟩) L.v0
  have um : 1 < w.heap.size := lt_of_cell (p := ⟨1, 0, none⟩) L.v1
  have RV := Lib.hid hv
  clear hv
  go_enter Tryd.func6, Tryd.ntmps6
  have hB0 : Below w.heap.size w (w.alloc (.cells #[.int .i64 0, .int .i64 0, .int .i64 0, .int .i64 0, .int .u32 0, .int .u32 0, .int .u32 0, .int .u32 0, .string ⟨#[]⟩] 26)) := (Below.refl _ w).alloc (Nat.le_refl _) _
  have rz := Row.new w #[.int .i64 0, .int .i64 0, .int .i64 0, .int .i64 0, .int .u32 0, .int .u32 0, .int .u32 0, .int .u32 0, .string ⟨#[]⟩] 26
  go_wp2_with (first
    | (go_at_call 11; refine (crcOpen s hs _).mono ?_; rintro e w1 ⟨rfl, hb1⟩; rw [ho]; replace hB0 := hB0.trans (hb1.mono hB0.size); replace rz := rz.below hb1 rz.lt; have L1 := L.below hB0 (Nat.le_refl _); clear hb1)
    | (go_at_call 12
       refine (frameRead (openT s) (Nat.le_trans (openT_size s) hs) a0 a1 _ L1).mono ?_
       rintro e w2 ⟨rfl, hb2⟩
       rw [RV.out]
       unfold Fr.val Fr.cells
       replace hB0 := hB0.trans (hb2.mono hB0.size)
       replace rz := rz.below hb2 rz.lt
       clear hb2 L1
       have hlt := rz.lt
       have hne : w2.heap.size ≠ w.heap.size := by omega
       have hn0 : ¬ w2.heap.size = 0 := by omega
       have hn1 : ¬ w2.heap.size = 1 := by omega
       have hm0 : ¬ 0 = w2.heap.size := by omega
       have hm1 : ¬ 1 = w2.heap.size := by omega
       have hB2 := hB0.alloc hB0.size (.cells #[.int .i64 0, .int .i64 0, .int .i64 0, .int .i64 0, .int .u32 0, .int .u32 0, .int .u32 0, .int .u32 0, .string ⟨#[]⟩] 26)
       have rn := Row.new w2 #[.int .i64 0, .int .i64 0, .int .i64 0, .int .i64 0, .int .u32 0, .int .u32 0, .int .u32 0, .int .u32 0, .string ⟨#[]⟩] 26
       have rz2 := rz.alloc (.cells #[.int .i64 0, .int .i64 0, .int .i64 0, .int .i64 0, .int .u32 0, .int .u32 0, .int .u32 0, .int .u32 0, .string ⟨#[]⟩] 26)
       have L2 := L.below hB2 (Nat.le_refl _)
       have u0 := fun o => (L.below (hB0.alloc hB0.size o) (Nat.le_refl _)).v0
       have z0 := rn.cell 0 _ rfl
       have y0 := rn.thawed 0
       have z1 := rn.cell 1 _ rfl
       have y1 := rn.thawed 1
       have z2 := rn.cell 2 _ rfl
       have y2 := rn.thawed 2
       have z3 := rn.cell 3 _ rfl
       have y3 := rn.thawed 3
       have z4 := rn.cell 4 _ rfl
       have y4 := rn.thawed 4
       have z5 := rn.cell 5 _ rfl
       have y5 := rn.thawed 5
       have z6 := rn.cell 6 _ rfl
       have y6 := rn.thawed 6
       have z7 := rn.cell 7 _ rfl
       have y7 := rn.thawed 7
       have z8 := rn.cell 8 _ rfl
       have y8 := rn.thawed 8)
    | (go_at_call 13
       change Calls _ _ _ (w2.alloc (.cells #[.int .i64 F.wire, .int .i64 F.kind, .int .i64 F.src, .int .i64 F.dst, .int .u32 (F.life.toNat : Int), .int .u32 (F.seq.toNat : Int), .int .u32 (F.ack.toNat : Int), .int .u32 (F.hint.toNat : Int), .string F.data] 26)) _
       have rN := Row.new w2 #[.int .i64 F.wire, .int .i64 F.kind, .int .i64 F.src, .int .i64 F.dst, .int .u32 (F.life.toNat : Int), .int .u32 (F.seq.toNat : Int), .int .u32 (F.ack.toNat : Int), .int .u32 (F.hint.toNat : Int), .string F.data] 26
       have bN := hB0.alloc hB0.size (.cells #[.int .i64 F.wire, .int .i64 F.kind, .int .i64 F.src, .int .i64 F.dst, .int .u32 (F.life.toNat : Int), .int .u32 (F.seq.toNat : Int), .int .u32 (F.ack.toNat : Int), .int .u32 (F.hint.toNat : Int), .string F.data] 26)
       have rY := rz.alloc (.cells #[.int .i64 F.wire, .int .i64 F.kind, .int .i64 F.src, .int .i64 F.dst, .int .u32 (F.life.toNat : Int), .int .u32 (F.seq.toNat : Int), .int .u32 (F.ack.toNat : Int), .int .u32 (F.hint.toNat : Int), .string F.data] 26)
       have LN := L.below bN (Nat.le_refl _)
       clear z0 z1 z2 z3 z4 z5 z6 z7 z8 y0 y1 y2 y3 y4 y5 y6 y7 y8 u0 L2 rn rz2 hB2
       generalize (w2.alloc (.cells #[.int .i64 F.wire, .int .i64 F.kind, .int .i64 F.src, .int .i64 F.dst, .int .u32 (F.life.toNat : Int), .int .u32 (F.seq.toNat : Int), .int .u32 (F.ack.toNat : Int), .int .u32 (F.hint.toNat : Int), .string F.data] 26)) = Y at *
       have u1 := LN.v1
       obtain ⟨c0, t0, k0⟩ := LN.b0
       obtain ⟨c1, t1, k1⟩ := LN.b1
       have hane := LN.ne
       have f0 := rN.cell 0 _ rfl
       have g0 := rN.thawed 0
       have f1 := rN.cell 1 _ rfl
       have g1 := rN.thawed 1
       have f2 := rN.cell 2 _ rfl
       have g2 := rN.thawed 2
       have f3 := rN.cell 3 _ rfl
       have g3 := rN.thawed 3
       have f4 := rN.cell 4 _ rfl
       have g4 := rN.thawed 4
       have f5 := rN.cell 5 _ rfl
       have g5 := rN.thawed 5
       have f6 := rN.cell 6 _ rfl
       have g6 := rN.thawed 6
       have f7 := rN.cell 7 _ rfl
       have g7 := rN.thawed 7
       have f8 := rN.cell 8 _ rfl
       have g8 := rN.thawed 8
       have z0 := rY.cell 0 _ rfl
       have y0 := rY.thawed 0
       have z1 := rY.cell 1 _ rfl
       have y1 := rY.thawed 1
       have z2 := rY.cell 2 _ rfl
       have y2 := rY.thawed 2
       have z3 := rY.cell 3 _ rfl
       have y3 := rY.thawed 3
       have z4 := rY.cell 4 _ rfl
       have y4 := rY.thawed 4
       have z5 := rY.cell 5 _ rfl
       have y5 := rY.thawed 5
       have z6 := rY.cell 6 _ rfl
       have y6 := rY.thawed 6
       have z7 := rY.cell 7 _ rfl
       have y7 := rY.thawed 7
       have z8 := rY.cell 8 _ rfl
       have y8 := rY.thawed 8
       refine (is_nil a0 Y).mono ?_
       rintro e w3 ⟨rfl, rfl⟩)
    | (go_at_call 13
       refine (is_nil a1 Y).mono ?_
       rintro e w4 ⟨rfl, rfl⟩))
  have rZ := (row_fill (.int .i64 0) (.int .i64 0) (.int .i64 0) (.int .i64 0) (.int .u32 0) (.int .u32 0) (.int .u32 0) (.int .u32 0) (.string ⟨#[]⟩) (.int .i64 F.wire) (.int .i64 F.kind) (.int .i64 F.src) (.int .i64 F.dst) (.int .u32 (F.life.toNat : Int)) (.int .u32 (F.seq.toNat : Int)) (.int .u32 (F.ack.toNat : Int)) (.int .u32 (F.hint.toNat : Int)) (.string F.data) rY)
  have bZ := (below_fill (.int .i64 F.wire) (.int .i64 F.kind) (.int .i64 F.src) (.int .i64 F.dst) (.int .u32 (F.life.toNat : Int)) (.int .u32 (F.seq.toNat : Int)) (.int .u32 (F.ack.toNat : Int)) (.int .u32 (F.hint.toNat : Int)) (.string F.data) bN (Nat.le_refl w.heap.size))
  change bodyPost _ _ _ _ _ (fill9 Y w.heap.size (.int .i64 F.wire) (.int .i64 F.kind) (.int .i64 F.src) (.int .i64 F.dst) (.int .u32 (F.life.toNat : Int)) (.int .u32 (F.seq.toNat : Int)) (.int .u32 (F.ack.toNat : Int)) (.int .u32 (F.hint.toNat : Int)) (.string F.data))
  generalize (fill9 Y w.heap.size (.int .i64 F.wire) (.int .i64 F.kind) (.int .i64 F.src) (.int .i64 F.dst) (.int .u32 (F.life.toNat : Int)) (.int .u32 (F.seq.toNat : Int)) (.int .u32 (F.ack.toNat : Int)) (.int .u32 (F.hint.toNat : Int)) (.string F.data)) = Z at *
  have p0 := rZ.cell 0 _ rfl; have p1 := rZ.cell 1 _ rfl; have p2 := rZ.cell 2 _ rfl; have p3 := rZ.cell 3 _ rfl; have p4 := rZ.cell 4 _ rfl; have p5 := rZ.cell 5 _ rfl; have p6 := rZ.cell 6 _ rfl; have p7 := rZ.cell 7 _ rfl; have p8 := rZ.cell 8 _ rfl
  exact bodyPost_ret (v := .tuple #[.agg #[.int .i64 F.wire, .int .i64 F.kind, .int .i64 F.src, .int .i64 F.dst, .int .u32 (F.life.toNat : Int), .int .u32 (F.seq.toNat : Int), .int .u32 (F.ack.toNat : Int), .int .u32 (F.hint.toNat : Int), .string F.data], .int .i64 0]) (by simp [results, Tryd.results6, go_sem, p0, p1, p2, p3, p4, p5, p6, p7, p8]) rfl ⟨rfl, bZ⟩
theorem frameDecode (s : ByteArray) (hs : s.size ≤ 100000) (a0 a1 : Addr) (w : World) (L : Errs w a0 a1) : Calls Tryd.prog 6 #[.string s] w fun e w' =>
    e = .returned (.tuple #[(decF s).1.val, .int .i64 (decF s).2]) ∧ Below w.heap.size w w' := by
  cases ho : openB s with
  | false => rw [decF, if_pos ho]; exact decodeSum s hs ho w
  | true =>
    rw [decF, if_neg (by rw [ho]; decide)]
    cases hO : old (openT s).data.toList with
    | true => rw [if_pos rfl]; exact decodeOld s hs ho a0 a1 (by rw [readVal, if_pos hO]) w L
    | false =>
      rw [if_neg (by decide)]
      cases hG : good (openT s).data.toList with
      | true => rw [if_pos rfl]; exact decodeFine s hs ho a0 a1 _ (by rw [readVal, hO, if_neg (by decide), if_pos hG]) w L
      | false => rw [if_neg (by decide)]; exact decodeBad s hs ho a0 a1 (by rw [readVal, hO, if_neg (by decide), hG, if_neg (by decide)]) w L
end Go.Proofs.YtphfnlgjiomjkaaDoor
