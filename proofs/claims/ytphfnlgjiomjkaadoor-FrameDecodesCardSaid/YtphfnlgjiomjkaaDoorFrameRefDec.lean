/-
  The document's frame of bytes, walked.
-/
import Derived.Test.YtphfnlgjiomjkaaDoorFrameRef
import Derived.Test.YtphfnlgjiomjkaaDoorFrameLaw
import Derived.Test.YtphfnlgjiomjkaaDoorCrcRef
import Derived.Deep.RegionHeld3
import Derived.Deep.DeepCutAuto
namespace Go.Proofs.YtphfnlgjiomjkaaDoor
open Go.RowKit Go.Shelf
attribute [local go_sem] Oper.semAt_some
set_option linter.unusedVariables false
set_option linter.unusedSimpArgs false
open Bytes

theorem refOpen (s : ByteArray) (hs : s.size ≤ 100000) (w : World) : Calls Tryd.prog 14 #[.string s] w fun e w' => e = .returned (.tuple #[.string (openT s), .bool (openB s)]) ∧ Below w.heap.size w w' := by
  by_cases h : 4 ≤ s.size
  · cases ho : CrcM.opened s.data.toList with
    | true =>
      have hb : openB s = true := by rw [openB, ho, decide_eq_true h]; rfl
      rw [openT, if_pos hb, hb]
      exact refOpenYes s (s.size - 4) (by omega) hs ho w
    | false =>
      have hb : openB s = false := by rw [openB, ho]; simp
      rw [openT, hb]
      exact refOpenFails s (s.size - 4) (by omega) hs ho w
  · have hb : openB s = false := by rw [openB, decide_eq_false h]; rfl
    rw [openT, hb]
    exact refOpenNo s (by omega) w
theorem wrap64_byte (x : UInt8) : wrap64 (x.toNat : Int) = (x.toNat : Int) := by have := x.toNat_lt; unfold wrap64; omega
theorem four_at (b : ByteArray) (o : Nat) (h : o + 4 ≤ b.size) : ∃ x y z u, b.extract o (o + 4) = ⟨#[x, y, z, u]⟩ ∧ CrcM.get [x, y, z, u] = num b.data.toList o := by
  obtain ⟨x, y, z, u, e⟩ := four (b.extract o (o + 4)) (by rw [ByteArray.size_extract]; omega)
  refine ⟨x, y, z, u, e, ?_⟩
  have h1 := congrArg (fun v : ByteArray => v.data.toList) e
  simp only [Lib.extract_data] at h1
  rw [num, show (b.data.toList.drop o).take 4 = [x, y, z, u] from by rw [← h1]; congr 1; omega]
set_option maxRecDepth 100000 in
theorem refNum4 (b : ByteArray) (h : 8 ≤ b.size) (w : World) : Calls Tryd.prog 16 #[.string b, .int .i64 4] w fun e w' => e = .returned (.int .u32 ((num b.data.toList 4).toNat : Int)) ∧ ∃ n, w' = w.drewN n := by
  obtain ⟨x, y, z, u, e, hg⟩ := four_at b 4 h
  have hle : (8 : Int) ≤ (b.size : Int) := by omega
  have hle2 : (4 : Int) ≤ (b.size : Int) := by omega
  rw [← hg]
  have HG := Lib.hid (refGet4 x y z u)
  have HE := Lib.hid e
  clear hg e
  go_enter Tryd.func16, Tryd.ntmps16
  go_wp2_with (go_at_call 33; change Calls _ _ #[.string (b.extract 4 8)] _ _; rw [HE.out]; refine (HG.out _).mono ?_; rintro e w1 ⟨rfl, ⟨n, rfl⟩⟩)
  go_ret
  exact ⟨rfl, _, rfl⟩
set_option maxRecDepth 100000 in
theorem refNum8 (b : ByteArray) (h : 12 ≤ b.size) (w : World) : Calls Tryd.prog 16 #[.string b, .int .i64 8] w fun e w' => e = .returned (.int .u32 ((num b.data.toList 8).toNat : Int)) ∧ ∃ n, w' = w.drewN n := by
  obtain ⟨x, y, z, u, e, hg⟩ := four_at b 8 h
  have hle : (12 : Int) ≤ (b.size : Int) := by omega
  have hle2 : (8 : Int) ≤ (b.size : Int) := by omega
  rw [← hg]
  have HG := Lib.hid (refGet4 x y z u)
  have HE := Lib.hid e
  clear hg e
  go_enter Tryd.func16, Tryd.ntmps16
  go_wp2_with (go_at_call 33; change Calls _ _ #[.string (b.extract 8 12)] _ _; rw [HE.out]; refine (HG.out _).mono ?_; rintro e w1 ⟨rfl, ⟨n, rfl⟩⟩)
  go_ret
  exact ⟨rfl, _, rfl⟩
set_option maxRecDepth 100000 in
theorem refNum12 (b : ByteArray) (h : 16 ≤ b.size) (w : World) : Calls Tryd.prog 16 #[.string b, .int .i64 12] w fun e w' => e = .returned (.int .u32 ((num b.data.toList 12).toNat : Int)) ∧ ∃ n, w' = w.drewN n := by
  obtain ⟨x, y, z, u, e, hg⟩ := four_at b 12 h
  have hle : (16 : Int) ≤ (b.size : Int) := by omega
  have hle2 : (12 : Int) ≤ (b.size : Int) := by omega
  rw [← hg]
  have HG := Lib.hid (refGet4 x y z u)
  have HE := Lib.hid e
  clear hg e
  go_enter Tryd.func16, Tryd.ntmps16
  go_wp2_with (go_at_call 33; change Calls _ _ #[.string (b.extract 12 16)] _ _; rw [HE.out]; refine (HG.out _).mono ?_; rintro e w1 ⟨rfl, ⟨n, rfl⟩⟩)
  go_ret
  exact ⟨rfl, _, rfl⟩
set_option maxRecDepth 100000 in
theorem refNum16 (b : ByteArray) (h : 20 ≤ b.size) (w : World) : Calls Tryd.prog 16 #[.string b, .int .i64 16] w fun e w' => e = .returned (.int .u32 ((num b.data.toList 16).toNat : Int)) ∧ ∃ n, w' = w.drewN n := by
  obtain ⟨x, y, z, u, e, hg⟩ := four_at b 16 h
  have hle : (20 : Int) ≤ (b.size : Int) := by omega
  have hle2 : (16 : Int) ≤ (b.size : Int) := by omega
  rw [← hg]
  have HG := Lib.hid (refGet4 x y z u)
  have HE := Lib.hid e
  clear hg e
  go_enter Tryd.func16, Tryd.ntmps16
  go_wp2_with (go_at_call 33; change Calls _ _ #[.string (b.extract 16 20)] _ _; rw [HE.out]; refine (HG.out _).mono ?_; rintro e w1 ⟨rfl, ⟨n, rfl⟩⟩)
  go_ret
  exact ⟨rfl, _, rfl⟩
set_option maxRecDepth 100000 in
theorem refNum20 (b : ByteArray) (h : 24 ≤ b.size) (w : World) : Calls Tryd.prog 16 #[.string b, .int .i64 20] w fun e w' => e = .returned (.int .u32 ((num b.data.toList 20).toNat : Int)) ∧ ∃ n, w' = w.drewN n := by
  obtain ⟨x, y, z, u, e, hg⟩ := four_at b 20 h
  have hle : (24 : Int) ≤ (b.size : Int) := by omega
  have hle2 : (20 : Int) ≤ (b.size : Int) := by omega
  rw [← hg]
  have HG := Lib.hid (refGet4 x y z u)
  have HE := Lib.hid e
  clear hg e
  go_enter Tryd.func16, Tryd.ntmps16
  go_wp2_with (go_at_call 33; change Calls _ _ #[.string (b.extract 20 24)] _ _; rw [HE.out]; refine (HG.out _).mono ?_; rintro e w1 ⟨rfl, ⟨n, rfl⟩⟩)
  go_ret
  exact ⟨rfl, _, rfl⟩
set_option maxRecDepth 100000 in
set_option maxHeartbeats 4000000 in
theorem refDecSum (s : ByteArray) (hs : s.size ≤ 100000) (ho : openB s = false) (w : World) : Calls Tryd.prog 7 #[.string s] w fun e w' => e = .returned (.tuple #[.agg #[.int .i64 0, .int .i64 0, .int .i64 0, .int .i64 0, .int .u32 0, .int .u32 0, .int .u32 0, .int .u32 0, .string ⟨#[]⟩], .int .i64 21]) ∧ Below w.heap.size w w' := by
  have h := fun W => refOpen s hs W
  rw [ho] at h
  have HO := Lib.hid h
  clear h
  go_enter Tryd.func7, Tryd.ntmps7
  have rz := Row.new w #[.int .i64 0, .int .i64 0, .int .i64 0, .int .i64 0, .int .u32 0, .int .u32 0, .int .u32 0, .int .u32 0, .string ⟨#[]⟩] 26
  have hB0 : Below w.heap.size w (w.alloc (.cells #[.int .i64 0, .int .i64 0, .int .i64 0, .int .i64 0, .int .u32 0, .int .u32 0, .int .u32 0, .int .u32 0, .string ⟨#[]⟩] 26)) := (Below.refl _ w).alloc (Nat.le_refl _) _
  go_wp2_with (first
    | (go_at_call 14
       refine (HO.out _).mono ?_
       rintro e w1 ⟨rfl, hb1⟩
       replace hB0 := hB0.trans (hb1.mono hB0.size)
       replace rz := rz.below hb1 rz.lt
       clear hb1
       have z0 := rz.cell 0 _ rfl
       have y0 := rz.thawed 0
       have z1 := rz.cell 1 _ rfl
       have y1 := rz.thawed 1
       have z2 := rz.cell 2 _ rfl
       have y2 := rz.thawed 2
       have z3 := rz.cell 3 _ rfl
       have y3 := rz.thawed 3
       have z4 := rz.cell 4 _ rfl
       have y4 := rz.thawed 4
       have z5 := rz.cell 5 _ rfl
       have y5 := rz.thawed 5
       have z6 := rz.cell 6 _ rfl
       have y6 := rz.thawed 6
       have z7 := rz.cell 7 _ rfl
       have y7 := rz.thawed 7
       have z8 := rz.cell 8 _ rfl
       have y8 := rz.thawed 8)
    | (go_at_call 15; refine (refVersion _ _).mono ?_; rintro e w2 ⟨rfl, rfl⟩; first | rw [hvv] | rw [hvp]))
  exact bodyPost_ret (v := .tuple #[.agg #[.int .i64 0, .int .i64 0, .int .i64 0, .int .i64 0, .int .u32 0, .int .u32 0, .int .u32 0, .int .u32 0, .string ⟨#[]⟩], .int .i64 21]) (by simp [results, Tryd.results7, go_sem, z0, z1, z2, z3, z4, z5, z6, z7, z8]) rfl ⟨rfl, by first | exact below_fill _ _ _ _ _ _ _ _ _ hB0 (b := w.heap.size) (Nat.le_refl _) | exact hB0⟩
set_option maxRecDepth 100000 in
set_option maxHeartbeats 4000000 in
theorem refDecOld (s : ByteArray) (hs : s.size ≤ 100000) (b : ByteArray) (hb : openT s = b) (ho : openB s = true) (h2 : 2 ≤ b.size) (h72 : at' b.data.toList 0 = 72) (hv : ver ((at' b.data.toList 1).toNat : Int) = false) (w : World) : Calls Tryd.prog 7 #[.string s] w fun e w' => e = .returned (.tuple #[.agg #[.int .i64 0, .int .i64 0, .int .i64 0, .int .i64 0, .int .u32 0, .int .u32 0, .int .u32 0, .int .u32 0, .string ⟨#[]⟩], .int .i64 22]) ∧ Below w.heap.size w w' := by
  have h := fun W => refOpen s hs W
  have hbs := openT_size s
  rw [ho] at h
  rw [hb] at h hbs
  clear hb
  have HO := Lib.hid h
  clear h
  have hi0 : 0 < b.size := by omega
  have hi1 : 1 < b.size := by omega
  have hj0 : (0 : Int) < (b.size : Int) := by omega
  have hj1 : (1 : Int) < (b.size : Int) := by omega
  have hd2g : decide (2 ≤ (b.size : Int)) = true := by simp; omega
  have hq : ((b[0].toNat : Int) == 72) = true := by rw [at_zero b hi0, h72]; rfl
  have hq' : ((b[0].toNat : Int) != 72) = false := by rw [at_zero b hi0, h72]; rfl
  have hvp : ver (b[1].toNat : Int) = false := by rw [at_one b hi1]; exact hv
  have hvv : ver (wrap64 (b[1].toNat : Int)) = false := by rw [wrap64_byte]; exact hvp
  clear ho hbs
  clear h72 hv
  go_enter Tryd.func7, Tryd.ntmps7
  have rz := Row.new w #[.int .i64 0, .int .i64 0, .int .i64 0, .int .i64 0, .int .u32 0, .int .u32 0, .int .u32 0, .int .u32 0, .string ⟨#[]⟩] 26
  have hB0 : Below w.heap.size w (w.alloc (.cells #[.int .i64 0, .int .i64 0, .int .i64 0, .int .i64 0, .int .u32 0, .int .u32 0, .int .u32 0, .int .u32 0, .string ⟨#[]⟩] 26)) := (Below.refl _ w).alloc (Nat.le_refl _) _
  go_wp2_with (first
    | (go_at_call 14
       refine (HO.out _).mono ?_
       rintro e w1 ⟨rfl, hb1⟩
       replace hB0 := hB0.trans (hb1.mono hB0.size)
       replace rz := rz.below hb1 rz.lt
       clear hb1
       have z0 := rz.cell 0 _ rfl
       have y0 := rz.thawed 0
       have z1 := rz.cell 1 _ rfl
       have y1 := rz.thawed 1
       have z2 := rz.cell 2 _ rfl
       have y2 := rz.thawed 2
       have z3 := rz.cell 3 _ rfl
       have y3 := rz.thawed 3
       have z4 := rz.cell 4 _ rfl
       have y4 := rz.thawed 4
       have z5 := rz.cell 5 _ rfl
       have y5 := rz.thawed 5
       have z6 := rz.cell 6 _ rfl
       have y6 := rz.thawed 6
       have z7 := rz.cell 7 _ rfl
       have y7 := rz.thawed 7
       have z8 := rz.cell 8 _ rfl
       have y8 := rz.thawed 8)
    | (go_at_call 15; refine (refVersion _ _).mono ?_; rintro e w2 ⟨rfl, rfl⟩; first | rw [hvv] | rw [hvp]))
  exact bodyPost_ret (v := .tuple #[.agg #[.int .i64 0, .int .i64 0, .int .i64 0, .int .i64 0, .int .u32 0, .int .u32 0, .int .u32 0, .int .u32 0, .string ⟨#[]⟩], .int .i64 22]) (by simp [results, Tryd.results7, go_sem, z0, z1, z2, z3, z4, z5, z6, z7, z8]) rfl ⟨rfl, by first | exact below_fill _ _ _ _ _ _ _ _ _ hB0 (b := w.heap.size) (Nat.le_refl _) | exact hB0⟩
set_option maxRecDepth 100000 in
set_option maxHeartbeats 4000000 in
theorem refDecA1 (s : ByteArray) (hs : s.size ≤ 100000) (b : ByteArray) (hb : openT s = b) (ho : openB s = true) (h2 : b.size < 2) (w : World) : Calls Tryd.prog 7 #[.string s] w fun e w' => e = .returned (.tuple #[.agg #[.int .i64 0, .int .i64 0, .int .i64 0, .int .i64 0, .int .u32 0, .int .u32 0, .int .u32 0, .int .u32 0, .string ⟨#[]⟩], .int .i64 20]) ∧ Below w.heap.size w w' := by
  have h := fun W => refOpen s hs W
  have hbs := openT_size s
  rw [ho] at h
  rw [hb] at h hbs
  clear hb
  have HO := Lib.hid h
  clear h
  have hd2g : decide (2 ≤ (b.size : Int)) = false := by simp; omega
  have hd20l : decide ((b.size : Int) < 20) = true := by simp; omega
  clear ho hbs
  go_enter Tryd.func7, Tryd.ntmps7
  have rz := Row.new w #[.int .i64 0, .int .i64 0, .int .i64 0, .int .i64 0, .int .u32 0, .int .u32 0, .int .u32 0, .int .u32 0, .string ⟨#[]⟩] 26
  have hB0 : Below w.heap.size w (w.alloc (.cells #[.int .i64 0, .int .i64 0, .int .i64 0, .int .i64 0, .int .u32 0, .int .u32 0, .int .u32 0, .int .u32 0, .string ⟨#[]⟩] 26)) := (Below.refl _ w).alloc (Nat.le_refl _) _
  go_wp2_with (first
    | (go_at_call 14
       refine (HO.out _).mono ?_
       rintro e w1 ⟨rfl, hb1⟩
       replace hB0 := hB0.trans (hb1.mono hB0.size)
       replace rz := rz.below hb1 rz.lt
       clear hb1
       have z0 := rz.cell 0 _ rfl
       have y0 := rz.thawed 0
       have z1 := rz.cell 1 _ rfl
       have y1 := rz.thawed 1
       have z2 := rz.cell 2 _ rfl
       have y2 := rz.thawed 2
       have z3 := rz.cell 3 _ rfl
       have y3 := rz.thawed 3
       have z4 := rz.cell 4 _ rfl
       have y4 := rz.thawed 4
       have z5 := rz.cell 5 _ rfl
       have y5 := rz.thawed 5
       have z6 := rz.cell 6 _ rfl
       have y6 := rz.thawed 6
       have z7 := rz.cell 7 _ rfl
       have y7 := rz.thawed 7
       have z8 := rz.cell 8 _ rfl
       have y8 := rz.thawed 8)
    | (go_at_call 15; refine (refVersion _ _).mono ?_; rintro e w2 ⟨rfl, rfl⟩; first | rw [hvv] | rw [hvp]))
  exact bodyPost_ret (v := .tuple #[.agg #[.int .i64 0, .int .i64 0, .int .i64 0, .int .i64 0, .int .u32 0, .int .u32 0, .int .u32 0, .int .u32 0, .string ⟨#[]⟩], .int .i64 20]) (by simp [results, Tryd.results7, go_sem, z0, z1, z2, z3, z4, z5, z6, z7, z8]) rfl ⟨rfl, by first | exact below_fill _ _ _ _ _ _ _ _ _ hB0 (b := w.heap.size) (Nat.le_refl _) | exact hB0⟩
set_option maxRecDepth 100000 in
set_option maxHeartbeats 4000000 in
theorem refDecA2 (s : ByteArray) (hs : s.size ≤ 100000) (b : ByteArray) (hb : openT s = b) (ho : openB s = true) (h2 : 2 ≤ b.size) (h20 : b.size < 20) (h72 : at' b.data.toList 0 ≠ 72) (w : World) : Calls Tryd.prog 7 #[.string s] w fun e w' => e = .returned (.tuple #[.agg #[.int .i64 0, .int .i64 0, .int .i64 0, .int .i64 0, .int .u32 0, .int .u32 0, .int .u32 0, .int .u32 0, .string ⟨#[]⟩], .int .i64 20]) ∧ Below w.heap.size w w' := by
  have h := fun W => refOpen s hs W
  have hbs := openT_size s
  rw [ho] at h
  rw [hb] at h hbs
  clear hb
  have HO := Lib.hid h
  clear h
  have hi0 : 0 < b.size := by omega
  have hi1 : 1 < b.size := by omega
  have hj0 : (0 : Int) < (b.size : Int) := by omega
  have hj1 : (1 : Int) < (b.size : Int) := by omega
  have hd2g : decide (2 ≤ (b.size : Int)) = true := by simp; omega
  have hd20l : decide ((b.size : Int) < 20) = true := by simp; omega
  have hn : ¬ b[0].toNat = 72 := fun hx => by rw [at_zero b hi0] at hx; exact h72 (UInt8.toNat_inj.1 hx)
  have hq : ((b[0].toNat : Int) == 72) = false := by rw [beq_eq_false_iff_ne]; omega
  have hq' : ((b[0].toNat : Int) != 72) = true := by rw [bne_iff_ne]; omega
  clear hn
  clear ho hbs
  clear h72
  go_enter Tryd.func7, Tryd.ntmps7
  have rz := Row.new w #[.int .i64 0, .int .i64 0, .int .i64 0, .int .i64 0, .int .u32 0, .int .u32 0, .int .u32 0, .int .u32 0, .string ⟨#[]⟩] 26
  have hB0 : Below w.heap.size w (w.alloc (.cells #[.int .i64 0, .int .i64 0, .int .i64 0, .int .i64 0, .int .u32 0, .int .u32 0, .int .u32 0, .int .u32 0, .string ⟨#[]⟩] 26)) := (Below.refl _ w).alloc (Nat.le_refl _) _
  go_wp2_with (first
    | (go_at_call 14
       refine (HO.out _).mono ?_
       rintro e w1 ⟨rfl, hb1⟩
       replace hB0 := hB0.trans (hb1.mono hB0.size)
       replace rz := rz.below hb1 rz.lt
       clear hb1
       have z0 := rz.cell 0 _ rfl
       have y0 := rz.thawed 0
       have z1 := rz.cell 1 _ rfl
       have y1 := rz.thawed 1
       have z2 := rz.cell 2 _ rfl
       have y2 := rz.thawed 2
       have z3 := rz.cell 3 _ rfl
       have y3 := rz.thawed 3
       have z4 := rz.cell 4 _ rfl
       have y4 := rz.thawed 4
       have z5 := rz.cell 5 _ rfl
       have y5 := rz.thawed 5
       have z6 := rz.cell 6 _ rfl
       have y6 := rz.thawed 6
       have z7 := rz.cell 7 _ rfl
       have y7 := rz.thawed 7
       have z8 := rz.cell 8 _ rfl
       have y8 := rz.thawed 8)
    | (go_at_call 15; refine (refVersion _ _).mono ?_; rintro e w2 ⟨rfl, rfl⟩; first | rw [hvv] | rw [hvp]))
  exact bodyPost_ret (v := .tuple #[.agg #[.int .i64 0, .int .i64 0, .int .i64 0, .int .i64 0, .int .u32 0, .int .u32 0, .int .u32 0, .int .u32 0, .string ⟨#[]⟩], .int .i64 20]) (by simp [results, Tryd.results7, go_sem, z0, z1, z2, z3, z4, z5, z6, z7, z8]) rfl ⟨rfl, by first | exact below_fill _ _ _ _ _ _ _ _ _ hB0 (b := w.heap.size) (Nat.le_refl _) | exact hB0⟩
set_option maxRecDepth 100000 in
set_option maxHeartbeats 4000000 in
theorem refDecA3 (s : ByteArray) (hs : s.size ≤ 100000) (b : ByteArray) (hb : openT s = b) (ho : openB s = true) (h2 : 2 ≤ b.size) (h20 : b.size < 20) (h72 : at' b.data.toList 0 = 72) (hv : ver ((at' b.data.toList 1).toNat : Int) = true) (w : World) : Calls Tryd.prog 7 #[.string s] w fun e w' => e = .returned (.tuple #[.agg #[.int .i64 0, .int .i64 0, .int .i64 0, .int .i64 0, .int .u32 0, .int .u32 0, .int .u32 0, .int .u32 0, .string ⟨#[]⟩], .int .i64 20]) ∧ Below w.heap.size w w' := by
  have h := fun W => refOpen s hs W
  have hbs := openT_size s
  rw [ho] at h
  rw [hb] at h hbs
  clear hb
  have HO := Lib.hid h
  clear h
  have hi0 : 0 < b.size := by omega
  have hi1 : 1 < b.size := by omega
  have hj0 : (0 : Int) < (b.size : Int) := by omega
  have hj1 : (1 : Int) < (b.size : Int) := by omega
  have hd2g : decide (2 ≤ (b.size : Int)) = true := by simp; omega
  have hd20l : decide ((b.size : Int) < 20) = true := by simp; omega
  have hq : ((b[0].toNat : Int) == 72) = true := by rw [at_zero b hi0, h72]; rfl
  have hq' : ((b[0].toNat : Int) != 72) = false := by rw [at_zero b hi0, h72]; rfl
  have hvp : ver (b[1].toNat : Int) = true := by rw [at_one b hi1]; exact hv
  have hvv : ver (wrap64 (b[1].toNat : Int)) = true := by rw [wrap64_byte]; exact hvp
  clear ho hbs
  clear h72 hv
  go_enter Tryd.func7, Tryd.ntmps7
  have rz := Row.new w #[.int .i64 0, .int .i64 0, .int .i64 0, .int .i64 0, .int .u32 0, .int .u32 0, .int .u32 0, .int .u32 0, .string ⟨#[]⟩] 26
  have hB0 : Below w.heap.size w (w.alloc (.cells #[.int .i64 0, .int .i64 0, .int .i64 0, .int .i64 0, .int .u32 0, .int .u32 0, .int .u32 0, .int .u32 0, .string ⟨#[]⟩] 26)) := (Below.refl _ w).alloc (Nat.le_refl _) _
  go_wp2_with (first
    | (go_at_call 14
       refine (HO.out _).mono ?_
       rintro e w1 ⟨rfl, hb1⟩
       replace hB0 := hB0.trans (hb1.mono hB0.size)
       replace rz := rz.below hb1 rz.lt
       clear hb1
       have z0 := rz.cell 0 _ rfl
       have y0 := rz.thawed 0
       have z1 := rz.cell 1 _ rfl
       have y1 := rz.thawed 1
       have z2 := rz.cell 2 _ rfl
       have y2 := rz.thawed 2
       have z3 := rz.cell 3 _ rfl
       have y3 := rz.thawed 3
       have z4 := rz.cell 4 _ rfl
       have y4 := rz.thawed 4
       have z5 := rz.cell 5 _ rfl
       have y5 := rz.thawed 5
       have z6 := rz.cell 6 _ rfl
       have y6 := rz.thawed 6
       have z7 := rz.cell 7 _ rfl
       have y7 := rz.thawed 7
       have z8 := rz.cell 8 _ rfl
       have y8 := rz.thawed 8)
    | (go_at_call 15; refine (refVersion _ _).mono ?_; rintro e w2 ⟨rfl, rfl⟩; first | rw [hvv] | rw [hvp]))
  exact bodyPost_ret (v := .tuple #[.agg #[.int .i64 0, .int .i64 0, .int .i64 0, .int .i64 0, .int .u32 0, .int .u32 0, .int .u32 0, .int .u32 0, .string ⟨#[]⟩], .int .i64 20]) (by simp [results, Tryd.results7, go_sem, z0, z1, z2, z3, z4, z5, z6, z7, z8]) rfl ⟨rfl, by first | exact below_fill _ _ _ _ _ _ _ _ _ hB0 (b := w.heap.size) (Nat.le_refl _) | exact hB0⟩
set_option maxRecDepth 100000 in
set_option maxHeartbeats 4000000 in
theorem refDecB (s : ByteArray) (hs : s.size ≤ 100000) (b : ByteArray) (hb : openT s = b) (ho : openB s = true) (h20 : 20 ≤ b.size) (h72 : at' b.data.toList 0 ≠ 72) (w : World) : Calls Tryd.prog 7 #[.string s] w fun e w' => e = .returned (.tuple #[.agg #[.int .i64 0, .int .i64 0, .int .i64 0, .int .i64 0, .int .u32 0, .int .u32 0, .int .u32 0, .int .u32 0, .string ⟨#[]⟩], .int .i64 20]) ∧ Below w.heap.size w w' := by
  have h := fun W => refOpen s hs W
  have hbs := openT_size s
  rw [ho] at h
  rw [hb] at h hbs
  clear hb
  have HO := Lib.hid h
  clear h
  have hi0 : 0 < b.size := by omega
  have hi1 : 1 < b.size := by omega
  have hj0 : (0 : Int) < (b.size : Int) := by omega
  have hj1 : (1 : Int) < (b.size : Int) := by omega
  have hd2g : decide (2 ≤ (b.size : Int)) = true := by simp; omega
  have hd20l : decide ((b.size : Int) < 20) = false := by simp; omega
  have hn : ¬ b[0].toNat = 72 := fun hx => by rw [at_zero b hi0] at hx; exact h72 (UInt8.toNat_inj.1 hx)
  have hq : ((b[0].toNat : Int) == 72) = false := by rw [beq_eq_false_iff_ne]; omega
  have hq' : ((b[0].toNat : Int) != 72) = true := by rw [bne_iff_ne]; omega
  clear hn
  clear ho hbs
  clear h72
  go_enter Tryd.func7, Tryd.ntmps7
  have rz := Row.new w #[.int .i64 0, .int .i64 0, .int .i64 0, .int .i64 0, .int .u32 0, .int .u32 0, .int .u32 0, .int .u32 0, .string ⟨#[]⟩] 26
  have hB0 : Below w.heap.size w (w.alloc (.cells #[.int .i64 0, .int .i64 0, .int .i64 0, .int .i64 0, .int .u32 0, .int .u32 0, .int .u32 0, .int .u32 0, .string ⟨#[]⟩] 26)) := (Below.refl _ w).alloc (Nat.le_refl _) _
  go_wp2_with (first
    | (go_at_call 14
       refine (HO.out _).mono ?_
       rintro e w1 ⟨rfl, hb1⟩
       replace hB0 := hB0.trans (hb1.mono hB0.size)
       replace rz := rz.below hb1 rz.lt
       clear hb1
       have z0 := rz.cell 0 _ rfl
       have y0 := rz.thawed 0
       have z1 := rz.cell 1 _ rfl
       have y1 := rz.thawed 1
       have z2 := rz.cell 2 _ rfl
       have y2 := rz.thawed 2
       have z3 := rz.cell 3 _ rfl
       have y3 := rz.thawed 3
       have z4 := rz.cell 4 _ rfl
       have y4 := rz.thawed 4
       have z5 := rz.cell 5 _ rfl
       have y5 := rz.thawed 5
       have z6 := rz.cell 6 _ rfl
       have y6 := rz.thawed 6
       have z7 := rz.cell 7 _ rfl
       have y7 := rz.thawed 7
       have z8 := rz.cell 8 _ rfl
       have y8 := rz.thawed 8)
    | (go_at_call 15; refine (refVersion _ _).mono ?_; rintro e w2 ⟨rfl, rfl⟩; first | rw [hvv] | rw [hvp]))
  exact bodyPost_ret (v := .tuple #[.agg #[.int .i64 0, .int .i64 0, .int .i64 0, .int .i64 0, .int .u32 0, .int .u32 0, .int .u32 0, .int .u32 0, .string ⟨#[]⟩], .int .i64 20]) (by simp [results, Tryd.results7, go_sem, z0, z1, z2, z3, z4, z5, z6, z7, z8]) rfl ⟨rfl, by first | exact below_fill _ _ _ _ _ _ _ _ _ hB0 (b := w.heap.size) (Nat.le_refl _) | exact hB0⟩
set_option maxRecDepth 100000 in
set_option maxHeartbeats 4000000 in
theorem refDecC (s : ByteArray) (hs : s.size ≤ 100000) (b : ByteArray) (hb : openT s = b) (ho : openB s = true) (h20 : 20 ≤ b.size) (h24 : b.size < 24) (h72 : at' b.data.toList 0 = 72) (hv : ver ((at' b.data.toList 1).toNat : Int) = true) (h1 : at' b.data.toList 1 = 2) (w : World) : Calls Tryd.prog 7 #[.string s] w fun e w' => e = .returned (.tuple #[.agg #[.int .i64 0, .int .i64 0, .int .i64 0, .int .i64 0, .int .u32 0, .int .u32 0, .int .u32 0, .int .u32 0, .string ⟨#[]⟩], .int .i64 20]) ∧ Below w.heap.size w w' := by
  have h := fun W => refOpen s hs W
  have hbs := openT_size s
  rw [ho] at h
  rw [hb] at h hbs
  clear hb
  have HO := Lib.hid h
  clear h
  have hi0 : 0 < b.size := by omega
  have hi1 : 1 < b.size := by omega
  have hj0 : (0 : Int) < (b.size : Int) := by omega
  have hj1 : (1 : Int) < (b.size : Int) := by omega
  have hd2g : decide (2 ≤ (b.size : Int)) = true := by simp; omega
  have hd20l : decide ((b.size : Int) < 20) = false := by simp; omega
  have hd24l : decide ((b.size : Int) < 24) = true := by simp; omega
  have hq : ((b[0].toNat : Int) == 72) = true := by rw [at_zero b hi0, h72]; rfl
  have hq' : ((b[0].toNat : Int) != 72) = false := by rw [at_zero b hi0, h72]; rfl
  have hvp : ver (b[1].toNat : Int) = true := by rw [at_one b hi1]; exact hv
  have hvv : ver (wrap64 (b[1].toNat : Int)) = true := by rw [wrap64_byte]; exact hvp
  have hw2 : ((b[1].toNat : Int) == 2) = true := by rw [at_one b hi1, h1]; rfl
  clear ho hbs
  clear h72 hv h1
  go_enter Tryd.func7, Tryd.ntmps7
  have rz := Row.new w #[.int .i64 0, .int .i64 0, .int .i64 0, .int .i64 0, .int .u32 0, .int .u32 0, .int .u32 0, .int .u32 0, .string ⟨#[]⟩] 26
  have hB0 : Below w.heap.size w (w.alloc (.cells #[.int .i64 0, .int .i64 0, .int .i64 0, .int .i64 0, .int .u32 0, .int .u32 0, .int .u32 0, .int .u32 0, .string ⟨#[]⟩] 26)) := (Below.refl _ w).alloc (Nat.le_refl _) _
  go_wp2_with (first
    | (go_at_call 14
       refine (HO.out _).mono ?_
       rintro e w1 ⟨rfl, hb1⟩
       replace hB0 := hB0.trans (hb1.mono hB0.size)
       replace rz := rz.below hb1 rz.lt
       clear hb1
       have z0 := rz.cell 0 _ rfl
       have y0 := rz.thawed 0
       have z1 := rz.cell 1 _ rfl
       have y1 := rz.thawed 1
       have z2 := rz.cell 2 _ rfl
       have y2 := rz.thawed 2
       have z3 := rz.cell 3 _ rfl
       have y3 := rz.thawed 3
       have z4 := rz.cell 4 _ rfl
       have y4 := rz.thawed 4
       have z5 := rz.cell 5 _ rfl
       have y5 := rz.thawed 5
       have z6 := rz.cell 6 _ rfl
       have y6 := rz.thawed 6
       have z7 := rz.cell 7 _ rfl
       have y7 := rz.thawed 7
       have z8 := rz.cell 8 _ rfl
       have y8 := rz.thawed 8)
    | (go_at_call 15; refine (refVersion _ _).mono ?_; rintro e w2 ⟨rfl, rfl⟩; first | rw [hvv] | rw [hvp]))
  exact bodyPost_ret (v := .tuple #[.agg #[.int .i64 0, .int .i64 0, .int .i64 0, .int .i64 0, .int .u32 0, .int .u32 0, .int .u32 0, .int .u32 0, .string ⟨#[]⟩], .int .i64 20]) (by simp [results, Tryd.results7, go_sem, z0, z1, z2, z3, z4, z5, z6, z7, z8]) rfl ⟨rfl, by first | exact below_fill _ _ _ _ _ _ _ _ _ hB0 (b := w.heap.size) (Nat.le_refl _) | exact hB0⟩
end Go.Proofs.YtphfnlgjiomjkaaDoor
