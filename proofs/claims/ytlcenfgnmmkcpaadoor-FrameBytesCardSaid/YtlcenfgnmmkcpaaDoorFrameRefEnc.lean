/-
  The document's bytes of a frame, walked.
-/
import Derived.Test.YtlcenfgnmmkcpaaDoorFrameRef
import Derived.Test.YtlcenfgnmmkcpaaDoorFrameBackMath
import Derived.Deep.DeepCutAuto
import Derived.Deep.RegionHeld3
namespace Go.Proofs.YtlcenfgnmmkcpaaDoor
open Go.RowKit Go.Shelf
attribute [local go_sem] Oper.semAt_some
set_option linter.unusedVariables false
set_option linter.unusedSimpArgs false

/-- A frame's first four bytes. -/
def first4 (f : Fr) : ByteArray := ⟨#[72, UInt8.ofNat f.wire.toNat, UInt8.ofNat f.kind.toNat, UInt8.ofNat (16 * f.src + f.dst).toNat]⟩
theorem first4_list (f : Fr) : (first4 f).data.toList = [72, UInt8.ofNat f.wire.toNat, UInt8.ofNat f.kind.toNat, UInt8.ofNat (16 * f.src + f.dst).toNat] := rfl
theorem byte_int (n : Int) (h0 : 0 ≤ n) (h1 : n < 256) : ((UInt8.ofNat n.toNat).toNat : Int) = n % 256 := by
  rw [byte_lt _ (by omega)]; omega
theorem run_first4 (f : Fr) (hr : f.Right) (w : World) :
    (convert 42 9 (.slice (some ⟨w.heap.size, 0, none⟩) 4 4)).run Tryd.prog (w.alloc (.cells #[.int .u8 72, .int .u8 (f.wire % 256), .int .u8 (f.kind % 256), .int .u8 (wrap64 (wrap64 (16 * f.src) + f.dst) % 256)] 5)) = .ok (.string (first4 f)) (w.alloc (.cells #[.int .u8 72, .int .u8 (f.wire % 256), .int .u8 (f.kind % 256), .int .u8 (wrap64 (wrap64 (16 * f.src) + f.dst) % 256)] 5)) := by
  obtain ⟨h1, h2, h3, h4, h5, h6⟩ := hr
  have b1 := byte_int f.wire (by omega) (by omega)
  have b2 := byte_int f.kind (by omega) (by omega)
  have b3 := byte_int (16 * f.src + f.dst) (by omega) (by omega)
  have b4 : wrap64 (wrap64 (16 * f.src) + f.dst) = 16 * f.src + f.dst := by unfold wrap64; omega
  rw [b4, ← b1, ← b2, ← b3]
  refine (run_text _ w.heap.size 0 4 [72, UInt8.ofNat f.wire.toNat, UInt8.ofNat f.kind.toNat, UInt8.ofNat (16 * f.src + f.dst).toNat] ?_).trans rfl
  intro j hj
  have : j = 0 ∨ j = 1 ∨ j = 2 ∨ j = 3 := by simp at hj; omega
  rcases this with rfl | rfl | rfl | rfl <;> simp
theorem enc_body1 (f : Fr) (hr : f.Right) (hw : f.wire = 1) : (first4 f ++ txt (CrcM.put f.life) ++ txt (CrcM.put f.seq) ++ txt (CrcM.put f.ack) ++ txt (CrcM.put (BitVec.ofNat 32 f.data.size)) ++ f.data).data.toList = f.body := by
  simp only [ByteArray.data_append, Array.toList_append, txt_toList, first4_list, Fr.body, Fr.head, if_pos hw, List.nil_append, List.append_assoc]
theorem enc_body2 (f : Fr) (hr : f.Right) (hw : f.wire = 2) : (first4 f ++ txt (CrcM.put f.life) ++ txt (CrcM.put f.seq) ++ txt (CrcM.put f.ack) ++ txt (CrcM.put f.hint) ++ txt (CrcM.put (BitVec.ofNat 32 f.data.size)) ++ f.data).data.toList = f.body := by
  simp only [ByteArray.data_append, Array.toList_append, txt_toList, first4_list, Fr.body, Fr.head, if_neg (show ¬ f.wire = 1 by omega), List.append_assoc]
set_option maxRecDepth 100000 in
set_option maxHeartbeats 4000000 in
theorem refEncodeOne (f : Fr) (hr : f.Right) (hw : f.wire = 1) (w : World) : Calls Tryd.prog 12 #[f.val] w fun e w' => e = .returned (.tuple #[.string (txt (CrcM.withSum f.body)), .int .i64 0]) ∧ Below w.heap.size w w' := by
  have HR := Lib.hid (fun W => by have h := refRight f W; rw [decide_eq_true hr] at h; exact h : ∀ W : World, Calls Tryd.prog 14 #[.agg #[.int .i64 f.wire, .int .i64 f.kind, .int .i64 f.src, .int .i64 f.dst, .int .u32 (f.life.toNat : Int), .int .u32 (f.seq.toNat : Int), .int .u32 (f.ack.toNat : Int), .int .u32 (f.hint.toNat : Int), .string f.data]] W fun e w' => e = .returned (.bool true) ∧ Below W.heap.size W w')
  have z1 : (txt (CrcM.put f.life)).size = 4 := by rw [txt_size, CrcM.put_length]
  have z2 : (txt (CrcM.put f.seq)).size = 4 := by rw [txt_size, CrcM.put_length]
  have z3 : (txt (CrcM.put f.ack)).size = 4 := by rw [txt_size, CrcM.put_length]
  have z4 : (txt (CrcM.put f.hint)).size = 4 := by rw [txt_size, CrcM.put_length]
  have z5 : (txt (CrcM.put (BitVec.ofNat 32 f.data.size))).size = 4 := by rw [txt_size, CrcM.put_length]
  have zd := hr.2.2.2.2.1
  have hbody : (first4 f ++ txt (CrcM.put f.life) ++ txt (CrcM.put f.seq) ++ txt (CrcM.put f.ack) ++ txt (CrcM.put (BitVec.ofNat 32 f.data.size)) ++ f.data).data.toList = f.body := enc_body1 f hr hw
  have hH : (first4 f).size = 4 := rfl
  have hrun := fun W => run_first4 f hr W
  have hsz : IntKind.u32.wrap (f.data.size : Int) = ((BitVec.ofNat 32 f.data.size).toNat : Int) := by rw [ofNat_toNat _ (by omega), IntKind.wrap_u32]; omega

  have hwire : (f.wire == 2) = false := by rw [hw]; rfl
  generalize first4 f = H at *
  generalize BitVec.ofNat 32 f.data.size = Z at *
  have hX : (H ++ (txt (CrcM.put f.life)) ++ (txt (CrcM.put f.seq)) ++ (txt (CrcM.put f.ack)) ++ (txt (CrcM.put (Z))) ++ f.data).size ≤ 100000 := by simp only [ByteArray.size_append]; omega
  have hs := fun W => refSeal (H ++ (txt (CrcM.put f.life)) ++ (txt (CrcM.put f.seq)) ++ (txt (CrcM.put f.ack)) ++ (txt (CrcM.put (Z))) ++ f.data) hX W
  rw [hbody] at hs
  have s1 : ¬ 9223372036854775807 < H.size + (txt (CrcM.put f.life)).size := by omega
  have s2 : ¬ 9223372036854775807 < (H ++ (txt (CrcM.put f.life))).size + (txt (CrcM.put f.seq)).size := by simp only [ByteArray.size_append]; omega
  have s3 : ¬ 9223372036854775807 < (H ++ (txt (CrcM.put f.life)) ++ (txt (CrcM.put f.seq))).size + (txt (CrcM.put f.ack)).size := by simp only [ByteArray.size_append]; omega
  have s4 : ¬ 9223372036854775807 < (H ++ (txt (CrcM.put f.life)) ++ (txt (CrcM.put f.seq)) ++ (txt (CrcM.put f.ack))).size + (txt (CrcM.put f.hint)).size := by simp only [ByteArray.size_append]; omega
  have s5 : ¬ 9223372036854775807 < (H ++ (txt (CrcM.put f.life)) ++ (txt (CrcM.put f.seq)) ++ (txt (CrcM.put f.ack))).size + (txt (CrcM.put (Z))).size := by simp only [ByteArray.size_append]; omega
  have s6 : ¬ 9223372036854775807 < (H ++ (txt (CrcM.put f.life)) ++ (txt (CrcM.put f.seq)) ++ (txt (CrcM.put f.ack)) ++ (txt (CrcM.put (Z)))).size + f.data.size := by simp only [ByteArray.size_append]; omega
  generalize txt (CrcM.withSum f.body) = R at *
  have HS := Lib.hid hs
  have HPZ := Lib.hid (fun W => by have h := refPut Z W; rw [← hsz] at h; exact h : ∀ W : World, Calls Tryd.prog 29 #[.int .u32 (IntKind.u32.wrap (f.data.size : Int))] W fun e w' => e = .returned (.string (txt (CrcM.put Z))) ∧ Below W.heap.size W w')
  clear hsz hs hbody hX z1 z2 z3 z4 z5 zd hr hw hH
  simp only [ByteArray.size_append] at s2 s3 s4 s5 s6
  go_enter Tryd.func12, Tryd.ntmps12
  unfold Fr.val Fr.cells
  have rf := Row.new w #[.int .i64 f.wire, .int .i64 f.kind, .int .i64 f.src, .int .i64 f.dst, .int .u32 (f.life.toNat : Int), .int .u32 (f.seq.toNat : Int), .int .u32 (f.ack.toNat : Int), .int .u32 (f.hint.toNat : Int), .string f.data] 24
  have hB0 : Below w.heap.size w (w.alloc (.cells #[.int .i64 f.wire, .int .i64 f.kind, .int .i64 f.src, .int .i64 f.dst, .int .u32 (f.life.toNat : Int), .int .u32 (f.seq.toNat : Int), .int .u32 (f.ack.toNat : Int), .int .u32 (f.hint.toNat : Int), .string f.data] 24)) := (Below.refl _ w).alloc (Nat.le_refl _) _
  go_upto_region 5 with (first
    | (go_at_call 14
       refine (HR.out _).mono ?_
       rintro e w1 ⟨rfl, hb1⟩
       replace hB0 := hB0.trans (hb1.mono hB0.size)
       replace rf := rf.below hb1 rf.lt
       clear hb1
       have f0 := rf.cell 0 _ rfl
       have g0 := rf.thawed 0
       have f1 := rf.cell 1 _ rfl
       have g1 := rf.thawed 1
       have f2 := rf.cell 2 _ rfl
       have g2 := rf.thawed 2
       have f3 := rf.cell 3 _ rfl
       have g3 := rf.thawed 3
       have f4 := rf.cell 4 _ rfl
       have g4 := rf.thawed 4
       have f5 := rf.cell 5 _ rfl
       have g5 := rf.thawed 5
       have f6 := rf.cell 6 _ rfl
       have g6 := rf.thawed 6
       have f7 := rf.cell 7 _ rfl
       have g7 := rf.thawed 7
       have f8 := rf.cell 8 _ rfl
       have g8 := rf.thawed 8))
  have hz := rf.lt
  replace hB0 := (hB0.alloc hB0.size (.cells #[.int .u8 72, .int .u8 (f.wire % 256), .int .u8 (f.kind % 256), .int .u8 (wrap64 (wrap64 (16 * f.src) + f.dst) % 256)] 5)).drew
  replace rf := (rf.alloc (.cells #[.int .u8 72, .int .u8 (f.wire % 256), .int .u8 (f.kind % 256), .int .u8 (wrap64 (wrap64 (16 * f.src) + f.dst) % 256)] 5)).drew
  have hz' := rf.lt
  clear f0 f1 f2 f3 f4 f5 f6 f7 f8 g0 g1 g2 g3 g4 g5 g6 g7 g8
  have f0 := rf.cell 0 _ rfl
  have g0 := rf.thawed 0
  have f1 := rf.cell 1 _ rfl
  have g1 := rf.thawed 1
  have f2 := rf.cell 2 _ rfl
  have g2 := rf.thawed 2
  have f3 := rf.cell 3 _ rfl
  have g3 := rf.thawed 3
  have f4 := rf.cell 4 _ rfl
  have g4 := rf.thawed 4
  have f5 := rf.cell 5 _ rfl
  have g5 := rf.thawed 5
  have f6 := rf.cell 6 _ rfl
  have g6 := rf.thawed 6
  have f7 := rf.cell 7 _ rfl
  have g7 := rf.thawed 7
  have f8 := rf.cell 8 _ rfl
  have g8 := rf.thawed 8
  go_cut [5] (fun s5 wx => s5 = .string (H ++ (txt (CrcM.put f.life)) ++ (txt (CrcM.put f.seq)) ++ (txt (CrcM.put f.ack))) ∧ Below w.heap.size w wx ∧ Row wx w.heap.size #[.int .i64 f.wire, .int .i64 f.kind, .int .i64 f.src, .int .i64 f.dst, .int .u32 (f.life.toNat : Int), .int .u32 (f.seq.toNat : Int), .int .u32 (f.ack.toNat : Int), .int .u32 (f.hint.toNat : Int), .string f.data] 24)
  case first =>
    go_region_held3 (fun W => W.cell? ⟨w.heap.size, 4, none⟩ = some (.int .u32 (f.life.toNat : Int)) ∧ W.cell? ⟨w.heap.size, 5, none⟩ = some (.int .u32 (f.seq.toNat : Int)) ∧ W.cell? ⟨w.heap.size, 6, none⟩ = some (.int .u32 (f.ack.toNat : Int))) (first | exact ⟨rf.cell 4 _ rfl, rf.cell 5 _ rfl, rf.cell 6 _ rfl⟩ | go_keep) ((go_at_call 29; refine (refPut _ _).mono ?_; rintro e wp ⟨rfl, hbp⟩; replace hB0 := hB0.trans (hbp.mono hB0.size); replace rf := rf.below hbp rf.lt; clear hbp))
    all_goals (go_wp2_with fail; go_meet; exact ⟨rfl, hB0, rf⟩)
  case rest =>
    obtain ⟨rfl, hBc, rc⟩ := hcut
    clear hB0 rf f0 f1 f2 f3 f4 f5 f6 f7 f8 g0 g1 g2 g3 g4 g5 g6 g7 g8
    have f0 := rc.cell 0 _ rfl
    have g0 := rc.thawed 0
    have f1 := rc.cell 1 _ rfl
    have g1 := rc.thawed 1
    have f2 := rc.cell 2 _ rfl
    have g2 := rc.thawed 2
    have f3 := rc.cell 3 _ rfl
    have g3 := rc.thawed 3
    have f4 := rc.cell 4 _ rfl
    have g4 := rc.thawed 4
    have f5 := rc.cell 5 _ rfl
    have g5 := rc.thawed 5
    have f6 := rc.cell 6 _ rfl
    have g6 := rc.thawed 6
    have f7 := rc.cell 7 _ rfl
    have g7 := rc.thawed 7
    have f8 := rc.cell 8 _ rfl
    have g8 := rc.thawed 8
    go_upto_region 8 with (go_at_call 29; refine (refPut _ _).mono ?_; rintro e wp ⟨rfl, hbp⟩; replace hBc := hBc.trans (hbp.mono hBc.size); replace rc := rc.below hbp rc.lt; clear hbp)
    replace hBc := hBc.drew
    replace rc := rc.drew
    clear f0 f1 f2 f3 f4 f5 f6 f7 f8 g0 g1 g2 g3 g4 g5 g6 g7 g8
    have f0 := rc.cell 0 _ rfl
    have g0 := rc.thawed 0
    have f1 := rc.cell 1 _ rfl
    have g1 := rc.thawed 1
    have f2 := rc.cell 2 _ rfl
    have g2 := rc.thawed 2
    have f3 := rc.cell 3 _ rfl
    have g3 := rc.thawed 3
    have f4 := rc.cell 4 _ rfl
    have g4 := rc.thawed 4
    have f5 := rc.cell 5 _ rfl
    have g5 := rc.thawed 5
    have f6 := rc.cell 6 _ rfl
    have g6 := rc.thawed 6
    have f7 := rc.cell 7 _ rfl
    have g7 := rc.thawed 7
    have f8 := rc.cell 8 _ rfl
    have g8 := rc.thawed 8
    go_region_held3 (fun W => W.cell? ⟨w.heap.size, 8, none⟩ = some (.string f.data)) (first | exact rc.cell 8 _ rfl | go_keep) (first
      | (go_at_call 29; refine (HPZ.out _).mono ?_; rintro e wp ⟨rfl, hbp⟩; replace hBc := hBc.trans (hbp.mono hBc.size); replace rc := rc.below hbp rc.lt; clear hbp)
      | (go_at_call 15; refine (HS.out _).mono ?_; rintro e wq ⟨rfl, hbq⟩; replace hBc := hBc.trans (hbq.mono hBc.size); replace rc := rc.below hbq rc.lt; clear hbq))
    all_goals (go_wp2; go_ret2; exact ⟨rfl, hBc⟩)
set_option maxRecDepth 100000 in
set_option maxHeartbeats 4000000 in
theorem refEncodeTwo (f : Fr) (hr : f.Right) (hw : f.wire = 2) (w : World) : Calls Tryd.prog 12 #[f.val] w fun e w' => e = .returned (.tuple #[.string (txt (CrcM.withSum f.body)), .int .i64 0]) ∧ Below w.heap.size w w' := by
  have HR := Lib.hid (fun W => by have h := refRight f W; rw [decide_eq_true hr] at h; exact h : ∀ W : World, Calls Tryd.prog 14 #[.agg #[.int .i64 f.wire, .int .i64 f.kind, .int .i64 f.src, .int .i64 f.dst, .int .u32 (f.life.toNat : Int), .int .u32 (f.seq.toNat : Int), .int .u32 (f.ack.toNat : Int), .int .u32 (f.hint.toNat : Int), .string f.data]] W fun e w' => e = .returned (.bool true) ∧ Below W.heap.size W w')
  have z1 : (txt (CrcM.put f.life)).size = 4 := by rw [txt_size, CrcM.put_length]
  have z2 : (txt (CrcM.put f.seq)).size = 4 := by rw [txt_size, CrcM.put_length]
  have z3 : (txt (CrcM.put f.ack)).size = 4 := by rw [txt_size, CrcM.put_length]
  have z4 : (txt (CrcM.put f.hint)).size = 4 := by rw [txt_size, CrcM.put_length]
  have z5 : (txt (CrcM.put (BitVec.ofNat 32 f.data.size))).size = 4 := by rw [txt_size, CrcM.put_length]
  have zd := hr.2.2.2.2.1
  have hbody : (first4 f ++ txt (CrcM.put f.life) ++ txt (CrcM.put f.seq) ++ txt (CrcM.put f.ack) ++ txt (CrcM.put f.hint) ++ txt (CrcM.put (BitVec.ofNat 32 f.data.size)) ++ f.data).data.toList = f.body := enc_body2 f hr hw
  have hH : (first4 f).size = 4 := rfl
  have hrun := fun W => run_first4 f hr W
  have hsz : IntKind.u32.wrap (f.data.size : Int) = ((BitVec.ofNat 32 f.data.size).toNat : Int) := by rw [ofNat_toNat _ (by omega), IntKind.wrap_u32]; omega

  have hwire : (f.wire == 2) = true := by rw [hw]; rfl
  generalize first4 f = H at *
  generalize BitVec.ofNat 32 f.data.size = Z at *
  have hX : (H ++ (txt (CrcM.put f.life)) ++ (txt (CrcM.put f.seq)) ++ (txt (CrcM.put f.ack)) ++ (txt (CrcM.put f.hint)) ++ (txt (CrcM.put (Z))) ++ f.data).size ≤ 100000 := by simp only [ByteArray.size_append]; omega
  have hs := fun W => refSeal (H ++ (txt (CrcM.put f.life)) ++ (txt (CrcM.put f.seq)) ++ (txt (CrcM.put f.ack)) ++ (txt (CrcM.put f.hint)) ++ (txt (CrcM.put (Z))) ++ f.data) hX W
  rw [hbody] at hs
  have s1 : ¬ 9223372036854775807 < H.size + (txt (CrcM.put f.life)).size := by omega
  have s2 : ¬ 9223372036854775807 < (H ++ (txt (CrcM.put f.life))).size + (txt (CrcM.put f.seq)).size := by simp only [ByteArray.size_append]; omega
  have s3 : ¬ 9223372036854775807 < (H ++ (txt (CrcM.put f.life)) ++ (txt (CrcM.put f.seq))).size + (txt (CrcM.put f.ack)).size := by simp only [ByteArray.size_append]; omega
  have s4 : ¬ 9223372036854775807 < (H ++ (txt (CrcM.put f.life)) ++ (txt (CrcM.put f.seq)) ++ (txt (CrcM.put f.ack))).size + (txt (CrcM.put f.hint)).size := by simp only [ByteArray.size_append]; omega
  have s5 : ¬ 9223372036854775807 < (H ++ (txt (CrcM.put f.life)) ++ (txt (CrcM.put f.seq)) ++ (txt (CrcM.put f.ack)) ++ (txt (CrcM.put f.hint))).size + (txt (CrcM.put (Z))).size := by simp only [ByteArray.size_append]; omega
  have s6 : ¬ 9223372036854775807 < (H ++ (txt (CrcM.put f.life)) ++ (txt (CrcM.put f.seq)) ++ (txt (CrcM.put f.ack)) ++ (txt (CrcM.put f.hint)) ++ (txt (CrcM.put (Z)))).size + f.data.size := by simp only [ByteArray.size_append]; omega
  generalize txt (CrcM.withSum f.body) = R at *
  have HS := Lib.hid hs
  have HPZ := Lib.hid (fun W => by have h := refPut Z W; rw [← hsz] at h; exact h : ∀ W : World, Calls Tryd.prog 29 #[.int .u32 (IntKind.u32.wrap (f.data.size : Int))] W fun e w' => e = .returned (.string (txt (CrcM.put Z))) ∧ Below W.heap.size W w')
  clear hsz hs hbody hX z1 z2 z3 z4 z5 zd hr hw hH
  simp only [ByteArray.size_append] at s2 s3 s4 s5 s6
  go_enter Tryd.func12, Tryd.ntmps12
  unfold Fr.val Fr.cells
  have rf := Row.new w #[.int .i64 f.wire, .int .i64 f.kind, .int .i64 f.src, .int .i64 f.dst, .int .u32 (f.life.toNat : Int), .int .u32 (f.seq.toNat : Int), .int .u32 (f.ack.toNat : Int), .int .u32 (f.hint.toNat : Int), .string f.data] 24
  have hB0 : Below w.heap.size w (w.alloc (.cells #[.int .i64 f.wire, .int .i64 f.kind, .int .i64 f.src, .int .i64 f.dst, .int .u32 (f.life.toNat : Int), .int .u32 (f.seq.toNat : Int), .int .u32 (f.ack.toNat : Int), .int .u32 (f.hint.toNat : Int), .string f.data] 24)) := (Below.refl _ w).alloc (Nat.le_refl _) _
  go_upto_region 5 with (first
    | (go_at_call 14
       refine (HR.out _).mono ?_
       rintro e w1 ⟨rfl, hb1⟩
       replace hB0 := hB0.trans (hb1.mono hB0.size)
       replace rf := rf.below hb1 rf.lt
       clear hb1
       have f0 := rf.cell 0 _ rfl
       have g0 := rf.thawed 0
       have f1 := rf.cell 1 _ rfl
       have g1 := rf.thawed 1
       have f2 := rf.cell 2 _ rfl
       have g2 := rf.thawed 2
       have f3 := rf.cell 3 _ rfl
       have g3 := rf.thawed 3
       have f4 := rf.cell 4 _ rfl
       have g4 := rf.thawed 4
       have f5 := rf.cell 5 _ rfl
       have g5 := rf.thawed 5
       have f6 := rf.cell 6 _ rfl
       have g6 := rf.thawed 6
       have f7 := rf.cell 7 _ rfl
       have g7 := rf.thawed 7
       have f8 := rf.cell 8 _ rfl
       have g8 := rf.thawed 8))
  have hz := rf.lt
  replace hB0 := (hB0.alloc hB0.size (.cells #[.int .u8 72, .int .u8 (f.wire % 256), .int .u8 (f.kind % 256), .int .u8 (wrap64 (wrap64 (16 * f.src) + f.dst) % 256)] 5)).drew
  replace rf := (rf.alloc (.cells #[.int .u8 72, .int .u8 (f.wire % 256), .int .u8 (f.kind % 256), .int .u8 (wrap64 (wrap64 (16 * f.src) + f.dst) % 256)] 5)).drew
  have hz' := rf.lt
  clear f0 f1 f2 f3 f4 f5 f6 f7 f8 g0 g1 g2 g3 g4 g5 g6 g7 g8
  have f0 := rf.cell 0 _ rfl
  have g0 := rf.thawed 0
  have f1 := rf.cell 1 _ rfl
  have g1 := rf.thawed 1
  have f2 := rf.cell 2 _ rfl
  have g2 := rf.thawed 2
  have f3 := rf.cell 3 _ rfl
  have g3 := rf.thawed 3
  have f4 := rf.cell 4 _ rfl
  have g4 := rf.thawed 4
  have f5 := rf.cell 5 _ rfl
  have g5 := rf.thawed 5
  have f6 := rf.cell 6 _ rfl
  have g6 := rf.thawed 6
  have f7 := rf.cell 7 _ rfl
  have g7 := rf.thawed 7
  have f8 := rf.cell 8 _ rfl
  have g8 := rf.thawed 8
  go_cut [5] (fun s5 wx => s5 = .string (H ++ (txt (CrcM.put f.life)) ++ (txt (CrcM.put f.seq)) ++ (txt (CrcM.put f.ack))) ∧ Below w.heap.size w wx ∧ Row wx w.heap.size #[.int .i64 f.wire, .int .i64 f.kind, .int .i64 f.src, .int .i64 f.dst, .int .u32 (f.life.toNat : Int), .int .u32 (f.seq.toNat : Int), .int .u32 (f.ack.toNat : Int), .int .u32 (f.hint.toNat : Int), .string f.data] 24)
  case first =>
    go_region_held3 (fun W => W.cell? ⟨w.heap.size, 4, none⟩ = some (.int .u32 (f.life.toNat : Int)) ∧ W.cell? ⟨w.heap.size, 5, none⟩ = some (.int .u32 (f.seq.toNat : Int)) ∧ W.cell? ⟨w.heap.size, 6, none⟩ = some (.int .u32 (f.ack.toNat : Int))) (first | exact ⟨rf.cell 4 _ rfl, rf.cell 5 _ rfl, rf.cell 6 _ rfl⟩ | go_keep) ((go_at_call 29; refine (refPut _ _).mono ?_; rintro e wp ⟨rfl, hbp⟩; replace hB0 := hB0.trans (hbp.mono hB0.size); replace rf := rf.below hbp rf.lt; clear hbp))
    all_goals (go_wp2_with fail; go_meet; exact ⟨rfl, hB0, rf⟩)
  case rest =>
    obtain ⟨rfl, hBc, rc⟩ := hcut
    clear hB0 rf f0 f1 f2 f3 f4 f5 f6 f7 f8 g0 g1 g2 g3 g4 g5 g6 g7 g8
    have f0 := rc.cell 0 _ rfl
    have g0 := rc.thawed 0
    have f1 := rc.cell 1 _ rfl
    have g1 := rc.thawed 1
    have f2 := rc.cell 2 _ rfl
    have g2 := rc.thawed 2
    have f3 := rc.cell 3 _ rfl
    have g3 := rc.thawed 3
    have f4 := rc.cell 4 _ rfl
    have g4 := rc.thawed 4
    have f5 := rc.cell 5 _ rfl
    have g5 := rc.thawed 5
    have f6 := rc.cell 6 _ rfl
    have g6 := rc.thawed 6
    have f7 := rc.cell 7 _ rfl
    have g7 := rc.thawed 7
    have f8 := rc.cell 8 _ rfl
    have g8 := rc.thawed 8
    go_upto_region 8 with (go_at_call 29; refine (refPut _ _).mono ?_; rintro e wp ⟨rfl, hbp⟩; replace hBc := hBc.trans (hbp.mono hBc.size); replace rc := rc.below hbp rc.lt; clear hbp)
    replace hBc := hBc.drew
    replace rc := rc.drew
    clear f0 f1 f2 f3 f4 f5 f6 f7 f8 g0 g1 g2 g3 g4 g5 g6 g7 g8
    have f0 := rc.cell 0 _ rfl
    have g0 := rc.thawed 0
    have f1 := rc.cell 1 _ rfl
    have g1 := rc.thawed 1
    have f2 := rc.cell 2 _ rfl
    have g2 := rc.thawed 2
    have f3 := rc.cell 3 _ rfl
    have g3 := rc.thawed 3
    have f4 := rc.cell 4 _ rfl
    have g4 := rc.thawed 4
    have f5 := rc.cell 5 _ rfl
    have g5 := rc.thawed 5
    have f6 := rc.cell 6 _ rfl
    have g6 := rc.thawed 6
    have f7 := rc.cell 7 _ rfl
    have g7 := rc.thawed 7
    have f8 := rc.cell 8 _ rfl
    have g8 := rc.thawed 8
    go_region_held3 (fun W => W.cell? ⟨w.heap.size, 8, none⟩ = some (.string f.data)) (first | exact rc.cell 8 _ rfl | go_keep) (first
      | (go_at_call 29; refine (HPZ.out _).mono ?_; rintro e wp ⟨rfl, hbp⟩; replace hBc := hBc.trans (hbp.mono hBc.size); replace rc := rc.below hbp rc.lt; clear hbp)
      | (go_at_call 15; refine (HS.out _).mono ?_; rintro e wq ⟨rfl, hbq⟩; replace hBc := hBc.trans (hbq.mono hBc.size); replace rc := rc.below hbq rc.lt; clear hbq))
    all_goals (go_wp2; go_ret2; exact ⟨rfl, hBc⟩)
set_option maxRecDepth 100000 in
theorem refEncodeNo (f : Fr) (hr : ¬ f.Right) (w : World) : Calls Tryd.prog 12 #[f.val] w fun e w' => e = .returned (.tuple #[.string ⟨#[]⟩, .int .i64 20]) ∧ Below w.heap.size w w' := by
  have HR := Lib.hid (fun W => by have h := refRight f W; rw [decide_eq_false hr] at h; exact h : ∀ W : World, Calls Tryd.prog 14 #[.agg #[.int .i64 f.wire, .int .i64 f.kind, .int .i64 f.src, .int .i64 f.dst, .int .u32 (f.life.toNat : Int), .int .u32 (f.seq.toNat : Int), .int .u32 (f.ack.toNat : Int), .int .u32 (f.hint.toNat : Int), .string f.data]] W fun e w' => e = .returned (.bool false) ∧ Below W.heap.size W w')
  go_enter Tryd.func12, Tryd.ntmps12
  unfold Fr.val Fr.cells
  have hB0 : Below w.heap.size w (w.alloc (.cells #[.int .i64 f.wire, .int .i64 f.kind, .int .i64 f.src, .int .i64 f.dst, .int .u32 (f.life.toNat : Int), .int .u32 (f.seq.toNat : Int), .int .u32 (f.ack.toNat : Int), .int .u32 (f.hint.toNat : Int), .string f.data] 24)) := (Below.refl _ w).alloc (Nat.le_refl _) _
  go_wp2_with (go_at_call 14; refine (HR.out _).mono ?_; rintro e w1 ⟨rfl, hb1⟩)
  go_ret2
  exact ⟨rfl, hB0.trans (hb1.mono hB0.size)⟩
def encodeF (f : Fr) : ByteArray × Int := if f.Right then (txt (CrcM.withSum f.body), 0) else (⟨#[]⟩, 20)
theorem refEncode (f : Fr) (w : World) : Calls Tryd.prog 12 #[f.val] w fun e w' => e = .returned (.tuple #[.string (encodeF f).1, .int .i64 (encodeF f).2]) ∧ Below w.heap.size w w' := by
  by_cases hr : f.Right
  · rw [encodeF, if_pos hr]
    rcases hr.1 with h | h
    · exact refEncodeOne f hr h w
    · exact refEncodeTwo f hr h w
  · rw [encodeF, if_neg hr]
    exact refEncodeNo f hr w
theorem frameEncode (f : Fr) (hs : f.data.size ≤ maxLen) (w : World) : Calls Tryd.prog 11 #[f.val] w fun e w' => e = .returned (.tuple #[.string (encodeF f).1, .int .i64 (encodeF f).2]) ∧ Below w.heap.size w w' := by
  by_cases hr : f.Right
  · rw [encodeF, if_pos hr]; exact frameEncodeYes f hr w
  · rw [encodeF, if_neg hr]; exact frameEncodeNo f hr hs w
end Go.Proofs.YtlcenfgnmmkcpaaDoor
