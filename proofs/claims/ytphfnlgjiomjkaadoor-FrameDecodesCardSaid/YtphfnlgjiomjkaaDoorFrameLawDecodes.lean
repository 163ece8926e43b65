/-
  The document's frame of bytes; the law of the frame of bytes, held against it: walked.
-/
import Derived.Test.YtphfnlgjiomjkaaDoorFrameRefDec2
namespace Go.Proofs.YtphfnlgjiomjkaaDoor
open Go.RowKit Go.Shelf
attribute [local go_sem] Oper.semAt_some
set_option linter.unusedVariables false
set_option linter.unusedSimpArgs false
open Bytes

theorem nil_val : Fr.nil.val = (.agg #[.int .i64 0, .int .i64 0, .int .i64 0, .int .i64 0, .int .u32 0, .int .u32 0, .int .u32 0, .int .u32 0, .string ⟨#[]⟩]) := rfl
theorem refDecode (s : ByteArray) (hs : s.size ≤ 100000) (w : World) : Calls Tryd.prog 7 #[.string s] w fun e w' => e = .returned (.tuple #[(decF s).1.val, .int .i64 (decF s).2]) ∧ Below w.heap.size w w' := by
  cases ho : openB s with
  | false => rw [decF, if_pos ho]; exact refDecSum s hs ho w
  | true =>
    rw [decF, if_neg (by rw [ho]; decide)]
    obtain ⟨b, hb⟩ : ∃ b, openT s = b := ⟨_, rfl⟩
    rw [hb]
    have hl : b.data.toList.length = b.size := by simp
    cases hold : old b.data.toList with
    | true =>
      rw [if_pos rfl]
      rw [old] at hold
      simp only [Bool.and_eq_true, decide_eq_true_eq, beq_iff_eq, Bool.not_eq_true', known, hl] at hold
      exact refDecOld s hs b hb ho hold.1.1 hold.1.2 hold.2 w
    | false =>
      rw [if_neg (by decide)]
      have hbad : good b.data.toList = false → (if good b.data.toList = true then (fr b.data.toList, (0 : Int)) else (Fr.nil, 20)) = (Fr.nil, 20) := fun h => by rw [h]; rfl
      have hgl : good b.data.toList = true → 20 ≤ b.size ∧ at' b.data.toList 0 = 72 ∧ Bytes.ahead b.data.toList ≤ b.size := fun h => by
        rw [good, long] at h
        simp only [Bool.and_eq_true, decide_eq_true_eq, beq_iff_eq, hl] at h
        have ha : 20 ≤ Bytes.ahead b.data.toList := by rw [Bytes.ahead]; split <;> omega
        exact ⟨by omega, h.1.1.1.1.2, h.1.1.2⟩
      by_cases h2 : b.size < 2
      · rw [hbad (by cases hg : good b.data.toList with | false => rfl | true => have := hgl hg; omega)]
        exact refDecA1 s hs b hb ho h2 w
      · by_cases h72 : at' b.data.toList 0 = 72
        · have hv : ver ((at' b.data.toList 1).toNat : Int) = true := by
            rw [old, known, hl, h72, decide_eq_true (by omega : 2 ≤ b.size)] at hold
            simpa using hold
          by_cases h20 : b.size < 20
          · rw [hbad (by cases hg : good b.data.toList with | false => rfl | true => have := hgl hg; omega)]
            exact refDecA3 s hs b hb ho (by omega) h20 h72 hv w
          · have h12 : at' b.data.toList 1 = 1 ∨ at' b.data.toList 1 = 2 := by
              rw [ver] at hv
              simp only [Bool.or_eq_true, beq_iff_eq] at hv
              rcases hv with h | h
              · left; apply UInt8.toNat_inj.1; show (at' b.data.toList 1).toNat = 1; omega
              · right; apply UInt8.toNat_inj.1; show (at' b.data.toList 1).toNat = 2; omega
            have hpair : (if good b.data.toList = true then (fr b.data.toList, (0 : Int)) else (Fr.nil, 20)) = (if good b.data.toList = true then fr b.data.toList else Fr.nil, if good b.data.toList = true then 0 else 20) := by split <;> rfl
            rcases h12 with h1 | h1
            · rw [hpair]; exact refDecOne s hs b hb ho (by omega) h72 h1 w
            · by_cases h24 : b.size < 24
              · have ha : Bytes.ahead b.data.toList = 24 := by rw [Bytes.ahead, one, h1]; rfl
                rw [hbad (by cases hg : good b.data.toList with | false => rfl | true => have := hgl hg; omega)]
                exact refDecC s hs b hb ho (by omega) h24 h72 hv h1 w
              · rw [hpair]; exact refDecTwo s hs b hb ho (by omega) h72 h1 w
        · have hn : good b.data.toList = false := by cases hg : good b.data.toList with | false => rfl | true => exact absurd (hgl hg).2.1 h72
          rw [hbad hn]
          by_cases h20 : b.size < 20
          · exact refDecA2 s hs b hb ho (by omega) h20 h72 w
          · exact refDecB s hs b hb ho (by omega) h72 w
/-- A text's first five thousand bytes. -/
def cut5 (s : ByteArray) : ByteArray := s.extract 0 (min (s.size : Int) 5000).toNat
theorem cut5_size (s : ByteArray) : (cut5 s).size ≤ 5000 := by rw [cut5, ByteArray.size_extract]; omega

set_option maxRecDepth 100000 in
set_option maxHeartbeats 4000000 in
theorem decodesPlain (s : ByteArray) (hs : s.size ≤ maxLen) (a0 a1 : Addr) (w : World) (L : Errs w a0 a1) : Calls Tryd.prog 3 #[.string s, .bool false] w fun e w' => e = .returned (.bool true) ∧ Below w.heap.size w w' := by
  have hcut : s.extract 0 (min (s.size : Int) 5000).toNat = cut5 s := rfl
  have hm1 : min (s.size : Int) 5000 ≤ (s.size : Int) := by omega
  have hm0 : (0 : Int) ≤ min (s.size : Int) 5000 := by omega
  have hz5 := cut5_size s
  have hse := fun W => refSeal (cut5 s) (by omega) W
  have hzs : (cut5 s).size ≤ 100000 := by omega
  have hT := hcut
  have hd1 := fun W (LW : Errs W a0 a1) => frameDecode (cut5 s) hzs a0 a1 W LW
  have hd2 := fun W => refDecode (cut5 s) hzs W
  generalize (decF (cut5 s)).2 = x at *
  generalize (decF (cut5 s)).1 = A at *
  unfold Fr.val Fr.cells at hd1 hd2
  have HSE := Lib.hid hse
  have HD1 := Lib.hid hd1
  have HD2 := Lib.hid hd2
  clear hse hd1 hd2 hzs hz5 hT
  have hg : ∀ (x y : Operand) (W : World), (eqGuard .eql 26 x y (.agg #[.int .i64 A.wire, .int .i64 A.kind, .int .i64 A.src, .int .i64 A.dst, .int .u32 (A.life.toNat : Int), .int .u32 (A.seq.toNat : Int), .int .u32 (A.ack.toNat : Int), .int .u32 (A.hint.toNat : Int), .string A.data]) (.agg #[.int .i64 A.wire, .int .i64 A.kind, .int .i64 A.src, .int .i64 A.dst, .int .u32 (A.life.toNat : Int), .int .u32 (A.seq.toNat : Int), .int .u32 (A.ack.toNat : Int), .int .u32 (A.hint.toNat : Int), .string A.data])).run Tryd.prog W = .ok () W := fun x y W => frameGuard A A x y W
  have hq : ∀ W : World, (binOp .eql 26 (.agg #[.int .i64 A.wire, .int .i64 A.kind, .int .i64 A.src, .int .i64 A.dst, .int .u32 (A.life.toNat : Int), .int .u32 (A.seq.toNat : Int), .int .u32 (A.ack.toNat : Int), .int .u32 (A.hint.toNat : Int), .string A.data]) (.agg #[.int .i64 A.wire, .int .i64 A.kind, .int .i64 A.src, .int .i64 A.dst, .int .u32 (A.life.toNat : Int), .int .u32 (A.seq.toNat : Int), .int .u32 (A.ack.toNat : Int), .int .u32 (A.hint.toNat : Int), .string A.data])).run Tryd.prog W = .ok (.bool true) W := fun W => by have h := frameEql A A W; rw [decide_eq_true rfl] at h; exact h
  go_enter Tryd.func3, Tryd.ntmps3
  have hB0 := Below.refl w.heap.size w
  go_wp2_with (first
    | (go_at_call 4
       refine (lawShown a0 a1 _ L).mono ?_
       rintro e w1 ⟨rfl, hb1⟩
       replace hB0 := hB0.trans (hb1.mono hB0.size)
       clear hb1)
    | (go_at_call 6
       refine (HD1.out _ (L.below hB0 (Nat.le_refl _))).mono ?_
       rintro e w3 ⟨rfl, hb3⟩
       replace hB0 := hB0.trans (hb3.mono hB0.size)
       clear hb3
       have hB3 := hB0.alloc hB0.size (.cells #[.int .i64 A.wire, .int .i64 A.kind, .int .i64 A.src, .int .i64 A.dst, .int .u32 (A.life.toNat : Int), .int .u32 (A.seq.toNat : Int), .int .u32 (A.ack.toNat : Int), .int .u32 (A.hint.toNat : Int), .string A.data] 26)
       have ra := Row.new w3 #[.int .i64 A.wire, .int .i64 A.kind, .int .i64 A.src, .int .i64 A.dst, .int .u32 (A.life.toNat : Int), .int .u32 (A.seq.toNat : Int), .int .u32 (A.ack.toNat : Int), .int .u32 (A.hint.toNat : Int), .string A.data] 26)
    | (go_at_call 7
       refine (HD2.out _).mono ?_
       rintro e w4 ⟨rfl, hb4⟩
       replace hB3 := hB3.trans (hb4.mono hB3.size)
       replace ra := ra.below hb4 ra.lt
       have hB4 := hB3.alloc hB3.size (.cells #[.int .i64 A.wire, .int .i64 A.kind, .int .i64 A.src, .int .i64 A.dst, .int .u32 (A.life.toNat : Int), .int .u32 (A.seq.toNat : Int), .int .u32 (A.ack.toNat : Int), .int .u32 (A.hint.toNat : Int), .string A.data] 26)
       have rb := Row.new w4 #[.int .i64 A.wire, .int .i64 A.kind, .int .i64 A.src, .int .i64 A.dst, .int .u32 (A.life.toNat : Int), .int .u32 (A.seq.toNat : Int), .int .u32 (A.ack.toNat : Int), .int .u32 (A.hint.toNat : Int), .string A.data] 26
       replace ra := ra.alloc (.cells #[.int .i64 A.wire, .int .i64 A.kind, .int .i64 A.src, .int .i64 A.dst, .int .u32 (A.life.toNat : Int), .int .u32 (A.seq.toNat : Int), .int .u32 (A.ack.toNat : Int), .int .u32 (A.hint.toNat : Int), .string A.data] 26)
       have qa0 := ra.cell 0 _ rfl
       have ya0 := ra.thawed 0
       have qa1 := ra.cell 1 _ rfl
       have ya1 := ra.thawed 1
       have qa2 := ra.cell 2 _ rfl
       have ya2 := ra.thawed 2
       have qa3 := ra.cell 3 _ rfl
       have ya3 := ra.thawed 3
       have qa4 := ra.cell 4 _ rfl
       have ya4 := ra.thawed 4
       have qa5 := ra.cell 5 _ rfl
       have ya5 := ra.thawed 5
       have qa6 := ra.cell 6 _ rfl
       have ya6 := ra.thawed 6
       have qa7 := ra.cell 7 _ rfl
       have ya7 := ra.thawed 7
       have qa8 := ra.cell 8 _ rfl
       have ya8 := ra.thawed 8
       have qb0 := rb.cell 0 _ rfl
       have yb0 := rb.thawed 0
       have qb1 := rb.cell 1 _ rfl
       have yb1 := rb.thawed 1
       have qb2 := rb.cell 2 _ rfl
       have yb2 := rb.thawed 2
       have qb3 := rb.cell 3 _ rfl
       have yb3 := rb.thawed 3
       have qb4 := rb.cell 4 _ rfl
       have yb4 := rb.thawed 4
       have qb5 := rb.cell 5 _ rfl
       have yb5 := rb.thawed 5
       have qb6 := rb.cell 6 _ rfl
       have yb6 := rb.thawed 6
       have qb7 := rb.cell 7 _ rfl
       have yb7 := rb.thawed 7
       have qb8 := rb.cell 8 _ rfl
       have yb8 := rb.thawed 8))
  go_ret
  exact ⟨rfl, hB4⟩

set_option maxRecDepth 100000 in
set_option maxHeartbeats 4000000 in
theorem decodesSealed (s : ByteArray) (hs : s.size ≤ maxLen) (a0 a1 : Addr) (w : World) (L : Errs w a0 a1) : Calls Tryd.prog 3 #[.string s, .bool true] w fun e w' => e = .returned (.bool true) ∧ Below w.heap.size w w' := by
  have hcut : s.extract 0 (min (s.size : Int) 5000).toNat = cut5 s := rfl
  have hm1 : min (s.size : Int) 5000 ≤ (s.size : Int) := by omega
  have hm0 : (0 : Int) ≤ min (s.size : Int) 5000 := by omega
  have hz5 := cut5_size s
  have hse := fun W => refSeal (cut5 s) (by omega) W
  have hzs : (txt (CrcM.withSum (cut5 s).data.toList)).size ≤ 100000 := by rw [txt_size, CrcM.seal_length, Array.length_toList]; show (cut5 s).size + 4 ≤ 100000; omega
  generalize hT : txt (CrcM.withSum (cut5 s).data.toList) = T at *
  have hd1 := fun W (LW : Errs W a0 a1) => frameDecode T hzs a0 a1 W LW
  have hd2 := fun W => refDecode T hzs W
  generalize (decF T).2 = x at *
  generalize (decF T).1 = A at *
  unfold Fr.val Fr.cells at hd1 hd2
  have HSE := Lib.hid hse
  have HD1 := Lib.hid hd1
  have HD2 := Lib.hid hd2
  clear hse hd1 hd2 hzs hz5 hT
  have hg : ∀ (x y : Operand) (W : World), (eqGuard .eql 26 x y (.agg #[.int .i64 A.wire, .int .i64 A.kind, .int .i64 A.src, .int .i64 A.dst, .int .u32 (A.life.toNat : Int), .int .u32 (A.seq.toNat : Int), .int .u32 (A.ack.toNat : Int), .int .u32 (A.hint.toNat : Int), .string A.data]) (.agg #[.int .i64 A.wire, .int .i64 A.kind, .int .i64 A.src, .int .i64 A.dst, .int .u32 (A.life.toNat : Int), .int .u32 (A.seq.toNat : Int), .int .u32 (A.ack.toNat : Int), .int .u32 (A.hint.toNat : Int), .string A.data])).run Tryd.prog W = .ok () W := fun x y W => frameGuard A A x y W
  have hq : ∀ W : World, (binOp .eql 26 (.agg #[.int .i64 A.wire, .int .i64 A.kind, .int .i64 A.src, .int .i64 A.dst, .int .u32 (A.life.toNat : Int), .int .u32 (A.seq.toNat : Int), .int .u32 (A.ack.toNat : Int), .int .u32 (A.hint.toNat : Int), .string A.data]) (.agg #[.int .i64 A.wire, .int .i64 A.kind, .int .i64 A.src, .int .i64 A.dst, .int .u32 (A.life.toNat : Int), .int .u32 (A.seq.toNat : Int), .int .u32 (A.ack.toNat : Int), .int .u32 (A.hint.toNat : Int), .string A.data])).run Tryd.prog W = .ok (.bool true) W := fun W => by have h := frameEql A A W; rw [decide_eq_true rfl] at h; exact h
  go_enter Tryd.func3, Tryd.ntmps3
  have hB0 := Below.refl w.heap.size w
  go_wp2_with (first
    | (go_at_call 4
       refine (lawShown a0 a1 _ L).mono ?_
       rintro e w1 ⟨rfl, hb1⟩
       replace hB0 := hB0.trans (hb1.mono hB0.size)
       clear hb1)
    | (go_at_call 5
       refine (HSE.out _).mono ?_
       rintro e wS ⟨rfl, hbS⟩
       replace hB0 := hB0.trans (hbS.mono hB0.size)
       clear hbS)
    | (go_at_call 6
       refine (HD1.out _ (L.below hB0 (Nat.le_refl _))).mono ?_
       rintro e w3 ⟨rfl, hb3⟩
       replace hB0 := hB0.trans (hb3.mono hB0.size)
       clear hb3
       have hB3 := hB0.alloc hB0.size (.cells #[.int .i64 A.wire, .int .i64 A.kind, .int .i64 A.src, .int .i64 A.dst, .int .u32 (A.life.toNat : Int), .int .u32 (A.seq.toNat : Int), .int .u32 (A.ack.toNat : Int), .int .u32 (A.hint.toNat : Int), .string A.data] 26)
       have ra := Row.new w3 #[.int .i64 A.wire, .int .i64 A.kind, .int .i64 A.src, .int .i64 A.dst, .int .u32 (A.life.toNat : Int), .int .u32 (A.seq.toNat : Int), .int .u32 (A.ack.toNat : Int), .int .u32 (A.hint.toNat : Int), .string A.data] 26)
    | (go_at_call 7
       refine (HD2.out _).mono ?_
       rintro e w4 ⟨rfl, hb4⟩
       replace hB3 := hB3.trans (hb4.mono hB3.size)
       replace ra := ra.below hb4 ra.lt
       have hB4 := hB3.alloc hB3.size (.cells #[.int .i64 A.wire, .int .i64 A.kind, .int .i64 A.src, .int .i64 A.dst, .int .u32 (A.life.toNat : Int), .int .u32 (A.seq.toNat : Int), .int .u32 (A.ack.toNat : Int), .int .u32 (A.hint.toNat : Int), .string A.data] 26)
       have rb := Row.new w4 #[.int .i64 A.wire, .int .i64 A.kind, .int .i64 A.src, .int .i64 A.dst, .int .u32 (A.life.toNat : Int), .int .u32 (A.seq.toNat : Int), .int .u32 (A.ack.toNat : Int), .int .u32 (A.hint.toNat : Int), .string A.data] 26
       replace ra := ra.alloc (.cells #[.int .i64 A.wire, .int .i64 A.kind, .int .i64 A.src, .int .i64 A.dst, .int .u32 (A.life.toNat : Int), .int .u32 (A.seq.toNat : Int), .int .u32 (A.ack.toNat : Int), .int .u32 (A.hint.toNat : Int), .string A.data] 26)
       have qa0 := ra.cell 0 _ rfl
       have ya0 := ra.thawed 0
       have qa1 := ra.cell 1 _ rfl
       have ya1 := ra.thawed 1
       have qa2 := ra.cell 2 _ rfl
       have ya2 := ra.thawed 2
       have qa3 := ra.cell 3 _ rfl
       have ya3 := ra.thawed 3
       have qa4 := ra.cell 4 _ rfl
       have ya4 := ra.thawed 4
       have qa5 := ra.cell 5 _ rfl
       have ya5 := ra.thawed 5
       have qa6 := ra.cell 6 _ rfl
       have ya6 := ra.thawed 6
       have qa7 := ra.cell 7 _ rfl
       have ya7 := ra.thawed 7
       have qa8 := ra.cell 8 _ rfl
       have ya8 := ra.thawed 8
       have qb0 := rb.cell 0 _ rfl
       have yb0 := rb.thawed 0
       have qb1 := rb.cell 1 _ rfl
       have yb1 := rb.thawed 1
       have qb2 := rb.cell 2 _ rfl
       have yb2 := rb.thawed 2
       have qb3 := rb.cell 3 _ rfl
       have yb3 := rb.thawed 3
       have qb4 := rb.cell 4 _ rfl
       have yb4 := rb.thawed 4
       have qb5 := rb.cell 5 _ rfl
       have yb5 := rb.thawed 5
       have qb6 := rb.cell 6 _ rfl
       have yb6 := rb.thawed 6
       have qb7 := rb.cell 7 _ rfl
       have yb7 := rb.thawed 7
       have qb8 := rb.cell 8 _ rfl
       have yb8 := rb.thawed 8))
  go_ret
  exact ⟨rfl, hB4⟩
theorem lawDecodes (s : ByteArray) (sealed : Bool) (hs : s.size ≤ maxLen) (a0 a1 : Addr) (w : World) (L : Errs w a0 a1) : Calls Tryd.prog 3 #[.string s, .bool sealed] w fun e w' => e = .returned (.bool true) ∧ Below w.heap.size w w' := by
  cases sealed with
  | false => exact decodesPlain s hs a0 a1 w L
  | true => exact decodesSealed s hs a0 a1 w L
end Go.Proofs.YtphfnlgjiomjkaaDoor
