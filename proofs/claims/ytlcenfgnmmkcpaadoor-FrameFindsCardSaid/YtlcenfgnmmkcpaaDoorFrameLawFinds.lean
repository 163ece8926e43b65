/-
  The law of frames' bytes that are changed, walked.
-/
import Derived.Test.YtlcenfgnmmkcpaaDoorFrameBackMath
import Derived.Test.YtlcenfgnmmkcpaaDoorCrcChange
namespace Go.Proofs.YtlcenfgnmmkcpaaDoor
open Go.RowKit Go.Shelf
attribute [local go_sem] Oper.semAt_some
set_option linter.unusedVariables false
set_option linter.unusedSimpArgs false

def inBits (s : ByteArray) (bit : Int) : Prop := 0 ≤ bit ∧ bit < 8 * (s.size : Int)
theorem crcChangeIn (s : ByteArray) (bit : Int) (m : BitVec 32) (hs : s.size ≤ 100000) (h : inBits s bit) (w : World) :
    Calls Tryd.prog 22 #[.string s, .int .i64 bit, .int .u32 (m.toNat : Int)] w fun e w' => e = .returned (.tuple #[.string (txt (CrcM.chg s.data.toList bit.toNat m.toNat)), .int .i64 0]) ∧ Below w.heap.size w w' := by
  obtain ⟨h0, h8⟩ := h
  have := crcChange s bit.toNat (bit.toNat / 8) (bit.toNat % 8) m hs (by omega) (by omega) (by omega) w
  rwa [Int.toNat_of_nonneg h0] at this
theorem crcChangeOut (s : ByteArray) (bit : Int) (m : BitVec 32) (hs : s.size ≤ 100000) (h1 : bit ≤ 2 ^ 63 - 1) (h : ¬ inBits s bit) (w : World) :
    Calls Tryd.prog 22 #[.string s, .int .i64 bit, .int .u32 (m.toNat : Int)] w fun e w' => e = .returned (.tuple #[.string ⟨#[]⟩, .int .i64 2]) ∧ Below w.heap.size w w' :=
  crcChangeNo s bit m hs h1 (by unfold inBits at h; omega) w
theorem chg_size (s : ByteArray) (B m : Nat) : (txt (CrcM.chg s.data.toList B m)).size = s.size := by rw [txt_size, CrcM.chg_length]; simp
theorem bytes_eq {a b : ByteArray} (h : a.data.toList = b.data.toList) : a = b := by
  rw [← txt_data a, ← txt_data b, h]
theorem decF_none (s : ByteArray) (h : openB s = false) : decF s = (Fr.nil, 21) := by rw [decF, if_pos h]
set_option maxRecDepth 100000 in
set_option maxHeartbeats 4000000 in
theorem findsNo (f : Fr) (hs : f.data.size ≤ maxLen) (bit : Int) (m : BitVec 32) (F : Fr) (hF : f.cut = F) (hr : ¬ F.Right) (hbit : bit ≤ 2 ^ 63 - 1) (a0 a1 : Addr) (w : World) (L : Errs w a0 a1) : Calls Tryd.prog 7 #[f.val, .int .i64 bit, .int .u32 (m.toNat : Int)] w fun e w' => e = .returned (.bool true) ∧ Below w.heap.size w w' := by
  have hc := fun w => lawCut f hs w
  have hz : F.data.size ≤ 4200 := by rw [← hF]; exact f.cut_size
  have hzm : F.data.size ≤ maxLen := by unfold maxLen; omega
  rw [hF] at hc
  have HCUT := Lib.hid hc
  have HE := Lib.hid (frameEncodeNo F hr hzm : ∀ W : World, Calls Tryd.prog 11 #[.agg #[.int .i64 F.wire, .int .i64 F.kind, .int .i64 F.src, .int .i64 F.dst, .int .u32 (F.life.toNat : Int), .int .u32 (F.seq.toNat : Int), .int .u32 (F.ack.toNat : Int), .int .u32 (F.hint.toNat : Int), .string F.data]] W fun e w' => e = .returned (.tuple #[.string ⟨#[]⟩, .int .i64 20]) ∧ Below W.heap.size W w')
  have hno : ¬ inBits ⟨#[]⟩ bit := by unfold inBits; show ¬ (0 ≤ bit ∧ bit < 8 * 0); omega
  have HC := Lib.hid (crcChangeOut ⟨#[]⟩ bit m (by show 0 ≤ 100000; omega) hbit hno)
  clear hr hno hbit
  clear hc hF
  go_enter Tryd.func7, Tryd.ntmps7
  unfold Fr.val Fr.cells
  have rf := Row.new w #[.int .i64 f.wire, .int .i64 f.kind, .int .i64 f.src, .int .i64 f.dst, .int .u32 (f.life.toNat : Int), .int .u32 (f.seq.toNat : Int), .int .u32 (f.ack.toNat : Int), .int .u32 (f.hint.toNat : Int), .string f.data] 24
  have hb : Below w.heap.size w (w.alloc (.cells #[.int .i64 f.wire, .int .i64 f.kind, .int .i64 f.src, .int .i64 f.dst, .int .u32 (f.life.toNat : Int), .int .u32 (f.seq.toNat : Int), .int .u32 (f.ack.toNat : Int), .int .u32 (f.hint.toNat : Int), .string f.data] 24)) := (Below.refl _ w).alloc (Nat.le_refl _) _
  go_wp2_with (first
    | (go_at_call 9; refine (lawShown a0 a1 _ (L.below hb (Nat.le_refl _))).mono ?_; rintro e w1 ⟨rfl, hb1⟩; replace hb := hb.trans (hb1.mono hb.size); replace rf := rf.below hb1 rf.lt; clear hb1
       have f0 := rf.cell 0 _ rfl
       have g0 := rf.thawed 0
       have f1 := rf.cell 1 _ rfl
       have g1 := rf.thawed 1
       have f2 := rf.cell 2 _ rfl
       have g2 := rf.thawed 2
       have f3 := rf.cell 3 _ rfl
       have g3 := rf.thawed 3
       have f4 := rf.cell 4 _ rfl
       have g4 := rf.thawed 4
       have f5 := rf.cell 5 _ rfl
       have g5 := rf.thawed 5
       have f6 := rf.cell 6 _ rfl
       have g6 := rf.thawed 6
       have f7 := rf.cell 7 _ rfl
       have g7 := rf.thawed 7
       have f8 := rf.cell 8 _ rfl
       have g8 := rf.thawed 8)
    | (go_at_call 10; refine (HCUT.out _).mono ?_; rintro e w2 ⟨rfl, hb1⟩; unfold Fr.val Fr.cells; replace hb := hb.trans (hb1.mono hb.size); clear hb1)
    | (go_at_call 11; refine (HE.out _).mono ?_; rintro e w3 ⟨rfl, hb1⟩; replace hb := hb.trans (hb1.mono hb.size); clear hb1)
    | (go_at_call 22; refine (HC.out _).mono ?_; rintro e w4 ⟨rfl, hb1⟩; replace hb := hb.trans (hb1.mono hb.size); clear hb1))
  go_ret
  exact ⟨rfl, by first | exact hb | exact hb.alloc hb.size _⟩
set_option maxRecDepth 100000 in
set_option maxHeartbeats 4000000 in
theorem findsOut (f : Fr) (hs : f.data.size ≤ maxLen) (bit : Int) (m : BitVec 32) (F : Fr) (hF : f.cut = F) (hr : F.Right) (hbit : bit ≤ 2 ^ 63 - 1) (hno : ¬ inBits (txt (CrcM.withSum F.body)) bit) (a0 a1 : Addr) (w : World) (L : Errs w a0 a1) : Calls Tryd.prog 7 #[f.val, .int .i64 bit, .int .u32 (m.toNat : Int)] w fun e w' => e = .returned (.bool true) ∧ Below w.heap.size w w' := by
  have hc := fun w => lawCut f hs w
  have hz : F.data.size ≤ 4200 := by rw [← hF]; exact f.cut_size
  have hzm : F.data.size ≤ maxLen := by unfold maxLen; omega
  rw [hF] at hc
  have HCUT := Lib.hid hc
  have hA : (txt (CrcM.withSum F.body)).size ≤ 100000 := by
    rw [txt_size, CrcM.seal_length, body_length F hr]; have := hr.2.2.2.2.1; split <;> omega
  have hdb := decF_body F hr
  have HE := Lib.hid (frameEncodeYes F hr : ∀ W : World, Calls Tryd.prog 11 #[.agg #[.int .i64 F.wire, .int .i64 F.kind, .int .i64 F.src, .int .i64 F.dst, .int .u32 (F.life.toNat : Int), .int .u32 (F.seq.toNat : Int), .int .u32 (F.ack.toNat : Int), .int .u32 (F.hint.toNat : Int), .string F.data]] W fun e w' => e = .returned (.tuple #[.string (txt (CrcM.withSum F.body)), .int .i64 0]) ∧ Below W.heap.size W w')
  have HC := Lib.hid (crcChangeOut _ bit m hA hbit hno)
  generalize txt (CrcM.withSum F.body) = A at *
  clear hr hno hbit hdb hA
  clear hc hF
  go_enter Tryd.func7, Tryd.ntmps7
  unfold Fr.val Fr.cells
  have rf := Row.new w #[.int .i64 f.wire, .int .i64 f.kind, .int .i64 f.src, .int .i64 f.dst, .int .u32 (f.life.toNat : Int), .int .u32 (f.seq.toNat : Int), .int .u32 (f.ack.toNat : Int), .int .u32 (f.hint.toNat : Int), .string f.data] 24
  have hb : Below w.heap.size w (w.alloc (.cells #[.int .i64 f.wire, .int .i64 f.kind, .int .i64 f.src, .int .i64 f.dst, .int .u32 (f.life.toNat : Int), .int .u32 (f.seq.toNat : Int), .int .u32 (f.ack.toNat : Int), .int .u32 (f.hint.toNat : Int), .string f.data] 24)) := (Below.refl _ w).alloc (Nat.le_refl _) _
  go_wp2_with (first
    | (go_at_call 9; refine (lawShown a0 a1 _ (L.below hb (Nat.le_refl _))).mono ?_; rintro e w1 ⟨rfl, hb1⟩; replace hb := hb.trans (hb1.mono hb.size); replace rf := rf.below hb1 rf.lt; clear hb1
       have f0 := rf.cell 0 _ rfl
       have g0 := rf.thawed 0
       have f1 := rf.cell 1 _ rfl
       have g1 := rf.thawed 1
       have f2 := rf.cell 2 _ rfl
       have g2 := rf.thawed 2
       have f3 := rf.cell 3 _ rfl
       have g3 := rf.thawed 3
       have f4 := rf.cell 4 _ rfl
       have g4 := rf.thawed 4
       have f5 := rf.cell 5 _ rfl
       have g5 := rf.thawed 5
       have f6 := rf.cell 6 _ rfl
       have g6 := rf.thawed 6
       have f7 := rf.cell 7 _ rfl
       have g7 := rf.thawed 7
       have f8 := rf.cell 8 _ rfl
       have g8 := rf.thawed 8)
    | (go_at_call 10; refine (HCUT.out _).mono ?_; rintro e w2 ⟨rfl, hb1⟩; unfold Fr.val Fr.cells; replace hb := hb.trans (hb1.mono hb.size); clear hb1)
    | (go_at_call 11; refine (HE.out _).mono ?_; rintro e w3 ⟨rfl, hb1⟩; replace hb := hb.trans (hb1.mono hb.size); clear hb1)
    | (go_at_call 22; refine (HC.out _).mono ?_; rintro e w4 ⟨rfl, hb1⟩; replace hb := hb.trans (hb1.mono hb.size); clear hb1))
  go_ret
  exact ⟨rfl, by first | exact hb | exact hb.alloc hb.size _⟩
set_option maxRecDepth 100000 in
set_option maxHeartbeats 4000000 in
theorem findsSame (f : Fr) (hs : f.data.size ≤ maxLen) (bit : Int) (m : BitVec 32) (F : Fr) (hF : f.cut = F) (hr : F.Right) (hbit : bit ≤ 2 ^ 63 - 1) (hin : inBits (txt (CrcM.withSum F.body)) bit) (hsame : txt (CrcM.chg (txt (CrcM.withSum F.body)).data.toList bit.toNat m.toNat) = txt (CrcM.withSum F.body)) (a0 a1 : Addr) (w : World) (L : Errs w a0 a1) : Calls Tryd.prog 7 #[f.val, .int .i64 bit, .int .u32 (m.toNat : Int)] w fun e w' => e = .returned (.bool true) ∧ Below w.heap.size w w' := by
  have hc := fun w => lawCut f hs w
  have hz : F.data.size ≤ 4200 := by rw [← hF]; exact f.cut_size
  have hzm : F.data.size ≤ maxLen := by unfold maxLen; omega
  rw [hF] at hc
  have HCUT := Lib.hid hc
  have hA : (txt (CrcM.withSum F.body)).size ≤ 100000 := by
    rw [txt_size, CrcM.seal_length, body_length F hr]; have := hr.2.2.2.2.1; split <;> omega
  have hdb := decF_body F hr
  have HE := Lib.hid (frameEncodeYes F hr : ∀ W : World, Calls Tryd.prog 11 #[.agg #[.int .i64 F.wire, .int .i64 F.kind, .int .i64 F.src, .int .i64 F.dst, .int .u32 (F.life.toNat : Int), .int .u32 (F.seq.toNat : Int), .int .u32 (F.ack.toNat : Int), .int .u32 (F.hint.toNat : Int), .string F.data]] W fun e w' => e = .returned (.tuple #[.string (txt (CrcM.withSum F.body)), .int .i64 0]) ∧ Below W.heap.size W w')
  have hcall := fun W => crcChangeIn _ bit m hA hin W
  have HD := Lib.hid (fun W LW => by have h := frameDecode _ hA a0 a1 W LW; rw [hdb] at h; exact h : ∀ W : World, Errs W a0 a1 → Calls Tryd.prog 16 #[.string (txt (CrcM.withSum F.body))] W fun e w' => e = .returned (.tuple #[.agg #[.int .i64 F.wire, .int .i64 F.kind, .int .i64 F.src, .int .i64 F.dst, .int .u32 (F.life.toNat : Int), .int .u32 (F.seq.toNat : Int), .int .u32 (F.ack.toNat : Int), .int .u32 (F.hint.toNat : Int), .string F.data], .int .i64 0]) ∧ Below W.heap.size W w')
  rw [hsame] at hcall
  have HC := Lib.hid hcall
  generalize txt (CrcM.withSum F.body) = A at *
  clear hr hin hbit hdb hA hsame hcall
  clear hc hF
  go_enter Tryd.func7, Tryd.ntmps7
  unfold Fr.val Fr.cells
  have rf := Row.new w #[.int .i64 f.wire, .int .i64 f.kind, .int .i64 f.src, .int .i64 f.dst, .int .u32 (f.life.toNat : Int), .int .u32 (f.seq.toNat : Int), .int .u32 (f.ack.toNat : Int), .int .u32 (f.hint.toNat : Int), .string f.data] 24
  have hb : Below w.heap.size w (w.alloc (.cells #[.int .i64 f.wire, .int .i64 f.kind, .int .i64 f.src, .int .i64 f.dst, .int .u32 (f.life.toNat : Int), .int .u32 (f.seq.toNat : Int), .int .u32 (f.ack.toNat : Int), .int .u32 (f.hint.toNat : Int), .string f.data] 24)) := (Below.refl _ w).alloc (Nat.le_refl _) _
  go_wp2_with (first
    | (go_at_call 9; refine (lawShown a0 a1 _ (L.below hb (Nat.le_refl _))).mono ?_; rintro e w1 ⟨rfl, hb1⟩; replace hb := hb.trans (hb1.mono hb.size); replace rf := rf.below hb1 rf.lt; clear hb1
       have f0 := rf.cell 0 _ rfl
       have g0 := rf.thawed 0
       have f1 := rf.cell 1 _ rfl
       have g1 := rf.thawed 1
       have f2 := rf.cell 2 _ rfl
       have g2 := rf.thawed 2
       have f3 := rf.cell 3 _ rfl
       have g3 := rf.thawed 3
       have f4 := rf.cell 4 _ rfl
       have g4 := rf.thawed 4
       have f5 := rf.cell 5 _ rfl
       have g5 := rf.thawed 5
       have f6 := rf.cell 6 _ rfl
       have g6 := rf.thawed 6
       have f7 := rf.cell 7 _ rfl
       have g7 := rf.thawed 7
       have f8 := rf.cell 8 _ rfl
       have g8 := rf.thawed 8)
    | (go_at_call 10; refine (HCUT.out _).mono ?_; rintro e w2 ⟨rfl, hb1⟩; unfold Fr.val Fr.cells; replace hb := hb.trans (hb1.mono hb.size); clear hb1)
    | (go_at_call 11; refine (HE.out _).mono ?_; rintro e w3 ⟨rfl, hb1⟩; replace hb := hb.trans (hb1.mono hb.size); clear hb1)
    | (go_at_call 22; refine (HC.out _).mono ?_; rintro e w4 ⟨rfl, hb1⟩; replace hb := hb.trans (hb1.mono hb.size); clear hb1)
    | (go_at_call 16; refine (HD.out _ (L.below hb (Nat.le_refl _))).mono ?_; rintro e w5 ⟨rfl, hb1⟩; replace hb := hb.trans (hb1.mono hb.size); clear hb1))
  go_ret
  exact ⟨rfl, by first | exact hb | exact hb.alloc hb.size _⟩
set_option maxRecDepth 100000 in
set_option maxHeartbeats 4000000 in
theorem findsOther (f : Fr) (hs : f.data.size ≤ maxLen) (bit : Int) (m : BitVec 32) (F : Fr) (hF : f.cut = F) (hr : F.Right) (hbit : bit ≤ 2 ^ 63 - 1) (hin : inBits (txt (CrcM.withSum F.body)) bit) (hne : txt (CrcM.chg (txt (CrcM.withSum F.body)).data.toList bit.toNat m.toNat) ≠ txt (CrcM.withSum F.body)) (a0 a1 : Addr) (w : World) (L : Errs w a0 a1) : Calls Tryd.prog 7 #[f.val, .int .i64 bit, .int .u32 (m.toNat : Int)] w fun e w' => e = .returned (.bool true) ∧ Below w.heap.size w w' := by
  have hc := fun w => lawCut f hs w
  have hz : F.data.size ≤ 4200 := by rw [← hF]; exact f.cut_size
  have hzm : F.data.size ≤ maxLen := by unfold maxLen; omega
  rw [hF] at hc
  have HCUT := Lib.hid hc
  have hA : (txt (CrcM.withSum F.body)).size ≤ 100000 := by
    rw [txt_size, CrcM.seal_length, body_length F hr]; have := hr.2.2.2.2.1; split <;> omega
  have hdb := decF_body F hr
  have HE := Lib.hid (frameEncodeYes F hr : ∀ W : World, Calls Tryd.prog 11 #[.agg #[.int .i64 F.wire, .int .i64 F.kind, .int .i64 F.src, .int .i64 F.dst, .int .u32 (F.life.toNat : Int), .int .u32 (F.seq.toNat : Int), .int .u32 (F.ack.toNat : Int), .int .u32 (F.hint.toNat : Int), .string F.data]] W fun e w' => e = .returned (.tuple #[.string (txt (CrcM.withSum F.body)), .int .i64 0]) ∧ Below W.heap.size W w')
  have hT := chg_size (txt (CrcM.withSum F.body)) bit.toNat m.toNat
  have hop : openB (txt (CrcM.chg (txt (CrcM.withSum F.body)).data.toList bit.toNat m.toNat)) = false := by
    have hl : bit.toNat ≤ 8 * (CrcM.withSum F.body).length := by
      have h1 := hin.1; have h2 := hin.2; rw [txt_size] at h2; omega
    have := CrcM.changed_not_opened F.body bit.toNat m.toNat m.isLt hl (fun e => hne (by rw [txt_toList, e]))
    rw [openB, txt_toList, txt_toList, this, Bool.and_false]
  have hdn := decF_none _ hop
  have HC := Lib.hid (fun W => crcChangeIn _ bit m hA hin W)
  have hq : ((txt (CrcM.chg (txt (CrcM.withSum F.body)).data.toList bit.toNat m.toNat)).toList == (txt (CrcM.withSum F.body)).toList) = false := by
    rw [Lib.toList_data, Lib.toList_data, beq_eq_false_iff_ne]
    exact fun e => hne (bytes_eq e)
  generalize txt (CrcM.chg (txt (CrcM.withSum F.body)).data.toList bit.toNat m.toNat) = T at *
  have hTs : T.size ≤ 100000 := by omega
  have HD := Lib.hid (fun W LW => by have h := frameDecode T hTs a0 a1 W LW; rw [hdn] at h; exact h : ∀ W : World, Errs W a0 a1 → Calls Tryd.prog 16 #[.string T] W fun e w' => e = .returned (.tuple #[.agg #[.int .i64 0, .int .i64 0, .int .i64 0, .int .i64 0, .int .u32 0, .int .u32 0, .int .u32 0, .int .u32 0, .string ⟨#[]⟩], .int .i64 21]) ∧ Below W.heap.size W w')
  generalize txt (CrcM.withSum F.body) = A at *
  clear hr hin hbit hdb hA hne hT hop hdn
  clear hc hF
  go_enter Tryd.func7, Tryd.ntmps7
  unfold Fr.val Fr.cells
  have rf := Row.new w #[.int .i64 f.wire, .int .i64 f.kind, .int .i64 f.src, .int .i64 f.dst, .int .u32 (f.life.toNat : Int), .int .u32 (f.seq.toNat : Int), .int .u32 (f.ack.toNat : Int), .int .u32 (f.hint.toNat : Int), .string f.data] 24
  have hb : Below w.heap.size w (w.alloc (.cells #[.int .i64 f.wire, .int .i64 f.kind, .int .i64 f.src, .int .i64 f.dst, .int .u32 (f.life.toNat : Int), .int .u32 (f.seq.toNat : Int), .int .u32 (f.ack.toNat : Int), .int .u32 (f.hint.toNat : Int), .string f.data] 24)) := (Below.refl _ w).alloc (Nat.le_refl _) _
  go_wp2_with (first
    | (go_at_call 9; refine (lawShown a0 a1 _ (L.below hb (Nat.le_refl _))).mono ?_; rintro e w1 ⟨rfl, hb1⟩; replace hb := hb.trans (hb1.mono hb.size); replace rf := rf.below hb1 rf.lt; clear hb1
       have f0 := rf.cell 0 _ rfl
       have g0 := rf.thawed 0
       have f1 := rf.cell 1 _ rfl
       have g1 := rf.thawed 1
       have f2 := rf.cell 2 _ rfl
       have g2 := rf.thawed 2
       have f3 := rf.cell 3 _ rfl
       have g3 := rf.thawed 3
       have f4 := rf.cell 4 _ rfl
       have g4 := rf.thawed 4
       have f5 := rf.cell 5 _ rfl
       have g5 := rf.thawed 5
       have f6 := rf.cell 6 _ rfl
       have g6 := rf.thawed 6
       have f7 := rf.cell 7 _ rfl
       have g7 := rf.thawed 7
       have f8 := rf.cell 8 _ rfl
       have g8 := rf.thawed 8)
    | (go_at_call 10; refine (HCUT.out _).mono ?_; rintro e w2 ⟨rfl, hb1⟩; unfold Fr.val Fr.cells; replace hb := hb.trans (hb1.mono hb.size); clear hb1)
    | (go_at_call 11; refine (HE.out _).mono ?_; rintro e w3 ⟨rfl, hb1⟩; replace hb := hb.trans (hb1.mono hb.size); clear hb1)
    | (go_at_call 22; refine (HC.out _).mono ?_; rintro e w4 ⟨rfl, hb1⟩; replace hb := hb.trans (hb1.mono hb.size); clear hb1)
    | (go_at_call 16; refine (HD.out _ (L.below hb (Nat.le_refl _))).mono ?_; rintro e w5 ⟨rfl, hb1⟩; replace hb := hb.trans (hb1.mono hb.size); clear hb1))
  go_ret
  exact ⟨rfl, by first | exact hb | exact hb.alloc hb.size _⟩
theorem lawFinds (f : Fr) (hs : f.data.size ≤ maxLen) (bit a2 : Int) (h1 : (Lit.int .i64 bit).wf = true) (h2 : (Lit.int .u32 a2).wf = true) (a0 a1 : Addr) (w : World) (L : Errs w a0 a1) : Calls Tryd.prog 7 #[f.val, .int .i64 bit, .int .u32 a2] w fun e w' => e = .returned (.bool true) ∧ Below w.heap.size w w' := by
  have hb : bit ≤ 2 ^ 63 - 1 := by
    simp [Lit.wf, IntKind.min, IntKind.max, IntKind.signed, IntKind.bits] at h1
    omega
  obtain ⟨m, rfl⟩ : ∃ x : BitVec 32, a2 = (x.toNat : Int) := by
    simp [Lit.wf, IntKind.min, IntKind.max, IntKind.signed, IntKind.bits] at h2
    exact ⟨BitVec.ofNat 32 a2.toNat, by rw [BitVec.toNat_ofNat, Nat.mod_eq_of_lt (by omega)]; omega⟩
  by_cases hr : f.cut.Right
  · by_cases hi : inBits (txt (CrcM.withSum f.cut.body)) bit
    · by_cases he : txt (CrcM.chg (txt (CrcM.withSum f.cut.body)).data.toList bit.toNat m.toNat) = txt (CrcM.withSum f.cut.body)
      · exact findsSame f hs bit m _ rfl hr hb hi he a0 a1 w L
      · exact findsOther f hs bit m _ rfl hr hb hi he a0 a1 w L
    · exact findsOut f hs bit m _ rfl hr hb hi a0 a1 w L
  · exact findsNo f hs bit m _ rfl hr hb a0 a1 w L
end Go.Proofs.YtlcenfgnmmkcpaaDoor
