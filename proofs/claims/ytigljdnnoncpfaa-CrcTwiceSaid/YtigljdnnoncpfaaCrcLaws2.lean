/-
  The statements of layer 1 that speak of changes, walked: a change made twice; another bit, another sum; what is sealed and then changed is not opened.
-/
import Derived.Test.YtigljdnnoncpfaaCrcChange
import Derived.Test.YtigljdnnoncpfaaCrcLaws
namespace Go.Proofs.Ytigljdnnoncpfaa
open Go.RowKit Go.Shelf
attribute [local go_sem] Oper.semAt_some

/-- A bit that there is. -/
def inBits (s : ByteArray) (bit : Int) : Prop := 0 ≤ bit ∧ bit < 8 * (s.size : Int)
theorem crcChangeIn (s : ByteArray) (bit : Int) (m : BitVec 32) (hs : s.size ≤ 100000) (h : inBits s bit) (w : World) :
    Calls Try.prog 19 #[.string s, .int .i64 bit, .int .u32 (m.toNat : Int)] w fun e w' => e = .returned (.tuple #[.string (txt (CrcM.chg s.data.toList bit.toNat m.toNat)), .int .i64 0]) ∧ Below w.heap.size w w' := by
  obtain ⟨B, rfl⟩ := Int.eq_ofNat_of_zero_le h.1
  have h2 := h.2
  rw [Int.toNat_natCast]
  exact crcChange s B (B / 8) (B % 8) m hs (by omega) (by omega) (by omega) w
theorem crcChangeOut (s : ByteArray) (bit : Int) (m : BitVec 32) (hs : s.size ≤ 100000) (h1 : bit ≤ 2 ^ 63 - 1) (h : ¬ inBits s bit) (w : World) :
    Calls Try.prog 19 #[.string s, .int .i64 bit, .int .u32 (m.toNat : Int)] w fun e w' => e = .returned (.tuple #[.string ⟨#[]⟩, .int .i64 2]) ∧ Below w.heap.size w w' :=
  crcChangeNo s bit m hs h1 (by unfold inBits at h; omega) w
theorem chg_size (s : ByteArray) (B m : Nat) : (txt (CrcM.chg s.data.toList B m)).size = s.size := by rw [txt_size, CrcM.chg_length]; simp
theorem chg_back (s : ByteArray) (B m : Nat) : txt (CrcM.chg (txt (CrcM.chg s.data.toList B m)).data.toList B m) = s := by rw [txt_toList, CrcM.chg_chg, txt_data]

set_option maxRecDepth 100000 in
set_option maxHeartbeats 1000000 in
theorem lawTwice (s : ByteArray) (bit : Int) (m : BitVec 32) (hs : s.size ≤ maxLen) (h1 : bit ≤ 2 ^ 63 - 1) (w : World) : Calls Try.prog 9 #[.string s, .int .i64 bit, .int .u32 (m.toNat : Int)] w fun e w' =>
    e = .returned (.bool true) ∧ Below w.heap.size w w' := by
  have h3 := cutTo_size 3000 s
  have h4 : (cutTo 3000 s).size ≤ 100000 := by omega
  have hb : Below w.heap.size w w := Below.refl _ _
  by_cases h : inBits (cutTo 3000 s) bit
  · have hz := chg_size (cutTo 3000 s) bit.toNat m.toNat
    have hc := chg_back (cutTo 3000 s) bit.toNat m.toNat
    have h5 : (txt (CrcM.chg (cutTo 3000 s).data.toList bit.toNat m.toNat)).size ≤ 100000 := by omega
    have h6 : inBits (txt (CrcM.chg (cutTo 3000 s).data.toList bit.toNat m.toNat)) bit := by unfold inBits at *; omega
    have hq : (((txt (CrcM.chg (cutTo 3000 s).data.toList bit.toNat m.toNat)).size : Int) == ((cutTo 3000 s).size : Int)) = true := by rw [hz, beq_iff_eq]
    have HC := Lib.hid hc
    clear hz hc
    go_enter Try.func9, Try.ntmps9
    go_wp2_with (first
      | (go_at_call 11; refine (lawShown _).mono ?_; rintro e w1 ⟨rfl, hb1⟩; replace hb := hb.trans (hb1.mono hb.size); clear hb1)
      | (go_at_call 15; refine (lawCut _ hs _).mono ?_; rintro e w' ⟨rfl, rfl⟩)
      | (fail))
    refine (crcChangeIn _ _ _ h4 h _).mono ?_
    rintro e w2 ⟨rfl, hb1⟩
    replace hb := hb.trans (hb1.mono hb.size)
    clear hb1
    go_wp2_with fail
    refine (crcChangeIn _ _ _ h5 h6 _).mono ?_
    rintro e w3 ⟨rfl, hb1⟩
    replace hb := hb.trans (hb1.mono hb.size)
    clear hb1
    rw [HC.out]
    go_wp2_with fail
    go_ret
    exact ⟨rfl, hb⟩
  · go_enter Try.func9, Try.ntmps9
    go_wp2_with (first
      | (go_at_call 11; refine (lawShown _).mono ?_; rintro e w1 ⟨rfl, hb1⟩; replace hb := hb.trans (hb1.mono hb.size); clear hb1)
      | (go_at_call 15; refine (lawCut _ hs _).mono ?_; rintro e w' ⟨rfl, rfl⟩)
      | (go_at_call 19; refine (crcChangeOut _ _ _ h4 h1 h _).mono ?_; rintro e w1 ⟨rfl, hb1⟩; replace hb := hb.trans (hb1.mono hb.size); clear hb1))
    go_ret
    exact ⟨rfl, hb⟩

theorem sum_ne (s : ByteArray) (B : Nat) (h : B < 8 * s.size) : (CrcM.sum (txt (CrcM.chg s.data.toList B 1)).data.toList).toNat ≠ (CrcM.sum s.data.toList).toNat := by
  have hl : s.data.toList.length = s.size := by simp
  rw [txt_toList]
  intro e
  have e1 := BitVec.eq_of_toNat_eq e
  simp only [CrcM.sum, CrcM.more] at e1
  have e2 := congrArg (fun x : BitVec 32 => ~~~ x) e1
  simp only [BitVec.not_not] at e2
  exact CrcM.chg_ne s.data.toList B (by omega) (CrcM.chg_same _ _ _ _ (by decide) (by omega) e2)
set_option maxRecDepth 100000 in
set_option maxHeartbeats 1000000 in
theorem lawBit (s : ByteArray) (bit : Int) (hs : s.size ≤ maxLen) (h1 : bit ≤ 2 ^ 63 - 1) (w : World) : Calls Try.prog 10 #[.string s, .int .i64 bit] w fun e w' =>
    e = .returned (.bool true) ∧ Below w.heap.size w w' := by
  have h3 := cutTo_size 3000 s
  have h4 : (cutTo 3000 s).size ≤ 100000 := by omega
  have h4' : (cutTo 3000 s).size ≤ maxLen := by unfold maxLen; omega
  have hb : Below w.heap.size w w := Below.refl _ _
  by_cases h : inBits (cutTo 3000 s) bit
  · have hB : bit.toNat < 8 * (cutTo 3000 s).size := by have := h.1; have := h.2; omega
    have hz := chg_size (cutTo 3000 s) bit.toNat 1
    have h5 : (txt (CrcM.chg (cutTo 3000 s).data.toList bit.toNat 1)).size ≤ maxLen := by unfold maxLen; omega
    have hq : ((txt (CrcM.chg (cutTo 3000 s).data.toList bit.toNat 1)).toList == (cutTo 3000 s).toList) = false := by
      rw [Lib.toList_data, Lib.toList_data, txt_toList, beq_eq_false_iff_ne]
      exact CrcM.chg_ne _ _ (by simpa using hB)
    have hn : (((CrcM.sum (txt (CrcM.chg (cutTo 3000 s).data.toList bit.toNat 1)).data.toList).toNat : Int) != ((CrcM.sum (cutTo 3000 s).data.toList).toNat : Int)) = true := by
      rw [bne_iff_ne]
      have := sum_ne (cutTo 3000 s) bit.toNat hB
      omega
    have hcall := fun w => crcChangeIn (cutTo 3000 s) bit 1#32 h4 h w
    have hcall' : ∀ w : World, Calls Try.prog 19 #[.string (cutTo 3000 s), .int .i64 bit, .int .u32 1] w fun e w' => e = .returned (.tuple #[.string (txt (CrcM.chg (cutTo 3000 s).data.toList bit.toNat 1)), .int .i64 0]) ∧ Below w.heap.size w w' := hcall
    generalize txt (CrcM.chg (cutTo 3000 s).data.toList bit.toNat 1) = T at *
    have HC := Lib.hid hcall'
    clear hz hcall hcall'
    go_enter Try.func10, Try.ntmps10
    go_wp2_with (first
      | (go_at_call 11; refine (lawShown _).mono ?_; rintro e w1 ⟨rfl, hb1⟩; replace hb := hb.trans (hb1.mono hb.size); clear hb1)
      | (go_at_call 15; refine (lawCut _ hs _).mono ?_; rintro e w' ⟨rfl, rfl⟩)
      | (go_at_call 19; refine (HC.out _).mono ?_; rintro e w1 ⟨rfl, hb1⟩; replace hb := hb.trans (hb1.mono hb.size); clear hb1)
      | (fail))
    refine (crcSum _ h5 _).mono ?_
    rintro e w4 ⟨rfl, hb1⟩
    replace hb := hb.trans (hb1.mono hb.size)
    clear hb1
    go_wp2_with fail
    refine (crcSum _ h4' _).mono ?_
    rintro e w5 ⟨rfl, hb1⟩
    replace hb := hb.trans (hb1.mono hb.size)
    clear hb1
    go_wp2_with fail
    go_ret
    exact ⟨rfl, hb⟩
  · have hcall := fun w => crcChangeOut (cutTo 3000 s) bit 1#32 h4 h1 h w
    have hcall' : ∀ w : World, Calls Try.prog 19 #[.string (cutTo 3000 s), .int .i64 bit, .int .u32 1] w fun e w' => e = .returned (.tuple #[.string ⟨#[]⟩, .int .i64 2]) ∧ Below w.heap.size w w' := hcall
    have HC := Lib.hid hcall'
    clear hcall hcall'
    go_enter Try.func10, Try.ntmps10
    go_wp2_with (first
      | (go_at_call 11; refine (lawShown _).mono ?_; rintro e w1 ⟨rfl, hb1⟩; replace hb := hb.trans (hb1.mono hb.size); clear hb1)
      | (go_at_call 15; refine (lawCut _ hs _).mono ?_; rintro e w' ⟨rfl, rfl⟩)
      | (go_at_call 19; refine (HC.out _).mono ?_; rintro e w1 ⟨rfl, hb1⟩; replace hb := hb.trans (hb1.mono hb.size); clear hb1))
    go_ret
    exact ⟨rfl, hb⟩
end Go.Proofs.Ytigljdnnoncpfaa
