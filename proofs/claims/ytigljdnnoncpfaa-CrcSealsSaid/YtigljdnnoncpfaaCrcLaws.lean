/-
  The statements of layer 1, walked: sums, parts, sealing, what is sealed is opened.
-/
import Derived.Test.YtigljdnnoncpfaaCrcRefLaw
namespace Go.Proofs.Ytigljdnnoncpfaa
open Go.RowKit Go.Shelf
attribute [local go_sem] Oper.semAt_some

set_option maxRecDepth 100000 in
set_option maxHeartbeats 1000000 in
theorem lawSums (n : BitVec 32) (b : UInt8) (s : ByteArray) (hs : s.size ≤ maxLen) (w : World) : Calls Try.prog 3 #[.int .u32 (n.toNat : Int), .int .u8 (b.toNat : Int), .string s] w fun e w' =>
    e = .returned (.bool true) ∧ Below w.heap.size w w' := by
  have h3 : (cutTo 3000 s).size ≤ maxLen := by have := cutTo_size 3000 s; unfold maxLen; omega
  have hb : Below w.heap.size w w := Below.refl _ _
  go_enter Try.func3, Try.ntmps3
  go_wp2_with (first
    | (go_at_call 11; refine (lawShown _).mono ?_; rintro e w1 ⟨rfl, hb1⟩; replace hb := hb.trans (hb1.mono hb.size); clear hb1)
    | (go_at_call 12; refine (crcStep _ _ _).mono ?_; rintro e w' ⟨rfl, rfl⟩)
    | (go_at_call 13; refine (refStep _ _ _).mono ?_; rintro e w' ⟨rfl, rfl⟩)
    | (go_at_call 15; refine (lawCut _ hs _).mono ?_; rintro e w' ⟨rfl, rfl⟩)
    | (go_at_call 14; refine (crcSum _ h3 _).mono ?_; rintro e w1 ⟨rfl, hb1⟩; replace hb := hb.trans (hb1.mono hb.size); clear hb1)
    | (go_at_call 16; refine (refSum _ h3 _).mono ?_; rintro e w' ⟨rfl, rfl⟩)
    | (go_at_call 17; refine (crcMore _ _ h3 _).mono ?_; rintro e w1 ⟨rfl, hb1⟩; replace hb := hb.trans (hb1.mono hb.size); clear hb1)
    | (go_at_call 18; refine (refMore _ _ h3 _).mono ?_; rintro e w' ⟨rfl, rfl⟩))
  go_ret
  exact ⟨rfl, hb⟩

theorem u32_of_wf {n : Int} (h : (Lit.int .u32 n).wf = true) : ∃ x : BitVec 32, n = (x.toNat : Int) := by
  simp [Lit.wf, IntKind.min, IntKind.max, IntKind.signed, IntKind.bits] at h
  exact nat_bv n (by omega) (by omega)
theorem u8_of_wf {n : Int} (h : (Lit.int .u8 n).wf = true) : ∃ x : UInt8, n = (x.toNat : Int) := by
  simp [Lit.wf, IntKind.min, IntKind.max, IntKind.signed, IntKind.bits] at h
  exact ⟨UInt8.ofNat n.toNat, by rw [UInt8.toNat_ofNat']; omega⟩
theorem lawSums_row (a0 a1 : Int) (a2 : ByteArray) (w0 : (Lit.int .u32 a0).wf = true) (w1 : (Lit.int .u8 a1).wf = true) (w2 : a2.size ≤ maxLen) (W : World) : Calls Try.prog 3 #[.int .u32 a0, .int .u8 a1, .string a2] W fun e w' =>
    e = .returned (.bool true) ∧ Below W.heap.size W w' := by
  obtain ⟨n, rfl⟩ := u32_of_wf w0
  obtain ⟨b, rfl⟩ := u8_of_wf w1
  exact lawSums n b a2 w2 W

theorem append_toList (s t : ByteArray) : (s ++ t).data.toList = s.data.toList ++ t.data.toList := by simp
set_option maxRecDepth 100000 in
set_option maxHeartbeats 1000000 in
theorem lawParts (s t : ByteArray) (hs : s.size ≤ maxLen) (ht : t.size ≤ maxLen) (w : World) : Calls Try.prog 8 #[.string s, .string t] w fun e w' =>
    e = .returned (.bool true) ∧ Below w.heap.size w w' := by
  have c1 : s.extract 0 (min (s.size : Int) 1500).toNat = cutTo 1500 s := cut_spelled 1500 s
  have c2 : t.extract 0 (min (t.size : Int) 1500).toNat = cutTo 1500 t := cut_spelled 1500 t
  have k1 := cutTo_size 1500 s
  have k2 := cutTo_size 1500 t
  have hb : Below w.heap.size w w := Below.refl _ _
  unfold maxLen at hs ht
  have C1 := Lib.hid c1
  have C2 := Lib.hid c2
  clear c1 c2
  go_enter Try.func8, Try.ntmps8
  go_wp2_with fail
  refine (lawShown _).mono ?_
  rintro e w1 ⟨rfl, hb1⟩
  replace hb := hb.trans (hb1.mono hb.size)
  clear hb1
  go_wp2_with fail
  rw [C1.out, C2.out]
  generalize cutTo 1500 s = S at *
  generalize cutTo 1500 t = T at *
  clear C1 C2 hs ht
  have h1 : S.size ≤ maxLen := by unfold maxLen; omega
  have h2 : T.size ≤ maxLen := by unfold maxLen; omega
  have h0 : (⟨#[]⟩ : ByteArray).size ≤ maxLen := Nat.zero_le _
  have h3 : (S ++ T).size ≤ maxLen := by rw [ByteArray.size_append]; unfold maxLen; omega
  have hl : ¬ 9223372036854775807 < S.size + T.size := by omega
  have hm : CrcM.more (CrcM.sum S.data.toList) T.data.toList = CrcM.sum (S ++ T).data.toList := by rw [append_toList]; exact CrcM.more_append _ _ _
  have hn : CrcM.more (CrcM.sum S.data.toList) (⟨#[]⟩ : ByteArray).data.toList = CrcM.sum S.data.toList := CrcM.more_nil _
  have HM := Lib.hid hm
  have HN := Lib.hid hn
  clear hm hn
  refine (crcSum _ h1 _).mono ?_
  rintro e w2 ⟨rfl, hb1⟩
  replace hb := hb.trans (hb1.mono hb.size)
  clear hb1
  go_wp2_with fail
  refine (crcMore _ _ h2 _).mono ?_
  rintro e w3 ⟨rfl, hb1⟩
  replace hb := hb.trans (hb1.mono hb.size)
  clear hb1
  rw [HM.out]
  go_wp2_with fail
  refine (crcSum _ h3 _).mono ?_
  rintro e w4 ⟨rfl, hb1⟩
  replace hb := hb.trans (hb1.mono hb.size)
  clear hb1
  go_wp2_with fail
  refine (crcSum _ h1 _).mono ?_
  rintro e w5 ⟨rfl, hb1⟩
  replace hb := hb.trans (hb1.mono hb.size)
  clear hb1
  go_wp2_with fail
  refine (crcMore _ _ h0 _).mono ?_
  rintro e w6 ⟨rfl, hb1⟩
  replace hb := hb.trans (hb1.mono hb.size)
  clear hb1
  rw [HN.out]
  go_wp2_with fail
  refine (crcSum _ h1 _).mono ?_
  rintro e w7 ⟨rfl, hb1⟩
  replace hb := hb.trans (hb1.mono hb.size)
  clear hb1
  go_wp2_with fail
  go_ret
  exact ⟨rfl, hb⟩

/-- What Get and Open answer, part by part. -/
def getN (s : ByteArray) : Int := if s.size = 4 then ((CrcM.get s.data.toList).toNat : Int) else 0
def getE (s : ByteArray) : Int := if s.size = 4 then 0 else 2
def openB (s : ByteArray) : Bool := decide (4 ≤ s.size) && CrcM.opened s.data.toList
def openT (s : ByteArray) : ByteArray := if openB s = true then s.extract 0 (s.size - 4) else ⟨#[]⟩
theorem crcGet (s : ByteArray) (w : World) : Calls Try.prog 21 #[.string s] w fun e w' => e = .returned (.tuple #[.int .u32 (getN s), .int .i64 (getE s)]) ∧ Below w.heap.size w w' := by
  by_cases h : s.size = 4
  · rw [getN, getE, if_pos h, if_pos h]
    obtain ⟨a, b, c, d, rfl⟩ := four s h
    exact crcGet4 a b c d w
  · rw [getN, getE, if_neg h, if_neg h]
    exact (crcGetNo s h w).mono fun e w' ⟨he, hw⟩ => ⟨he, hw ▸ Below.refl _ _⟩
theorem refGet (s : ByteArray) (w : World) : Calls Try.prog 22 #[.string s] w fun e w' => e = .returned (.tuple #[.int .u32 (getN s), .int .i64 (getE s)]) ∧ Below w.heap.size w w' := by
  by_cases h : s.size = 4
  · rw [getN, getE, if_pos h, if_pos h]
    obtain ⟨a, b, c, d, rfl⟩ := four s h
    exact (refGet4 a b c d w).mono fun e w' ⟨he, n, hw⟩ => ⟨he, hw ▸ below_drewN (Below.refl _ _) n⟩
  · rw [getN, getE, if_neg h, if_neg h]
    exact (refGetNo s h w).mono fun e w' ⟨he, hw⟩ => ⟨he, hw ▸ Below.refl _ _⟩
theorem crcOpen (s : ByteArray) (hs : s.size ≤ 100000) (w : World) : Calls Try.prog 23 #[.string s] w fun e w' => e = .returned (.tuple #[.string (openT s), .bool (openB s)]) ∧ Below w.heap.size w w' := by
  by_cases h : 4 ≤ s.size
  · cases ho : CrcM.opened s.data.toList with
    | true =>
      have hb : openB s = true := by rw [openB, ho, decide_eq_true h]; rfl
      rw [openT, if_pos hb, hb]
      exact crcOpenYes s (s.size - 4) (by omega) hs ho w
    | false =>
      have hb : openB s = false := by rw [openB, ho]; simp
      rw [openT, hb]
      exact crcOpenFails s (s.size - 4) (by omega) hs ho w
  · have hb : openB s = false := by rw [openB, decide_eq_false h]; rfl
    rw [openT, hb]
    exact crcOpenNo s (by omega) w
theorem refOpen (s : ByteArray) (hs : s.size ≤ 100000) (w : World) : Calls Try.prog 24 #[.string s] w fun e w' => e = .returned (.tuple #[.string (openT s), .bool (openB s)]) ∧ Below w.heap.size w w' := by
  by_cases h : 4 ≤ s.size
  · cases ho : CrcM.opened s.data.toList with
    | true =>
      have hb : openB s = true := by rw [openB, ho, decide_eq_true h]; rfl
      rw [openT, if_pos hb, hb]
      exact refOpenYes s (s.size - 4) (by omega) hs ho w
    | false =>
      have hb : openB s = false := by rw [openB, ho]; simp
      rw [openT, hb]
      exact refOpenFails s (s.size - 4) (by omega) hs ho w
  · have hb : openB s = false := by rw [openB, decide_eq_false h]; rfl
    rw [openT, hb]
    exact refOpenNo s (by omega) w

set_option maxRecDepth 100000 in
set_option maxHeartbeats 1000000 in
theorem lawSeals (s : ByteArray) (n : BitVec 32) (hs : s.size ≤ maxLen) (w : World) : Calls Try.prog 5 #[.string s, .int .u32 (n.toNat : Int)] w fun e w' =>
    e = .returned (.bool true) ∧ Below w.heap.size w w' := by
  have h3 : (cutTo 3000 s).size ≤ 100000 := by have := cutTo_size 3000 s; omega
  have hb : Below w.heap.size w w := Below.refl _ _
  go_enter Try.func5, Try.ntmps5
  go_wp2_with (first
    | (go_at_call 11; refine (lawShown _).mono ?_; rintro e w1 ⟨rfl, hb1⟩; replace hb := hb.trans (hb1.mono hb.size); clear hb1)
    | (go_at_call 15; refine (lawCut _ hs _).mono ?_; rintro e w' ⟨rfl, rfl⟩)
    | (go_at_call 21; refine (crcGet _ _).mono ?_; rintro e w1 ⟨rfl, hb1⟩; replace hb := hb.trans (hb1.mono hb.size); clear hb1)
    | (go_at_call 22; refine (refGet _ _).mono ?_; rintro e w1 ⟨rfl, hb1⟩; replace hb := hb.trans (hb1.mono hb.size); clear hb1)
    | (go_at_call 23; refine (crcOpen _ h3 _).mono ?_; rintro e w1 ⟨rfl, hb1⟩; replace hb := hb.trans (hb1.mono hb.size); clear hb1)
    | (go_at_call 24; refine (refOpen _ h3 _).mono ?_; rintro e w1 ⟨rfl, hb1⟩; replace hb := hb.trans (hb1.mono hb.size); clear hb1)
    | (go_at_call 25; refine (crcPut _ _).mono ?_; rintro e w1 ⟨rfl, hb1⟩; replace hb := hb.trans (hb1.mono hb.size); clear hb1)
    | (go_at_call 26; refine (refPut _ _).mono ?_; rintro e w1 ⟨rfl, hb1⟩; replace hb := hb.trans (hb1.mono hb.size); clear hb1)
    | (go_at_call 27; refine (crcSeal _ h3 _).mono ?_; rintro e w1 ⟨rfl, hb1⟩; replace hb := hb.trans (hb1.mono hb.size); clear hb1)
    | (go_at_call 28; refine (refSeal _ h3 _).mono ?_; rintro e w1 ⟨rfl, hb1⟩; replace hb := hb.trans (hb1.mono hb.size); clear hb1))
  go_ret
  exact ⟨rfl, hb⟩

theorem crcGetPut (n : BitVec 32) (w : World) : Calls Try.prog 21 #[.string (txt (CrcM.put n))] w fun e w' => e = .returned (.tuple #[.int .u32 (n.toNat : Int), .int .i64 0]) ∧ Below w.heap.size w w' :=
  (crcGet _ w).mono fun e w' ⟨he, hb⟩ => ⟨by rw [he, getN, getE, txt_size, CrcM.put_length, if_pos rfl, if_pos rfl, txt_toList, CrcM.get_put], hb⟩
theorem crcOpenSeal (s : ByteArray) (hs : s.size ≤ 3000) (w : World) : Calls Try.prog 23 #[.string (txt (CrcM.withSum s.data.toList))] w fun e w' => e = .returned (.tuple #[.string s, .bool true]) ∧ Below w.heap.size w w' := by
  have hl : s.data.toList.length = s.size := by simp
  have hz : (txt (CrcM.withSum s.data.toList)).size = s.size + 4 := by rw [txt_size, CrcM.seal_length, hl]
  refine (crcOpenYes _ s.size hz (by omega) (by rw [txt_toList]; exact CrcM.opened_seal _) w).mono fun e w' ⟨he, hb⟩ => ⟨?_, hb⟩
  rw [he]
  have : (txt (CrcM.withSum s.data.toList)).extract 0 s.size = s := by
    apply ByteArray.ext
    apply Array.toList_inj.1
    rw [Lib.extract_data, txt_toList, CrcM.withSum]
    simp [hl]
  rw [this]
set_option maxRecDepth 100000 in
set_option maxHeartbeats 1000000 in
theorem lawBack (s : ByteArray) (n : BitVec 32) (hs : s.size ≤ maxLen) (w : World) : Calls Try.prog 6 #[.string s, .int .u32 (n.toNat : Int)] w fun e w' =>
    e = .returned (.bool true) ∧ Below w.heap.size w w' := by
  have h3 := cutTo_size 3000 s
  have h4 : (cutTo 3000 s).size ≤ 100000 := by omega
  have hz : (((txt (CrcM.withSum (cutTo 3000 s).data.toList)).size : Int) == ((cutTo 3000 s).size : Int) + 4) = true := by
    rw [txt_size, CrcM.seal_length, beq_iff_eq]; simp
  have hb : Below w.heap.size w w := Below.refl _ _
  go_enter Try.func6, Try.ntmps6
  go_wp2_with (first
    | (go_at_call 11; refine (lawShown _).mono ?_; rintro e w1 ⟨rfl, hb1⟩; replace hb := hb.trans (hb1.mono hb.size); clear hb1)
    | (go_at_call 15; refine (lawCut _ hs _).mono ?_; rintro e w' ⟨rfl, rfl⟩)
    | (go_at_call 21; refine (crcGetPut _ _).mono ?_; rintro e w1 ⟨rfl, hb1⟩; replace hb := hb.trans (hb1.mono hb.size); clear hb1)
    | (go_at_call 23; refine (crcOpenSeal _ h3 _).mono ?_; rintro e w1 ⟨rfl, hb1⟩; replace hb := hb.trans (hb1.mono hb.size); clear hb1)
    | (go_at_call 25; refine (crcPut _ _).mono ?_; rintro e w1 ⟨rfl, hb1⟩; replace hb := hb.trans (hb1.mono hb.size); clear hb1)
    | (go_at_call 27; refine (crcSeal _ h4 _).mono ?_; rintro e w1 ⟨rfl, hb1⟩; replace hb := hb.trans (hb1.mono hb.size); clear hb1))
  go_ret
  exact ⟨rfl, hb⟩

theorem lawSeals_row (a0 : ByteArray) (a1 : Int) (w0 : a0.size ≤ maxLen) (w1 : (Lit.int .u32 a1).wf = true) (W : World) : Calls Try.prog 5 #[.string a0, .int .u32 a1] W fun e w' =>
    e = .returned (.bool true) ∧ Below W.heap.size W w' := by
  obtain ⟨n, rfl⟩ := u32_of_wf w1
  exact lawSeals a0 n w0 W
theorem lawBack_row (a0 : ByteArray) (a1 : Int) (w0 : a0.size ≤ maxLen) (w1 : (Lit.int .u32 a1).wf = true) (W : World) : Calls Try.prog 6 #[.string a0, .int .u32 a1] W fun e w' =>
    e = .returned (.bool true) ∧ Below W.heap.size W w' := by
  obtain ⟨n, rfl⟩ := u32_of_wf w1
  exact lawBack a0 n w0 W
end Go.Proofs.Ytigljdnnoncpfaa
