/-
  What the document's answer to crc.Open comes to; what the statements of layer 1 begin with.
-/
import Derived.Test.YtnbognhnjflccaaCrcOpen2
namespace Go.Proofs.Ytnbognhnjflccaa
open Go.RowKit Go.Shelf
attribute [local go_sem] Oper.semAt_some

theorem opened_get (s : ByteArray) (k : Nat) (hk : s.size = k + 4) (l : List UInt8) (hl : (s.extract k s.size).data.toList = l) : CrcM.opened s.data.toList = decide (CrcM.get l = CrcM.sum (s.data.toList.take k)) := by
  have hn : s.data.toList.length = s.size := by simp
  have hd : s.data.toList.drop k = l := by
    rw [← hl, Lib.extract_data, List.take_of_length_le (by rw [List.length_drop, hn]; omega)]
  have h4 : l.length = 4 := by rw [← hd, List.length_drop, hn]; omega
  rw [CrcM.opened, hn, hk, Nat.add_sub_cancel, hd]
  simp only [show (4 ≤ k + 4) from by omega, decide_true, Bool.true_and]
  rw [Bool.eq_iff_iff, beq_iff_eq, decide_eq_true_iff]
  exact ⟨fun h => by rw [h, CrcM.get_put], fun h => by rw [← h, CrcM.put_get l h4]⟩
theorem last_four (s : ByteArray) (k : Nat) (hk : s.size = k + 4) : ∃ a b c d, s.extract k s.size = ⟨#[a, b, c, d]⟩ := four _ (by rw [ByteArray.size_extract]; omega)
set_option maxRecDepth 100000 in
theorem refOpenNo (s : ByteArray) (h : s.size < 4) (w : World) : Calls Try.prog 24 #[.string s] w fun e w' => e = .returned (.tuple #[.string ⟨#[]⟩, .bool false]) ∧ Below w.heap.size w w' := by
  have hd : decide ((s.size : Int) < 4) = true := by simp; omega
  go_enter Try.func24, Try.ntmps24
  go_wp2
  go_ret2
  exact ⟨rfl, Below.refl _ _⟩
set_option maxRecDepth 100000 in
set_option maxHeartbeats 1000000 in
theorem refOpenYes (s : ByteArray) (k : Nat) (hk : s.size = k + 4) (hs : s.size ≤ 100000) (ho : CrcM.opened s.data.toList = true) (w : World) : Calls Try.prog 24 #[.string s] w fun e w' =>
    e = .returned (.tuple #[.string (s.extract 0 k), .bool true]) ∧ Below w.heap.size w w' := by
  have hks : k ≤ s.size := by omega
  have hk' : (s.size : Int) - 4 = (k : Int) := by omega
  have hm : (s.extract 0 k).size ≤ maxLen := by rw [ByteArray.size_extract]; unfold maxLen; omega
  obtain ⟨a, b, c, d, hf⟩ := last_four s k hk
  have hg := opened_get s k hk [a, b, c, d] (by rw [hf])
  rw [ho] at hg
  have hq : (((CrcM.get [a, b, c, d]).toNat : Int) != ((CrcM.sum (s.data.toList.take k)).toNat : Int)) = false := by
    rw [of_decide_eq_true hg.symm]; simp
  have hd : decide ((s.size : Int) < 4) = false := by simp; omega
  have hcall := refGet4 a b c d
  rw [← hf] at hcall
  have HQ := Lib.hid hq
  have HC := Lib.hid hcall
  clear hk hq ho hf hg hcall
  go_enter Try.func24, Try.ntmps24
  go_wp2_with fail
  refine (HC.out _).mono ?_
  rintro e w1 ⟨rfl, n1, rfl⟩
  go_wp2_with fail
  refine (refSum _ hm _).mono ?_
  rintro e w2 ⟨rfl, rfl⟩
  have hq := HQ.out
  go_wp2
  go_ret2
  exact ⟨rfl, below_drewN (Below.refl _ _) _⟩
set_option maxRecDepth 100000 in
set_option maxHeartbeats 1000000 in
theorem refOpenFails (s : ByteArray) (k : Nat) (hk : s.size = k + 4) (hs : s.size ≤ 100000) (ho : CrcM.opened s.data.toList = false) (w : World) : Calls Try.prog 24 #[.string s] w fun e w' =>
    e = .returned (.tuple #[.string ⟨#[]⟩, .bool false]) ∧ Below w.heap.size w w' := by
  have hks : k ≤ s.size := by omega
  have hk' : (s.size : Int) - 4 = (k : Int) := by omega
  have hm : (s.extract 0 k).size ≤ maxLen := by rw [ByteArray.size_extract]; unfold maxLen; omega
  obtain ⟨a, b, c, d, hf⟩ := last_four s k hk
  have hg := opened_get s k hk [a, b, c, d] (by rw [hf])
  rw [ho] at hg
  have hq : (((CrcM.get [a, b, c, d]).toNat : Int) != ((CrcM.sum (s.data.toList.take k)).toNat : Int)) = true := by
    rw [bne_iff_ne]
    exact fun e => of_decide_eq_false hg.symm (BitVec.eq_of_toNat_eq (by omega))
  have hd : decide ((s.size : Int) < 4) = false := by simp; omega
  have hcall := refGet4 a b c d
  rw [← hf] at hcall
  have HQ := Lib.hid hq
  have HC := Lib.hid hcall
  clear hk hq ho hf hg hcall
  go_enter Try.func24, Try.ntmps24
  go_wp2_with fail
  refine (HC.out _).mono ?_
  rintro e w1 ⟨rfl, n1, rfl⟩
  go_wp2_with fail
  refine (refSum _ hm _).mono ?_
  rintro e w2 ⟨rfl, rfl⟩
  have hq := HQ.out
  go_wp2
  go_ret2
  exact ⟨rfl, below_drewN (Below.refl _ _) _⟩

theorem sum_nine : CrcM.sum [49, 50, 51, 52, 53, 54, 55, 56, 57] = 0xcbf43926#32 := by decide +kernel
theorem crcSum9 (w : World) : Calls Try.prog 14 #[.string ⟨#[49, 50, 51, 52, 53, 54, 55, 56, 57]⟩] w fun e w' => e = .returned (.int .u32 3421780262) ∧ Below w.heap.size w w' :=
  (crcSum ⟨#[49, 50, 51, 52, 53, 54, 55, 56, 57]⟩ (by show 9 ≤ maxLen; unfold maxLen; omega) w).mono fun e w' ⟨he, hb⟩ => ⟨by rw [he]; exact ret_int (congrArg (fun x : BitVec 32 => (x.toNat : Int)) sum_nine), hb⟩
theorem seal_none : CrcM.seal' [] = [0, 0, 0, 0] := by decide +kernel
theorem crcSeal0 (w : World) : Calls Try.prog 27 #[.string ⟨#[]⟩] w fun e w' => e = .returned (.string ⟨#[0, 0, 0, 0]⟩) ∧ Below w.heap.size w w' :=
  (crcSeal ⟨#[]⟩ (by show 0 ≤ 100000; omega) w).mono fun e w' ⟨he, hb⟩ => ⟨by rw [he]; exact congrArg (fun l => Ending.returned (.string (txt l))) seal_none, hb⟩
set_option maxRecDepth 100000 in
set_option maxHeartbeats 1000000 in
theorem lawShown (w : World) : Calls Try.prog 11 #[] w fun e w' => e = .returned (.bool true) ∧ Below w.heap.size w w' := by
  go_enter Try.func11, Try.ntmps11
  go_wp2_with (first | (go_at_call 21; refine (crcGetNo ⟨#[]⟩ (by decide) _).mono ?_; rintro e w' ⟨rfl, rfl⟩) | (go_at_call 14; refine (crcSum9 _).mono ?_; rintro e w1 ⟨rfl, hb1⟩) | (go_at_call 27; refine (crcSeal0 _).mono ?_; rintro e w2 ⟨rfl, hb2⟩))
  go_ret
  exact ⟨rfl, hb1.trans (hb2.mono hb1.size)⟩
/-- The first bytes of a text. -/
def cutTo (n : Nat) (s : ByteArray) : ByteArray := s.extract 0 (min s.size n)
theorem cutTo_size (n : Nat) (s : ByteArray) : (cutTo n s).size ≤ n := by rw [cutTo, ByteArray.size_extract]; omega
theorem cut_spelled (n : Nat) (s : ByteArray) : s.extract 0 (min (s.size : Int) (n : Int)).toNat = cutTo n s := by
  rw [cutTo, show (min (s.size : Int) (n : Int)).toNat = min s.size n from by omega]
set_option maxRecDepth 100000 in
theorem lawCut (s : ByteArray) (hs : s.size ≤ maxLen) (w : World) : Calls Try.prog 15 #[.string s] w fun e w' => e = .returned (.string (cutTo 3000 s)) ∧ w = w' := by
  unfold maxLen at hs
  go_enter Try.func15, Try.ntmps15
  go_wp2
  go_ret
  exact ⟨by rw [← cut_spelled]; rfl, rfl⟩
end Go.Proofs.Ytnbognhnjflccaa
