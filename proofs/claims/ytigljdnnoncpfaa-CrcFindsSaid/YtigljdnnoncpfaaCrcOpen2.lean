/-
  What crc.Open, and the document's answer to it, come to.
-/
import Derived.Test.YtigljdnnoncpfaaCrcOpen
import Derived.Deep.RegionHeld3
import Derived.RegionTactic
namespace Go.Proofs.Ytigljdnnoncpfaa
open Go.RowKit Go.Shelf
attribute [local go_sem] Oper.semAt_some

theorem below_drewN {B : Nat} {a w : World} (h : Below B a w) (n : Nat) : Below B a (w.drewN n) := ⟨h.os, h.tape, h.output, h.size, h.block⟩
set_option maxRecDepth 100000 in
theorem crcOpenNo (s : ByteArray) (h : s.size < 4) (w : World) : Calls Try.prog 23 #[.string s] w fun e w' => e = .returned (.tuple #[.string ⟨#[]⟩, .bool false]) ∧ Below w.heap.size w w' := by
  have hd : decide ((s.size : Int) - 4 < 0) = true := by simp; omega
  go_enter Try.func23, Try.ntmps23
  go_wp2
  go_quiet (fail)
  go_wp2
  go_ret2
  exact ⟨rfl, below_drewN (Below.refl _ _) _⟩
theorem opened_spelled (s : ByteArray) (k : Nat) (hk : s.size = k + 4) : ((s.extract k s.size).toList == (txt (CrcM.put (CrcM.sum (List.take k s.data.toList)))).toList) = CrcM.opened s.data.toList := by
  have hl : s.data.toList.length = s.size := by simp
  rw [Lib.toList_data, Lib.toList_data, txt_toList, Lib.extract_data, CrcM.opened, hl, hk, Nat.add_sub_cancel, List.take_of_length_le (by rw [List.length_drop, hl]; omega)]
  simp
set_option maxRecDepth 100000 in
set_option maxHeartbeats 1000000 in
theorem crcOpenYes (s : ByteArray) (k : Nat) (hk : s.size = k + 4) (hs : s.size ≤ 100000) (ho : CrcM.opened s.data.toList = true) (w : World) : Calls Try.prog 23 #[.string s] w fun e w' =>
    e = .returned (.tuple #[.string (s.extract 0 k), .bool true]) ∧ Below w.heap.size w w' := by
  have hks : k ≤ s.size := by omega
  have hk' : (s.size : Int) - 4 = (k : Int) := by omega
  have hd : decide ((k : Int) < 0) = false := by simp
  have hm : (s.extract 0 k).size ≤ maxLen := by rw [ByteArray.size_extract]; unfold maxLen; omega
  have hc : (s.extract 0 k).size ≤ 281474976710656 := by rw [ByteArray.size_extract]; omega
  have hq := opened_spelled s k hk
  rw [ho] at hq
  have HK := Lib.hid hk
  have HQ := Lib.hid hq
  have HK' := Lib.hid hk'
  clear hk hq ho hk'
  go_enter Try.func23, Try.ntmps23
  go_wp2
  rw [HK'.out]
  go_region_held3 (fun _ => True) (trivial) (first | (go_at_call 14; refine (crcSum _ hm _).mono ?_; rintro e w1 ⟨rfl, hb1⟩) | (go_at_call 25; refine (crcPut _ _).mono ?_; rintro e w2 ⟨rfl, hb2⟩))
  rw [HQ.out]
  go_wp2_with (go_at_call 32; refine (Try.strings_Clone _ _ hc).mono ?_; rintro e w3 ⟨rfl, hb3⟩)
  go_ret2
  exact ⟨rfl, ((Below.refl _ _).drew.trans (hb1.mono (by simp))).trans ((hb2.mono (by have := hb1.size; simp at this; omega)).trans (hb3.mono (by have := hb1.size; have := hb2.size; simp at *; omega)))⟩
set_option maxRecDepth 100000 in
set_option maxHeartbeats 1000000 in
theorem crcOpenFails (s : ByteArray) (k : Nat) (hk : s.size = k + 4) (hs : s.size ≤ 100000) (ho : CrcM.opened s.data.toList = false) (w : World) : Calls Try.prog 23 #[.string s] w fun e w' =>
    e = .returned (.tuple #[.string ⟨#[]⟩, .bool false]) ∧ Below w.heap.size w w' := by
  have hks : k ≤ s.size := by omega
  have hk' : (s.size : Int) - 4 = (k : Int) := by omega
  have hd : decide ((k : Int) < 0) = false := by simp
  have hm : (s.extract 0 k).size ≤ maxLen := by rw [ByteArray.size_extract]; unfold maxLen; omega
  have hq := opened_spelled s k hk
  rw [ho] at hq
  have HK := Lib.hid hk
  have HQ := Lib.hid hq
  have HK' := Lib.hid hk'
  clear hk hq ho hk'
  go_enter Try.func23, Try.ntmps23
  go_wp2
  rw [HK'.out]
  go_region_held3 (fun _ => True) (trivial) (first | (go_at_call 14; refine (crcSum _ hm _).mono ?_; rintro e w1 ⟨rfl, hb1⟩) | (go_at_call 25; refine (crcPut _ _).mono ?_; rintro e w2 ⟨rfl, hb2⟩))
  rw [HQ.out]
  go_wp2
  go_ret2
  exact ⟨rfl, ((Below.refl _ _).drew.trans (hb1.mono (by simp))).trans (hb2.mono (by have := hb1.size; simp at this; omega))⟩
end Go.Proofs.Ytigljdnnoncpfaa
