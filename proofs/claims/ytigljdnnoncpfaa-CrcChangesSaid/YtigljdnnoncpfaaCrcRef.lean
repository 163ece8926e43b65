/-
  What the document's answer to crc.Open comes to; what the statements of layer 1 begin with.
-/
import Derived.Test.YtigljdnnoncpfaaCrcOpen2
namespace Go.Proofs.Ytigljdnnoncpfaa
open Go.RowKit Go.Shelf
attribute [local go_sem] Oper.semAt_some

theorem opened_get (s : ByteArray) (k : Nat) (hk : s.size = k + 4) (l : List UInt8) (hl : (s.extract k s.size).data.toList = l) : CrcM.opened s.data.toList = decide (CrcM.get l = CrcM.sum (s.data.toList.take k)) := by
  have hn : s.data.toList.length = s.size := by simp
  have hd : s.data.toList.drop k = l := by
    rw [← hl, Lib.extract_data, List.take_of_length_le (by rw [List.length_drop, hn]; omega)]
  have h4 : l.length = 4 := by rw [← hd, List.length_drop, hn]; omega
  rw [CrcM.opened, hn, hk, Nat.add_sub_cancel, hd]
  simp only [show (4 ≤ k + 4) from by omega, decide_true, Bool.true_and]
  rw [Bool.eq_iff_iff, beq_iff_eq, decide_eq_true_iff]
  exact ⟨fun h => by rw [h, CrcM.get_put], fun h => by rw [← h, CrcM.put_get l h4]⟩
theorem last_four (s : ByteArray) (k : Nat) (hk : s.size = k + 4) : ∃ a b c d, s.extract k s.size = ⟨#[a, b, c, d]⟩ := four _ (by rw [ByteArray.size_extract]; omega)
set_option maxRecDepth 100000 in
theorem refOpenNo (s : ByteArray) (h : s.size < 4) (w : World) : Calls Try.prog 24 #[.string s] w fun e w' => e = .returned (.tuple #[.string ⟨#[]⟩, .bool false]) ∧ Below w.heap.size w w' := by
  have hd : decide ((s.size : Int) < 4) = true := by simp; omega
  go_enter Try.func24, Try.ntmps24
  go_wp2
  go_ret2
  exact ⟨rfl, Below.refl _ _⟩
set_option maxRecDepth 100000 in
set_option maxHeartbeats 1000000 in
theorem refOpenYes (s : ByteArray) (k : Nat) (hk : s.size = k + 4) (hs : s.size ≤ 100000) (ho : CrcM.opened s.data.toList = true) (w : World) : Calls Try.prog 24 #[.string s] w fun e w' =>
    e = .returned (.tuple #[.string (s.extract 0 k), .bool true]) ∧ Below w.heap.size w w' := by
  have hks : k ≤ s.size := by omega
  have hk' : (s.size : Int) - 4 = (k : Int) := by omega
  have hm : (s.extract 0 k).size ≤ maxLen := by rw [ByteArray.size_extract]; unfold maxLen; omega
  obtain ⟨a, b, c, d, hf⟩ := last_four s k hk
  have hg := opened_get s k hk [a, b, c, d] (by rw [hf])
  rw [ho] at hg
  have hq : (((CrcM.get [a, b, c, d]).toNat : Int) != ((CrcM.sum (s.data.toList.take k)).toNat : Int)) = false := by
    rw [of_decide_eq_true hg.symm]; simp
  have hd : decide ((s.size : Int) < 4) = false := by simp; omega
  have hcall := refGet4 a b c d
  rw [← hf] at hcall
  have HQ := Lib.hid hq
  have HC := Lib.hid hcall
  clear hk hq ho hf hg hcall
  go_enter Try.func24, Try.ntmps24
  go_wp2_with fail
  refine (HC.out _).mono ?_
  rintro e w1 ⟨rfl, n1, rfl⟩
  go_wp2_with fail
  refine (refSum _ hm _).mono ?_
  rintro e w2 ⟨rfl, rfl⟩
  have hq := HQ.out
  go_wp2
  go_ret2
  exact ⟨rfl, below_drewN (Below.refl _ _) _⟩
set_option maxRecDepth 100000 in
set_option maxHeartbeats 1000000 in
theorem refOpenFails (s : ByteArray) (k : Nat) (hk : s.size = k + 4) (hs : s.size ≤ 100000) (ho : CrcM.opened s.data.toList = false) (w : World) : Calls Try.prog 24 #[.string s] w fun e w' =>
    e = .returned (.tuple #[.string ⟨#[]⟩, .bool false]) ∧ Below w.heap.size w w' := by
  have hks : k ≤ s.size := by omega
  have hk' : (s.size : Int) - 4 = (k : Int) := by omega
  have hm : (s.extract 0 k).size ≤ maxLen := by rw [ByteArray.size_extract]; unfold maxLen; omega
  obtain ⟨a, b, c, d, hf⟩ := last_four s k hk
  have hg := opened_get s k hk [a, b, c, d] (by rw [hf])
  rw [ho] at hg
  have hq : (((CrcM.get [a, b, c, d]).toNat : Int) != ((CrcM.sum (s.data.toList.take k)).toNat : Int)) = true := by
    rw [bne_iff_ne]
    exact fun e => of_decide_eq_false hg.symm (BitVec.eq_of_toNat_eq (by omega))
  have hd : decide ((s.size : Int) < 4) = false := by simp; omega
  have hcall := refGet4 a b c d
  rw [← hf] at hcall
  have HQ := Lib.hid hq
  have HC := Lib.hid hcall
  clear hk hq ho hf hg hcall
  go_enter Try.func24, Try.ntmps24
  go_wp2_with fail
  refine (HC.out _).mono ?_
  rintro e w1 ⟨rfl, n1, rfl⟩
  go_wp2_with fail
  refine (refSum _ hm _).mono ?_
  rintro e w2 ⟨rfl, rfl⟩
  have hq := HQ.out
  go_wp2
  go_ret2
  exact ⟨rfl, below_drewN (Below.refl _ _) _⟩
end Go.Proofs.Ytigljdnnoncpfaa
