/-
  What the functions of package crc, and of the document's answers to it, come to: sums, numbers as bytes, sealing, opening.
-/
import Derived.Test.YtigljdnnoncpfaaCrcWalks
import Derived.Test.YtigljdnnoncpfaaShelfClone
import Derived.Laws.IdiomStrings
namespace Go.Proofs.Ytigljdnnoncpfaa
open Go.RowKit Go.Shelf
attribute [local go_sem] Oper.semAt_some

/-- A text of bytes. -/
def txt (l : List UInt8) : ByteArray := ⟨l.toArray⟩
theorem txt_data (s : ByteArray) : txt s.data.toList = s := by simp [txt]
theorem txt_toList (l : List UInt8) : (txt l).data.toList = l := by simp [txt]

theorem crcSum (s : ByteArray) (hs : s.size ≤ maxLen) (w : World) : Calls Try.prog 14 #[.string s] w fun e w' =>
    e = .returned (.int .u32 ((CrcM.sum s.data.toList).toNat : Int)) ∧ Below w.heap.size w w' := by
  go_enter Try.func14, Try.ntmps14
  go_wp2_with (go_at_call 17; refine (crcMore 0#32 s hs _).mono ?_; rintro e w' ⟨rfl, hb⟩)
  go_ret
  exact ⟨rfl, hb⟩
theorem not_spelled (x : BitVec 32) : ((4294967295 - x.toNat : Nat) : Int) = ((~~~ x).toNat : Int) := by rw [BitVec.toNat_not]
set_option maxRecDepth 100000 in
set_option maxHeartbeats 400000 in
theorem refMore (m : BitVec 32) (s : ByteArray) (hs : s.size ≤ maxLen) (w : World) : Calls Try.prog 18 #[.int .u32 (m.toNat : Int), .string s] w fun e w' =>
    e = .returned (.int .u32 ((CrcM.more m s.data.toList).toNat : Int)) ∧ w = w' := by
  unfold maxLen at hs
  have hfin : ∀ q, ~~~ m = q → ~~~ (CrcM.reg q s.data.toList) = CrcM.more m s.data.toList := fun q h => by rw [← h]; rfl
  have hcall := refOver m
  obtain ⟨q, hq⟩ : ∃ q, ~~~ m = q := ⟨_, rfl⟩
  rw [hq] at hcall
  replace hfin := hfin q hq
  have HF := Lib.hid hfin
  have HC := Lib.hid hcall
  clear hq hfin hcall
  go_enter Try.func18, Try.ntmps18
  go_wp2_with (go_at_call 30; refine (HC.out _).mono ?_; rintro e w' ⟨rfl, rfl⟩)
  go_loopw [5, 6] (fun x i W => W = w ∧ ∃ k : Nat, k ≤ s.size ∧ i = .int .i64 k ∧ x = .int .u32 ((CrcM.reg q (s.data.toList.take k)).toNat : Int)) (fun _ i _ => s.size - (intOf i).toNat)
  case atStart => exact ⟨rfl, 0, by omega, rfl, rfl⟩
  case round =>
    obtain ⟨rfl, k, hk, rfl, rfl⟩ := hrel
    by_cases hlt : k < s.size
    · have hsn := take_snoc s k hlt
      have HS := Lib.hid hsn
      clear hsn
      go_wp2_with (go_at_call 13; refine (refStep _ _ _).mono ?_; rintro e w' ⟨rfl, rfl⟩)
      go_roundw
      case rel => exact ⟨by trivial, k + 1, by omega, by go_num, by rw [HS.out, CrcM.reg_snoc]⟩
      case measure => simp [intOf]; omega
    · have hk' : k = s.size := by omega
      have HK := Lib.hid hk'
      clear hk'
      go_wp2_with (go_at_call 30; refine (refOver _ _).mono ?_; rintro e w' ⟨rfl, rfl⟩)
      go_ret
      exact ⟨ret_int (by rw [← HF.out, List.take_of_length_le (by rw [HK.out]; simp)]; exact not_spelled _), rfl⟩
theorem refSum (s : ByteArray) (hs : s.size ≤ maxLen) (w : World) : Calls Try.prog 16 #[.string s] w fun e w' =>
    e = .returned (.int .u32 ((CrcM.sum s.data.toList).toNat : Int)) ∧ w = w' := by
  go_enter Try.func16, Try.ntmps16
  go_wp2_with (go_at_call 18; refine (refMore 0#32 s hs _).mono ?_; rintro e w' ⟨rfl, rfl⟩)
  go_ret
  exact ⟨rfl, rfl⟩
/-- Cells that hold bytes. -/
def Holds (w : World) (b o : Nat) (l : List UInt8) : Prop := ∀ j (hj : j < l.length), w.cell? ⟨b, o + j, none⟩ = some (.int .u8 (l[j].toNat : Int))
theorem add_at (b o j : Nat) : (Addr.add ⟨b, o, none⟩ j) = ⟨b, o + j, none⟩ := by
  simp only [Addr.add]
  split <;> simp_all
theorem run_text (w : World) (b o cap : Nat) (l : List UInt8) (h : Holds w b o l) :
    (convert 46 9 (.slice (some ⟨b, o, none⟩) l.length cap)).run Try.prog w = .ok (.string (txt l)) w :=
  run_convert_bytes_back w 46 9 5 ⟨b, o, none⟩ cap l Try.underlying46 Try.underlying5 Try.underlying9 (fun j hj => by rw [add_at]; exact h j hj)
theorem crcText (w : World) (b o len cap : Nat) (l : List UInt8) (hl : len = l.length) (h : Holds w b o l) : Calls Try.prog 31 #[.slice (some ⟨b, o, none⟩) len cap] w fun e w' => e = .returned (.string (txt l)) ∧ w = w' := by
  subst hl
  have hr := run_text w b o cap l h
  go_enter Try.func31, Try.ntmps31
  go_wp2
  go_ret
  exact ⟨rfl, rfl⟩
theorem byte_at (n j : Nat) : ((UInt8.ofNat (n / 256 ^ j)).toNat : Int) = ((n : Int) / ((256 ^ j : Nat) : Int)) % 256 := by
  rw [UInt8.toNat_ofNat']; omega
/-- The four bytes of a number, as the walk lays them. -/
theorem holds_put (w : World) (n : BitVec 32) :
    Holds (w.alloc (.cells #[.int .u8 ((n.toNat : Int) % 256), .int .u8 ((n.toNat : Int) / 256 % 256), .int .u8 ((n.toNat : Int) / 65536 % 256), .int .u8 ((n.toNat : Int) / 16777216)] 5)) w.heap.size 0 (CrcM.put n) := by
  intro j hj
  have hn := n.isLt
  rw [CrcM.put_length] at hj
  have : j = 0 ∨ j = 1 ∨ j = 2 ∨ j = 3 := by omega
  rcases this with rfl | rfl | rfl | rfl <;> simp [CrcM.put, CrcM.bytesN] <;> omega
set_option maxRecDepth 100000 in
theorem crcPut (n : BitVec 32) (w : World) : Calls Try.prog 25 #[.int .u32 (n.toNat : Int)] w fun e w' => e = .returned (.string (txt (CrcM.put n))) ∧ Below w.heap.size w w' := by
  go_enter Try.func25, Try.ntmps25
  go_wp2_with (go_at_call 31; refine (crcText _ _ 0 4 4 (CrcM.put n) (CrcM.put_length n).symm (holds_put w n)).mono ?_; rintro e w' ⟨rfl, rfl⟩)
  go_ret
  exact ⟨rfl, (Below.refl _ _).alloc (Nat.le_refl _) _⟩
set_option maxRecDepth 100000 in
theorem refPut (n : BitVec 32) (w : World) : Calls Try.prog 26 #[.int .u32 (n.toNat : Int)] w fun e w' => e = .returned (.string (txt (CrcM.put n))) ∧ Below w.heap.size w w' := by
  have hr := run_text _ w.heap.size 0 4 (CrcM.put n) (holds_put w n)
  rw [CrcM.put_length] at hr
  go_enter Try.func26, Try.ntmps26
  go_wp2
  go_ret
  exact ⟨rfl, (Below.refl _ _).alloc (Nat.le_refl _) _⟩
end Go.Proofs.Ytigljdnnoncpfaa
