/-
  journal.Record; the pieces gone through.
-/
import Derived.Test.YtfbponiiejanfaaJWalk2
import Derived.Test.YtfbponiiejanfaaRange
import Derived.Deep.RegionHeld3
namespace Go.Proofs.Ytfbponiiejanfaa
open Go.RowKit Go.Shelf
attribute [local go_sem] Oper.semAt_some
set_option linter.unusedVariables false
set_option linter.unusedSimpArgs false

/-- What Record answers. -/
def recF (d : ByteArray) : ByteArray × Int := if d.size ≤ 4096 then (txt (J.rec d.data.toList), 0) else (⟨#[]⟩, 30)
set_option maxRecDepth 100000 in
set_option maxHeartbeats 2000000 in
theorem jRecord (d : ByteArray) (hs : d.size ≤ 100000) (w : World) : Calls Try.prog 25 #[.string d] w fun e w' => e = .returned (.tuple #[.string (recF d).1, .int .i64 (recF d).2]) ∧ Below w.heap.size w w' := by
  by_cases hd : d.size ≤ 4096
  · rw [recF, if_pos hd]
    have hd1 : decide (4096 < (d.size : Int)) = false := by rw [decide_eq_false_iff_not]; omega
    have hZ : IntKind.u32.wrap (d.size : Int) = ((BitVec.ofNat 32 d.data.toList.length).toNat : Int) := by
      have hl : d.data.toList.length = d.size := by simp
      rw [hl, BitVec.toNat_ofNat, IntKind.wrap_u32']; omega
    have hX : (⟨#[]⟩ ++ txt [52] ++ txt (CrcM.put (BitVec.ofNat 32 d.data.toList.length)) ++ d : ByteArray).data.toList = J.bare d.data.toList := by
      simp only [ByteArray.data_append, Array.toList_append, txt_toList, J.bare, List.append_assoc]
      rfl
    have hXs : (⟨#[]⟩ ++ txt [52] ++ txt (CrcM.put (BitVec.ofNat 32 d.data.toList.length)) ++ d : ByteArray).size ≤ 100000 := by
      simp only [ByteArray.size_append, txt_size, CrcM.put_length]
      show 0 + 1 + 4 + d.size ≤ 100000
      omega
    have h0 : (⟨#[]⟩ ++ txt [52] : ByteArray).size = 1 := rfl
    have hp : (txt (CrcM.put (BitVec.ofNat 32 d.data.toList.length))).size = 4 := by rw [txt_size, CrcM.put_length]
    have hseal := fun W => crcSeal _ hXs W
    rw [hX] at hseal
    have hZ2 : (d.size : Int) % 4294967296 = ((BitVec.ofNat 32 d.data.toList.length).toNat : Int) := by rw [← hZ, IntKind.wrap_u32']
    generalize BitVec.ofNat 32 d.data.toList.length = ZB at *
    have HZ1 := Lib.hid hZ
    have HZ2 := Lib.hid hZ2
    have hZ3 : (ZB.toNat : Int) = (d.size : Int) := by rw [← hZ2]; omega
    have HPUT := Lib.hid (fun W => by have h := crcPut ZB W; rw [hZ3] at h; exact h : ∀ W : World, Calls Try.prog 33 #[.int .u32 (d.size : Int)] W fun e w' => e = .returned (.string (txt (CrcM.put ZB))) ∧ Below W.heap.size W w')
    have HJ := Lib.hid (fun (W : World) (hW : BytesAt W (.slice (some ⟨w.heap.size, 0, none⟩) 1 1) [52]) => jJoined ⟨#[]⟩ _ [52] W hW (by decide))
    generalize txt (CrcM.put ZB) = Z at *
    generalize (⟨#[]⟩ ++ txt [52] : ByteArray) = H at *
    have hl1 : ¬ 9223372036854775807 < H.size + Z.size := by omega
    have hl2 : ¬ 9223372036854775807 < (H ++ Z).size + d.size := by simp only [ByteArray.size_append]; omega
    simp only [ByteArray.size_append] at hl2
    have HS := Lib.hid hseal
    rw [show txt (J.rec d.data.toList) = txt (CrcM.withSum (J.bare d.data.toList)) from rfl]
    clear hseal hX hXs hZ hZ2 hZ3 hd h0 hp
    go_enter Try.func25, Try.ntmps25
    have hb := Below.refl w.heap.size w
    have hc : BytesAt (w.alloc (.cells #[.int .u8 52] 5)) (.slice (some ⟨w.heap.size, 0, none⟩) 1 1) [52] := .inr ⟨w.heap.size, 1, rfl, by simp, fun j hj => by
      obtain rfl : j = 0 := by simp at hj; omega
      simp⟩
    have hb0 := hb.alloc (Nat.le_refl _) (.cells #[.int .u8 52] 5)
    go_wp2_with (first
      | (go_at_call 32; refine (HJ.out _ hc).mono ?_; rintro e w1 ⟨rfl, hb1⟩; replace hb0 := hb0.trans (hb1.mono hb0.size); clear hb1)
      | (go_at_call 33; refine (HPUT.out _).mono ?_; rintro e w2 ⟨rfl, hb1⟩; replace hb0 := hb0.trans (hb1.mono hb0.size); clear hb1)
      | (go_at_call 31; refine (HS.out _).mono ?_; rintro e w3 ⟨rfl, hb1⟩; replace hb0 := hb0.trans (hb1.mono hb0.size); clear hb1))
    go_ret2
    exact ⟨rfl, hb0⟩
  · rw [recF, if_neg hd]
    have hd1 : decide (4096 < (d.size : Int)) = true := by rw [decide_eq_true_iff]; omega
    clear hd
    go_enter Try.func25, Try.ntmps25
    go_wp2
    go_ret2
    exact ⟨rfl, Below.refl _ _⟩
end Go.Proofs.Ytfbponiiejanfaa
