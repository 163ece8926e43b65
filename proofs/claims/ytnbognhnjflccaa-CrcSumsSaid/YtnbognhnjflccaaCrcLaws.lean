/-
  The statements of layer 1, walked: sums, parts, sealing, what is sealed is opened.
-/
import Derived.Test.YtnbognhnjflccaaCrcRef
namespace Go.Proofs.Ytnbognhnjflccaa
open Go.RowKit Go.Shelf
attribute [local go_sem] Oper.semAt_some

set_option maxRecDepth 100000 in
set_option maxHeartbeats 1000000 in
theorem lawSums (n : BitVec 32) (b : UInt8) (s : ByteArray) (hs : s.size ≤ maxLen) (w : World) : Calls Try.prog 3 #[.int .u32 (n.toNat : Int), .int .u8 (b.toNat : Int), .string s] w fun e w' =>
    e = .returned (.bool true) ∧ Below w.heap.size w w' := by
  have h3 : (cutTo 3000 s).size ≤ maxLen := by have := cutTo_size 3000 s; unfold maxLen; omega
  have hb : Below w.heap.size w w := Below.refl _ _
  go_enter Try.func3, Try.ntmps3
  go_wp2_with (first
    | (go_at_call 11; refine (lawShown _).mono ?_; rintro e w1 ⟨rfl, hb1⟩; replace hb := hb.trans (hb1.mono hb.size); clear hb1)
    | (go_at_call 12; refine (crcStep _ _ _).mono ?_; rintro e w' ⟨rfl, rfl⟩)
    | (go_at_call 13; refine (refStep _ _ _).mono ?_; rintro e w' ⟨rfl, rfl⟩)
    | (go_at_call 15; refine (lawCut _ hs _).mono ?_; rintro e w' ⟨rfl, rfl⟩)
    | (go_at_call 14; refine (crcSum _ h3 _).mono ?_; rintro e w1 ⟨rfl, hb1⟩; replace hb := hb.trans (hb1.mono hb.size); clear hb1)
    | (go_at_call 16; refine (refSum _ h3 _).mono ?_; rintro e w' ⟨rfl, rfl⟩)
    | (go_at_call 17; refine (crcMore _ _ h3 _).mono ?_; rintro e w1 ⟨rfl, hb1⟩; replace hb := hb.trans (hb1.mono hb.size); clear hb1)
    | (go_at_call 18; refine (refMore _ _ h3 _).mono ?_; rintro e w' ⟨rfl, rfl⟩))
  go_ret
  exact ⟨rfl, hb⟩

theorem u32_of_wf {n : Int} (h : (Lit.int .u32 n).wf = true) : ∃ x : BitVec 32, n = (x.toNat : Int) := by
  simp [Lit.wf, IntKind.min, IntKind.max, IntKind.signed, IntKind.bits] at h
  exact nat_bv n (by omega) (by omega)
theorem u8_of_wf {n : Int} (h : (Lit.int .u8 n).wf = true) : ∃ x : UInt8, n = (x.toNat : Int) := by
  simp [Lit.wf, IntKind.min, IntKind.max, IntKind.signed, IntKind.bits] at h
  exact ⟨UInt8.ofNat n.toNat, by rw [UInt8.toNat_ofNat']; omega⟩
theorem lawSums_row (a0 a1 : Int) (a2 : ByteArray) (w0 : (Lit.int .u32 a0).wf = true) (w1 : (Lit.int .u8 a1).wf = true) (w2 : a2.size ≤ maxLen) (W : World) : Calls Try.prog 3 #[.int .u32 a0, .int .u8 a1, .string a2] W fun e w' =>
    e = .returned (.bool true) ∧ Below W.heap.size W w' := by
  obtain ⟨n, rfl⟩ := u32_of_wf w0
  obtain ⟨b, rfl⟩ := u8_of_wf w1
  exact lawSums n b a2 w2 W
end Go.Proofs.Ytnbognhnjflccaa
