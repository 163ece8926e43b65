/-
  The statement that what is sealed and then changed is not opened, walked.
-/
import Derived.Test.YtigljdnnoncpfaaCrcLaws2
import Derived.Test.YtigljdnnoncpfaaCrcRefChange
namespace Go.Proofs.Ytigljdnnoncpfaa
open Go.RowKit Go.Shelf
attribute [local go_sem] Oper.semAt_some

theorem bytes_eq {a b : ByteArray} (h : a.data.toList = b.data.toList) : a = b := by
  apply ByteArray.ext
  exact Array.toList_inj.1 h
set_option maxRecDepth 100000 in
set_option maxHeartbeats 1000000 in
theorem lawFinds (s : ByteArray) (bit : Int) (m : BitVec 32) (hs : s.size ≤ maxLen) (h1 : bit ≤ 2 ^ 63 - 1) (w : World) : Calls Try.prog 7 #[.string s, .int .i64 bit, .int .u32 (m.toNat : Int)] w fun e w' =>
    e = .returned (.bool true) ∧ Below w.heap.size w w' := by
  have h3 := cutTo_size 3000 s
  have h4 : (cutTo 3000 s).size ≤ 100000 := by omega
  have hb : Below w.heap.size w w := Below.refl _ _
  have hsz : (txt (CrcM.withSum (cutTo 3000 s).data.toList)).size = (cutTo 3000 s).size + 4 := by rw [txt_size, CrcM.seal_length]; simp
  have hso : CrcM.opened (txt (CrcM.withSum (cutTo 3000 s).data.toList)).data.toList = true := by rw [txt_toList]; exact CrcM.opened_seal _
  have hsc : ∀ B : Nat, B ≤ 8 * (txt (CrcM.withSum (cutTo 3000 s).data.toList)).size → txt (CrcM.chg (txt (CrcM.withSum (cutTo 3000 s).data.toList)).data.toList B m.toNat) ≠ txt (CrcM.withSum (cutTo 3000 s).data.toList) →
      CrcM.opened (CrcM.chg (txt (CrcM.withSum (cutTo 3000 s).data.toList)).data.toList B m.toNat) = false := fun B hB hne => by
    rw [txt_size] at hB
    rw [txt_toList] at hne ⊢
    exact CrcM.changed_not_opened _ _ _ m.isLt hB (fun e => hne (by rw [e]))
  have hseal := fun w => crcSeal (cutTo 3000 s) h4 w
  generalize txt (CrcM.withSum (cutTo 3000 s).data.toList) = S at *
  have hS : S.size ≤ 100000 := by omega
  have HSEAL := Lib.hid hseal
  clear hseal
  by_cases h : inBits S bit
  · have hB : bit.toNat < 8 * S.size := by have := h.1; have := h.2; omega
    have hcall := fun w => crcChangeIn S bit m hS h w
    have hz := chg_size S bit.toNat m.toNat
    have hT : (txt (CrcM.chg S.data.toList bit.toNat m.toNat)).size ≤ 100000 := by omega
    by_cases hsame : txt (CrcM.chg S.data.toList bit.toNat m.toNat) = S
    · rw [hsame] at hcall
      have hob : openB S = true := by rw [openB, hso, decide_eq_true (by omega)]; rfl
      have hopen := fun w => crcOpen S hS w
      rw [hob] at hopen
      have HC := Lib.hid hcall
      have HO := Lib.hid hopen
      clear hz hcall hopen hob hsame hso hsc hsz
      go_enter Try.func7, Try.ntmps7
      go_wp2_with (first
        | (go_at_call 11; refine (lawShown _).mono ?_; rintro e w1 ⟨rfl, hb1⟩; replace hb := hb.trans (hb1.mono hb.size); clear hb1)
        | (go_at_call 15; refine (lawCut _ hs _).mono ?_; rintro e w' ⟨rfl, rfl⟩)
        | (go_at_call 27; refine (HSEAL.out _).mono ?_; rintro e w1 ⟨rfl, hb1⟩; replace hb := hb.trans (hb1.mono hb.size); clear hb1)
        | (go_at_call 19; refine (HC.out _).mono ?_; rintro e w1 ⟨rfl, hb1⟩; replace hb := hb.trans (hb1.mono hb.size); clear hb1)
        | (go_at_call 23; refine (HO.out _).mono ?_; rintro e w1 ⟨rfl, hb1⟩; replace hb := hb.trans (hb1.mono hb.size); clear hb1))
      go_ret
      exact ⟨rfl, hb⟩
    · have hno := hsc bit.toNat (by omega) hsame
      have hob : openB (txt (CrcM.chg S.data.toList bit.toNat m.toNat)) = false := by rw [openB, txt_toList, hno]; simp
      have hot : openT (txt (CrcM.chg S.data.toList bit.toNat m.toNat)) = ⟨#[]⟩ := by rw [openT, hob]; rfl
      have hopen := fun w => crcOpen (txt (CrcM.chg S.data.toList bit.toNat m.toNat)) hT w
      rw [hob, hot] at hopen
      have hq : ((txt (CrcM.chg S.data.toList bit.toNat m.toNat)).toList == S.toList) = false := by
        rw [Lib.toList_data, Lib.toList_data, beq_eq_false_iff_ne]
        exact fun e => hsame (bytes_eq e)
      generalize txt (CrcM.chg S.data.toList bit.toNat m.toNat) = T at *
      have HC := Lib.hid hcall
      have HO := Lib.hid hopen
      clear hz hcall hopen hob hot hno hsame hso hsc hsz
      go_enter Try.func7, Try.ntmps7
      go_wp2_with (first
        | (go_at_call 11; refine (lawShown _).mono ?_; rintro e w1 ⟨rfl, hb1⟩; replace hb := hb.trans (hb1.mono hb.size); clear hb1)
        | (go_at_call 15; refine (lawCut _ hs _).mono ?_; rintro e w' ⟨rfl, rfl⟩)
        | (go_at_call 27; refine (HSEAL.out _).mono ?_; rintro e w1 ⟨rfl, hb1⟩; replace hb := hb.trans (hb1.mono hb.size); clear hb1)
        | (go_at_call 19; refine (HC.out _).mono ?_; rintro e w1 ⟨rfl, hb1⟩; replace hb := hb.trans (hb1.mono hb.size); clear hb1)
        | (go_at_call 23; refine (HO.out _).mono ?_; rintro e w1 ⟨rfl, hb1⟩; replace hb := hb.trans (hb1.mono hb.size); clear hb1))
      go_ret
      exact ⟨rfl, hb⟩
  · have hcall := fun w => crcChangeOut S bit m hS h1 h w
    have HC := Lib.hid hcall
    clear hcall hso hsc hsz
    by_cases hneg : bit < 0
    · have hd : decide (bit < 0) = true := by simp; omega
      clear h
      go_enter Try.func7, Try.ntmps7
      go_wp2_with (first
        | (go_at_call 11; refine (lawShown _).mono ?_; rintro e w1 ⟨rfl, hb1⟩; replace hb := hb.trans (hb1.mono hb.size); clear hb1)
        | (go_at_call 15; refine (lawCut _ hs _).mono ?_; rintro e w' ⟨rfl, rfl⟩)
        | (go_at_call 27; refine (HSEAL.out _).mono ?_; rintro e w1 ⟨rfl, hb1⟩; replace hb := hb.trans (hb1.mono hb.size); clear hb1)
        | (go_at_call 19; refine (HC.out _).mono ?_; rintro e w1 ⟨rfl, hb1⟩; replace hb := hb.trans (hb1.mono hb.size); clear hb1))
      go_ret
      exact ⟨rfl, hb⟩
    · have hge : 8 * (S.size : Int) ≤ bit := by unfold inBits at h; omega
      have hd : decide (bit < 0) = false := by simp; omega
      have he : decide (8 * (S.size : Int) ≤ bit) = true := by simp; omega
      clear h
      go_enter Try.func7, Try.ntmps7
      go_wp2_with (first
        | (go_at_call 11; refine (lawShown _).mono ?_; rintro e w1 ⟨rfl, hb1⟩; replace hb := hb.trans (hb1.mono hb.size); clear hb1)
        | (go_at_call 15; refine (lawCut _ hs _).mono ?_; rintro e w' ⟨rfl, rfl⟩)
        | (go_at_call 27; refine (HSEAL.out _).mono ?_; rintro e w1 ⟨rfl, hb1⟩; replace hb := hb.trans (hb1.mono hb.size); clear hb1)
        | (go_at_call 19; refine (HC.out _).mono ?_; rintro e w1 ⟨rfl, hb1⟩; replace hb := hb.trans (hb1.mono hb.size); clear hb1))
      go_ret
      exact ⟨rfl, hb⟩
theorem lawFinds_row (a0 : ByteArray) (a1 a2 : Int) (w0 : a0.size ≤ maxLen) (w1 : (Lit.int .i64 a1).wf = true) (w2 : (Lit.int .u32 a2).wf = true) (W : World) : Calls Try.prog 7 #[.string a0, .int .i64 a1, .int .u32 a2] W fun e w' =>
    e = .returned (.bool true) ∧ Below W.heap.size W w' := by
  obtain ⟨n, rfl⟩ := u32_of_wf w2
  exact lawFinds a0 a1 n w0 (int_le_of_wf w1) W
end Go.Proofs.Ytigljdnnoncpfaa
