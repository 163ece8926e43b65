/-
  The document's answers for layer 3: Record, one: walked.
-/
import Derived.Test.YtlcenfgnmmkcpaaJOps
import Derived.Test.YtlcenfgnmmkcpaaCrcRef
namespace Go.Proofs.Ytlcenfgnmmkcpaa
open Go.RowKit Go.Shelf
attribute [local go_sem] Oper.semAt_some
set_option linter.unusedVariables false
set_option linter.unusedSimpArgs false

set_option maxRecDepth 100000 in
set_option maxHeartbeats 2000000 in
theorem refRecord (d : ByteArray) (hs : d.size ≤ 100000) (w : World) : Calls Try.prog 13 #[.string d] w fun e w' => e = .returned (.tuple #[.string (recF d).1, .int .i64 (recF d).2]) ∧ Below w.heap.size w w' := by
  by_cases hd : d.size ≤ 4096
  · rw [recF, if_pos hd]
    have hd1 : decide (4096 < (d.size : Int)) = false := by rw [decide_eq_false_iff_not]; omega
    have hl : d.data.toList.length = d.size := by simp
    have hX : (⟨#[52]⟩ ++ txt (CrcM.put (BitVec.ofNat 32 d.data.toList.length)) ++ d : ByteArray).data.toList = J.bare d.data.toList := by
      simp only [ByteArray.data_append, Array.toList_append, txt_toList, J.bare, List.append_assoc]
      rfl
    have hp : (txt (CrcM.put (BitVec.ofNat 32 d.data.toList.length))).size = 4 := by rw [txt_size, CrcM.put_length]
    have h1 : (⟨#[52]⟩ : ByteArray).size = 1 := rfl
    have hXs : (⟨#[52]⟩ ++ txt (CrcM.put (BitVec.ofNat 32 d.data.toList.length)) ++ d : ByteArray).size ≤ 100000 := by
      simp only [ByteArray.size_append, hp, h1]; omega
    have hseal := fun W => refSeal _ hXs W
    rw [hX] at hseal
    have hZ3 : ((BitVec.ofNat 32 d.data.toList.length).toNat : Int) = (d.size : Int) := by rw [hl, BitVec.toNat_ofNat]; omega
    generalize BitVec.ofNat 32 d.data.toList.length = ZB at *
    have HPUT := Lib.hid (fun W => by have h := refPut ZB W; rw [hZ3] at h; exact h : ∀ W : World, Calls Try.prog 28 #[.int .u32 (d.size : Int)] W fun e w' => e = .returned (.string (txt (CrcM.put ZB))) ∧ Below W.heap.size W w')
    generalize txt (CrcM.put ZB) = Z at *
    have hl1 : ¬ 9223372036854775807 < (⟨#[52]⟩ : ByteArray).size + Z.size := by omega
    have hl2 : ¬ 9223372036854775807 < (⟨#[52]⟩ ++ Z : ByteArray).size + d.size := by simp only [ByteArray.size_append]; omega
    simp only [ByteArray.size_append] at hl2
    rw [show txt (J.rec d.data.toList) = txt (CrcM.withSum (J.bare d.data.toList)) from rfl]
    have HS := Lib.hid hseal
    clear hseal hX hXs hZ3 hp hl h1
    go_enter Try.func13, Try.ntmps13
    have hb0 := Below.refl w.heap.size w
    go_wp2_with (first
      | (go_at_call 28; refine (HPUT.out _).mono ?_; rintro e w2 ⟨rfl, hb1⟩; replace hb0 := hb0.trans (hb1.mono hb0.size); clear hb1)
      | (go_at_call 27; refine (HS.out _).mono ?_; rintro e w3 ⟨rfl, hb1⟩; replace hb0 := hb0.trans (hb1.mono hb0.size); clear hb1))
    go_ret2
    exact ⟨rfl, hb0⟩
  · rw [recF, if_neg hd]
    have hd1 : decide (4096 < (d.size : Int)) = true := by rw [decide_eq_true_iff]; omega
    clear hd
    go_enter Try.func13, Try.ntmps13
    go_wp2
    go_ret2
    exact ⟨rfl, Below.refl _ _⟩
theorem refOpen (s : ByteArray) (hs : s.size ≤ 100000) (w : World) : Calls Try.prog 43 #[.string s] w fun e w' => e = .returned (.tuple #[.string (openT s), .bool (openB s)]) ∧ Below w.heap.size w w' := by
  by_cases h : 4 ≤ s.size
  · cases ho : CrcM.opened s.data.toList with
    | true =>
      have hb : openB s = true := by rw [openB, ho, decide_eq_true h]; rfl
      rw [openT, if_pos hb, hb]
      exact refOpenYes s (s.size - 4) (by omega) hs ho w
    | false =>
      have hb : openB s = false := by rw [openB, ho]; simp
      rw [openT, hb]
      exact refOpenFails s (s.size - 4) (by omega) hs ho w
  · have hb : openB s = false := by rw [openB, decide_eq_false h]; rfl
    rw [openT, hb]
    exact refOpenNo s (by omega) w
/-- What one answers: the data of the record that bytes begin with, how many bytes it has. -/
def oneF (b : ByteArray) : ByteArray × Int :=
  if J.told b.data.toList = true ∧ J.ok (b.data.toList.take (J.size b.data.toList + 9)) = true then (txt (J.data (b.data.toList.take (J.size b.data.toList + 9))), ((J.size b.data.toList + 9 : Nat) : Int)) else (⟨#[]⟩, 0)
theorem below_drewN' {w : World} (n : Nat) : Below w.heap.size w (w.drewN n) := below_drewN (Below.refl _ w) n
set_option maxRecDepth 100000 in
set_option maxHeartbeats 2000000 in
theorem refOneShort (b : ByteArray) (h : b.size < 9) (w : World) : Calls Try.prog 31 #[.string b] w fun e w' => e = .returned (.tuple #[.string ⟨#[]⟩, .int .i64 0]) ∧ Below w.heap.size w w' := by
  have hd9 : decide ((b.size : Int) < 9) = true := by simp; omega
  go_enter Try.func31, Try.ntmps31
  go_wp2
  go_ret2
  exact ⟨rfl, Below.refl _ _⟩
set_option maxRecDepth 100000 in
set_option maxHeartbeats 2000000 in
theorem refOneMark (b : ByteArray) (h : 9 ≤ b.size) (h52 : b.data.toList.getD 0 0 ≠ 52) (w : World) : Calls Try.prog 31 #[.string b] w fun e w' => e = .returned (.tuple #[.string ⟨#[]⟩, .int .i64 0]) ∧ Below w.heap.size w w' := by
  have hd9 : decide ((b.size : Int) < 9) = false := by simp; omega
  have hi0 : 0 < b.size := by omega
  have hj0 : (0 : Int) < (b.size : Int) := by omega
  have hn : ¬ b[0].toNat = 52 := fun hx => by rw [at_first b hi0] at hx; exact h52 (UInt8.toNat_inj.1 hx)
  have hq : ((b[0].toNat : Int) != 52) = true := by rw [bne_iff_ne]; omega
  clear hn h52
  go_enter Try.func31, Try.ntmps31
  go_wp2
  go_ret2
  exact ⟨rfl, Below.refl _ _⟩
set_option maxRecDepth 100000 in
set_option maxHeartbeats 2000000 in
theorem refOneBig (b : ByteArray) (h : 9 ≤ b.size) (h52 : b.data.toList.getD 0 0 = 52) (hb : b.size ≤ 100000) (hno : 4096 < J.size b.data.toList ∨ b.size < J.size b.data.toList + 9) (w : World) : Calls Try.prog 31 #[.string b] w fun e w' => e = .returned (.tuple #[.string ⟨#[]⟩, .int .i64 0]) ∧ Below w.heap.size w w' := by
  have hd9 : decide ((b.size : Int) < 9) = false := by simp; omega
  have hi0 : 0 < b.size := by omega
  have hj0 : (0 : Int) < (b.size : Int) := by omega
  have hq : ((b[0].toNat : Int) != 52) = false := by rw [at_first b hi0, h52]; rfl
  obtain ⟨x, y, z, u, e, hg⟩ := head_four b h
  have hlt := (CrcM.get [x, y, z, u]).isLt
  have hj5 : (5 : Int) ≤ (b.size : Int) := by omega
  by_cases hbig : 4096 < J.size b.data.toList
  · have hd1 : decide (4096 < ((CrcM.get [x, y, z, u]).toNat : Int)) = true := by rw [decide_eq_true_iff]; omega
    have HE := Lib.hid e
    clear e hg hlt h52 hno hbig
    go_enter Try.func31, Try.ntmps31
    go_wp2_with (go_at_call 42; rw [HE.out]; refine (refGet4 x y z u _).mono ?_; rintro e w1 ⟨rfl, ⟨n, rfl⟩⟩)
    go_ret2
    exact ⟨rfl, below_drewN' _⟩
  · have hd1 : decide (4096 < ((CrcM.get [x, y, z, u]).toNat : Int)) = false := by rw [decide_eq_false_iff_not]; omega
    have hd2 : decide ((b.size : Int) < ((CrcM.get [x, y, z, u]).toNat : Int) + 9) = true := by rw [decide_eq_true_iff]; omega
    have hwr : wrap64 (((CrcM.get [x, y, z, u]).toNat : Int) + 9) = ((CrcM.get [x, y, z, u]).toNat : Int) + 9 := by unfold wrap64; omega
    have hwi : wrap64 ((CrcM.get [x, y, z, u]).toNat : Int) = ((CrcM.get [x, y, z, u]).toNat : Int) := by unfold wrap64; omega
    have HE := Lib.hid e
    clear e hg hlt h52 hno hbig
    go_enter Try.func31, Try.ntmps31
    go_wp2_with (go_at_call 42; rw [HE.out]; refine (refGet4 x y z u _).mono ?_; rintro e w1 ⟨rfl, ⟨n, rfl⟩⟩)
    go_ret2
    exact ⟨rfl, below_drewN' _⟩
set_option maxRecDepth 100000 in
set_option maxHeartbeats 2000000 in
theorem refOneTold (b : ByteArray) (hb : b.size ≤ 100000) (ht : J.told b.data.toList = true) (w : World) : Calls Try.prog 31 #[.string b] w fun e w' => e = .returned (.tuple #[.string (oneF b).1, .int .i64 (oneF b).2]) ∧ Below w.heap.size w w' := by
  have ht' := ht
  have hl : b.data.toList.length = b.size := by simp
  simp only [J.told, Bool.and_eq_true, decide_eq_true_eq, beq_iff_eq, hl] at ht'
  obtain ⟨⟨⟨h, h52⟩, hsz⟩, hroom⟩ := ht'
  have hd9 : decide ((b.size : Int) < 9) = false := by simp; omega
  have hi0 : 0 < b.size := by omega
  have hj0 : (0 : Int) < (b.size : Int) := by omega
  have hq : ((b[0].toNat : Int) != 52) = false := by rw [at_first b hi0, h52]; rfl
  obtain ⟨x, y, z, u, e, hg⟩ := head_four b h
  have hlt := (CrcM.get [x, y, z, u]).isLt
  have hj5 : (5 : Int) ≤ (b.size : Int) := by omega
  have hd1 : decide (4096 < ((CrcM.get [x, y, z, u]).toNat : Int)) = false := by rw [decide_eq_false_iff_not]; omega
  have hd2 : decide ((b.size : Int) < ((CrcM.get [x, y, z, u]).toNat : Int) + 9) = false := by rw [decide_eq_false_iff_not]; omega
  have hwr : wrap64 (((CrcM.get [x, y, z, u]).toNat : Int) + 9) = ((CrcM.get [x, y, z, u]).toNat : Int) + 9 := by unfold wrap64; omega
  have hwi : wrap64 ((CrcM.get [x, y, z, u]).toNat : Int) = ((CrcM.get [x, y, z, u]).toNat : Int) := by unfold wrap64; omega
  have h9 : 9 ≤ (b.data.toList.take (J.size b.data.toList + 9)).length := by rw [List.length_take]; omega
  obtain ⟨hob, hod⟩ := open_piece _ h9
  have hpiece : txt (b.data.toList.take (J.size b.data.toList + 9)) = b.extract 0 (J.size b.data.toList + 9) := by
    rw [← txt_data (b.extract 0 _), Lib.extract_data, List.drop_zero, Nat.sub_zero]
  have hps : (b.extract 0 (J.size b.data.toList + 9)).size ≤ 100000 := by rw [ByteArray.size_extract]; omega
  rw [hpiece] at hob hod
  have hopen := fun W => refOpen (b.extract 0 (J.size b.data.toList + 9)) hps W
  rw [hob] at hopen
  have hnat : (((CrcM.get [x, y, z, u]).toNat : Int) + 9).toNat = J.size b.data.toList + 9 := by omega
  have hint : ((J.size b.data.toList + 9 : Nat) : Int) = ((CrcM.get [x, y, z, u]).toNat : Int) + 9 := by omega
  have hle : ((CrcM.get [x, y, z, u]).toNat : Int) + 9 ≤ (b.size : Int) := by omega
  rw [oneF]
  cases ho : J.ok (b.data.toList.take (J.size b.data.toList + 9)) with
  | false =>
    rw [if_neg (by simp)]
    rw [ho] at hopen
    rw [← hnat] at hopen
    generalize openT (b.extract 0 (((CrcM.get [x, y, z, u]).toNat : Int) + 9).toNat) = T at *
    have HO := Lib.hid hopen
    have HE := Lib.hid e
    clear e hg hlt h52 hob hod hopen hpiece hps hint hnat ho h9 hsz hroom ht hl
    go_enter Try.func31, Try.ntmps31
    go_wp2_with (first
      | (go_at_call 42; rw [HE.out]; refine (refGet4 x y z u _).mono ?_; rintro e w1 ⟨rfl, ⟨n, rfl⟩⟩)
      | (go_at_call 43; refine (HO.out _).mono ?_; rintro e w2 ⟨rfl, hb2⟩))
    go_ret2
    exact ⟨rfl, (below_drewN' _).trans (hb2.mono (below_drewN' _).size)⟩
  | true =>
    rw [if_pos ⟨ht, rfl⟩]
    obtain ⟨h5, hcut⟩ := hod ho
    rw [ho] at hopen
    rw [← hcut, hint, ← hnat]
    rw [← hnat] at hopen h5
    dsimp only
    generalize openT (b.extract 0 (((CrcM.get [x, y, z, u]).toNat : Int) + 9).toNat) = T at *
    have h5i : (5 : Int) ≤ (T.size : Int) := by omega
    have HO := Lib.hid hopen
    have HE := Lib.hid e
    clear e hg hlt h52 hob hod hopen hpiece hps hint hnat ho h9 hsz hroom ht hl hcut
    go_enter Try.func31, Try.ntmps31
    go_wp2_with (first
      | (go_at_call 42; rw [HE.out]; refine (refGet4 x y z u _).mono ?_; rintro e w1 ⟨rfl, ⟨n, rfl⟩⟩)
      | (go_at_call 43; refine (HO.out _).mono ?_; rintro e w2 ⟨rfl, hb2⟩))
    go_ret2
    exact ⟨rfl, (below_drewN' _).trans (hb2.mono (below_drewN' _).size)⟩
theorem refOne (b : ByteArray) (hb : b.size ≤ 100000) (w : World) : Calls Try.prog 31 #[.string b] w fun e w' => e = .returned (.tuple #[.string (oneF b).1, .int .i64 (oneF b).2]) ∧ Below w.heap.size w w' := by
  have hl : b.data.toList.length = b.size := by simp
  cases ht : J.told b.data.toList with
  | true => exact refOneTold b hb ht w
  | false =>
    rw [oneF, if_neg (by rw [ht]; simp)]
    by_cases h9 : 9 ≤ b.size
    · by_cases h52 : b.data.toList.getD 0 0 = 52
      · refine refOneBig b h9 h52 hb ?_ w
        rw [J.told, h52, hl, decide_eq_true h9] at ht
        by_cases h4 : 4096 < J.size b.data.toList
        · exact .inl h4
        · refine .inr ?_
          rw [decide_eq_true (by omega : J.size b.data.toList ≤ 4096)] at ht
          have : ¬ (J.size b.data.toList + 9 ≤ b.size) := fun h => by rw [decide_eq_true h] at ht; simp at ht
          omega
      · exact refOneMark b h9 h52 w
    · exact refOneShort b (by omega) w
end Go.Proofs.Ytlcenfgnmmkcpaa
