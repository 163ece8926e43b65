/-
  What frame.read makes of any bytes.
-/
import Derived.Test.YtphfnlgjiomjkaaDoorFrameRead2
namespace Go.Proofs.YtphfnlgjiomjkaaDoor
open Go.RowKit Go.Shelf
set_option linter.unusedVariables false
set_option linter.unusedSimpArgs false
open Bytes

theorem txt_from (b : ByteArray) (k : Nat) : b.extract k b.size = txt (b.data.toList.drop k) := by
  rw [← txt_data (b.extract k b.size), Lib.extract_data, List.take_of_length_le (by rw [List.length_drop]; simp)]
theorem one_beq (b : ByteArray) : (((at' b.data.toList 1).toNat : Int) == 1) = one b.data.toList := by
  rw [Bool.eq_iff_iff, beq_iff_eq, one, beq_iff_eq, ← UInt8.toNat_inj]
  constructor
  · intro h; rw [show ((1 : UInt8).toNat) = 1 from rfl]; omega
  · intro h; rw [h]; rfl
theorem head_num (b : ByteArray) : headNum b (one b.data.toList) 8 = num b.data.toList (Bytes.ahead b.data.toList - 4) := by
  cases h : one b.data.toList
  · rw [Bytes.ahead, h]; exact val_four b 20
  · rw [Bytes.ahead, h]; exact val_four b 16
theorem made_fr (b : ByteArray) (h : Bytes.ahead b.data.toList ≤ b.size) : madeOf b (one b.data.toList) = fr b.data.toList := by
  have h20 : 20 ≤ b.size := by rw [Bytes.ahead] at h; split at h <;> omega
  have hd : (afterFields b (fieldsOf (one b.data.toList))).2 = txt (b.data.toList.drop (Bytes.ahead b.data.toList)) := by
    rw [afterFields_text, widths_all, txt_from, Bytes.ahead]
  unfold madeOf fr
  rw [hd]
  have e1 : (headNum b (one b.data.toList) 1).toNat = (at' b.data.toList 1).toNat := val_one b 1 (by omega)
  have e2 : (headNum b (one b.data.toList) 2).toNat = (at' b.data.toList 2).toNat := val_one b 2 (by omega)
  have e3 : (headNum b (one b.data.toList) 3).toNat = (at' b.data.toList 3).toNat := val_one b 3 (by omega)
  have e4 : headNum b (one b.data.toList) 4 = num b.data.toList 4 := val_four b 4
  have e5 : headNum b (one b.data.toList) 5 = num b.data.toList 8 := val_four b 8
  have e6 : headNum b (one b.data.toList) 6 = num b.data.toList 12 := val_four b 12
  have e7 : headNum b (one b.data.toList) 7 = if one b.data.toList = true then 0 else num b.data.toList 16 := by
    rw [← val_four b 16]; rfl
  rw [e1, e2, e3, e4, e5, e6, e7]
theorem made_size (b : ByteArray) (h : Bytes.ahead b.data.toList ≤ b.size) : (madeOf b (one b.data.toList)).data.size = b.size - Bytes.ahead b.data.toList := by
  rw [made_fr b h, fr, txt_size, List.length_drop]; simp
theorem bare_ver (x : UInt8) (h : ver (x.toNat : Int) = true) : bare (x.toNat : Int) = if x == 1 then 24 else 28 := by
  have hx : (x == 1) = decide ((x.toNat : Int) = 1) := by
    rw [Bool.eq_iff_iff, beq_iff_eq, decide_eq_true_iff, ← UInt8.toNat_inj]
    constructor
    · intro h; rw [h]; rfl
    · intro h; rw [show ((1 : UInt8).toNat) = 1 from rfl]; omega
  rw [hx]
  simp only [ver, Bool.or_eq_true, beq_iff_eq] at h
  rcases h with h | h <;> rw [h] <;> rfl
theorem bare_ahead (b : ByteArray) (h : ver ((at' b.data.toList 1).toNat : Int) = true) : bare ((at' b.data.toList 1).toNat : Int) = (Bytes.ahead b.data.toList : Int) + 4 := by
  rw [bare_ver _ h, Bytes.ahead, one]; split <;> rfl
theorem frameRead (b : ByteArray) (hs : b.size ≤ 100000) (a0 a1 : Addr) (w : World) (L : Errs w a0 a1) : Calls Tryd.prog 12 #[.string b] w fun e w' =>
    e = .returned (readVal b.data.toList a0 a1) ∧ Below w.heap.size w w' := by
  have hl : b.data.toList.length = b.size := by simp
  by_cases h2 : b.size < 2
  · have o : old b.data.toList = false := by simp only [old, hl, Bool.and_eq_false_iff]; exact Or.inl (Or.inl (by simp; omega))
    have g : good b.data.toList = false := by simp only [good, long, hl, Bool.and_eq_false_iff]; exact Or.inl (Or.inl (Or.inl (Or.inl (Or.inl (by simp; omega)))))
    rw [readVal, o, g]
    exact readShort b h2 a0 a1 w L
  · have h2' : 2 ≤ b.size := by omega
    by_cases h72 : at' b.data.toList 0 = 72
    · by_cases hk : ver ((at' b.data.toList 1).toNat : Int) = true
      · have o : old b.data.toList = false := by simp only [old, known, hk]; simp
        by_cases ha : Bytes.ahead b.data.toList ≤ b.size
        · have hlong : long b.data.toList = true := by
            simp only [long, known, hk, hl, h72]
            simp [h2', ha]
          have hm := made_fr b ha
          have hz := made_size b ha
          have hn := head_num b
          have hR := readRest b h2' hs h72 hk (one b.data.toList) (one_beq b) ha (by rw [bare_ahead b hk]; omega) a0 a1 w L
          rw [hz, hn, hm] at hR
          refine hR.mono ?_
          rintro e w' ⟨rfl, hb⟩
          refine ⟨?_, hb⟩
          rw [readVal, o]
          by_cases hg : (num b.data.toList (Bytes.ahead b.data.toList - 4)).toNat = b.size - Bytes.ahead b.data.toList ∧ (fr b.data.toList).Right
          · have g : good b.data.toList = true := by
              rw [good, hlong, hl]; simp [hg.1, hg.2]
            rw [if_pos hg, g]; rfl
          · have g : good b.data.toList = false := by
              rw [good, hlong, hl, Bool.true_and, Bool.and_eq_false_iff, decide_eq_false_iff_not, decide_eq_false_iff_not]
              exact Decidable.not_and_iff_or_not.1 hg
            rw [if_neg hg, g]; rfl
        · have g : good b.data.toList = false := by
            have : long b.data.toList = false := by
              rw [long, hl, Bool.and_eq_false_iff]; exact Or.inr (by simpa using ha)
            rw [good, this]; rfl
          rw [readVal, o, g]
          exact readCut b h2' h72 hk hs (by rw [bare_ahead b hk]; omega) a0 a1 w L
      · have hk' : ver ((at' b.data.toList 1).toNat : Int) = false := by simpa using hk
        have o : old b.data.toList = true := by simp only [old, known, hk', hl, h72]; simp [h2']
        rw [readVal, o]
        exact readOld b h2' h72 hk' a0 a1 w L
    · have o : old b.data.toList = false := by simp [old, h72]
      have g : good b.data.toList = false := by simp [good, long, h72]
      rw [readVal, o, g]
      exact readOther b h2' h72 a0 a1 w L
end Go.Proofs.YtphfnlgjiomjkaaDoor
