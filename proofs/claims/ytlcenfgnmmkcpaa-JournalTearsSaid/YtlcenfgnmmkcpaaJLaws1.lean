/-
  What the laws of layer 3 begin with; the laws of what is read, of what is appended, of how much data a record may have: walked.
-/
import Derived.Test.YtlcenfgnmmkcpaaJSame
import Derived.Test.YtlcenfgnmmkcpaaJRec
namespace Go.Proofs.Ytlcenfgnmmkcpaa
open Go.RowKit Go.Shelf
attribute [local go_sem] Oper.semAt_some
set_option linter.unusedVariables false
set_option linter.unusedSimpArgs false

/-- The record that is shown. -/
def R0 : ByteArray := txt (J.rec [97])
theorem R0_size : R0.size = 10 := by decide +kernel
theorem R0_head : R0.extract 0 6 = ⟨#[52, 1, 0, 0, 0, 97]⟩ := by decide +kernel
theorem R0_list : R0.data.toList = J.rec [97] := txt_toList _
theorem R0_read : J.read R0.data.toList = [[97]] ∧ J.end' R0.data.toList = 10 := by
  have h := J.read_rec [97] [] (by decide)
  rw [List.append_nil, J.read_nil.1, J.read_nil.2] at h
  rw [R0_list]
  exact h
theorem R0_rec : recF ⟨#[97]⟩ = (R0, 0) := by rw [recF, if_pos (by decide)]; rfl
set_option maxRecDepth 100000 in
theorem lawShown (w : World) : Calls Try.prog 10 #[] w fun e w' => e = .returned (.bool true) ∧ Below w.heap.size w w' := by
  have hr := fun W => jRecord ⟨#[97]⟩ (by decide) W
  rw [R0_rec] at hr
  have hd := fun W => jRead R0 (by rw [R0_size]; omega) W
  rw [R0_read.1, R0_read.2] at hd
  have hz := R0_size
  have hh := R0_head
  generalize R0 = R at *
  have HR := Lib.hid hr
  have HD := Lib.hid hd
  have hzi : (R.size : Int) = 10 := by omega
  have h97 : ((txt [97]).toList == [97]) = true := by decide +kernel
  clear hr hd
  go_enter Try.func10, Try.ntmps10
  go_wp2_with (first
    | (go_at_call 12; refine (HR.out _).mono ?_; rintro e w1 ⟨rfl, hb1⟩)
    | (go_at_call 14; refine (HD.out _).mono ?_; rintro e w2 ⟨⟨v, rfl, hT⟩, hb2⟩
       rcases hT with ⟨rfl, hT⟩ | ⟨g, c, rfl, hc, hg, hx⟩
       · cases hT
       have hx0 : w2.cell? ⟨g, 0, none⟩ = some (.string ⟨#[97]⟩) := hx 0 (by decide)
       simp only [List.length_cons, List.length_nil, Nat.zero_add]))
  go_ret
  exact ⟨rfl, hb1.trans (hb2.mono hb1.size)⟩
/-- A text's first six thousand bytes. -/
def cutS (s : ByteArray) : ByteArray := s.extract 0 (min (s.size : Int) 6000).toNat
theorem cutS_size (s : ByteArray) : (cutS s).size ≤ 100000 := by rw [cutS, ByteArray.size_extract]; omega
set_option maxRecDepth 100000 in
theorem lawCut (s : ByteArray) (hs : s.size ≤ maxLen) (w : World) : Calls Try.prog 11 #[.string s] w fun e w' => e = .returned (.string (cutS s)) ∧ w = w' := by
  unfold maxLen at hs
  go_enter Try.func11, Try.ntmps11
  go_wp2
  go_ret
  exact ⟨rfl, rfl⟩
theorem texts_len {W : World} {v : Value} {ds : List (List UInt8)} (h : Texts W v ds) : ∃ a c, v = .slice a ds.length c := by
  rcases h with ⟨rfl, rfl⟩ | ⟨g, c, rfl, _⟩
  · exact ⟨_, _, rfl⟩
  · exact ⟨_, _, rfl⟩
theorem read_count (s : ByteArray) (h : s.size ≤ 100000) : (J.read s.data.toList).length ≤ 100000 := by
  have h1 := J.pieces_count s.data.toList
  have h2 : (J.good s.data.toList).length ≤ (J.pieces s.data.toList).length := by
    rw [J.good]
    exact (List.takeWhile_sublist _).length_le
  have h3 : s.data.toList.length = s.size := by simp
  rw [J.read, List.length_map]; omega
set_option maxRecDepth 100000 in
set_option maxHeartbeats 2000000 in
theorem lawReads (s : ByteArray) (hs : s.size ≤ maxLen) (w : World) : Calls Try.prog 3 #[.string s] w fun e w' => e = .returned (.bool true) ∧ Below w.heap.size w w' := by
  have hz := cutS_size s
  have HCUT := Lib.hid (fun W => lawCut s hs W)
  generalize cutS s = S at *
  have HC1 := Lib.hid (fun W => jRecord S hz W)
  have HC2 := Lib.hid (fun W => refRecord S hz W)
  have HR1 := Lib.hid (fun W => jRead S hz W)
  have HR2 := Lib.hid (fun W => refRead S hz W)
  have HW1 := Lib.hid (fun W => jWhole S hz W)
  have HW2 := Lib.hid (fun W => refWhole S hz W)
  have HP1 := Lib.hid (fun W => jRepair S hz W)
  have HP2 := Lib.hid (fun W => refRepair S hz W)
  have HN := Lib.hid (read_count S hz)
  generalize J.read S.data.toList = ds at *
  generalize J.end' S.data.toList = q at *
  generalize (recF S).1 = A at *
  generalize (recF S).2 = x at *
  generalize wholeF S = B at *
  generalize repF S = R at *
  have HS := Lib.hid (fun (va vb : Value) (W : World) (h1 : TextsO W va ds) (h2 : TextsO W vb ds) => by have h := refSame va vb ds ds W h1 h2 HN.out; rw [decide_eq_true rfl] at h; exact h : ∀ (va vb : Value) (W : World), TextsO W va ds → TextsO W vb ds → Calls Try.prog 16 #[va, vb] W fun e w' => e = .returned (.bool true) ∧ Below W.heap.size W w')
  clear hz hs
  go_enter Try.func3, Try.ntmps3
  have hb := Below.refl w.heap.size w
  go_wp2_with (first
    | (go_at_call 10; refine (lawShown _).mono ?_; rintro e w1 ⟨rfl, hb1⟩; replace hb := hb.trans (hb1.mono hb.size); clear hb1)
    | (go_at_call 11; refine (HCUT.out _).mono ?_; rintro e w' ⟨rfl, rfl⟩)
    | (go_at_call 12; refine (HC1.out _).mono ?_; rintro e w2 ⟨rfl, hb1⟩; replace hb := hb.trans (hb1.mono hb.size); clear hb1)
    | (go_at_call 13; refine (HC2.out _).mono ?_; rintro e w3 ⟨rfl, hb1⟩; replace hb := hb.trans (hb1.mono hb.size); clear hb1)
    | (go_at_call 14; refine (HR1.out _).mono ?_; rintro e w4 ⟨⟨v, rfl, hT⟩, hb1⟩; replace hb := hb.trans (hb1.mono hb.size); clear hb1)
    | (go_at_call 15; refine (HR2.out _).mono ?_; rintro e w5 ⟨⟨v', rfl, hT'⟩, hb1⟩; replace hb := hb.trans (hb1.mono hb.size); replace hT := hT.below hb1 (Nat.le_refl _); clear hb1)
    | (go_at_call 16; refine (HS.out _ _ _ hT.toO hT'.toO).mono ?_; rintro e w6 ⟨rfl, hb1⟩; replace hb := hb.trans (hb1.mono hb.size); clear hb1)
    | (go_at_call 17; refine (HW1.out _).mono ?_; rintro e w7 ⟨rfl, hb1⟩; replace hb := hb.trans (hb1.mono hb.size); clear hb1)
    | (go_at_call 18; refine (HW2.out _).mono ?_; rintro e w8 ⟨rfl, hb1⟩; replace hb := hb.trans (hb1.mono hb.size); clear hb1)
    | (go_at_call 19; refine (HP1.out _).mono ?_; rintro e w9 ⟨rfl, hb1⟩; replace hb := hb.trans (hb1.mono hb.size); clear hb1)
    | (go_at_call 20; refine (HP2.out _).mono ?_; rintro e w10 ⟨rfl, hb1⟩; replace hb := hb.trans (hb1.mono hb.size); clear hb1))
  go_ret
  exact ⟨rfl, hb⟩
set_option maxRecDepth 100000 in
set_option maxHeartbeats 2000000 in
theorem lawAppends (s d : ByteArray) (keep : Int) (hs : s.size ≤ maxLen) (hd : d.size ≤ maxLen) (w : World) : Calls Try.prog 4 #[.string s, .string d, .int .i64 keep] w fun e w' => e = .returned (.bool true) ∧ Below w.heap.size w w' := by
  have hz := cutS_size s
  have hz' := cutS_size d
  have HC := Lib.hid (fun (x : ByteArray) (h : x.size ≤ maxLen) W => lawCut x h W)
  have HH := Lib.hid (And.intro hs hd)
  have HA1 := Lib.hid (fun W => jAppend (cutS s) (cutS d) keep hz hz' W)
  have HA2 := Lib.hid (fun W => refAppend (cutS s) (cutS d) keep hz hz' W)
  generalize (appF (cutS s) (cutS d) keep).1 = A at *
  generalize (appF (cutS s) (cutS d) keep).2 = x at *
  clear hz hz' hs hd
  go_enter Try.func4, Try.ntmps4
  have hb := Below.refl w.heap.size w
  go_wp2_with (first
    | (go_at_call 10; refine (lawShown _).mono ?_; rintro e w1 ⟨rfl, hb1⟩; replace hb := hb.trans (hb1.mono hb.size); clear hb1)
    | (go_at_call 11; refine (HC.out _ (by first | exact HH.out.1 | exact HH.out.2) _).mono ?_; rintro e w' ⟨rfl, rfl⟩)
    | (go_at_call 21; refine (HA1.out _).mono ?_; rintro e w2 ⟨rfl, hb1⟩; replace hb := hb.trans (hb1.mono hb.size); clear hb1)
    | (go_at_call 22; refine (HA2.out _).mono ?_; rintro e w3 ⟨rfl, hb1⟩; replace hb := hb.trans (hb1.mono hb.size); clear hb1))
  go_ret
  exact ⟨rfl, hb⟩
/-- So many bytes of 0. -/
def zeros (n : Nat) : ByteArray := txt (List.replicate n 0)
theorem zeros_size (n : Nat) : (zeros n).size = n := by rw [zeros, txt_size, List.length_replicate]
theorem holds_zeros {w : World} {base g n : Nat} (h : w.ownsRow base 5 1 (.slice (some ⟨g, 0, none⟩) n n) n (madeCells (Value.int .u8 0).cells (n * 1)).toList) : Holds w g 0 (List.replicate n 0) := by
  intro j hj
  rw [List.length_replicate] at hj
  rw [Nat.zero_add, h.cellAt j (by omega)]
  simp [madeCells, Value.cells, hj, Nat.mod_one]
theorem whole_nil : wholeF ⟨#[]⟩ = true := by
  have h : (⟨#[]⟩ : ByteArray).data.toList = [] := rfl
  rw [wholeF, h, J.read_nil.2]; rfl
set_option maxRecDepth 100000 in
theorem fullNone (n : Int) (h : n < 4090 ∨ 4100 < n) (w : World) : Calls Try.prog 8 #[.int .i64 n] w fun e w' => e = .returned (.bool true) ∧ Below w.heap.size w w' := by
  rcases h with h | h
  · have hd : decide (n < 4090) = true := decide_eq_true h
    go_enter Try.func8, Try.ntmps8
    go_wp2_with (go_at_call 10; refine (lawShown _).mono ?_; rintro e w1 ⟨rfl, hb1⟩)
    go_ret
    exact ⟨rfl, hb1⟩
  · have hd : decide (n < 4090) = false := decide_eq_false (by omega)
    have hd' : decide (4100 < n) = true := decide_eq_true h
    go_enter Try.func8, Try.ntmps8
    go_wp2_with (go_at_call 10; refine (lawShown _).mono ?_; rintro e w1 ⟨rfl, hb1⟩)
    go_ret
    exact ⟨rfl, hb1⟩
set_option maxRecDepth 100000 in
set_option maxHeartbeats 4000000 in
theorem fullYes (k : Nat) (h1 : 4090 ≤ k) (h2 : k ≤ 4100) (hk : k ≤ 4096) (w : World) : Calls Try.prog 8 #[.int .i64 (k : Int)] w fun e w' => e = .returned (.bool true) ∧ Below w.heap.size w w' := by
  have hd1 : decide ((k : Int) < 4090) = false := decide_eq_false (by omega)
  have hd2 : decide (4100 < (k : Int)) = false := decide_eq_false (by omega)
  have hzk := zeros_size k
  have hr := fun W => jRecord (zeros k) (by omega) W
  have ha := fun W => jAppend ⟨#[]⟩ (zeros k) 5 (by decide) (by omega) W
  rw [recF, if_pos (by omega)] at hr
  rw [appF, if_pos whole_nil, if_pos (by omega)] at ha
  have hT : (txt (J.rec (zeros k).data.toList)).size = k + 9 := by
    rw [txt_size, J.rec_length, Array.length_toList]
    show (zeros k).size + 9 = _
    rw [hzk]
  generalize txt (J.rec (zeros k).data.toList) = T at *
  generalize (⟨#[]⟩ ++ txt ((J.rec (zeros k).data.toList).take (keptN (J.rec (zeros k).data.toList).length 5)) : ByteArray) = U at *
  have hTi : (T.size : Int) = (k : Int) + 9 := by omega
  have hwr : ((k : Int) + 9 == wrap64 ((k : Int) + 9)) = true := by rw [beq_iff_eq]; unfold wrap64; omega
  have hle : decide ((k : Int) ≤ 4096) = true := decide_eq_true (by omega)
  have hD0 : txt (List.replicate k 0) = zeros k := rfl
  have hlen : (List.replicate k (0 : UInt8)).length = k := List.length_replicate
  generalize zeros k = D at *
  have HR := Lib.hid hr
  have HA := Lib.hid ha
  have HK := Lib.hid (And.intro h1 h2)
  clear hr ha hT hzk h1 h2 hk
  obtain ⟨i0, hi, hz0, hz1, hz2⟩ := info_parts infoByte
  go_enter Try.func8, Try.ntmps8
  have hb := Below.refl w.heap.size w
  go_wp2_with (first
    | (go_at_call 10; refine (lawShown _).mono ?_; rintro e w1 ⟨rfl, hb1⟩; replace hb := hb.trans (hb1.mono hb.size); clear hb1)
    | (at_make; refine wpList_make_full _ rfl _ _ _ rfl w.heap.size 5 i0 (.int .u8 0) 1 Try.underlying38 hi hz0 hz1 .i64 .i64 _ _ k rfl rfl rfl rfl (by rw [hz2]; have := HK.out; omega) (by have := HK.out; unfold maxLen; omega) hb.size ?_
       intro w2 hown hgrow
       have hr := run_text w2 _ 0 k (List.replicate k 0) (holds_zeros hown)
       rw [hlen, hD0] at hr
       replace hb := hb.grown hgrow hb.size (by simp)
       clear hown hgrow)
    | (go_at_call 12; refine (HR.out _).mono ?_; rintro e w3 ⟨rfl, hb1⟩; replace hb := hb.trans (hb1.mono hb.size); clear hb1 hr)
    | (go_at_call 21; refine (HA.out _).mono ?_; rintro e w4 ⟨rfl, hb1⟩; replace hb := hb.trans (hb1.mono hb.size); clear hb1 hr))
  go_ret
  exact ⟨rfl, hb⟩
set_option maxRecDepth 100000 in
set_option maxHeartbeats 4000000 in
theorem fullNo (k : Nat) (h1 : 4090 ≤ k) (h2 : k ≤ 4100) (hk : 4096 < k) (w : World) : Calls Try.prog 8 #[.int .i64 (k : Int)] w fun e w' => e = .returned (.bool true) ∧ Below w.heap.size w w' := by
  have hd1 : decide ((k : Int) < 4090) = false := decide_eq_false (by omega)
  have hd2 : decide (4100 < (k : Int)) = false := decide_eq_false (by omega)
  have hzk := zeros_size k
  have hr := fun W => jRecord (zeros k) (by omega) W
  have ha := fun W => jAppend ⟨#[]⟩ (zeros k) 5 (by decide) (by omega) W
  rw [recF, if_neg (by omega)] at hr
  rw [appF, if_pos whole_nil, if_neg (by omega)] at ha
  have hT := hzk
  have hle : decide ((k : Int) ≤ 4096) = false := decide_eq_false (by omega)
  have hD0 : txt (List.replicate k 0) = zeros k := rfl
  have hlen : (List.replicate k (0 : UInt8)).length = k := List.length_replicate
  generalize zeros k = D at *
  have HR := Lib.hid hr
  have HA := Lib.hid ha
  have HK := Lib.hid (And.intro h1 h2)
  clear hr ha hT hzk h1 h2 hk
  obtain ⟨i0, hi, hz0, hz1, hz2⟩ := info_parts infoByte
  go_enter Try.func8, Try.ntmps8
  have hb := Below.refl w.heap.size w
  go_wp2_with (first
    | (go_at_call 10; refine (lawShown _).mono ?_; rintro e w1 ⟨rfl, hb1⟩; replace hb := hb.trans (hb1.mono hb.size); clear hb1)
    | (at_make; refine wpList_make_full _ rfl _ _ _ rfl w.heap.size 5 i0 (.int .u8 0) 1 Try.underlying38 hi hz0 hz1 .i64 .i64 _ _ k rfl rfl rfl rfl (by rw [hz2]; have := HK.out; omega) (by have := HK.out; unfold maxLen; omega) hb.size ?_
       intro w2 hown hgrow
       have hr := run_text w2 _ 0 k (List.replicate k 0) (holds_zeros hown)
       rw [hlen, hD0] at hr
       replace hb := hb.grown hgrow hb.size (by simp)
       clear hown hgrow)
    | (go_at_call 12; refine (HR.out _).mono ?_; rintro e w3 ⟨rfl, hb1⟩; replace hb := hb.trans (hb1.mono hb.size); clear hb1 hr)
    | (go_at_call 21; refine (HA.out _).mono ?_; rintro e w4 ⟨rfl, hb1⟩; replace hb := hb.trans (hb1.mono hb.size); clear hb1 hr))
  go_ret
  exact ⟨rfl, hb⟩
theorem lawFull (n : Int) (w : World) : Calls Try.prog 8 #[.int .i64 n] w fun e w' => e = .returned (.bool true) ∧ Below w.heap.size w w' := by
  by_cases h : n < 4090 ∨ 4100 < n
  · exact fullNone n h w
  · obtain ⟨k, rfl⟩ := Int.eq_ofNat_of_zero_le (show 0 ≤ n by omega)
    by_cases hk : k ≤ 4096
    · exact fullYes k (by omega) (by omega) hk w
    · exact fullNo k (by omega) (by omega) (by omega) w
end Go.Proofs.Ytlcenfgnmmkcpaa
