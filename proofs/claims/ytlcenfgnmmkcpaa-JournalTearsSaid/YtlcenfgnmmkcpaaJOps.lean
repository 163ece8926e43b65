/-
  journal.Whole, Repair, Append: walked.
-/
import Derived.Test.YtlcenfgnmmkcpaaJRead
import Derived.ScopeJumps
import Derived.Laws.IdiomStrings
namespace Go.Proofs.Ytlcenfgnmmkcpaa
open Go.RowKit Go.Shelf
attribute [local go_sem] Oper.semAt_some
set_option linter.unusedVariables false
set_option linter.unusedSimpArgs false

def wholeF (s : ByteArray) : Bool := (J.end' s.data.toList : Int) == (s.size : Int)
theorem end_le (l : List UInt8) : J.end' l ≤ l.length := by
  rw [J.end', J.sum_flat]
  obtain ⟨t, ht⟩ := J.pieces_flat l
  have h1 : (J.good l).flatten.length ≤ (J.pieces l).flatten.length := by
    have : J.pieces l = J.good l ++ (J.pieces l).dropWhile J.ok := by rw [J.good, List.takeWhile_append_dropWhile]
    rw [this, List.flatten_append, List.length_append]
    have e : J.good l = (J.pieces l).takeWhile J.ok := rfl
    omega
  have h2 := congrArg List.length ht
  rw [List.length_append] at h2
  omega
set_option maxRecDepth 100000 in
theorem jWhole (s : ByteArray) (hs : s.size ≤ 100000) (w : World) : Calls Try.prog 17 #[.string s] w fun e w' => e = .returned (.bool (wholeF s)) ∧ Below w.heap.size w w' := by
  have hw : wholeF s = ((J.end' s.data.toList : Int) == (s.size : Int)) := rfl
  rw [hw]
  have HR := Lib.hid (jRead s hs)
  generalize J.end' s.data.toList = q at *
  go_enter Try.func17, Try.ntmps17
  go_wp2_with (go_at_call 14; refine (HR.out _).mono ?_; rintro e w1 ⟨⟨v, rfl, hT⟩, hb1⟩)
  go_ret
  exact ⟨rfl, hb1⟩
/-- What Repair answers. -/
def repF (s : ByteArray) : ByteArray := txt (s.data.toList.take (J.end' s.data.toList))
theorem extract_txt (s : ByteArray) (k : Nat) : s.extract 0 k ++ txt [] = txt (s.data.toList.take k) := by
  have h : (s.extract 0 k ++ txt []).data.toList = s.data.toList.take k := by
    simp only [ByteArray.data_append, Array.toList_append, txt_toList, List.append_nil]
    rw [Lib.extract_data, List.drop_zero, Nat.sub_zero]
  rw [← txt_data (s.extract 0 k ++ txt []), h]
set_option maxRecDepth 100000 in
theorem jRepair (s : ByteArray) (hs : s.size ≤ 100000) (w : World) : Calls Try.prog 19 #[.string s] w fun e w' => e = .returned (.string (repF s)) ∧ Below w.heap.size w w' := by
  have hle := end_le s.data.toList
  have hl : s.data.toList.length = s.size := by simp
  rw [repF, ← extract_txt]
  have HR := Lib.hid (jRead s hs)
  generalize J.end' s.data.toList = q at *
  have hq : (q : Int) ≤ (s.size : Int) := by omega
  have hz : (s.extract 0 q).size + ([] : List UInt8).length ≤ 140737488355328 := by rw [ByteArray.size_extract]; simp only [List.length_nil]; omega
  have HJ := Lib.hid (fun W => jJoined (s.extract 0 q) (.slice none 0 0) [] W (.inl ⟨rfl, rfl⟩) hz)
  clear hz hl
  go_enter Try.func19, Try.ntmps19
  go_wp2_with (first
    | (go_at_call 14; refine (HR.out _).mono ?_; rintro e w1 ⟨⟨v, rfl, hT⟩, hb1⟩)
    | (go_at_call 25; refine (HJ.out _).mono ?_; rintro e w2 ⟨rfl, hb2⟩))
  go_ret
  exact ⟨rfl, hb1.trans (hb2.mono hb1.size)⟩
/-- How many bytes of a record are kept. -/
def keptN (n : Nat) (keep : Int) : Nat := (min (max keep 0) (n : Int)).toNat
/-- What Append answers. -/
def appF (s d : ByteArray) (keep : Int) : ByteArray × Int :=
  if wholeF s = true then if d.size ≤ 4096 then (s ++ txt ((J.rec d.data.toList).take (keptN (J.rec d.data.toList).length keep)), 0) else (⟨#[]⟩, 30) else (⟨#[]⟩, 31)
set_option maxRecDepth 100000 in
theorem jAppendTorn (s d : ByteArray) (keep : Int) (hs : s.size ≤ 100000) (hd : d.size ≤ 100000) (hw : wholeF s = false) (w : World) : Calls Try.prog 21 #[.string s, .string d, .int .i64 keep] w fun e w' => e = .returned (.tuple #[.string ⟨#[]⟩, .int .i64 31]) ∧ Below w.heap.size w w' := by
  have h := fun W => jWhole s hs W
  rw [hw] at h
  have HW := Lib.hid h
  clear h hw
  go_enter Try.func21, Try.ntmps21
  go_wp2
  go_step3
  go_wp2_with (go_at_call 17; refine (HW.out _).mono ?_; rintro e w1 ⟨rfl, hb1⟩)
  try rw [Exit.noGoto_ret]
  go_ret2
  exact ⟨rfl, hb1⟩
set_option maxRecDepth 100000 in
theorem jAppendLong (s d : ByteArray) (keep : Int) (hs : s.size ≤ 100000) (hd : d.size ≤ 100000) (hw : wholeF s = true) (h4 : ¬ d.size ≤ 4096) (w : World) : Calls Try.prog 21 #[.string s, .string d, .int .i64 keep] w fun e w' => e = .returned (.tuple #[.string ⟨#[]⟩, .int .i64 30]) ∧ Below w.heap.size w w' := by
  have h := fun W => jWhole s hs W
  rw [hw] at h
  have HW := Lib.hid h
  have hr := fun W => jRecord d hd W
  rw [recF, if_neg h4] at hr
  have HR := Lib.hid hr
  clear h hw hr h4
  go_enter Try.func21, Try.ntmps21
  go_wp2
  refine wp_scope_jumps 0 (fun a' w' => a' = { tmps := #[.string s, .string d, .int .i64 keep, undef, undef, undef, .string ⟨#[]⟩, .int .i64 0, .string ⟨#[]⟩, .int .i64 30, .string s, .bool true, .bool false, .tuple #[.string ⟨#[]⟩, .int .i64 30], .string d, .tuple #[.string ⟨#[]⟩, .int .i64 30], .string ⟨#[]⟩, .int .i64 30, .int .i64 30, .bool true, undef, undef, undef, undef, undef, undef, undef, undef, undef, undef, undef, undef, undef, undef, undef, undef, undef, undef], defers := [] } ∧ Below w.heap.size w w') (fun _ _ => 0) rfl ?first ?pass
  case first =>
    go_wp2_with (first
      | (go_at_call 17; refine (HW.out _).mono ?_; rintro e w1 ⟨rfl, hb1⟩)
      | (go_at_call 12; refine (HR.out _).mono ?_; rintro e w2 ⟨rfl, hb2⟩))
    refine wp_goto ?_
    exact ⟨rfl, rfl, hb1.trans (hb2.mono hb1.size)⟩
  case pass =>
    rintro a1 W ⟨rfl, hB⟩
    go_wp2
    simp only [Exit.jump]
    go_ret2
    exact ⟨rfl, hB⟩
theorem bytes_new (w : World) (s : ByteArray) (cap : Nat) (W : World) (hW : (w.drew.alloc (.cells (bytesRow s cap) 5 ((bytesRow s cap).size, (bytesRow s cap).size + 1))) = W) : Holds W w.heap.size 0 s.data.toList := fun j hj => by
  have hj' : j < s.data.size := by simpa using hj
  rw [← hW, Nat.zero_add]
  have := World.cell?_alloc_mark w.drew (bytesRow s cap) 5 ((bytesRow s cap).size, (bytesRow s cap).size + 1) j
  refine Eq.trans this ?_
  rw [bytesRow, Array.getElem?_append_left (by simpa using hj'), Array.getElem?_map, Array.getElem?_eq_getElem hj']
  rfl
theorem bytes_cap (w : World) (n : Nat) (hn : n ≤ 100000) : n ≤ grownCap w n 0 5 := grownCap_ge w n 0 5
set_option maxRecDepth 100000 in
set_option maxHeartbeats 2000000 in
theorem jAppendYes (s d : ByteArray) (keep : Int) (hs : s.size ≤ 100000) (hw : wholeF s = true) (h4 : d.size ≤ 4096) (w : World) : Calls Try.prog 21 #[.string s, .string d, .int .i64 keep] w fun e w' => e = .returned (.tuple #[.string (s ++ txt ((J.rec d.data.toList).take (keptN (J.rec d.data.toList).length keep))), .int .i64 0]) ∧ Below w.heap.size w w' := by
  have h := fun W => jWhole s hs W
  rw [hw] at h
  have HW := Lib.hid h
  have hr := fun W => jRecord d (by omega) W
  rw [recF, if_pos h4] at hr
  have hl : d.data.toList.length = d.size := by simp
  have hRl : (J.rec d.data.toList).length = d.size + 9 := by rw [J.rec_length, hl]
  have hRs : (txt (J.rec d.data.toList)).size = d.size + 9 := by rw [txt_size, hRl]
  have hRd : (txt (J.rec d.data.toList)).data.toList = J.rec d.data.toList := txt_toList _
  obtain ⟨K, hK⟩ : ∃ K, keptN (J.rec d.data.toList).length keep = K := ⟨_, rfl⟩
  rw [hK]
  have hKi : min (max keep 0) (((txt (J.rec d.data.toList)).size : Nat) : Int) = (K : Int) := by rw [← hK, keptN, hRl, hRs]; omega
  have hKl : K ≤ d.size + 9 := by rw [hRs] at hKi; omega
  generalize J.rec d.data.toList = l at *
  generalize txt l = R at *
  have HR := Lib.hid hr
  have hlen : (l.take K).length = K := by rw [List.length_take]; omega
  have hz : s.size + (l.take K).length ≤ 140737488355328 := by omega
  have hdec : decide (1048576 - (R.size : Int) < (s.size : Int)) = false := by rw [decide_eq_false_iff_not]; omega
  have hdec' : decide (wrap64 (1048576 - (R.size : Int)) < (s.size : Int)) = false := by rw [decide_eq_false_iff_not]; unfold wrap64; omega
  have HJ := Lib.hid (fun (W : World) (v : Value) (hv : BytesAt W v (l.take K)) => jJoined s v (l.take K) W hv hz)
  have HRD := Lib.hid hRd
  have hsz := hRs
  have HL := Lib.hid hlen
  have h0K : (0 : Int) ≤ (K : Int) := by omega
  have HB := Lib.hid (And.intro hs (And.intro h4 (And.intro hKl hRs)))
  clear h hw hr hK hRl hRd hl hlen hz hs h4 hKl hsz hRs
  go_enter Try.func21, Try.ntmps21
  go_wp2
  go_step3
  go_wp2_with (first
    | (go_at_call 17; refine (HW.out _).mono ?_; rintro e w1 ⟨rfl, hb1⟩)
    | (go_at_call 12; refine (HR.out _).mono ?_; rintro e w2 ⟨rfl, hb2⟩
       have hB := hb1.trans (hb2.mono hb1.size)
       have hcv := run_bytes_of_string (P := Try.prog) w2 9 38 5 R Try.underlying9 Try.underlying38 Try.underlying5
       have hcap := bytes_cap w2 R.size (by have := HB.out; omega)
       generalize grownCap w2 R.size 0 5 = cap at *
       obtain ⟨V, hV⟩ : ∃ V, (w2.drew.alloc (.cells (bytesRow R cap) 5 ((bytesRow R cap).size, (bytesRow R cap).size + 1))) = V := ⟨_, rfl⟩
       have hH := bytes_new w2 R cap V hV
       have hBV : Below w.heap.size w V := by rw [← hV]; exact hB.drew.alloc (by have := hB.size; simpa using this) _
       have hVs : w2.heap.size < V.heap.size := by rw [← hV]; simp
       rw [hV] at hcv
       clear hV
       have hci : (K : Int) ≤ (cap : Int) := by have := HB.out; omega
       have hvb : BytesAt V (.slice (some ⟨w2.heap.size, 0, none⟩) K K) (l.take K) := .inr ⟨w2.heap.size, K, by rw [HL.out], hVs, fun j hj => by
         have hj' : j < l.length := by rw [List.length_take] at hj; omega
         rw [HRD.out] at hH
         rw [hH j hj', List.getElem_take]⟩)
    | (go_at_call 25; refine (HJ.out _ _ hvb).mono ?_; rintro e w3 ⟨rfl, hb3⟩))
  try rw [Exit.noGoto_ret]
  go_ret2
  exact ⟨rfl, hBV.trans (hb3.mono hBV.size)⟩
theorem jAppend (s d : ByteArray) (keep : Int) (hs : s.size ≤ 100000) (hd : d.size ≤ 100000) (w : World) : Calls Try.prog 21 #[.string s, .string d, .int .i64 keep] w fun e w' => e = .returned (.tuple #[.string (appF s d keep).1, .int .i64 (appF s d keep).2]) ∧ Below w.heap.size w w' := by
  cases hw : wholeF s with
  | false => rw [appF, if_neg (by rw [hw]; simp)]; exact jAppendTorn s d keep hs hd hw w
  | true =>
    by_cases h4 : d.size ≤ 4096
    · rw [appF, if_pos hw, if_pos h4]; exact jAppendYes s d keep hs hw h4 w
    · rw [appF, if_pos hw, if_neg h4]; exact jAppendLong s d keep hs hd hw h4 w
end Go.Proofs.Ytlcenfgnmmkcpaa
