/-
  The document's Read, Whole, Repair, Append, Same: walked.
-/
import Derived.Test.YtlcenfgnmmkcpaaJRefs
import Derived.OwnWalk
import Derived.LoopTactic
namespace Go.Proofs.Ytlcenfgnmmkcpaa
open Go.RowKit Go.Shelf
attribute [local go_sem] Oper.semAt_some
set_option linter.unusedVariables false
set_option linter.unusedSimpArgs false

namespace J
theorem read_yes {l : List UInt8} (h : told l = true) (ho : ok (l.take (size l + 9)) = true) : read l = data (l.take (size l + 9)) :: read (l.drop (size l + 9)) ∧ end' l = (size l + 9) + end' (l.drop (size l + 9)) := by
  have := told_length h
  rw [read, read, end', end', good_yes h ho]
  refine ⟨rfl, ?_⟩
  rw [List.map_cons, List.sum_cons, List.length_take, Nat.min_eq_left this]
theorem read_no {l : List UInt8} (h : ¬ (told l = true ∧ ok (l.take (size l + 9)) = true)) : read l = [] ∧ end' l = 0 := by
  have hg : good l = [] := by
    cases ht : told l with
    | false => exact good_no ht
    | true =>
      cases ho : ok (l.take (size l + 9)) with
      | false => exact good_bad ht ho
      | true => exact absurd ⟨ht, ho⟩ h
  rw [read, end', hg]
  exact ⟨rfl, rfl⟩
end J
theorem extract_list (s : ByteArray) (k : Nat) : (s.extract k s.size).data.toList = s.data.toList.drop k := by
  rw [Lib.extract_data, List.take_of_length_le (by rw [List.length_drop]; simp)]
theorem texts_of_owns {W : World} {n : Nat} {v : Value} {ds es : List (List UInt8)} (h : W.ownsRow n 9 1 v ds.length (ds.map strV)) (he : es = ds) : Texts W v es := by
  subst he
  have h' := h
  rcases h.2 with ⟨rfl, h0⟩ | ⟨g, cap, cur, rfl, hbg, hgb, hnc, hcm, hcs, htake⟩
  · exact .inl ⟨rfl, List.length_eq_zero_iff.1 h0⟩
  · refine .inr ⟨g, cap, rfl, hnc, (Array.getElem?_eq_some_iff.1 hgb).1, fun j hj => ?_⟩
    rw [h'.cellAt j (by omega), List.getElem?_map, List.getElem?_eq_getElem hj]; rfl
def intOf : Value → Int
  | .int _ n => n
  | _ => 0
set_option maxRecDepth 100000 in
set_option maxHeartbeats 4000000 in
theorem refRead (s : ByteArray) (hs : s.size ≤ 100000) (w : World) : Calls Try.prog 15 #[.string s] w fun e w' =>
    (∃ v, e = .returned (.tuple #[v, .int .i64 (J.end' s.data.toList : Int)]) ∧ Texts w' v (J.read s.data.toList)) ∧ Below w.heap.size w w' := by
  have hl : s.data.toList.length = s.size := by simp
  obtain ⟨i0, hi, hz0, hz1, hz2⟩ := info_parts info_str
  go_enter Try.func15, Try.ntmps15
  go_wp2
  go_loopw [4, 5] (fun o i W => ∃ (ds : List (List UInt8)) (q : Nat), i = .int .i64 q ∧ q ≤ s.size ∧ 9 * ds.length ≤ q ∧ J.read s.data.toList = ds ++ J.read (s.data.toList.drop q) ∧ J.end' s.data.toList = q + J.end' (s.data.toList.drop q) ∧ W.ownsRow w.heap.size 9 1 o ds.length (ds.map strV) ∧ Below w.heap.size w W)
    (fun o i _ => s.size - (intOf i).toNat)
  case atStart => exact ⟨[], 0, rfl, Nat.zero_le _, Nat.zero_le _, by simp, by simp, World.ownsRow_nil _ _ _ _, Below.refl _ _⟩
  case round =>
    obtain ⟨ds, q, rfl, hq, h9, hrd, hen, hown, hB⟩ := hrel
    have hqi : (q : Int) ≤ (s.size : Int) := by omega
    have hT : (s.extract q s.size).size = s.size - q := by rw [ByteArray.size_extract]; omega
    have hTl := extract_list s q
    have hone := fun W => refOne (s.extract q s.size) (by omega) W
    by_cases hy : J.told (s.data.toList.drop q) = true ∧ J.ok ((s.data.toList.drop q).take (J.size (s.data.toList.drop q) + 9)) = true
    · rw [oneF, hTl, if_pos hy] at hone
      obtain ⟨h1, h2⟩ := J.read_yes hy.1 hy.2
      have h3 := J.told_length hy.1
      rw [List.length_drop, hl] at h3
      rw [h1] at hrd
      rw [h2] at hen
      rw [List.drop_drop] at hrd hen
      generalize J.data ((s.data.toList.drop q).take (J.size (s.data.toList.drop q) + 9)) = d at *
      generalize hn : J.size (s.data.toList.drop q) + 9 = n at *
      have hn9 : 9 ≤ n := by omega
      have HO := Lib.hid hone
      have HRD := Lib.hid hrd
      have HEN := Lib.hid hen
      have hn0 : ((n : Int) == 0) = false := by rw [beq_eq_false_iff_ne]; omega
      clear hone h1 h2 hy hT hTl hn hl hrd hen
      go_wp2_with (first
        | (go_at_call 31; refine (HO.out _).mono ?_; rintro e w1 ⟨rfl, hb1⟩)
        | (at_builtin; refine wpList_append_own _ rfl _ _ 27 rfl w.heap.size 9 i0 (.string ⟨#[]⟩) 1 16 Try.underlying27 hi hz0 hz1 hz2 rfl (by decide) _ _ _ rfl ((hown.kept (grown_below' hb1 none) (by cases Value.ownBlock _ <;> simp)).alloc _) ⟨w1.heap.size, 0, none⟩ 1 1 [strV d] rfl rfl (cell_one_new _ _ _) (by simp [Value.oneCell']) (by unfold maxLen; omega) (by omega) (by have := (hB.trans (hb1.mono hB.size)).size; simp; omega) ?_; intro v' w2 hown' hgrow _))
      go_roundw
      case rel =>
        refine ⟨ds ++ [d], q + n, by go_num, by omega, by simp; omega, by rw [HRD.out, List.append_assoc]; rfl, by rw [HEN.out]; omega, by simpa using hown', ?_⟩
        have hB1 := hB.trans (hb1.mono hB.size)
        exact (hB1.alloc hB1.size _).grown hgrow (by have := hB1.size; simp; omega) (fun k hk => (hown.lt k hk).1)
      case measure => simp [intOf]; omega
    · rw [oneF, hTl, if_neg hy] at hone
      obtain ⟨h1, h2⟩ := J.read_no hy
      rw [h1, List.append_nil] at hrd
      rw [h2, Nat.add_zero] at hen
      have HO := Lib.hid hone
      have HRD := Lib.hid hrd
      have HEN := Lib.hid hen
      clear hone h1 h2 hy hT hTl hl hrd hen
      go_wp2_with (first
        | (go_at_call 31; refine (HO.out _).mono ?_; rintro e w1 ⟨rfl, hb1⟩))
      go_ret2
      exact ⟨⟨_, by rw [HEN.out]; rfl, texts_of_owns (hown.kept (grown_below' hb1 none) (by cases Value.ownBlock _ <;> simp)) HRD.out⟩, hB.trans (hb1.mono hB.size)⟩
set_option maxRecDepth 100000 in
theorem refWhole (s : ByteArray) (hs : s.size ≤ 100000) (w : World) : Calls Try.prog 18 #[.string s] w fun e w' => e = .returned (.bool (wholeF s)) ∧ Below w.heap.size w w' := by
  have hw : wholeF s = ((J.end' s.data.toList : Int) == (s.size : Int)) := rfl
  rw [hw]
  have HR := Lib.hid (refRead s hs)
  generalize J.end' s.data.toList = q at *
  go_enter Try.func18, Try.ntmps18
  go_wp2_with (go_at_call 15; refine (HR.out _).mono ?_; rintro e w1 ⟨⟨v, rfl, hT⟩, hb1⟩)
  go_ret
  exact ⟨rfl, hb1⟩
theorem extract_rep (s : ByteArray) : s.extract 0 (J.end' s.data.toList) = repF s := by
  rw [repF, ← txt_data (s.extract 0 _), Lib.extract_data, List.drop_zero, Nat.sub_zero]
set_option maxRecDepth 100000 in
theorem refRepair (s : ByteArray) (hs : s.size ≤ 100000) (w : World) : Calls Try.prog 20 #[.string s] w fun e w' => e = .returned (.string (repF s)) ∧ Below w.heap.size w w' := by
  have hle := end_le s.data.toList
  have hl : s.data.toList.length = s.size := by simp
  rw [← extract_rep]
  have HR := Lib.hid (refRead s hs)
  generalize J.end' s.data.toList = q at *
  have hq : (q : Int) ≤ (s.size : Int) := by omega
  clear hl
  go_enter Try.func20, Try.ntmps20
  go_wp2_with (go_at_call 15; refine (HR.out _).mono ?_; rintro e w1 ⟨⟨v, rfl, hT⟩, hb1⟩)
  go_ret
  exact ⟨rfl, hb1⟩
set_option maxRecDepth 100000 in
theorem refAppendTorn (s d : ByteArray) (keep : Int) (hs : s.size ≤ 100000) (hw : wholeF s = false) (w : World) : Calls Try.prog 22 #[.string s, .string d, .int .i64 keep] w fun e w' => e = .returned (.tuple #[.string ⟨#[]⟩, .int .i64 31]) ∧ Below w.heap.size w w' := by
  have h := fun W => refWhole s hs W
  rw [hw] at h
  have HW := Lib.hid h
  clear h hw
  go_enter Try.func22, Try.ntmps22
  go_wp2_with (go_at_call 18; refine (HW.out _).mono ?_; rintro e w1 ⟨rfl, hb1⟩)
  go_ret2
  exact ⟨rfl, hb1⟩
set_option maxRecDepth 100000 in
theorem refAppendLong (s d : ByteArray) (keep : Int) (hs : s.size ≤ 100000) (hd : d.size ≤ 100000) (hw : wholeF s = true) (h4 : ¬ d.size ≤ 4096) (w : World) : Calls Try.prog 22 #[.string s, .string d, .int .i64 keep] w fun e w' => e = .returned (.tuple #[.string ⟨#[]⟩, .int .i64 30]) ∧ Below w.heap.size w w' := by
  have h := fun W => refWhole s hs W
  rw [hw] at h
  have HW := Lib.hid h
  have hr := fun W => refRecord d hd W
  rw [recF, if_neg h4] at hr
  have HR := Lib.hid hr
  clear h hw hr h4
  go_enter Try.func22, Try.ntmps22
  go_wp2_with (first
    | (go_at_call 18; refine (HW.out _).mono ?_; rintro e w1 ⟨rfl, hb1⟩)
    | (go_at_call 13; refine (HR.out _).mono ?_; rintro e w2 ⟨rfl, hb2⟩))
  go_ret2
  exact ⟨rfl, hb1.trans (hb2.mono hb1.size)⟩
set_option maxRecDepth 100000 in
set_option maxHeartbeats 2000000 in
theorem refAppendYes (s d : ByteArray) (keep : Int) (hs : s.size ≤ 100000) (hw : wholeF s = true) (h4 : d.size ≤ 4096) (w : World) : Calls Try.prog 22 #[.string s, .string d, .int .i64 keep] w fun e w' => e = .returned (.tuple #[.string (s ++ txt ((J.rec d.data.toList).take (keptN (J.rec d.data.toList).length keep))), .int .i64 0]) ∧ Below w.heap.size w w' := by
  have h := fun W => refWhole s hs W
  rw [hw] at h
  have HW := Lib.hid h
  have hr := fun W => refRecord d (by omega) W
  rw [recF, if_pos h4] at hr
  have hl : d.data.toList.length = d.size := by simp
  have hRl : (J.rec d.data.toList).length = d.size + 9 := by rw [J.rec_length, hl]
  have hRs : (txt (J.rec d.data.toList)).size = d.size + 9 := by rw [txt_size, hRl]
  obtain ⟨K, hK⟩ : ∃ K, keptN (J.rec d.data.toList).length keep = K := ⟨_, rfl⟩
  rw [hK]
  have hKi : max 0 (min keep (((txt (J.rec d.data.toList)).size : Nat) : Int)) = (K : Int) := by rw [← hK, keptN, hRl, hRs]; omega
  have hKl : K ≤ d.size + 9 := by rw [← hK, keptN, hRl]; omega
  have hcut : (txt (J.rec d.data.toList)).extract 0 K = txt ((J.rec d.data.toList).take K) := by
    rw [← txt_data ((txt (J.rec d.data.toList)).extract 0 K), Lib.extract_data, List.drop_zero, Nat.sub_zero, txt_toList]
  rw [← hcut]
  generalize txt (J.rec d.data.toList) = R at *
  have HR := Lib.hid hr
  have hdec : decide (1048576 < (s.size : Int) + (R.size : Int)) = false := by rw [decide_eq_false_iff_not]; omega
  have hdec' : decide (1048576 < wrap64 ((s.size : Int) + (R.size : Int))) = false := by rw [decide_eq_false_iff_not]; unfold wrap64; omega
  have hKR : (K : Int) ≤ (R.size : Int) := by omega
  have hl1 : ¬ 9223372036854775807 < s.size + (R.extract 0 K).size := by rw [ByteArray.size_extract]; omega
  have HB := Lib.hid (And.intro hs (And.intro h4 (And.intro hKl hRs)))
  clear h hw hr hK hRl hl hcut hs h4 hKl hRs
  go_enter Try.func22, Try.ntmps22
  go_wp2_with (first
    | (go_at_call 18; refine (HW.out _).mono ?_; rintro e w1 ⟨rfl, hb1⟩)
    | (go_at_call 13; refine (HR.out _).mono ?_; rintro e w2 ⟨rfl, hb2⟩))
  go_ret2
  exact ⟨rfl, hb1.trans (hb2.mono hb1.size)⟩
theorem refAppend (s d : ByteArray) (keep : Int) (hs : s.size ≤ 100000) (hd : d.size ≤ 100000) (w : World) : Calls Try.prog 22 #[.string s, .string d, .int .i64 keep] w fun e w' => e = .returned (.tuple #[.string (appF s d keep).1, .int .i64 (appF s d keep).2]) ∧ Below w.heap.size w w' := by
  cases hw : wholeF s with
  | false => rw [appF, if_neg (by rw [hw]; simp)]; exact refAppendTorn s d keep hs hw w
  | true =>
    by_cases h4 : d.size ≤ 4096
    · rw [appF, if_pos hw, if_pos h4]; exact refAppendYes s d keep hs hw h4 w
    · rw [appF, if_pos hw, if_neg h4]; exact refAppendLong s d keep hs hd hw h4 w
end Go.Proofs.Ytlcenfgnmmkcpaa
