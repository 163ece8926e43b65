/-
  What is read, step by step; a list of texts that is owned.
-/
import Derived.Test.YtfbponiiejanfaaJRead
namespace Go.Proofs.Ytfbponiiejanfaa
open Go.RowKit Go.Shelf
set_option linter.unusedVariables false
set_option linter.unusedSimpArgs false
namespace J
theorem read_yes {l : List UInt8} (h : told l = true) (ho : ok (l.take (size l + 9)) = true) : read l = data (l.take (size l + 9)) :: read (l.drop (size l + 9)) ∧ end' l = (size l + 9) + end' (l.drop (size l + 9)) := by
  have := told_length h
  rw [read, read, end', end', good_yes h ho]
  refine ⟨rfl, ?_⟩
  rw [List.map_cons, List.sum_cons, List.length_take, Nat.min_eq_left this]
theorem read_no {l : List UInt8} (h : ¬ (told l = true ∧ ok (l.take (size l + 9)) = true)) : read l = [] ∧ end' l = 0 := by
  have hg : good l = [] := by
    cases ht : told l with
    | false => exact good_no ht
    | true =>
      cases ho : ok (l.take (size l + 9)) with
      | false => exact good_bad ht ho
      | true => exact absurd ⟨ht, ho⟩ h
  rw [read, end', hg]
  exact ⟨rfl, rfl⟩
end J
theorem extract_list (s : ByteArray) (k : Nat) : (s.extract k s.size).data.toList = s.data.toList.drop k := by
  rw [Lib.extract_data, List.take_of_length_le (by rw [List.length_drop]; simp)]
theorem texts_of_owns {W : World} {n : Nat} {v : Value} {ds es : List (List UInt8)} (h : W.ownsRow n 9 1 v ds.length (ds.map strV)) (he : es = ds) : Texts W v es := by
  subst he
  have h' := h
  rcases h.2 with ⟨rfl, h0⟩ | ⟨g, cap, cur, rfl, hbg, hgb, hnc, hcm, hcs, htake⟩
  · exact .inl ⟨rfl, List.length_eq_zero_iff.1 h0⟩
  · refine .inr ⟨g, cap, rfl, hnc, (Array.getElem?_eq_some_iff.1 hgb).1, fun j hj => ?_⟩
    rw [h'.cellAt j (by omega), List.getElem?_map, List.getElem?_eq_getElem hj]; rfl
def intOf : Value → Int
  | .int _ n => n
  | _ => 0
end Go.Proofs.Ytfbponiiejanfaa
