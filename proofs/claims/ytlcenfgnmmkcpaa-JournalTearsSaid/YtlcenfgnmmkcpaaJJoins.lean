/-
  The law of records' bytes and others behind them: walked.
-/
import Derived.Test.YtlcenfgnmmkcpaaJBytes
namespace Go.Proofs.Ytlcenfgnmmkcpaa
open Go.RowKit Go.Shelf
attribute [local go_sem] Oper.semAt_some
set_option linter.unusedVariables false
set_option linter.unusedSimpArgs false

/-- A text's first three thousand bytes. -/
def cutT (s : ByteArray) : ByteArray := s.extract 0 (min (s.size : Int) 3000).toNat
theorem cutT_size (s : ByteArray) : (cutT s).size ≤ 3000 := by rw [cutT, ByteArray.size_extract]; omega
theorem append_list (s t : ByteArray) : (s ++ t).data.toList = s.data.toList ++ t.data.toList := by simp
theorem small_add {a b : Nat} (ha : a ≤ 4360) (hb : b ≤ 3000) : ¬ 9223372036854775807 < a + b := by omega
theorem small_len {n : Nat} (h : n ≤ 40) : n ≤ 100000 := by omega
theorem front_le {ds es : List (List UInt8)} {c : Nat} (h : (ds ++ es).length ≤ c) : (ds.length : Int) ≤ (c : Int) := by rw [List.length_append] at h; omega
theorem texts_cap {W : World} {v : Value} {ds : List (List UInt8)} (h : Texts W v ds) : ∃ a c, v = .slice a ds.length c ∧ ds.length ≤ c := by
  rcases h with ⟨rfl, rfl⟩ | ⟨g, c, rfl, hc, _⟩
  · exact ⟨_, _, rfl, Nat.le_refl _⟩
  · exact ⟨_, _, rfl, hc⟩
theorem front_texts {w : World} {q : Option Addr} {n c : Nat} {ds es : List (List UInt8)} (h : Texts w (.slice q n c) (ds ++ es)) : TextsO w (.slice q ds.length c) ds := by
  rcases h with ⟨h1, h2⟩ | ⟨g, c', h1, hc, hg, hx⟩
  · obtain ⟨rfl, rfl⟩ := List.append_eq_nil_iff.1 h2
    simp only [Value.slice.injEq] at h1
    obtain ⟨rfl, _, rfl⟩ := h1
    exact .inl ⟨rfl, rfl⟩
  · simp only [Value.slice.injEq] at h1
    obtain ⟨rfl, _, rfl⟩ := h1
    refine .inr ⟨g, 0, c, rfl, hg, fun j hj => ?_⟩
    rw [Nat.zero_add, hx j (by rw [List.length_append]; omega), List.getElem_append_left hj]
theorem back_texts {w : World} {q : Option Addr} {n c : Nat} {ds es : List (List UInt8)} (h : Texts w (.slice q n c) (ds ++ es)) : TextsO w (.slice (if c = ds.length then q else Option.map (fun x => x.add ds.length) q) es.length (c - ds.length)) es := by
  rcases h with ⟨h1, h2⟩ | ⟨g, c', h1, hc, hg, hx⟩
  · obtain ⟨rfl, rfl⟩ := List.append_eq_nil_iff.1 h2
    simp only [Value.slice.injEq] at h1
    obtain ⟨rfl, _, rfl⟩ := h1
    exact .inl ⟨rfl, rfl⟩
  · simp only [Value.slice.injEq] at h1
    obtain ⟨rfl, _, rfl⟩ := h1
    rw [List.length_append] at hc
    split
    · rename_i hce
      have he : es = [] := List.length_eq_zero_iff.1 (by omega)
      subst he
      exact .inr ⟨g, 0, _, rfl, hg, fun j hj => by simp at hj⟩
    · have ha : (⟨g, 0, none⟩ : Addr).add ds.length = ⟨g, ds.length, none⟩ := by rw [add_at, Nat.zero_add]
      refine .inr ⟨g, ds.length, _, by rw [Option.map_some, ha], hg, fun j hj => ?_⟩
      rw [hx (ds.length + j) (by rw [List.length_append]; omega), List.getElem_append_right (by omega)]
      simp
set_option maxRecDepth 100000 in
set_option maxHeartbeats 4000000 in
theorem lawJoins (v : Value) (ss : List ByteArray) (t : ByteArray) (w : World) (hT : TextsA w v ss) (hss : ss.length ≤ maxLen) (ht : t.size ≤ maxLen) : Calls Try.prog 9 #[v, .string t] w fun e w' => e = .returned (.bool true) ∧ Below w.heap.size w w' := by
  have hz1 := recs_datas ss
  have hz2 := cutT_size t
  have hSs : (txt (J.recs (datas ss))).size ≤ 4360 := by rw [txt_size]; exact hz1
  have hSl : (txt (J.recs (datas ss))).size = (J.recs (datas ss)).length := txt_size _
  have hr1 := fun W => jRead (txt (J.recs (datas ss))) (by omega) W
  have hr2 := fun W => jRead (cutT t) (by omega) W
  have hr3 := fun W => jRead (txt (J.recs (datas ss)) ++ cutT t) (by rw [ByteArray.size_append]; omega) W
  obtain ⟨g1, g2⟩ := J.read_all (datas ss) (datas_ok ss)
  obtain ⟨g3, g4⟩ := J.read_recs (datas ss) (cutT t).data.toList (datas_ok ss)
  rw [txt_toList, g1, g2, ← hSl] at hr1
  rw [append_list, txt_toList, g3, g4, ← hSl] at hr3
  have hby := fun (W : World) (h : TextsA W v ss) => lawBytes v ss W h hss
  have hc1 := read_count (cutT t) (by omega)
  have hc2 : (datas ss).length ≤ 40 := by rw [datas_length]; omega
  have hm := end_le (cutT t).data.toList
  have hml : (cutT t).data.toList.length = (cutT t).size := by simp
  have hcut : t.extract 0 (min (t.size : Int) 3000).toNat = cutT t := rfl
  generalize txt (J.recs (datas ss)) = S at *
  generalize datas ss = ds at *
  generalize cutT t = T at *
  generalize J.read T.data.toList = es at *
  generalize J.end' T.data.toList = m at *
  have HBY := Lib.hid hby
  have HR1 := Lib.hid hr1
  have HR2 := Lib.hid hr2
  have HR3 := Lib.hid hr3
  have HN := Lib.hid (And.intro hc1 hc2)
  have hw1 : wrap64 ((S.size : Int) + (m : Int)) = (S.size : Int) + (m : Int) := by unfold wrap64; omega
  have hw2 : wrap64 ((ds.length : Int) + (es.length : Int)) = (ds.length : Int) + (es.length : Int) := by unfold wrap64; omega
  have hl1 : ¬ 9223372036854775807 < S.size + T.size := small_add hSs hz2
  have HS1 := Lib.hid (fun (va vb : Value) (W : World) (h1 : TextsO W va ds) (h2 : TextsO W vb ds) => by have h := refSame va vb ds ds W h1 h2 (small_len hc2); rw [decide_eq_true rfl] at h; exact h : ∀ (va vb : Value) (W : World), TextsO W va ds → TextsO W vb ds → Calls Try.prog 16 #[va, vb] W fun e w' => e = .returned (.bool true) ∧ Below W.heap.size W w')
  have HS2 := Lib.hid (fun (va vb : Value) (W : World) (h1 : TextsO W va es) (h2 : TextsO W vb es) => by have h := refSame va vb es es W h1 h2 hc1; rw [decide_eq_true rfl] at h; exact h : ∀ (va vb : Value) (W : World), TextsO W va es → TextsO W vb es → Calls Try.prog 16 #[va, vb] W fun e w' => e = .returned (.bool true) ∧ Below W.heap.size W w')
  clear hm hml hz1 hz2 hSs hSl hr1 hr2 hr3 g1 g2 g3 g4 hby hc1 hc2 hss ht
  go_enter Try.func9, Try.ntmps9
  have hb := Below.refl w.heap.size w
  go_wp2_with (first
    | (go_at_call 10; refine (lawShown _).mono ?_; rintro e w1 ⟨rfl, hb1⟩; replace hb := hb.trans (hb1.mono hb.size); clear hb1)
    | (go_at_call 23; refine (HBY.out _ (hT.below hb (Nat.le_refl _))).mono ?_; rintro e w2 ⟨rfl, hb1⟩; replace hb := hb.trans (hb1.mono hb.size); clear hb1)
    | (go_at_call 14; have H := HR1; refine (H.out _).mono ?_; clear H HR1; rintro e w3 ⟨⟨va, rfl, hTa⟩, hb1⟩; replace hb := hb.trans (hb1.mono hb.size); clear hb1; obtain ⟨aa, ac, rfl, hac⟩ := texts_cap hTa)
    | (go_at_call 14; have H := HR2; refine (H.out _).mono ?_; clear H HR2; rintro e w4 ⟨⟨vb, rfl, hTb⟩, hb1⟩; replace hb := hb.trans (hb1.mono hb.size); replace hTa := hTa.below hb1 (Nat.le_refl _); clear hb1; obtain ⟨ba, bc, rfl, hbc⟩ := texts_cap hTb)
    | (go_at_call 14; have H := HR3; refine (H.out _).mono ?_; clear H HR3; rintro e w5 ⟨⟨vc, rfl, hTc⟩, hb1⟩; replace hb := hb.trans (hb1.mono hb.size); replace hTa := hTa.below hb1 (Nat.le_refl _); replace hTb := hTb.below hb1 (Nat.le_refl _); clear hb1
       obtain ⟨cq, cc, rfl, hcc⟩ := texts_cap hTc; have hci : (ds.length : Int) ≤ (cc : Int) := front_le hcc; have hc2 : (ds.length : Int) ≤ (ds.length : Int) + (es.length : Int) := Int.le_add_of_nonneg_right (Int.natCast_nonneg _))
    | (go_at_call 16; have H := HS1; refine (H.out _ _ _ (front_texts hTc) hTa.toO).mono ?_; clear H HS1; rintro e w6 ⟨rfl, hb1⟩; replace hb := hb.trans (hb1.mono hb.size); replace hTb := hTb.below hb1 (Nat.le_refl _); replace hTc := hTc.below hb1 (Nat.le_refl _); clear hb1)
    | (go_at_call 16; refine (HS2.out _ _ _ (back_texts hTc) hTb.toO).mono ?_; rintro e w7 ⟨rfl, hb1⟩; replace hb := hb.trans (hb1.mono hb.size); clear hb1))
  all_goals (go_ret; exact ⟨rfl, hb⟩)
end Go.Proofs.Ytlcenfgnmmkcpaa
