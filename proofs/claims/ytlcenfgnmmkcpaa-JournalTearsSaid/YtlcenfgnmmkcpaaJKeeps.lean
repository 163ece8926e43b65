/-
  The law of a record of which not all bytes were kept: walked.
-/
import Derived.Test.YtlcenfgnmmkcpaaJJoins
namespace Go.Proofs.Ytlcenfgnmmkcpaa
open Go.RowKit Go.Shelf
attribute [local go_sem] Oper.semAt_some
set_option linter.unusedVariables false
set_option linter.unusedSimpArgs false

theorem txt_append (a b : List UInt8) : txt a ++ txt b = txt (a ++ b) := by
  rw [← txt_data (txt a ++ txt b), append_list, txt_toList, txt_toList]
theorem whole_recs (ss : List ByteArray) : wholeF (txt (J.recs (datas ss))) = true := by
  rw [wholeF, txt_toList, (J.read_all _ (datas_ok ss)).2, txt_size]
  simp
theorem append_recs (ss : List ByteArray) (d : ByteArray) (keep : Int) (hd : d.size ≤ 100) :
    appF (txt (J.recs (datas ss))) d keep = (txt (J.recs (datas ss) ++ (J.rec d.data.toList).take (keptN (d.size + 9) keep)), 0) := by
  rw [appF, if_pos (whole_recs ss), if_pos (by omega), txt_append, J.rec_length, Array.length_toList]
  rfl
theorem torn_facts (ss : List ByteArray) (d : ByteArray) (k : Nat) (hd : d.size ≤ 100) (hk : k < d.size + 9) :
    J.read (J.recs (datas ss) ++ (J.rec d.data.toList).take k) = datas ss ∧ repF (txt (J.recs (datas ss) ++ (J.rec d.data.toList).take k)) = txt (J.recs (datas ss)) := by
  have hl : d.data.toList.length = d.size := by simp
  obtain ⟨g1, g2⟩ := J.read_recs (datas ss) ((J.rec d.data.toList).take k) (datas_ok ss)
  obtain ⟨g3, g4⟩ := J.read_torn d.data.toList k (by omega) (by omega)
  rw [g3, List.append_nil] at g1
  rw [g4, Nat.add_zero] at g2
  exact ⟨g1, by rw [repF, txt_toList, g2, List.take_left]⟩
theorem kept_facts (ss : List ByteArray) (d : ByteArray) (k : Nat) (hd : d.size ≤ 100) (hk : k = d.size + 9) :
    J.read (J.recs (datas ss) ++ (J.rec d.data.toList).take k) = datas ss ++ [d.data.toList] := by
  have hl : d.data.toList.length = d.size := by simp
  have ht : (J.rec d.data.toList).take k = J.rec d.data.toList := List.take_of_length_le (by rw [J.rec_length]; omega)
  obtain ⟨g1, g2⟩ := J.read_recs (datas ss) (J.rec d.data.toList) (datas_ok ss)
  obtain ⟨g3, g4⟩ := J.read_rec d.data.toList [] (by omega)
  rw [List.append_nil, J.read_nil.1] at g3
  rw [ht, g1, g3]
theorem kept_size (ss : List ByteArray) (d : ByteArray) (k : Nat) (hd : d.size ≤ 100) : (txt (J.recs (datas ss) ++ (J.rec d.data.toList).take k)).size ≤ 100000 := by
  have h1 := recs_datas ss
  have hl : d.data.toList.length = d.size := by simp
  rw [txt_size, List.length_append, List.length_take, J.rec_length]; omega
theorem kept_torn (n : Nat) (keep : Int) (h : keep < (n : Int)) : 0 < n → keptN n keep < n := by
  intro hn; rw [keptN]; omega
theorem kept_all (n : Nat) (keep : Int) (h : ¬ keep < (n : Int)) : keptN n keep = n := by rw [keptN]; omega
theorem dhun (d : ByteArray) : d.extract 0 (min (d.size : Int) 100).toNat = hun d := rfl
theorem wrap_hun (d : ByteArray) (h : d.size ≤ 100) : wrap64 ((d.size : Int) + 9) = (d.size : Int) + 9 := by unfold wrap64; omega
theorem wrap_len {n : Nat} (h : n ≤ 40) : wrap64 ((n : Int) + 1) = (n : Int) + 1 := by unfold wrap64; omega
theorem last_of {W : World} {v : Value} {ds : List (List UInt8)} {D : ByteArray} (h : Texts W v (ds ++ [D.data.toList])) : ∃ g c, v = .slice (some ⟨g, 0, none⟩) (ds.length + 1) c ∧ ((ds.length : Int) ≤ (c : Int)) ∧ g < W.heap.size ∧ W.cell? ⟨g, ds.length, none⟩ = some (.string D) := by
  rcases h with ⟨_, h2⟩ | ⟨g, c, rfl, hc, hg, hx⟩
  · simp at h2
  · rw [List.length_append] at hc
    refine ⟨g, c, by rw [List.length_append]; rfl, by simp at hc; omega, hg, ?_⟩
    have := hx ds.length (by simp)
    rw [this]
    simp [txt_data]
set_option maxRecDepth 100000 in
set_option maxHeartbeats 4000000 in
theorem keepsTorn (v : Value) (ss : List ByteArray) (d : ByteArray) (keep : Int) (w : World) (hT : TextsA w v ss) (hss : ss.length ≤ maxLen) (D : ByteArray) (hD : hun d = D) (hk : keep < (D.size : Int) + 9) : Calls Try.prog 7 #[v, .string d, .int .i64 keep] w fun e w' => e = .returned (.bool true) ∧ Below w.heap.size w w' := by
  have hz := hun_size d
  have hcut := dhun d
  rw [hD] at hz hcut
  have hkn := kept_torn (D.size + 9) keep (by omega) (by omega)
  obtain ⟨f1, f2⟩ := torn_facts ss D (keptN (D.size + 9) keep) hz hkn
  have hsz := kept_size ss D (keptN (D.size + 9) keep) hz
  have hap := fun W => jAppend (txt (J.recs (datas ss))) D keep (by rw [txt_size]; have := recs_datas ss; omega) (by omega) W
  rw [append_recs ss D keep hz] at hap
  have hr1 := fun W => jRead (txt (J.recs (datas ss))) (by rw [txt_size]; have := recs_datas ss; omega) W
  have hr2 := fun W => jRead _ hsz W
  have hrp := fun W => jRepair _ hsz W
  obtain ⟨g1, g2⟩ := J.read_all (datas ss) (datas_ok ss)
  rw [txt_toList, g1, g2] at hr1
  rw [txt_toList, f1] at hr2
  rw [f2] at hrp
  have hby := fun (W : World) (h : TextsA W v ss) => lawBytes v ss W h hss
  have hn : (datas ss).length ≤ 40 := by rw [datas_length]; omega
  have hlt : decide (keep < (D.size : Int) + 9) = true := decide_eq_true hk
  have hwr := wrap_hun D hz
  generalize txt (J.recs (datas ss) ++ (J.rec D.data.toList).take (keptN (D.size + 9) keep)) = T at *
  generalize J.end' (J.recs (datas ss) ++ (J.rec D.data.toList).take (keptN (D.size + 9) keep)) = q at *
  generalize (J.recs (datas ss)).length = q' at *
  generalize txt (J.recs (datas ss)) = S at *
  generalize datas ss = ds at *
  have HS1 := Lib.hid (fun (va vb : Value) (W : World) (h1 : TextsO W va ds) (h2 : TextsO W vb ds) => by have h := refSame va vb ds ds W h1 h2 (small_len hn); rw [decide_eq_true rfl] at h; exact h : ∀ (va vb : Value) (W : World), TextsO W va ds → TextsO W vb ds → Calls Try.prog 16 #[va, vb] W fun e w' => e = .returned (.bool true) ∧ Below W.heap.size W w')
  have HBY := Lib.hid hby
  have HR1 := Lib.hid hr1
  have HR2 := Lib.hid hr2
  have HAP := Lib.hid hap
  have HRP := Lib.hid hrp
  clear hz hD hk hkn f1 f2 hsz hap hr1 hr2 hrp g1 g2 hby hn hss
  go_enter Try.func7, Try.ntmps7
  have hb := Below.refl w.heap.size w
  go_wp2_with (first
    | (go_at_call 10; refine (lawShown _).mono ?_; rintro e w1 ⟨rfl, hb1⟩; replace hb := hb.trans (hb1.mono hb.size); clear hb1)
    | (go_at_call 23; refine (HBY.out _ (hT.below hb (Nat.le_refl _))).mono ?_; rintro e w2 ⟨rfl, hb1⟩; replace hb := hb.trans (hb1.mono hb.size); clear hb1)
    | (go_at_call 14; have H := HR1; refine (H.out _).mono ?_; clear H HR1; rintro e w3 ⟨⟨va, rfl, hTa⟩, hb1⟩; replace hb := hb.trans (hb1.mono hb.size); clear hb1)
    | (go_at_call 21; refine (HAP.out _).mono ?_; rintro e w4 ⟨rfl, hb1⟩; replace hb := hb.trans (hb1.mono hb.size); replace hTa := hTa.below hb1 (Nat.le_refl _); clear hb1)
    | (go_at_call 14; have H := HR2; refine (H.out _).mono ?_; clear H HR2; rintro e w5 ⟨⟨vb, rfl, hTb⟩, hb1⟩; replace hb := hb.trans (hb1.mono hb.size); replace hTa := hTa.below hb1 (Nat.le_refl _); clear hb1)
    | (go_at_call 16; refine (HS1.out _ _ _ hTb.toO hTa.toO).mono ?_; rintro e w6 ⟨rfl, hb1⟩; replace hb := hb.trans (hb1.mono hb.size); clear hb1)
    | (go_at_call 19; refine (HRP.out _).mono ?_; rintro e w7 ⟨rfl, hb1⟩; replace hb := hb.trans (hb1.mono hb.size); clear hb1))
  all_goals (go_ret; exact ⟨rfl, hb⟩)
set_option maxRecDepth 100000 in
set_option maxHeartbeats 4000000 in
theorem keepsWhole (v : Value) (ss : List ByteArray) (d : ByteArray) (keep : Int) (w : World) (hT : TextsA w v ss) (hss : ss.length ≤ maxLen) (D : ByteArray) (hD : hun d = D) (hk : ¬ keep < (D.size : Int) + 9) : Calls Try.prog 7 #[v, .string d, .int .i64 keep] w fun e w' => e = .returned (.bool true) ∧ Below w.heap.size w w' := by
  have hz := hun_size d
  have hcut := dhun d
  rw [hD] at hz hcut
  have hkn := kept_all (D.size + 9) keep (by omega)
  have f1 := kept_facts ss D (keptN (D.size + 9) keep) hz hkn
  have hsz := kept_size ss D (keptN (D.size + 9) keep) hz
  have hap := fun W => jAppend (txt (J.recs (datas ss))) D keep (by rw [txt_size]; have := recs_datas ss; omega) (by omega) W
  rw [append_recs ss D keep hz] at hap
  have hr1 := fun W => jRead (txt (J.recs (datas ss))) (by rw [txt_size]; have := recs_datas ss; omega) W
  have hr2 := fun W => jRead _ hsz W
  obtain ⟨g1, g2⟩ := J.read_all (datas ss) (datas_ok ss)
  rw [txt_toList, g1, g2] at hr1
  rw [txt_toList, f1] at hr2
  have hby := fun (W : World) (h : TextsA W v ss) => lawBytes v ss W h hss
  have hn : (datas ss).length ≤ 40 := by rw [datas_length]; omega
  have hlt : decide (keep < (D.size : Int) + 9) = false := decide_eq_false hk
  have hwr := wrap_hun D hz
  generalize txt (J.recs (datas ss) ++ (J.rec D.data.toList).take (keptN (D.size + 9) keep)) = T at *
  generalize J.end' (J.recs (datas ss) ++ (J.rec D.data.toList).take (keptN (D.size + 9) keep)) = q at *
  generalize (J.recs (datas ss)).length = q' at *
  generalize txt (J.recs (datas ss)) = S at *
  generalize datas ss = ds at *
  have hw1 := wrap_len hn
  have HS1 := Lib.hid (fun (va vb : Value) (W : World) (h1 : TextsO W va ds) (h2 : TextsO W vb ds) => by have h := refSame va vb ds ds W h1 h2 (small_len hn); rw [decide_eq_true rfl] at h; exact h : ∀ (va vb : Value) (W : World), TextsO W va ds → TextsO W vb ds → Calls Try.prog 16 #[va, vb] W fun e w' => e = .returned (.bool true) ∧ Below W.heap.size W w')
  have HBY := Lib.hid hby
  have HR1 := Lib.hid hr1
  have HR2 := Lib.hid hr2
  have HAP := Lib.hid hap
  clear hz hD hk hkn f1 hsz hap hr1 hr2 g1 g2 hby hn hss
  go_enter Try.func7, Try.ntmps7
  have hb := Below.refl w.heap.size w
  go_wp2_with (first
    | (go_at_call 10; refine (lawShown _).mono ?_; rintro e w1 ⟨rfl, hb1⟩; replace hb := hb.trans (hb1.mono hb.size); clear hb1)
    | (go_at_call 23; refine (HBY.out _ (hT.below hb (Nat.le_refl _))).mono ?_; rintro e w2 ⟨rfl, hb1⟩; replace hb := hb.trans (hb1.mono hb.size); clear hb1)
    | (go_at_call 14; have H := HR1; refine (H.out _).mono ?_; clear H HR1; rintro e w3 ⟨⟨va, rfl, hTa⟩, hb1⟩; replace hb := hb.trans (hb1.mono hb.size); clear hb1)
    | (go_at_call 21; refine (HAP.out _).mono ?_; rintro e w4 ⟨rfl, hb1⟩; replace hb := hb.trans (hb1.mono hb.size); replace hTa := hTa.below hb1 (Nat.le_refl _); clear hb1)
    | (go_at_call 14; have H := HR2; refine (H.out _).mono ?_; clear H HR2; rintro e w5 ⟨⟨vb, rfl, hTb⟩, hb1⟩; replace hb := hb.trans (hb1.mono hb.size); replace hTa := hTa.below hb1 (Nat.le_refl _); clear hb1
       obtain ⟨g, c, rfl, hcc, hgl, hcell⟩ := last_of hTb; obtain ⟨aa, ac, rfl⟩ := texts_len hTa)
    | (go_at_call 16; refine (HS1.out _ _ _ (front_texts hTb) hTa.toO).mono ?_; rintro e w6 ⟨rfl, hb1⟩; replace hb := hb.trans (hb1.mono hb.size); have hcell' := (hb1.cell (p := ⟨g, ds.length, none⟩) hgl).trans hcell; clear hb1))
  all_goals (go_ret; exact ⟨rfl, hb⟩)
theorem lawKeeps (v : Value) (ss : List ByteArray) (d : ByteArray) (keep : Int) (w : World) (hT : TextsA w v ss) (hss : ss.length ≤ maxLen) : Calls Try.prog 7 #[v, .string d, .int .i64 keep] w fun e w' => e = .returned (.bool true) ∧ Below w.heap.size w w' := by
  by_cases hk : keep < ((hun d).size : Int) + 9
  · exact keepsTorn v ss d keep w hT hss _ rfl hk
  · exact keepsWhole v ss d keep w hT hss _ rfl hk
end Go.Proofs.Ytlcenfgnmmkcpaa
