/-
  The law of a beginning of records' bytes: walked.
-/
import Derived.Test.YtlcenfgnmmkcpaaJKeeps
import Derived.Deep.RegionHeld3
namespace Go.Proofs.Ytlcenfgnmmkcpaa
open Go.RowKit Go.Shelf
attribute [local go_sem] Oper.semAt_some
set_option linter.unusedVariables false
set_option linter.unusedSimpArgs false

theorem texts_at {W : World} {v : Value} {ds : List (List UInt8)} {n : Nat} (h : Texts W v ds) (hn : ds.length = n) : ∃ a c, v = .slice a n c ∧ (n : Int) ≤ (c : Int) := by
  subst hn
  obtain ⟨a, c, h1, h2⟩ := texts_cap h
  exact ⟨a, c, h1, by omega⟩
theorem front_at {w : World} {q : Option Addr} {n c p : Nat} {ds es : List (List UInt8)} (h : Texts w (.slice q n c) (ds ++ es)) (hp : ds.length = p) : TextsO w (.slice q p c) ds := hp ▸ front_texts h
theorem mid_of {W : World} {v : Value} {ds es : List (List UInt8)} {d : List UInt8} {p m : Nat} (h : Texts W v (ds ++ d :: es)) (hp : ds.length = p) (hm : (ds ++ d :: es).length = m) : ∃ g c, v = .slice (some ⟨g, 0, none⟩) m c ∧ ((p : Int) ≤ (c : Int)) ∧ g < W.heap.size ∧ W.cell? ⟨g, p, none⟩ = some (.string (txt d)) := by
  subst hp
  subst hm
  rcases h with ⟨_, h2⟩ | ⟨g, c, rfl, hc, hg, hx⟩
  · simp at h2
  · refine ⟨g, c, rfl, by rw [List.length_append] at hc; omega, hg, ?_⟩
    rw [hx ds.length (by simp)]
    simp
theorem recs_append (a b : List (List UInt8)) : J.recs (a ++ b) = J.recs a ++ J.recs b := by simp [J.recs]
/-- What a cut in records' bytes leaves: texts ks are read, E bytes are good. -/
theorem cut_facts (ss : List ByteArray) (N : Nat) (hN : N ≤ (J.recs (datas ss)).length) :
    ∃ (ks zs : List (List UInt8)) (E : Nat), datas ss = ks ++ zs ∧ E ≤ N ∧ E = (J.recs ks).length ∧ J.read ((J.recs (datas ss)).take N) = ks ∧ J.end' ((J.recs (datas ss)).take N) = E ∧ (J.recs (datas ss)).take E = J.recs ks ∧ J.read (J.recs ks) = ks ∧ (zs = [] ∨ ∃ d t, zs = d :: t ∧ N < E + d.length + 9) := by
  obtain ⟨k, hk, h1, h2, h3, h4⟩ := J.read_cut (datas ss) (datas_ok ss) N hN
  have hsplit : datas ss = (datas ss).take k ++ (datas ss).drop k := (List.take_append_drop k _).symm
  refine ⟨(datas ss).take k, (datas ss).drop k, _, hsplit, h3, rfl, h1, h2, ?_, (J.read_all _ (fun d hd => datas_ok ss d (List.mem_of_mem_take hd))).1, ?_⟩
  · have hr : J.recs (datas ss) = J.recs ((datas ss).take k) ++ J.recs ((datas ss).drop k) := by rw [← recs_append, ← hsplit]
    rw [hr, List.take_left]
  · rcases h4 with h4 | h4
    · exact .inl (by rw [h4, List.drop_length])
    · by_cases hlt : k < (datas ss).length
      · exact .inr ⟨_, _, List.drop_eq_getElem_cons hlt, h4 hlt⟩
      · exact .inl (List.drop_eq_nil_iff.2 (by omega))
theorem ext_list (s : ByteArray) (k : Nat) : (s.extract 0 k).data.toList = s.data.toList.take k := by
  rw [Lib.extract_data, List.drop_zero, Nat.sub_zero]
theorem ext_size (s : ByteArray) (k : Nat) (h : s.size ≤ 4360) : (s.extract 0 k).size ≤ 100000 := by rw [ByteArray.size_extract]; omega
theorem dec_no {a b : Nat} (h : a ≤ b) : decide ((b : Int) < (a : Int)) = false := by rw [decide_eq_false_iff_not]; omega
theorem wrap_a {a b : Nat} (ha : a ≤ 100000) (hb : b ≤ 100000) : wrap64 ((a : Int) + (b : Int)) = (a : Int) + (b : Int) := by unfold wrap64; omega
theorem wrap_b {a b : Nat} (ha : a ≤ 100000) (hb : b ≤ 100000) : wrap64 ((a : Int) + (b : Int) + 9) = (a : Int) + (b : Int) + 9 := by unfold wrap64; omega
set_option maxRecDepth 100000 in
set_option maxHeartbeats 1000000 in
theorem tearsOut (v : Value) (ss : List ByteArray) (n : Int) (w : World) (hT : TextsA w v ss) (hss : ss.length ≤ maxLen) (hn : n < 0 ∨ ((txt (J.recs (datas ss))).size : Int) < n) : Calls Try.prog 6 #[v, .int .i64 n] w fun e w' => e = .returned (.bool true) ∧ Below w.heap.size w w' := by
  have hby := fun (W : World) (h : TextsA W v ss) => lawBytes v ss W h hss
  generalize txt (J.recs (datas ss)) = S at *
  have HBY := Lib.hid hby
  clear hby hss
  rcases hn with hn | hn
  · have hd : decide (n < 0) = true := decide_eq_true hn
    go_enter Try.func6, Try.ntmps6
    have hb := Below.refl w.heap.size w
    go_wp2_with (first
      | (go_at_call 10; refine (lawShown _).mono ?_; rintro e w1 ⟨rfl, hb1⟩; replace hb := hb.trans (hb1.mono hb.size); clear hb1)
      | (go_at_call 23; refine (HBY.out _ (hT.below hb (Nat.le_refl _))).mono ?_; rintro e w2 ⟨rfl, hb1⟩; replace hb := hb.trans (hb1.mono hb.size); clear hb1))
    go_ret
    exact ⟨rfl, hb⟩
  · have hd : decide (n < 0) = false := by rw [decide_eq_false_iff_not]; omega
    have hd' : decide ((S.size : Int) < n) = true := decide_eq_true hn
    go_enter Try.func6, Try.ntmps6
    have hb := Below.refl w.heap.size w
    go_wp2_with (first
      | (go_at_call 10; refine (lawShown _).mono ?_; rintro e w1 ⟨rfl, hb1⟩; replace hb := hb.trans (hb1.mono hb.size); clear hb1)
      | (go_at_call 23; refine (HBY.out _ (hT.below hb (Nat.le_refl _))).mono ?_; rintro e w2 ⟨rfl, hb1⟩; replace hb := hb.trans (hb1.mono hb.size); clear hb1))
    go_ret
    exact ⟨rfl, hb⟩
theorem gt_nat {N E : Nat} {d : List UInt8} (h : N < E + d.length + 9) : decide (N < E + (txt d).size + 9) = true := by rw [decide_eq_true_iff, txt_size]; omega
theorem gt_wrap {N E : Nat} {d : List UInt8} (h : N < E + d.length + 9) (he : E ≤ 100000) (hd : d.length ≤ 100) : decide ((N : Int) < IntKind.i64.wrap (IntKind.i64.wrap ((E : Int) + ((txt d).size : Int)) + 9)) = true ∧ (N : Int) < IntKind.i64.wrap (IntKind.i64.wrap ((E : Int) + ((txt d).size : Int)) + 9) := by
  have h2 : (N : Int) < IntKind.i64.wrap (IntKind.i64.wrap ((E : Int) + ((txt d).size : Int)) + 9) := by
    rw [IntKind.wrap_i64, IntKind.wrap_i64, txt_size]; omega
  exact ⟨decide_eq_true h2, h2⟩
/-- What the walk asks of the program at a cut. -/
structure CutAt (v : Value) (ss : List ByteArray) (S : ByteArray) (N E : Nat) (ks zs : List (List UInt8)) : Prop where
  bytes : ∀ W : World, TextsA W v ss → Calls Try.prog 23 #[v] W fun e w' => e = .returned (.string S) ∧ Below W.heap.size W w'
  read1 : ∀ W : World, Calls Try.prog 14 #[.string (S.extract 0 N)] W fun e w' => (∃ v, e = .returned (.tuple #[v, .int .i64 (E : Int)]) ∧ Texts w' v ks) ∧ Below W.heap.size W w'
  read2 : ∀ W : World, Calls Try.prog 14 #[.string S] W fun e w' => (∃ v, e = .returned (.tuple #[v, .int .i64 (S.size : Int)]) ∧ Texts w' v (ks ++ zs)) ∧ Below W.heap.size W w'
  read3 : ∀ W : World, Calls Try.prog 14 #[.string (S.extract 0 E)] W fun e w' => (∃ v, e = .returned (.tuple #[v, .int .i64 (E : Int)]) ∧ Texts w' v ks) ∧ Below W.heap.size W w'
  rep : ∀ W : World, Calls Try.prog 19 #[.string (S.extract 0 N)] W fun e w' => e = .returned (.string (S.extract 0 E)) ∧ Below W.heap.size W w'
  same : ∀ (va vb : Value) (W : World), TextsO W va ks → TextsO W vb ks → Calls Try.prog 16 #[va, vb] W fun e w' => e = .returned (.bool true) ∧ Below W.heap.size W w'
  small : S.size ≤ 4360 ∧ N ≤ S.size ∧ E ≤ N
theorem cutAt (v : Value) (ss : List ByteArray) (hss : ss.length ≤ maxLen) (N : Nat) (hN : N ≤ (J.recs (datas ss)).length) : ∃ (E : Nat) (ks zs : List (List UInt8)), CutAt v ss (txt (J.recs (datas ss))) N E ks zs ∧ (zs = [] ∨ ∃ d t, zs = d :: t ∧ N < E + d.length + 9 ∧ d.length ≤ 100) ∧ (ks ++ zs).length ≤ 40 := by
  obtain ⟨ks, zs, E, h1, h2, h3, h4, h5, h6, h7, h8⟩ := cut_facts ss N hN
  have hsz := recs_datas ss
  have hS : (txt (J.recs (datas ss))).size ≤ 4360 := by rw [txt_size]; exact hsz
  have hn : (ks ++ zs).length ≤ 40 := by rw [← h1, datas_length]; omega
  have hk : ks.length ≤ 40 := by rw [List.length_append] at hn; omega
  obtain ⟨g1, g2⟩ := J.read_all (datas ss) (datas_ok ss)
  have hend : J.end' (J.recs ks) = E := by
    have hok : ∀ d ∈ ks, d.length ≤ 4096 := fun d hd => datas_ok ss d (by rw [h1]; exact List.mem_append_left _ hd)
    rw [(J.read_all ks hok).2, h3]
  refine ⟨E, ks, zs, ⟨fun W h => lawBytes v ss W h hss, fun W => ?_, fun W => ?_, fun W => ?_, fun W => ?_, fun va vb W a b => ?_, ⟨hS, by rw [txt_size]; exact hN, h2⟩⟩, ?_, hn⟩
  · have h := jRead ((txt (J.recs (datas ss))).extract 0 N) (ext_size _ _ hS) W
    rw [ext_list, txt_toList, h4, h5] at h
    exact h
  · have h := jRead (txt (J.recs (datas ss))) (by omega) W
    rw [txt_toList, g1, g2, h1] at h
    rw [txt_size, h1]
    exact h
  · have h := jRead ((txt (J.recs (datas ss))).extract 0 E) (ext_size _ _ hS) W
    rw [ext_list, txt_toList, h6, h7, hend] at h
    exact h
  · have h := jRepair ((txt (J.recs (datas ss))).extract 0 N) (ext_size _ _ hS) W
    have hr : repF ((txt (J.recs (datas ss))).extract 0 N) = (txt (J.recs (datas ss))).extract 0 E := by
      rw [repF, ext_list, txt_toList, h5, List.take_take, Nat.min_eq_left h2]
      rw [← txt_data ((txt (J.recs (datas ss))).extract 0 E), ext_list, txt_toList]
    rw [hr] at h
    exact h
  · have h := refSame va vb ks ks W a b (small_len hk)
    rw [decide_eq_true rfl] at h
    exact h
  · rcases h8 with h8 | ⟨d, t, hz, hd⟩
    · exact .inl h8
    · exact .inr ⟨d, t, hz, hd, datas_small ss d (by rw [h1, hz]; simp)⟩
theorem mid_lt {ks zs t : List (List UInt8)} {d : List UInt8} {p m : Nat} (hp : ks.length = p) (hm : (ks ++ zs).length = m) (hz : zs = d :: t) : p < m := by
  subst hz; rw [List.length_append, List.length_cons] at hm; omega
theorem lt_int {p m : Nat} (h : p < m) : (p : Int) < (m : Int) := by omega
theorem ne_int {p m : Nat} (h : p < m) : ((p : Int) == (m : Int)) = false := by rw [beq_eq_false_iff_ne]; omega
theorem ne_nat {p m : Nat} (h : p < m) : (p == m) = false := by rw [beq_eq_false_iff_ne]; omega
theorem d_small {d : List UInt8} (h : d.length ≤ 100) : (txt d).size ≤ 100000 := by rw [txt_size]; omega
theorem e_small {S N E : Nat} (h : S ≤ 4360) (h1 : N ≤ S) (h2 : E ≤ N) : E ≤ 100000 := by omega
theorem gt_int {N E : Nat} {d : List UInt8} (h : N < E + d.length + 9) : decide ((N : Int) < (E : Int) + ((txt d).size : Int) + 9) = true := by rw [decide_eq_true_iff, txt_size]; omega
theorem no_lt {p m : Nat} (h : p ≤ m) : decide (m < p) = false ∧ ¬ m < p := ⟨by rw [decide_eq_false_iff_not]; omega, by omega⟩
theorem le_int {p m : Nat} (h : p ≤ m) : (p : Int) ≤ (m : Int) := by omega
theorem nn_int (n : Nat) : decide ((n : Int) < 0) = false := by rw [decide_eq_false_iff_not]; omega
theorem pre_le (a b : List (List UInt8)) : a.length ≤ (a ++ b).length := by rw [List.length_append]; omega

theorem texts_drew {W : World} {v : Value} {ds : List (List UInt8)} (h : Texts W v ds) : Texts W.drew v ds := h
theorem le_of_le {a b c : Nat} (h : b ≤ a) (h' : c ≤ b) : (c : Int) ≤ (a : Int) := by omega
set_option maxRecDepth 100000 in
set_option maxHeartbeats 4000000 in
theorem tearsAll (v : Value) (ss : List ByteArray) (S : ByteArray) (N E : Nat) (ks zs : List (List UInt8)) (w : World) (hT : TextsA w v ss) (C : CutAt v ss S N E ks zs) (hn : (ks ++ zs).length ≤ 40) (hz : zs = []) : Calls Try.prog 6 #[v, .int .i64 (N : Int)] w fun e w' => e = .returned (.bool true) ∧ Below w.heap.size w w' := by
  obtain ⟨hby, hr1, hr2, hr3, hrp, hsm, hS, hN, hE⟩ := C
  have hd1 := nn_int N
  have hd2 := dec_no hN
  have hd3 := dec_no hE
  have hNi := le_int hN
  have hEi := le_int (Nat.le_trans hE hN)
  have hpm := pre_le ks zs
  have hd4 := dec_no hpm
  obtain ⟨p, hp⟩ : ∃ p, ks.length = p := ⟨_, rfl⟩
  obtain ⟨m, hm⟩ : ∃ m, (ks ++ zs).length = m := ⟨_, rfl⟩
  rw [hp, hm] at hd4
  rw [hp, hm] at hpm
  obtain ⟨hn4, hx4⟩ := no_lt hpm
  obtain ⟨hn3, hx3⟩ := no_lt hE
  have hn2 := (no_lt hN).1
  have hpe : p = m := by rw [← hp, ← hm, hz, List.append_nil]
  subst hpe
  have HP := Lib.hid hp
  have HM := Lib.hid hm
  have HBY := Lib.hid hby
  have HR1 := Lib.hid hr1
  have HR2 := Lib.hid hr2
  have HR3 := Lib.hid hr3
  have HRP := Lib.hid hrp
  have HSM := Lib.hid hsm
  have hz3 := le_of_le hN hE
  clear hp hm hpm hby hr1 hr2 hr3 hrp hsm hS hN hE hn
  go_enter Try.func6, Try.ntmps6
  have hb := Below.refl w.heap.size w
  go_wp2_with (first
    | (go_at_call 10; refine (lawShown _).mono ?_; rintro e w1 ⟨rfl, hb1⟩; replace hb := hb.trans (hb1.mono hb.size); clear hb1)
    | (go_at_call 23; refine (HBY.out _ (hT.below hb (Nat.le_refl _))).mono ?_; rintro e w2 ⟨rfl, hb1⟩; replace hb := hb.trans (hb1.mono hb.size); clear hb1)
    | (go_at_call 14; have H := HR1; refine (H.out _).mono ?_; clear H HR1; rintro e w3 ⟨⟨va, rfl, hTa⟩, hb1⟩; replace hb := hb.trans (hb1.mono hb.size); clear hb1; obtain ⟨aa, ac, rfl, hac⟩ := texts_at hTa HP.out)
    | (go_at_call 14; have H := HR2; refine (H.out _).mono ?_; clear H HR2; rintro e w4 ⟨⟨vb, rfl, hTb⟩, hb1⟩; replace hb := hb.trans (hb1.mono hb.size); replace hTa := hTa.below hb1 (Nat.le_refl _); clear hb1
       obtain ⟨ba, bc, rfl, hbc⟩ := texts_at hTb HM.out; have hpc := hbc)
    | (go_at_call 16; refine (HSM.out _ _ _ hTa.toO (front_at hTb HP.out)).mono ?_; rintro e w5 ⟨rfl, hb1⟩; replace hb := hb.trans (hb1.mono hb.size); replace hTa := hTa.below hb1 (Nat.le_refl _); replace hTb := hTb.below hb1 (Nat.le_refl _); clear hb1)
    | (go_at_call 14; have H := HR3; refine (H.out _).mono ?_; clear H HR3; rintro e w6 ⟨⟨vc, rfl, hTc⟩, hb1⟩; replace hb := hb.trans (hb1.mono hb.size); replace hTa := hTa.below hb1 (Nat.le_refl _); replace hTb := hTb.below hb1 (Nat.le_refl _); clear hb1; obtain ⟨ca, cc, rfl, hcc⟩ := texts_at hTc HP.out))
  replace hb := hb.drew
  replace hTc := texts_drew hTc
  replace hTa := texts_drew hTa
  refine wp_region_held_drew (S := fun _ => True) (by kernel_rfl) trivial (fun _ => ?_)
  refine wpAnyH_take (i := 0) (v := .bool true) rfl (by kernel_rfl) (by kernel_rfl) (by kernel_rfl) (fun _ _ _ h => h) (Or.inl ⟨by kernel_rfl, fun W hW => by go_simp⟩) trivial ?_
  simp only [Act.put, List.setIfInBounds_toArray, List.set_cons_zero, List.set_cons_succ]
  refine wpAnyH_take (i := 1) (v := .bool true) rfl (by kernel_rfl) (by kernel_rfl) (by kernel_rfl) (fun _ _ _ h => h) (Or.inl ⟨by kernel_rfl, fun W hW => by go_simp⟩) trivial ?_
  simp only [Act.put, List.setIfInBounds_toArray, List.set_cons_zero, List.set_cons_succ]
  refine wpAnyH_take (i := 2) (v := .slice ca p cc) rfl (by kernel_rfl) (by kernel_rfl) (by kernel_rfl) (fun _ _ _ h => h) (Or.inl ⟨by kernel_rfl, fun W hW => by go_simp⟩) trivial ?_
  simp only [Act.put, List.setIfInBounds_toArray, List.set_cons_zero, List.set_cons_succ]
  refine wpAnyH_take (i := 3) (v := .slice aa p ac) rfl (by kernel_rfl) (by kernel_rfl) (by kernel_rfl) (fun _ _ _ h => h) (Or.inl ⟨by kernel_rfl, fun W hW => by go_simp⟩) trivial ?_
  simp only [Act.put, List.setIfInBounds_toArray, List.set_cons_zero, List.set_cons_succ]
  refine wpAnyH_ready (rs := [4]) (by kernel_rfl) (by simp) ?_
  refine AllReadyH.cons rfl (fun K hK => ?_) AllReadyH.nil
  go_simp
  go_at_call 16
  refine (HSM.out _ _ _ hTc.toO hTa.toO).mono ?_
  rintro e w7 ⟨rfl, hb1⟩
  replace hb := hb.trans (hb1.mono hb.size)
  go_simp
  refine hK.out _ _ trivial (fun _ => ?_)
  clear hK K
  refine wpAnyH_take (i := 5) (v := .bool true) rfl (by kernel_rfl) (by kernel_rfl) (by kernel_rfl) (fun _ _ _ h => h) (Or.inl ⟨by kernel_rfl, fun W hW => by go_simp⟩) trivial ?_
  simp only [Act.put, List.setIfInBounds_toArray, List.set_cons_zero, List.set_cons_succ]
  refine wpAnyH_take (i := 6) (v := .bool true) rfl (by kernel_rfl) (by kernel_rfl) (by kernel_rfl) (fun _ _ _ h => h) (Or.inl ⟨by kernel_rfl, fun W hW => by go_simp⟩) trivial ?_
  simp only [Act.put, List.setIfInBounds_toArray, List.set_cons_zero, List.set_cons_succ]
  refine wpAnyH_take (i := 7) (v := .string S) rfl (by kernel_rfl) (by kernel_rfl) (by kernel_rfl) (fun _ _ _ h => h) (Or.inl ⟨by kernel_rfl, fun W hW => by go_simp⟩) trivial ?_
  simp only [Act.put, List.setIfInBounds_toArray, List.set_cons_zero, List.set_cons_succ]
  refine wpAnyH_take (i := 8) (v := .int .i64 (N : Int)) rfl (by kernel_rfl) (by kernel_rfl) (by kernel_rfl) (fun _ _ _ h => h) (Or.inl ⟨by kernel_rfl, fun W hW => by go_simp⟩) trivial ?_
  simp only [Act.put, List.setIfInBounds_toArray, List.set_cons_zero, List.set_cons_succ]
  refine wpAnyH_take (i := 9) (v := .string (S.extract 0 N)) rfl (by kernel_rfl) (by kernel_rfl) (by kernel_rfl) (fun _ _ _ h => h) (Or.inl ⟨by kernel_rfl, fun W hW => by go_simp⟩) trivial ?_
  simp only [Act.put, List.setIfInBounds_toArray, List.set_cons_zero, List.set_cons_succ]
  refine wpAnyH_take (i := 11) (v := .string S) rfl (by kernel_rfl) (by kernel_rfl) (by kernel_rfl) (fun _ _ _ h => h) (Or.inl ⟨by kernel_rfl, fun W hW => by go_simp⟩) trivial ?_
  simp only [Act.put, List.setIfInBounds_toArray, List.set_cons_zero, List.set_cons_succ]
  refine wpAnyH_take (i := 12) (v := .int .i64 (E : Int)) rfl (by kernel_rfl) (by kernel_rfl) (by kernel_rfl) (fun _ _ _ h => h) (Or.inl ⟨by kernel_rfl, fun W hW => by go_simp⟩) trivial ?_
  simp only [Act.put, List.setIfInBounds_toArray, List.set_cons_zero, List.set_cons_succ]
  refine wpAnyH_take (i := 13) (v := .string (S.extract 0 E)) rfl (by kernel_rfl) (by kernel_rfl) (by kernel_rfl) (fun _ _ _ h => h) (Or.inl ⟨by kernel_rfl, fun W hW => by go_simp⟩) trivial ?_
  simp only [Act.put, List.setIfInBounds_toArray, List.set_cons_zero, List.set_cons_succ]
  refine wpAnyH_ready (rs := [10]) (by kernel_rfl) (by simp) ?_
  refine AllReadyH.cons rfl (fun K hK => ?_) AllReadyH.nil
  go_simp
  go_at_call 19
  refine (HRP.out _).mono ?_
  rintro e w8 ⟨rfl, hb2⟩
  replace hb := hb.trans (hb2.mono hb.size)
  go_simp
  refine hK.out _ _ trivial (fun _ => ?_)
  clear hK K
  refine wpAnyH_take (i := 14) (v := .bool true) rfl (by kernel_rfl) (by kernel_rfl) (by kernel_rfl) (fun _ _ _ h => h) (Or.inl ⟨by kernel_rfl, fun W hW => by go_simp⟩) trivial ?_
  simp only [Act.put, List.setIfInBounds_toArray, List.set_cons_zero, List.set_cons_succ]
  refine wpAnyH_take (i := 15) (v := .bool true) rfl (by kernel_rfl) (by kernel_rfl) (by kernel_rfl) (fun _ _ _ h => h) (Or.inl ⟨by kernel_rfl, fun W hW => by go_simp⟩) trivial ?_
  simp only [Act.put, List.setIfInBounds_toArray, List.set_cons_zero, List.set_cons_succ]
  refine wpAnyH_take (i := 16) (v := .bool true) rfl (by kernel_rfl) (by kernel_rfl) (by kernel_rfl) (fun _ _ _ h => h) (Or.inl ⟨by kernel_rfl, fun W hW => by go_simp⟩) trivial ?_
  simp only [Act.put, List.setIfInBounds_toArray, List.set_cons_zero, List.set_cons_succ]
  refine wpAnyH_take (i := 17) (v := .slice aa p ac) rfl (by kernel_rfl) (by kernel_rfl) (by kernel_rfl) (fun _ _ _ h => h) (Or.inl ⟨by kernel_rfl, fun W hW => by go_simp⟩) trivial ?_
  simp only [Act.put, List.setIfInBounds_toArray, List.set_cons_zero, List.set_cons_succ]
  refine wpAnyH_take (i := 18) (v := .int .i64 (p : Int)) rfl (by kernel_rfl) (by kernel_rfl) (by kernel_rfl) (fun _ _ _ h => h) (Or.inl ⟨by kernel_rfl, fun W hW => by go_simp⟩) trivial ?_
  simp only [Act.put, List.setIfInBounds_toArray, List.set_cons_zero, List.set_cons_succ]
  refine wpAnyH_take (i := 19) (v := .slice ba p bc) rfl (by kernel_rfl) (by kernel_rfl) (by kernel_rfl) (fun _ _ _ h => h) (Or.inl ⟨by kernel_rfl, fun W hW => by go_simp⟩) trivial ?_
  simp only [Act.put, List.setIfInBounds_toArray, List.set_cons_zero, List.set_cons_succ]
  refine wpAnyH_take (i := 20) (v := .int .i64 (p : Int)) rfl (by kernel_rfl) (by kernel_rfl) (by kernel_rfl) (fun _ _ _ h => h) (Or.inl ⟨by kernel_rfl, fun W hW => by go_simp⟩) trivial ?_
  simp only [Act.put, List.setIfInBounds_toArray, List.set_cons_zero, List.set_cons_succ]
  refine wpAnyH_take (i := 21) (v := .bool true) rfl (by kernel_rfl) (by kernel_rfl) (by kernel_rfl) (fun _ _ _ h => h) (Or.inl ⟨by kernel_rfl, fun W hW => by go_simp⟩) trivial ?_
  simp only [Act.put, List.setIfInBounds_toArray, List.set_cons_zero, List.set_cons_succ]
  refine wpAnyH_take (i := 22) (v := .bool true) rfl (by kernel_rfl) (by kernel_rfl) (by kernel_rfl) (fun _ _ _ h => h) (Or.inl ⟨by kernel_rfl, fun W hW => by go_simp⟩) trivial ?_
  simp only [Act.put, List.setIfInBounds_toArray, List.set_cons_zero, List.set_cons_succ]
  refine wpAnyH_take (i := 23) (v := undef) rfl (by kernel_rfl) (by kernel_rfl) (by kernel_rfl) (fun _ _ _ h => h) (Or.inr ⟨by kernel_rfl, rfl⟩) trivial ?_
  simp only [Act.put, List.setIfInBounds_toArray, List.set_cons_zero, List.set_cons_succ]
  refine wpAnyH_take (i := 24) (v := undef) rfl (by kernel_rfl) (by kernel_rfl) (by kernel_rfl) (fun _ _ _ h => h) (Or.inr ⟨by kernel_rfl, rfl⟩) trivial ?_
  simp only [Act.put, List.setIfInBounds_toArray, List.set_cons_zero, List.set_cons_succ]
  refine wpAnyH_take (i := 25) (v := undef) rfl (by kernel_rfl) (by kernel_rfl) (by kernel_rfl) (fun _ _ _ h => h) (Or.inr ⟨by kernel_rfl, rfl⟩) trivial ?_
  simp only [Act.put, List.setIfInBounds_toArray, List.set_cons_zero, List.set_cons_succ]
  refine wpAnyH_take (i := 26) (v := undef) rfl (by kernel_rfl) (by kernel_rfl) (by kernel_rfl) (fun _ _ _ h => h) (Or.inr ⟨by kernel_rfl, rfl⟩) trivial ?_
  simp only [Act.put, List.setIfInBounds_toArray, List.set_cons_zero, List.set_cons_succ]
  refine wpAnyH_take (i := 27) (v := undef) rfl (by kernel_rfl) (by kernel_rfl) (by kernel_rfl) (fun _ _ _ h => h) (Or.inr ⟨by kernel_rfl, rfl⟩) trivial ?_
  simp only [Act.put, List.setIfInBounds_toArray, List.set_cons_zero, List.set_cons_succ]
  refine wpAnyH_take (i := 28) (v := undef) rfl (by kernel_rfl) (by kernel_rfl) (by kernel_rfl) (fun _ _ _ h => h) (Or.inr ⟨by kernel_rfl, rfl⟩) trivial ?_
  simp only [Act.put, List.setIfInBounds_toArray, List.set_cons_zero, List.set_cons_succ]
  refine wpAnyH_take (i := 29) (v := undef) rfl (by kernel_rfl) (by kernel_rfl) (by kernel_rfl) (fun _ _ _ h => h) (Or.inr ⟨by kernel_rfl, rfl⟩) trivial ?_
  simp only [Act.put, List.setIfInBounds_toArray, List.set_cons_zero, List.set_cons_succ]
  refine wpAnyH_take (i := 30) (v := undef) rfl (by kernel_rfl) (by kernel_rfl) (by kernel_rfl) (fun _ _ _ h => h) (Or.inr ⟨by kernel_rfl, rfl⟩) trivial ?_
  simp only [Act.put, List.setIfInBounds_toArray, List.set_cons_zero, List.set_cons_succ]
  refine wpAnyH_take (i := 31) (v := undef) rfl (by kernel_rfl) (by kernel_rfl) (by kernel_rfl) (fun _ _ _ h => h) (Or.inr ⟨by kernel_rfl, rfl⟩) trivial ?_
  simp only [Act.put, List.setIfInBounds_toArray, List.set_cons_zero, List.set_cons_succ]
  refine wpAnyH_take (i := 32) (v := undef) rfl (by kernel_rfl) (by kernel_rfl) (by kernel_rfl) (fun _ _ _ h => h) (Or.inr ⟨by kernel_rfl, rfl⟩) trivial ?_
  simp only [Act.put, List.setIfInBounds_toArray, List.set_cons_zero, List.set_cons_succ]
  refine wpAnyH_take (i := 33) (v := undef) rfl (by kernel_rfl) (by kernel_rfl) (by kernel_rfl) (fun _ _ _ h => h) (Or.inr ⟨by kernel_rfl, rfl⟩) trivial ?_
  simp only [Act.put, List.setIfInBounds_toArray, List.set_cons_zero, List.set_cons_succ]
  refine wpAnyH_take (i := 34) (v := .bool true) rfl (by kernel_rfl) (by kernel_rfl) (by kernel_rfl) (fun _ _ _ h => h) (Or.inl ⟨by kernel_rfl, fun W hW => by go_simp⟩) trivial ?_
  simp only [Act.put, List.setIfInBounds_toArray, List.set_cons_zero, List.set_cons_succ]
  refine wpAnyH_take (i := 35) (v := .bool true) rfl (by kernel_rfl) (by kernel_rfl) (by kernel_rfl) (fun _ _ _ h => h) (Or.inl ⟨by kernel_rfl, fun W hW => by go_simp⟩) trivial ?_
  simp only [Act.put, List.setIfInBounds_toArray, List.set_cons_zero, List.set_cons_succ]
  refine wpAnyH_take (i := 36) (v := .bool true) rfl (by kernel_rfl) (by kernel_rfl) (by kernel_rfl) (fun _ _ _ h => h) (Or.inl ⟨by kernel_rfl, fun W hW => by go_simp⟩) trivial ?_
  simp only [Act.put, List.setIfInBounds_toArray, List.set_cons_zero, List.set_cons_succ]
  refine wpAnyH_done (by kernel_rfl) ?_ _
  simp only [List.getElem_toArray, List.getElem_cons_succ, List.getElem_cons_zero, Act.put, List.setIfInBounds_toArray, List.set_cons_zero, List.set_cons_succ]
  go_wp2
  go_ret
  exact ⟨rfl, hb⟩
set_option maxRecDepth 100000 in
set_option maxHeartbeats 4000000 in
theorem tearsMore (v : Value) (ss : List ByteArray) (S : ByteArray) (N E : Nat) (ks zs : List (List UInt8)) (w : World) (hT : TextsA w v ss) (C : CutAt v ss S N E ks zs) (hn : (ks ++ zs).length ≤ 40) (d : List UInt8) (t : List (List UInt8)) (hz : zs = d :: t) (hd : N < E + d.length + 9) (hdl : d.length ≤ 100) : Calls Try.prog 6 #[v, .int .i64 (N : Int)] w fun e w' => e = .returned (.bool true) ∧ Below w.heap.size w w' := by
  obtain ⟨hby, hr1, hr2, hr3, hrp, hsm, hS, hN, hE⟩ := C
  have hd1 := nn_int N
  have hd2 := dec_no hN
  have hd3 := dec_no hE
  have hNi := le_int hN
  have hEi := le_int (Nat.le_trans hE hN)
  have hpm := pre_le ks zs
  have hd4 := dec_no hpm
  obtain ⟨p, hp⟩ : ∃ p, ks.length = p := ⟨_, rfl⟩
  obtain ⟨m, hm⟩ : ∃ m, (ks ++ zs).length = m := ⟨_, rfl⟩
  rw [hp, hm] at hd4
  rw [hp, hm] at hpm
  obtain ⟨hn4, hx4⟩ := no_lt hpm
  obtain ⟨hn3, hx3⟩ := no_lt hE
  have hn2 := (no_lt hN).1
  have hpl := mid_lt hp hm hz
  have hpi := lt_int hpl
  have hqq := ne_int hpl
  have hqn := ne_nat hpl
  have hxs := d_small hdl
  have hes := e_small hS hN hE
  have hwa : wrap64 ((E : Int) + ((txt d).size : Int)) = (E : Int) + ((txt d).size : Int) := wrap_a hes hxs
  have hwb : wrap64 ((E : Int) + ((txt d).size : Int) + 9) = (E : Int) + ((txt d).size : Int) + 9 := wrap_b hes hxs
  have hgt := gt_int hd
  have hgn := gt_nat hd
  obtain ⟨hgw, hgw'⟩ := gt_wrap hd hes hdl
  have HZ := Lib.hid hz
  clear hpl hd hdl hz hxs hes
  have HP := Lib.hid hp
  have HM := Lib.hid hm
  have HBY := Lib.hid hby
  have HR1 := Lib.hid hr1
  have HR2 := Lib.hid hr2
  have HR3 := Lib.hid hr3
  have HRP := Lib.hid hrp
  have HSM := Lib.hid hsm
  have hz3 := le_of_le hN hE
  clear hp hm hpm hby hr1 hr2 hr3 hrp hsm hS hN hE hn
  go_enter Try.func6, Try.ntmps6
  have hb := Below.refl w.heap.size w
  go_wp2_with (first
    | (go_at_call 10; refine (lawShown _).mono ?_; rintro e w1 ⟨rfl, hb1⟩; replace hb := hb.trans (hb1.mono hb.size); clear hb1)
    | (go_at_call 23; refine (HBY.out _ (hT.below hb (Nat.le_refl _))).mono ?_; rintro e w2 ⟨rfl, hb1⟩; replace hb := hb.trans (hb1.mono hb.size); clear hb1)
    | (go_at_call 14; have H := HR1; refine (H.out _).mono ?_; clear H HR1; rintro e w3 ⟨⟨va, rfl, hTa⟩, hb1⟩; replace hb := hb.trans (hb1.mono hb.size); clear hb1; obtain ⟨aa, ac, rfl, hac⟩ := texts_at hTa HP.out)
    | (go_at_call 14; have H := HR2; refine (H.out _).mono ?_; clear H HR2; rintro e w4 ⟨⟨vb, rfl, hTb⟩, hb1⟩; replace hb := hb.trans (hb1.mono hb.size); replace hTa := hTa.below hb1 (Nat.le_refl _); clear hb1
       rw [HZ.out] at hTb; obtain ⟨g, c, rfl, hpc, hgl, hcell⟩ := mid_of (m := m) hTb HP.out (by have h := HM.out; rw [HZ.out] at h; exact h))
    | (go_at_call 16; refine (HSM.out _ _ _ hTa.toO (front_at hTb HP.out)).mono ?_; rintro e w5 ⟨rfl, hb1⟩; replace hb := hb.trans (hb1.mono hb.size); replace hTa := hTa.below hb1 (Nat.le_refl _); replace hTb := hTb.below hb1 (Nat.le_refl _); replace hcell := (hb1.cell (p := ⟨g, p, none⟩) hgl).trans hcell; replace hgl := Nat.lt_of_lt_of_le hgl hb1.size; clear hb1)
    | (go_at_call 14; have H := HR3; refine (H.out _).mono ?_; clear H HR3; rintro e w6 ⟨⟨vc, rfl, hTc⟩, hb1⟩; replace hb := hb.trans (hb1.mono hb.size); replace hTa := hTa.below hb1 (Nat.le_refl _); replace hTb := hTb.below hb1 (Nat.le_refl _); replace hcell := (hb1.cell (p := ⟨g, p, none⟩) hgl).trans hcell; replace hgl := Nat.lt_of_lt_of_le hgl hb1.size; clear hb1; obtain ⟨ca, cc, rfl, hcc⟩ := texts_at hTc HP.out))
  replace hb := hb.drew
  replace hTc := texts_drew hTc
  replace hTa := texts_drew hTa
  have hcd : w6.drew.cell? ⟨g, p, none⟩ = some (.string (txt d)) := hcell
  have hgd : g < w6.drew.heap.size := hgl
  go_region_held3 (fun W => W.cell? ⟨g, p, none⟩ = some (.string (txt d))) (first | exact hcd | go_keep) (first
    | (go_at_call 16; refine (HSM.out _ _ _ hTc.toO hTa.toO).mono ?_; rintro e w7 ⟨rfl, hb1⟩; replace hb := hb.trans (hb1.mono hb.size); replace hcd := (hb1.cell (p := ⟨g, p, none⟩) hgd).trans hcd; replace hgd := Nat.lt_of_lt_of_le hgd hb1.size; clear hb1)
    | (go_at_call 19; refine (HRP.out _).mono ?_; rintro e w8 ⟨rfl, hb1⟩; replace hb := hb.trans (hb1.mono hb.size); replace hcd := (hb1.cell (p := ⟨g, p, none⟩) hgd).trans hcd; replace hgd := Nat.lt_of_lt_of_le hgd hb1.size; clear hb1))
  all_goals (go_wp2; go_ret; exact ⟨rfl, hb⟩)
theorem lawTears (v : Value) (ss : List ByteArray) (n : Int) (w : World) (hT : TextsA w v ss) (hss : ss.length ≤ maxLen) : Calls Try.prog 6 #[v, .int .i64 n] w fun e w' => e = .returned (.bool true) ∧ Below w.heap.size w w' := by
  by_cases h : n < 0 ∨ ((txt (J.recs (datas ss))).size : Int) < n
  · exact tearsOut v ss n w hT hss h
  · have hsz := txt_size (J.recs (datas ss))
    obtain ⟨N, rfl⟩ := Int.eq_ofNat_of_zero_le (show 0 ≤ n by omega)
    obtain ⟨E, ks, zs, hC, hz, hl⟩ := cutAt v ss hss N (by omega)
    rcases hz with hz | ⟨d, t, hz, hd, hdl⟩
    · exact tearsAll v ss _ N E ks zs w hT hC hl hz
    · exact tearsMore v ss _ N E ks zs w hT hC hl d t hz hd hdl
end Go.Proofs.Ytlcenfgnmmkcpaa
