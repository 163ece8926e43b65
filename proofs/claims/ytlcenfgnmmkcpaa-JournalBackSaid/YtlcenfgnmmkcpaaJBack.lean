/-
  The law of records that are appended one by one and read: walked.
-/
import Derived.Test.YtlcenfgnmmkcpaaJKeeps
namespace Go.Proofs.Ytlcenfgnmmkcpaa
open Go.RowKit Go.Shelf
attribute [local go_sem] Oper.semAt_some
set_option linter.unusedVariables false
set_option linter.unusedSimpArgs false

theorem whole_take (ss : List ByteArray) (k : Nat) : wholeF (txt (J.recs ((datas ss).take k))) = true := by
  rw [wholeF, txt_toList, (J.read_all _ (fun d hd => datas_ok ss d (List.mem_of_mem_take hd))).2, txt_size]
  simp
theorem append_step (ss : List ByteArray) (k : Nat) (hk : k < ss.length) (h40 : k < 40) : appF (txt (J.recs ((datas ss).take k))) (hun ss[k]) 1000 = (txt (J.recs ((datas ss).take (k + 1))), 0) := by
  obtain ⟨hkd, hget⟩ := datas_get ss k hk h40
  have hz := hun_size ss[k]
  have hl : (hun ss[k]).data.toList.length = (hun ss[k]).size := by simp
  have hkept : keptN (J.rec (hun ss[k]).data.toList).length 1000 = (J.rec (hun ss[k]).data.toList).length := by
    rw [J.rec_length, hl, keptN]; omega
  rw [appF, if_pos (whole_take ss k), if_pos (by omega), hkept, List.take_length, txt_append, List.take_succ_eq_append_getElem hkd, hget, J.recs_snoc]
theorem back_facts (ss : List ByteArray) : J.read (J.recs (datas ss)) = datas ss ∧ repF (txt (J.recs (datas ss))) = txt (J.recs (datas ss)) := by
  obtain ⟨g1, g2⟩ := J.read_all (datas ss) (datas_ok ss)
  exact ⟨g1, by rw [repF, txt_toList, g2, List.take_length]⟩
theorem map_step (ss : List ByteArray) (k : Nat) (hk : k < ss.length) (h40 : k < 40) : ((datas ss).take (k + 1)).map strV = ((datas ss).take k).map strV ++ [.string (hun ss[k])] := by
  obtain ⟨hkd, hget⟩ := datas_get ss k hk h40
  rw [List.take_succ_eq_append_getElem hkd, List.map_append, hget]
  simp [txt_data]
theorem cap_small {k : Nat} (h : k < 40) : (k + 1 : Nat) ≤ maxLen ∧ (k + 1) * 16 ≤ 140737488355328 := by unfold maxLen; omega
set_option maxRecDepth 100000 in
set_option maxHeartbeats 4000000 in
theorem lawBack (v : Value) (ss : List ByteArray) (w : World) (hT : TextsA w v ss) (hss : ss.length ≤ maxLen) : Calls Try.prog 5 #[v] w fun e w' => e = .returned (.bool true) ∧ Below w.heap.size w w' := by
  have hdl := datas_length ss
  have hsz := recs_datas ss
  have hS : (txt (J.recs (datas ss))).size ≤ 100000 := by rw [txt_size]; omega
  have hSl : (txt (J.recs (datas ss))).size = (J.recs (datas ss)).length := txt_size _
  have hr := fun W => jRead (txt (J.recs (datas ss))) hS W
  have hwh := fun W => jWhole (txt (J.recs (datas ss))) hS W
  have hrp := fun W => jRepair (txt (J.recs (datas ss))) hS W
  obtain ⟨g1, g2⟩ := J.read_all (datas ss) (datas_ok ss)
  rw [txt_toList, g1, g2, ← hSl] at hr
  rw [whole_recs] at hwh
  rw [(back_facts ss).2] at hrp
  have hn : (datas ss).length ≤ 40 := by rw [hdl]; omega
  have HSM := Lib.hid (fun (va vb : Value) (W : World) (h1 : TextsO W va (datas ss)) (h2 : TextsO W vb (datas ss)) => by have h := refSame va vb (datas ss) (datas ss) W h1 h2 (small_len hn); rw [decide_eq_true rfl] at h; exact h : ∀ (va vb : Value) (W : World), TextsO W va (datas ss) → TextsO W vb (datas ss) → Calls Try.prog 16 #[va, vb] W fun e w' => e = .returned (.bool true) ∧ Below W.heap.size W w')
  have HAP := Lib.hid (fun (k : Nat) (hk : k < ss.length) (h40 : k < 40) (W : World) => by have h := jAppend (txt (J.recs ((datas ss).take k))) (hun ss[k]) 1000 (by rw [txt_size]; have := take_small ss k; omega) (by have := hun_size ss[k]; omega) W; rw [append_step ss k hk h40] at h; exact h)
  have HRD := Lib.hid hr
  have HWH := Lib.hid hwh
  have HRP := Lib.hid hrp
  clear hsz hS hSl hr hwh hrp g1 g2 hn
  obtain ⟨i0, hi, hz0, hz1, hz2⟩ := info_parts info_str
  rcases hT with ⟨rfl, rfl⟩ | ⟨a, c, rfl, hx⟩
  · have hds : datas [] = [] := rfl
    rw [hds] at HSM HRD HWH HRP
    have hrn : txt (J.recs []) = ⟨#[]⟩ := rfl
    rw [hrn] at HRD HWH HRP
    clear HAP hds hdl
    go_enter Try.func5, Try.ntmps5
    go_wp2_with (go_at_call 10; refine (lawShown _).mono ?_; rintro e w1 ⟨rfl, hb1⟩)
    go_loopw [4, 5, 6] (fun s o i W => s = .string ⟨#[]⟩ ∧ o = .slice none 0 0 ∧ i = .int .i64 0 ∧ Below w.heap.size w W) (fun _ _ _ _ => 0)
    case atStart => exact ⟨rfl, rfl, rfl, hb1⟩
    case round =>
      obtain ⟨rfl, rfl, rfl, hB⟩ := hrel
      have hTx : Texts wr (.slice none 0 0) [] := .inl ⟨rfl, rfl⟩
      go_wp2_with (first
        | (go_at_call 14; refine (HRD.out _).mono ?_; rintro e w5 ⟨⟨va, rfl, hTa⟩, hb1⟩; replace hB := hB.trans (hb1.mono hB.size); replace hTx := hTx.below hb1 (Nat.le_refl _); clear hb1)
        | (go_at_call 17; refine (HWH.out _).mono ?_; rintro e w6 ⟨rfl, hb1⟩; replace hB := hB.trans (hb1.mono hB.size); replace hTa := hTa.below hb1 (Nat.le_refl _); replace hTx := hTx.below hb1 (Nat.le_refl _); clear hb1)
        | (go_at_call 19; refine (HRP.out _).mono ?_; rintro e w7 ⟨rfl, hb1⟩; replace hB := hB.trans (hb1.mono hB.size); replace hTa := hTa.below hb1 (Nat.le_refl _); replace hTx := hTx.below hb1 (Nat.le_refl _); clear hb1)
        | (go_at_call 16; refine (HSM.out _ _ _ hTa.toO hTx.toO).mono ?_; rintro e w8 ⟨rfl, hb1⟩; replace hB := hB.trans (hb1.mono hB.size); clear hb1))
      go_ret
      exact ⟨rfl, hB⟩
  · obtain ⟨n, hn⟩ : ∃ n, ss.length = n := ⟨_, rfl⟩
    rw [hn]
    rw [hn] at hss hdl
    unfold maxLen at hss
    have HN := Lib.hid hn
    have HDL := Lib.hid hdl
    clear hn hdl
    go_enter Try.func5, Try.ntmps5
    go_wp2_with (go_at_call 10; refine (lawShown _).mono ?_; rintro e w1 ⟨rfl, hb1⟩)
    go_loopw [4, 5, 6] (fun s o i W => ∃ k : Nat, k ≤ 40 ∧ k ≤ n ∧ s = .string (txt (J.recs ((datas ss).take k))) ∧ i = .int .i64 k ∧ W.ownsRow w.heap.size 9 1 o k (((datas ss).take k).map strV) ∧ Below w.heap.size w W) (fun _ _ i _ => 40 - (intOf i).toNat)
    case atStart => exact ⟨0, by omega, Nat.zero_le _, rfl, rfl, World.ownsRow_nil _ _ _ _, hb1⟩
    case round =>
      obtain ⟨k, hk40, hkn, rfl, rfl, hown, hB⟩ := hrel
      by_cases hlt : k < n
      · by_cases h40 : k < 40
        · have hks : k < ss.length := by rw [HN.out]; exact hlt
          have ha := cell_block (hx k hks)
          have hcell : wr.cell? (a.add k) = some (.string ss[k]) := (hB.cell (p := a.add k) (by rw [add_block]; exact ha)).trans (hx k hks)
          have HA := Lib.hid (HAP.out k hks h40)
          have HMS := Lib.hid (map_step ss k hks h40)
          have hhun : ss[k].extract 0 (min (ss[k].size : Int) 100).toNat = hun ss[k] := rfl
          have HCP := Lib.hid (cap_small h40)
          clear HAP HSM HRD HWH HRP hx
          generalize txt (J.recs ((datas ss).take k)) = A at *
          generalize hun ss[k] = H at *
          generalize ss[k] = x at *
          have hm1 : min (x.size : Int) 100 ≤ (x.size : Int) := by omega
          have hm0 : (0 : Int) ≤ min (x.size : Int) 100 := by omega
          go_wp2
          go_quiet (fail)
          go_wp2_with (first
            | (go_at_call 21; refine (HA.out _).mono ?_; rintro e w2 ⟨rfl, hb1⟩
               replace hB := (below_drewN hB nq).trans (hb1.mono hB.size)
               have hown2 := (show (wr.drewN nq).ownsRow _ _ _ _ _ _ from hown).kept (grown_below' hb1 none) (by cases Value.ownBlock _ <;> simp)
               clear hb1)
            | (at_builtin; refine wpList_append_own _ rfl _ _ 27 rfl w.heap.size 9 i0 (.string ⟨#[]⟩) 1 16 Try.underlying27 hi hz0 hz1 hz2 rfl (by decide) _ _ _ rfl (hown2.alloc _) ⟨w2.heap.size, 0, none⟩ 1 1 [.string H] rfl rfl (cell_one_new _ _ _) (by simp [Value.oneCell']) HCP.out.1 HCP.out.2 (by have := hB.size; simp; omega) ?_; intro v' w3 hown' hgrow _))
          go_roundw
          case rel => exact ⟨k + 1, by omega, by omega, rfl, by go_num, by rw [HMS.out]; exact hown', (hB.alloc hB.size _).grown hgrow (by have := hB.size; simp; omega) (fun j hj => (hown2.lt j hj).1)⟩
          case measure => simp [intOf]; omega
        · have e : k = 40 := by omega
          have hfin : (datas ss).take k = datas ss := List.take_of_length_le (by rw [HDL.out]; omega)
          have hkl : k = (datas ss).length := by rw [HDL.out]; omega
          rw [hfin] at hown ⊢
          have hd40 : decide ((k : Int) < 40) = false := by rw [decide_eq_false_iff_not]; omega
          have hTx := texts_of_owns (hkl ▸ hown) (rfl : datas ss = datas ss)
          clear hfin hx e hown HAP hkl
          generalize txt (J.recs (datas ss)) = S at *
          go_wp2_with (first
            | (go_at_call 14; refine (HRD.out _).mono ?_; rintro e w5 ⟨⟨va, rfl, hTa⟩, hb1⟩; replace hB := hB.trans (hb1.mono hB.size); replace hTx := hTx.below hb1 (Nat.le_refl _); clear hb1)
            | (go_at_call 17; refine (HWH.out _).mono ?_; rintro e w6 ⟨rfl, hb1⟩; replace hB := hB.trans (hb1.mono hB.size); replace hTa := hTa.below hb1 (Nat.le_refl _); replace hTx := hTx.below hb1 (Nat.le_refl _); clear hb1)
            | (go_at_call 19; refine (HRP.out _).mono ?_; rintro e w7 ⟨rfl, hb1⟩; replace hB := hB.trans (hb1.mono hB.size); replace hTa := hTa.below hb1 (Nat.le_refl _); replace hTx := hTx.below hb1 (Nat.le_refl _); clear hb1)
            | (go_at_call 16; refine (HSM.out _ _ _ hTa.toO hTx.toO).mono ?_; rintro e w8 ⟨rfl, hb1⟩; replace hB := hB.trans (hb1.mono hB.size); clear hb1))
          go_ret
          exact ⟨rfl, hB⟩
      · have hfin : (datas ss).take k = datas ss := List.take_of_length_le (by rw [HDL.out]; omega)
        have hkl : k = (datas ss).length := by rw [HDL.out]; omega
        rw [hfin] at hown ⊢
        have hTx := texts_of_owns (hkl ▸ hown) (rfl : datas ss = datas ss)
        clear hfin hx hown HAP hkl
        generalize txt (J.recs (datas ss)) = S at *
        go_wp2_with (first
          | (go_at_call 14; refine (HRD.out _).mono ?_; rintro e w5 ⟨⟨va, rfl, hTa⟩, hb1⟩; replace hB := hB.trans (hb1.mono hB.size); replace hTx := hTx.below hb1 (Nat.le_refl _); clear hb1)
          | (go_at_call 17; refine (HWH.out _).mono ?_; rintro e w6 ⟨rfl, hb1⟩; replace hB := hB.trans (hb1.mono hB.size); replace hTa := hTa.below hb1 (Nat.le_refl _); replace hTx := hTx.below hb1 (Nat.le_refl _); clear hb1)
          | (go_at_call 19; refine (HRP.out _).mono ?_; rintro e w7 ⟨rfl, hb1⟩; replace hB := hB.trans (hb1.mono hB.size); replace hTa := hTa.below hb1 (Nat.le_refl _); replace hTx := hTx.below hb1 (Nat.le_refl _); clear hb1)
          | (go_at_call 16; refine (HSM.out _ _ _ hTa.toO hTx.toO).mono ?_; rintro e w8 ⟨rfl, hb1⟩; replace hB := hB.trans (hb1.mono hB.size); clear hb1))
        go_ret
        exact ⟨rfl, hB⟩
end Go.Proofs.Ytlcenfgnmmkcpaa
