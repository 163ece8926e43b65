/-
  Layer 4's law StoreCuts: walked.
-/
import Derived.Test.YtfbponiiejanfaaStAgain
import Derived.Test.YtfbponiiejanfaaStTwo
namespace Go.Proofs.Ytfbponiiejanfaa
open Go.RowKit Go.Shelf
attribute [local go_sem] Oper.semAt_some
set_option linter.unusedVariables false
set_option linter.unusedSimpArgs false

set_option maxRecDepth 100000 in
set_option maxHeartbeats 4000000 in
theorem cutsNo (v : Value) (ss : List ByteArray) (d : ByteArray) (keep : Int) (hk : keep < 0) (w : World) (hT : TextsA w v ss) (hss : ss.length ≤ maxLen) (hdm : d.size ≤ maxLen) : Calls Try.prog 5 #[v, .string d, .int .i64 keep] w fun e w' => e = .returned (.bool true) ∧ Below w.heap.size w w' := by
  have hform : ∃ a c, v = .slice a ss.length c := by
    rcases hT with ⟨rfl, rfl⟩ | ⟨a, c, rfl, _⟩
    · exact ⟨_, _, rfl⟩
    · exact ⟨_, _, rfl⟩
  obtain ⟨a, c, rfl⟩ := hform
  obtain ⟨len, hlen⟩ : ∃ len, ss.length = len := ⟨_, rfl⟩
  have HT := Lib.hid hT
  have HL := Lib.hid hlen
  have hdd : d.extract 0 (min (d.size : Int) 100).toNat = hun d := rfl
  have hds := hun_size d
  rw [hlen] at hss ⊢
  clear hT hlen
  have hdm1 : min (d.size : Int) 100 ≤ (d.size : Int) := by omega
  have hdm0 : (0 : Int) ≤ min (d.size : Int) 100 := by omega
  have hdmn : decide (min (d.size : Int) 100 < 0) = false := by rw [decide_eq_false_iff_not]; omega
  have hdmx : decide ((d.size : Int) < min (d.size : Int) 100) = false := by rw [decide_eq_false_iff_not]; omega
  go_enter Try.func5, Try.ntmps5
  go_wp2_with (first
    | (go_at_call 7; refine (lawShown _).mono ?_; rintro e w1 ⟨rfl, hb1⟩)
    | (go_at_call 14; refine (new_most.out _).mono ?_; rintro e w2 ⟨rfl, hI2, hb2⟩))
  clear hdm1 hdm0 hdmn hdmx hdd
  have hn1 := hb1.size
  have hB2 : Below w.heap.size w w2 := hb1.trans (hb2.mono hn1)
  go_loopw [10, 11] (fun vw i W => ∃ (k : Nat) (vs : Value), k ≤ len ∧ k ≤ 20 ∧ i = .int .i64 k ∧ Two (stOf ((firsts 20 ss).take k)) w1.heap.size vs ((firsts 20 ss).take k) vw W ∧ Below w.heap.size w W) (fun _ i _ => 20 - (intOf i).toNat)
  case atStart => exact ⟨0, _, Nat.zero_le _, Nat.zero_le _, rfl, Two.start hI2, hB2⟩
  case round =>
    obtain ⟨k, vs, hk', hk20, rfl, hX, hB⟩ := hrel
    by_cases hlt : k < len
    · by_cases h20 : k < 20
      · have hkl : k < ss.length := by rw [HL.out]; exact hlt
        have HW := Lib.hid (fun (W : World) (h : Is (stOf ((firsts 20 ss).take k)) w1.heap.size vs W) => writeNext 20 (by decide) ss k hkl h20 w1.heap.size vs W h)
        rcases HT.out with ⟨h0, h1⟩ | ⟨ad, c', h0, hx⟩
        · have := HL.out; rw [h1] at this; simp at this; omega
        simp only [Value.slice.injEq] at h0
        obtain ⟨rfl, _, rfl⟩ := h0
        have hcell : wr.cell? (ad.add k) = some (.string ss[k]) := (hB.cell (p := ad.add k) (by rw [add_block]; exact cell_block (hx k hkl))).trans (hx k hkl)
        have hun' : ss[k].extract 0 (min (ss[k].size : Int) 100).toNat = hun ss[k] := rfl
        have hstep := firsts_step 20 ss k hkl h20
        have hfk : ((firsts 20 ss).take k).length ≤ 1000 := by rw [List.length_take]; omega
        have HFK := Lib.hid hfk
        have HST := Lib.hid hstep
        have HUN := Lib.hid (txt_data (hun ss[k]))
        generalize hun ss[k] = hx' at *
        generalize ss[k] = x at *
        clear hstep hfk
        have hm1 : min (x.size : Int) 100 ≤ (x.size : Int) := by omega
        have hm0 : (0 : Int) ≤ min (x.size : Int) 100 := by omega
        have hmn : decide (min (x.size : Int) 100 < 0) = false := by rw [decide_eq_false_iff_not]; omega
        have hmx : decide ((x.size : Int) < min (x.size : Int) 100) = false := by rw [decide_eq_false_iff_not]; omega
        have hki : (k : Int) < (len : Int) := by omega
        have hki20 : (k : Int) < 20 := by omega
        go_wp2
        go_quiet (fail)
        have hXq := hX.below (below_drewN (Below.refl wr.heap.size wr) nq)
        have hBq := below_drewN hB nq
        go_wp2_with (first
          | (go_at_call 9; refine (HW.out _ hXq.st).mono ?_; rintro e w3 ⟨rfl, hT⟩; obtain ⟨v3, hX3, hb3⟩ := hXq.turn hT; replace hBq := hBq.trans (hb3.mono hn1); clear hT hb3)
          | (at_builtin; refine wpList_append_two' rfl _ _ rfl rfl hX3 rfl HFK.out ?_; intro vw4 w4 hX4 hb4 _; replace hBq := hBq.trans (hb4.mono hn1)))
        go_roundw
        case rel => exact ⟨k + 1, v3, by omega, by omega, by go_num, by rw [HST.out] at hX4 ⊢; exact hX4, hBq⟩
        case measure => simp [intOf]; omega
      · have hfin : (firsts 20 ss).take k = firsts 20 ss := List.take_of_length_le (by rw [firsts_length]; omega)
        rw [hfin] at hX
        have hki : (k : Int) < (len : Int) := by omega
        have hki20 : decide ((k : Int) < 20) = false := by rw [decide_eq_false_iff_not]; omega
        clear hfin HT
        have HC := Lib.hid (fun (v : Value) (W : World) (h : Is (stOf (firsts 20 ss)) w1.heap.size v W) => (stCutNo (stOf (firsts 20 ss)) w1.heap.size v keep W h (by show (0 : Int) ≠ 2; decide) hk))
        generalize firsts 20 ss = D at *
        have hI := hX.st
        go_wp2_with ((go_at_call 11; refine (HC.out _ _ hI).mono ?_; rintro e w4 ⟨rfl, rfl⟩))
        go_ret
        exact ⟨rfl, hB⟩
    · have hfin : (firsts 20 ss).take k = firsts 20 ss := List.take_of_length_le (by rw [firsts_length]; have := HL.out; omega)
      rw [hfin] at hX
      have hki : decide ((k : Int) < (len : Int)) = false := by rw [decide_eq_false_iff_not]; omega
      clear hfin HT
      have HC := Lib.hid (fun (v : Value) (W : World) (h : Is (stOf (firsts 20 ss)) w1.heap.size v W) => (stCutNo (stOf (firsts 20 ss)) w1.heap.size v keep W h (by show (0 : Int) ≠ 2; decide) hk))
      generalize firsts 20 ss = D at *
      have hI := hX.st
      go_wp2_with ((go_at_call 11; refine (HC.out _ _ hI).mono ?_; rintro e w4 ⟨rfl, rfl⟩))
      go_ret
      exact ⟨rfl, hB⟩

set_option maxRecDepth 100000 in
set_option maxHeartbeats 4000000 in
theorem cutsTorn (v : Value) (ss : List ByteArray) (d : ByteArray) (K : Nat) (hk : K < (hun d).size + 9) (w : World) (hT : TextsA w v ss) (hss : ss.length ≤ maxLen) (hdm : d.size ≤ maxLen) : Calls Try.prog 5 #[v, .string d, .int .i64 (K : Int)] w fun e w' => e = .returned (.bool true) ∧ Below w.heap.size w w' := by
  have hform : ∃ a c, v = .slice a ss.length c := by
    rcases hT with ⟨rfl, rfl⟩ | ⟨a, c, rfl, _⟩
    · exact ⟨_, _, rfl⟩
    · exact ⟨_, _, rfl⟩
  obtain ⟨a, c, rfl⟩ := hform
  obtain ⟨len, hlen⟩ : ∃ len, ss.length = len := ⟨_, rfl⟩
  have HT := Lib.hid hT
  have HL := Lib.hid hlen
  have hdd : d.extract 0 (min (d.size : Int) 100).toNat = hun d := rfl
  have hds := hun_size d
  rw [hlen] at hss ⊢
  clear hT hlen
  have hdm1 : min (d.size : Int) 100 ≤ (d.size : Int) := by omega
  have hdm0 : (0 : Int) ≤ min (d.size : Int) 100 := by omega
  have hdmn : decide (min (d.size : Int) 100 < 0) = false := by rw [decide_eq_false_iff_not]; omega
  have hdmx : decide ((d.size : Int) < min (d.size : Int) 100) = false := by rw [decide_eq_false_iff_not]; omega
  go_enter Try.func5, Try.ntmps5
  go_wp2_with (first
    | (go_at_call 7; refine (lawShown _).mono ?_; rintro e w1 ⟨rfl, hb1⟩)
    | (go_at_call 14; refine (new_most.out _).mono ?_; rintro e w2 ⟨rfl, hI2, hb2⟩))
  clear hdm1 hdm0 hdmn hdmx hdd
  have hn1 := hb1.size
  have hB2 : Below w.heap.size w w2 := hb1.trans (hb2.mono hn1)
  go_loopw [10, 11] (fun vw i W => ∃ (k : Nat) (vs : Value), k ≤ len ∧ k ≤ 20 ∧ i = .int .i64 k ∧ Two (stOf ((firsts 20 ss).take k)) w1.heap.size vs ((firsts 20 ss).take k) vw W ∧ Below w.heap.size w W) (fun _ i _ => 20 - (intOf i).toNat)
  case atStart => exact ⟨0, _, Nat.zero_le _, Nat.zero_le _, rfl, Two.start hI2, hB2⟩
  case round =>
    obtain ⟨k, vs, hk', hk20, rfl, hX, hB⟩ := hrel
    by_cases hlt : k < len
    · by_cases h20 : k < 20
      · have hkl : k < ss.length := by rw [HL.out]; exact hlt
        have HW := Lib.hid (fun (W : World) (h : Is (stOf ((firsts 20 ss).take k)) w1.heap.size vs W) => writeNext 20 (by decide) ss k hkl h20 w1.heap.size vs W h)
        rcases HT.out with ⟨h0, h1⟩ | ⟨ad, c', h0, hx⟩
        · have := HL.out; rw [h1] at this; simp at this; omega
        simp only [Value.slice.injEq] at h0
        obtain ⟨rfl, _, rfl⟩ := h0
        have hcell : wr.cell? (ad.add k) = some (.string ss[k]) := (hB.cell (p := ad.add k) (by rw [add_block]; exact cell_block (hx k hkl))).trans (hx k hkl)
        have hun' : ss[k].extract 0 (min (ss[k].size : Int) 100).toNat = hun ss[k] := rfl
        have hstep := firsts_step 20 ss k hkl h20
        have hfk : ((firsts 20 ss).take k).length ≤ 1000 := by rw [List.length_take]; omega
        have HFK := Lib.hid hfk
        have HST := Lib.hid hstep
        have HUN := Lib.hid (txt_data (hun ss[k]))
        generalize hun ss[k] = hx' at *
        generalize ss[k] = x at *
        clear hstep hfk
        have hm1 : min (x.size : Int) 100 ≤ (x.size : Int) := by omega
        have hm0 : (0 : Int) ≤ min (x.size : Int) 100 := by omega
        have hmn : decide (min (x.size : Int) 100 < 0) = false := by rw [decide_eq_false_iff_not]; omega
        have hmx : decide ((x.size : Int) < min (x.size : Int) 100) = false := by rw [decide_eq_false_iff_not]; omega
        have hki : (k : Int) < (len : Int) := by omega
        have hki20 : (k : Int) < 20 := by omega
        go_wp2
        go_quiet (fail)
        have hXq := hX.below (below_drewN (Below.refl wr.heap.size wr) nq)
        have hBq := below_drewN hB nq
        go_wp2_with (first
          | (go_at_call 9; refine (HW.out _ hXq.st).mono ?_; rintro e w3 ⟨rfl, hT⟩; obtain ⟨v3, hX3, hb3⟩ := hXq.turn hT; replace hBq := hBq.trans (hb3.mono hn1); clear hT hb3)
          | (at_builtin; refine wpList_append_two' rfl _ _ rfl rfl hX3 rfl HFK.out ?_; intro vw4 w4 hX4 hb4 _; replace hBq := hBq.trans (hb4.mono hn1)))
        go_roundw
        case rel => exact ⟨k + 1, v3, by omega, by omega, by go_num, by rw [HST.out] at hX4 ⊢; exact hX4, hBq⟩
        case measure => simp [intOf]; omega
      · have hfin : (firsts 20 ss).take k = firsts 20 ss := List.take_of_length_le (by rw [firsts_length]; omega)
        rw [hfin] at hX
        have hki : (k : Int) < (len : Int) := by omega
        have hki20 : decide ((k : Int) < 20) = false := by rw [decide_eq_false_iff_not]; omega
        clear hfin HT
        have hth : (stOf (firsts 20 ss)).held ≤ 2180 := by have := take_held 20 ss 20; rwa [List.take_of_length_le (by rw [firsts_length]; omega)] at this
        have hfl : (firsts 20 ss).length ≤ 20 := by rw [firsts_length]; omega
        generalize firsts 20 ss = D at *
        generalize hun d = dd at *
        have HC := Lib.hid (fun (v : Value) (W : World) (h : Is (stOf D) w1.heap.size v W) => (stCut (stOf D) w1.heap.size v K W h (by show (0 : Int) ≠ 2; decide)))
        have HW : Hid (∀ v W, Is { stOf D with state := 1, keep := K } w1.heap.size v W → Calls Try.prog 9 #[.pointer (some ⟨w1.heap.size, 0, none⟩), .string dd] W fun e w' => e = .returned (.int .i64 31) ∧ Turns { St.tore { stOf D with state := 1, keep := K } ((J.rec dd.data.toList).take K) with state := 2, keep := 0 } w1.heap.size v W w') := Lib.hid (fun v W h => writeTorn _ w1.heap.size v dd K W h rfl rfl rfl (by omega) (by show _ + _ + 9 ≤ 1048576; have : St.held { stOf D with state := 1, keep := (K : Int) } = (stOf D).held := rfl; omega) hk)
        have HS := Lib.hid (fun (v : Value) (W : World) (h : Is { St.tore { stOf D with state := 1, keep := K } ((J.rec dd.data.toList).take K) with state := 2, keep := 0 } w1.heap.size v W) => snapDown { St.tore { stOf D with state := 1, keep := K } ((J.rec dd.data.toList).take K) with state := 2, keep := 0 } w1.heap.size v dd W h rfl)
        have HR : Hid (∀ v W, Is { St.tore { stOf D with state := 1, keep := K } ((J.rec dd.data.toList).take K) with state := 2, keep := 0 } w1.heap.size v W → Calls Try.prog 8 #[.pointer (some ⟨w1.heap.size, 0, none⟩)] W fun e w' => (∃ u, e = .returned (.tuple #[.string ⟨#[]⟩, u, .int .i64 0]) ∧ Texts w' u D ∧ ∀ g, u.ownBlock = some g → W.heap.size ≤ g) ∧ Shrinks (stOf D) w1.heap.size v W w') := Lib.hid (fun v W h => stRecover _ w1.heap.size v W h)
        have hh4 : (stOf D).held ≤ 2400 := by omega
        have hl4 : D.length ≤ 100000 := by first | omega | (simp; omega)
        have HZ := Lib.hid (fun (v : Value) (W : World) (h : Is (stOf D) w1.heap.size v W) => (writeYes (stOf D) w1.heap.size v ⟨#[122]⟩ W h rfl rfl (by decide) (by show _ + 1 + 9 ≤ 1048576; omega)))
        have HSM := Lib.hid (fun (a b : Value) (W : World) (ha : TextsO W a D) (hb : TextsO W b D) => by have h := refSame a b _ _ W ha hb hl4; rw [decide_eq_true rfl] at h; exact h)
        have hK0 : ¬ (K : Int) < 0 := by omega
        have hge : decide ((dd.size : Int) + 9 ≤ (K : Int)) = false := by rw [decide_eq_false_iff_not]; omega
        have HFL := Lib.hid hfl
        clear hth hfl hh4 hl4
        go_wp2_with (first
          | (go_at_call 11; refine (HC.out _ _ hX.st).mono ?_; rintro e w3 ⟨rfl, hT⟩; obtain ⟨v3, hX3, hb3⟩ := hX.turn hT; replace hB := hB.trans (hb3.mono hn1); clear hT hb3)
          | (go_at_call 9; have H := HW; refine (H.out _ _ hX3.st).mono ?_; clear H HW; rintro e w4 ⟨rfl, hT⟩; obtain ⟨v4, hX4, hb4⟩ := hX3.turn hT; replace hB := hB.trans (hb4.mono hn1); clear hT hb4)
          | (go_at_call 10; refine (HS.out _ _ hX4.st).mono ?_; rintro e w4 ⟨rfl, hT⟩; obtain ⟨v4', hX4', hb4⟩ := hX4.turn hT; replace hB := hB.trans (hb4.mono hn1); clear hT hb4)
          | (go_at_call 8; refine (HR.out _ _ hX4'.st).mono ?_; rintro e w5 ⟨⟨u, rfl, hTu, hfu⟩, hSh⟩; obtain ⟨v5, hX5, hfar, hb5⟩ := hX4'.shrink hSh u hfu; replace hB := hB.trans (hb5.mono hn1); clear hb5 hSh)
          | (go_at_call 16; refine (HSM.out _ _ _ hTu.toO (owns_textsO hX5.row).1).mono ?_; rintro e w7 ⟨rfl, hb7⟩; have hI7 := hX5.st.below hb7; replace hB := hB.trans (hb7.mono hB.size); clear hb7)
          | (go_at_call 9; refine (HZ.out _ _ hI7).mono ?_; rintro e w9 ⟨rfl, hT⟩; obtain ⟨_, _, hb9⟩ := hT.below hI7 (Nat.le_refl _); replace hB := hB.trans (hb9.mono hn1)))
        go_ret
        exact ⟨rfl, hB⟩
    · have hfin : (firsts 20 ss).take k = firsts 20 ss := List.take_of_length_le (by rw [firsts_length]; have := HL.out; omega)
      rw [hfin] at hX
      have hki : decide ((k : Int) < (len : Int)) = false := by rw [decide_eq_false_iff_not]; omega
      clear hfin HT
      have hth : (stOf (firsts 20 ss)).held ≤ 2180 := by have := take_held 20 ss 20; rwa [List.take_of_length_le (by rw [firsts_length]; omega)] at this
      have hfl : (firsts 20 ss).length ≤ 20 := by rw [firsts_length]; omega
      generalize firsts 20 ss = D at *
      generalize hun d = dd at *
      have HC := Lib.hid (fun (v : Value) (W : World) (h : Is (stOf D) w1.heap.size v W) => (stCut (stOf D) w1.heap.size v K W h (by show (0 : Int) ≠ 2; decide)))
      have HW : Hid (∀ v W, Is { stOf D with state := 1, keep := K } w1.heap.size v W → Calls Try.prog 9 #[.pointer (some ⟨w1.heap.size, 0, none⟩), .string dd] W fun e w' => e = .returned (.int .i64 31) ∧ Turns { St.tore { stOf D with state := 1, keep := K } ((J.rec dd.data.toList).take K) with state := 2, keep := 0 } w1.heap.size v W w') := Lib.hid (fun v W h => writeTorn _ w1.heap.size v dd K W h rfl rfl rfl (by omega) (by show _ + _ + 9 ≤ 1048576; have : St.held { stOf D with state := 1, keep := (K : Int) } = (stOf D).held := rfl; omega) hk)
      have HS := Lib.hid (fun (v : Value) (W : World) (h : Is { St.tore { stOf D with state := 1, keep := K } ((J.rec dd.data.toList).take K) with state := 2, keep := 0 } w1.heap.size v W) => snapDown { St.tore { stOf D with state := 1, keep := K } ((J.rec dd.data.toList).take K) with state := 2, keep := 0 } w1.heap.size v dd W h rfl)
      have HR : Hid (∀ v W, Is { St.tore { stOf D with state := 1, keep := K } ((J.rec dd.data.toList).take K) with state := 2, keep := 0 } w1.heap.size v W → Calls Try.prog 8 #[.pointer (some ⟨w1.heap.size, 0, none⟩)] W fun e w' => (∃ u, e = .returned (.tuple #[.string ⟨#[]⟩, u, .int .i64 0]) ∧ Texts w' u D ∧ ∀ g, u.ownBlock = some g → W.heap.size ≤ g) ∧ Shrinks (stOf D) w1.heap.size v W w') := Lib.hid (fun v W h => stRecover _ w1.heap.size v W h)
      have hh4 : (stOf D).held ≤ 2400 := by omega
      have hl4 : D.length ≤ 100000 := by first | omega | (simp; omega)
      have HZ := Lib.hid (fun (v : Value) (W : World) (h : Is (stOf D) w1.heap.size v W) => (writeYes (stOf D) w1.heap.size v ⟨#[122]⟩ W h rfl rfl (by decide) (by show _ + 1 + 9 ≤ 1048576; omega)))
      have HSM := Lib.hid (fun (a b : Value) (W : World) (ha : TextsO W a D) (hb : TextsO W b D) => by have h := refSame a b _ _ W ha hb hl4; rw [decide_eq_true rfl] at h; exact h)
      have hK0 : ¬ (K : Int) < 0 := by omega
      have hge : decide ((dd.size : Int) + 9 ≤ (K : Int)) = false := by rw [decide_eq_false_iff_not]; omega
      have HFL := Lib.hid hfl
      clear hth hfl hh4 hl4
      go_wp2_with (first
        | (go_at_call 11; refine (HC.out _ _ hX.st).mono ?_; rintro e w3 ⟨rfl, hT⟩; obtain ⟨v3, hX3, hb3⟩ := hX.turn hT; replace hB := hB.trans (hb3.mono hn1); clear hT hb3)
        | (go_at_call 9; have H := HW; refine (H.out _ _ hX3.st).mono ?_; clear H HW; rintro e w4 ⟨rfl, hT⟩; obtain ⟨v4, hX4, hb4⟩ := hX3.turn hT; replace hB := hB.trans (hb4.mono hn1); clear hT hb4)
        | (go_at_call 10; refine (HS.out _ _ hX4.st).mono ?_; rintro e w4 ⟨rfl, hT⟩; obtain ⟨v4', hX4', hb4⟩ := hX4.turn hT; replace hB := hB.trans (hb4.mono hn1); clear hT hb4)
        | (go_at_call 8; refine (HR.out _ _ hX4'.st).mono ?_; rintro e w5 ⟨⟨u, rfl, hTu, hfu⟩, hSh⟩; obtain ⟨v5, hX5, hfar, hb5⟩ := hX4'.shrink hSh u hfu; replace hB := hB.trans (hb5.mono hn1); clear hb5 hSh)
        | (go_at_call 16; refine (HSM.out _ _ _ hTu.toO (owns_textsO hX5.row).1).mono ?_; rintro e w7 ⟨rfl, hb7⟩; have hI7 := hX5.st.below hb7; replace hB := hB.trans (hb7.mono hB.size); clear hb7)
        | (go_at_call 9; refine (HZ.out _ _ hI7).mono ?_; rintro e w9 ⟨rfl, hT⟩; obtain ⟨_, _, hb9⟩ := hT.below hI7 (Nat.le_refl _); replace hB := hB.trans (hb9.mono hn1)))
      go_ret
      exact ⟨rfl, hB⟩

set_option maxRecDepth 100000 in
set_option maxHeartbeats 4000000 in
theorem cutsWhole (v : Value) (ss : List ByteArray) (d : ByteArray) (K : Nat) (hk : (hun d).size + 9 ≤ K) (w : World) (hT : TextsA w v ss) (hss : ss.length ≤ maxLen) (hdm : d.size ≤ maxLen) : Calls Try.prog 5 #[v, .string d, .int .i64 (K : Int)] w fun e w' => e = .returned (.bool true) ∧ Below w.heap.size w w' := by
  have hform : ∃ a c, v = .slice a ss.length c := by
    rcases hT with ⟨rfl, rfl⟩ | ⟨a, c, rfl, _⟩
    · exact ⟨_, _, rfl⟩
    · exact ⟨_, _, rfl⟩
  obtain ⟨a, c, rfl⟩ := hform
  obtain ⟨len, hlen⟩ : ∃ len, ss.length = len := ⟨_, rfl⟩
  have HT := Lib.hid hT
  have HL := Lib.hid hlen
  have hdd : d.extract 0 (min (d.size : Int) 100).toNat = hun d := rfl
  have hds := hun_size d
  rw [hlen] at hss ⊢
  clear hT hlen
  have hdm1 : min (d.size : Int) 100 ≤ (d.size : Int) := by omega
  have hdm0 : (0 : Int) ≤ min (d.size : Int) 100 := by omega
  have hdmn : decide (min (d.size : Int) 100 < 0) = false := by rw [decide_eq_false_iff_not]; omega
  have hdmx : decide ((d.size : Int) < min (d.size : Int) 100) = false := by rw [decide_eq_false_iff_not]; omega
  go_enter Try.func5, Try.ntmps5
  go_wp2_with (first
    | (go_at_call 7; refine (lawShown _).mono ?_; rintro e w1 ⟨rfl, hb1⟩)
    | (go_at_call 14; refine (new_most.out _).mono ?_; rintro e w2 ⟨rfl, hI2, hb2⟩))
  clear hdm1 hdm0 hdmn hdmx hdd
  have hn1 := hb1.size
  have hB2 : Below w.heap.size w w2 := hb1.trans (hb2.mono hn1)
  go_loopw [10, 11] (fun vw i W => ∃ (k : Nat) (vs : Value), k ≤ len ∧ k ≤ 20 ∧ i = .int .i64 k ∧ Two (stOf ((firsts 20 ss).take k)) w1.heap.size vs ((firsts 20 ss).take k) vw W ∧ Below w.heap.size w W) (fun _ i _ => 20 - (intOf i).toNat)
  case atStart => exact ⟨0, _, Nat.zero_le _, Nat.zero_le _, rfl, Two.start hI2, hB2⟩
  case round =>
    obtain ⟨k, vs, hk', hk20, rfl, hX, hB⟩ := hrel
    by_cases hlt : k < len
    · by_cases h20 : k < 20
      · have hkl : k < ss.length := by rw [HL.out]; exact hlt
        have HW := Lib.hid (fun (W : World) (h : Is (stOf ((firsts 20 ss).take k)) w1.heap.size vs W) => writeNext 20 (by decide) ss k hkl h20 w1.heap.size vs W h)
        rcases HT.out with ⟨h0, h1⟩ | ⟨ad, c', h0, hx⟩
        · have := HL.out; rw [h1] at this; simp at this; omega
        simp only [Value.slice.injEq] at h0
        obtain ⟨rfl, _, rfl⟩ := h0
        have hcell : wr.cell? (ad.add k) = some (.string ss[k]) := (hB.cell (p := ad.add k) (by rw [add_block]; exact cell_block (hx k hkl))).trans (hx k hkl)
        have hun' : ss[k].extract 0 (min (ss[k].size : Int) 100).toNat = hun ss[k] := rfl
        have hstep := firsts_step 20 ss k hkl h20
        have hfk : ((firsts 20 ss).take k).length ≤ 1000 := by rw [List.length_take]; omega
        have HFK := Lib.hid hfk
        have HST := Lib.hid hstep
        have HUN := Lib.hid (txt_data (hun ss[k]))
        generalize hun ss[k] = hx' at *
        generalize ss[k] = x at *
        clear hstep hfk
        have hm1 : min (x.size : Int) 100 ≤ (x.size : Int) := by omega
        have hm0 : (0 : Int) ≤ min (x.size : Int) 100 := by omega
        have hmn : decide (min (x.size : Int) 100 < 0) = false := by rw [decide_eq_false_iff_not]; omega
        have hmx : decide ((x.size : Int) < min (x.size : Int) 100) = false := by rw [decide_eq_false_iff_not]; omega
        have hki : (k : Int) < (len : Int) := by omega
        have hki20 : (k : Int) < 20 := by omega
        go_wp2
        go_quiet (fail)
        have hXq := hX.below (below_drewN (Below.refl wr.heap.size wr) nq)
        have hBq := below_drewN hB nq
        go_wp2_with (first
          | (go_at_call 9; refine (HW.out _ hXq.st).mono ?_; rintro e w3 ⟨rfl, hT⟩; obtain ⟨v3, hX3, hb3⟩ := hXq.turn hT; replace hBq := hBq.trans (hb3.mono hn1); clear hT hb3)
          | (at_builtin; refine wpList_append_two' rfl _ _ rfl rfl hX3 rfl HFK.out ?_; intro vw4 w4 hX4 hb4 _; replace hBq := hBq.trans (hb4.mono hn1)))
        go_roundw
        case rel => exact ⟨k + 1, v3, by omega, by omega, by go_num, by rw [HST.out] at hX4 ⊢; exact hX4, hBq⟩
        case measure => simp [intOf]; omega
      · have hfin : (firsts 20 ss).take k = firsts 20 ss := List.take_of_length_le (by rw [firsts_length]; omega)
        rw [hfin] at hX
        have hki : (k : Int) < (len : Int) := by omega
        have hki20 : decide ((k : Int) < 20) = false := by rw [decide_eq_false_iff_not]; omega
        clear hfin HT
        have hth : (stOf (firsts 20 ss)).held ≤ 2180 := by have := take_held 20 ss 20; rwa [List.take_of_length_le (by rw [firsts_length]; omega)] at this
        have hfl : (firsts 20 ss).length ≤ 20 := by rw [firsts_length]; omega
        generalize firsts 20 ss = D at *
        generalize hun d = dd at *
        have HC := Lib.hid (fun (v : Value) (W : World) (h : Is (stOf D) w1.heap.size v W) => (stCut (stOf D) w1.heap.size v K W h (by show (0 : Int) ≠ 2; decide)))
        have HW : Hid (∀ v W, Is { stOf D with state := 1, keep := K } w1.heap.size v W → Calls Try.prog 9 #[.pointer (some ⟨w1.heap.size, 0, none⟩), .string dd] W fun e w' => e = .returned (.int .i64 31) ∧ Turns { St.wrote { stOf D with state := 1, keep := K } dd.data.toList with state := 2, keep := 0 } w1.heap.size v W w') := Lib.hid (fun v W h => writeWhole _ w1.heap.size v dd K W h rfl rfl rfl (by omega) (by show _ + _ + 9 ≤ 1048576; have : St.held { stOf D with state := 1, keep := (K : Int) } = (stOf D).held := rfl; omega) hk)
        have HS := Lib.hid (fun (v : Value) (W : World) (h : Is { St.wrote { stOf D with state := 1, keep := K } dd.data.toList with state := 2, keep := 0 } w1.heap.size v W) => snapDown { St.wrote { stOf D with state := 1, keep := K } dd.data.toList with state := 2, keep := 0 } w1.heap.size v dd W h rfl)
        have HR : Hid (∀ v W, Is { St.wrote { stOf D with state := 1, keep := K } dd.data.toList with state := 2, keep := 0 } w1.heap.size v W → Calls Try.prog 8 #[.pointer (some ⟨w1.heap.size, 0, none⟩)] W fun e w' => (∃ u, e = .returned (.tuple #[.string ⟨#[]⟩, u, .int .i64 0]) ∧ Texts w' u (D ++ [dd.data.toList]) ∧ ∀ g, u.ownBlock = some g → W.heap.size ≤ g) ∧ Shrinks (stOf (D ++ [dd.data.toList])) w1.heap.size v W w') := Lib.hid (fun v W h => stRecover _ w1.heap.size v W h)
        have hh4 : (stOf (D ++ [dd.data.toList])).held ≤ 2400 := by have := wrote_held (stOf D) dd.data.toList rfl; rw [stOf_wrote, dlen] at this; omega
        have hl4 : (D ++ [dd.data.toList]).length ≤ 100000 := by first | omega | (simp; omega)
        have HZ := Lib.hid (fun (v : Value) (W : World) (h : Is (stOf (D ++ [dd.data.toList])) w1.heap.size v W) => (writeYes (stOf (D ++ [dd.data.toList])) w1.heap.size v ⟨#[122]⟩ W h rfl rfl (by decide) (by show _ + 1 + 9 ≤ 1048576; omega)))
        have HSM := Lib.hid (fun (a b : Value) (W : World) (ha : TextsO W a (D ++ [dd.data.toList])) (hb : TextsO W b (D ++ [dd.data.toList])) => by have h := refSame a b _ _ W ha hb hl4; rw [decide_eq_true rfl] at h; exact h)
        have hK0 : ¬ (K : Int) < 0 := by omega
        have hge : decide ((dd.size : Int) + 9 ≤ (K : Int)) = true := by rw [decide_eq_true_iff]; omega
        have HFL := Lib.hid hfl
        clear hth hfl hh4 hl4
        go_wp2_with (first
          | (go_at_call 11; refine (HC.out _ _ hX.st).mono ?_; rintro e w3 ⟨rfl, hT⟩; obtain ⟨v3, hX3, hb3⟩ := hX.turn hT; replace hB := hB.trans (hb3.mono hn1); clear hT hb3)
          | (go_at_call 9; have H := HW; refine (H.out _ _ hX3.st).mono ?_; clear H HW; rintro e w4 ⟨rfl, hT⟩; obtain ⟨v4, hX4, hb4⟩ := hX3.turn hT; replace hB := hB.trans (hb4.mono hn1); clear hT hb4)
          | (go_at_call 10; refine (HS.out _ _ hX4.st).mono ?_; rintro e w4 ⟨rfl, hT⟩; obtain ⟨v4', hX4', hb4⟩ := hX4.turn hT; replace hB := hB.trans (hb4.mono hn1); clear hT hb4)
          | (go_at_call 8; refine (HR.out _ _ hX4'.st).mono ?_; rintro e w5 ⟨⟨u, rfl, hTu, hfu⟩, hSh⟩; obtain ⟨v5, hX5, hfar, hb5⟩ := hX4'.shrink hSh u hfu; replace hB := hB.trans (hb5.mono hn1); clear hb5 hSh)
          | (at_builtin; refine wpList_append_two' rfl _ _ rfl rfl hX5 rfl (by have := HFL.out; omega) ?_; intro vw6 w6 hX6 hb6 hP6; replace hTu := hP6 _ _ hTu (fun g hg => (hfar g hg).1); replace hB := hB.trans (hb6.mono hn1))
          | (go_at_call 16; refine (HSM.out _ _ _ hTu.toO (owns_textsO hX6.row).1).mono ?_; rintro e w7 ⟨rfl, hb7⟩; have hI7 := hX6.st.below hb7; replace hB := hB.trans (hb7.mono hB.size); clear hb7)
          | (go_at_call 9; refine (HZ.out _ _ hI7).mono ?_; rintro e w9 ⟨rfl, hT⟩; obtain ⟨_, _, hb9⟩ := hT.below hI7 (Nat.le_refl _); replace hB := hB.trans (hb9.mono hn1)))
        go_ret
        exact ⟨rfl, hB⟩
    · have hfin : (firsts 20 ss).take k = firsts 20 ss := List.take_of_length_le (by rw [firsts_length]; have := HL.out; omega)
      rw [hfin] at hX
      have hki : decide ((k : Int) < (len : Int)) = false := by rw [decide_eq_false_iff_not]; omega
      clear hfin HT
      have hth : (stOf (firsts 20 ss)).held ≤ 2180 := by have := take_held 20 ss 20; rwa [List.take_of_length_le (by rw [firsts_length]; omega)] at this
      have hfl : (firsts 20 ss).length ≤ 20 := by rw [firsts_length]; omega
      generalize firsts 20 ss = D at *
      generalize hun d = dd at *
      have HC := Lib.hid (fun (v : Value) (W : World) (h : Is (stOf D) w1.heap.size v W) => (stCut (stOf D) w1.heap.size v K W h (by show (0 : Int) ≠ 2; decide)))
      have HW : Hid (∀ v W, Is { stOf D with state := 1, keep := K } w1.heap.size v W → Calls Try.prog 9 #[.pointer (some ⟨w1.heap.size, 0, none⟩), .string dd] W fun e w' => e = .returned (.int .i64 31) ∧ Turns { St.wrote { stOf D with state := 1, keep := K } dd.data.toList with state := 2, keep := 0 } w1.heap.size v W w') := Lib.hid (fun v W h => writeWhole _ w1.heap.size v dd K W h rfl rfl rfl (by omega) (by show _ + _ + 9 ≤ 1048576; have : St.held { stOf D with state := 1, keep := (K : Int) } = (stOf D).held := rfl; omega) hk)
      have HS := Lib.hid (fun (v : Value) (W : World) (h : Is { St.wrote { stOf D with state := 1, keep := K } dd.data.toList with state := 2, keep := 0 } w1.heap.size v W) => snapDown { St.wrote { stOf D with state := 1, keep := K } dd.data.toList with state := 2, keep := 0 } w1.heap.size v dd W h rfl)
      have HR : Hid (∀ v W, Is { St.wrote { stOf D with state := 1, keep := K } dd.data.toList with state := 2, keep := 0 } w1.heap.size v W → Calls Try.prog 8 #[.pointer (some ⟨w1.heap.size, 0, none⟩)] W fun e w' => (∃ u, e = .returned (.tuple #[.string ⟨#[]⟩, u, .int .i64 0]) ∧ Texts w' u (D ++ [dd.data.toList]) ∧ ∀ g, u.ownBlock = some g → W.heap.size ≤ g) ∧ Shrinks (stOf (D ++ [dd.data.toList])) w1.heap.size v W w') := Lib.hid (fun v W h => stRecover _ w1.heap.size v W h)
      have hh4 : (stOf (D ++ [dd.data.toList])).held ≤ 2400 := by have := wrote_held (stOf D) dd.data.toList rfl; rw [stOf_wrote, dlen] at this; omega
      have hl4 : (D ++ [dd.data.toList]).length ≤ 100000 := by first | omega | (simp; omega)
      have HZ := Lib.hid (fun (v : Value) (W : World) (h : Is (stOf (D ++ [dd.data.toList])) w1.heap.size v W) => (writeYes (stOf (D ++ [dd.data.toList])) w1.heap.size v ⟨#[122]⟩ W h rfl rfl (by decide) (by show _ + 1 + 9 ≤ 1048576; omega)))
      have HSM := Lib.hid (fun (a b : Value) (W : World) (ha : TextsO W a (D ++ [dd.data.toList])) (hb : TextsO W b (D ++ [dd.data.toList])) => by have h := refSame a b _ _ W ha hb hl4; rw [decide_eq_true rfl] at h; exact h)
      have hK0 : ¬ (K : Int) < 0 := by omega
      have hge : decide ((dd.size : Int) + 9 ≤ (K : Int)) = true := by rw [decide_eq_true_iff]; omega
      have HFL := Lib.hid hfl
      clear hth hfl hh4 hl4
      go_wp2_with (first
        | (go_at_call 11; refine (HC.out _ _ hX.st).mono ?_; rintro e w3 ⟨rfl, hT⟩; obtain ⟨v3, hX3, hb3⟩ := hX.turn hT; replace hB := hB.trans (hb3.mono hn1); clear hT hb3)
        | (go_at_call 9; have H := HW; refine (H.out _ _ hX3.st).mono ?_; clear H HW; rintro e w4 ⟨rfl, hT⟩; obtain ⟨v4, hX4, hb4⟩ := hX3.turn hT; replace hB := hB.trans (hb4.mono hn1); clear hT hb4)
        | (go_at_call 10; refine (HS.out _ _ hX4.st).mono ?_; rintro e w4 ⟨rfl, hT⟩; obtain ⟨v4', hX4', hb4⟩ := hX4.turn hT; replace hB := hB.trans (hb4.mono hn1); clear hT hb4)
        | (go_at_call 8; refine (HR.out _ _ hX4'.st).mono ?_; rintro e w5 ⟨⟨u, rfl, hTu, hfu⟩, hSh⟩; obtain ⟨v5, hX5, hfar, hb5⟩ := hX4'.shrink hSh u hfu; replace hB := hB.trans (hb5.mono hn1); clear hb5 hSh)
        | (at_builtin; refine wpList_append_two' rfl _ _ rfl rfl hX5 rfl (by have := HFL.out; omega) ?_; intro vw6 w6 hX6 hb6 hP6; replace hTu := hP6 _ _ hTu (fun g hg => (hfar g hg).1); replace hB := hB.trans (hb6.mono hn1))
        | (go_at_call 16; refine (HSM.out _ _ _ hTu.toO (owns_textsO hX6.row).1).mono ?_; rintro e w7 ⟨rfl, hb7⟩; have hI7 := hX6.st.below hb7; replace hB := hB.trans (hb7.mono hB.size); clear hb7)
        | (go_at_call 9; refine (HZ.out _ _ hI7).mono ?_; rintro e w9 ⟨rfl, hT⟩; obtain ⟨_, _, hb9⟩ := hT.below hI7 (Nat.le_refl _); replace hB := hB.trans (hb9.mono hn1)))
      go_ret
      exact ⟨rfl, hB⟩
theorem lawCuts (v : Value) (ss : List ByteArray) (d : ByteArray) (keep : Int) (w : World) (hT : TextsA w v ss) (hss : ss.length ≤ maxLen) (hdm : d.size ≤ maxLen) : Calls Try.prog 5 #[v, .string d, .int .i64 keep] w fun e w' => e = .returned (.bool true) ∧ Below w.heap.size w w' := by
  by_cases h : keep < 0
  · exact cutsNo v ss d keep h w hT hss hdm
  · obtain ⟨K, rfl⟩ := Int.eq_ofNat_of_zero_le (show 0 ≤ keep by omega)
    by_cases hk : K < (hun d).size + 9
    · exact cutsTorn v ss d K hk w hT hss hdm
    · exact cutsWhole v ss d K (by omega) w hT hss hdm
end Go.Proofs.Ytfbponiiejanfaa
