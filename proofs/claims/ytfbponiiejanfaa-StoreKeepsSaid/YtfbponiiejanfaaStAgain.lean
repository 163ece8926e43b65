/-
  Layer 4's law StoreAgain: walked.
-/
import Derived.Test.YtfbponiiejanfaaStTexts
import Derived.LoopTactic
import Derived.Deep.RegionHeld3
namespace Go.Proofs.Ytfbponiiejanfaa
open Go.RowKit Go.Shelf
attribute [local go_sem] Oper.semAt_some
set_option linter.unusedVariables false
set_option linter.unusedSimpArgs false

theorem new_most : Hid (∀ W, Calls Try.prog 14 #[.int .i64 1048576] W fun e w' => e = .returned (.tuple #[.pointer (some ⟨W.heap.size, 0, none⟩), .int .i64 0]) ∧ Is (stOf []) W.heap.size (.slice none 0 0) w' ∧ Below W.heap.size W w') := Lib.hid (fun W => stNew 1048576 (by decide) (by decide) W)

set_option maxRecDepth 100000 in
set_option maxHeartbeats 4000000 in
theorem againNo (v : Value) (ss : List ByteArray) (keep : Int) (hk : keep < 0) (w : World) (hT : TextsA w v ss) (hss : ss.length ≤ maxLen) : Calls Try.prog 6 #[v, .int .i64 keep] w fun e w' => e = .returned (.bool true) ∧ Below w.heap.size w w' := by
  have hform : ∃ a c, v = .slice a ss.length c := by
    rcases hT with ⟨rfl, rfl⟩ | ⟨a, c, rfl, _⟩
    · exact ⟨_, _, rfl⟩
    · exact ⟨_, _, rfl⟩
  obtain ⟨a, c, rfl⟩ := hform
  obtain ⟨len, hlen⟩ : ∃ len, ss.length = len := ⟨_, rfl⟩
  have HT := Lib.hid hT
  have HL := Lib.hid hlen
  rw [hlen] at hss ⊢
  clear hT hlen
  go_enter Try.func6, Try.ntmps6
  go_wp2_with (first
    | (go_at_call 7; refine (lawShown _).mono ?_; rintro e w1 ⟨rfl, hb1⟩)
    | (go_at_call 14; refine (new_most.out _).mono ?_; rintro e w2 ⟨rfl, hI2, hb2⟩))
  have hn1 := hb1.size
  have hB2 : Below w.heap.size w w2 := hb1.trans (hb2.mono hn1)
  have HC := Lib.hid (fun (v : Value) (W : World) (h : Is (stOf (firsts 20 ss)) w1.heap.size v W) => (stCutNo (stOf (firsts 20 ss)) w1.heap.size v keep W h (by show (0 : Int) ≠ 2; decide) hk).mono fun e w' ⟨h1, h2⟩ => (⟨h1, by subst h2; exact ⟨v, h, Below.refl _ _⟩⟩ : _ ∧ Nx (stOf (firsts 20 ss)) w1.heap.size w1.heap.size W w'))
  go_loopw [8] (fun i W => ∃ (k : Nat) (vs : Value), k ≤ len ∧ k ≤ 20 ∧ i = .int .i64 k ∧ Is (stOf ((firsts 20 ss).take k)) w1.heap.size vs W ∧ Below w.heap.size w W) (fun i _ => 20 - (intOf i).toNat)
  case atStart => exact ⟨0, _, Nat.zero_le _, Nat.zero_le _, rfl, hI2, hB2⟩
  case round =>
    obtain ⟨k, vs, hk, hk20, rfl, hI, hB⟩ := hrel
    by_cases hlt : k < len
    · by_cases h20 : k < 20
      · have hkl : k < ss.length := by rw [HL.out]; exact hlt
        have HW := Lib.hid (fun (W : World) (h : Is (stOf ((firsts 20 ss).take k)) w1.heap.size vs W) => writeNext 20 (by decide) ss k hkl h20 w1.heap.size vs W h)
        rcases HT.out with ⟨h0, h1⟩ | ⟨ad, c', h0, hx⟩
        · have := HL.out; rw [h1] at this; simp at this; omega
        simp only [Value.slice.injEq] at h0
        obtain ⟨rfl, _, rfl⟩ := h0
        have hcell : wr.cell? (ad.add k) = some (.string ss[k]) := (hB.cell (p := ad.add k) (by rw [add_block]; exact cell_block (hx k hkl))).trans (hx k hkl)
        have hun' : hun ss[k] = ss[k].extract 0 (min (ss[k].size : Int) 100).toNat := rfl
        rw [hun'] at HW
        have hks := hx k hkl
        generalize ss[k] = x at *
        clear hun'
        have hm1 : min (x.size : Int) 100 ≤ (x.size : Int) := by omega
        have hm0 : (0 : Int) ≤ min (x.size : Int) 100 := by omega
        have hmn : decide (min (x.size : Int) 100 < 0) = false := by rw [decide_eq_false_iff_not]; omega
        have hmx : decide ((x.size : Int) < min (x.size : Int) 100) = false := by rw [decide_eq_false_iff_not]; omega
        have hki : (k : Int) < (len : Int) := by omega
        have hki20 : (k : Int) < 20 := by omega
        have hcd : wr.drew.cell? (ad.add k) = some (.string x) := hcell
        have hblk : (ad.add k).block < w.heap.size := by rw [add_block]; exact cell_block hks
        go_wp2
        go_region_held3 (fun W => W.cell? (ad.add k) = some (.string x)) (first | exact hcd | exact (hBq.cell hblk).trans hks | go_keep) ((go_at_call 9; refine (HW.out _ hI.drew).mono ?_; rintro e wq ⟨rfl, hTq⟩; obtain ⟨vq, hIq, hbq⟩ := hTq.below hI.drew (Nat.le_refl _); have hBq := hB.trans ((Below.refl _ wr).drew.mono hB.size |>.trans (hbq.mono hn1))))
        all_goals (go_wp2; go_roundw)
        case rel => exact ⟨k + 1, vq, by omega, by omega, by go_num, hIq, hBq⟩
        case measure => simp [intOf]; omega
      · have hfin : (firsts 20 ss).take k = firsts 20 ss := List.take_of_length_le (by rw [firsts_length]; omega)
        rw [hfin] at hI
        have hki : (k : Int) < (len : Int) := by omega
        have hki20 : decide ((k : Int) < 20) = false := by rw [decide_eq_false_iff_not]; omega
        clear hfin HT
        have HH1 := Lib.hid (fun (v : Value) (W : World) (h : Is (stOf (firsts 20 ss)) w1.heap.size v W) => stHolds _ _ v W h)
        have HH2 := HH1
        have HR1 := Lib.hid (fun (v : Value) (W : World) (h : Is (stOf (firsts 20 ss)) w1.heap.size v W) => (stRecover (stOf (firsts 20 ss)) w1.heap.size v W h).mono fun e w' ⟨⟨u, h1, h2, h3⟩, h4⟩ => (⟨⟨u, h1, h2, h3⟩, h4⟩ : (∃ u, e = Ending.returned (.tuple #[.string ⟨#[]⟩, u, .int .i64 0]) ∧ Texts w' u (firsts 20 ss) ∧ ∀ g, u.ownBlock = some g → W.heap.size ≤ g) ∧ Shrinks (stOf (firsts 20 ss)) w1.heap.size v W w'))
        have HR2 := Lib.hid (fun (v : Value) (W : World) (h : Is (stOf (firsts 20 ss)) w1.heap.size v W) => (stRecover (stOf (firsts 20 ss)) w1.heap.size v W h).mono fun e w' ⟨⟨u, h1, h2, h3⟩, h4⟩ => (⟨⟨u, h1, h2, h3⟩, h4⟩ : (∃ u, e = Ending.returned (.tuple #[.string ⟨#[]⟩, u, .int .i64 0]) ∧ Texts w' u (firsts 20 ss) ∧ ∀ g, u.ownBlock = some g → W.heap.size ≤ g) ∧ Shrinks (stOf (firsts 20 ss)) w1.heap.size v W w'))
        have hth : (stOf (firsts 20 ss)).held ≤ 2180 := by have := take_held 20 ss 20; rwa [List.take_of_length_le (by rw [firsts_length]; omega)] at this
        have hfl : (firsts 20 ss).length ≤ 100000 := by rw [firsts_length]; omega
        have HZ := Lib.hid (fun (v : Value) (W : World) (h : Is (stOf (firsts 20 ss)) w1.heap.size v W) => (writeYes (stOf (firsts 20 ss)) w1.heap.size v ⟨#[122]⟩ W h rfl rfl (by decide) (by show _ + 1 + 9 ≤ 1048576; omega)).mono fun e w' ⟨h1, h2⟩ => (⟨h1, h2.nx h (Nat.le_refl _)⟩ : _ ∧ Nx ((stOf (firsts 20 ss)).wrote [122]) w1.heap.size w1.heap.size W w'))
        have HSM := Lib.hid (fun (a b : Value) (W : World) (ha : TextsO W a (firsts 20 ss)) (hb : TextsO W b (firsts 20 ss)) => by have h := refSame a b _ _ W ha hb hfl; rw [decide_eq_true rfl] at h; exact h)
        clear hth hfl
        generalize firsts 20 ss = D at *
        go_wp2_with (first
          | (go_at_call 12; have H := HH1; refine (H.out _ _ hI).mono ?_; clear H HH1; rintro e w3 ⟨rfl, rfl⟩)
          | (go_at_call 11; refine (HC.out _ _ hI).mono ?_; rintro e w4 ⟨rfl, v4, hI4, hb4⟩; replace hB := hB.trans (hb4.mono hn1); clear hb4 HC)
          | (go_at_call 8; have H := HR1; refine (H.out _ _ hI4).mono ?_; clear H HR1; rintro e w5 ⟨⟨x, rfl, hTx, hfx⟩, hSh⟩; obtain ⟨_, _, hb5⟩ := hSh.turns.below hI4 (Nat.le_refl _); obtain ⟨v5, hI5, hv5, hS5⟩ := hSh; replace hB := hB.trans (hb5.mono hn1); clear hb5
             have hx5 : ∀ g, x.ownBlock = some g → g ≠ w1.heap.size ∧ v5.ownBlock ≠ some g := fun g hg => ⟨by have := hfx g hg; have := hI4.lt; omega, fun e => by have := (owns_base hI4.own g (hv5 g e)).2; have := hfx g hg; omega⟩)
          | (go_at_call 8; have H := HR2; refine (H.out _ _ hI5).mono ?_; clear H HR2; rintro e w6 ⟨⟨y, rfl, hTy, hfy⟩, hSh⟩; obtain ⟨_, _, hb6⟩ := hSh.turns.below hI5 (Nat.le_refl _); obtain ⟨v6, hI6, hv6, hS6⟩ := hSh; replace hB := hB.trans (hb6.mono hn1); clear hb6; have hTx6 := hTx.still hS6 hx5)
          | (go_at_call 16; refine (HSM.out _ _ _ hTx6.toO hTy.toO).mono ?_; rintro e w7 ⟨rfl, hb7⟩; have hI7 := hI6.below hb7; replace hB := hB.trans (hb7.mono hB.size); clear hb7)
          | (go_at_call 12; have H := HH2; refine (H.out _ _ hI7).mono ?_; clear H HH2; rintro e w8 ⟨rfl, rfl⟩)
          | (go_at_call 9; refine (HZ.out _ _ hI7).mono ?_; rintro e w9 ⟨rfl, v9, hI9, hb9⟩; replace hB := hB.trans (hb9.mono hn1)))
        go_ret
        exact ⟨rfl, hB⟩
    · have hfin : (firsts 20 ss).take k = firsts 20 ss := List.take_of_length_le (by rw [firsts_length]; have := HL.out; omega)
      rw [hfin] at hI
      have hki : decide ((k : Int) < (len : Int)) = false := by rw [decide_eq_false_iff_not]; omega
      clear hfin HT
      have HH1 := Lib.hid (fun (v : Value) (W : World) (h : Is (stOf (firsts 20 ss)) w1.heap.size v W) => stHolds _ _ v W h)
      have HH2 := HH1
      have HR1 := Lib.hid (fun (v : Value) (W : World) (h : Is (stOf (firsts 20 ss)) w1.heap.size v W) => (stRecover (stOf (firsts 20 ss)) w1.heap.size v W h).mono fun e w' ⟨⟨u, h1, h2, h3⟩, h4⟩ => (⟨⟨u, h1, h2, h3⟩, h4⟩ : (∃ u, e = Ending.returned (.tuple #[.string ⟨#[]⟩, u, .int .i64 0]) ∧ Texts w' u (firsts 20 ss) ∧ ∀ g, u.ownBlock = some g → W.heap.size ≤ g) ∧ Shrinks (stOf (firsts 20 ss)) w1.heap.size v W w'))
      have HR2 := Lib.hid (fun (v : Value) (W : World) (h : Is (stOf (firsts 20 ss)) w1.heap.size v W) => (stRecover (stOf (firsts 20 ss)) w1.heap.size v W h).mono fun e w' ⟨⟨u, h1, h2, h3⟩, h4⟩ => (⟨⟨u, h1, h2, h3⟩, h4⟩ : (∃ u, e = Ending.returned (.tuple #[.string ⟨#[]⟩, u, .int .i64 0]) ∧ Texts w' u (firsts 20 ss) ∧ ∀ g, u.ownBlock = some g → W.heap.size ≤ g) ∧ Shrinks (stOf (firsts 20 ss)) w1.heap.size v W w'))
      have hth : (stOf (firsts 20 ss)).held ≤ 2180 := by have := take_held 20 ss 20; rwa [List.take_of_length_le (by rw [firsts_length]; omega)] at this
      have hfl : (firsts 20 ss).length ≤ 100000 := by rw [firsts_length]; omega
      have HZ := Lib.hid (fun (v : Value) (W : World) (h : Is (stOf (firsts 20 ss)) w1.heap.size v W) => (writeYes (stOf (firsts 20 ss)) w1.heap.size v ⟨#[122]⟩ W h rfl rfl (by decide) (by show _ + 1 + 9 ≤ 1048576; omega)).mono fun e w' ⟨h1, h2⟩ => (⟨h1, h2.nx h (Nat.le_refl _)⟩ : _ ∧ Nx ((stOf (firsts 20 ss)).wrote [122]) w1.heap.size w1.heap.size W w'))
      have HSM := Lib.hid (fun (a b : Value) (W : World) (ha : TextsO W a (firsts 20 ss)) (hb : TextsO W b (firsts 20 ss)) => by have h := refSame a b _ _ W ha hb hfl; rw [decide_eq_true rfl] at h; exact h)
      clear hth hfl
      generalize firsts 20 ss = D at *
      go_wp2_with (first
        | (go_at_call 12; have H := HH1; refine (H.out _ _ hI).mono ?_; clear H HH1; rintro e w3 ⟨rfl, rfl⟩)
        | (go_at_call 11; refine (HC.out _ _ hI).mono ?_; rintro e w4 ⟨rfl, v4, hI4, hb4⟩; replace hB := hB.trans (hb4.mono hn1); clear hb4 HC)
        | (go_at_call 8; have H := HR1; refine (H.out _ _ hI4).mono ?_; clear H HR1; rintro e w5 ⟨⟨x, rfl, hTx, hfx⟩, hSh⟩; obtain ⟨_, _, hb5⟩ := hSh.turns.below hI4 (Nat.le_refl _); obtain ⟨v5, hI5, hv5, hS5⟩ := hSh; replace hB := hB.trans (hb5.mono hn1); clear hb5
           have hx5 : ∀ g, x.ownBlock = some g → g ≠ w1.heap.size ∧ v5.ownBlock ≠ some g := fun g hg => ⟨by have := hfx g hg; have := hI4.lt; omega, fun e => by have := (owns_base hI4.own g (hv5 g e)).2; have := hfx g hg; omega⟩)
        | (go_at_call 8; have H := HR2; refine (H.out _ _ hI5).mono ?_; clear H HR2; rintro e w6 ⟨⟨y, rfl, hTy, hfy⟩, hSh⟩; obtain ⟨_, _, hb6⟩ := hSh.turns.below hI5 (Nat.le_refl _); obtain ⟨v6, hI6, hv6, hS6⟩ := hSh; replace hB := hB.trans (hb6.mono hn1); clear hb6; have hTx6 := hTx.still hS6 hx5)
        | (go_at_call 16; refine (HSM.out _ _ _ hTx6.toO hTy.toO).mono ?_; rintro e w7 ⟨rfl, hb7⟩; have hI7 := hI6.below hb7; replace hB := hB.trans (hb7.mono hB.size); clear hb7)
        | (go_at_call 12; have H := HH2; refine (H.out _ _ hI7).mono ?_; clear H HH2; rintro e w8 ⟨rfl, rfl⟩)
        | (go_at_call 9; refine (HZ.out _ _ hI7).mono ?_; rintro e w9 ⟨rfl, v9, hI9, hb9⟩; replace hB := hB.trans (hb9.mono hn1)))
      go_ret
      exact ⟨rfl, hB⟩

set_option maxRecDepth 100000 in
set_option maxHeartbeats 4000000 in
theorem againCut (v : Value) (ss : List ByteArray) (K : Nat) (w : World) (hT : TextsA w v ss) (hss : ss.length ≤ maxLen) : Calls Try.prog 6 #[v, .int .i64 (K : Int)] w fun e w' => e = .returned (.bool true) ∧ Below w.heap.size w w' := by
  have hform : ∃ a c, v = .slice a ss.length c := by
    rcases hT with ⟨rfl, rfl⟩ | ⟨a, c, rfl, _⟩
    · exact ⟨_, _, rfl⟩
    · exact ⟨_, _, rfl⟩
  obtain ⟨a, c, rfl⟩ := hform
  obtain ⟨len, hlen⟩ : ∃ len, ss.length = len := ⟨_, rfl⟩
  have HT := Lib.hid hT
  have HL := Lib.hid hlen
  rw [hlen] at hss ⊢
  clear hT hlen
  go_enter Try.func6, Try.ntmps6
  go_wp2_with (first
    | (go_at_call 7; refine (lawShown _).mono ?_; rintro e w1 ⟨rfl, hb1⟩)
    | (go_at_call 14; refine (new_most.out _).mono ?_; rintro e w2 ⟨rfl, hI2, hb2⟩))
  have hn1 := hb1.size
  have hB2 : Below w.heap.size w w2 := hb1.trans (hb2.mono hn1)
  have HC := Lib.hid (fun (v : Value) (W : World) (h : Is (stOf (firsts 20 ss)) w1.heap.size v W) => (stCut (stOf (firsts 20 ss)) w1.heap.size v K W h (by show (0 : Int) ≠ 2; decide)).mono fun e w' ⟨h1, h2⟩ => (⟨h1, h2.nx h (Nat.le_refl _)⟩ : _ ∧ Nx { stOf (firsts 20 ss) with state := 1, keep := K } w1.heap.size w1.heap.size W w'))
  go_loopw [8] (fun i W => ∃ (k : Nat) (vs : Value), k ≤ len ∧ k ≤ 20 ∧ i = .int .i64 k ∧ Is (stOf ((firsts 20 ss).take k)) w1.heap.size vs W ∧ Below w.heap.size w W) (fun i _ => 20 - (intOf i).toNat)
  case atStart => exact ⟨0, _, Nat.zero_le _, Nat.zero_le _, rfl, hI2, hB2⟩
  case round =>
    obtain ⟨k, vs, hk, hk20, rfl, hI, hB⟩ := hrel
    by_cases hlt : k < len
    · by_cases h20 : k < 20
      · have hkl : k < ss.length := by rw [HL.out]; exact hlt
        have HW := Lib.hid (fun (W : World) (h : Is (stOf ((firsts 20 ss).take k)) w1.heap.size vs W) => writeNext 20 (by decide) ss k hkl h20 w1.heap.size vs W h)
        rcases HT.out with ⟨h0, h1⟩ | ⟨ad, c', h0, hx⟩
        · have := HL.out; rw [h1] at this; simp at this; omega
        simp only [Value.slice.injEq] at h0
        obtain ⟨rfl, _, rfl⟩ := h0
        have hcell : wr.cell? (ad.add k) = some (.string ss[k]) := (hB.cell (p := ad.add k) (by rw [add_block]; exact cell_block (hx k hkl))).trans (hx k hkl)
        have hun' : hun ss[k] = ss[k].extract 0 (min (ss[k].size : Int) 100).toNat := rfl
        rw [hun'] at HW
        have hks := hx k hkl
        generalize ss[k] = x at *
        clear hun'
        have hm1 : min (x.size : Int) 100 ≤ (x.size : Int) := by omega
        have hm0 : (0 : Int) ≤ min (x.size : Int) 100 := by omega
        have hmn : decide (min (x.size : Int) 100 < 0) = false := by rw [decide_eq_false_iff_not]; omega
        have hmx : decide ((x.size : Int) < min (x.size : Int) 100) = false := by rw [decide_eq_false_iff_not]; omega
        have hki : (k : Int) < (len : Int) := by omega
        have hki20 : (k : Int) < 20 := by omega
        have hcd : wr.drew.cell? (ad.add k) = some (.string x) := hcell
        have hblk : (ad.add k).block < w.heap.size := by rw [add_block]; exact cell_block hks
        go_wp2
        go_region_held3 (fun W => W.cell? (ad.add k) = some (.string x)) (first | exact hcd | exact (hBq.cell hblk).trans hks | go_keep) ((go_at_call 9; refine (HW.out _ hI.drew).mono ?_; rintro e wq ⟨rfl, hTq⟩; obtain ⟨vq, hIq, hbq⟩ := hTq.below hI.drew (Nat.le_refl _); have hBq := hB.trans ((Below.refl _ wr).drew.mono hB.size |>.trans (hbq.mono hn1))))
        all_goals (go_wp2; go_roundw)
        case rel => exact ⟨k + 1, vq, by omega, by omega, by go_num, hIq, hBq⟩
        case measure => simp [intOf]; omega
      · have hfin : (firsts 20 ss).take k = firsts 20 ss := List.take_of_length_le (by rw [firsts_length]; omega)
        rw [hfin] at hI
        have hki : (k : Int) < (len : Int) := by omega
        have hki20 : decide ((k : Int) < 20) = false := by rw [decide_eq_false_iff_not]; omega
        clear hfin HT
        have HH1 := Lib.hid (fun (v : Value) (W : World) (h : Is (stOf (firsts 20 ss)) w1.heap.size v W) => stHolds _ _ v W h)
        have HH2 := HH1
        have HR1 := Lib.hid (fun (v : Value) (W : World) (h : Is { stOf (firsts 20 ss) with state := 1, keep := K } w1.heap.size v W) => (stRecover { stOf (firsts 20 ss) with state := 1, keep := K } w1.heap.size v W h).mono fun e w' ⟨⟨u, h1, h2, h3⟩, h4⟩ => (⟨⟨u, h1, h2, h3⟩, h4⟩ : (∃ u, e = Ending.returned (.tuple #[.string ⟨#[]⟩, u, .int .i64 0]) ∧ Texts w' u (firsts 20 ss) ∧ ∀ g, u.ownBlock = some g → W.heap.size ≤ g) ∧ Shrinks (stOf (firsts 20 ss)) w1.heap.size v W w'))
        have HR2 := Lib.hid (fun (v : Value) (W : World) (h : Is (stOf (firsts 20 ss)) w1.heap.size v W) => (stRecover (stOf (firsts 20 ss)) w1.heap.size v W h).mono fun e w' ⟨⟨u, h1, h2, h3⟩, h4⟩ => (⟨⟨u, h1, h2, h3⟩, h4⟩ : (∃ u, e = Ending.returned (.tuple #[.string ⟨#[]⟩, u, .int .i64 0]) ∧ Texts w' u (firsts 20 ss) ∧ ∀ g, u.ownBlock = some g → W.heap.size ≤ g) ∧ Shrinks (stOf (firsts 20 ss)) w1.heap.size v W w'))
        have hth : (stOf (firsts 20 ss)).held ≤ 2180 := by have := take_held 20 ss 20; rwa [List.take_of_length_le (by rw [firsts_length]; omega)] at this
        have hfl : (firsts 20 ss).length ≤ 100000 := by rw [firsts_length]; omega
        have HZ := Lib.hid (fun (v : Value) (W : World) (h : Is (stOf (firsts 20 ss)) w1.heap.size v W) => (writeYes (stOf (firsts 20 ss)) w1.heap.size v ⟨#[122]⟩ W h rfl rfl (by decide) (by show _ + 1 + 9 ≤ 1048576; omega)).mono fun e w' ⟨h1, h2⟩ => (⟨h1, h2.nx h (Nat.le_refl _)⟩ : _ ∧ Nx ((stOf (firsts 20 ss)).wrote [122]) w1.heap.size w1.heap.size W w'))
        have HSM := Lib.hid (fun (a b : Value) (W : World) (ha : TextsO W a (firsts 20 ss)) (hb : TextsO W b (firsts 20 ss)) => by have h := refSame a b _ _ W ha hb hfl; rw [decide_eq_true rfl] at h; exact h)
        clear hth hfl
        generalize firsts 20 ss = D at *
        go_wp2_with (first
          | (go_at_call 12; have H := HH1; refine (H.out _ _ hI).mono ?_; clear H HH1; rintro e w3 ⟨rfl, rfl⟩)
          | (go_at_call 11; refine (HC.out _ _ hI).mono ?_; rintro e w4 ⟨rfl, v4, hI4, hb4⟩; replace hB := hB.trans (hb4.mono hn1); clear hb4 HC)
          | (go_at_call 8; have H := HR1; refine (H.out _ _ hI4).mono ?_; clear H HR1; rintro e w5 ⟨⟨x, rfl, hTx, hfx⟩, hSh⟩; obtain ⟨_, _, hb5⟩ := hSh.turns.below hI4 (Nat.le_refl _); obtain ⟨v5, hI5, hv5, hS5⟩ := hSh; replace hB := hB.trans (hb5.mono hn1); clear hb5
             have hx5 : ∀ g, x.ownBlock = some g → g ≠ w1.heap.size ∧ v5.ownBlock ≠ some g := fun g hg => ⟨by have := hfx g hg; have := hI4.lt; omega, fun e => by have := (owns_base hI4.own g (hv5 g e)).2; have := hfx g hg; omega⟩)
          | (go_at_call 8; have H := HR2; refine (H.out _ _ hI5).mono ?_; clear H HR2; rintro e w6 ⟨⟨y, rfl, hTy, hfy⟩, hSh⟩; obtain ⟨_, _, hb6⟩ := hSh.turns.below hI5 (Nat.le_refl _); obtain ⟨v6, hI6, hv6, hS6⟩ := hSh; replace hB := hB.trans (hb6.mono hn1); clear hb6; have hTx6 := hTx.still hS6 hx5)
          | (go_at_call 16; refine (HSM.out _ _ _ hTx6.toO hTy.toO).mono ?_; rintro e w7 ⟨rfl, hb7⟩; have hI7 := hI6.below hb7; replace hB := hB.trans (hb7.mono hB.size); clear hb7)
          | (go_at_call 12; have H := HH2; refine (H.out _ _ hI7).mono ?_; clear H HH2; rintro e w8 ⟨rfl, rfl⟩)
          | (go_at_call 9; refine (HZ.out _ _ hI7).mono ?_; rintro e w9 ⟨rfl, v9, hI9, hb9⟩; replace hB := hB.trans (hb9.mono hn1)))
        go_ret
        exact ⟨rfl, hB⟩
    · have hfin : (firsts 20 ss).take k = firsts 20 ss := List.take_of_length_le (by rw [firsts_length]; have := HL.out; omega)
      rw [hfin] at hI
      have hki : decide ((k : Int) < (len : Int)) = false := by rw [decide_eq_false_iff_not]; omega
      clear hfin HT
      have HH1 := Lib.hid (fun (v : Value) (W : World) (h : Is (stOf (firsts 20 ss)) w1.heap.size v W) => stHolds _ _ v W h)
      have HH2 := HH1
      have HR1 := Lib.hid (fun (v : Value) (W : World) (h : Is { stOf (firsts 20 ss) with state := 1, keep := K } w1.heap.size v W) => (stRecover { stOf (firsts 20 ss) with state := 1, keep := K } w1.heap.size v W h).mono fun e w' ⟨⟨u, h1, h2, h3⟩, h4⟩ => (⟨⟨u, h1, h2, h3⟩, h4⟩ : (∃ u, e = Ending.returned (.tuple #[.string ⟨#[]⟩, u, .int .i64 0]) ∧ Texts w' u (firsts 20 ss) ∧ ∀ g, u.ownBlock = some g → W.heap.size ≤ g) ∧ Shrinks (stOf (firsts 20 ss)) w1.heap.size v W w'))
      have HR2 := Lib.hid (fun (v : Value) (W : World) (h : Is (stOf (firsts 20 ss)) w1.heap.size v W) => (stRecover (stOf (firsts 20 ss)) w1.heap.size v W h).mono fun e w' ⟨⟨u, h1, h2, h3⟩, h4⟩ => (⟨⟨u, h1, h2, h3⟩, h4⟩ : (∃ u, e = Ending.returned (.tuple #[.string ⟨#[]⟩, u, .int .i64 0]) ∧ Texts w' u (firsts 20 ss) ∧ ∀ g, u.ownBlock = some g → W.heap.size ≤ g) ∧ Shrinks (stOf (firsts 20 ss)) w1.heap.size v W w'))
      have hth : (stOf (firsts 20 ss)).held ≤ 2180 := by have := take_held 20 ss 20; rwa [List.take_of_length_le (by rw [firsts_length]; omega)] at this
      have hfl : (firsts 20 ss).length ≤ 100000 := by rw [firsts_length]; omega
      have HZ := Lib.hid (fun (v : Value) (W : World) (h : Is (stOf (firsts 20 ss)) w1.heap.size v W) => (writeYes (stOf (firsts 20 ss)) w1.heap.size v ⟨#[122]⟩ W h rfl rfl (by decide) (by show _ + 1 + 9 ≤ 1048576; omega)).mono fun e w' ⟨h1, h2⟩ => (⟨h1, h2.nx h (Nat.le_refl _)⟩ : _ ∧ Nx ((stOf (firsts 20 ss)).wrote [122]) w1.heap.size w1.heap.size W w'))
      have HSM := Lib.hid (fun (a b : Value) (W : World) (ha : TextsO W a (firsts 20 ss)) (hb : TextsO W b (firsts 20 ss)) => by have h := refSame a b _ _ W ha hb hfl; rw [decide_eq_true rfl] at h; exact h)
      clear hth hfl
      generalize firsts 20 ss = D at *
      go_wp2_with (first
        | (go_at_call 12; have H := HH1; refine (H.out _ _ hI).mono ?_; clear H HH1; rintro e w3 ⟨rfl, rfl⟩)
        | (go_at_call 11; refine (HC.out _ _ hI).mono ?_; rintro e w4 ⟨rfl, v4, hI4, hb4⟩; replace hB := hB.trans (hb4.mono hn1); clear hb4 HC)
        | (go_at_call 8; have H := HR1; refine (H.out _ _ hI4).mono ?_; clear H HR1; rintro e w5 ⟨⟨x, rfl, hTx, hfx⟩, hSh⟩; obtain ⟨_, _, hb5⟩ := hSh.turns.below hI4 (Nat.le_refl _); obtain ⟨v5, hI5, hv5, hS5⟩ := hSh; replace hB := hB.trans (hb5.mono hn1); clear hb5
           have hx5 : ∀ g, x.ownBlock = some g → g ≠ w1.heap.size ∧ v5.ownBlock ≠ some g := fun g hg => ⟨by have := hfx g hg; have := hI4.lt; omega, fun e => by have := (owns_base hI4.own g (hv5 g e)).2; have := hfx g hg; omega⟩)
        | (go_at_call 8; have H := HR2; refine (H.out _ _ hI5).mono ?_; clear H HR2; rintro e w6 ⟨⟨y, rfl, hTy, hfy⟩, hSh⟩; obtain ⟨_, _, hb6⟩ := hSh.turns.below hI5 (Nat.le_refl _); obtain ⟨v6, hI6, hv6, hS6⟩ := hSh; replace hB := hB.trans (hb6.mono hn1); clear hb6; have hTx6 := hTx.still hS6 hx5)
        | (go_at_call 16; refine (HSM.out _ _ _ hTx6.toO hTy.toO).mono ?_; rintro e w7 ⟨rfl, hb7⟩; have hI7 := hI6.below hb7; replace hB := hB.trans (hb7.mono hB.size); clear hb7)
        | (go_at_call 12; have H := HH2; refine (H.out _ _ hI7).mono ?_; clear H HH2; rintro e w8 ⟨rfl, rfl⟩)
        | (go_at_call 9; refine (HZ.out _ _ hI7).mono ?_; rintro e w9 ⟨rfl, v9, hI9, hb9⟩; replace hB := hB.trans (hb9.mono hn1)))
      go_ret
      exact ⟨rfl, hB⟩
theorem lawAgain (v : Value) (ss : List ByteArray) (keep : Int) (w : World) (hT : TextsA w v ss) (hss : ss.length ≤ maxLen) : Calls Try.prog 6 #[v, .int .i64 keep] w fun e w' => e = .returned (.bool true) ∧ Below w.heap.size w w' := by
  by_cases h : keep < 0
  · exact againNo v ss keep h w hT hss
  · obtain ⟨K, rfl⟩ := Int.eq_ofNat_of_zero_le (show 0 ≤ keep by omega)
    exact againCut v ss K w hT hss
end Go.Proofs.Ytfbponiiejanfaa
