/-
  Layer 4's law StoreKeeps: walked.
-/
import Derived.Test.YtfbponiiejanfaaStData
import Derived.Test.YtfbponiiejanfaaStAgain
namespace Go.Proofs.Ytfbponiiejanfaa
open Go.RowKit Go.Shelf
attribute [local go_sem] Oper.semAt_some
set_option linter.unusedVariables false
set_option linter.unusedSimpArgs false

theorem add_off (a : Addr) (m n : Nat) (hn : 0 < n) : (⟨(a.add m).block, (a.add m).off + n, none⟩ : Addr) = a.add (m + n) := by
  simp only [Addr.add]
  by_cases hm : m = 0
  · subst hm
    simp [show n ≠ 0 by omega]
  · simp [hm, Nat.add_assoc]
/-- A store of the greatest capacity, with this snapshot and these records. -/
def stS (sn : Option (List UInt8)) (ds : List (List UInt8)) : St := { stOf ds with snap := sn }
/-- So much at most. -/
def Few (sn : Option (List UInt8)) (ds : List (List UInt8)) (k : Nat) : Prop := (∀ d, sn = some d → d.length ≤ 100) ∧ (∀ d ∈ ds, d.length ≤ 100) ∧ ds.length ≤ k
theorem stS_held {sn : Option (List UInt8)} {ds : List (List UInt8)} {k : Nat} (h : Few sn ds k) : (stS sn ds).held ≤ 109 * (k + 1) := by
  have h1 := stOf_held ds h.2.1
  have e : (stS sn ds).held = (stS sn ds).mark.length + (stOf ds).held := by simp [St.held, stS, stOf, newSt, St.mark, St.pieces]
  have h2 : (stS sn ds).mark.length ≤ 109 := by
    cases sn with
    | none => simp [St.mark, stS]
    | some d => have := h.1 d rfl; simp [St.mark, stS, J.rec_length]; omega
  have h3 := h.2.2
  have h4 : 109 * ds.length ≤ 109 * k := Nat.mul_le_mul_left _ h3
  omega
theorem few_wrote {sn : Option (List UInt8)} {ds : List (List UInt8)} {k : Nat} (h : Few sn ds k) (d : ByteArray) (hd : d.size ≤ 100) : Few sn (ds ++ [d.data.toList]) (k + 1) := by
  refine ⟨h.1, fun x hx => ?_, by simp; exact h.2.2⟩
  rcases List.mem_append.1 hx with hx | hx
  · exact h.2.1 x hx
  · rw [List.mem_singleton.1 hx, dlen]; exact hd
theorem few_snapped {k : Nat} (d : ByteArray) (hd : d.size ≤ 100) : Few (some d.data.toList) [] k :=
  ⟨(fun x hx => by cases hx; rw [dlen]; exact hd), (fun x hx => by cases hx), Nat.zero_le _⟩
theorem few_mono {sn : Option (List UInt8)} {ds : List (List UInt8)} {k : Nat} (h : Few sn ds k) : Few sn ds (k + 1) := ⟨h.1, h.2.1, Nat.le_succ_of_le h.2.2⟩
set_option maxRecDepth 100000 in
set_option maxHeartbeats 4000000 in
theorem lawKeeps (v : Value) (l : List (Int × ByteArray × Int)) (w : World) (hT : ActsA w v l) (hll : l.length ≤ maxLen) (hsz : ∀ x ∈ l, x.2.1.size ≤ maxLen) : Calls Try.prog 4 #[v] w fun e w' => e = .returned (.bool true) ∧ Below w.heap.size w w' := by
  have hform : ∃ a c, v = .slice a l.length c := by
    rcases hT with ⟨rfl, rfl⟩ | ⟨a, c, rfl, _⟩
    · exact ⟨_, _, rfl⟩
    · exact ⟨_, _, rfl⟩
  obtain ⟨a, c, rfl⟩ := hform
  obtain ⟨len, hlen⟩ : ∃ len, l.length = len := ⟨_, rfl⟩
  have HT := Lib.hid hT
  have HL := Lib.hid hlen
  have HZ := Lib.hid hsz
  rw [hlen] at hll ⊢
  clear hT hlen hsz
  go_enter Try.func4, Try.ntmps4
  go_wp2_with (first
    | (go_at_call 7; refine (lawShown _).mono ?_; rintro e w1 ⟨rfl, hb1⟩)
    | (go_at_call 14; refine (new_most.out _).mono ?_; rintro e w2 ⟨rfl, hI2, hb2⟩))
  have hn1 := hb1.size
  have hB2 : Below w.heap.size w w2 := hb1.trans (hb2.mono hn1)
  go_loopw [6, 7, 8] (fun sv vw i W => ∃ (k : Nat) (sn : Option (List UInt8)) (ws : List (List UInt8)) (vs : Value), k ≤ len ∧ k ≤ 60 ∧ i = .int .i64 k ∧ sv = strV (stS sn ws).told ∧ Few sn ws k ∧ Two (stS sn ws) w1.heap.size vs ws vw W ∧ Below w.heap.size w W) (fun _ _ i _ => 60 - (intOf i).toNat)
  case atStart => exact ⟨0, none, [], _, Nat.zero_le _, Nat.zero_le _, rfl, rfl, ⟨fun d h => (by cases h), fun d h => (by cases h), Nat.zero_le _⟩, Two.start hI2, hB2⟩
  case round =>
    obtain ⟨k, sn, ws, vs, hk', hk60, rfl, rfl, hF, hX, hB⟩ := hrel
    by_cases hlt : k < len
    · by_cases h60 : k < 60
      · have hkl : k < l.length := by rw [HL.out]; exact hlt
        rcases HT.out with ⟨h0, h1⟩ | ⟨ad, c', h0, hx⟩
        · have := HL.out; rw [h1] at this; simp at this; omega
        simp only [Value.slice.injEq] at h0
        obtain ⟨rfl, _, rfl⟩ := h0
        obtain ⟨hx1, hx2, hx3⟩ := hx k hkl
        have hxs := HZ.out l[k] (List.getElem_mem hkl)
        obtain ⟨⟨xd, xs, xn⟩, hxk⟩ : ∃ x, l[k] = x := ⟨_, rfl⟩
        rw [hxk] at hx1 hx2 hx3 hxs
        clear hx hxk
        have hblk : ad.block < w.heap.size := cell_block hx1
        have hc1 : ∀ {W : World}, Below w.heap.size w W → W.cell? (ad.add (k * 3)) = some (.int .i64 xd) := fun hb => (hb.cell (p := ad.add (k * 3)) (by rw [add_block]; exact hblk)).trans hx1
        have hc2 : ∀ {W : World}, Below w.heap.size w W → W.cell? (ad.add (k * 3 + 1)) = some (.string xs) := fun hb => (hb.cell (p := ad.add (k * 3 + 1)) (by rw [add_block]; exact hblk)).trans hx2
        have hc3 : ∀ {W : World}, Below w.heap.size w W → W.cell? (ad.add (k * 3 + 2)) = some (.int .i64 xn) := fun hb => (hb.cell (p := ad.add (k * 3 + 2)) (by rw [add_block]; exact hblk)).trans hx3
        have q1 := hc1 hB
        have q2 := hc2 hB
        have q3 := hc3 hB
        rw [← add_off _ _ _ (by decide)] at q2 q3
        have hki : (k : Int) < (len : Int) := by omega
        have hki60 : (k : Int) < 60 := by omega
        have hDS := dataF_small (xd, xs, xn)
        have HDT := Lib.hid (fun W => lawData xd xs xn W hxs)
        generalize dataF (xd, xs, xn) = D at *
        obtain ⟨r, hr⟩ : ∃ r, (IntKind.u64.wrap xd).tmod 5 = r := ⟨_, rfl⟩
        have HDD : Hid (strV (stS (some D.data.toList) []).told = .string D) := Lib.hid (by show Value.string (txt D.data.toList) = _; rw [txt_data])
        cases h0 : (r == 0) with
        | true =>
          rcases hDS with hDS | hDS
          · have HW := Lib.hid (fun (W : World) (h : Is (stS sn ws) w1.heap.size vs W) => (writeYes (stS sn ws) w1.heap.size vs D W h rfl rfl (by omega) (by have := stS_held hF; show _ + _ + 9 ≤ 1048576; omega)).mono fun e w' ⟨h1, h2⟩ => (⟨h1, h2⟩ : _ ∧ Turns (stS sn (ws ++ [D.data.toList])) w1.heap.size vs W w'))
            go_wp2_with (first
              | (go_at_call 15; refine (HDT.out _).mono ?_; rintro e w3 ⟨rfl, hb3⟩; have hX3 := hX.below hb3; have hB3 := hB.trans (hb3.mono hB.size); have r1 := hc1 hB3; clear hc1 hc2 hc3)
              | (go_at_call 9; refine (HW.out _ hX3.st).mono ?_; rintro e w4 ⟨rfl, hT⟩; obtain ⟨v4, hX4, hb4⟩ := hX3.turn hT; have hB4 := hB3.trans (hb4.mono hn1); clear hT hb4)
              | (at_builtin; refine wpList_append_two' rfl _ _ rfl rfl hX4 rfl (by have := hF.2.2; omega) ?_; intro vw5 w5 hX5 hb5 _; have hB5 := hB4.trans (hb5.mono hn1); clear hb5))
            go_roundw
            case rel => exact ⟨k + 1, sn, ws ++ [D.data.toList], v4, by omega, by omega, by go_num, rfl, few_wrote hF D hDS, hX5, hB5⟩
            case measure => simp [intOf]; omega
          · have HW := Lib.hid (fun (W : World) (h : Is (stS sn ws) w1.heap.size vs W) => writeLong (stS sn ws) w1.heap.size vs D W h rfl (by omega) (by omega))
            go_wp2_with (first
              | (go_at_call 15; refine (HDT.out _).mono ?_; rintro e w3 ⟨rfl, hb3⟩; have hX3 := hX.below hb3; have hB3 := hB.trans (hb3.mono hB.size); have r1 := hc1 hB3; clear hc1 hc2 hc3)
              | (go_at_call 9; refine (HW.out _ hX3.st).mono ?_; rintro e w4 ⟨rfl, hT⟩; obtain ⟨v4, hX4, hb4⟩ := hX3.turn hT; have hB4 := hB3.trans (hb4.mono hn1); clear hT hb4))
            go_roundw
            case rel => exact ⟨k + 1, sn, ws, v4, by omega, by omega, by go_num, rfl, few_mono hF, hX4, hB4⟩
            case measure => simp [intOf]; omega
        | false =>
          cases h1 : (r == 1) with
          | true =>
            rcases hDS with hDS | hDS
            · have HW := Lib.hid (fun (W : World) (h : Is (stS sn ws) w1.heap.size vs W) => (writeYes (stS sn ws) w1.heap.size vs D W h rfl rfl (by omega) (by have := stS_held hF; show _ + _ + 9 ≤ 1048576; omega)).mono fun e w' ⟨h1, h2⟩ => (⟨h1, h2⟩ : _ ∧ Turns (stS sn (ws ++ [D.data.toList])) w1.heap.size vs W w'))
              go_wp2_with (first
                | (go_at_call 15; refine (HDT.out _).mono ?_; rintro e w3 ⟨rfl, hb3⟩; have hX3 := hX.below hb3; have hB3 := hB.trans (hb3.mono hB.size); have r1 := hc1 hB3; clear hc1 hc2 hc3)
                | (go_at_call 9; refine (HW.out _ hX3.st).mono ?_; rintro e w4 ⟨rfl, hT⟩; obtain ⟨v4, hX4, hb4⟩ := hX3.turn hT; have hB4 := hB3.trans (hb4.mono hn1); clear hT hb4)
                | (at_builtin; refine wpList_append_two' rfl _ _ rfl rfl hX4 rfl (by have := hF.2.2; omega) ?_; intro vw5 w5 hX5 hb5 _; have hB5 := hB4.trans (hb5.mono hn1); clear hb5))
              go_roundw
              case rel => exact ⟨k + 1, sn, ws ++ [D.data.toList], v4, by omega, by omega, by go_num, rfl, few_wrote hF D hDS, hX5, hB5⟩
              case measure => simp [intOf]; omega
            · have HW := Lib.hid (fun (W : World) (h : Is (stS sn ws) w1.heap.size vs W) => writeLong (stS sn ws) w1.heap.size vs D W h rfl (by omega) (by omega))
              go_wp2_with (first
                | (go_at_call 15; refine (HDT.out _).mono ?_; rintro e w3 ⟨rfl, hb3⟩; have hX3 := hX.below hb3; have hB3 := hB.trans (hb3.mono hB.size); have r1 := hc1 hB3; clear hc1 hc2 hc3)
                | (go_at_call 9; refine (HW.out _ hX3.st).mono ?_; rintro e w4 ⟨rfl, hT⟩; obtain ⟨v4, hX4, hb4⟩ := hX3.turn hT; have hB4 := hB3.trans (hb4.mono hn1); clear hT hb4))
              go_roundw
              case rel => exact ⟨k + 1, sn, ws, v4, by omega, by omega, by go_num, rfl, few_mono hF, hX4, hB4⟩
              case measure => simp [intOf]; omega
          | false =>
            cases h2 : (r == 2) with
            | true =>
              rcases hDS with hDS | hDS
              · have HW := Lib.hid (fun (W : World) (h : Is (stS sn ws) w1.heap.size vs W) => (snapYes (stS sn ws) w1.heap.size vs D W h rfl (by omega) (by show _ + 9 ≤ 1048576; omega)).mono fun e w' ⟨h1, h2⟩ => (⟨h1, h2⟩ : _ ∧ Turns (stS (some D.data.toList) []) w1.heap.size vs W w'))
                go_wp2_with (first
                  | (go_at_call 15; refine (HDT.out _).mono ?_; rintro e w3 ⟨rfl, hb3⟩; have hX3 := hX.below hb3; have hB3 := hB.trans (hb3.mono hB.size); have r1 := hc1 hB3; clear hc1 hc2 hc3)
                  | (go_at_call 10; refine (HW.out _ hX3.st).mono ?_; rintro e w4 ⟨rfl, hT⟩; obtain ⟨v4, hX4, hb4⟩ := hX3.turn hT; have hB4 := hB3.trans (hb4.mono hn1); clear hT hb4))
                go_roundw
                case rel => exact ⟨k + 1, some D.data.toList, [], v4, by omega, by omega, by go_num, by rw [HDD.out], few_snapped D hDS, Two.start hX4.st, hB4⟩
                case measure => simp [intOf]; omega
              · have HW := Lib.hid (fun (W : World) (h : Is (stS sn ws) w1.heap.size vs W) => snapLong (stS sn ws) w1.heap.size vs D W h rfl (by omega) (by omega))
                go_wp2_with (first
                  | (go_at_call 15; refine (HDT.out _).mono ?_; rintro e w3 ⟨rfl, hb3⟩; have hX3 := hX.below hb3; have hB3 := hB.trans (hb3.mono hB.size); have r1 := hc1 hB3; clear hc1 hc2 hc3)
                  | (go_at_call 10; refine (HW.out _ hX3.st).mono ?_; rintro e w4 ⟨rfl, hT⟩; obtain ⟨v4, hX4, hb4⟩ := hX3.turn hT; have hB4 := hB3.trans (hb4.mono hn1); clear hT hb4))
                go_roundw
                case rel => exact ⟨k + 1, sn, ws, v4, by omega, by omega, by go_num, rfl, few_mono hF, hX4, hB4⟩
                case measure => simp [intOf]; omega
            | false =>
              go_wp2_with (first
                | (go_at_call 15; refine (HDT.out _).mono ?_; rintro e w3 ⟨rfl, hb3⟩; have hX3 := hX.below hb3; have hB3 := hB.trans (hb3.mono hB.size); have r1 := hc1 hB3; clear hc1 hc2 hc3))
              go_roundw
              case rel => exact ⟨k + 1, sn, ws, vs, by omega, by omega, by go_num, rfl, few_mono hF, hX3, hB3⟩
              case measure => simp [intOf]; omega
      · have hki : (k : Int) < (len : Int) := by omega
        have hki60 : decide ((k : Int) < 60) = false := by rw [decide_eq_false_iff_not]; omega
        have HR1 : Hid (∀ v W, Is (stS sn ws) w1.heap.size v W → Calls Try.prog 8 #[.pointer (some ⟨w1.heap.size, 0, none⟩)] W fun e w' => (∃ u, e = .returned (.tuple #[strV (stS sn ws).told, u, .int .i64 0]) ∧ Texts w' u ws ∧ ∀ g, u.ownBlock = some g → W.heap.size ≤ g) ∧ Shrinks (stS sn ws) w1.heap.size v W w') := Lib.hid (fun v W h => stRecover _ w1.heap.size v W h)
        have HR2 := HR1
        have hfl : ws.length ≤ 100000 := by have := hF.2.2; omega
        have HSM := Lib.hid (fun (a b : Value) (W : World) (ha : TextsO W a ws) (hb : TextsO W b ws) => by have h := refSame a b _ _ W ha hb hfl; rw [decide_eq_true rfl] at h; exact h)
        clear hfl HT HZ
        generalize (stS sn ws).told = T at *
        go_wp2_with (first
          | (go_at_call 8; have H := HR1; refine (H.out _ _ hX.st).mono ?_; clear H HR1; rintro e w5 ⟨⟨x, rfl, hTx, hfx⟩, hSh⟩; obtain ⟨v5, hX5, hx5, hb5⟩ := hX.shrink hSh x hfx; replace hB := hB.trans (hb5.mono hn1); clear hb5 hSh)
          | (go_at_call 8; have H := HR2; refine (H.out _ _ hX5.st).mono ?_; clear H HR2; rintro e w6 ⟨⟨y, rfl, hTy, hfy⟩, hSh⟩; obtain ⟨_, _, _, hS6⟩ := id hSh; obtain ⟨v6, hX6, _, hb6⟩ := hX5.shrink hSh y hfy; replace hB := hB.trans (hb6.mono hn1); have hTx6 := hTx.still hS6 (fun g hg => (hx5 g hg).2); clear hb6 hSh)
          | (go_at_call 16; have H := HSM; refine (H.out _ _ _ hTx6.toO (owns_textsO hX6.row).1).mono ?_; clear H; rintro e w7 ⟨rfl, hb7⟩; have hX7 := hX6.below hb7; replace hTy := hTy.below hb7 (Nat.le_refl _); replace hB := hB.trans (hb7.mono hB.size); clear hb7 hTx6)
          | (go_at_call 16; refine (HSM.out _ _ _ hTy.toO (owns_textsO hX7.row).1).mono ?_; rintro e w8 ⟨rfl, hb8⟩; replace hB := hB.trans (hb8.mono hB.size); clear hb8))
        go_ret
        exact ⟨rfl, hB⟩
    · have hki : decide ((k : Int) < (len : Int)) = false := by rw [decide_eq_false_iff_not]; omega
      have HR1 : Hid (∀ v W, Is (stS sn ws) w1.heap.size v W → Calls Try.prog 8 #[.pointer (some ⟨w1.heap.size, 0, none⟩)] W fun e w' => (∃ u, e = .returned (.tuple #[strV (stS sn ws).told, u, .int .i64 0]) ∧ Texts w' u ws ∧ ∀ g, u.ownBlock = some g → W.heap.size ≤ g) ∧ Shrinks (stS sn ws) w1.heap.size v W w') := Lib.hid (fun v W h => stRecover _ w1.heap.size v W h)
      have HR2 := HR1
      have hfl : ws.length ≤ 100000 := by have := hF.2.2; omega
      have HSM := Lib.hid (fun (a b : Value) (W : World) (ha : TextsO W a ws) (hb : TextsO W b ws) => by have h := refSame a b _ _ W ha hb hfl; rw [decide_eq_true rfl] at h; exact h)
      clear hfl HT HZ
      generalize (stS sn ws).told = T at *
      go_wp2_with (first
        | (go_at_call 8; have H := HR1; refine (H.out _ _ hX.st).mono ?_; clear H HR1; rintro e w5 ⟨⟨x, rfl, hTx, hfx⟩, hSh⟩; obtain ⟨v5, hX5, hx5, hb5⟩ := hX.shrink hSh x hfx; replace hB := hB.trans (hb5.mono hn1); clear hb5 hSh)
        | (go_at_call 8; have H := HR2; refine (H.out _ _ hX5.st).mono ?_; clear H HR2; rintro e w6 ⟨⟨y, rfl, hTy, hfy⟩, hSh⟩; obtain ⟨_, _, _, hS6⟩ := id hSh; obtain ⟨v6, hX6, _, hb6⟩ := hX5.shrink hSh y hfy; replace hB := hB.trans (hb6.mono hn1); have hTx6 := hTx.still hS6 (fun g hg => (hx5 g hg).2); clear hb6 hSh)
        | (go_at_call 16; have H := HSM; refine (H.out _ _ _ hTx6.toO (owns_textsO hX6.row).1).mono ?_; clear H; rintro e w7 ⟨rfl, hb7⟩; have hX7 := hX6.below hb7; replace hTy := hTy.below hb7 (Nat.le_refl _); replace hB := hB.trans (hb7.mono hB.size); clear hb7 hTx6)
        | (go_at_call 16; refine (HSM.out _ _ _ hTy.toO (owns_textsO hX7.row).1).mono ?_; rintro e w8 ⟨rfl, hb8⟩; replace hB := hB.trans (hb8.mono hB.size); clear hb8))
      go_ret
      exact ⟨rfl, hB⟩
end Go.Proofs.Ytfbponiiejanfaa
