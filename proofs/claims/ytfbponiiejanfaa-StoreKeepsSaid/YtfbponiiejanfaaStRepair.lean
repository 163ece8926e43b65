/-
  medium.repair, medium.taken, (*Store).Recover: walked.
-/
import Derived.Test.YtfbponiiejanfaaStClear
namespace Go.Proofs.Ytfbponiiejanfaa
open Go.RowKit Go.Shelf
attribute [local go_sem] Oper.semAt_some
set_option linter.unusedVariables false
set_option linter.unusedSimpArgs false

/-- Behind a call block B is the store S, and its journal lies where it lay. -/
def Shrinks (S : St) (B : Nat) (v : Value) (w w' : World) : Prop := ∃ v', Is S B v' w' ∧ (∀ g, v'.ownBlock = some g → v.ownBlock = some g) ∧ Still B v.ownBlock w w'
theorem Shrinks.turns {S : St} {B : Nat} {v : Value} {w w' : World} (h : Shrinks S B v w w') : Turns S B v w w' := by
  obtain ⟨v', h1, h2, h3⟩ := h
  exact ⟨v', h1, fun g hg => .inl (h2 g hg), h3⟩
theorem Shrinks.trans {S' : St} {B : Nat} {v v' : Value} {w w' w'' : World} (h : Still B v.ownBlock w w') (hv : ∀ g, v'.ownBlock = some g → v.ownBlock = some g) (h' : Shrinks S' B v' w' w'') : Shrinks S' B v w w'' := by
  obtain ⟨u, hI, hu, hs⟩ := h'
  exact ⟨u, hI, fun g hg => hv g (hu g hg), h.trans hs (fun g hg => .inl (hv g hg))⟩
theorem Is.next' {S : St} {B : Nat} {v : Value} {w : World} (h : Is S B v w) (a b : Int) : Is { S with state := a, keep := b } B v ((w.setCell ⟨B, 4, none⟩ (.int .i64 a)).setCell ⟨B, 5, none⟩ (.int .i64 b)) ∧ Still B v.ownBlock w ((w.setCell ⟨B, 4, none⟩ (.int .i64 a)).setCell ⟨B, 5, none⟩ (.int .i64 b)) := by
  have hr := row_set (row_set h.row 4 (.int .i64 a)) 5 (.int .i64 b)
  refine ⟨⟨hr, owns_keep h.own (fun g hg => ?_), ⟨h.ok.recs, h.ok.snap, h.ok.torn, h.ok.cap, h.ok.most⟩⟩, (Still.refl B _ w).setCell _ _ rfl |>.setCell _ _ rfl⟩
  have hg1 := (owns_base h.own g hg).1
  exact (Below.heap_setCell _ _ _ g (by simp; omega)).trans (Below.heap_setCell _ _ _ g (by simp; omega))
/-- What is torn is left out. -/
def St.mended (S : St) : St := { S with torn := none }
theorem mended_ok {S : St} (h : S.Ok) : S.mended.Ok := by
  refine ⟨h.recs, h.snap, (fun t ht => by cases ht), ?_, h.most⟩
  refine Nat.le_trans ?_ h.cap
  simp only [St.held, St.pieces, St.mended, St.mark, St.sum_append]
  simp [St.sum]
theorem mended_same {S : St} (ht : S.torn = none) : S.mended = S := by
  cases S; simp [St.mended] at ht ⊢; exact ht.symm
theorem repair_none {S : St} {B : Nat} {v : Value} {w : World} (h : Is S B v w) (ht : S.torn = none) : Shrinks S.mended B v w (w.setCell ⟨B, 1, none⟩ v) := by
  rw [mended_same ht]
  have hr := row_set h.row 1 v
  refine ⟨v, ⟨?_, owns_keep h.own (fun g hg => ?_), h.ok⟩, fun g hg => hg, (Still.refl B _ w).setCell _ _ rfl⟩
  · rw [hr, cells]; simp
  · have hg1 := (owns_base h.own g hg).1
    exact Below.heap_setCell _ _ _ g (by simp; omega)
theorem repair_last {S : St} {B g n c : Nat} {t : List UInt8} {w : World} {cur : Array Value} (h : Is S B (.slice (some ⟨g, 0, none⟩) (n + 1) c) w) (ht : S.torn = some t) (hn : S.ds.length = n) (hg : w.heap[g]? = some (.cells cur 9 (0, 0))) (hd : Int) (hdd : hd = (S.held : Int) - (t.length : Int)) :
    Shrinks S.mended B (.slice (some ⟨g, 0, none⟩) (n + 1) c) w ((((w.setCell ⟨B, 2, none⟩ (.int .i64 hd)).drew.drew).setRow g (cur.toList.take n ++ [Value.string ⟨#[]⟩] ++ cur.toList.drop (n + 1)).toArray).setCell ⟨B, 1, none⟩ (.slice (some ⟨g, 0, none⟩) n c)) := by
  have hown := h.own
  rcases hown.2 with ⟨h0, _⟩ | ⟨g', cap, cur', e0, hbg, hgw, hnc, hcm, hcs, htake⟩
  · cases h0
  simp only [Value.slice.injEq, Option.some.injEq, Addr.mk.injEq, and_true] at e0
  obtain ⟨rfl, hpn, rfl⟩ := e0
  rw [hg] at hgw
  simp only [Option.some.injEq, Obj.cells.injEq, and_true] at hgw
  subst hgw
  have hne : g ≠ B := by omega
  have hpl : S.pieces = S.mended.pieces ++ [t] := by simp [St.pieces, St.mended, ht]
  have hml : S.mended.pieces.length = n := by simp [St.pieces, St.mended, hn]
  have hheld : S.held = S.mended.held + t.length := by
    rw [St.held, St.held, hpl, St.sum_append]
    simp [St.sum, St.mark, St.mended]
    omega
  obtain ⟨cur2, hcur2⟩ : ∃ cur2, (cur.toList.take n ++ [Value.string ⟨#[]⟩] ++ cur.toList.drop (n + 1)).toArray = cur2 := ⟨_, rfl⟩
  have hcl : cur.toList.length = c := by simpa using hcs
  have hc2s : cur2.size = c := by
    rw [← hcur2]; simp only [List.size_toArray, List.length_append, List.length_take, List.length_drop, List.length_cons, List.length_nil]; omega
  have hc2t : cur2.toList.take n = cur.toList.take n := by
    rw [← hcur2, List.append_assoc]
    show (List.take n cur.toList ++ _).take n = _
    rw [List.take_append_of_le_length (by rw [List.length_take]; omega), List.take_take, Nat.min_self]
  rw [hcur2]
  obtain ⟨W2, hW2⟩ : ∃ W2, (w.setCell ⟨B, 2, none⟩ (.int .i64 hd)).drew.drew = W2 := ⟨_, rfl⟩
  have hB2 : W2.heap[B]? = some (.cells ((cells S (.slice (some ⟨g, 0, none⟩) (n + 1) c)).setIfInBounds 2 (.int .i64 hd)) 48 (0, 0)) := by rw [← hW2]; exact row_set h.row 2 _
  have hg2 : W2.heap[g]? = some (.cells cur 9 (0, 0)) := by rw [← hW2]; exact (Below.heap_setCell _ _ _ g hne).trans hg
  have hS2 : Still B (some g) w W2 := by
    rw [← hW2]
    have := (Still.refl B (some g) w).setCell ⟨B, 2, none⟩ (.int .i64 hd) rfl
    exact ⟨this.os, this.tape, this.output, this.size, this.block⟩
  rw [hW2]
  clear hW2
  have hg3 := setRow_heap W2 g cur cur2 9 (0, 0) hg2
  have hB3 := (setRow_other W2 g B cur2 (Ne.symm hne)).trans hB2
  have hS3 : Still B (some g) w (W2.setRow g cur2) := by
    refine ⟨hS2.os, hS2.tape, hS2.output, by have := hS2.size; simpa [World.setRow] using this, fun k hk hkB hkg => ?_⟩
    exact (setRow_other W2 g k cur2 (fun e => hkg (by rw [e]))).trans (hS2.block k hk hkB hkg)
  refine ⟨.slice (some ⟨g, 0, none⟩) n c, ⟨?_, ?_, mended_ok h.ok⟩, fun x hx => hx, hS3.setCell _ _ rfl⟩
  · rw [row_set hB3 1 _, cells, cells]
    have e1 : S.mended.mark = S.mark := rfl
    have e2 : (S.mended.held : Int) = hd := by omega
    rw [e1, e2]
    simp [St.mended]
  · refine ⟨by simp, .inr ⟨g, c, cur2, by rw [hml], hbg, (Below.heap_setCell _ _ _ g (by simpa using hne)).trans hg3, by rw [hml]; omega, hcm, by omega, ?_⟩⟩
    rw [Nat.mul_one, hml, hc2t]
    have h3 : cur.toList.take (n + 1) = (S.mended.pieces ++ [t]).map strV := by rw [← hpl, ← htake, ← hpn]; simp
    have h4 : cur.toList.take n = (cur.toList.take (n + 1)).take n := by rw [List.take_take, Nat.min_eq_left (by omega)]
    rw [h4, h3, List.map_append, List.take_append_of_le_length (by simp [hml]), List.take_of_length_le (by simp [hml])]
theorem Texts.still {B : Nat} {o : Option Nat} {w w' : World} {u : Value} {ds : List (List UInt8)} (h : Texts w u ds) (hs : Still B o w w') (hB : ∀ g, u.ownBlock = some g → g ≠ B ∧ o ≠ some g) : Texts w' u ds := by
  rcases h with h | ⟨g, c, rfl, hc, hg, hx⟩
  · exact .inl h
  · obtain ⟨h1, h2⟩ := hB g rfl
    exact .inr ⟨g, c, rfl, hc, Nat.lt_of_lt_of_le hg hs.size, fun j hj => (World.cell?_of_block (hs.block g hg h1 h2)).trans (hx j hj)⟩
theorem texts_len' {W : World} {v : Value} {ds : List (List UInt8)} (h : Texts W v ds) : ∃ a c, v = .slice a ds.length c := by
  rcases h with ⟨rfl, rfl⟩ | ⟨g, c, rfl, _⟩
  · exact ⟨_, _, rfl⟩
  · exact ⟨_, _, rfl⟩
set_option maxRecDepth 100000 in
set_option maxHeartbeats 4000000 in
theorem mRepairNone (S : St) (B : Nat) (v : Value) (w : World) (h : Is S B v w) (ht : S.torn = none) : Calls Try.prog 17 #[.pointer (some ⟨B, 0, none⟩)] w fun e w' =>
    (∃ u, e = .returned u ∧ Texts w' u S.ds ∧ ∀ g, u.ownBlock = some g → w.heap.size ≤ g) ∧ Shrinks S.mended B v w w' := by
  have HR := Lib.hid (mRecords S B v w h)
  have hpl : S.pieces.length = S.ds.length := by rw [S.pieces_len, ht]; rfl
  obtain ⟨a, c, e, hac⟩ := owns_form h.own
  have hdf := St.ds_few h.ok
  have HE := Lib.hid (fun (W : World) (hI : Is S B v W) => repair_none hI ht)
  obtain ⟨n, hn⟩ : ∃ n, S.ds.length = n := ⟨_, rfl⟩
  rw [hpl, hn] at e hac
  subst e
  have HI := Lib.hid h
  have HN := Lib.hid hn
  rw [hn] at hdf
  clear h ht hpl hn
  by_cases hcn : c = n
  · subst hcn
    go_enter Try.func17, Try.ntmps17
    go_wp2_with (go_at_call 22; refine HR.out.mono ?_; rintro e w1 ⟨⟨u, rfl, hTu, hfu⟩, hb1⟩
                 obtain ⟨ua, uc, hu⟩ := texts_len' hTu
                 rw [HN.out] at hu
                 subst hu
                 have hI1 := HI.out.below hb1
                 have hc1 : w1.cell? ⟨B, 1, none⟩ = some (.slice a c c) := hI1.cell 1 _ rfl
                 have hf1 := hI1.thawed 1)
    refine wp_loop_rounds 1 ?_
    rw [rounds_succ]
    go_wp2
    refine (wpIn_wide (n := 3)).1 ?_
    refine wpIn_region_any (by kernel_rfl) ?_
    change wpAnyIn _ _ _ _ _ _ 16 _ _ w1.drew
    have hcd : (w1.drew).cell? ⟨B, 1, none⟩ = some (.slice a c c) := hc1
    refine wpAnyIn_lead wide_plain 0 (v := .pointer (some ⟨B, 0, none⟩)) rfl (by kernel_rfl) (fun _ _ _ h => h) (Or.inl ⟨by rfl, fun X => by go_simp⟩) ?_
    simp only [Act.put, List.setIfInBounds_toArray, List.set_cons_zero, List.set_cons_succ]
    refine wpAnyIn_phase wide_plain 1 12 (g := 4) (by kernel_rfl) rfl (by kernel_rfl) rfl ?_
    simp only [List.drop_succ_cons, List.drop_zero, List.take_succ_cons, List.take_zero, Nat.reduceSub]
    repeat still_step
    refine wpStill_nil ?_
    refine wpAnyIn_sole 12 (by kernel_rfl) rfl (fun K hK => ?_)
    go_simp
    refine ⟨trivial, (callsIn_wide.2 (slDeleteNone a c c hac _)).mono ?_⟩
    rintro e w2 ⟨rfl, hb2⟩
    refine hK _ _ ?_
    clear hK K
    have hI2 := (hI1.below (Below.refl _ w1).drew).below hb2
    have hcd : w2.cell? ⟨B, 1, none⟩ = some (.slice a c c) := hI2.cell 1 _ rfl
    have hfd := hI2.thawed 1
    refine wpAnyIn_of_seq (List.drop 13 (Array.toList _)) 13 _ _ _ (fun j => by rw [List.getElem?_drop, Array.getElem?_toList]) (by kernel_rfl) ?_
    simp only [List.drop_succ_cons, List.drop_zero]
    gi_wp2
    go_wp2
    go_ret
    have hfin := HE.out w2 hI2
    have hBB := hb1.trans (((Below.refl _ w1).drew.trans hb2).mono hb1.size)
    exact ⟨⟨_, rfl, (hTu.below ((Below.refl _ w1).drew.trans hb2) (Nat.le_refl _)).still ((Still.refl B none w2).setCell ⟨B, 1, none⟩ _ rfl) (fun g hg => ⟨by have := hfu g hg; have := HI.out.lt; omega, by simp⟩), hfu⟩, Shrinks.trans (Still.of_below hBB) (fun g hg => hg) hfin⟩
  · skip
    go_enter Try.func17, Try.ntmps17
    go_wp2_with (go_at_call 22; refine HR.out.mono ?_; rintro e w1 ⟨⟨u, rfl, hTu, hfu⟩, hb1⟩
                 obtain ⟨ua, uc, hu⟩ := texts_len' hTu
                 rw [HN.out] at hu
                 subst hu
                 have hI1 := HI.out.below hb1
                 have hc1 : w1.cell? ⟨B, 1, none⟩ = some (.slice a n c) := hI1.cell 1 _ rfl
                 have hf1 := hI1.thawed 1)
    refine wp_loop_rounds 1 ?_
    rw [rounds_succ]
    go_wp2
    refine (wpIn_wide (n := 3)).1 ?_
    refine wpIn_region_any (by kernel_rfl) ?_
    change wpAnyIn _ _ _ _ _ _ 16 _ _ w1.drew
    have hcd : (w1.drew).cell? ⟨B, 1, none⟩ = some (.slice a n c) := hc1
    refine wpAnyIn_lead wide_plain 0 (v := .pointer (some ⟨B, 0, none⟩)) rfl (by kernel_rfl) (fun _ _ _ h => h) (Or.inl ⟨by rfl, fun X => by go_simp⟩) ?_
    simp only [Act.put, List.setIfInBounds_toArray, List.set_cons_zero, List.set_cons_succ]
    refine wpAnyIn_phase wide_plain 1 12 (g := 4) (by kernel_rfl) rfl (by kernel_rfl) rfl ?_
    simp only [List.drop_succ_cons, List.drop_zero, List.take_succ_cons, List.take_zero, Nat.reduceSub]
    repeat still_step
    refine wpStill_nil ?_
    refine wpAnyIn_sole 12 (by kernel_rfl) rfl (fun K hK => ?_)
    go_simp
    refine ⟨trivial, (callsIn_wide.2 (slDeleteNone a n c hac _)).mono ?_⟩
    rintro e w2 ⟨rfl, hb2⟩
    refine hK _ _ ?_
    clear hK K
    have hI2 := (hI1.below (Below.refl _ w1).drew).below hb2
    have hcd : w2.cell? ⟨B, 1, none⟩ = some (.slice a n c) := hI2.cell 1 _ rfl
    have hfd := hI2.thawed 1
    refine wpAnyIn_of_seq (List.drop 13 (Array.toList _)) 13 _ _ _ (fun j => by rw [List.getElem?_drop, Array.getElem?_toList]) (by kernel_rfl) ?_
    simp only [List.drop_succ_cons, List.drop_zero]
    gi_wp2
    go_wp2
    go_ret
    have hfin := HE.out w2 hI2
    have hBB := hb1.trans (((Below.refl _ w1).drew.trans hb2).mono hb1.size)
    exact ⟨⟨_, rfl, (hTu.below ((Below.refl _ w1).drew.trans hb2) (Nat.le_refl _)).still ((Still.refl B none w2).setCell ⟨B, 1, none⟩ _ rfl) (fun g hg => ⟨by have := hfu g hg; have := HI.out.lt; omega, by simp⟩), hfu⟩, Shrinks.trans (Still.of_below hBB) (fun g hg => hg) hfin⟩
set_option maxRecDepth 100000 in
set_option maxHeartbeats 4000000 in
theorem mRepairLast (S : St) (B : Nat) (v : Value) (w : World) (t : List UInt8) (h : Is S B v w) (ht : S.torn = some t) : Calls Try.prog 17 #[.pointer (some ⟨B, 0, none⟩)] w fun e w' =>
    (∃ u, e = .returned u ∧ Texts w' u S.ds ∧ ∀ g, u.ownBlock = some g → w.heap.size ≤ g) ∧ Shrinks S.mended B v w w' := by
  have HR := Lib.hid (mRecords S B v w h)
  have hpl : S.pieces.length = S.ds.length + 1 := by rw [S.pieces_len, ht]; rfl
  have hpt : S.pieces = S.ds.map J.rec ++ [t] := by rw [St.pieces, ht]; rfl
  have hdf := St.ds_few h.ok
  have hhs := St.held_small h.ok
  have htl := (h.ok.torn t ht).1
  have htH : t.length ≤ S.held := by rw [St.held, hpt, St.sum_append]; simp [St.sum]; omega
  rcases h.own.2 with ⟨_, h0⟩ | ⟨g, c, cur, e, hbg, hgw, hnc, hcm, hcs, htake⟩
  · rw [hpl] at h0; omega
  obtain ⟨n, hn⟩ : ∃ n, S.ds.length = n := ⟨_, rfl⟩
  rw [hpl, hn] at e
  subst e
  rw [hpl, hn] at hnc htake
  rw [hn] at hdf
  have htn : cur.toList[n]? = some (strV t) := by
    have h1 : (cur.toList.take ((n + 1) * 1))[n]? = some (strV t) := by
      rw [htake, hpt, List.map_append, List.getElem?_append_right (by simp [hn])]
      simp [hn]
    rwa [List.getElem?_take_of_lt (by omega)] at h1
  have HI := Lib.hid h
  have HN := Lib.hid hn
  have hgl : g < w.heap.size := (Array.getElem?_eq_some_iff.1 hgw).1
  have HE := Lib.hid (fun (W : World) (hI : Is S B (.slice (some ⟨g, 0, none⟩) (n + 1) c) W) (hg : W.heap[g]? = some (.cells cur 9 (0, 0))) => repair_last hI ht hn hg (wrap64 ((S.held : Int) - (t.length : Int))) (by unfold wrap64; omega))
  have hne : g ≠ B := by omega
  have HCS := Lib.hid (show c = cur.size by omega)
  have hn6 : n ≤ 1000000 := by omega
  have hcn : ¬ c = n := by omega
  have hcn' : ¬ n = c := by omega
  have hci : ((n + 1 : Nat) : Int) ≤ (c : Int) := by omega
  have HM := Lib.hid (And.intro hdf (And.intro htake hcs))
  have htz : (txt t).size = t.length := txt_size t
  clear h ht hpl hpt hn hcm htake hbg hnc hhs htl htH hcs
  go_enter Try.func17, Try.ntmps17
  go_wp2_with (go_at_call 22; refine HR.out.mono ?_; rintro e w1 ⟨⟨u, rfl, hTu, hfu⟩, hb1⟩
               obtain ⟨ua, uc, hu⟩ := texts_len' hTu
               rw [HN.out] at hu
               subst hu
               have hI1 := HI.out.below hb1
               have hg1 : w1.heap[g]? = some (.cells cur 9 (0, 0)) := (hb1.block g hgl).trans hgw
               have hc1 : w1.cell? ⟨B, 1, none⟩ = some (.slice (some ⟨g, 0, none⟩) (n + 1) c) := hI1.cell 1 _ rfl
               have hc2 : w1.cell? ⟨B, 2, none⟩ = some (.int .i64 (S.held : Int)) := hI1.cell 2 _ rfl
               have hcg : w1.cell? ⟨g, n, none⟩ = some (strV t) := by rw [Array.getElem?_toList] at htn; simp [World.cell?, hg1, htn]
               have hf1 := hI1.thawed 1
               have hf2 := hI1.thawed 2)
  refine wp_loop_rounds 2 ?_
  rw [rounds_succ]
  go_wp2
  rw [rounds_succ]
  go_wp2
  generalize wrap64 ((S.held : Int) - (t.length : Int)) = hd at *
  obtain ⟨W, hW⟩ : ∃ W, w1.setCell ⟨B, 2, none⟩ (.int .i64 hd) = W := ⟨_, rfl⟩
  have hWc : W.cell? ⟨B, 1, none⟩ = some (.slice (some ⟨g, 0, none⟩) (n + 1) c) := by rw [← hW]; simp [World.cell?, row_set hI1.row 2 (.int .i64 hd), cells]
  have hWg : W.drew.heap[g]? = some (.cells cur 9 (0, 0)) := by rw [← hW]; exact (Below.heap_setCell _ _ _ g hne).trans hg1
  have hfin := HE.out w1 hI1 hg1
  rw [hW] at hfin ⊢
  refine (wpIn_wide (n := 3)).1 ?_
  refine wpIn_region_any (by kernel_rfl) ?_
  change wpAnyIn _ _ _ _ _ _ 16 _ _ W.drew
  have hcd : W.drew.cell? ⟨B, 1, none⟩ = some (.slice (some ⟨g, 0, none⟩) (n + 1) c) := hWc
  refine wpAnyIn_lead wide_plain 0 (v := .pointer (some ⟨B, 0, none⟩)) rfl (by kernel_rfl) (fun _ _ _ h => h) (Or.inl ⟨by rfl, fun X => by go_simp⟩) ?_
  simp only [Act.put, List.setIfInBounds_toArray, List.set_cons_zero, List.set_cons_succ]
  refine wpAnyIn_phase wide_plain 1 12 (g := 4) (by kernel_rfl) rfl (by kernel_rfl) rfl ?_
  simp only [List.drop_succ_cons, List.drop_zero, List.take_succ_cons, List.take_zero, Nat.reduceSub]
  repeat still_step
  refine wpStill_nil ?_
  refine wpAnyIn_sole 12 (by kernel_rfl) rfl (fun K hK => ?_)
  go_simp
  refine ⟨trivial, (callsIn_wide.2 (slDeleteLast g n c cur hci _ hn6 hWg HCS.out)).mono ?_⟩
  rintro e w2 ⟨rfl, rfl⟩
  refine hK _ _ ?_
  clear hK K
  have hd2 : (W.drew.drew.setRow g (List.take n cur.toList ++ [Value.string ⟨#[]⟩] ++ List.drop (n + 1) cur.toList).toArray).heap[B]? = W.heap[B]? := setRow_other _ g B _ (Ne.symm hne)
  generalize W.drew.drew.setRow g (List.take n cur.toList ++ [Value.string ⟨#[]⟩] ++ List.drop (n + 1) cur.toList).toArray = V at *
  have hVc : V.cell? ⟨B, 1, none⟩ = some (.slice (some ⟨g, 0, none⟩) (n + 1) c) := (World.cell?_of_block hd2).trans hWc
  have hVf : V.frozen? ⟨B, 1, none⟩ = false := by
    rw [World.frozen?_of_block (w := W) (w' := V) hd2, ← hW]; simp [World.frozen?, row_set hI1.row 2 (.int .i64 hd)]
  refine wpAnyIn_of_seq (List.drop 13 (Array.toList _)) 13 _ _ _ (fun j => by rw [List.getElem?_drop, Array.getElem?_toList]) (by kernel_rfl) ?_
  simp only [List.drop_succ_cons, List.drop_zero]
  gi_wp2
  go_wp2
  go_ret
  obtain ⟨v', hI', hv', hS'⟩ := hfin
  exact ⟨⟨_, rfl, hTu.still hS' (fun g' hg' => ⟨by have := hfu g' hg'; have := HI.out.lt; omega, by have := hfu g' hg'; simp [Value.ownBlock]; omega⟩), hfu⟩, Shrinks.trans (Still.of_below hb1) (fun g hg => hg) ⟨v', hI', hv', hS'⟩⟩
end Go.Proofs.Ytfbponiiejanfaa
