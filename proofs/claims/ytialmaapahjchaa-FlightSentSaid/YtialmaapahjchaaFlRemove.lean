/-
  remove: walked.
-/
import Derived.Test.YtialmaapahjchaaFlWalk1
import Derived.WalkMore
import Derived.Deep.RegionHeld3
namespace Go.Proofs.Ytialmaapahjchaa
open Go.RowKit Go.Shelf
attribute [local go_sem] Oper.semAt_some
set_option linter.unusedVariables false
set_option linter.unusedSimpArgs false

theorem notes_zero {w : World} {base : Nat} {v : Value} {l : List Nt} (h : Notes w base v l) (k : Nat) (hk : k < l.length) {g n' c : Nat} (hv : v = .slice (some ⟨g, 0, none⟩) n' c) :
    Notes (((w.setCell ⟨g, k * 3, none⟩ (.int .u32 0)).setCell ⟨g, k * 3 + 1, none⟩ (.int .i64 0)).setCell ⟨g, k * 3 + 2, none⟩ (.string ⟨#[]⟩)) base v (l.set k Nt.zero) := h.set k hk Nt.zero hv
theorem three (w : World) (B i j k : Nat) (x y z : Value) {o : Option Nat} {g : Nat} (ho : o = some g) (hne : ¬ B = g) :
    Stays B o w (((w.setCell ⟨g, i, none⟩ x).setCell ⟨g, j, none⟩ y).setCell ⟨g, k, none⟩ z) ∧ (((w.setCell ⟨g, i, none⟩ x).setCell ⟨g, j, none⟩ y).setCell ⟨g, k, none⟩ z).heap[B]? = w.heap[B]? := by
  refine ⟨(((Stays.refl B _ w).setOwn ⟨g, i, none⟩ x ho).setOwn ⟨g, j, none⟩ y ho).setOwn ⟨g, k, none⟩ z ho, ?_⟩
  exact (Below.heap_setCell _ _ _ B hne).trans ((Below.heap_setCell _ _ _ B hne).trans (Below.heap_setCell _ _ _ B hne))
theorem remove_row {F : Fl} {B g : Nat} {v : Value} {W w2 : World} (h : W.heap[B]? = some (.cells (Fl.cells true F v) (Fl.ty true) (0, 0))) (hg : W.drew.grownBy w2 (some g)) (hne : ¬ B = g) : w2.cell? ⟨B, 1, none⟩ = some v ∧ w2.frozen? ⟨B, 1, none⟩ = false := by
  have hB : B < W.heap.size := (Array.getElem?_eq_some_iff.1 h).1
  have hrow2 : w2.heap[B]? = some (.cells (Fl.cells true F v) (Fl.ty true) (0, 0)) := (hg.block B (by simpa using hB) (fun e => hne (by simpa using e))).trans h
  simp [World.cell?, World.frozen?, hrow2, Fl.cells]
theorem eraseIdx_parts (l : List Nt) (k : Nat) : l.eraseIdx k = l.take k ++ l.drop (k + 1) := List.eraseIdx_eq_take_drop_succ l k
/-- The list without one of its notes, laid anew. -/
theorem remove_end {F : Fl} {B k : Nat} {v v' : Value} {w W w2 : World} {g : Nat} (h : Fl.Is true F B v w) (hg : v.ownBlock = some g)
    (hW : Stays B v.ownBlock w W) (hrow : W.heap[B]? = some (.cells (Fl.cells true F v) (Fl.ty true) (0, 0))) (ho : Notes w2 (B + 1) v' (F.notes.take k ++ F.notes.drop (k + 1))) (hgr : W.drew.grownBy w2 v.ownBlock)
    (hat : v'.ownBlock = v.ownBlock ∨ v'.ownBlock = some W.drew.heap.size) : Fl.Turns true { F with notes := F.notes.eraseIdx k } B v w (w2.setCell ⟨B, 1, none⟩ v') := by
  have hgB := (h.own.lt g hg).1
  have hB := h.lt
  have hs := hW.size
  have hrow2 : w2.heap[B]? = some (.cells (Fl.cells true F v) (Fl.ty true) (0, 0)) := (hgr.block B (by simp; omega) (fun e => by rw [hg] at e; cases e; omega)).trans hrow
  refine ⟨v', ⟨?_, ?_, ?_⟩, fun x hx => ?_, ?_⟩
  · have := Fl.row_set hrow2 1 v'
    exact this
  · rw [eraseIdx_parts]
    exact ho.keep (fun x hx => Below.heap_setCell _ _ _ x (by have := (ho.lt x hx).1; simp; omega))
  · exact ⟨Nat.le_trans (List.length_eraseIdx_le _ _) h.ok.few, fun n hn => h.ok.small n (List.mem_of_mem_eraseIdx hn)⟩
  · rcases hat with e | e
    · exact .inl (e ▸ hx)
    · rw [e] at hx; cases hx; exact .inr (by simpa using hs)
  · have : Stays B v.ownBlock w W.drew := ⟨hW.os, hW.tape, hW.output, hW.size, hW.block⟩
    exact (this.grown hgr).setCell _ _ rfl
set_option maxRecDepth 100000 in
set_option maxHeartbeats 4000000 in
theorem flRemove (F : Fl) (B : Nat) (v : Value) (k : Nat) (w : World) (h : Fl.Is true F B v w) (hk : k < F.notes.length) : Calls Try.prog 32 #[.pointer (some ⟨B, 0, none⟩), .int .i64 (k : Int)] w fun e w' =>
    e = .returned (.tuple #[]) ∧ Fl.Turns true { F with notes := F.notes.eraseIdx k } B v w w' := by
  obtain ⟨g, c, hv, hc, hbg, hgw, hfz, q0, q1, q2⟩ := h.own.cell k hk
  have hc1 : w.cell? ⟨B, 1, none⟩ = some v := h.cell 1 _ rfl
  have hf1 := h.thawed 1
  have hne : ¬ B = g := by omega
  have hne' : ¬ g = B := by omega
  have z0 := hfz (k * 3)
  have z1 := hfz (k * 3 + 1)
  have z2 := hfz (k * 3 + 2)
  obtain ⟨n, hn⟩ : ∃ n, F.notes.length = n := ⟨_, rfl⟩
  have hkb : k < 1000 := by have := h.ok.few; omega
  have HN := Lib.hid hn
  have HI := Lib.hid h
  rw [hn] at hv hc hk
  have hki : (k : Int) < (n : Int) := by omega
  have hnk : (k : Int) + 1 ≤ (n : Int) := by omega
  have hcI : (n : Int) ≤ (c : Int) := by omega
  have hkc : (k : Int) ≤ (c : Int) := by omega
  clear h hn hfz
  subst hv
  by_cases hcn : c = k + 1
  · obtain ⟨m, hm⟩ : ∃ m, k + 1 = m := ⟨_, rfl⟩
    obtain rfl : n = m := by omega
    obtain rfl : n = c := by omega
    have HM := Lib.hid hm
    clear hm hcn
    go_enter Try.func32, Try.ntmps32
    go_wp2
    obtain ⟨W, hW⟩ : ∃ W, (((w.setCell ⟨g, k * 3, none⟩ (.int .u32 0)).setCell ⟨g, k * 3 + 1, none⟩ (.int .i64 0)).setCell ⟨g, k * 3 + 2, none⟩ (.string ⟨#[]⟩)) = W := ⟨_, rfl⟩
    rw [hW]
    have hset : Notes W (B + 1) (.slice (some ⟨g, 0, none⟩) n n) (F.notes.set k Nt.zero) := by
      have := notes_zero HI.out.own k (by rw [HN.out]; exact hk) rfl
      rw [hW] at this
      exact this
    have hkl : k < (F.notes.set k Nt.zero).length := by rw [List.length_set, HN.out]; exact hk
    obtain ⟨g', c', e1, hfront⟩ := hset.front k hkl
    simp only [Value.slice.injEq, Option.some.injEq, Addr.mk.injEq, and_true] at e1
    obtain ⟨e0, -, -⟩ := e1
    subst e0
    obtain ⟨g', c', e1, _, _, hgW, _, hcells⟩ := hset.get (by omega)
    simp only [Value.slice.injEq, Option.some.injEq, Addr.mk.injEq, and_true] at e1
    obtain ⟨e0, -, -⟩ := e1
    subst e0
    have eT : (F.notes.set k Nt.zero).take k = F.notes.take k := by rw [List.take_set_of_le (Nat.le_refl _)]
    have eD : (F.notes.set k Nt.zero).drop (k + 1) = F.notes.drop (k + 1) := by rw [List.drop_set_of_lt (by omega)]
    rw [eT] at hfront
    have h3 := three w B (k * 3) (k * 3 + 1) (k * 3 + 2) (.int .u32 0) (.int .i64 0) (.string ⟨#[]⟩) (o := some g) rfl hne
    rw [hW] at h3
    obtain ⟨hst, hrow0⟩ := h3
    have hrow := hrow0.trans HI.out.row
    have hcW : W.cell? ⟨B, 1, none⟩ = some (.slice (some ⟨g, 0, none⟩) n n) := by simp [World.cell?, hrow, Fl.cells]
    have hfW : W.frozen? ⟨B, 1, none⟩ = false := by simp [World.frozen?, hrow]
    have hBW : B < W.heap.size := (Array.getElem?_eq_some_iff.1 hrow).1
    have hnews : ∀ j u, (flat (F.notes.drop (k + 1)))[j]? = some u → W.cell? ((⟨g, 0, none⟩ : Addr).add j) = some u := by
      intro j u hu
      have h0 : F.notes.drop (k + 1) = [] := List.drop_eq_nil_of_le (by have := HM.out; rw [HN.out]; omega)
      rw [h0] at hu; simp [flat] at hu
    have hlt : (F.notes.take k).length = k := by rw [List.length_take, HN.out]; omega
    have hld : (F.notes.drop (k + 1)).length = 0 := by have := HM.out; rw [List.length_drop, HN.out]; omega
    have hfew : (F.notes.take k).length + 0 ≤ 1000000 := by have := HI.out.ok.few; rw [HN.out] at this; rw [hlt]; omega
    have hB1 : B + 1 ≤ W.drew.heap.size := by simp; omega
    have HRR := Lib.hid (fun (w2 : World) (hg : W.drew.grownBy w2 (some g)) => remove_row (w2 := w2) (v := (.slice (some ⟨g, 0, none⟩) n n)) hrow hg hne)
    have HE := Lib.hid (fun (w2 : World) (v' : Value) => remove_end (v' := v') (w2 := w2) (k := k) HI.out rfl hst hrow)
    have HF := Lib.hid (show Notes W.drew (B + 1) (.slice (some ⟨g, 0, none⟩) k k) (F.notes.take k) from hfront)
    have HNW := Lib.hid (show ∀ j u, (flat (F.notes.drop (k + 1)))[j]? = some u → W.drew.cell? ((⟨g, 0, none⟩ : Addr).add j) = some u from hnews)
    clear hW hset hkl hcells hfront hnews eT eD hst HI hc1 hf1 q0 q1 q2 z0 z1 z2
    refine (wpIn_wide (n := 3)).1 ?_
    refine wpIn_region_any (by kernel_rfl) ?_
    change wpAnyIn _ _ _ _ _ _ 19 _ _ W.drew
    have hcd : (W.drew).cell? ⟨B, 1, none⟩ = some (.slice (some ⟨g, 0, none⟩) n n) := hcW
    refine wpAnyIn_lead wide_plain 0 (v := .pointer (some ⟨B, 0, none⟩)) rfl (by kernel_rfl) (fun _ _ _ h => h) (Or.inl ⟨by rfl, fun X => by go_simp⟩) ?_
    simp only [Act.put, List.setIfInBounds_toArray, List.set_cons_zero, List.set_cons_succ]
    refine wpAnyIn_phase wide_plain 1 15 (g := 4) (by kernel_rfl) rfl (by kernel_rfl) rfl ?_
    simp only [List.drop_succ_cons, List.drop_zero, List.take_succ_cons, List.take_zero, Nat.reduceSub]
    have hwr : IntKind.i64.wrap ((k : Int) + 1) = (n : Int) := by have := HM.out; rw [IntWalk.i64_in _ (by omega)]; omega
    repeat still_step
    refine wpStill_nil ?_
    refine wpAnyIn_of_seq (List.drop 15 (Array.toList _)) 15 _ _ _ (fun j => by rw [List.getElem?_drop, Array.getElem?_toList]) (by kernel_rfl) ?_
    simp only [List.drop_succ_cons, List.drop_zero]
    gi_wp2_with (gi_at_builtin; refine wpListIn_append_notes rfl _ _ rfl (B + 1) _ (F.notes.take k) rfl HF.out ⟨g, 0, none⟩ 0 _ (F.notes.drop (k + 1)) rfl hld HNW.out hfew hB1 ?_; intro v' w2 hown' hgrow hat; have hend := HE.out w2 v' hown' hgrow hat; obtain ⟨hy2, hz2⟩ := HRR.out w2 hgrow; obtain ⟨a2, c2, e2, _⟩ := hown'.form; generalize (List.take k F.notes ++ List.drop (k + 1) F.notes).length = q at e2; subst e2)
    go_wp2
    go_end0
    exact ⟨rfl, hend⟩
  · have hci : (k : Int) + 1 < (c : Int) := by omega
    go_enter Try.func32, Try.ntmps32
    go_wp2
    obtain ⟨W, hW⟩ : ∃ W, (((w.setCell ⟨g, k * 3, none⟩ (.int .u32 0)).setCell ⟨g, k * 3 + 1, none⟩ (.int .i64 0)).setCell ⟨g, k * 3 + 2, none⟩ (.string ⟨#[]⟩)) = W := ⟨_, rfl⟩
    rw [hW]
    have hset : Notes W (B + 1) (.slice (some ⟨g, 0, none⟩) n c) (F.notes.set k Nt.zero) := by
      have := notes_zero HI.out.own k (by rw [HN.out]; exact hk) rfl
      rw [hW] at this
      exact this
    have hkl : k < (F.notes.set k Nt.zero).length := by rw [List.length_set, HN.out]; exact hk
    obtain ⟨g', c', e1, hfront⟩ := hset.front k hkl
    simp only [Value.slice.injEq, Option.some.injEq, Addr.mk.injEq, and_true] at e1
    obtain ⟨e0, -, -⟩ := e1
    subst e0
    obtain ⟨g', c', e1, _, _, hgW, _, hcells⟩ := hset.get (by omega)
    simp only [Value.slice.injEq, Option.some.injEq, Addr.mk.injEq, and_true] at e1
    obtain ⟨e0, -, -⟩ := e1
    subst e0
    have eT : (F.notes.set k Nt.zero).take k = F.notes.take k := by rw [List.take_set_of_le (Nat.le_refl _)]
    have eD : (F.notes.set k Nt.zero).drop (k + 1) = F.notes.drop (k + 1) := by rw [List.drop_set_of_lt (by omega)]
    rw [eT] at hfront
    have h3 := three w B (k * 3) (k * 3 + 1) (k * 3 + 2) (.int .u32 0) (.int .i64 0) (.string ⟨#[]⟩) (o := some g) rfl hne
    rw [hW] at h3
    obtain ⟨hst, hrow0⟩ := h3
    have hrow := hrow0.trans HI.out.row
    have hcW : W.cell? ⟨B, 1, none⟩ = some (.slice (some ⟨g, 0, none⟩) n c) := by simp [World.cell?, hrow, Fl.cells]
    have hfW : W.frozen? ⟨B, 1, none⟩ = false := by simp [World.frozen?, hrow]
    have hBW : B < W.heap.size := (Array.getElem?_eq_some_iff.1 hrow).1
    have hnews : ∀ j u, (flat (F.notes.drop (k + 1)))[j]? = some u → W.cell? ((⟨g, (k + 1) * 3, none⟩ : Addr).add j) = some u := by
      intro j u hu
      rw [← eD, ← flat_drop, List.getElem?_drop] at hu
      have := hcells _ _ hu
      have e : (⟨g, (k + 1) * 3, none⟩ : Addr).add j = ⟨g, (k + 1) * 3 + j, none⟩ := by unfold Addr.add; split <;> simp_all
      rw [e]; exact this
    have hlt : (F.notes.take k).length = k := by rw [List.length_take, HN.out]; omega
    have hld : (F.notes.drop (k + 1)).length = n - (k + 1) := by rw [List.length_drop, HN.out]
    have hfew : (F.notes.take k).length + (n - (k + 1)) ≤ 1000000 := by have := HI.out.ok.few; rw [HN.out] at this; rw [hlt]; omega
    have hB1 : B + 1 ≤ W.drew.heap.size := by simp; omega
    have HRR := Lib.hid (fun (w2 : World) (hg : W.drew.grownBy w2 (some g)) => remove_row (w2 := w2) (v := (.slice (some ⟨g, 0, none⟩) n c)) hrow hg hne)
    have HE := Lib.hid (fun (w2 : World) (v' : Value) => remove_end (v' := v') (w2 := w2) (k := k) HI.out rfl hst hrow)
    have HF := Lib.hid (show Notes W.drew (B + 1) (.slice (some ⟨g, 0, none⟩) k k) (F.notes.take k) from hfront)
    have HNW := Lib.hid (show ∀ j u, (flat (F.notes.drop (k + 1)))[j]? = some u → W.drew.cell? ((⟨g, (k + 1) * 3, none⟩ : Addr).add j) = some u from hnews)
    clear hW hset hkl hcells hfront hnews eT eD hst HI hc1 hf1 q0 q1 q2 z0 z1 z2
    refine (wpIn_wide (n := 3)).1 ?_
    refine wpIn_region_any (by kernel_rfl) ?_
    change wpAnyIn _ _ _ _ _ _ 19 _ _ W.drew
    have hcd : (W.drew).cell? ⟨B, 1, none⟩ = some (.slice (some ⟨g, 0, none⟩) n c) := hcW
    refine wpAnyIn_lead wide_plain 0 (v := .pointer (some ⟨B, 0, none⟩)) rfl (by kernel_rfl) (fun _ _ _ h => h) (Or.inl ⟨by rfl, fun X => by go_simp⟩) ?_
    simp only [Act.put, List.setIfInBounds_toArray, List.set_cons_zero, List.set_cons_succ]
    refine wpAnyIn_phase wide_plain 1 15 (g := 4) (by kernel_rfl) rfl (by kernel_rfl) rfl ?_
    simp only [List.drop_succ_cons, List.drop_zero, List.take_succ_cons, List.take_zero, Nat.reduceSub]
    have hwr : IntKind.i64.wrap ((k : Int) + 1) = (k : Int) + 1 := IntWalk.i64_in _ (by omega)
    have htn : ((k : Int) + 1).toNat = k + 1 := by omega
    have h0k : (0 : Int) ≤ (k : Int) + 1 := by omega
    repeat still_step
    refine wpStill_nil ?_
    refine wpAnyIn_of_seq (List.drop 15 (Array.toList _)) 15 _ _ _ (fun j => by rw [List.getElem?_drop, Array.getElem?_toList]) (by kernel_rfl) ?_
    simp only [List.drop_succ_cons, List.drop_zero]
    gi_wp2_with (gi_at_builtin; refine wpListIn_append_notes rfl _ _ rfl (B + 1) _ (F.notes.take k) rfl HF.out ⟨g, (k + 1) * 3, none⟩ (n - (k + 1)) _ (F.notes.drop (k + 1)) rfl hld HNW.out hfew hB1 ?_; intro v' w2 hown' hgrow hat; have hend := HE.out w2 v' hown' hgrow hat; obtain ⟨hy2, hz2⟩ := HRR.out w2 hgrow; obtain ⟨a2, c2, e2, _⟩ := hown'.form; generalize (List.take k F.notes ++ List.drop (k + 1) F.notes).length = q at e2; subst e2)
    go_wp2
    go_end0
    exact ⟨rfl, hend⟩
end Go.Proofs.Ytialmaapahjchaa
