/-
  medium.records: walked.
-/
import Derived.Test.YtfbponiiejanfaaStMath
import Derived.Test.YtfbponiiejanfaaStValues
namespace Go.Proofs.Ytfbponiiejanfaa
open Go.RowKit Go.Shelf
attribute [local go_sem] Oper.semAt_some
set_option linter.unusedVariables false
set_option linter.unusedSimpArgs false

theorem slClip (a : Option Addr) (n c : Nat) (hn : (n : Int) ≤ (c : Int)) (w : World) : Calls Try.prog 28 #[.slice a n c] w fun e w' =>
    e = .returned (.slice a n n) ∧ Below w.heap.size w w' := by
  go_enter Try.func28, Try.ntmps28
  go_wp2
  go_ret
  exact ⟨rfl, Below.refl _ _⟩
theorem owns_form {w : World} {base n : Nat} {v : Value} {xs : List Value} {t : TypeId} (h : w.ownsRow base t 1 v n xs) : ∃ a c, v = .slice a n c ∧ (n : Int) ≤ (c : Int) := by
  rcases h.2 with ⟨rfl, rfl⟩ | ⟨g, cap, cur, rfl, _, _, hc, _⟩
  · exact ⟨_, _, rfl, by omega⟩
  · exact ⟨_, _, rfl, by omega⟩
theorem owns_below {w w' : World} {base n : Nat} {v : Value} {xs : List Value} {t : TypeId} (h : w.ownsRow base t 1 v n xs) (hb : Below w.heap.size w w') : w'.ownsRow base t 1 v n xs := by
  refine h.kept (grown_below' hb none) ?_
  rcases h.2 with ⟨rfl, _⟩ | ⟨g, cap, cur, rfl, _⟩
  · exact .inl rfl
  · exact .inr (by simp [Value.ownBlock])
theorem owns_textsO {W : World} {n : Nat} {v : Value} {ds : List (List UInt8)} (h : W.ownsRow n 9 1 v ds.length (ds.map strV)) : TextsO W v ds ∧ ∀ g, v.ownBlock = some g → g < W.heap.size := by
  have hT := texts_of_owns h rfl
  refine ⟨hT.toO, fun g hg => ?_⟩
  rcases hT with ⟨rfl, _⟩ | ⟨g', c, rfl, _, hg', _⟩
  · cases hg
  · cases hg; exact hg'
theorem Is.cell {S : St} {B : Nat} {v : Value} {w : World} (h : Is S B v w) (k : Nat) (u : Value) (hk : (cells S v)[k]? = some u) : w.cell? ⟨B, k, none⟩ = some u := by
  simp [World.cell?, h.row, hk]
theorem Is.lt {S : St} {B : Nat} {v : Value} {w : World} (h : Is S B v w) : B < w.heap.size := (Array.getElem?_eq_some_iff.1 h.row).1
theorem take_step {ds : List (List UInt8)} {k : Nat} (hk : k < ds.length) : ds.take (k + 1) = ds.take k ++ [ds[k]] := List.take_succ_eq_append_getElem hk
/-- What records keeps while it goes on. -/
def Coll (n₀ : Nat) (ds : List (List UInt8)) (W : World) : Prop := ∃ v, Boxed W n₀ 24 v ∧ W.ownsRow n₀ 9 1 v ds.length (ds.map strV) ∧ True
theorem Coll.own {β : Type} (n₀ B : Nat) (f : β → List (List UInt8)) : OwnFrom B (fun k W => Coll n₀ (f k) W) :=
  Own.from (holdsRow_own n₀ n₀ _ _ 1 (fun k => (f k).length) (fun k => (f k).map strV) (fun _ _ => True)) B
theorem Coll.append {W w1 : World} {n₀ : Nat} {v v' : Value} {ds ys : List (List UInt8)} (hv : Boxed W n₀ 24 v) (hr : W.ownsRow n₀ 9 1 v ds.length (ds.map strV)) (hn₀ : n₀ ≤ W.heap.size)
    (hown' : w1.ownsRow n₀ 9 1 v' (ds.length + ys.length) (ds.map strV ++ ys.map strV)) (hgrow : W.grownBy w1 v.ownBlock) :
    Boxed w1 n₀ 24 v ∧ Coll n₀ (ds ++ ys) (w1.setCell ⟨n₀, 0, none⟩ v') ∧ KeepsOthers W (w1.setCell ⟨n₀, 0, none⟩ v') ∧ Below n₀ W (w1.setCell ⟨n₀, 0, none⟩ v') := by
  have hv1 : Boxed w1 n₀ 24 v := hv.kept hgrow (hv.not_row (by decide) hr)
  have hrow : ∀ j, v.ownBlock = some j → n₀ ≤ j ∧ ∃ o : Obj, W.heap[j]? = some o ∧ o.isCells = true := fun j ej => by
    rcases hr.2 with ⟨rfl, _⟩ | ⟨g, cap, cur, rfl, hb, hgb, _⟩
    · cases ej
    · cases ej; exact ⟨hb, _, hgb, rfl⟩
  refine ⟨hv1, ⟨v', hv1.set v', ?_, trivial⟩, ?_, ?_⟩
  · have := hown'.kept (grownBy_setCell' w1 n₀ v') (.inr (hv1.not_row (by decide) hown').symm)
    simpa using this
  · refine (KeepsOthers.of_grownBy hgrow fun j o ej hj => ?_).trans (KeepsOthers.setCell _ _ _)
    obtain ⟨_, o', ho', hc⟩ := hrow j ej
    rw [hj] at ho'; cases ho'; exact hc
  · exact ((Below.refl n₀ W).grown hgrow hn₀ (fun j ej => (hrow j ej).1)).setCell (p := ⟨n₀, 0, none⟩) (Nat.le_refl _) v'
set_option maxRecDepth 100000 in
set_option maxHeartbeats 4000000 in
theorem mRecords (S : St) (B : Nat) (v : Value) (w : World) (h : Is S B v w) : Calls Try.prog 22 #[.pointer (some ⟨B, 0, none⟩)] w fun e w' =>
    (∃ u, e = .returned u ∧ Texts w' u S.ds ∧ ∀ g, u.ownBlock = some g → w.heap.size ≤ g) ∧ Below w.heap.size w w' := by
  obtain ⟨a, c, rfl, hac⟩ := owns_form h.own
  have hB := h.lt
  have hc1 : w.cell? ⟨B, 1, none⟩ = some (.slice a S.pieces.length c) := h.cell 1 _ rfl
  obtain ⟨hTO, hg0⟩ := owns_textsO (ds := S.pieces) (by have := h.own; exact this)
  have hok := h.ok
  have hfew := St.pieces_few hok
  have hdfew := St.ds_few hok
  have hpa := fun k x hx => St.piece_at hok k x hx
  have hps := fun k x hx => St.piece_small hok k x hx
  have hro := fun k hk => St.read_one hok k hk
  have htorn := hok.torn
  have hle : S.ds.length ≤ S.pieces.length := by rw [S.pieces_len]; omega
  clear h hok
  generalize S.pieces = ps at *
  generalize S.torn = torn at *
  generalize S.ds = ds at *
  clear S
  obtain ⟨pn, hpn⟩ : ∃ pn, ps.length = pn := ⟨_, rfl⟩
  have HPN := Lib.hid hpn
  have HTO := Lib.hid hTO
  have HG := Lib.hid hg0
  rw [hpn] at hc1 hac
  clear hTO hg0 hpn
  refine (callsIn_wide (n := 3)).1 ?_
  refine callsIn_of_wp_marks Try.func22 rfl trivial ?_ rfl
  simp only [Try.ntmps22, List.size_toArray, List.length_cons, List.length_nil, Nat.reduceAdd, Nat.reduceSub, Array.replicate_succ, Array.replicate_zero, List.push_toArray, List.append_toArray, List.nil_append, List.cons_append]
  refine wpIn_wide.2 ?_
  have hz : (w.alloc (.cells #[.slice none 0 0] 24)).cell? ⟨B, 1, none⟩ = some (.slice a pn c) := (World.cell?_of_block (Below.heap_alloc w _ B hB)).trans hc1
  go_wp2
  go_step3
  go_wp2
  go_step3
  go_wp2_with (go_at_call 27; refine (slValues _ _ _ _).mono ?_; rintro e w' ⟨rfl, rfl⟩)
  refine (wpIn_wide (n := 3)).1 ?_
  have b0 := Boxed.new w 24 (.slice none 0 0)
  have b1 := Boxed.new (w.alloc (.cells #[.slice none 0 0] 24)) 24 (.slice a pn c)
  simp only [World.size_alloc] at b1
  have hB0 : Below w.heap.size w ((w.alloc (.cells #[.slice none 0 0] 24)).alloc (.cells #[.slice a pn c] 24)) :=
    ((Below.refl _ w).alloc (Nat.le_refl _) _).alloc (by simp) _
  have R0 : Coll w.heap.size (ds.take 0) ((w.alloc (.cells #[.slice none 0 0] 24)).alloc (.cells #[.slice a pn c] 24)) :=
    ⟨.slice none 0 0, b0.alloc _, World.ownsRow_nil _ _ _ _, trivial⟩
  have hTO1 : TextsO ((w.alloc (.cells #[.slice none 0 0] 24)).alloc (.cells #[.slice a pn c] 24)) (.slice a pn c) ps := by
    have := HTO.out.below hB0 (Nat.le_refl _)
    rw [HPN.out] at this
    exact this
  have hG1 : ∀ g, (Value.slice a pn c).ownBlock = some g → g < w.heap.size := by
    have := HG.out
    rw [HPN.out] at this
    exact this
  have hgoes := valuesGoes (3 - 1) (by omega) w.heap.size _ (w.heap.size + 1) (.slice a pn c) ps (by simp) b1.cell hTO1 hG1 (by omega)
  clear b0 b1 hTO1 hG1 HG hz hc1
  refine wpIn_goes_found rfl (by omega) (gf := 34) (lb := #[.pointer (some ⟨w.heap.size + 1, 0, none⟩)]) rfl trivial (enters_of Try.func34 (by kernel_rfl) rfl)
    hgoes (by rintro b h; simp; omega) (Below.refl _ _) (fun _ => rfl)
    (fun k W => Coll w.heap.size (ds.take k) W ∧ Below w.heap.size w W)
    (fun cc k W => cc = .exit 0 ∧ (ds.take k = ds) ∧ Coll w.heap.size (ds.take k) W ∧ Below w.heap.size w W)
    (OwnFrom.and (Coll.own _ _ (fun k => ds.take k)) (ownFrom_below (Nat.le_refl _) (by simp; omega)))
    (fun cc => OwnFrom.and (ownFrom_pure _ _) (OwnFrom.and (ownFrom_pure _ _) (OwnFrom.and (Coll.own _ _ (fun k => ds.take k)) (ownFrom_below (Nat.le_refl _) (by simp; omega)))))
    ⟨R0, hB0⟩
    ⟨_, (by intro l x W K hK; gi_wp2; exact hK), ?body⟩ ?done ?stop
  case body =>
    rintro lp k x W hx ⟨⟨v, hv, hr, -⟩, hBw⟩
    have hxl := hps k x hx
    have hxs : (txt x).size ≤ 100000 := by rw [txt_size]; omega
    have hread := fun W => jRead (txt x) hxs W
    rw [txt_toList] at hread
    have hc := hv.cell
    have hf := hv.frozen
    have hlen : (ds.take k).length ≤ 116508 := Nat.le_trans (by rw [List.length_take]; omega) hdfew
    have hnw := hBw.size
    have hnw' : w.heap.size ≤ W.heap.size := by omega
    have APP : ∀ {v' : Value} {W1 w2 : World} {ys : List (List UInt8)}, Below W.heap.size W W1 → w2.ownsRow w.heap.size 9 1 v' ((ds.take k).length + ys.length) ((ds.take k).map strV ++ ys.map strV) → W1.grownBy w2 v.ownBlock →
        Boxed w2 w.heap.size 24 v ∧ Coll w.heap.size (ds.take k ++ ys) (w2.setCell ⟨w.heap.size, 0, none⟩ v') ∧ KeepsOthers W1 (w2.setCell ⟨w.heap.size, 0, none⟩ v') ∧ Below w.heap.size W1 (w2.setCell ⟨w.heap.size, 0, none⟩ v') := fun hb ho hg =>
      Coll.append (boxed_stays hv (grown_below' hb none) (fun r h => by cases h)) (owns_below hr hb) (Nat.le_trans hnw' hb.size) ho hg
    rcases hpa k x hx with ⟨hk, rfl⟩ | ⟨hkd, ht, hpk⟩
    · obtain ⟨hr1, hr2⟩ := hro k hk
      rw [hr1, hr2, ← txt_size] at hread
      have HD := Lib.hid (take_step hk)
      have HRD := Lib.hid hread
      generalize ds[k] = d at *
      generalize txt (J.rec d) = T at *
      clear hr1 hr2 hread hx
      gi_wp2_with (first
        | (refine ⟨trivial, ?_⟩; gi_at_call 24; refine (CallsIn.inRound lp (callsIn_wide.2 (HRD.out _))).mono ?_; rintro e w1 ⟨⟨u, rfl, hTu⟩, hb1⟩; have hc1 := (boxed_stays hv (grown_below' hb1 none) (fun r h => by cases h)).cell)
        | (gi_at_builtin; refine wpListIn_append_texts _ rfl _ _ rfl w.heap.size v u (ds.take k).length ((ds.take k).map strV) [d] rfl (owns_below hr hb1) hTu rfl (by simp; omega) (Nat.le_trans hnw' hb1.size) ?_; intro v' w2 hown' hgrow; obtain ⟨hv1, hC2, hk2, hb2⟩ := APP hb1 hown' hgrow; obtain ⟨a2, c2, e2, _⟩ := owns_form hown'; generalize (ds.take k).length + [d].length = q at e2; subst e2; have hc2 := hv1.cell; have hf2 := hv1.frozen))
      exact ⟨(from_below' hb1).trans (hk2.from _), (fun b hb => (hb2.block b hb).trans (hb1.block b (by have : b < w.heap.size := hb; omega))), (by rw [HD.out]; exact hC2), (hBw.trans (hb1.mono hnw')).trans hb2⟩
    · obtain ⟨ht1, ht2, ht3⟩ := htorn x ht
      rw [ht2, ht3] at hread
      have HRD := Lib.hid hread
      have hdd : ds.take k = ds := List.take_of_length_le (by omega)
      have hdd1 : ds.take (k + 1) = ds ++ [] := by rw [List.append_nil]; exact List.take_of_length_le (by omega)
      rw [hdd] at hr hlen APP
      have HD := Lib.hid hdd
      have HD1 := Lib.hid hdd1
      generalize hT : txt x = T at *
      have HPA := Lib.hid hpa
      by_cases h0 : T.size = 0
      · have h0i : (T.size : Int) = 0 := by omega
        clear hread hx hpa hps hro htorn hgoes R0 hB0 hdd hdd1
        gi_wp2_with (first
          | (refine ⟨trivial, ?_⟩; gi_at_call 24; refine (CallsIn.inRound lp (callsIn_wide.2 (HRD.out _))).mono ?_; rintro e w1 ⟨⟨u, rfl, hTu⟩, hb1⟩; have hc1 := (boxed_stays hv (grown_below' hb1 none) (fun r h => by cases h)).cell)
          | (gi_at_builtin; refine wpListIn_append_texts _ rfl _ _ rfl w.heap.size v u ds.length (ds.map strV) [] rfl (owns_below hr hb1) hTu rfl (by simp; omega) (Nat.le_trans hnw' hb1.size) ?_; intro v' w2 hown' hgrow; obtain ⟨hv1, hC2, hk2, hb2⟩ := APP hb1 hown' hgrow; obtain ⟨a2, c2, e2, _⟩ := owns_form hown'; generalize ds.length + ([] : List (List UInt8)).length = q at e2; subst e2; have hc2 := hv1.cell; have hf2 := hv1.frozen))
        exact ⟨(from_below' hb1).trans (hk2.from _), (fun b hb => (hb2.block b hb).trans (hb1.block b (by have : b < w.heap.size := hb; omega))), (by rw [HD1.out]; exact hC2), (hBw.trans (hb1.mono hnw')).trans hb2⟩
      · have h0i : (0 : Int) < (T.size : Int) := by omega
        clear hread hx hpa hps hro htorn hgoes R0 hB0 hdd hdd1 APP
        gi_wp2_with (first
          | (refine ⟨trivial, ?_⟩; gi_at_call 24; refine (CallsIn.inRound lp (callsIn_wide.2 (HRD.out _))).mono ?_; rintro e w1 ⟨⟨u, rfl, hTu⟩, hb1⟩))
        exact ⟨from_below' hb1, rfl, HD.out, ⟨v, boxed_stays hv (grown_below' hb1 none) (fun r h => by cases h), (by rw [HD.out]; exact owns_below hr hb1), trivial⟩, hBw.trans (hb1.mono hnw')⟩
  case done =>
    rintro D W hD ⟨⟨v, hv, hr, -⟩, hBw⟩ hK
    have hall : ds.take ps.length = ds := List.take_of_length_le hle
    rw [hall] at hr
    have hpk := hall
    obtain ⟨a2, c2, rfl, hac2⟩ := owns_form hr
    have hTW := texts_of_owns hr rfl
    have hfr : ∀ g, a2.map (·.block) = some g → w.heap.size ≤ g := fun g hg => by
      refine (owns_base hr g ?_).1
      cases a2 with
      | none => cases hg
      | some x => exact hg
    have hc := hv.cell
    obtain ⟨q, hq⟩ : ∃ q, ds.length = q := ⟨_, rfl⟩
    rw [hq] at hac2 hc
    have HT := Lib.hid hTW
    have HQ := Lib.hid hq
    clear R0 hB0 hgoes hr hv hTW hq hpa hps hro htorn hpk
    go_wp2_with (go_at_call 28; refine (slClip _ _ _ hac2 _).mono ?_; rintro e w1 ⟨rfl, hb1⟩)
    go_wp2
    try rw [Exit.noGoto_ret]
    have hDl : D < W.heap.size := (Array.getElem?_eq_some_iff.1 hK).1
    have hKn : w1.heap[D]? = some (.deferred (some [])) := (hb1.block D hDl).trans hK
    have hT1 : Texts w1 (.slice a2 q q) ds := by
      rcases HT.out with ⟨e0, e1⟩ | ⟨g, c3, e0, hc3, hg, hx⟩
      · have hq3 := HQ.out
        rw [e1] at hq3
        simp only [Value.slice.injEq] at e0
        rw [e0.1, ← hq3]
        exact .inl ⟨rfl, e1⟩
      · have hq3 := HQ.out
        simp only [Value.slice.injEq] at e0
        rw [e0.1]
        exact .inr ⟨g, q, by rw [hq3], by omega, by have := hb1.size; omega, fun j hj => (hb1.cell (p := ⟨g, j, none⟩) hg).trans (hx j hj)⟩
    refine ⟨by simp, .inl ⟨_, _, rfl, run_takeDeferred hKn, ?_⟩⟩
    refine ⟨_, results_tmp rfl _ _ _, ⟨.slice a2 q q, rfl, Texts.swept (nq := 0) hT1 hKn, fun g hg => hfr g (by cases a2 with | none => cases hg | some x => exact hg)⟩, (hBw.trans (hb1.mono hBw.size)).trans (belowK_b (w := w) (Nat.le_refl _) _ D _ _ (by simp at hD; omega) hKn rfl rfl)⟩
  case stop =>
    rintro D cc k W hD hk ⟨rfl, hall, ⟨v, hv, hr, -⟩, hBw⟩ hK
    rw [hall] at hr
    have hpk := hall
    obtain ⟨a2, c2, rfl, hac2⟩ := owns_form hr
    have hTW := texts_of_owns hr rfl
    have hfr : ∀ g, a2.map (·.block) = some g → w.heap.size ≤ g := fun g hg => by
      refine (owns_base hr g ?_).1
      cases a2 with
      | none => cases hg
      | some x => exact hg
    have hc := hv.cell
    obtain ⟨q, hq⟩ : ∃ q, ds.length = q := ⟨_, rfl⟩
    rw [hq] at hac2 hc
    have HT := Lib.hid hTW
    have HQ := Lib.hid hq
    clear R0 hB0 hgoes hr hv hTW hq hpa hps hro htorn hpk
    gi_wp2
    go_wp2_with (go_at_call 28; refine (slClip _ _ _ hac2 _).mono ?_; rintro e w1 ⟨rfl, hb1⟩)
    go_wp2
    try rw [Exit.noGoto_ret]
    have hDl : D < W.heap.size := (Array.getElem?_eq_some_iff.1 hK).1
    have hKn : w1.heap[D]? = some (.deferred (some [])) := (hb1.block D hDl).trans hK
    have hT1 : Texts w1 (.slice a2 q q) ds := by
      rcases HT.out with ⟨e0, e1⟩ | ⟨g, c3, e0, hc3, hg, hx⟩
      · have hq3 := HQ.out
        rw [e1] at hq3
        simp only [Value.slice.injEq] at e0
        rw [e0.1, ← hq3]
        exact .inl ⟨rfl, e1⟩
      · have hq3 := HQ.out
        simp only [Value.slice.injEq] at e0
        rw [e0.1]
        exact .inr ⟨g, q, by rw [hq3], by omega, by have := hb1.size; omega, fun j hj => (hb1.cell (p := ⟨g, j, none⟩) hg).trans (hx j hj)⟩
    refine ⟨by simp, .inl ⟨_, _, rfl, run_takeDeferred hKn, ?_⟩⟩
    refine ⟨_, results_tmp rfl _ _ _, ⟨.slice a2 q q, rfl, Texts.swept (nq := 0) hT1 hKn, fun g hg => hfr g (by cases a2 with | none => cases hg | some x => exact hg)⟩, (hBw.trans (hb1.mono hBw.size)).trans (belowK_b (w := w) (Nat.le_refl _) _ D _ _ (by simp at hD; omega) hKn rfl rfl)⟩
end Go.Proofs.Ytfbponiiejanfaa
