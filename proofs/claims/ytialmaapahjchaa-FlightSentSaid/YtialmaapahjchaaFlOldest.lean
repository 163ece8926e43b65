/-
  flight's Oldest: walked.
-/
import Derived.Test.YtialmaapahjchaaFlTold
import Derived.Test.YtialmaapahjchaaFlWalk1
namespace Go.Proofs.Ytialmaapahjchaa
open Go.RowKit Go.Shelf
attribute [local go_sem] Oper.semAt_some
set_option linter.unusedVariables false
set_option linter.unusedSimpArgs false

theorem zip_at (l : List Nt) (k : Nat) (x : Nat × Nt) (h : (l.zipIdx.map fun p => (p.2, p.1))[k]? = some x) : ∃ h : k < l.length, x = (k, l[k]) := by
  simp only [List.getElem?_map, List.getElem?_zipIdx, Option.map_map, Option.map_eq_some_iff] at h
  obtain ⟨b, hb, rfl⟩ := h
  obtain ⟨hk, rfl⟩ := List.getElem?_eq_some_iff.1 hb
  exact ⟨hk, by simp⟩
theorem first_at (l : List Nt) (to : Int) (k : Nat) (hk : k < l.length) (hno : ∀ j x, j < k → l[j]? = some x → x.to ≠ to) (he : l[k].to = to) : Fl.first l to = some k := by
  rw [Fl.first, List.findIdx?_eq_some_iff_getElem]
  refine ⟨hk, by simpa using he, fun j hj => ?_⟩
  simpa using hno j _ hj (List.getElem?_eq_getElem (by omega))
theorem first_no (l : List Nt) (to : Int) (hno : ∀ (j : Nat) (x : Nt), j < l.length → l[j]? = some x → x.to ≠ to) : Fl.first l to = none := by
  rw [Fl.first, List.findIdx?_eq_none_iff]
  intro x hx
  obtain ⟨j, hj, rfl⟩ := List.getElem_of_mem hx
  simpa using hno j _ hj (List.getElem?_eq_getElem hj)
set_option maxRecDepth 100000 in
set_option maxHeartbeats 4000000 in
theorem flOldest (F : Fl) (B : Nat) (v : Value) (to : Int) (w : World) (h : Fl.Is true F B v w) : Calls Try.prog 15 #[.pointer (some ⟨B, 0, none⟩), .int .i64 to] w fun e w' =>
    e = .returned (.int .i64 (F.oldest to)) ∧ Below w.heap.size w w' := by
  have HI := Lib.hid h
  obtain ⟨a, c, hv, hac⟩ := h.own.form
  have hB := h.lt
  have hc1 : ((w.alloc (.cells #[.int .i64 to] 3)).alloc (.cells #[.int .i64 (-1)] 3)).cell? ⟨B, 1, none⟩ = some v := (h.below (((Below.refl _ w).alloc (Nat.le_refl _) _).alloc (by simp) _)).cell 1 _ rfl
  generalize F.notes.length = n at hv hac
  clear h
  refine (callsIn_wide (n := 3)).1 ?_
  refine callsIn_of_wp_marks Try.func15 rfl trivial ?_ rfl
  simp only [Try.ntmps15, List.size_toArray, List.length_cons, List.length_nil, Nat.reduceAdd, Nat.reduceSub, Array.replicate_succ, Array.replicate_zero, List.push_toArray, List.append_toArray, List.nil_append, List.cons_append]
  subst hv
  refine wpIn_wide.2 ?_
  go_wp2
  go_step3
  go_wp2
  go_step3
  go_wp2_with (go_at_call 28; refine (notesAll _ _ _ _).mono ?_; rintro e w' ⟨rfl, rfl⟩)
  refine (wpIn_wide (n := 3)).1 ?_
  have b0 := Box.new w (.int .i64 to) 3
  have b1 := Box.new (w.alloc (.cells #[.int .i64 to] 3)) (.int .i64 (-1)) 3
  have b2 := Boxed.new ((w.alloc (.cells #[.int .i64 to] 3)).alloc (.cells #[.int .i64 (-1)] 3)) 27 (.slice a n c)
  simp only [World.size_alloc] at b1 b2
  have hB0 : Below w.heap.size w (((w.alloc (.cells #[.int .i64 to] 3)).alloc (.cells #[.int .i64 (-1)] 3)).alloc (.cells #[.slice a n c] 27)) := (((Below.refl _ w).alloc (Nat.le_refl _) _).alloc (by simp) _).alloc (by simp; omega) _
  have c0 : Box (((w.alloc (.cells #[.int .i64 to] 3)).alloc (.cells #[.int .i64 (-1)] 3)).alloc (.cells #[.slice a n c] 27)) w.heap.size (.int .i64 to) := (b0.alloc _).alloc _
  have c1 : Box (((w.alloc (.cells #[.int .i64 to] 3)).alloc (.cells #[.int .i64 (-1)] 3)).alloc (.cells #[.slice a n c] 27)) (w.heap.size + 1) (.int .i64 (-1)) := b1.alloc _
  have hsz0 : (((w.alloc (.cells #[.int .i64 to] 3)).alloc (.cells #[.int .i64 (-1)] 3)).alloc (.cells #[.slice a n c] 27)).heap.size = w.heap.size + 3 := by simp
  have hgoes := notesAllGoes (3 - 1) (by omega) w.heap.size _ (w.heap.size + 2) (B + 1) (.slice a n c) F.notes (by simp) b2.cell (HI.out.own.below hB0) (fun g hg => (HI.out.own.lt g hg).2) hB0.size (by have := HI.out.ok.few; omega)
  obtain ⟨A, hA⟩ : ∃ A, w.heap.size = A := ⟨_, rfl⟩
  rw [hA] at c0 c1 hB0 hsz0 hgoes ⊢
  generalize (((w.alloc (.cells #[.int .i64 to] 3)).alloc (.cells #[.int .i64 (-1)] 3)).alloc (.cells #[.slice a n c] 27)) = W0 at *
  clear b0 b1 b2 hc1
  refine wpIn_goes_boxed rfl (by omega) (gf := 36) (lb := #[.pointer (some ⟨A + 2, 0, none⟩)]) rfl trivial (enters_of Try.func36 (by kernel_rfl) rfl)
    hgoes (by rintro b h; have : b < A := h; omega) (Below.refl _ _) (fun _ => rfl)
    (fun k W => Box W A (.int .i64 to) ∧ Box W (A + 1) (.int .i64 (-1)) ∧ (∀ j x, j < k → F.notes[j]? = some x → x.to ≠ to) ∧ Below A w W ∧ A + 3 ≤ W.heap.size)
    (fun cc k W => cc = .exit 0 ∧ Box W (A + 1) (.int .i64 (F.oldest to)) ∧ Below A w W)
    (OwnFrom.and ((Box.own _ _).from _) (OwnFrom.and ((Box.own _ _).from _) (OwnFrom.and (fun _ X Y row hs hg _ => hs) (OwnFrom.and (ownFrom_below (by omega) (by omega)) (fun _ X Y row hs hg _ => Nat.le_trans hs hg.size)))))
    (fun cc => OwnFrom.and (ownFrom_pure _ _) (OwnFrom.and ((Box.own _ _).from _) (ownFrom_below (by omega) (by omega))))
    (by rintro k W ⟨_, _, _, _, h⟩; omega)
    ⟨c0, c1, (fun j x hj => absurd hj (Nat.not_lt_zero _)), hB0, by omega⟩
    (fun x => #[.int .u32 (x.2.id.toNat : Int), .int .i64 x.2.to, .string x.2.s]) 42
    (fun b W => True) (fun _ _ _ _ h _ _ => h) (fun _ _ _ _ => trivial)
    ⟨_, (by intro l x b W K hb hK; dsimp only [encNA, Nt.val]; gi_wp2; exact hK), ?body⟩ ?done ?stop
  case body =>
    rintro lp k x b W hx ⟨⟨hc, hf⟩, ⟨hc', hf'⟩, hno, hBw, hsz⟩ hbs hrow -
    obtain ⟨hkl, rfl⟩ := zip_at _ _ _ hx
    have r1 : W.cell? ⟨b, 1, none⟩ = some (.int .i64 F.notes[k].to) := by simp [World.cell?, hrow]
    have hfirst := first_at F.notes to k hkl hno
    have hnext : F.notes[k].to ≠ to → ∀ j x, j < k + 1 → F.notes[j]? = some x → x.to ≠ to := fun hne j x hj hy => by
      by_cases h : j = k
      · rw [h, List.getElem?_eq_getElem hkl] at hy
        cases hy; exact hne
      · exact hno j x (by omega) hy
    dsimp only at r1 ⊢
    have HF := Lib.hid hfirst
    have HX := Lib.hid hnext
    clear hfirst hnext hx hgoes hrow
    generalize F.notes[k] = x at *
    have hbA : ¬ A + 1 = A := by omega
    by_cases he : x.to = to
    · have hO : F.oldest to = (k : Int) := by rw [Fl.oldest, HF.out he]
      have HO := Lib.hid hO
      have hq : (x.to == to) = true := by simpa using he
      clear hO hno
      gi_wp2
      exact ⟨(KeepsOthers.setCell _ _ _).from _, rfl, by rw [HO.out]; exact Box.set ⟨hc', hf'⟩ _, hBw.setCell (p := ⟨A + 1, 0, none⟩) (by simp) _⟩
    · have hq : (x.to == to) = false := by simpa using he
      have HX2 := Lib.hid (HX.out he)
      clear hno
      gi_wp2
      exact ⟨(KeepsOthers.refl _).from _, Keeps.refl _ _, ⟨hc, hf⟩, ⟨hc', hf'⟩, HX2.out, hBw, hsz⟩
  case done =>
    rintro D W hD ⟨_, ⟨hc', hf'⟩, hno, hBw, hsz⟩ hK
    have hO : F.oldest to = -1 := by
      rw [Fl.oldest, first_no F.notes to (fun j x hj hx => hno j x (by simpa using hj) hx)]
    have HO := Lib.hid hO
    clear hO hno hgoes c0 c1 hB0
    have HBW := Lib.hid hBw
    clear hBw
    go_wp2
    try rw [Exit.noGoto_ret]
    refine ⟨by simp, .inl ⟨_, _, rfl, run_takeDeferred hK, ?_⟩⟩
    refine ⟨_, results_tmp rfl _ _ _, by rw [HO.out]; rfl, by rw [hA]; exact HBW.out.trans (belowK_b (w := w) (by omega) _ D _ _ (by omega) hK rfl rfl)⟩
  case stop =>
    rintro D cc k W hD hk ⟨rfl, ⟨hc', hf'⟩, hBw⟩ hK
    obtain ⟨O, hO⟩ : ∃ O, F.oldest to = O := ⟨_, rfl⟩
    rw [hO] at hc'
    have HO := Lib.hid hO
    clear hgoes c0 c1 hB0 hO
    have HBW := Lib.hid hBw
    clear hBw
    gi_wp2
    go_wp2
    try rw [Exit.noGoto_ret]
    refine ⟨by simp, .inl ⟨_, _, rfl, run_takeDeferred hK, ?_⟩⟩
    refine ⟨_, results_tmp rfl _ _ _, by rw [HO.out]; rfl, by rw [hA]; exact HBW.out.trans (belowK_b (w := w) (by omega) _ D _ _ (by omega) hK rfl rfl)⟩
end Go.Proofs.Ytialmaapahjchaa
