/-
  Leader: walked.
-/
import Derived.Test.YtdpnmmeecnconaaDtSus
namespace Go.Proofs.Ytdpnmmeecnconaa
open Go.RowKit Go.Shelf
attribute [local go_sem] Oper.semAt_some
set_option linter.unusedVariables false
set_option linter.unusedSimpArgs false

/-- The first that is not suspected. -/
def leadOf (xs : List (Nat × Nd)) : Int := match xs.findIdx? fun x => !x.2.sus with
  | some k => (k : Int)
  | none => -1
theorem leadOf_at (xs : List (Nat × Nd)) (k : Nat) (x : Nat × Nd) (hx : xs[k]? = some x) (hno : ∀ (j : Nat) (y : Nat × Nd), j < k → xs[j]? = some y → y.2.sus = true) (he : x.2.sus = false) : leadOf xs = (k : Int) := by
  obtain ⟨hk, rfl⟩ := List.getElem?_eq_some_iff.1 hx
  have : (xs.findIdx? fun x => !x.2.sus) = some k := by
    rw [List.findIdx?_eq_some_iff_getElem]
    refine ⟨hk, by simp [he], fun j hj => ?_⟩
    simp [hno j _ hj (List.getElem?_eq_getElem (by omega))]
  rw [leadOf, this]
theorem leadOf_none (xs : List (Nat × Nd)) (hno : ∀ (j : Nat) (y : Nat × Nd), j < xs.length → xs[j]? = some y → y.2.sus = true) : leadOf xs = -1 := by
  have : (xs.findIdx? fun x => !x.2.sus) = none := by
    rw [List.findIdx?_eq_none_iff]
    intro x hx
    obtain ⟨j, hj, rfl⟩ := List.getElem_of_mem hx
    simp [hno j _ hj (List.getElem?_eq_getElem hj)]
  rw [leadOf, this]
set_option maxRecDepth 100000 in
set_option maxHeartbeats 4000000 in
theorem dtLead (p : Option Addr) (xs : List (Nat × Nd)) (hnum : ∀ (k : Nat) (x : Nat × Nd), xs[k]? = some x → x.1 = k) (w : World)
    (hgo : ∀ (V : World) (Z : Nat), Below w.heap.size w V → w.heap.size ≤ Z → V.cell? ⟨Z, 0, none⟩ = some (.pointer p) → Goes Fence.wide 2 Try.prog 23 #[.pointer (some ⟨Z, 0, none⟩)] encD (Keeps (fun b => b < w.heap.size ∨ b = Z)) xs V) :
    Calls Try.prog 11 #[.pointer p] w fun e w' => e = .returned (.int .i64 (leadOf xs)) ∧ Below w.heap.size w w' := by
  have HGO := Lib.hid hgo
  have HNUM := Lib.hid hnum
  clear hgo hnum
  refine (callsIn_wide (n := 3)).1 ?_
  refine callsIn_of_wp_marks Try.func11 rfl trivial ?_ rfl
  simp only [Try.ntmps11, List.size_toArray, List.length_cons, List.length_nil, Nat.reduceAdd, Nat.reduceSub, Array.replicate_succ, Array.replicate_zero, List.push_toArray, List.append_toArray, List.nil_append, List.cons_append]
  refine wpIn_wide.2 ?_
  go_wp2
  go_step3
  go_wp2
  go_step3
  go_wp2_with (go_at_call 20; refine (dtAll _ _).mono ?_; rintro e w' ⟨rfl, rfl⟩)
  refine (wpIn_wide (n := 3)).1 ?_
  have b0 := Box.new w (.int .i64 (-1)) 3
  have b1 := Boxed.new (w.alloc (.cells #[.int .i64 (-1)] 3)) 24 (.pointer p)
  simp only [World.size_alloc] at b1
  have hB0 : Below w.heap.size w ((w.alloc (.cells #[.int .i64 (-1)] 3)).alloc (.cells #[.pointer p] 24)) := ((Below.refl _ w).alloc (Nat.le_refl _) _).alloc (by simp) _
  have c0 : Box ((w.alloc (.cells #[.int .i64 (-1)] 3)).alloc (.cells #[.pointer p] 24)) w.heap.size (.int .i64 (-1)) := b0.alloc _
  have hsz0 : ((w.alloc (.cells #[.int .i64 (-1)] 3)).alloc (.cells #[.pointer p] 24)).heap.size = w.heap.size + 2 := by simp
  have hgoes := HGO.out _ (w.heap.size + 1) hB0 (by omega) b1.cell
  obtain ⟨A, hA⟩ : ∃ A, w.heap.size = A := ⟨_, rfl⟩
  rw [hA] at c0 hB0 hsz0 hgoes ⊢
  generalize ((w.alloc (.cells #[.int .i64 (-1)] 3)).alloc (.cells #[.pointer p] 24)) = W0 at *
  clear b0 b1
  refine wpIn_goes_boxed rfl (by omega) (gf := 23) (lb := #[.pointer (some ⟨A + 1, 0, none⟩)]) rfl trivial (enters_of Try.func23 (by kernel_rfl) rfl)
    hgoes (by rintro b (h | h) <;> omega) (Below.refl _ _) (fun _ => rfl)
    (fun k W => Box W A (.int .i64 (-1)) ∧ (∀ (j : Nat) (y : Nat × Nd), j < k → xs[j]? = some y → y.2.sus = true) ∧ Below A w W ∧ A + 2 ≤ W.heap.size)
    (fun cc k W => cc = .exit 0 ∧ Box W A (.int .i64 (leadOf xs)) ∧ Below A w W)
    (OwnFrom.and ((Box.own _ _).from _) (OwnFrom.and (fun _ X Y row hs hg _ => hs) (OwnFrom.and (ownFrom_below (by omega) (by omega)) (fun _ X Y row hs hg _ => Nat.le_trans hs hg.size))))
    (fun cc => OwnFrom.and (ownFrom_pure _ _) (OwnFrom.and ((Box.own _ _).from _) (ownFrom_below (by omega) (by omega))))
    (by rintro k W ⟨_, _, _, h⟩; omega)
    ⟨c0, (fun j x hj => absurd hj (Nat.not_lt_zero _)), hB0, by omega⟩
    (fun x => #[.int .u64 (x.2.last : Int), .int .u64 (x.2.out : Int), .bool x.2.sus]) 51
    (fun _ _ => True) (fun _ _ _ _ h _ _ => h) (fun _ _ _ _ => trivial)
    ⟨_, (by intro l x b W K hb hK; dsimp only [encD, Nd.val]; gi_wp2; exact hK), ?body⟩ ?done ?stop
  case body =>
    rintro lp k ⟨xi, x⟩ b W hx ⟨⟨hc, hf⟩, hno, hBw, hsz⟩ hbs hrow -
    obtain rfl : xi = k := HNUM.out k _ hx
    have r2 : W.cell? ⟨b, 2, none⟩ = some (.bool x.sus) := by simp [World.cell?, hrow]
    dsimp only at r2 ⊢
    have HF := Lib.hid (leadOf_at xs xi _ hx hno)
    have HX := Lib.hid (fun (he : x.sus = true) => show ∀ (j : Nat) (y : Nat × Nd), j < xi + 1 → xs[j]? = some y → y.2.sus = true from fun j y hj hy => by
      by_cases h : j = xi
      · subst h
        rw [hx] at hy
        cases hy; exact he
      · exact hno j y (by omega) hy)
    clear hx hgoes hrow hno
    cases he : x.sus with
    | false =>
      rw [he] at r2
      have HO := Lib.hid (HF.out he)
      gi_wp2
      exact ⟨(KeepsOthers.setCell _ _ _).from _, rfl, by rw [HO.out]; exact Box.set ⟨hc, hf⟩ _, hBw.setCell (p := ⟨A, 0, none⟩) (by simp) _⟩
    | true =>
      rw [he] at r2
      have HX2 := Lib.hid (HX.out he)
      gi_wp2
      exact ⟨(KeepsOthers.refl _).from _, Keeps.refl _ _, ⟨hc, hf⟩, (fun j a b => HX2.out j (a, b)), hBw, hsz⟩
  case done =>
    rintro D W hD ⟨⟨hc', hf'⟩, hno, hBw, hsz⟩ hK
    have HO := Lib.hid (leadOf_none xs hno)
    clear hno hgoes c0 hB0
    have HBW := Lib.hid hBw
    clear hBw
    go_wp2
    try rw [Exit.noGoto_ret]
    refine ⟨by simp, .inl ⟨_, _, rfl, run_takeDeferred hK, ?_⟩⟩
    exact ⟨_, results_tmp rfl _ _ _, by rw [HO.out]; rfl, by rw [hA]; exact HBW.out.trans (belowK_b (w := w) (by omega) _ D _ _ (by omega) hK rfl rfl)⟩
  case stop =>
    rintro D cc k W hD hk ⟨rfl, ⟨hc', hf'⟩, hBw⟩ hK
    obtain ⟨O, hO⟩ : ∃ O, leadOf xs = O := ⟨_, rfl⟩
    rw [hO] at hc'
    have HO := Lib.hid hO
    clear hgoes c0 hB0 hO
    have HBW := Lib.hid hBw
    clear hBw
    gi_wp2
    go_wp2
    try rw [Exit.noGoto_ret]
    refine ⟨by simp, .inl ⟨_, _, rfl, run_takeDeferred hK, ?_⟩⟩
    exact ⟨_, results_tmp rfl _ _ _, by rw [HO.out]; rfl, by rw [hA]; exact HBW.out.trans (belowK_b (w := w) (by omega) _ D _ _ (by omega) hK rfl rfl)⟩
theorem Dt.leadOf_pairs (D : Dt) (h : D.Ok) : leadOf D.pairs = (D.leader : Int) := by
  have hl := D.leader_lt h
  refine leadOf_at _ _ (D.leader, D.nodes[D.leader]) (D.pairs_get _ hl) (fun j y hj hy => ?_) (D.leader_free h _ (List.getElem?_eq_getElem hl))
  rw [D.pairs_get j (by omega)] at hy
  cases hy
  obtain ⟨x, h1, h2⟩ := D.ahead_sus j hj
  rw [List.getElem?_eq_getElem (by omega)] at h1
  cases h1
  exact h2
theorem dtLeader (D : Dt) (B M : Nat) (w : World) (h : Dt.Is D B M w) : Calls Try.prog 11 #[.pointer (some ⟨B, 0, none⟩)] w fun e w' => e = .returned (.int .i64 (D.leader : Int)) ∧ Below w.heap.size w w' := by
  rw [← D.leadOf_pairs h.ok]
  refine dtLead _ D.pairs (fun k x hx => ?_) w (fun V Z hb hZ hz => allGoes 2 (by omega) V D B M Z _ (.inl h.lt) (.inl h.ltM) (.inr rfl) (h.below hb) hz)
  have hk : k < D.nodes.length := by rw [← D.pairs_length]; exact (List.getElem?_eq_some_iff.1 hx).1
  rw [D.pairs_get k hk] at hx
  cases hx; rfl
theorem dtLeaderNil (w : World) : Calls Try.prog 11 #[.pointer none] w fun e w' => e = .returned (.int .i64 (-1)) ∧ Below w.heap.size w w' :=
  dtLead none [] (fun k x hx => by simp at hx) w (fun V Z hb hZ hz => allGoesNil 2 (by omega) V Z _ hz)
end Go.Proofs.Ytdpnmmeecnconaa
