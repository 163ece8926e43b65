/-
  What frame.Right comes to.
-/
import Derived.Test.YtlbhfkiihikimaaFrameLimits
import Derived.Test.YtlbhfkiihikimaaFrameEq
import Derived.Test.YtlbhfkiihikimaaHeld
import Derived.RangeFuncBox
namespace Go.Proofs.Ytlbhfkiihikimaa
open Go.RowKit Go.Shelf
attribute [local go_sem] Oper.semAt_some
set_option linter.unusedVariables false
set_option linter.unusedSimpArgs false

/-- Is it in a version, and does it stay as it is when it is turned to it? -/
def Fr.own (f : Fr) : Bool := ver f.wire && (f.wire != 1 || f.hint == 0)
/-- Are the first k limits kept, too? -/
def Fr.upto (f : Fr) (k : Nat) : Bool := f.own && (f.limits.take k).all fun p => decide (0 ≤ p.1) && decide (p.1 ≤ p.2)
theorem Fr.upto_four (f : Fr) : f.upto 4 = decide f.Right := by
  rw [Bool.eq_iff_iff, decide_eq_true_iff]
  simp only [Fr.upto, Fr.own, Fr.limits, Fr.Right, ver, List.take_succ_cons, List.take_zero, List.all_cons, List.all_nil, Bool.and_eq_true, Bool.or_eq_true, decide_eq_true_iff, beq_iff_eq, bne_iff_ne, Bool.and_true]
  constructor
  · rintro ⟨⟨h1, h2⟩, h3, h4, h5, h6, h7⟩
    exact ⟨h1, h3, h4, h5, by omega, fun h => h2.resolve_left (fun n => n h)⟩
  · rintro ⟨h1, h3, h4, h5, h6, h7⟩
    exact ⟨⟨h1, by by_cases h : f.wire = 1; exact .inr (h7 h); exact .inl h⟩, h3, h4, h5, by omega, by omega⟩
theorem Fr.upto_succ (f : Fr) (k : Nat) (x : Int × Int) (h : f.limits[k]? = some x) : f.upto (k + 1) = (f.upto k && (decide (0 ≤ x.1) && decide (x.1 ≤ x.2))) := by
  rw [Fr.upto, Fr.upto, List.take_add_one, h]; simp [Bool.and_assoc]
theorem Fr.upto_false (f : Fr) (k j : Nat) (hk : k ≤ j) (h : f.upto k = false) : f.upto j = false := by
  cases e : f.upto j
  · rfl
  · rw [Fr.upto, Bool.and_eq_true] at e
    rw [Fr.upto, e.1, Bool.true_and] at h
    have : f.limits.take k = (f.limits.take j).take k := by rw [List.take_take, Nat.min_eq_left hk]
    rw [this] at h
    have h2 := List.all_eq_false.1 h
    obtain ⟨x, hx, hn⟩ := h2
    exact absurd (List.all_eq_true.1 e.2 x (List.mem_of_mem_take hx)) hn

/-- The same goal, the way on told by what is known behind the region. -/
theorem wp_cut {P : Program} {c : Code} {Q : Exit → Act → World → Prop} {a : Act} {w : World} (M : Act → World → Prop) (h : c.wp P (fun e a' w' => e = .normal ∧ M a' w') a w) (hM : ∀ a' w', M a' w' → Q .normal a' w') : c.wp P Q a w :=
  Code.wp_mono (fun e a' w' ⟨he, hm⟩ => by subst he; exact hM a' w' hm) h
/-- The cells of a frame that lies in memory of its own. -/
def FrIn (W : World) (b : Nat) (f : Fr) : Prop :=
  W.cell? ⟨b, 0, none⟩ = some (.int .i64 f.wire) ∧ W.cell? ⟨b, 1, none⟩ = some (.int .i64 f.kind) ∧ W.cell? ⟨b, 2, none⟩ = some (.int .i64 f.src) ∧ W.cell? ⟨b, 3, none⟩ = some (.int .i64 f.dst) ∧
  W.cell? ⟨b, 4, none⟩ = some (.int .u32 (f.life.toNat : Int)) ∧ W.cell? ⟨b, 5, none⟩ = some (.int .u32 (f.seq.toNat : Int)) ∧ W.cell? ⟨b, 6, none⟩ = some (.int .u32 (f.ack.toNat : Int)) ∧ W.cell? ⟨b, 7, none⟩ = some (.int .u32 (f.hint.toNat : Int)) ∧
  W.cell? ⟨b, 8, none⟩ = some (.string f.data)
theorem FrIn.of_row {W : World} {b : Nat} {f : Fr} {t : TypeId} (h : Row W b f.cells t) : FrIn W b f :=
  ⟨h.cell 0 _ rfl, h.cell 1 _ rfl, h.cell 2 _ rfl, h.cell 3 _ rfl, h.cell 4 _ rfl, h.cell 5 _ rfl, h.cell 6 _ rfl, h.cell 7 _ rfl, h.cell 8 _ rfl⟩
theorem Fr.own_eq (f : Fr) (hv : ver f.wire = true) : decide (f = f.turn f.wire) = f.own := by
  rw [Bool.eq_iff_iff, decide_eq_true_iff, Fr.own, hv, Bool.true_and, Bool.or_eq_true, bne_iff_ne, beq_iff_eq]
  constructor
  · intro h
    by_cases h1 : f.wire = 1
    · right
      have := congrArg Fr.hint h
      rw [Fr.turn, if_pos h1] at this
      exact this
    · exact .inl h1
  · intro h
    rcases h with h | h
    · rw [Fr.turn, if_neg h]
    · refine Fr.ext' rfl rfl rfl rfl rfl rfl rfl ?_ rfl
      show f.hint = if f.wire = 1 then 0 else f.hint
      rw [h]; split <;> rfl
theorem calls_keep {P : Program} {f : FuncId} {args : Array Value} {w : World} {R : Ending → Prop} (h : Calls P f args w fun e w' => R e ∧ Below w.heap.size w w') :
    Calls P f args w fun e w' => R e ∧ (∀ b o, b < w.heap.size → w'.cell? ⟨b, o, none⟩ = w.cell? ⟨b, o, none⟩) ∧ (∀ b o, b < w.heap.size → w'.frozen? ⟨b, o, none⟩ = w.frozen? ⟨b, o, none⟩) ∧ Below w.heap.size w w' :=
  h.mono fun e w' ⟨he, hb⟩ => ⟨he, fun b o hl => hb.cell (p := ⟨b, o, none⟩) hl, fun b o hl => hb.frozen (p := ⟨b, o, none⟩) hl, hb⟩
set_option maxRecDepth 100000 in
set_option maxHeartbeats 2000000 in
theorem frameRight (f : Fr) (hs : f.data.size ≤ maxLen) (w : World) : Calls Try.prog 20 #[f.val] w fun e w' => e = .returned (.bool (decide f.Right)) ∧ Below w.heap.size w w' := by
  refine (callsIn_wide (n := 3)).1 ?_
  refine callsIn_of_wp_marks Try.func20 rfl trivial ?_ rfl
  simp only [Try.ntmps20, List.size_toArray, List.length_cons, List.length_nil, Nat.reduceAdd, Nat.reduceSub, Array.replicate_succ, Array.replicate_zero, List.push_toArray, List.append_toArray, List.nil_append, List.cons_append]
  refine wpIn_wide.2 ?_
  unfold Fr.val Fr.cells
  go_wp2
  go_step3
  refine wp_seq ?_
  have hr0 : Row (w.alloc (.cells #[.int .i64 f.wire, .int .i64 f.kind, .int .i64 f.src, .int .i64 f.dst, .int .u32 (f.life.toNat : Int), .int .u32 (f.seq.toNat : Int), .int .u32 (f.ack.toNat : Int), .int .u32 (f.hint.toNat : Int), .string f.data] 24)) w.heap.size f.cells 24 := Row.new w _ _
  have hB0 : Below w.heap.size w (w.alloc (.cells #[.int .i64 f.wire, .int .i64 f.kind, .int .i64 f.src, .int .i64 f.dst, .int .u32 (f.life.toNat : Int), .int .u32 (f.seq.toNat : Int), .int .u32 (f.ack.toNat : Int), .int .u32 (f.hint.toNat : Int), .string f.data] 24)) := (Below.refl _ w).alloc (Nat.le_refl _) _
  generalize w.alloc (.cells #[.int .i64 f.wire, .int .i64 f.kind, .int .i64 f.src, .int .i64 f.dst, .int .u32 (f.life.toNat : Int), .int .u32 (f.seq.toNat : Int), .int .u32 (f.ack.toNat : Int), .int .u32 (f.hint.toNat : Int), .string f.data] 24) = V at *
  have hlt := hr0.lt
  have hI := FrIn.of_row hr0
  refine wp_cut (fun a' W => ∃ B B8 : Nat, ∃ x11 x12 x13 x14 x15 x16, w.heap.size < B ∧ a' = { tmps := #[f.val, .pointer (some ⟨w.heap.size, 0, none⟩), .bool false, .pointer (some ⟨B, 0, none⟩), undef, undef, .pointer (some ⟨w.heap.size, 0, none⟩), .int .i64 f.wire, .slice (some ⟨B8, 0, none⟩) 1 1, .bool (ver f.wire), .bool (ver f.wire), x11, x12, x13, x14, x15, x16, .bool f.own, undef, undef, undef, undef, undef, undef, undef, undef, undef, undef, undef, undef, undef, undef], defers := [] } ∧ Box W B (.bool f.own) ∧ Row W w.heap.size f.cells 24 ∧ Below w.heap.size w W) ?region ?rest
  case region =>
    obtain ⟨g0, g1, g2, g3, g4, g5, g6, g7, g8⟩ := hI
    cases hv : ver f.wire
    · have hown : f.own = false := by rw [Fr.own, hv]; rfl
      rw [hown]
      refine wp_region_noPanic ?_
      refine wp_region_held_drew (S := fun W => W.cell? ⟨w.heap.size, 0, none⟩ = some (.int .i64 f.wire)) (by kernel_rfl) g0 (fun hS => ?_)
      refine wpAnyH_take (i := 0) (v := .pointer (some ⟨w.heap.size, 0, none⟩)) rfl (by kernel_rfl) (by kernel_rfl) (by kernel_rfl) (fun _ _ _ h => h) (Or.inl ⟨by rfl, fun W hW => by go_simp⟩) hS ?_
      refine wpAnyH_take (i := 1) (v := .int .i64 f.wire) rfl (by kernel_rfl) (by kernel_rfl) (by kernel_rfl) (fun _ _ _ h => h) (Or.inl ⟨by rfl, fun W hW => by go_simp⟩) hS ?_
      refine wpAnyH_ready (rs := [2, 12]) (by kernel_rfl) (by simp) ?_
      refine AllReadyH.cons rfl (fun K hK => ?_) ?_
      · go_simp
        refine hK.out _ _ (by simp [*, World.cell?_alloc_some]) (fun hS => ?_)
        clear hK K
        refine wpAnyH_ready (rs := [3, 12]) (by kernel_rfl) (by simp) ?_
        refine AllReadyH.cons rfl (fun K hK => ?_) ?_
        · go_simp
          go_at_call 26
          refine (frameKnown1 _ _ f.wire _ (by simp)).mono ?_
          rintro e w1 ⟨rfl, hb1⟩
          rw [hv]
          go_simp
          refine hK.out _ _ ((hb1.cell (p := ⟨w.heap.size, 0, none⟩) (by simp <;> omega)).trans hS) (fun hS => ?_)
          clear hK K
          refine wpAnyH_take (i := 4) (v := .bool false) rfl (by kernel_rfl) (by kernel_rfl) (by kernel_rfl) (fun _ _ _ h => h) (Or.inl ⟨by rfl, fun W hW => by go_simp⟩) hS ?_
          refine wpAnyH_take (i := 5) (v := undef) rfl (by kernel_rfl) (by kernel_rfl) (by kernel_rfl) (fun _ _ _ h => h) (Or.inr ⟨by rfl, rfl⟩) hS ?_
          refine wpAnyH_take (i := 6) (v := undef) rfl (by kernel_rfl) (by kernel_rfl) (by kernel_rfl) (fun _ _ _ h => h) (Or.inr ⟨by rfl, rfl⟩) hS ?_
          refine wpAnyH_take (i := 7) (v := undef) rfl (by kernel_rfl) (by kernel_rfl) (by kernel_rfl) (fun _ _ _ h => h) (Or.inr ⟨by rfl, rfl⟩) hS ?_
          refine wpAnyH_take (i := 8) (v := undef) rfl (by kernel_rfl) (by kernel_rfl) (by kernel_rfl) (fun _ _ _ h => h) (Or.inr ⟨by rfl, rfl⟩) hS ?_
          refine wpAnyH_take (i := 9) (v := undef) rfl (by kernel_rfl) (by kernel_rfl) (by kernel_rfl) (fun _ _ _ h => h) (Or.inr ⟨by rfl, rfl⟩) hS ?_
          refine wpAnyH_take (i := 10) (v := undef) rfl (by kernel_rfl) (by kernel_rfl) (by kernel_rfl) (fun _ _ _ h => h) (Or.inr ⟨by rfl, rfl⟩) hS ?_
          refine wpAnyH_take (i := 11) (v := .bool false) rfl (by kernel_rfl) (by kernel_rfl) (by kernel_rfl) (fun _ _ _ h => h) (Or.inl ⟨by rfl, fun W hW => by go_simp⟩) hS ?_
          refine wpAnyH_ready (rs := [12]) (by kernel_rfl) (by simp) ?_
          refine AllReadyH.cons rfl (fun K hK => ?_) ?_
          · go_simp
            refine hK.out _ _ (by simp [*, World.cell?_alloc_some]) (fun hS => ?_)
            clear hK K
            refine wpAnyH_ready (rs := [13]) (by kernel_rfl) (by simp) ?_
            refine AllReadyH.cons rfl (fun K hK => ?_) ?_
            · go_simp
              refine hK.out _ _ (by simp [*, World.cell?_alloc_some]) (fun hS => ?_)
              clear hK K
              refine wpAnyH_done (by kernel_rfl) (NoPanic.normal ?_) _
              refine ⟨rfl, _, _, _, _, _, _, _, _, (by have := hb1.size; simp at this; omega), rfl, ?_, ?_, ?_⟩
              · exact Box.new w1 _ _
              · exact ((hr0.alloc _).drew.below hb1 (by simp <;> omega)).alloc _
              · exact (hB0.trans ((((((Below.refl _ V).alloc (Nat.le_refl _) _).drew.trans (hb1.mono (by simp <;> omega))).alloc (by have := hb1.size; simp at this; omega) _).mono hB0.size)))
            exact AllReadyH.nil
          exact AllReadyH.nil
        refine AllReadyH.cons rfl (fun K hK => ?_) ?_
        · go_simp
          refine hK.out _ _ (by simp [*, World.cell?_alloc_some]) (fun hS => ?_)
          clear hK K
          refine wpAnyH_ready (rs := [3]) (by kernel_rfl) (by simp) ?_
          refine AllReadyH.cons rfl (fun K hK => ?_) ?_
          · go_simp
            go_at_call 26
            refine (frameKnown1 _ _ f.wire _ (by simp)).mono ?_
            rintro e w1 ⟨rfl, hb1⟩
            rw [hv]
            go_simp
            refine hK.out _ _ ((hb1.cell (p := ⟨w.heap.size, 0, none⟩) (by simp <;> omega)).trans hS) (fun hS => ?_)
            clear hK K
            refine wpAnyH_take (i := 4) (v := .bool false) rfl (by kernel_rfl) (by kernel_rfl) (by kernel_rfl) (fun _ _ _ h => h) (Or.inl ⟨by rfl, fun W hW => by go_simp⟩) hS ?_
            refine wpAnyH_take (i := 5) (v := undef) rfl (by kernel_rfl) (by kernel_rfl) (by kernel_rfl) (fun _ _ _ h => h) (Or.inr ⟨by rfl, rfl⟩) hS ?_
            refine wpAnyH_take (i := 6) (v := undef) rfl (by kernel_rfl) (by kernel_rfl) (by kernel_rfl) (fun _ _ _ h => h) (Or.inr ⟨by rfl, rfl⟩) hS ?_
            refine wpAnyH_take (i := 7) (v := undef) rfl (by kernel_rfl) (by kernel_rfl) (by kernel_rfl) (fun _ _ _ h => h) (Or.inr ⟨by rfl, rfl⟩) hS ?_
            refine wpAnyH_take (i := 8) (v := undef) rfl (by kernel_rfl) (by kernel_rfl) (by kernel_rfl) (fun _ _ _ h => h) (Or.inr ⟨by rfl, rfl⟩) hS ?_
            refine wpAnyH_take (i := 9) (v := undef) rfl (by kernel_rfl) (by kernel_rfl) (by kernel_rfl) (fun _ _ _ h => h) (Or.inr ⟨by rfl, rfl⟩) hS ?_
            refine wpAnyH_take (i := 10) (v := undef) rfl (by kernel_rfl) (by kernel_rfl) (by kernel_rfl) (fun _ _ _ h => h) (Or.inr ⟨by rfl, rfl⟩) hS ?_
            refine wpAnyH_take (i := 11) (v := .bool false) rfl (by kernel_rfl) (by kernel_rfl) (by kernel_rfl) (fun _ _ _ h => h) (Or.inl ⟨by rfl, fun W hW => by go_simp⟩) hS ?_
            refine wpAnyH_ready (rs := [13]) (by kernel_rfl) (by simp) ?_
            have k1 : Box w1 (V.heap.size + 1) (.bool false) := by
              have hb := Box.new (V.alloc (.cells #[.int .i64 f.wire] 3)) (.bool false) 4
              rw [World.size_alloc] at hb
              exact hb.drew.below hb1 (by simp <;> omega)
            have k2 := k1.1
            have k3 := k1.2
            have hn : ¬ V.heap.size + 1 = w.heap.size := by omega
            have hn' : ¬ w.heap.size = V.heap.size + 1 := by omega
            refine AllReadyH.cons rfl (fun K hK => ?_) ?_
            · go_simp
              refine hK.out _ _ (((((hr0.alloc _).alloc _).drew.below hb1 (by simp <;> omega)).other hn _).cell 0 _ rfl) (fun hS => ?_)
              clear hK K
              refine wpAnyH_done (by kernel_rfl) (NoPanic.normal ?_) _
              refine ⟨rfl, _, _, _, _, _, _, _, _, (by omega), rfl, ?_, ?_, ?_⟩
              · exact k1.set _
              · exact (((hr0.alloc _).alloc _).drew.below hb1 (by simp <;> omega)).other hn _
              · exact (hB0.trans (((((Below.refl _ V).alloc (Nat.le_refl _) _).alloc (by simp <;> omega) _).drew.trans (hb1.mono (by simp <;> omega))).mono hB0.size)).setCell (p := ⟨V.heap.size + 1, 0, none⟩) (by simp <;> omega) _
            exact AllReadyH.nil
          exact AllReadyH.nil
        exact AllReadyH.nil
      refine AllReadyH.cons rfl (fun K hK => ?_) ?_
      · go_simp
        refine hK.out _ _ (by simp [*, World.cell?_alloc_some]) (fun hS => ?_)
        clear hK K
        refine wpAnyH_ready (rs := [2]) (by kernel_rfl) (by simp) ?_
        refine AllReadyH.cons rfl (fun K hK => ?_) ?_
        · go_simp
          refine hK.out _ _ (by simp [*, World.cell?_alloc_some]) (fun hS => ?_)
          clear hK K
          refine wpAnyH_ready (rs := [3]) (by kernel_rfl) (by simp) ?_
          refine AllReadyH.cons rfl (fun K hK => ?_) ?_
          · go_simp
            go_at_call 26
            refine (frameKnown1 _ _ f.wire _ (by simp)).mono ?_
            rintro e w1 ⟨rfl, hb1⟩
            rw [hv]
            go_simp
            refine hK.out _ _ ((hb1.cell (p := ⟨w.heap.size, 0, none⟩) (by simp <;> omega)).trans hS) (fun hS => ?_)
            clear hK K
            refine wpAnyH_take (i := 4) (v := .bool false) rfl (by kernel_rfl) (by kernel_rfl) (by kernel_rfl) (fun _ _ _ h => h) (Or.inl ⟨by rfl, fun W hW => by go_simp⟩) hS ?_
            refine wpAnyH_take (i := 5) (v := undef) rfl (by kernel_rfl) (by kernel_rfl) (by kernel_rfl) (fun _ _ _ h => h) (Or.inr ⟨by rfl, rfl⟩) hS ?_
            refine wpAnyH_take (i := 6) (v := undef) rfl (by kernel_rfl) (by kernel_rfl) (by kernel_rfl) (fun _ _ _ h => h) (Or.inr ⟨by rfl, rfl⟩) hS ?_
            refine wpAnyH_take (i := 7) (v := undef) rfl (by kernel_rfl) (by kernel_rfl) (by kernel_rfl) (fun _ _ _ h => h) (Or.inr ⟨by rfl, rfl⟩) hS ?_
            refine wpAnyH_take (i := 8) (v := undef) rfl (by kernel_rfl) (by kernel_rfl) (by kernel_rfl) (fun _ _ _ h => h) (Or.inr ⟨by rfl, rfl⟩) hS ?_
            refine wpAnyH_take (i := 9) (v := undef) rfl (by kernel_rfl) (by kernel_rfl) (by kernel_rfl) (fun _ _ _ h => h) (Or.inr ⟨by rfl, rfl⟩) hS ?_
            refine wpAnyH_take (i := 10) (v := undef) rfl (by kernel_rfl) (by kernel_rfl) (by kernel_rfl) (fun _ _ _ h => h) (Or.inr ⟨by rfl, rfl⟩) hS ?_
            refine wpAnyH_take (i := 11) (v := .bool false) rfl (by kernel_rfl) (by kernel_rfl) (by kernel_rfl) (fun _ _ _ h => h) (Or.inl ⟨by rfl, fun W hW => by go_simp⟩) hS ?_
            refine wpAnyH_ready (rs := [13]) (by kernel_rfl) (by simp) ?_
            have k1 : Box w1 V.heap.size (.bool false) := ((Box.new V (.bool false) 4).alloc (.cells #[.int .i64 f.wire] 3)).drew.below hb1 (by simp <;> omega)
            have k2 := k1.1
            have k3 := k1.2
            have hn : ¬ V.heap.size = w.heap.size := by omega
            have hn' : ¬ w.heap.size = V.heap.size := by omega
            refine AllReadyH.cons rfl (fun K hK => ?_) ?_
            · go_simp
              refine hK.out _ _ (((((hr0.alloc _).alloc _).drew.below hb1 (by simp <;> omega)).other hn _).cell 0 _ rfl) (fun hS => ?_)
              clear hK K
              refine wpAnyH_done (by kernel_rfl) (NoPanic.normal ?_) _
              refine ⟨rfl, _, _, _, _, _, _, _, _, (by omega), rfl, ?_, ?_, ?_⟩
              · exact k1.set _
              · exact (((hr0.alloc _).alloc _).drew.below hb1 (by simp <;> omega)).other hn _
              · exact (hB0.trans (((((Below.refl _ V).alloc (Nat.le_refl _) _).alloc (by simp <;> omega) _).drew.trans (hb1.mono (by simp <;> omega))).mono hB0.size)).setCell (p := ⟨V.heap.size, 0, none⟩) (by simp <;> omega) _
            exact AllReadyH.nil
          exact AllReadyH.nil
        exact AllReadyH.nil
      exact AllReadyH.nil
    · have hq : decide (f = f.turn f.wire) = f.own := f.own_eq hv
      have hgd : ∀ W, (eqGuard .eql 24 (.tmp 11) (.tmp 15) (.agg #[.int .i64 f.wire, .int .i64 f.kind, .int .i64 f.src, .int .i64 f.dst, .int .u32 (f.life.toNat : Int), .int .u32 (f.seq.toNat : Int), .int .u32 (f.ack.toNat : Int), .int .u32 (f.hint.toNat : Int), .string f.data]) (f.turn f.wire).val).run Try.prog W = .ok () W := fun W => frameGuard f _ _ _ W
      have heq : ∀ W, (binOp .eql 24 (.agg #[.int .i64 f.wire, .int .i64 f.kind, .int .i64 f.src, .int .i64 f.dst, .int .u32 (f.life.toNat : Int), .int .u32 (f.seq.toNat : Int), .int .u32 (f.ack.toNat : Int), .int .u32 (f.hint.toNat : Int), .string f.data]) (f.turn f.wire).val).run Try.prog W = .ok (.bool f.own) W := fun W => by rw [← hq]; exact frameEql f _ W
      clear hq
      have hpos : w.heap.size < V.heap.size := hlt
      have hn0 : ¬ V.heap.size = w.heap.size := by omega
      have hn0' : ¬ w.heap.size = V.heap.size := by omega
      have hn3 : ¬ V.heap.size + 1 = w.heap.size := by omega
      have hn3' : ¬ w.heap.size = V.heap.size + 1 := by omega
      have hpos1 : w.heap.size < V.heap.size + 1 := by omega
      have hpos2 : w.heap.size < V.heap.size + 1 + 1 := by omega
      go_region_held3 (fun W => W.cell? ⟨w.heap.size, 0, none⟩ = some (.int .i64 f.wire) ∧ W.cell? ⟨w.heap.size, 1, none⟩ = some (.int .i64 f.kind) ∧ W.cell? ⟨w.heap.size, 2, none⟩ = some (.int .i64 f.src) ∧ W.cell? ⟨w.heap.size, 3, none⟩ = some (.int .i64 f.dst) ∧
          W.cell? ⟨w.heap.size, 4, none⟩ = some (.int .u32 (f.life.toNat : Int)) ∧ W.cell? ⟨w.heap.size, 5, none⟩ = some (.int .u32 (f.seq.toNat : Int)) ∧ W.cell? ⟨w.heap.size, 6, none⟩ = some (.int .u32 (f.ack.toNat : Int)) ∧ W.cell? ⟨w.heap.size, 7, none⟩ = some (.int .u32 (f.hint.toNat : Int)) ∧ W.cell? ⟨w.heap.size, 8, none⟩ = some (.string f.data)) (first | go_keep)
        (first
          | (go_at_call 26; refine (calls_keep (frameKnown1 _ _ f.wire _ ?_)).mono ?_; simp; rintro e w1 ⟨rfl, hk1, hf1, hb1⟩; have hz1 := hb1.size; simp at hz1; have hz1a : V.heap.size < w1.heap.size := by omega
             have hz1c : w.heap.size < w1.heap.size := by omega
             have hn1 : ¬ w1.heap.size = w.heap.size := by omega
             have hn1' : ¬ w.heap.size = w1.heap.size := by omega
             have hz1d : w.heap.size < w1.heap.size + 1 := by omega
             (try (refine (fun hz1b : V.heap.size + 1 < w1.heap.size => ?_) ?_; rotate_left; omega)); rw [hv])
          | (go_at_call 27; refine (calls_keep (frameTurned f f.wire _)).mono ?_; rintro e w2 ⟨rfl, hk2, hf2, hb2⟩; have hz2 := hb2.size; (try simp at hz2); have hz2a : V.heap.size < w2.heap.size := by omega
             have hz2c : w.heap.size < w2.heap.size := by omega
             have hn2 : ¬ w2.heap.size = w.heap.size := by omega
             have hn2' : ¬ w.heap.size = w2.heap.size := by omega
             have hz2d : w.heap.size < w2.heap.size + 1 := by omega
             (try (refine (fun hz2b : V.heap.size + 1 < w2.heap.size => ?_) ?_; rotate_left; omega)); (try (refine (fun hz2e : w1.heap.size < w2.heap.size => ?_) ?_; rotate_left; omega))))
      · refine ⟨rfl, _, _, _, _, _, _, _, _, hz2c, rfl, ?_, ?_, ?_⟩
        · exact Box.new w2 _ _
        · exact ((((hr0.alloc _).drew.below hb1 (by simp <;> omega))).below hb2 (by omega)).alloc _
        · exact (hB0.trans ((((((Below.refl _ V).alloc (Nat.le_refl _) _).drew.trans (hb1.mono (by simp <;> omega))).trans (hb2.mono (by omega))).alloc (by omega) _).mono hB0.size))
      · refine ⟨rfl, _, _, _, _, _, _, _, _, hz1c, rfl, ?_, ?_, ?_⟩
        · exact ((Box.new w1 _ _).below hb2 (by simp <;> omega)).set _
        · exact ((((hr0.alloc _).drew.below hb1 (by simp <;> omega)).alloc _).below hb2 (by simp <;> omega)).other hn1 _
        · exact (hB0.trans ((((((Below.refl _ V).alloc (Nat.le_refl _) _).drew.trans (hb1.mono (by simp <;> omega))).alloc (by omega) _).trans (hb2.mono (by simp <;> omega))).mono hB0.size)).setCell (p := ⟨w1.heap.size, 0, none⟩) (by simp <;> omega) _
      · refine ⟨rfl, _, _, _, _, _, _, _, _, hpos1, rfl, ?_, ?_, ?_⟩
        · have hb := Box.new (V.alloc (.cells #[.int .i64 f.wire] 3)) (.bool false) 4
          rw [World.size_alloc] at hb
          exact ((hb.drew.below hb1 (by simp <;> omega)).below hb2 (by omega)).set _
        · exact ((((hr0.alloc _).alloc _).drew.below hb1 (by simp <;> omega)).below hb2 (by omega)).other hn3 _
        · exact (hB0.trans ((((((Below.refl _ V).alloc (Nat.le_refl _) _).alloc (by simp <;> omega) _).drew.trans (hb1.mono (by simp <;> omega))).trans (hb2.mono (by omega))).mono hB0.size)).setCell (p := ⟨V.heap.size + 1, 0, none⟩) (by simp <;> omega) _
      · refine ⟨rfl, _, _, _, _, _, _, _, _, hpos, rfl, ?_, ?_, ?_⟩
        · exact ((((Box.new V _ _).alloc _).drew.below hb1 (by simp <;> omega)).below hb2 (by omega)).set _
        · exact ((((hr0.alloc _).alloc _).drew.below hb1 (by simp <;> omega)).below hb2 (by omega)).other hn0 _
        · exact (hB0.trans ((((((Below.refl _ V).alloc (Nat.le_refl _) _).alloc (by simp <;> omega) _).drew.trans (hb1.mono (by simp <;> omega))).trans (hb2.mono (by omega))).mono hB0.size)).setCell (p := ⟨V.heap.size, 0, none⟩) (by simp <;> omega) _
  case rest =>
    clear hI hr0 hlt hB0
    rintro a' W ⟨B, B8, x11, x12, x13, x14, x15, x16, hne, rfl, box, row, hB⟩
    have hlt := row.lt
    obtain ⟨g0, g1, g2, g3, g4, g5, g6, g7, g8⟩ := FrIn.of_row row
    dsimp only [Exit.then]
    go_wp2
    go_step3
    go_wp2_with (go_at_call 28; refine (frameLimited f _).mono ?_; rintro e w' ⟨rfl, rfl⟩)
    refine (wpIn_wide (n := 3)).1 ?_
    have rowL := Row.new W f.cells 24
    have hB1 : Below w.heap.size w (W.alloc (.cells f.cells 24)) := hB.alloc (by omega) _
    have box1 : Box (W.alloc (.cells f.cells 24)) B (.bool (f.upto 0)) := by
      rw [show f.upto 0 = f.own from by rw [Fr.upto]; simp]; exact box.alloc _
    have hBlt : B < W.heap.size := lt_of_cell (p := ⟨B, 0, none⟩) box.1
    have hBw : w.heap.size ≤ B := by omega
    clear g0 g1 g2 g3 g4 g5 g6 g7 g8 row box hB
    refine wpIn_goes_found rfl (by omega) (gf := 32) (lb := #[.pointer (some ⟨W.heap.size, 0, none⟩)]) rfl trivial (enters_of Try.func32 (by kernel_rfl) rfl)
      (limitedGoes Fence.wide _ trivial rfl (by omega) _ W.heap.size f hs (by simp) rowL) (by rintro b rfl; simp) (Below.refl _ _) (fun _ => rfl)
      (fun k X => Box X B (.bool (f.upto k)) ∧ Below w.heap.size w X)
      (fun c k X => (c = .exit 0 ∧ f.upto k = false) ∧ Box X B (.bool false) ∧ Below w.heap.size w X)
      (OwnFrom.and ((Box.own _ _).from _) (ownFrom_below (Nat.le_refl _) (by simp; omega)))
      (fun c => OwnFrom.and (ownFrom_pure _ _) (OwnFrom.and ((Box.own _ _).from _) (ownFrom_below (Nat.le_refl _) (by simp; omega))))
      ⟨box1, hB1⟩
      ⟨_, (by intro l x X K hK; gi_wp2; exact hK), ?body⟩ ?done ?stop
    case body =>
      rintro l k ⟨n, m⟩ X hx ⟨⟨hc, hf⟩, hBX⟩
      have hsn := f.upto_succ k _ hx
      dsimp only at hsn
      clear box1 rowL hB1
      cases hu : f.upto k
      · rw [hu] at hc
        have HS := Lib.hid hsn
        clear hsn
        gi_wp2
        exact ⟨(KeepsOthers.refl _).from _, ⟨rfl, hu⟩, ⟨hc, hf⟩, hBX⟩
      · rw [hu] at hc
        rw [hu, Bool.true_and] at hsn
        have HS := Lib.hid hsn
        clear hsn
        by_cases h1 : n < 0
        · have hd : decide (0 ≤ n) = false := by simp; omega
          gi_wp2
          exact ⟨(KeepsOthers.setCell _ _ _).from _, (Keeps.refl _ _).setCell _ _ (by simp; omega), by rw [HS.out, hd]; exact Box.set ⟨hc, hf⟩ _, hBX.setCell (p := ⟨B, 0, none⟩) hBw _⟩
        · have hd : decide (0 ≤ n) = true := by simp; omega
          by_cases h2 : m < n
          · have he : decide (n ≤ m) = false := by simp; omega
            gi_wp2
            exact ⟨(KeepsOthers.setCell _ _ _).from _, (Keeps.refl _ _).setCell _ _ (by simp; omega), by rw [HS.out, hd, he]; exact Box.set ⟨hc, hf⟩ _, hBX.setCell (p := ⟨B, 0, none⟩) hBw _⟩
          · have he : decide (n ≤ m) = true := by simp; omega
            gi_wp2
            exact ⟨(KeepsOthers.refl _).from _, Keeps.refl _ _, by rw [HS.out, hd, he]; exact ⟨hc, hf⟩, hBX⟩
    case done =>
      rintro D X hD ⟨⟨hc, hf⟩, hBX⟩ hK
      have h4 : f.upto f.limits.length = decide f.Right := f.upto_four
      rw [h4] at hc
      clear h4 box1 rowL hB1
      gi_wp2
      go_wp2
      try rw [Exit.noGoto_ret]
      refine ⟨by simp, .inl ⟨_, _, rfl, run_takeDeferred hK, ?_⟩⟩
      exact ⟨_, results_tmp rfl _ _ _, rfl, hBX.trans (belowK_b (w := w) (Nat.le_refl _) _ D _ _ (by simp at hD; omega) hK rfl rfl)⟩
    case stop =>
      rintro D c k X hD hk ⟨⟨rfl, hu⟩, ⟨hc, hf⟩, hBX⟩ hK
      have h4 : decide f.Right = false := by rw [← f.upto_four]; exact f.upto_false k 4 (by simp [Fr.limits] at hk; omega) hu
      have H4 := Lib.hid h4
      clear h4 box1 rowL hB1 hu
      gi_wp2
      go_wp2
      try rw [Exit.noGoto_ret]
      refine ⟨by simp, .inl ⟨_, _, rfl, run_takeDeferred hK, ?_⟩⟩
      exact ⟨_, results_tmp rfl _ _ _, by rw [H4.out]; rfl, hBX.trans (belowK_b (w := w) (Nat.le_refl _) _ D _ _ (by simp at hD; omega) hK rfl rfl)⟩
end Go.Proofs.Ytlbhfkiihikimaa
