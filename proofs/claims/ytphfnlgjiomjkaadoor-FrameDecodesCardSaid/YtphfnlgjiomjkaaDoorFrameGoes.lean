/-
  What frame.fields goes through.
-/
import Derived.Test.YtphfnlgjiomjkaaDoorFrameFields
namespace Go.Proofs.YtphfnlgjiomjkaaDoor
open Go.RowKit Go.Shelf
attribute [local go_sem] Oper.semAt_some
set_option linter.unusedVariables false
set_option linter.unusedSimpArgs false

/-- The fields of a head, by whether it is of the first version: how many bytes, which cell. -/
def fieldsOf (one : Bool) : List (Nat × Nat) := [(1, 0), (1, 1), (1, 2), (1, 3), (4, 4), (4, 5), (4, 6)] ++ (if one then [(4, 8)] else [(4, 7), (4, 8)])
theorem fieldsOf_a (b : Bool) (k o : Nat) (h : [0, 1, 2, 3][k]? = some o) : (fieldsOf b)[0 + k]? = some (1, o) := by
  rcases k with _ | _ | _ | _ | k <;> simp [fieldsOf] at h ⊢ <;> first | exact h | omega
theorem fieldsOf_b (b : Bool) (k o : Nat) (h : [4, 5, 6][k]? = some o) : (fieldsOf b)[4 + k]? = some (4, o) := by
  rcases k with _ | _ | _ | k <;> simp [fieldsOf] at h ⊢ <;> first | exact h | omega
theorem fieldsOf_c (b : Bool) (h1 : b = false) (k o : Nat) (h : [7][k]? = some o) : (fieldsOf b)[7 + k]? = some (4, o) := by
  subst h1; rcases k with _ | k <;> simp [fieldsOf] at h ⊢ <;> first | exact h | omega
theorem fieldsOf_d (b : Bool) (h1 : b = false) (k o : Nat) (h : [8][k]? = some o) : (fieldsOf b)[8 + k]? = some (4, o) := by
  subst h1; rcases k with _ | k <;> simp [fieldsOf] at h ⊢ <;> first | exact h | omega
theorem fieldsOf_e (b : Bool) (h1 : b = true) (k o : Nat) (h : [8][k]? = some o) : (fieldsOf b)[7 + k]? = some (4, o) := by
  subst h1; rcases k with _ | k <;> simp [fieldsOf] at h ⊢ <;> first | exact h | omega
theorem fieldsOf_length (b : Bool) : (fieldsOf b).length = if b = true then 8 else 9 := by cases b <;> rfl
theorem abides_drew {β : Type} {B : Nat} {J : β → World → Prop} (h : AbidesFrom B J) {s : β} {W : World} (hs : J s W) : J s W.drew := h s W W.drew none hs ⟨rfl, rfl, rfl, Nat.le_refl _, fun _ _ _ => rfl⟩ (by intro r e; cases e)
theorem abides_alloc {β : Type} {B : Nat} {J : β → World → Prop} (h : AbidesFrom B J) {s : β} {W : World} (o : Obj) (hs : J s W) : J s (W.alloc o) := h s W _ none hs (World.grownBy_alloc W o none) (by intro r e; cases e)
theorem frameFields (B : Nat) (w : World) : Calls Tryd.prog 20 #[.pointer (some ⟨B, 0, none⟩)] w fun e w' =>
    e = .returned (.func (.func 37) #[] #[.pointer (some ⟨w.heap.size, 0, none⟩)]) ∧ w.alloc (.cells #[.pointer (some ⟨B, 0, none⟩)] 56) = w' := by
  go_enter Tryd.func20, Tryd.ntmps20
  go_wp2
  go_ret
  exact ⟨rfl, rfl⟩
set_option maxRecDepth 100000 in
set_option maxHeartbeats 4000000 in
theorem fieldsGoes (F : Fence) (n : Nat) (hO : Wide F Tryd.prog) (hro : F.round = none) (w : World) (Bp B : Nat) (v : Int) (T e : Nat → Prop) (hc : Row w Bp #[.pointer (some ⟨B, 0, none⟩)] 56)
    (hT : ¬ T Bp) (hTw : ∀ b, T b → b < w.heap.size) (he1 : ¬ e 56) (he2 : ¬ e 57) :
    GoesN F n Tryd.prog 37 #[.pointer (some ⟨Bp, 0, none⟩)] (encF B) (Kept T e) (fun k W => k = 7 → W.cell? ⟨B, 1, none⟩ = some (.int .u32 v)) (fieldsOf (v == 1)) w := by
  intro l J Jx W hW hJ hJx hN hY h0
  refine callsIn_of_wp Tryd.func37 rfl (hO.fn _) ?_ hro
  simp only [Tryd.ntmps37, List.size_toArray, List.length_cons, List.length_nil, Nat.reduceAdd, Nat.reduceSub, Array.replicate_succ, Array.replicate_zero, List.push_toArray, List.append_toArray, List.nil_append, List.cons_append]
  have hr : Row W Bp #[.pointer (some ⟨B, 0, none⟩)] 56 := (hW.block Bp hc.lt).trans hc
  have hTW : ∀ b, T b → b < W.heap.size := fun b h => Nat.lt_of_lt_of_le (hTw b h) hW.size
  have hJ0 := abides_drew hJ h0
  refine wpIn_region_any (by kernel_rfl) ?_
  change wpAnyIn _ _ _ _ _ _ 52 _ _ W.drew
  have hS : W.drew.cell? ⟨Bp, 0, none⟩ = some (.pointer (some ⟨B, 0, none⟩)) := hr.cell 0 _ rfl
  refine wpAnyIn_lead hO 0 (v := (.func (.yield l) #[] #[])) rfl (by kernel_rfl) (fun _ _ _ h => h) (Or.inl ⟨by rfl, fun X => by go_simp⟩) ?_
  simp only [Act.put, List.setIfInBounds_toArray, List.set_cons_zero, List.set_cons_succ]
  refine wpAnyIn_phase hO 1 13 (g := 39) (by kernel_rfl) rfl (by kernel_rfl) rfl ?_
  simp only [List.drop_succ_cons, List.drop_zero, List.take_succ_cons, List.take_zero, Nat.reduceSub]
  repeat still_step
  refine wpStill_nil ?_
  refine wpAnyIn_sole 13 (by kernel_rfl) rfl (fun K hK => ?_)
  go_simp
  refine hK _ _ ?_
  clear hK K
  have hx1 : Row ((W.alloc (.cells (ptrs B [0, 1, 2, 3]) 57)).drew) W.heap.size (ptrs B [0, 1, 2, 3]) 57 := Row.new W _ _
  refine wpAnyIn_sole 14 (by kernel_rfl) rfl (fun K hK => ?_)
  go_simp
  refine ⟨hO.fn _, hO.room _, ?_⟩
  refine (frameEach F (n - 1) (hO.fn _) hro hO.deep l B 1 [0, 1, 2, 3] T e J Jx 0 W.heap.size ((W.alloc (.cells (ptrs B [0, 1, 2, 3]) 57)).drew) (by decide) hx1 (fun h => absurd (hTW _ h) (by omega)) he2 (fun k o W1 ho hj => yield_deep hO.deep 0 (hY (0 + k) (1, o) W1 (fieldsOf_a _ k o ho) hj)) (abides_drew hJ (abides_alloc hJ _ h0))).mono ?_
  rintro e' W1 (⟨rfl, hJ1, hk1⟩ | ⟨rfl, k, hk, hJx1⟩)
  · have hr1 : Row W1 Bp #[.pointer (some ⟨B, 0, none⟩)] 56 := (Row.alloc (W := W) hr _ : Row (W.alloc _).drew Bp _ _).kept hk1 hT he1
    have hx1 := hx1.kept hk1 (fun h => absurd (hTW _ h) (by omega)) he2
    have hJ1 : J 4 W1 := hJ1
    have hz1 := hx1.lt
    have hS1 : W1.cell? ⟨Bp, 0, none⟩ = some (.pointer (some ⟨B, 0, none⟩)) := hr1.cell 0 _ rfl
    refine hK _ _ ?_
    clear hK K
    refine wpAnyIn_lead hO 15 (v := (.bool true)) rfl (by kernel_rfl) (fun _ _ _ h => h) (Or.inl ⟨by rfl, fun X => by go_simp⟩) ?_
    simp only [Act.put, List.setIfInBounds_toArray, List.set_cons_zero, List.set_cons_succ]
    refine wpAnyIn_lead hO 16 (v := (.func (.yield l) #[] #[])) rfl (by kernel_rfl) (fun _ _ _ h => h) (Or.inl ⟨by rfl, fun X => by go_simp⟩) ?_
    simp only [Act.put, List.setIfInBounds_toArray, List.set_cons_zero, List.set_cons_succ]
    refine wpAnyIn_phase hO 17 26 (g := 26) (by kernel_rfl) rfl (by kernel_rfl) rfl ?_
    simp only [List.drop_succ_cons, List.drop_zero, List.take_succ_cons, List.take_zero, Nat.reduceSub]
    repeat still_step
    refine wpStill_nil ?_
    refine wpAnyIn_sole 26 (by kernel_rfl) rfl (fun K hK => ?_)
    go_simp
    refine hK _ _ ?_
    clear hK K
    have hx2 : Row ((W1.alloc (.cells (ptrs B [4, 5, 6]) 57))) W1.heap.size (ptrs B [4, 5, 6]) 57 := Row.new W1 _ _
    refine wpAnyIn_sole 27 (by kernel_rfl) rfl (fun K hK => ?_)
    go_simp
    refine ⟨hO.fn _, hO.room _, ?_⟩
    refine (frameEach F (n - 1) (hO.fn _) hro hO.deep l B 4 [4, 5, 6] T e J Jx 4 W1.heap.size ((W1.alloc (.cells (ptrs B [4, 5, 6]) 57))) (by decide) hx2 (fun h => absurd (hTW _ h) (by omega)) he2 (fun k o W1 ho hj => yield_deep hO.deep 0 (hY (4 + k) (4, o) W1 (fieldsOf_b _ k o ho) hj)) (abides_alloc hJ _ hJ1)).mono ?_
    rintro e' W2 (⟨rfl, hJ2, hk2⟩ | ⟨rfl, k, hk, hJx2⟩)
    · have hr2 : Row W2 Bp #[.pointer (some ⟨B, 0, none⟩)] 56 := (Row.alloc hr1 _).kept hk2 hT he1
      have hx1 := (Row.alloc hx1 _).kept hk2 (fun h => absurd (hTW _ h) (by omega)) he2
      have hJ2 : J 7 W2 := hJ2
      have hz2 := hx1.lt
      have hS2 : W2.cell? ⟨Bp, 0, none⟩ = some (.pointer (some ⟨B, 0, none⟩)) := hr2.cell 0 _ rfl
      refine hK _ _ ?_
      clear hK K
      refine wpAnyIn_lead hO 28 (v := (.bool true)) rfl (by kernel_rfl) (fun _ _ _ h => h) (Or.inl ⟨by rfl, fun X => by go_simp⟩) ?_
      simp only [Act.put, List.setIfInBounds_toArray, List.set_cons_zero, List.set_cons_succ]
      refine wpAnyIn_lead hO 29 (v := (.bool true)) rfl (by kernel_rfl) (fun _ _ _ h => h) (Or.inl ⟨by rfl, fun X => by go_simp⟩) ?_
      simp only [Act.put, List.setIfInBounds_toArray, List.set_cons_zero, List.set_cons_succ]
      have hv : W2.cell? ⟨B, 1, none⟩ = some (.int .u32 v) := hN 7 W2 hJ2 rfl
      refine wpAnyIn_phase hO 30 35 (g := 17) (by kernel_rfl) rfl (by kernel_rfl) rfl ?_
      simp only [List.drop_succ_cons, List.drop_zero, List.take_succ_cons, List.take_zero, Nat.reduceSub]
      repeat still_step
      refine wpStill_nil ?_
      cases h1 : (v == 1)
      · refine wpAnyIn_lead hO 35 (v := (.bool false)) rfl (by kernel_rfl) (fun _ _ _ h => h) (Or.inl ⟨by rfl, fun X => by go_simp⟩) ?_
        simp only [Act.put, List.setIfInBounds_toArray, List.set_cons_zero, List.set_cons_succ]
        refine wpAnyIn_lead hO 36 (v := (.func (.yield l) #[] #[])) rfl (by kernel_rfl) (fun _ _ _ h => h) (Or.inl ⟨by rfl, fun X => by go_simp⟩) ?_
        simp only [Act.put, List.setIfInBounds_toArray, List.set_cons_zero, List.set_cons_succ]
        refine wpAnyIn_phase hO 37 40 (g := 12) (by kernel_rfl) rfl (by kernel_rfl) rfl ?_
        simp only [List.drop_succ_cons, List.drop_zero, List.take_succ_cons, List.take_zero, Nat.reduceSub]
        repeat still_step
        refine wpStill_nil ?_
        refine wpAnyIn_sole 40 (by kernel_rfl) rfl (fun K hK => ?_)
        go_simp
        refine hK _ _ ?_
        clear hK K
        have hx3 : Row ((W2.alloc (.cells (ptrs B [7]) 57))) W2.heap.size (ptrs B [7]) 57 := Row.new W2 _ _
        refine wpAnyIn_sole 41 (by kernel_rfl) rfl (fun K hK => ?_)
        go_simp
        refine ⟨hO.fn _, hO.room _, ?_⟩
        refine (frameEach F (n - 1) (hO.fn _) hro hO.deep l B 4 [7] T e J Jx 7 W2.heap.size ((W2.alloc (.cells (ptrs B [7]) 57))) (by decide) hx3 (fun h => absurd (hTW _ h) (by omega)) he2 (fun k o W1 ho hj => yield_deep hO.deep 0 (hY (7 + k) (4, o) W1 (fieldsOf_c _ h1 k o ho) hj)) (abides_alloc hJ _ hJ2)).mono ?_
        rintro e' W3 (⟨rfl, hJ3, hk3⟩ | ⟨rfl, k, hk, hJx3⟩)
        · have hr3 : Row W3 Bp #[.pointer (some ⟨B, 0, none⟩)] 56 := (Row.alloc hr2 _).kept hk3 hT he1
          have hx1 := (Row.alloc hx1 _).kept hk3 (fun h => absurd (hTW _ h) (by omega)) he2
          have hJ3 : J 8 W3 := hJ3
          have hz3 := hx1.lt
          have hS3 : W3.cell? ⟨Bp, 0, none⟩ = some (.pointer (some ⟨B, 0, none⟩)) := hr3.cell 0 _ rfl
          refine hK _ _ ?_
          clear hK K
          refine wpAnyIn_lead hO 42 (v := (.bool true)) rfl (by kernel_rfl) (fun _ _ _ h => h) (Or.inl ⟨by rfl, fun X => by go_simp⟩) ?_
          simp only [Act.put, List.setIfInBounds_toArray, List.set_cons_zero, List.set_cons_succ]
          refine wpAnyIn_lead hO 43 (v := (.bool true)) rfl (by kernel_rfl) (fun _ _ _ h => h) (Or.inl ⟨by rfl, fun X => by go_simp⟩) ?_
          simp only [Act.put, List.setIfInBounds_toArray, List.set_cons_zero, List.set_cons_succ]
          refine wpAnyIn_lead hO 44 (v := (.bool true)) rfl (by kernel_rfl) (fun _ _ _ h => h) (Or.inl ⟨by rfl, fun X => by go_simp⟩) ?_
          simp only [Act.put, List.setIfInBounds_toArray, List.set_cons_zero, List.set_cons_succ]
          refine wpAnyIn_lead hO 45 (v := (.func (.yield l) #[] #[])) rfl (by kernel_rfl) (fun _ _ _ h => h) (Or.inl ⟨by rfl, fun X => by go_simp⟩) ?_
          simp only [Act.put, List.setIfInBounds_toArray, List.set_cons_zero, List.set_cons_succ]
          refine wpAnyIn_phase hO 46 49 (g := 3) (by kernel_rfl) rfl (by kernel_rfl) rfl ?_
          simp only [List.drop_succ_cons, List.drop_zero, List.take_succ_cons, List.take_zero, Nat.reduceSub]
          repeat still_step
          refine wpStill_nil ?_
          refine wpAnyIn_sole 49 (by kernel_rfl) rfl (fun K hK => ?_)
          go_simp
          refine hK _ _ ?_
          clear hK K
          have hx4 : Row ((W3.alloc (.cells (ptrs B [8]) 57))) W3.heap.size (ptrs B [8]) 57 := Row.new W3 _ _
          refine wpAnyIn_sole 50 (by kernel_rfl) rfl (fun K hK => ?_)
          go_simp
          refine ⟨hO.fn _, hO.room _, ?_⟩
          refine (frameEach F (n - 1) (hO.fn _) hro hO.deep l B 4 [8] T e J Jx 8 W3.heap.size ((W3.alloc (.cells (ptrs B [8]) 57))) (by decide) hx4 (fun h => absurd (hTW _ h) (by omega)) he2 (fun k o W1 ho hj => yield_deep hO.deep 0 (hY (8 + k) (4, o) W1 (fieldsOf_d _ h1 k o ho) hj)) (abides_alloc hJ _ hJ3)).mono ?_
          rintro e' W4 (⟨rfl, hJ4, hk4⟩ | ⟨rfl, k, hk, hJx4⟩)
          · refine hK _ _ ?_
            clear hK K
            refine wpAnyIn_lead hO 51 (v := (.bool true)) rfl (by kernel_rfl) (fun _ _ _ h => h) (Or.inl ⟨by rfl, fun X => by go_simp⟩) ?_
            simp only [Act.put, List.setIfInBounds_toArray, List.set_cons_zero, List.set_cons_succ]
            refine wpAnyIn_done (by kernel_rfl) ?_ _
            go_end0
            exact ⟨⟨_, rfl⟩, .inl (by rw [fieldsOf_length]; exact hJ4)⟩
          · refine hK _ _ ?_
            clear hK K
            refine wpAnyIn_lead hO 51 (v := (.bool false)) rfl (by kernel_rfl) (fun _ _ _ h => h) (Or.inl ⟨by rfl, fun X => by go_simp⟩) ?_
            simp only [Act.put, List.setIfInBounds_toArray, List.set_cons_zero, List.set_cons_succ]
            refine wpAnyIn_done (by kernel_rfl) ?_ _
            go_end0
            exact ⟨⟨_, rfl⟩, .inr ⟨8 + k, by rw [fieldsOf_length]; simp at hk ⊢; omega, hJx4⟩⟩
        · refine hK _ _ ?_
          clear hK K
          refine wpAnyIn_lead hO 42 (v := (.bool false)) rfl (by kernel_rfl) (fun _ _ _ h => h) (Or.inl ⟨by rfl, fun X => by go_simp⟩) ?_
          simp only [Act.put, List.setIfInBounds_toArray, List.set_cons_zero, List.set_cons_succ]
          refine wpAnyIn_lead hO 43 (v := (.bool false)) rfl (by kernel_rfl) (fun _ _ _ h => h) (Or.inl ⟨by rfl, fun X => by go_simp⟩) ?_
          simp only [Act.put, List.setIfInBounds_toArray, List.set_cons_zero, List.set_cons_succ]
          refine wpAnyIn_lead hO 44 (v := (.bool false)) rfl (by kernel_rfl) (fun _ _ _ h => h) (Or.inl ⟨by rfl, fun X => by go_simp⟩) ?_
          simp only [Act.put, List.setIfInBounds_toArray, List.set_cons_zero, List.set_cons_succ]
          refine wpAnyIn_skip hO (fun _ _ _ _ _ h => h) [45, 46, 47, 48, 49, 50] (fuel := 1) (by kernel_rfl) ?_
          refine wpAnyIn_lead hO 51 (v := (.bool false)) rfl (by kernel_rfl) (fun _ _ _ h => h) (Or.inl ⟨by rfl, fun X => by go_simp⟩) ?_
          simp only [Act.put, List.setIfInBounds_toArray, List.set_cons_zero, List.set_cons_succ]
          refine wpAnyIn_done (by kernel_rfl) ?_ _
          go_end0
          exact ⟨⟨_, rfl⟩, .inr ⟨7 + k, by rw [fieldsOf_length]; simp at hk ⊢; (try split); all_goals omega, hJx3⟩⟩
      · refine wpAnyIn_lead hO 35 (v := (.bool true)) rfl (by kernel_rfl) (fun _ _ _ h => h) (Or.inl ⟨by rfl, fun X => by go_simp⟩) ?_
        simp only [Act.put, List.setIfInBounds_toArray, List.set_cons_zero, List.set_cons_succ]
        refine wpAnyIn_skip hO (fun _ _ _ _ _ h => h) [36, 37, 38, 39, 40, 41] (fuel := 10) (by kernel_rfl) ?_
        refine wpAnyIn_lead hO 42 (v := (.bool true)) rfl (by kernel_rfl) (fun _ _ _ h => h) (Or.inl ⟨by rfl, fun X => by go_simp⟩) ?_
        simp only [Act.put, List.setIfInBounds_toArray, List.set_cons_zero, List.set_cons_succ]
        refine wpAnyIn_lead hO 43 (v := (.bool true)) rfl (by kernel_rfl) (fun _ _ _ h => h) (Or.inl ⟨by rfl, fun X => by go_simp⟩) ?_
        simp only [Act.put, List.setIfInBounds_toArray, List.set_cons_zero, List.set_cons_succ]
        refine wpAnyIn_lead hO 44 (v := (.bool true)) rfl (by kernel_rfl) (fun _ _ _ h => h) (Or.inl ⟨by rfl, fun X => by go_simp⟩) ?_
        simp only [Act.put, List.setIfInBounds_toArray, List.set_cons_zero, List.set_cons_succ]
        refine wpAnyIn_lead hO 45 (v := (.func (.yield l) #[] #[])) rfl (by kernel_rfl) (fun _ _ _ h => h) (Or.inl ⟨by rfl, fun X => by go_simp⟩) ?_
        simp only [Act.put, List.setIfInBounds_toArray, List.set_cons_zero, List.set_cons_succ]
        refine wpAnyIn_phase hO 46 49 (g := 3) (by kernel_rfl) rfl (by kernel_rfl) rfl ?_
        simp only [List.drop_succ_cons, List.drop_zero, List.take_succ_cons, List.take_zero, Nat.reduceSub]
        repeat still_step
        refine wpStill_nil ?_
        refine wpAnyIn_sole 49 (by kernel_rfl) rfl (fun K hK => ?_)
        go_simp
        refine hK _ _ ?_
        clear hK K
        have hx4 : Row ((W2.alloc (.cells (ptrs B [8]) 57))) W2.heap.size (ptrs B [8]) 57 := Row.new W2 _ _
        refine wpAnyIn_sole 50 (by kernel_rfl) rfl (fun K hK => ?_)
        go_simp
        refine ⟨hO.fn _, hO.room _, ?_⟩
        refine (frameEach F (n - 1) (hO.fn _) hro hO.deep l B 4 [8] T e J Jx 7 W2.heap.size ((W2.alloc (.cells (ptrs B [8]) 57))) (by decide) hx4 (fun h => absurd (hTW _ h) (by omega)) he2 (fun k o W1 ho hj => yield_deep hO.deep 0 (hY (7 + k) (4, o) W1 (fieldsOf_e _ h1 k o ho) hj)) (abides_alloc hJ _ hJ2)).mono ?_
        rintro e' W4 (⟨rfl, hJ4, hk4⟩ | ⟨rfl, k, hk, hJx4⟩)
        · refine hK _ _ ?_
          clear hK K
          refine wpAnyIn_lead hO 51 (v := (.bool true)) rfl (by kernel_rfl) (fun _ _ _ h => h) (Or.inl ⟨by rfl, fun X => by go_simp⟩) ?_
          simp only [Act.put, List.setIfInBounds_toArray, List.set_cons_zero, List.set_cons_succ]
          refine wpAnyIn_done (by kernel_rfl) ?_ _
          go_end0
          exact ⟨⟨_, rfl⟩, .inl (by rw [fieldsOf_length]; exact hJ4)⟩
        · refine hK _ _ ?_
          clear hK K
          refine wpAnyIn_lead hO 51 (v := (.bool false)) rfl (by kernel_rfl) (fun _ _ _ h => h) (Or.inl ⟨by rfl, fun X => by go_simp⟩) ?_
          simp only [Act.put, List.setIfInBounds_toArray, List.set_cons_zero, List.set_cons_succ]
          refine wpAnyIn_done (by kernel_rfl) ?_ _
          go_end0
          exact ⟨⟨_, rfl⟩, .inr ⟨7 + k, by rw [fieldsOf_length]; simp at hk ⊢; omega, hJx4⟩⟩
    · refine hK _ _ ?_
      clear hK K
      refine wpAnyIn_lead hO 28 (v := (.bool false)) rfl (by kernel_rfl) (fun _ _ _ h => h) (Or.inl ⟨by rfl, fun X => by go_simp⟩) ?_
      simp only [Act.put, List.setIfInBounds_toArray, List.set_cons_zero, List.set_cons_succ]
      refine wpAnyIn_lead hO 29 (v := (.bool false)) rfl (by kernel_rfl) (fun _ _ _ h => h) (Or.inl ⟨by rfl, fun X => by go_simp⟩) ?_
      simp only [Act.put, List.setIfInBounds_toArray, List.set_cons_zero, List.set_cons_succ]
      refine wpAnyIn_skip hO (fun _ _ _ _ _ h => h) [30, 31, 32, 33, 34, 35, 36, 37, 38, 39, 40, 41, 42] (fuel := 9) (by kernel_rfl) ?_
      refine wpAnyIn_lead hO 43 (v := (.bool false)) rfl (by kernel_rfl) (fun _ _ _ h => h) (Or.inl ⟨by rfl, fun X => by go_simp⟩) ?_
      simp only [Act.put, List.setIfInBounds_toArray, List.set_cons_zero, List.set_cons_succ]
      refine wpAnyIn_lead hO 44 (v := (.bool false)) rfl (by kernel_rfl) (fun _ _ _ h => h) (Or.inl ⟨by rfl, fun X => by go_simp⟩) ?_
      simp only [Act.put, List.setIfInBounds_toArray, List.set_cons_zero, List.set_cons_succ]
      refine wpAnyIn_skip hO (fun _ _ _ _ _ h => h) [45, 46, 47, 48, 49, 50] (fuel := 1) (by kernel_rfl) ?_
      refine wpAnyIn_lead hO 51 (v := (.bool false)) rfl (by kernel_rfl) (fun _ _ _ h => h) (Or.inl ⟨by rfl, fun X => by go_simp⟩) ?_
      simp only [Act.put, List.setIfInBounds_toArray, List.set_cons_zero, List.set_cons_succ]
      refine wpAnyIn_done (by kernel_rfl) ?_ _
      go_end0
      exact ⟨⟨_, rfl⟩, .inr ⟨4 + k, by rw [fieldsOf_length]; simp at hk ⊢; (try split); all_goals omega, hJx2⟩⟩
  · refine hK _ _ ?_
    clear hK K
    refine wpAnyIn_lead hO 15 (v := (.bool false)) rfl (by kernel_rfl) (fun _ _ _ h => h) (Or.inl ⟨by rfl, fun X => by go_simp⟩) ?_
    simp only [Act.put, List.setIfInBounds_toArray, List.set_cons_zero, List.set_cons_succ]
    refine wpAnyIn_skip hO (fun _ _ _ _ _ h => h) [16, 17, 18, 19, 20, 21, 22, 23, 24, 25, 26, 27] (fuel := 24) (by kernel_rfl) ?_
    refine wpAnyIn_lead hO 28 (v := (.bool false)) rfl (by kernel_rfl) (fun _ _ _ h => h) (Or.inl ⟨by rfl, fun X => by go_simp⟩) ?_
    simp only [Act.put, List.setIfInBounds_toArray, List.set_cons_zero, List.set_cons_succ]
    refine wpAnyIn_lead hO 29 (v := (.bool false)) rfl (by kernel_rfl) (fun _ _ _ h => h) (Or.inl ⟨by rfl, fun X => by go_simp⟩) ?_
    simp only [Act.put, List.setIfInBounds_toArray, List.set_cons_zero, List.set_cons_succ]
    refine wpAnyIn_skip hO (fun _ _ _ _ _ h => h) [30, 31, 32, 33, 34, 35, 36, 37, 38, 39, 40, 41, 42] (fuel := 9) (by kernel_rfl) ?_
    refine wpAnyIn_lead hO 43 (v := (.bool false)) rfl (by kernel_rfl) (fun _ _ _ h => h) (Or.inl ⟨by rfl, fun X => by go_simp⟩) ?_
    simp only [Act.put, List.setIfInBounds_toArray, List.set_cons_zero, List.set_cons_succ]
    refine wpAnyIn_lead hO 44 (v := (.bool false)) rfl (by kernel_rfl) (fun _ _ _ h => h) (Or.inl ⟨by rfl, fun X => by go_simp⟩) ?_
    simp only [Act.put, List.setIfInBounds_toArray, List.set_cons_zero, List.set_cons_succ]
    refine wpAnyIn_skip hO (fun _ _ _ _ _ h => h) [45, 46, 47, 48, 49, 50] (fuel := 1) (by kernel_rfl) ?_
    refine wpAnyIn_lead hO 51 (v := (.bool false)) rfl (by kernel_rfl) (fun _ _ _ h => h) (Or.inl ⟨by rfl, fun X => by go_simp⟩) ?_
    simp only [Act.put, List.setIfInBounds_toArray, List.set_cons_zero, List.set_cons_succ]
    refine wpAnyIn_done (by kernel_rfl) ?_ _
    go_end0
    exact ⟨⟨_, rfl⟩, .inr ⟨0 + k, by rw [fieldsOf_length]; simp at hk ⊢; (try split); all_goals omega, hJx1⟩⟩
end Go.Proofs.YtphfnlgjiomjkaaDoor
