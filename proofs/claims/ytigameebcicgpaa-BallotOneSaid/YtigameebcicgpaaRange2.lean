/-
  A range over a function that goes through a list known ahead, where what the iterator reads between two rounds is told by the caller ('Need'): the form of XRange with one premise more; over any program.
-/
import Derived.Test.YtigameebcicgpaaRange
namespace Go.Proofs.Ytigameebcicgpaa
open Go.RowKit

variable {F : Fence} {n : Nat} {P : Program}

/-- The iterator goes through xs, in order, until a round says no; k: how many rounds have said yes. -/
def GoesN {α : Type} (F : Fence) (n : Nat) (P : Program) (g : Nat) (lb : Array Value) (encs : α → Array Value) (Kp : World → World → Prop) (Need : Nat → World → Prop) (xs : List α) (w : World) : Prop :=
  ∀ (l : Nat) (J Jx : Nat → World → Prop) (W : World), Below w.heap.size w W → AbidesFrom W.heap.size J → AbidesFrom W.heap.size Jx → (∀ k W1, J k W1 → Need k W1) →
    (∀ k x W1, xs[k]? = some x → J k W1 → YieldAt F (n - 1) P l (encs x) W1 fun e W' =>
      (e = .returned (.bool true) ∧ J (k + 1) W' ∧ Kp W1 W') ∨ (e = .returned (.bool false) ∧ Jx k W')) →
    J 0 W →
    CallsIn F n P g (#[.func (.yield l) #[] #[]] ++ lb) W fun e W' => (∃ v, e = .returned v) ∧ (J xs.length W' ∨ ∃ k, k < xs.length ∧ Jx k W')

set_option maxHeartbeats 1000000 in
/-- The caller's law, in no round: the body is walked once, at the place k and what stands there. -/
theorem wpIn_goesN {α : Type} {g : Operand} {ps : Array Tmp} {assign body : Code} {Q : Exit → Act → World → Prop} {a : Act} {w : World}
    (hro : F.round = none) (h1 : 1 ≤ n) {gf : Nat} {lb : Array Value} (hg : a.eval g = .func (.func gf) #[] lb) (hFg : F.fn gf) (eg : ∀ args w, (callFunc gf args).run P w = .ok (.enter gf args) w)
    {encs : α → Array Value} {Kp : World → World → Prop} {xs : List α} {w0 : World} {Need : Nat → World → Prop} (hgo : GoesN F (n - 1) P gf lb encs Kp Need xs w0)
    (hKt : ∀ {A B C : World}, Kp A B → Kp B C → Kp A C) (hKb : ∀ (W : World) (l : Nat) (o o' : Obj), w.heap.size ≤ l → W.heap[l]? = some o → o.isCells = false → o.isWalk = false → Kp W (W.putObj l o')) (hb0 : Below w0.heap.size w0 w) (hps : ∀ x, (encs x).size = ps.size)
    (I : Nat → World → Prop) (Ix : Code → Nat → World → Prop) (hI : OwnFrom w.heap.size I) (hIx : ∀ c, OwnFrom w.heap.size (Ix c)) (h0 : I 0 w) (hneed : ∀ k W, I k W → Need k W)
    (Ax : α → Act → World → Prop) (hAx : ∀ x a', OwnFrom w.heap.size (fun (_ : Unit) W => Ax x a' W))
    (hassign : ∀ (l k : Nat) (x : α) (W : World) (K : Act → World → Prop), xs[k]? = some x → I k W → (∀ a' W', KeepsFrom w.heap.size W W' → Kp W W' → I k W' → Ax x a' W' → K a' W') →
      assign.wpIn (F.inRound l) (n - 1 - 1) P (Exit.then K (fun _ _ _ => False)) { tmps := (ps.zip (encs x)).foldl (fun t (p, v) => t.setIfInBounds p v) a.tmps, defers := [] } W)
    (hbody : ∀ (l k : Nat) (x : α) (a' : Act) (W : World), w.heap.size ≤ l → (∃ r, W.heap[l]? = some (.loop r)) → xs[k]? = some x → I k W → Ax x a' W →
      body.wpIn (F.inRound l) (n - 1 - 1) P (roundEnds w.heap.size Kp I Ix k W) a' W)
    (hdone : ∀ (D : Nat) (W : World), w.heap.size ≤ D → I xs.length W → W.heap[D]? = some (.deferred (some [])) → Q .normal { a with defers := { target := .collected D, args := #[] } :: a.defers } W)
    (hstop : ∀ (D : Nat) (c : Code) (k : Nat) (W : World), w.heap.size ≤ D → k < xs.length → Ix c k W → W.heap[D]? = some (.deferred (some [])) → c.wpIn F n P Q { a with defers := { target := .collected D, args := #[] } :: a.defers } W) :
    (Code.rangeFunc g ps assign body).wpIn F n P Q a w := by
  refine wpIn_rangeFunc fun fn hfn => ?_
  rw [hro]
  -- the loop's record, in each of its states; the world in which the iterator is called
  obtain ⟨R, hR⟩ : ∃ R : LoopState → Option Code → Obj, R = fun st j => .loop { state := st, pending := j, fn, tmps := a.tmps, params := ps, assign, body, defers := w.heap.size } := ⟨_, rfl⟩
  obtain ⟨V, hV⟩ : ∃ V, (w.alloc (.deferred (some []))).alloc (R .ready none) = V := ⟨_, rfl⟩
  have hVl : V.heap[w.heap.size + 1]? = some (R .ready none) := by
    rw [← hV]; simpa using World.alloc_heap_new (w.alloc (.deferred (some []))) (R .ready none)
  have hVd : V.heap[w.heap.size]? = some (.deferred (some [])) := by
    rw [← hV]; exact (Below.heap_alloc _ _ _ (by simp)).trans (World.alloc_heap_new w _)
  have hsz : V.heap.size = w.heap.size + 2 := by rw [← hV]; simp
  have hcell : ∀ st j, (R st j).isCells = false := fun st j => by rw [hR]; rfl
  have hwalk : ∀ st j, (R st j).isWalk = false := fun st j => by rw [hR]; rfl
  refine ⟨w.heap.size + 1, [{ target := .collected w.heap.size, args := #[] }], V, { target := .fn (.func gf) lb, args := #[.func (.yield (w.heap.size + 1)) #[] #[]] }, V, gf,
    #[.func (.yield (w.heap.size + 1)) #[] #[]] ++ lb, V, ?_, ?_, ?_, ?_, fun _ => h1, ?_⟩
  · rw [← hV, hR]; exact run_enterLoop_outer _ _ _ _ _
  · simp only [resolve, hg]; simp [go_sem]
  · intro f hf; simp [Target.leads] at hf; rw [← hf]; exact hFg
  · simp [invoke, go_sem, eg]
  · have far : ∀ {A : World} {row : Option Nat}, (∀ r, row = some r → V.heap.size ≤ r ∧ ∃ o : Obj, A.heap[r]? = some o ∧ o.isWalk = true) → (∀ r, row = some r → w.heap.size ≤ r ∧ ∃ o : Obj, A.heap[r]? = some o ∧ o.isCells = false) :=
      fun h r e => by obtain ⟨hB, o, ho, hw⟩ := h r e; exact ⟨by omega, o, ho, Obj.not_cells_of_walk hw⟩
    have stay : ∀ {A A' : World} {row : Option Nat} {k : Nat} {o : Obj}, A.grownBy A' row → (∀ r, row = some r → V.heap.size ≤ r ∧ ∃ o : Obj, A.heap[r]? = some o ∧ o.isWalk = true) → A.heap[k]? = some o → o.isWalk = false → A'.heap[k]? = some o :=
      fun hg' hr hk ho => (grownBy_keeps hg' (fun r e => (hr r e).2) hk ho).trans hk
    refine (hgo (w.heap.size + 1)
      (fun k W => I k W ∧ W.heap[w.heap.size + 1]? = some (R .ready none) ∧ W.heap[w.heap.size]? = some (.deferred (some [])))
      (fun k W => ∃ c, Ix c k W ∧ W.heap[w.heap.size + 1]? = some (R .done (some c)) ∧ W.heap[w.heap.size]? = some (.deferred (some [])))
      V (by rw [← hV]; exact hb0.trans ((((Below.refl _ w).alloc (Nat.le_refl _) _).alloc (by simp) _).mono hb0.size))
      (fun s A B row hs hg' hr => ⟨hI s A B row hs.1 hg' (far hr), stay hg' hr hs.2.1 (hwalk _ _), stay hg' hr hs.2.2 rfl⟩)
      (fun s A B row hs hg' hr => by
        obtain ⟨c, hc, hl, hk⟩ := hs
        exact ⟨c, hIx c s A B row hc hg' (far hr), stay hg' hr hl (hwalk _ _), stay hg' hr hk rfl⟩)
      (fun k W hs => hneed k W hs.1) ?_ ⟨by rw [← hV]; exact hI.alloc _ (hI.alloc _ h0), hVl, hVd⟩).mono ?_
    · rintro k x W hx ⟨hi, hl, hd⟩
      have hl' := hl
      rw [hR] at hl'
      refine ⟨fn, _, assign, body, run_yield (P := P) (args := encs x) hl' (hps x), roundIn_of_wpIn hfn (hassign _ k x W _ hx hi ?_)⟩
      intro a' X hXk hXp hXi hXa
      have hl2 := hXk.same _ _ (by omega) hl (hcell _ _)
      have hd2 := hXk.same _ _ (Nat.le_refl _) hd rfl
      have hl2' := hl2
      rw [hR] at hl2'
      refine ⟨_, run_beginRound hl2' rfl, ?_⟩
      -- the world in which the body runs: the record is busy
      obtain ⟨Y, hY⟩ : ∃ Y, X.putObj (w.heap.size + 1) (R .busy none) = Y := ⟨_, rfl⟩
      rw [show X.putObj (w.heap.size + 1) (.loop _) = Y from by rw [← hY, hR]]
      have hYl : Y.heap[w.heap.size + 1]? = some (R .busy none) := by rw [← hY]; exact World.putObj_heap_same (Array.getElem?_eq_some_iff.1 hl2).1
      have hYd : Y.heap[w.heap.size]? = some (.deferred (some [])) := by rw [← hY]; exact (World.putObj_heap_other (by omega)).trans hd2
      have hYp : Kp W Y := by rw [← hY]; exact hKt hXp (hKb _ _ _ _ (by omega) hl2 (hcell _ _) (hwalk _ _))
      have hYl' := hYl
      rw [hR] at hYl'
      refine wpIn_mono (hbody _ k x a' Y (by omega) ⟨_, hYl'⟩ hx (by rw [← hY]; exact hI.putObj _ hXi (by omega) hl2 (hcell _ _)) (by rw [← hY]; exact (hAx x a').putObj (s := ()) _ hXa (by omega) hl2 (hcell _ _))) ?_
      -- a body that leaves by a jump
      have out : ∀ (c : Code) (Z : World), KeepsFrom w.heap.size Y Z → Ix c k Z →
          ∃ v Z', (Instr.endRound (w.heap.size + 1) (some c)).run P Z = .ok (.bool v) Z' ∧ v = false ∧ (∃ c, Ix c k Z' ∧ Z'.heap[w.heap.size + 1]? = some (R .done (some c)) ∧ Z'.heap[w.heap.size]? = some (.deferred (some []))) := fun c Z hk hx' => by
        have hZ := hk.same _ _ (by omega) hYl (hcell _ _)
        have hZ' := hZ
        rw [hR] at hZ'
        refine ⟨_, _, run_endRound (P := P) (some c) hZ', rfl, c, (hIx c).putObj _ hx' (by omega) hZ (hcell _ _), ?_, (World.putObj_heap_other (by omega)).trans (hk.same _ _ (Nat.le_refl _) hYd rfl)⟩
        rw [World.putObj_heap_same (Array.getElem?_eq_some_iff.1 hZ).1, hR]
        rfl
      rintro e a3 Z hp
      cases e with
      | normal =>
        obtain ⟨hk, hkp, hi3⟩ := hp
        have hZ := hk.same _ _ (by omega) hYl (hcell _ _)
        have hZ' := hZ
        rw [hR] at hZ'
        refine ⟨_, _, run_endRound (P := P) none hZ', .inl ⟨rfl, ⟨hI.putObj _ hi3 (by omega) hZ (hcell _ _), ?_, (World.putObj_heap_other (by omega)).trans (hk.same _ _ (Nat.le_refl _) hYd rfl)⟩, hKt (hKt hYp hkp) (hKb _ _ _ _ (by omega) hZ (hcell _ _) (hwalk _ _))⟩⟩
        rw [World.putObj_heap_same (Array.getElem?_eq_some_iff.1 hZ).1, hR]
        rfl
      | ret =>
        obtain ⟨v, Z', hr, rfl, ho⟩ := out _ Z hp.1 hp.2
        exact ⟨_, _, hr, .inr ⟨rfl, ho⟩⟩
      | exit id =>
        obtain ⟨v, Z', hr, rfl, ho⟩ := out _ Z hp.1 hp.2
        exact ⟨_, _, hr, .inr ⟨rfl, ho⟩⟩
      | goto t =>
        obtain ⟨v, Z', hr, rfl, ho⟩ := out _ Z hp.1 hp.2
        exact ⟨_, _, hr, .inr ⟨rfl, ho⟩⟩
      | panic ch => exact hp.elim
      | outgrown => exact hp.elim
    · rintro e Z ⟨⟨v, rfl⟩, (⟨hi, hl, hd⟩ | ⟨k, hk, c, hi, hl, hd⟩)⟩
      · have hl' := hl
        rw [hR] at hl'
        exact ⟨none, _, run_endLoop (P := P) hl' (by simp), hdone _ _ (Nat.le_refl _) (hI.putObj _ hi (by omega) hl (hcell _ _)) ((World.putObj_heap_other (by omega)).trans hd)⟩
      · have hl' := hl
        rw [hR] at hl'
        exact ⟨some c, _, run_endLoop (P := P) hl' (by simp), hstop _ c k _ (Nat.le_refl _) hk ((hIx c).putObj _ hi (by omega) hl (hcell _ _)) ((World.putObj_heap_other (by omega)).trans hd)⟩

/-- The same where the loop's variables are no boxes: what the round begins with is known ahead; . -/
theorem wpIn_goesN_plain {α : Type} {g : Operand} {ps : Array Tmp} {assign body : Code} {Q : Exit → Act → World → Prop} {a : Act} {w : World}
    (hro : F.round = none) (h1 : 1 ≤ n) {gf : Nat} {lb : Array Value} (hg : a.eval g = .func (.func gf) #[] lb) (hFg : F.fn gf) (eg : ∀ args w, (callFunc gf args).run P w = .ok (.enter gf args) w)
    {encs : α → Array Value} {Kp : World → World → Prop} {Need : Nat → World → Prop} {xs : List α} {w0 : World} (hgo : GoesN F (n - 1) P gf lb encs Kp Need xs w0) (hKt : ∀ {A B C : World}, Kp A B → Kp B C → Kp A C) (hKb : ∀ (W : World) (l : Nat) (o o' : Obj), W.heap[l]? = some o → o.isCells = false → Kp W (W.putObj l o')) (hKr : ∀ W : World, Kp W W)
    (hb0 : Below w0.heap.size w0 w) (hps : ∀ x, (encs x).size = ps.size)
    (I : Nat → World → Prop) (Ix : Code → Nat → World → Prop) (hI : OwnFrom w.heap.size I) (hIx : ∀ c, OwnFrom w.heap.size (Ix c)) (h0 : I 0 w) (hneed : ∀ k W, I k W → Need k W) (a₁ : α → Act)
    (hassign : ∀ (l : Nat) (x : α) (W : World) (K : Act → World → Prop), K (a₁ x) W →
      assign.wpIn (F.inRound l) (n - 1 - 1) P (Exit.then K (fun _ _ _ => False)) { tmps := (ps.zip (encs x)).foldl (fun t (p, v) => t.setIfInBounds p v) a.tmps, defers := [] } W)
    (hbody : ∀ (l k : Nat) (x : α) (W : World), xs[k]? = some x → I k W →
      body.wpIn (F.inRound l) (n - 1 - 1) P (roundEnds w.heap.size Kp I Ix k W) (a₁ x) W)
    (hdone : ∀ (D : Nat) (W : World), w.heap.size ≤ D → I xs.length W → W.heap[D]? = some (.deferred (some [])) → Q .normal { a with defers := { target := .collected D, args := #[] } :: a.defers } W)
    (hstop : ∀ (D : Nat) (c : Code) (k : Nat) (W : World), w.heap.size ≤ D → k < xs.length → Ix c k W → W.heap[D]? = some (.deferred (some [])) → c.wpIn F n P Q { a with defers := { target := .collected D, args := #[] } :: a.defers } W) :
    (Code.rangeFunc g ps assign body).wpIn F n P Q a w :=
  wpIn_goesN hro h1 hg hFg eg hgo hKt
    (fun W l o o' _ h hc _ => hKb W l o o' h hc) hb0 hps I Ix hI hIx h0 hneed (fun x a' _ => a' = a₁ x) (fun _ _ => ownFrom_pure _ _)
    (fun l k x W K _ hi hK => hassign l x W K (hK _ _ ((KeepsOthers.refl W).from _) (hKr _) hi rfl))
    (fun l k x a' W _ _ hx hi ha => by subst ha; exact hbody l k x W hx hi) hdone hstop

/-- The same, what a round begins with left to be found: '⟨_, by intro l x W K hK; gi_wp2; exact hK, ?body⟩'. -/
theorem wpIn_goesN_found {α : Type} {g : Operand} {ps : Array Tmp} {assign body : Code} {Q : Exit → Act → World → Prop} {a : Act} {w : World}
    (hro : F.round = none) (h1 : 1 ≤ n) {gf : Nat} {lb : Array Value} (hg : a.eval g = .func (.func gf) #[] lb) (hFg : F.fn gf) (eg : ∀ args w, (callFunc gf args).run P w = .ok (.enter gf args) w)
    {encs : α → Array Value} {Kp : World → World → Prop} {Need : Nat → World → Prop} {xs : List α} {w0 : World} (hgo : GoesN F (n - 1) P gf lb encs Kp Need xs w0) (hKt : ∀ {A B C : World}, Kp A B → Kp B C → Kp A C) (hKb : ∀ (W : World) (l : Nat) (o o' : Obj), W.heap[l]? = some o → o.isCells = false → Kp W (W.putObj l o')) (hKr : ∀ W : World, Kp W W)
    (hb0 : Below w0.heap.size w0 w) (hps : ∀ x, (encs x).size = ps.size)
    (I : Nat → World → Prop) (Ix : Code → Nat → World → Prop) (hI : OwnFrom w.heap.size I) (hIx : ∀ c, OwnFrom w.heap.size (Ix c)) (h0 : I 0 w) (hneed : ∀ k W, I k W → Need k W)
    (hround : ∃ a₁ : α → Act,
      (∀ (l : Nat) (x : α) (W : World) (K : Act → World → Prop), K (a₁ x) W →
        assign.wpIn (F.inRound l) (n - 1 - 1) P (Exit.then K (fun _ _ _ => False)) { tmps := (ps.zip (encs x)).foldl (fun t (p, v) => t.setIfInBounds p v) a.tmps, defers := [] } W) ∧
      ∀ (l k : Nat) (x : α) (W : World), xs[k]? = some x → I k W → body.wpIn (F.inRound l) (n - 1 - 1) P (roundEnds w.heap.size Kp I Ix k W) (a₁ x) W)
    (hdone : ∀ (D : Nat) (W : World), w.heap.size ≤ D → I xs.length W → W.heap[D]? = some (.deferred (some [])) → Q .normal { a with defers := { target := .collected D, args := #[] } :: a.defers } W)
    (hstop : ∀ (D : Nat) (c : Code) (k : Nat) (W : World), w.heap.size ≤ D → k < xs.length → Ix c k W → W.heap[D]? = some (.deferred (some [])) → c.wpIn F n P Q { a with defers := { target := .collected D, args := #[] } :: a.defers } W) :
    (Code.rangeFunc g ps assign body).wpIn F n P Q a w := by
  obtain ⟨a₁, hassign, hbody⟩ := hround
  exact wpIn_goesN_plain hro h1 hg hFg eg hgo hKt hKb hKr hb0 hps I Ix hI hIx h0 hneed a₁ hassign hbody hdone hstop

/-- Every block of cells lies as it lay, but those of T and those of a type in e. -/
def Kept (T : Nat → Prop) (e : TypeId → Prop) (W W' : World) : Prop := ∀ b c t fz, W.heap[b]? = some (.cells c t fz) → ¬ T b → ¬ e t → W'.heap[b]? = some (.cells c t fz)
theorem Kept.refl (T : Nat → Prop) (e : TypeId → Prop) (W : World) : Kept T e W W := fun _ _ _ _ h _ _ => h
theorem Kept.trans {T : Nat → Prop} {e : TypeId → Prop} {A B C : World} (h : Kept T e A B) (k : Kept T e B C) : Kept T e A C := fun b c t fz hb hT he => k b c t fz (h b c t fz hb hT he) hT he
theorem Kept.putObj {T : Nat → Prop} {e : TypeId → Prop} (W : World) (l : Nat) (o o' : Obj) (h : W.heap[l]? = some o) (hc : o.isCells = false) : Kept T e W (W.putObj l o') := fun b c t fz hb _ _ => by
  have hne : b ≠ l := fun e => by subst e; rw [hb] at h; cases h; cases hc
  rw [World.putObj_heap_other hne]; exact hb
theorem Kept.setCell {T : Nat → Prop} {e : TypeId → Prop} {W W' : World} (h : Kept T e W W') (p : Addr) (v : Value) (hp : T p.block) : Kept T e W (W'.setCell p v) :=
  fun b c t fz hb hT he => (Below.heap_setCell W' p v b (fun x => hT (x ▸ hp))).trans (h b c t fz hb hT he)
theorem Kept.of_below {T : Nat → Prop} {e : TypeId → Prop} {W W' : World} (h : Below W.heap.size W W') : Kept T e W W' := fun b _ _ _ hb _ _ => (h.block b (Array.getElem?_eq_some_iff.1 hb).1).trans hb
theorem Kept.of_grownBy {T : Nat → Prop} {e : TypeId → Prop} {W W' : World} {row : Option Nat} (hg : W.grownBy W' row) (hr : ∀ r, row = some r → ∃ o : Obj, W.heap[r]? = some o ∧ o.isCells = false) : Kept T e W W' := fun b c t fz hb _ _ => by
  refine (hg.block b (Array.getElem?_eq_some_iff.1 hb).1 (fun x => ?_)).trans hb
  obtain ⟨o, ho, hc⟩ := hr b x.symm
  rw [hb] at ho; cases ho; cases hc
theorem Kept.mono {T T' : Nat → Prop} {e e' : TypeId → Prop} {W W' : World} (h : Kept T e W W') (hT : ∀ b, T b → T' b) (he : ∀ t, e t → e' t) : Kept T' e' W W' := fun b c t fz hb hT' he' => h b c t fz hb (fun x => hT' (hT b x)) (fun x => he' (he t x))
theorem Kept.own {T : Nat → Prop} {e : TypeId → Prop} {β : Type} (w₀ : World) : Own (fun (_ : β) W => Kept T e w₀ W) := fun _ _ _ _ hs hg hr => hs.trans (Kept.of_grownBy hg hr)
/-- A block that holds known cells. -/
def Row (W : World) (b : Nat) (c : Array Value) (t : TypeId) : Prop := W.heap[b]? = some (.cells c t (0, 0))
theorem Row.kept {T : Nat → Prop} {e : TypeId → Prop} {W W' : World} {b : Nat} {c : Array Value} {t : TypeId} (h : Row W b c t) (hk : Kept T e W W') (hT : ¬ T b) (he : ¬ e t) : Row W' b c t := hk b c t _ h hT he
theorem Row.new (W : World) (c : Array Value) (t : TypeId) : Row (W.alloc (.cells c t)) W.heap.size c t := World.alloc_heap_new W _
theorem Row.alloc {W : World} {b : Nat} {c : Array Value} {t : TypeId} (h : Row W b c t) (o : Obj) : Row (W.alloc o) b c t := (Below.heap_alloc W o b (Array.getElem?_eq_some_iff.1 h).1).trans h
theorem Row.below {W W' : World} {b n₀ : Nat} {c : Array Value} {t : TypeId} (h : Row W b c t) (hb : Below n₀ W W') (hn : b < n₀) : Row W' b c t := (hb.block b hn).trans h
theorem Row.lt {W : World} {b : Nat} {c : Array Value} {t : TypeId} (h : Row W b c t) : b < W.heap.size := (Array.getElem?_eq_some_iff.1 h).1
theorem Row.drew {W : World} {b : Nat} {c : Array Value} {t : TypeId} (h : Row W b c t) : Row W.drew b c t := h
theorem Row.own {β : Type} (b : Nat) (f : β → Array Value) (t : TypeId) : Own (fun s W => Row W b (f s) t) := fun s X Y row hs hg hr =>
  (hg.block b (Row.lt hs) (fun x => by obtain ⟨o, ho, hc⟩ := hr b x.symm; rw [show X.heap[b]? = _ from hs] at ho; cases ho; cases hc)).trans hs
theorem Row.cell {W : World} {b : Nat} {c : Array Value} {t : TypeId} (h : Row W b c t) (k : Nat) (v : Value) (hk : c[k]? = some v) : W.cell? ⟨b, k, none⟩ = some v := by
  simp [World.cell?, show W.heap[b]? = _ from h, hk]
theorem Row.thawed {W : World} {b : Nat} {c : Array Value} {t : TypeId} (h : Row W b c t) (k : Nat) : W.frozen? ⟨b, k, none⟩ = false := by
  simp [World.frozen?, show W.heap[b]? = _ from h]
theorem Row.set {W : World} {b : Nat} {c : Array Value} {t : TypeId} (h : Row W b c t) (k : Nat) (v : Value) : Row (W.setCell ⟨b, k, none⟩ v) b (c.setIfInBounds k v) t := by
  have h' : W.heap[b]? = some (.cells c t (0, 0)) := h
  unfold Row World.setCell
  simp only [Array.getElem?_modify, if_true]
  rw [h']
  simp
theorem Row.other {W : World} {b : Nat} {c : Array Value} {t : TypeId} (h : Row W b c t) {p : Addr} (hp : p.block ≠ b) (v : Value) : Row (W.setCell p v) b c t := (Below.heap_setCell W p v b (fun x => hp x.symm)).trans h

end Go.Proofs.Ytigameebcicgpaa
