/-
  A range over a function that goes through a list known ahead: a round knows the place of what it is handed; over any program.
-/
import Derived.RangeFuncNested
import Derived.RangeFuncBound
import Derived.RangeFuncLeaves
namespace Go.Proofs.Ytigameebcicgpaa
open Go.RowKit

variable {F : Fence} {n : Nat} {P : Program}

/-- The iterator goes through xs, in order, until a round says no; k: how many rounds have said yes. -/
def Goes {α : Type} (F : Fence) (n : Nat) (P : Program) (g : Nat) (lb : Array Value) (encs : α → Array Value) (Kp : World → World → Prop) (xs : List α) (w : World) : Prop :=
  ∀ (l : Nat) (J Jx : Nat → World → Prop) (W : World), Below w.heap.size w W → AbidesFrom W.heap.size J → AbidesFrom W.heap.size Jx →
    (∀ k x W1, xs[k]? = some x → J k W1 → YieldAt F (n - 1) P l (encs x) W1 fun e W' =>
      (e = .returned (.bool true) ∧ J (k + 1) W' ∧ Kp W1 W') ∨ (e = .returned (.bool false) ∧ Jx k W')) →
    J 0 W →
    CallsIn F n P g (#[.func (.yield l) #[] #[]] ++ lb) W fun e W' => (∃ v, e = .returned v) ∧ (J xs.length W' ∨ ∃ k, k < xs.length ∧ Jx k W')

/-- How a round's body may end: it goes on; or it leaves by a jump. -/
def roundEnds (B : Nat) (Kp : World → World → Prop) (I : Nat → World → Prop) (Ix : Code → Nat → World → Prop) (k : Nat) (W : World) : Exit → Act → World → Prop
  | .normal, _, W' => KeepsFrom B W W' ∧ Kp W W' ∧ I (k + 1) W'
  | .ret, _, W' => KeepsFrom B W W' ∧ Ix .ret k W'
  | .exit id, _, W' => KeepsFrom B W W' ∧ Ix (.exit id) k W'
  | .goto t, _, W' => KeepsFrom B W W' ∧ Ix (.goto t) k W'
  | .panic _, _, _ => False
  | .outgrown, _, _ => False

set_option maxHeartbeats 1000000 in
/-- The caller's law, in no round: the body is walked once, at the place k and what stands there. -/
theorem wpIn_goes {α : Type} {g : Operand} {ps : Array Tmp} {assign body : Code} {Q : Exit → Act → World → Prop} {a : Act} {w : World}
    (hro : F.round = none) (h1 : 1 ≤ n) {gf : Nat} {lb : Array Value} (hg : a.eval g = .func (.func gf) #[] lb) (hFg : F.fn gf) (eg : ∀ args w, (callFunc gf args).run P w = .ok (.enter gf args) w)
    {encs : α → Array Value} {Kp : World → World → Prop} {xs : List α} {w0 : World} (hgo : Goes F (n - 1) P gf lb encs Kp xs w0)
    (hKt : ∀ {A B C : World}, Kp A B → Kp B C → Kp A C) (hKb : ∀ (W : World) (l : Nat) (o o' : Obj), w.heap.size ≤ l → W.heap[l]? = some o → o.isCells = false → o.isWalk = false → Kp W (W.putObj l o')) (hb0 : Below w0.heap.size w0 w) (hps : ∀ x, (encs x).size = ps.size)
    (I : Nat → World → Prop) (Ix : Code → Nat → World → Prop) (hI : OwnFrom w.heap.size I) (hIx : ∀ c, OwnFrom w.heap.size (Ix c)) (h0 : I 0 w)
    (Ax : α → Act → World → Prop) (hAx : ∀ x a', OwnFrom w.heap.size (fun (_ : Unit) W => Ax x a' W))
    (hassign : ∀ (l k : Nat) (x : α) (W : World) (K : Act → World → Prop), xs[k]? = some x → I k W → (∀ a' W', KeepsFrom w.heap.size W W' → Kp W W' → I k W' → Ax x a' W' → K a' W') →
      assign.wpIn (F.inRound l) (n - 1 - 1) P (Exit.then K (fun _ _ _ => False)) { tmps := (ps.zip (encs x)).foldl (fun t (p, v) => t.setIfInBounds p v) a.tmps, defers := [] } W)
    (hbody : ∀ (l k : Nat) (x : α) (a' : Act) (W : World), w.heap.size ≤ l → (∃ r, W.heap[l]? = some (.loop r)) → xs[k]? = some x → I k W → Ax x a' W →
      body.wpIn (F.inRound l) (n - 1 - 1) P (roundEnds w.heap.size Kp I Ix k W) a' W)
    (hdone : ∀ (D : Nat) (W : World), w.heap.size ≤ D → I xs.length W → W.heap[D]? = some (.deferred (some [])) → Q .normal { a with defers := { target := .collected D, args := #[] } :: a.defers } W)
    (hstop : ∀ (D : Nat) (c : Code) (k : Nat) (W : World), w.heap.size ≤ D → k < xs.length → Ix c k W → W.heap[D]? = some (.deferred (some [])) → c.wpIn F n P Q { a with defers := { target := .collected D, args := #[] } :: a.defers } W) :
    (Code.rangeFunc g ps assign body).wpIn F n P Q a w := by
  refine wpIn_rangeFunc fun fn hfn => ?_
  rw [hro]
  -- the loop's record, in each of its states; the world in which the iterator is called
  obtain ⟨R, hR⟩ : ∃ R : LoopState → Option Code → Obj, R = fun st j => .loop { state := st, pending := j, fn, tmps := a.tmps, params := ps, assign, body, defers := w.heap.size } := ⟨_, rfl⟩
  obtain ⟨V, hV⟩ : ∃ V, (w.alloc (.deferred (some []))).alloc (R .ready none) = V := ⟨_, rfl⟩
  have hVl : V.heap[w.heap.size + 1]? = some (R .ready none) := by
    rw [← hV]; simpa using World.alloc_heap_new (w.alloc (.deferred (some []))) (R .ready none)
  have hVd : V.heap[w.heap.size]? = some (.deferred (some [])) := by
    rw [← hV]; exact (Below.heap_alloc _ _ _ (by simp)).trans (World.alloc_heap_new w _)
  have hsz : V.heap.size = w.heap.size + 2 := by rw [← hV]; simp
  have hcell : ∀ st j, (R st j).isCells = false := fun st j => by rw [hR]; rfl
  have hwalk : ∀ st j, (R st j).isWalk = false := fun st j => by rw [hR]; rfl
  refine ⟨w.heap.size + 1, [{ target := .collected w.heap.size, args := #[] }], V, { target := .fn (.func gf) lb, args := #[.func (.yield (w.heap.size + 1)) #[] #[]] }, V, gf,
    #[.func (.yield (w.heap.size + 1)) #[] #[]] ++ lb, V, ?_, ?_, ?_, ?_, fun _ => h1, ?_⟩
  · rw [← hV, hR]; exact run_enterLoop_outer _ _ _ _ _
  · simp only [resolve, hg]; simp [go_sem]
  · intro f hf; simp [Target.leads] at hf; rw [← hf]; exact hFg
  · simp [invoke, go_sem, eg]
  · have far : ∀ {A : World} {row : Option Nat}, (∀ r, row = some r → V.heap.size ≤ r ∧ ∃ o : Obj, A.heap[r]? = some o ∧ o.isWalk = true) → (∀ r, row = some r → w.heap.size ≤ r ∧ ∃ o : Obj, A.heap[r]? = some o ∧ o.isCells = false) :=
      fun h r e => by obtain ⟨hB, o, ho, hw⟩ := h r e; exact ⟨by omega, o, ho, Obj.not_cells_of_walk hw⟩
    have stay : ∀ {A A' : World} {row : Option Nat} {k : Nat} {o : Obj}, A.grownBy A' row → (∀ r, row = some r → V.heap.size ≤ r ∧ ∃ o : Obj, A.heap[r]? = some o ∧ o.isWalk = true) → A.heap[k]? = some o → o.isWalk = false → A'.heap[k]? = some o :=
      fun hg' hr hk ho => (grownBy_keeps hg' (fun r e => (hr r e).2) hk ho).trans hk
    refine (hgo (w.heap.size + 1)
      (fun k W => I k W ∧ W.heap[w.heap.size + 1]? = some (R .ready none) ∧ W.heap[w.heap.size]? = some (.deferred (some [])))
      (fun k W => ∃ c, Ix c k W ∧ W.heap[w.heap.size + 1]? = some (R .done (some c)) ∧ W.heap[w.heap.size]? = some (.deferred (some [])))
      V (by rw [← hV]; exact hb0.trans ((((Below.refl _ w).alloc (Nat.le_refl _) _).alloc (by simp) _).mono hb0.size))
      (fun s A B row hs hg' hr => ⟨hI s A B row hs.1 hg' (far hr), stay hg' hr hs.2.1 (hwalk _ _), stay hg' hr hs.2.2 rfl⟩)
      (fun s A B row hs hg' hr => by
        obtain ⟨c, hc, hl, hk⟩ := hs
        exact ⟨c, hIx c s A B row hc hg' (far hr), stay hg' hr hl (hwalk _ _), stay hg' hr hk rfl⟩)
      ?_ ⟨by rw [← hV]; exact hI.alloc _ (hI.alloc _ h0), hVl, hVd⟩).mono ?_
    · rintro k x W hx ⟨hi, hl, hd⟩
      have hl' := hl
      rw [hR] at hl'
      refine ⟨fn, _, assign, body, run_yield (P := P) (args := encs x) hl' (hps x), roundIn_of_wpIn hfn (hassign _ k x W _ hx hi ?_)⟩
      intro a' X hXk hXp hXi hXa
      have hl2 := hXk.same _ _ (by omega) hl (hcell _ _)
      have hd2 := hXk.same _ _ (Nat.le_refl _) hd rfl
      have hl2' := hl2
      rw [hR] at hl2'
      refine ⟨_, run_beginRound hl2' rfl, ?_⟩
      -- the world in which the body runs: the record is busy
      obtain ⟨Y, hY⟩ : ∃ Y, X.putObj (w.heap.size + 1) (R .busy none) = Y := ⟨_, rfl⟩
      rw [show X.putObj (w.heap.size + 1) (.loop _) = Y from by rw [← hY, hR]]
      have hYl : Y.heap[w.heap.size + 1]? = some (R .busy none) := by rw [← hY]; exact World.putObj_heap_same (Array.getElem?_eq_some_iff.1 hl2).1
      have hYd : Y.heap[w.heap.size]? = some (.deferred (some [])) := by rw [← hY]; exact (World.putObj_heap_other (by omega)).trans hd2
      have hYp : Kp W Y := by rw [← hY]; exact hKt hXp (hKb _ _ _ _ (by omega) hl2 (hcell _ _) (hwalk _ _))
      have hYl' := hYl
      rw [hR] at hYl'
      refine wpIn_mono (hbody _ k x a' Y (by omega) ⟨_, hYl'⟩ hx (by rw [← hY]; exact hI.putObj _ hXi (by omega) hl2 (hcell _ _)) (by rw [← hY]; exact (hAx x a').putObj (s := ()) _ hXa (by omega) hl2 (hcell _ _))) ?_
      -- a body that leaves by a jump
      have out : ∀ (c : Code) (Z : World), KeepsFrom w.heap.size Y Z → Ix c k Z →
          ∃ v Z', (Instr.endRound (w.heap.size + 1) (some c)).run P Z = .ok (.bool v) Z' ∧ v = false ∧ (∃ c, Ix c k Z' ∧ Z'.heap[w.heap.size + 1]? = some (R .done (some c)) ∧ Z'.heap[w.heap.size]? = some (.deferred (some []))) := fun c Z hk hx' => by
        have hZ := hk.same _ _ (by omega) hYl (hcell _ _)
        have hZ' := hZ
        rw [hR] at hZ'
        refine ⟨_, _, run_endRound (P := P) (some c) hZ', rfl, c, (hIx c).putObj _ hx' (by omega) hZ (hcell _ _), ?_, (World.putObj_heap_other (by omega)).trans (hk.same _ _ (Nat.le_refl _) hYd rfl)⟩
        rw [World.putObj_heap_same (Array.getElem?_eq_some_iff.1 hZ).1, hR]
        rfl
      rintro e a3 Z hp
      cases e with
      | normal =>
        obtain ⟨hk, hkp, hi3⟩ := hp
        have hZ := hk.same _ _ (by omega) hYl (hcell _ _)
        have hZ' := hZ
        rw [hR] at hZ'
        refine ⟨_, _, run_endRound (P := P) none hZ', .inl ⟨rfl, ⟨hI.putObj _ hi3 (by omega) hZ (hcell _ _), ?_, (World.putObj_heap_other (by omega)).trans (hk.same _ _ (Nat.le_refl _) hYd rfl)⟩, hKt (hKt hYp hkp) (hKb _ _ _ _ (by omega) hZ (hcell _ _) (hwalk _ _))⟩⟩
        rw [World.putObj_heap_same (Array.getElem?_eq_some_iff.1 hZ).1, hR]
        rfl
      | ret =>
        obtain ⟨v, Z', hr, rfl, ho⟩ := out _ Z hp.1 hp.2
        exact ⟨_, _, hr, .inr ⟨rfl, ho⟩⟩
      | exit id =>
        obtain ⟨v, Z', hr, rfl, ho⟩ := out _ Z hp.1 hp.2
        exact ⟨_, _, hr, .inr ⟨rfl, ho⟩⟩
      | goto t =>
        obtain ⟨v, Z', hr, rfl, ho⟩ := out _ Z hp.1 hp.2
        exact ⟨_, _, hr, .inr ⟨rfl, ho⟩⟩
      | panic ch => exact hp.elim
      | outgrown => exact hp.elim
    · rintro e Z ⟨⟨v, rfl⟩, (⟨hi, hl, hd⟩ | ⟨k, hk, c, hi, hl, hd⟩)⟩
      · have hl' := hl
        rw [hR] at hl'
        exact ⟨none, _, run_endLoop (P := P) hl' (by simp), hdone _ _ (Nat.le_refl _) (hI.putObj _ hi (by omega) hl (hcell _ _)) ((World.putObj_heap_other (by omega)).trans hd)⟩
      · have hl' := hl
        rw [hR] at hl'
        exact ⟨some c, _, run_endLoop (P := P) hl' (by simp), hstop _ c k _ (Nat.le_refl _) hk ((hIx c).putObj _ hi (by omega) hl (hcell _ _)) ((World.putObj_heap_other (by omega)).trans hd)⟩

/-- The blocks of S lie as they lay. -/
def Keeps (S : Nat → Prop) (W W' : World) : Prop := ∀ b, S b → W'.heap[b]? = W.heap[b]?
theorem Keeps.refl (S : Nat → Prop) (W : World) : Keeps S W W := fun _ _ => rfl
theorem Keeps.trans {S : Nat → Prop} {A B C : World} (h : Keeps S A B) (k : Keeps S B C) : Keeps S A C := fun b hb => (k b hb).trans (h b hb)
theorem Keeps.cell {S : Nat → Prop} {W W' : World} (h : Keeps S W W') {p : Addr} (hb : S p.block) : W'.cell? p = W.cell? p := World.cell?_of_block (w := W) (h p.block hb)
theorem Keeps.frozen {S : Nat → Prop} {W W' : World} (h : Keeps S W W') {p : Addr} (hb : S p.block) : W'.frozen? p = W.frozen? p := World.frozen?_of_block (w := W) (h p.block hb)
theorem Keeps.setCell {S : Nat → Prop} {W W' : World} (h : Keeps S W W') (p : Addr) (v : Value) (hp : ¬ S p.block) : Keeps S W (W'.setCell p v) :=
  fun b hb => (Below.heap_setCell W' p v b (fun e => hp (e ▸ hb))).trans (h b hb)
theorem Keeps.of_below {S : Nat → Prop} {W W' : World} {B : Nat} (h : Below B W W') (hS : ∀ b, S b → b < B) : Keeps S W W' := fun b hb => h.block b (hS b hb)

/-- A variable that lies in memory of its own: what it holds; it may be written. -/
def Box (W : World) (B : Nat) (v : Value) : Prop := W.cell? ⟨B, 0, none⟩ = some v ∧ W.frozen? ⟨B, 0, none⟩ = false
theorem Box.new (W : World) (v : Value) (t : TypeId) : Box (W.alloc (.cells #[v] t)) W.heap.size v := ⟨by simp, by simp⟩
theorem Box.kept {W W' : World} {row : Option Nat} {B : Nat} {v : Value} (h : Box W B v) (hg : W.grownBy W' row) (hr : ∀ r, row = some r → ∃ o : Obj, W.heap[r]? = some o ∧ o.isCells = false) : Box W' B v :=
  ⟨cell_kept h.1 hg hr, (frozen_kept h.1 hg hr).trans h.2⟩
theorem Box.alloc {W : World} {B : Nat} {v : Value} (h : Box W B v) (o : Obj) : Box (W.alloc o) B v := h.kept (World.grownBy_alloc W o none) (fun r e => by cases e)
theorem Box.same {W W' : World} {B : Nat} {v : Value} (h : Box W B v) (hb : W'.heap[B]? = W.heap[B]?) : Box W' B v :=
  ⟨(World.cell?_of_block (w := W) (a := ⟨B, 0, none⟩) hb).trans h.1, (World.frozen?_of_block (w := W) (a := ⟨B, 0, none⟩) hb).trans h.2⟩
theorem Box.below {W W' : World} {B n₀ : Nat} {v : Value} (h : Box W B v) (hb : Below n₀ W W') (hn : B < n₀) : Box W' B v := h.same (hb.block B hn)
theorem Box.set {W : World} {B : Nat} {v : Value} (h : Box W B v) (u : Value) : Box (W.setCell ⟨B, 0, none⟩ u) B u :=
  ⟨World.cell?_setCell_same' _ _ _ (by rw [h.1]; rfl), by rw [World.frozen?_setCell]; exact h.2⟩
theorem Box.other {W : World} {B : Nat} {v : Value} (h : Box W B v) {p : Addr} (hp : p.block ≠ B) (u : Value) : Box (W.setCell p u) B v :=
  h.same (Below.heap_setCell W p u B (fun e => hp e.symm))
theorem Box.drew {W : World} {B : Nat} {v : Value} (h : Box W B v) : Box W.drew B v := h
theorem Box.own {β : Type} (B : Nat) (f : β → Value) : Own (fun s W => Box W B (f s)) := fun _ _ _ _ hs hg hr => hs.kept hg hr

/-- The same where the loop's variables are no boxes: what the round begins with is known ahead; the rounds keep the blocks of S. -/
theorem wpIn_goes_plain {α : Type} {g : Operand} {ps : Array Tmp} {assign body : Code} {Q : Exit → Act → World → Prop} {a : Act} {w : World}
    (hro : F.round = none) (h1 : 1 ≤ n) {gf : Nat} {lb : Array Value} (hg : a.eval g = .func (.func gf) #[] lb) (hFg : F.fn gf) (eg : ∀ args w, (callFunc gf args).run P w = .ok (.enter gf args) w)
    {encs : α → Array Value} {S : Nat → Prop} {xs : List α} {w0 : World} (hgo : Goes F (n - 1) P gf lb encs (Keeps S) xs w0) (hS : ∀ b, S b → b < w.heap.size)
    (hb0 : Below w0.heap.size w0 w) (hps : ∀ x, (encs x).size = ps.size)
    (I : Nat → World → Prop) (Ix : Code → Nat → World → Prop) (hI : OwnFrom w.heap.size I) (hIx : ∀ c, OwnFrom w.heap.size (Ix c)) (h0 : I 0 w) (a₁ : α → Act)
    (hassign : ∀ (l : Nat) (x : α) (W : World) (K : Act → World → Prop), K (a₁ x) W →
      assign.wpIn (F.inRound l) (n - 1 - 1) P (Exit.then K (fun _ _ _ => False)) { tmps := (ps.zip (encs x)).foldl (fun t (p, v) => t.setIfInBounds p v) a.tmps, defers := [] } W)
    (hbody : ∀ (l k : Nat) (x : α) (W : World), xs[k]? = some x → I k W →
      body.wpIn (F.inRound l) (n - 1 - 1) P (roundEnds w.heap.size (Keeps S) I Ix k W) (a₁ x) W)
    (hdone : ∀ (D : Nat) (W : World), w.heap.size ≤ D → I xs.length W → W.heap[D]? = some (.deferred (some [])) → Q .normal { a with defers := { target := .collected D, args := #[] } :: a.defers } W)
    (hstop : ∀ (D : Nat) (c : Code) (k : Nat) (W : World), w.heap.size ≤ D → k < xs.length → Ix c k W → W.heap[D]? = some (.deferred (some [])) → c.wpIn F n P Q { a with defers := { target := .collected D, args := #[] } :: a.defers } W) :
    (Code.rangeFunc g ps assign body).wpIn F n P Q a w :=
  wpIn_goes hro h1 hg hFg eg hgo (fun h k => h.trans k)
    (fun W l o o' hl h _ _ => fun b hb => World.putObj_heap_other (fun e => by have := hS b hb; omega)) hb0 hps I Ix hI hIx h0 (fun x a' _ => a' = a₁ x) (fun _ _ => ownFrom_pure _ _)
    (fun l k x W K _ hi hK => hassign l x W K (hK _ _ ((KeepsOthers.refl W).from _) (Keeps.refl _ _) hi rfl))
    (fun l k x a' W _ _ hx hi ha => by subst ha; exact hbody l k x W hx hi) hdone hstop

/-- The same, what a round begins with left to be found: '⟨_, by intro l x W K hK; gi_wp2; exact hK, ?body⟩'. -/
theorem wpIn_goes_found {α : Type} {g : Operand} {ps : Array Tmp} {assign body : Code} {Q : Exit → Act → World → Prop} {a : Act} {w : World}
    (hro : F.round = none) (h1 : 1 ≤ n) {gf : Nat} {lb : Array Value} (hg : a.eval g = .func (.func gf) #[] lb) (hFg : F.fn gf) (eg : ∀ args w, (callFunc gf args).run P w = .ok (.enter gf args) w)
    {encs : α → Array Value} {S : Nat → Prop} {xs : List α} {w0 : World} (hgo : Goes F (n - 1) P gf lb encs (Keeps S) xs w0) (hS : ∀ b, S b → b < w.heap.size)
    (hb0 : Below w0.heap.size w0 w) (hps : ∀ x, (encs x).size = ps.size)
    (I : Nat → World → Prop) (Ix : Code → Nat → World → Prop) (hI : OwnFrom w.heap.size I) (hIx : ∀ c, OwnFrom w.heap.size (Ix c)) (h0 : I 0 w)
    (hround : ∃ a₁ : α → Act,
      (∀ (l : Nat) (x : α) (W : World) (K : Act → World → Prop), K (a₁ x) W →
        assign.wpIn (F.inRound l) (n - 1 - 1) P (Exit.then K (fun _ _ _ => False)) { tmps := (ps.zip (encs x)).foldl (fun t (p, v) => t.setIfInBounds p v) a.tmps, defers := [] } W) ∧
      ∀ (l k : Nat) (x : α) (W : World), xs[k]? = some x → I k W → body.wpIn (F.inRound l) (n - 1 - 1) P (roundEnds w.heap.size (Keeps S) I Ix k W) (a₁ x) W)
    (hdone : ∀ (D : Nat) (W : World), w.heap.size ≤ D → I xs.length W → W.heap[D]? = some (.deferred (some [])) → Q .normal { a with defers := { target := .collected D, args := #[] } :: a.defers } W)
    (hstop : ∀ (D : Nat) (c : Code) (k : Nat) (W : World), w.heap.size ≤ D → k < xs.length → Ix c k W → W.heap[D]? = some (.deferred (some [])) → c.wpIn F n P Q { a with defers := { target := .collected D, args := #[] } :: a.defers } W) :
    (Code.rangeFunc g ps assign body).wpIn F n P Q a w := by
  obtain ⟨a₁, hassign, hbody⟩ := hround
  exact wpIn_goes_plain hro h1 hg hFg eg hgo hS hb0 hps I Ix hI hIx h0 a₁ hassign hbody hdone hstop
end Go.Proofs.Ytigameebcicgpaa
