/-
  BallotOne: the system, step by step; what was told stays.
-/
import Derived.Test.YtigameebcicgpaaBtOneMem
import Derived.Laws.CopyOwn
namespace Go.Proofs.Ytigameebcicgpaa
open Go.RowKit
set_option linter.unusedVariables false
set_option linter.unusedSimpArgs false
namespace One
/-- What a proposer of ballot b proposes as its own. -/
def own (b : Nat) : ByteArray := (⟨#[111, 119, 110]⟩ : ByteArray) ++ (⟨#[UInt8.ofNat (64 + b)]⟩ : ByteArray)
theorem own_size (b : Nat) : (own b).size ≤ 4000 := by unfold own; rw [ByteArray.size_append]; show 3 + 1 ≤ 4000; decide
/-- A right system; what was told first (if something was) was decided by more than half of some ballot. -/
def Sys (n : Nat) (A : List Vt) (R : Nat → Bt.Race) (sm : Bool) (fst : ByteArray) : Prop :=
  ∃ H I, Bt.Inv n own A R H I ∧ (sm = true → ∃ b, (R b).fixed = true ∧ Bt.Maj n H b ∧ fst = (R b).value)
variable {n : Nat} {A : List Vt} {R : Nat → Bt.Race} {sm : Bool} {fst : ByteArray}
theorem Sys.len (h : Sys n A R sm fst) : A.length = n := by obtain ⟨H, I, h, _⟩ := h; exact h.len
theorem Sys.few (h : Sys n A R sm fst) : n ≤ 16 := by obtain ⟨H, I, h, _⟩ := h; exact h.few
theorem Sys.right (h : Sys n A R sm fst) : ∀ v ∈ A, Bt.Right v := by obtain ⟨H, I, h, _⟩ := h; exact h.right
theorem Sys.hasl (h : Sys n A R sm fst) : ∀ b, (R b).has.length = 16 := fun b => by obtain ⟨H, I, h, _⟩ := h; exact (h.ids b).2.2.1
theorem Sys.bys (h : Sys n A R sm fst) : ∀ b, (R b).by'.length ≤ n ∧ ∀ v ∈ (R b).by', Bt.Right v := fun b => by
  obtain ⟨H, I, h, _⟩ := h
  obtain ⟨i1, i2, i3, i4⟩ := h.ids b
  refine ⟨?_, fun v hv => ?_⟩
  · rw [← i2]
    refine Bt.nodup_le n (I b) i1 (fun x hx => ?_)
    obtain ⟨i, hi, rfl⟩ := List.getElem_of_mem hx
    obtain ⟨hlt, _⟩ := h.kept b i hi (by omega)
    have := h.len
    omega
  · obtain ⟨i, hi, rfl⟩ := List.getElem_of_mem hv
    obtain ⟨_, hr, _⟩ := h.kept b i (by omega) hi
    exact hr
theorem Sys.val (h : Sys n A R sm fst) (b : Nat) (hf : (R b).fixed = true) : (R b).value.size ≤ 4000 := by obtain ⟨H, I, h, _⟩ := h; exact (h.fixed b hf).2.2
/-- The beginning. -/
theorem Sys.start (n : Nat) (h2 : n ≤ 16) : Sys n (List.replicate n Vt.zero) (fun _ => ⟨[], List.replicate 16 false, ⟨#[]⟩, false⟩) false ⟨#[]⟩ := by
  refine ⟨fun _ _ => False, fun _ => [], ⟨by simp, h2, own_size, fun v hv => ?_, fun b a h => h.elim, fun a ha h0 => ?_, fun b => ⟨List.nodup_nil, rfl, by simp, fun a => ?_⟩, fun b i hi => absurd hi (Nat.not_lt_zero _), fun b hf => by cases hf⟩, fun h => by cases h⟩
  · rw [List.mem_replicate] at hv
    rw [hv.2]
    exact ⟨Nat.le_refl _, .inr rfl, Nat.zero_le _⟩
  · simp [Vt.zero] at h0
  · constructor
    · intro h; cases h
    · intro h
      have := List.mem_of_getElem? h
      simp at this
/-- An acceptor promises. -/
theorem Sys.promised (h : Sys n A R sm fst) (b a : Nat) (ha : a < A.length) (he : Bt.promE A[a] b = 0) : Sys n (A.set a (Bt.promV A[a] b)) R sm fst := by
  obtain ⟨H, I, h, hs⟩ := h
  exact ⟨H, I, h.promised b a ha he, hs⟩
theorem prom_ok {v : Vt} {b : Nat} (he : Bt.promE v b = 0) : Bt.promV v b = ⟨b, v.bal, v.val'⟩ ∧ v.bal < b := by
  have h : Bt.Right v ∧ 1 ≤ b ∧ v.prom < b := by
    unfold Bt.promE at he
    split at he
    · rename_i hh
      split at he
      · cases he
      · exact ⟨hh.1, hh.2, by omega⟩
    · cases he
  refine ⟨by unfold Bt.promV; rw [if_pos he], ?_⟩
  have := h.1.1
  omega
/-- The promise is counted. -/
theorem Sys.counted (h : Sys n A R sm fst) (b a : Nat) (ha : a < A.length) (v : Vt) (hv : A[a] = v) (hp : v.prom = b) (hlb : v.bal < b) (hf : (R b).fixed = false) (hh : (R b).has[a]? = some false) :
    Sys n A (Bt.upd R b { R b with by' := (R b).by' ++ [v], has := (R b).has.set a true }) sm fst := by
  subst hv
  obtain ⟨H, I, h, hs⟩ := h
  refine ⟨H, _, h.counted b a ha hp hlb hf hh, fun k => ?_⟩
  obtain ⟨c, h1, h2, h3⟩ := hs k
  have hne : c ≠ b := fun e => by rw [e, hf] at h1; cases h1
  exact ⟨c, by rw [Bt.upd_ne _ _ hne]; exact h1, h2, by rw [Bt.upd_ne _ _ hne]; exact h3⟩
/-- A ballot's value is chosen. -/
theorem Sys.chosen (h : Sys n A R sm fst) (b : Nat) (hf : (R b).fixed = false) (hq : n < 2 * (R b).by'.length) (v : ByteArray) (hv : (Bt.best (R b).by' (own b)).2 = v) (hs : v.size ≤ 4000) :
    Sys n A (Bt.upd R b { R b with value := v, fixed := true }) sm fst := by
  subst hv
  obtain ⟨H, I, h, ht⟩ := h
  refine ⟨H, I, h.chosen b hf hq hs, fun k => ?_⟩
  obtain ⟨c, h1, h2, h3⟩ := ht k
  have hne : c ≠ b := fun e => by rw [e, hf] at h1; cases h1
  exact ⟨c, by rw [Bt.upd_ne _ _ hne]; exact h1, h2, by rw [Bt.upd_ne _ _ hne]; exact h3⟩
theorem best_small (l : List Vt) (o : ByteArray) (hl : ∀ v ∈ l, Bt.Right v) (ho : o.size ≤ 4000) : (Bt.best l o).2.size ≤ 4000 := by
  obtain ⟨_, _, h⟩ := Bt.best_spec l (0, o)
  rcases h with h | ⟨v, hv, h, _⟩
  · show (l.foldl Bt.upTo (0, o)).2.size ≤ 4000
    rw [h]; exact ho
  · show (l.foldl Bt.upTo (0, o)).2.size ≤ 4000
    rw [h]; exact (hl v hv).2.2
/-- An acceptor votes. -/
theorem Sys.cast (h : Sys n A R sm fst) (b a : Nat) (ha : a < A.length) (hf : (R b).fixed = true) (he : Bt.castE A[a] b (R b).value = 0) : Sys n (A.set a (Bt.castV A[a] b (R b).value)) R sm fst := by
  obtain ⟨H, I, h, hs⟩ := h
  refine ⟨_, I, h.cast b a ha hf he, fun k => ?_⟩
  obtain ⟨c, h1, h2, h3⟩ := hs k
  exact ⟨c, h1, h2.mono (fun _ _ hh => .inl hh), h3⟩
/-- All acceptors may be asked. -/
theorem Sys.asked (h : Sys n A R sm fst) (h1 : 1 ≤ n) : Bt.decE A = 0 := by
  unfold Bt.decE
  rw [if_pos ⟨by rw [h.len]; exact h1, by rw [h.len]; exact h.few⟩, if_pos h.right]
/-- What is told is what was told. -/
theorem Sys.told (h : Sys n A R sm fst) (hd : Bt.decB A = true) : Sys n A R true (Bt.decS A) ∧ (sm = true → Bt.decS A = fst) := by
  obtain ⟨H, I, h, hs⟩ := h
  unfold Bt.decB at hd
  obtain ⟨v, hv⟩ := Option.isSome_iff_exists.1 hd
  obtain ⟨h1, h2, h3⟩ := h.decided v hv
  have e : Bt.decS A = (R v.bal).value := by unfold Bt.decS; rw [hv]; exact h3
  refine ⟨⟨H, I, h, fun _ => ⟨v.bal, h1, h2, e⟩⟩, fun k => ?_⟩
  obtain ⟨c, g1, g2, g3⟩ := hs k
  rw [e, g3]
  exact h.one h1 g1 h2 g2
theorem Sys.prop (h : Sys n A R sm fst) (h1 : 1 ≤ n) (b : Nat) (hq : n < 2 * (R b).by'.length) : Bt.propE (n : Int) (R b).by' (own b) = 0 ∧ Bt.propS (n : Int) (R b).by' (own b) = (Bt.best (R b).by' (own b)).2 := by
  obtain ⟨h2, h3⟩ := h.bys b
  have hE : Bt.propE (n : Int) (R b).by' (own b) = 0 := by
    unfold Bt.propE
    have := h.few
    rw [if_pos ⟨by omega, by omega, by omega, by omega⟩, if_pos ⟨own_size b, h3⟩]
  exact ⟨hE, by unfold Bt.propS; rw [if_pos hE]⟩
/-- The memory: the acceptors, the races, each race's promises. -/
structure Mem (w0 : World) (G T : Nat) (A : List Vt) (R : Nat → Bt.Race) (vs : Nat → Value) (W : World) : Prop where
  acc : W.heap[G]? = some (.cells (flat A).toArray 24 (0, 0))
  rac : W.heap[T]? = some (.cells (rcs vs R 0 41).toArray 50 (0, 0))
  lists : ∀ b, b < 41 → Votes W w0.heap.size (vs b) (R b).by'
  apart : ∀ b, b < 41 → (vs b).ownBlock ≠ some G ∧ (vs b).ownBlock ≠ some T
  ne : G ≠ T
  lo : w0.heap.size ≤ G ∧ w0.heap.size ≤ T
  below : Below w0.heap.size w0 W
variable {w0 W W' : World} {G T : Nat} {vs : Nat → Value}
theorem Mem.ltG (h : Mem w0 G T A R vs W) : G < W.heap.size := (Array.getElem?_eq_some_iff.1 h.acc).1
theorem Mem.ltT (h : Mem w0 G T A R vs W) : T < W.heap.size := (Array.getElem?_eq_some_iff.1 h.rac).1
/-- Only what is new changes. -/
theorem Mem.grow (h : Mem w0 G T A R vs W) (hb : Below W.heap.size W W') : Mem w0 G T A R vs W' :=
  ⟨(hb.block _ h.ltG).trans h.acc, (hb.block _ h.ltT).trans h.rac, fun b hb' => (h.lists b hb').below hb, h.apart, h.ne, h.lo, h.below.trans (hb.mono h.below.size)⟩
/-- Only one block that is none of these changes. -/
theorem Mem.other (h : Mem w0 G T A R vs W) (Q : Nat) (hQ : w0.heap.size ≤ Q) (hG : Q ≠ G) (hT : Q ≠ T) (hl : ∀ b, b < 41 → (vs b).ownBlock ≠ some Q) (hs : ∀ j, j ≠ Q → W'.heap[j]? = W.heap[j]?) (hz : W.heap.size ≤ W'.heap.size) (ho : W'.os = W.os ∧ W'.tape = W.tape ∧ W'.output = W.output) : Mem w0 G T A R vs W' :=
  ⟨(hs _ (Ne.symm hG)).trans h.acc, (hs _ (Ne.symm hT)).trans h.rac, fun b hb' => (h.lists b hb').keep (fun g hg => hs g (fun e => hl b hb' (hg.trans (congrArg some e)))), h.apart, h.ne, h.lo,
    h.below.trans ⟨ho.1, ho.2.1, ho.2.2, Nat.le_trans h.below.size (Nat.le_trans (Nat.le_refl _) hz) |> fun _ => hz, fun j hj => hs j (by omega)⟩⟩
theorem set3_row {w : World} {B k : Nat} {c : Array Value} {t : TypeId} (h : w.heap[B]? = some (.cells c t (0, 0))) (x y z : Value) : (((w.setCell ⟨B, k, none⟩ x).setCell ⟨B, k + 1, none⟩ y).setCell ⟨B, k + 2, none⟩ z).heap[B]? = some (.cells (((c.setIfInBounds k x).setIfInBounds (k + 1) y).setIfInBounds (k + 2) z) t (0, 0)) := row_setB (row_setB (row_setB h k x) (k + 1) y) (k + 2) z
/-- An acceptor written anew. -/
theorem Mem.accept (h : Mem w0 G T A R vs W) (a : Nat) (ha : a < A.length) (v : Vt) : Mem w0 G T (A.set a v) R vs (((W.setCell ⟨G, a * 3, none⟩ (.int .u64 (v.prom : Int))).setCell ⟨G, a * 3 + 1, none⟩ (.int .u64 (v.bal : Int))).setCell ⟨G, a * 3 + 2, none⟩ (.string v.val')) := by
  have hs : ∀ j, j ≠ G → (((W.setCell ⟨G, a * 3, none⟩ (.int .u64 (v.prom : Int))).setCell ⟨G, a * 3 + 1, none⟩ (.int .u64 (v.bal : Int))).setCell ⟨G, a * 3 + 2, none⟩ (.string v.val')).heap[j]? = W.heap[j]? := fun j hj =>
    (Below.heap_setCell _ _ _ j hj).trans ((Below.heap_setCell _ _ _ j hj).trans (Below.heap_setCell _ _ _ j hj))
  refine ⟨?_, (hs _ (Ne.symm h.ne)).trans h.rac, fun b hb' => (h.lists b hb').keep (fun g hg => hs g (fun e => (h.apart b hb').1 (hg.trans (congrArg some e)))), h.apart, h.ne, h.lo,
    ((h.below.setCell (p := ⟨G, a * 3, none⟩) h.lo.1 _).setCell (p := ⟨G, a * 3 + 1, none⟩) h.lo.1 _).setCell (p := ⟨G, a * 3 + 2, none⟩) h.lo.1 _⟩
  rw [set3_row h.acc, flat_set A a v ha]
  congr 2
  apply Array.toList_inj.1
  simp
/-- An acceptor, as cells. -/
theorem Mem.cell (h : Mem w0 G T A R vs W) (a : Nat) (ha : a < A.length) : (W.cell? ⟨G, a * 3, none⟩ = some (.int .u64 (A[a].prom : Int)) ∧ W.cell? ⟨G, a * 3 + 1, none⟩ = some (.int .u64 (A[a].bal : Int)) ∧ W.cell? ⟨G, a * 3 + 2, none⟩ = some (.string A[a].val')) ∧ ∀ j, W.frozen? ⟨G, j, none⟩ = false := by
  have hg := fun i (hi : i < 3) => flat_get A a i hi ha
  refine ⟨⟨?_, ?_, ?_⟩, row_thawed h.acc⟩
  · rw [cell_of_row W G (a * 3) _ _ _ h.acc]; simpa [Vt.cells] using hg 0 (by omega)
  · rw [cell_of_row W G (a * 3 + 1) _ _ _ h.acc]; simpa [Vt.cells] using hg 1 (by omega)
  · rw [cell_of_row W G (a * 3 + 2) _ _ _ h.acc]; simpa [Vt.cells] using hg 2 (by omega)
/-- The acceptors, as a list to be read. -/
theorem Mem.toR (h : Mem w0 G T A R vs W) (c : Nat) : VtsR W (.slice (some ⟨G, 0, none⟩) A.length c) A :=
  .inr ⟨G, c, rfl, h.ltG, fun j hj => (h.cell j hj).1⟩
/-- A race, taken out. -/
theorem Mem.race (h : Mem w0 G T A R vs W) (hl : ∀ b, (R b).has.length = 16) (b : Nat) (hb : b < 41) : ∀ j v, (rc (vs b) (R b))[j]? = some v → W.cell? ⟨T, b * 19 + j, none⟩ = some v := fun j v hv => by
  rw [cell_of_row W T _ _ _ _ h.rac]
  have hj : j < 19 := by have := (List.getElem?_eq_some_iff.1 hv).1; rw [rc_len _ _ (hl b)] at this; exact this
  have := rcs_get vs R hl 41 0 b j hb hj
  rw [Nat.zero_add] at this
  simpa using this.trans hv
/-- A race, laid in. -/
theorem Mem.put (h : Mem w0 G T A R vs W) (hl : ∀ b, (R b).has.length = 16) (b : Nat) (hb : b < 41) (v : Value) (r : Bt.Race) (hr : r.has.length = 16) (hv : Votes W w0.heap.size v r.by') (hvG : v.ownBlock ≠ some G) (hvT : v.ownBlock ≠ some T) :
    Mem w0 G T A (Bt.upd R b r) (updV vs b v) (W.setRow T (((rcs vs R 0 41).toArray.toList.take (b * 19) ++ rc v r ++ (rcs vs R 0 41).toArray.toList.drop (b * 19 + (rc v r).length)).toArray)) := by
  have e := rcs_put vs R hl v r hr 41 0 b hb
  rw [Nat.zero_add] at e
  have hs : ∀ j, j ≠ T → (W.setRow T (((rcs vs R 0 41).toArray.toList.take (b * 19) ++ rc v r ++ (rcs vs R 0 41).toArray.toList.drop (b * 19 + (rc v r).length)).toArray)).heap[j]? = W.heap[j]? := fun j hj => setRow_other W T j _ hj
  refine ⟨(hs _ h.ne).trans h.acc, ?_, fun c hc => ?_, fun c hc => ?_, h.ne, h.lo, below_setRow h.below h.lo.2 _⟩
  · rw [setRow_heap W T _ _ _ _ h.rac, rc_len v r hr]
    simp only [e]
  · unfold updV Bt.upd
    by_cases hcb : c = b
    · rw [if_pos hcb, if_pos hcb]; exact hv.keep (fun g hg => hs g (fun e => hvT (hg.trans (congrArg some e))))
    · rw [if_neg hcb, if_neg hcb]; exact (h.lists c hc).keep (fun g hg => hs g (fun e => (h.apart c hc).2 (hg.trans (congrArg some e))))
  · unfold updV
    by_cases hcb : c = b
    · rw [if_pos hcb]; exact ⟨hvG, hvT⟩
    · rw [if_neg hcb]; exact h.apart c hc
end One
end Go.Proofs.Ytigameebcicgpaa
