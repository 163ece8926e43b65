/-
  A region that draws its order and holds operations that change the world: where whatever may come up beside an operation of a stretch only reads, and all else waits for the stretch, the stretch is walked once, in the order of the text. In a round, too. Over any program.
-/
import Derived.Test.YtigameebcicgpaaTail
namespace Go.Proofs.Ytigameebcicgpaa
open Go.RowKit

variable {P : Program} {F : Fence} {ops : Array Oper} {md : Region.Mode} {Q : Exit → Act → World → Prop}

/-- A fence that lets everything by, at any depth. -/
structure Wide (F : Fence) (P : Program) : Prop where
  fn : ∀ f, F.fn f
  deep : F.depth = none
  calls : ∀ {n : Nat} {f : FuncId} {args : Array Value} {w : World} {R : Ending → World → Prop}, Calls P f args w R → CallsIn F n P f args w R
theorem wide_plain : Wide Fence.wide P := ⟨fun _ => trivial, rfl, fun h => callsIn_wide.2 h⟩
theorem wide_round (l : Nat) : Wide (Fence.wide.inRound l) P := ⟨fun _ => trivial, rfl, fun h => CallsIn.inRound l (callsIn_wide.2 h)⟩
theorem Wide.room (h : Wide F P) (n : Nat) : F.depth.isSome = true → 1 ≤ n := fun e => by rw [h.deep] at e; cases e

theorem opIn_of_still (hO : Wide F P) {n : Nat} {o : Oper} {a : Act} {w : World} {K : Act → Prop} {K' : Act → World → Prop} {Q' : Exit → Act → World → Prop} (hd : ∀ c, o.op ≠ .defer c) (h : ∀ a, K a → K' a w) (hh : o.still P a w K) :
    o.wpIn F n P a w K' Q' := by
  refine ⟨fun f _ => hO.fn f, ?_⟩
  rw [Oper.semAt_eq _ _ _ hd]
  unfold Oper.still at hh
  generalize (execOp a.eval o).run P w = r at *
  cases r with
  | ok m w' =>
    cases m <;> simp only [Oper.stillUpon] at hh <;> simp only [Oper.uponIn]
    case enter f args =>
      obtain ⟨rfl, v, hc, hn⟩ := hh
      exact ⟨hO.room n, (hO.calls hc).mono fun e w'' ⟨he, hw⟩ => by subst he; subst hw; exact h _ hn⟩
    all_goals (obtain ⟨rfl, h2⟩ := hh; exact h _ h2)
  | halt x w' => simp only [Oper.stillUpon] at hh
theorem opIn_of_stOp (hO : Wide F P) {n i : Nat} {a : Act} {w : World} {K : Act → Prop} {K' : Act → World → Prop} {Q' : Exit → Act → World → Prop} (hD : noDefer ops = true) (h : ∀ a, K a → K' a w) (hh : stOp P ops w i K a) :
    wpOpIn F n P ops Q' i K' a w := by
  unfold stOp at hh
  unfold wpOpIn
  split
  · rename_i ho; simp only [ho] at hh; exact h _ hh
  · rename_i o ho
    simp only [ho] at hh
    split
    · rename_i hw; simp only [hw, if_true] at hh; exact opIn_of_still hO (noDefer_at hD ho) h hh
    · rename_i hw; simp only [hw] at hh; exact ⟨fun f _ => hO.fn f, h _ hh⟩
theorem anyIn_of_head (hO : Wide F P) {n : Nat} {w : World} (hD : noDefer ops = true) {m g : Nat} {L : Array Bool → Act → Prop} (hL : ∀ listed a, L listed a → wpAnyIn F n P md ops Q g listed a w) :
    ∀ (f : Nat) (listed : Array Bool) (a : Act), wpAnyL P md ops w m L f listed a → wpAnyIn F n P md ops Q (f + g) listed a w
  | 0, listed, a, h => by rw [Nat.zero_add]; exact hL _ _ h
  | f + 1, listed, a, h => by
    rw [show f + 1 + g = (f + g) + 1 by omega]
    exact ⟨fun h0 => absurd h0 h.1, fun i hi => opIn_of_stOp hO hD (fun a' h' => anyIn_of_head hO hD hL f _ a' h') (h.2 i hi).2⟩

/-- What is listed is closed: whatever a listed operation waits for is listed. -/
def closedB (md : Region.Mode) (ops : Array Oper) (listed : Array Bool) : Bool :=
  (List.range ops.size).all fun j => !listed.getD j false || ((ops[j]?).map fun o => o.after.all fun e => !Region.binds md e || listed.getD e.on false).getD true
/-- Each operation from s to n is waited for by a later one of them, or by n; each behind n waits for one that is n or behind it. -/
def barB (md : Region.Mode) (ops : Array Oper) (s n : Nat) : Bool :=
  ((List.range n).all fun i => decide (i < s) || (List.range (n + 1)).any fun j => decide (i < j) && Region.waitsFor md ops j i) &&
  (List.range ops.size).all fun t => decide (t ≤ n) || (List.range t).any fun j => decide (n ≤ j) && Region.waitsFor md ops t j
/-- Nothing from n on is listed. -/
def bareB (ops : Array Oper) (n : Nat) (listed : Array Bool) : Bool := (List.range ops.size).all fun t => decide (t < n) || !listed.getD t true
/-- The operations from k on, f of them, come up one behind the other, each apart from all that need not wait for it; what comes up behind them lies at n or behind it. -/
def lineB (md : Region.Mode) (ops : Array Oper) (n : Nat) : Nat → Nat → Array Bool → Bool
  | 0, _, listed => (Region.ready md ops listed).all fun j => decide (n ≤ j)
  | f + 1, k, listed => (Region.ready md ops listed).contains k && Region.free md ops listed k && lineB md ops n f (k + 1) (listed.setIfInBounds k true)
def markAll : Nat → Nat → Array Bool → Array Bool
  | 0, _, listed => listed
  | f + 1, k, listed => markAll f (k + 1) (listed.setIfInBounds k true)
def phaseB (md : Region.Mode) (ops : Array Oper) (s n : Nat) (listed : Array Bool) : Bool :=
  Region.noSelect ops && noDefer ops && decide (s < n) && decide (n < ops.size) && decide (listed.size = ops.size) && closedB md ops listed && barB md ops s n && bareB ops s listed && lineB md ops n (n - s) s listed

theorem bar_waits {s n : Nat} {listed : Array Bool} (hb : barB md ops s n = true) (inv : HeadInv md ops n listed) :
    ∀ (d i : Nat), n - i = d → s ≤ i → i < n → listed.getD i true = false → ∀ t, n ≤ t → t ∉ Region.ready md ops listed := by
  simp only [barB, Bool.and_eq_true] at hb
  intro d
  induction d using Nat.strongRecOn with
  | _ d ih =>
    intro i hd hs hi hun t ht hr
    obtain ⟨_, ot, hot, hall⟩ := mem_ready.1 hr
    have htlt : t < ops.size := (Array.getElem?_eq_some_iff.1 hot).1
    by_cases htn : t = n
    · subst htn
      have h1 := List.all_eq_true.1 hb.1 i (List.mem_range.2 hi)
      rw [Bool.or_eq_true, decide_eq_true_eq] at h1
      obtain ⟨j, hj, hj2⟩ := List.any_eq_true.1 (h1.resolve_left (by omega))
      simp only [Bool.and_eq_true, decide_eq_true_eq] at hj2
      obtain ⟨oj, hoj, e, he, hbd, hon⟩ := Region.waitsFor_spec hj2.2
      have hjle : j ≤ t := by have := List.mem_range.1 hj; omega
      by_cases hjt : j = t
      · subst hjt
        obtain rfl : oj = ot := Option.some.inj (hoj.symm.trans hot)
        have h2 := hall e he hbd
        rw [hon, getD_both hun] at h2
        cases h2
      · cases hl : listed.getD j false with
        | true =>
          have h2 := inv.closed j oj hoj hl e he hbd
          rw [hon, getD_both hun] at h2
          cases h2
        | false =>
          have hjs : j < listed.size := by rw [inv.size]; omega
          exact ih (t - j) (by omega) j rfl (by omega) (by omega) (getD_in hjs hl) t (Nat.le_refl _) hr
    · have h1 := List.all_eq_true.1 hb.2 t (List.mem_range.2 htlt)
      rw [Bool.or_eq_true, decide_eq_true_eq] at h1
      obtain ⟨j, hj, hj2⟩ := List.any_eq_true.1 (h1.resolve_left (by omega))
      simp only [Bool.and_eq_true, decide_eq_true_eq] at hj2
      obtain ⟨o', ho', e, he, hbd, hon⟩ := Region.waitsFor_spec hj2.2
      obtain rfl : o' = ot := Option.some.inj (ho'.symm.trans hot)
      have h2 := hall e he hbd
      rw [hon, getD_both (inv.tail j hj2.1 (by have := List.mem_range.1 hj; omega))] at h2
      cases h2

theorem anyL_first {s n i : Nat} {w : World} {oi : Oper} {v : Value} {L : Array Bool → Act → Prop} (hi : ops[i]? = some oi) (hsel : ∀ (j : Nat) (o : Oper) cs b, ops[j]? = some o → o.op ≠ .select cs b)
    (hb : barB md ops s n = true) (hsi : s ≤ i) (hin : i < n) (hdone : ∀ listed a, L listed a → ∀ j ∈ Region.ready md ops listed, n ≤ j) :
    ∀ (f : Nat) (listed : Array Bool) (a : Act), HeadInv md ops n listed →
      (∀ j oj, ops[j]? = some oj → j ≠ i → listed.getD j true = false → (∀ e ∈ oj.after, Region.binds md e = true → e.on ≠ i) → oi.apart ops oj = true) →
      i ∈ Region.ready md ops listed → YieldsAt P ops w oi v a →
      wpAnyL P md ops w n L f (listed.setIfInBounds i true) (a.put oi.dst v) → wpAnyL P md ops w n L (f + 1) listed a := by
  intro f
  induction f with
  | zero =>
    intro listed a inv _ hr hy H
    refine ⟨fun h => (by rw [h] at hr; cases hr), fun j hj => ?_⟩
    have hjn : j < n := Nat.lt_of_not_le fun h => bar_waits hb inv _ i rfl hsi hin (mem_ready.1 hr).1 j h hj
    refine ⟨hjn, ?_⟩
    by_cases hji : j = i
    · subst hji; exact hy.stOp hi H
    · have := hdone _ _ H j (ready_mono hj hji)
      omega
  | succ f ih =>
    intro listed a inv hfree hr hy H
    have hun := (mem_ready.1 hr).1
    refine ⟨fun h => (by rw [h] at hr; cases hr), fun j hj => ?_⟩
    have hjn : j < n := Nat.lt_of_not_le fun h => bar_waits hb inv _ i rfl hsi hin hun j h hj
    refine ⟨hjn, ?_⟩
    by_cases hji : j = i
    · subst hji; exact hy.stOp hi H
    · obtain ⟨hjun, oj, hoj, hall⟩ := mem_ready.1 hj
      have hnot : ∀ e ∈ oj.after, Region.binds md e = true → e.on ≠ i := fun e he hbd heq => by
        have h1 := hall e he hbd
        rw [heq, getD_both hun] at h1
        cases h1
      have h2 := stOp_put hoj (hfree j oj hoj hji hjun hnot) (fun cs b => hsel i oi cs b hi) (fun cs b => hsel j oj cs b hoj) hy (H.2 j (ready_mono hj hji)).2
      refine stOp_mono (fun a' h3 => ih (listed.setIfInBounds j true) a' (inv.set hj hjn) (fun k ok hk hki hku hno => ?_) (ready_mono hr (Ne.symm hji)) h3.1 ?_) h2
      · refine hfree k ok hk hki ?_ hno
        by_cases hjk : j = k
        · subst hjk; exact hjun
        · rw [getD_set_ne true hjk] at hku; exact hku
      · rw [Array.setIfInBounds_comm _ _ hji]
        exact h3.2

theorem lineB_ready {n : Nat} : ∀ (f k : Nat) (listed : Array Bool), lineB md ops n f k listed = true → ∀ j ∈ Region.ready md ops (markAll f k listed), n ≤ j
  | 0, _, listed, h, j, hj => by simpa using List.all_eq_true.1 h j hj
  | f + 1, k, listed, h, j, hj => by
    simp only [lineB, Bool.and_eq_true] at h
    exact lineB_ready f (k + 1) _ h.2 j hj
theorem anyL_line {s n : Nat} {w : World} {Lq : Act → Prop} (hsel : Region.noSelect ops = true) (hb : barB md ops s n = true) :
    ∀ (l : List Oper) (k : Nat) (listed : Array Bool) (a : Act), (∀ j, j < l.length → l[j]? = ops[k + j]?) → s ≤ k → k + l.length = n → HeadInv md ops n listed →
    lineB md ops n l.length k listed = true → wpStill P ops w Lq l a →
    wpAnyL P md ops w n (fun listed' a' => (∀ j ∈ Region.ready md ops listed', n ≤ j) ∧ listed' = markAll l.length k listed ∧ Lq a') l.length listed a
  | [], k, listed, a, _, _, _, _, hB, h => ⟨fun j hj => lineB_ready 0 k listed hB j hj, rfl, h⟩
  | o :: l, k, listed, a, hl, hs, hk, inv, hB, h => by
    have h0 : ops[k]? = some o := by simpa using (hl 0 (by simp)).symm
    simp only [List.length_cons, lineB, Bool.and_eq_true] at hB
    obtain ⟨⟨hr, hf⟩, hB'⟩ := hB
    have hkn : k < n := by simp only [List.length_cons] at hk; omega
    have hr' : k ∈ Region.ready md ops listed := by simpa using hr
    have hst : stOp P ops w k (wpStill P ops w Lq l) a := by unfold stOp; simp only [h0]; exact h
    obtain ⟨v, hy, hK⟩ := yieldsAt_of_stOp h0 hst
    exact anyL_first h0 (Region.noSelect_spec hsel) hb hs hkn (fun listed' a' hL => hL.1) l.length listed a inv (Region.free_spec h0 hf) hr' hy
      (anyL_line hsel hb l (k + 1) _ _ (fun j hj => by have := hl (j + 1) (by simp; omega); simpa [Nat.add_assoc, Nat.add_comm 1 j] using this) (by omega) (by simp only [List.length_cons] at hk; omega) (inv.set hr' hkn) hB' hK)

/-- A stretch of operations that only read, from s to n: one walk in the order of the text. -/
theorem wpAnyIn_phase (hO : Wide F P) {m : Nat} (s n : Nat) {g G : Nat} {listed listed' : Array Bool} {a : Act} {w : World} {l : List Oper} (hB : phaseB md ops s n listed = true) (hl : (ops.toList.drop s).take (n - s) = l) (hG : l.length + g = G) (hm : markAll l.length s listed = listed')
    (h : wpStill P ops w (fun a' => wpAnyIn F m P md ops Q g listed' a' w) l a) : wpAnyIn F m P md ops Q G listed a w := by
  subst hl hG hm
  simp only [phaseB, Bool.and_eq_true, decide_eq_true_eq] at hB
  obtain ⟨⟨⟨⟨⟨⟨⟨⟨hsel, hD⟩, hsn⟩, hn⟩, hsz⟩, hcl⟩, hbar⟩, hbare⟩, hline⟩ := hB
  have hlen : ((ops.toList.drop s).take (n - s)).length = n - s := by simp; omega
  have inv : HeadInv md ops n listed := by
    refine ⟨hsz, fun j oj hj hjl e he hbd => ?_, fun t ht hts => ?_⟩
    · have h1 := List.all_eq_true.1 hcl j (List.mem_range.2 (Array.getElem?_eq_some_iff.1 hj).1)
      rw [hjl, hj] at h1
      have h2 : oj.after.all (fun e => !Region.binds md e || listed.getD e.on false) = true := by simpa only [Bool.not_true, Bool.false_or, Option.map_some, Option.getD_some] using h1
      have h3 := Array.all_eq_true'.1 h2 e he
      rw [hbd] at h3
      simpa using h3
    · have h1 := List.all_eq_true.1 hbare t (List.mem_range.2 hts)
      rw [Bool.or_eq_true, decide_eq_true_eq] at h1
      simpa using h1.resolve_left (by omega)
  have H := anyL_line (P := P) (md := md) (w := w) hsel hbar ((ops.toList.drop s).take (n - s)) s listed a (fun j hj => by
    rw [hlen] at hj
    rw [List.getElem?_take_of_lt (by omega), List.getElem?_drop]; simp) (Nat.le_refl _) (by rw [hlen]; omega) inv (by rw [hlen]; exact hline) h
  exact anyIn_of_head hO hD (fun listed' a' hL => by rw [hL.2.1]; exact hL.2.2) _ _ _ H

/-- The only operation that may come up. -/
theorem wpAnyIn_sole {m : Nat} (k : Nat) {fuel : Nat} {listed : Array Bool} {a : Act} {w : World} {o : Oper} (hr : Region.ready md ops listed = [k]) (ho : ops[k]? = some o)
    (h : ∀ K' : Act → World → Prop, (∀ a w, wpAnyIn F m P md ops Q fuel (listed.setIfInBounds k true) a w → K' a w) → if Region.wanted o (yielded ops a.tmps) = true then Oper.wpIn F m P o a w K' Q else (∀ f, o.about P w a.eval = some f → F.fn f) ∧ K' (a.put o.dst undef) w) :
    wpAnyIn F m P md ops Q (fuel + 1) listed a w :=
  wpAnyIn_all hr (by simp) fun i hi => by
    obtain rfl : i = k := by simpa using hi
    exact wpOpIn_step ho h

/-! An operation that yields one value whatever the world may be taken first, in a round too. -/
theorem opIn_of_yields (hO : Wide F P) {m i : Nat} {o : Oper} {v : Value} {a : Act} (hd : ∀ c, o.op ≠ .defer c) (hi : ops[i]? = some o) (hy : Yields P ops o v a) {K : Act → World → Prop} {w : World} (h : K (a.put o.dst v) w) :
    wpOpIn F m P ops Q i K a w := by
  unfold Go.wpOpIn
  simp only [hi]
  rcases hy with ⟨hw, hv⟩ | ⟨hw, rfl⟩
  · simp only [hw, if_true, Oper.wpIn, Oper.semAt_eq _ _ _ hd, hv w, Oper.uponIn]; exact ⟨fun f _ => hO.fn f, h⟩
  · simp only [hw, Bool.false_eq_true, if_false]; exact ⟨fun f _ => hO.fn f, h⟩
theorem opIn_put (hO : Wide F P) {m j : Nat} {oi oj : Oper} {v : Value} (hd : ∀ c, oj.op ≠ .defer c) (hj : ops[j]? = some oj) (hap : oi.apart ops oj = true) (hsi : ∀ cs b, oi.op ≠ .select cs b) (hsj : ∀ cs b, oj.op ≠ .select cs b)
    (hQ : ∀ c a w, Q (.panic c) (a.put oi.dst v) w → Q (.panic c) a w) {K : Act → World → Prop} {a : Act} {w : World} (hy : Yields P ops oi v a) (h : wpOpIn F m P ops Q j K (a.put oi.dst v) w) :
    wpOpIn F m P ops Q j (fun a' w' => Yields P ops oi v a' ∧ K (a'.put oi.dst v) w') a w := by
  obtain ⟨h1, h2, h3⟩ := Oper.apart_spec hap
  have keep : ∀ (a : Act), Yields P ops oi v a → ∀ u, Yields P ops oi v (a.put oj.dst u) := fun a hy u => hy.of_same (execOp_put oi hsi a oj.dst u h3) (wanted_put oi a oj.dst u h3)
  unfold wpOpIn at *
  simp only [hj] at *
  rw [wanted_put oj a oi.dst v h1] at h
  split
  · rename_i hw
    simp only [hw, if_true] at h
    unfold Oper.wpIn at *
    refine ⟨fun f _ => hO.fn f, ?_⟩
    have h := h.2
    rw [Oper.semAt_eq _ _ _ hd, execOp_put oj hsj a oi.dst v h1] at h
    rw [Oper.semAt_eq _ _ _ hd]
    generalize hr : (execOp a.eval oj).run P w = r at *
    cases r with
    | ok x w' =>
      cases x <;> simp only [Oper.uponIn] at h ⊢
      case value u => exact ⟨keep a hy u, by rw [← Act.put_comm a v u h2]; exact h⟩
      case skip => exact ⟨keep a hy _, by rw [← Act.put_comm a v undef h2]; exact h⟩
      case defer d =>
        refine ⟨keep { a with defers := d :: a.defers } (hy.of_same rfl rfl) _, ?_⟩
        rw [← Act.put_comm _ v undef h2, ← Act.put_defers]
        exact h
      case enter f args =>
        refine ⟨h.1, CallsIn.mono h.2 fun e w'' he => ?_⟩
        cases e with
        | returned u => exact ⟨keep a hy u, by rw [← Act.put_comm a v u h2]; exact he⟩
        | panicked c => exact hQ _ _ _ he
        | outgrown => exact he
      case row row args => exact ⟨h.1, RowsIn.mono h.2 fun u w'' he => ⟨keep a hy u, by rw [← Act.put_comm a v u h2]; exact he⟩⟩
      case round l f tmps assign body =>
        refine ⟨h.1, RoundIn.mono h.2 fun e w'' he => ?_⟩
        cases e with
        | returned u => exact ⟨keep a hy u, by rw [← Act.put_comm a v u h2]; exact he⟩
        | panicked c => exact hQ _ _ _ he
        | outgrown => exact he
    | halt x w' =>
      cases x <;> simp only [Oper.uponIn] at h ⊢
      case panic u => exact hQ _ _ _ h
  · rename_i hw
    simp only [hw] at h
    exact ⟨fun f _ => hO.fn f, keep a hy _, by rw [← Act.put_comm a v undef h2]; exact h.2⟩
theorem anyIn_first (hO : Wide F P) {m i : Nat} {oi : Oper} {v : Value} (hD : noDefer ops = true) (hi : ops[i]? = some oi) (hsel : ∀ (j : Nat) (o : Oper) cs b, ops[j]? = some o → o.op ≠ .select cs b)
    (hQ : ∀ c a w, Q (.panic c) (a.put oi.dst v) w → Q (.panic c) a w) :
    ∀ (fuel : Nat) (listed : Array Bool) (a : Act) (w : World),
      (∀ j oj, ops[j]? = some oj → j ≠ i → listed.getD j true = false → (∀ e ∈ oj.after, Region.binds md e = true → e.on ≠ i) → oi.apart ops oj = true) →
      i ∈ Region.ready md ops listed → Yields P ops oi v a → wpAnyIn F m P md ops Q fuel (listed.setIfInBounds i true) (a.put oi.dst v) w → wpAnyIn F m P md ops Q (fuel + 1) listed a w := by
  intro fuel
  induction fuel with
  | zero =>
    intro listed a w _ hr hy H
    refine ⟨fun h => (by rw [h] at hr; cases hr), fun j hj => ?_⟩
    by_cases hji : j = i
    · subst hji; exact opIn_of_yields hO (noDefer_at hD hi) hi hy H
    · have := ready_mono hj hji
      rw [H.1] at this
      cases this
  | succ fuel ih =>
    intro listed a w hfree hr hy H
    refine ⟨fun h => (by rw [h] at hr; cases hr), fun j hj => ?_⟩
    by_cases hji : j = i
    · subst hji; exact opIn_of_yields hO (noDefer_at hD hi) hi hy H
    · have h1 := H.2 j (ready_mono hj hji)
      obtain ⟨hjun, oj, hoj, hall⟩ := mem_ready.1 hj
      have hnot : ∀ e ∈ oj.after, Region.binds md e = true → e.on ≠ i := fun e he hb heq => by
        have h1 := hall e he hb
        rw [heq, getD_both (mem_ready.1 hr).1] at h1
        cases h1
      have h2 := opIn_put hO (noDefer_at hD hoj) hoj (hfree j oj hoj hji hjun hnot) (fun cs b => hsel i oi cs b hi) (fun cs b => hsel j oj cs b hoj) hQ hy h1
      refine wpOpIn_mono (fun a' w' h3 => ih (listed.setIfInBounds j true) a' w' (fun k ok hk hki hun hno => ?_) (ready_mono hr (Ne.symm hji)) h3.1 ?_) h2
      · refine hfree k ok hk hki ?_ hno
        by_cases hjk : j = k
        · subst hjk; exact hjun
        · rw [getD_set_ne true hjk] at hun; exact hun
      · rw [Array.setIfInBounds_comm _ _ hji]
        exact h3.2
/-- Take the operation i first: whatever the world, it yields v. -/
theorem wpAnyIn_lead (hO : Wide F P) {m : Nat} (i : Nat) {oi : Oper} {v : Value} {fuel : Nat} {listed : Array Bool} {a : Act} {w : World} (hi : ops[i]? = some oi)
    (hs : (Region.noSelect ops && noDefer ops && Region.free md ops listed i && (Region.ready md ops listed).contains i) = true) (hQ : ∀ c a w, Q (.panic c) (a.put oi.dst v) w → Q (.panic c) a w) (hy : Yields P ops oi v a)
    (h : wpAnyIn F m P md ops Q fuel (listed.setIfInBounds i true) (a.put oi.dst v) w) : wpAnyIn F m P md ops Q (fuel + 1) listed a w := by
  simp only [Bool.and_eq_true] at hs
  exact anyIn_first hO hs.1.1.2 hi (Region.noSelect_spec hs.1.1.1) hQ fuel listed a w (Region.free_spec hi hs.1.2) (by simpa using hs.2) hy h
/-- Is that the value of a temporary that nothing was laid in? -/
def isUndef : Value → Bool
  | .tuple a => a.size == 0
  | _ => false
theorem isUndef_eq {v : Value} (h : isUndef v = true) : v = undef := by
  cases v <;> simp [isUndef] at h
  subst h; rfl
/-- The operations L may be passed over, one behind the other: none is wanted, and none leaves anything. -/
def skipB (md : Region.Mode) (ops : Array Oper) (tmps : Array Value) : List Nat → Array Bool → Bool
  | [], _ => true
  | i :: L, listed => (Region.noSelect ops && noDefer ops && Region.free md ops listed i && (Region.ready md ops listed).contains i) &&
      (match ops[i]? with
       | some o => !Region.wanted o (yielded ops tmps) && (match o.dst with
         | some d => (match tmps[d]? with | some v => isUndef v | none => true)
         | none => true)
       | none => false) && skipB md ops tmps L (listed.setIfInBounds i true)
theorem put_undef {a : Act} {d : Option Tmp} (h : (match d with | some d => (match a.tmps[d]? with | some v => isUndef v | none => true) | none => true) = true) : a.put d undef = a := by
  cases d with
  | none => rfl
  | some d =>
    simp only at h
    have ht : a.tmps.setIfInBounds d undef = a.tmps := by
      apply Array.ext_getElem?
      intro k
      rw [Array.getElem?_setIfInBounds]
      split
      · rename_i e
        subst e
        cases hk : a.tmps[d]? with
        | none => rw [if_neg (by rw [Array.getElem?_eq_none_iff] at hk; omega)]
        | some v =>
          rw [hk] at h
          rw [if_pos (Array.getElem?_eq_some_iff.1 hk).1, isUndef_eq h]
      · rfl
    show ({ a with tmps := a.tmps.setIfInBounds d undef } : Act) = a
    rw [ht]
theorem wpAnyIn_skip (hO : Wide F P) {m : Nat} (hQ : ∀ c (a : Act) (d : Nat) (v : Value) w, Q (.panic c) { a with tmps := a.tmps.setIfInBounds d v } w → Q (.panic c) a w) : ∀ (L : List Nat) {fuel : Nat} {listed : Array Bool} {a : Act} {w : World}, skipB md ops a.tmps L listed = true →
    wpAnyIn F m P md ops Q fuel (L.foldl (fun l i => l.setIfInBounds i true) listed) a w → wpAnyIn F m P md ops Q (fuel + L.length) listed a w
  | [], fuel, listed, a, w, _, h => h
  | i :: L, fuel, listed, a, w, hB, h => by
    rw [skipB, Bool.and_eq_true, Bool.and_eq_true] at hB
    obtain ⟨⟨hl, hm⟩, hr⟩ := hB
    split at hm
    · rename_i o ho
      rw [Bool.and_eq_true, Bool.not_eq_true'] at hm
      have hp := put_undef hm.2
      refine wpAnyIn_lead hO i (v := undef) ho hl (fun c a' w' h' => by cases hd : o.dst <;> rw [hd] at h'; exact h'; exact hQ _ _ _ _ _ h') (Or.inr ⟨hm.1, rfl⟩) ?_
      rw [hp]; exact wpAnyIn_skip hO hQ L hr h
    · cases hm
end Go.Proofs.Ytigameebcicgpaa
