/-
  A region that draws its order, within a fence and in a round too: an invariant S holds behind every operation but the last one, e (a store); what yields one value in every world that meets S, and what e waits for, may be taken first. Over any program.
-/
import Derived.Test.YtigameebcicgpaaHeld
namespace Go.Proofs.Ytigameebcicgpaa
open Go.RowKit

variable {P : Program} {F : Fence} {ops : Array Oper} {md : Region.Mode} {Q : Exit → Act → World → Prop} {S : World → Prop} {e : Nat}

/-- Whatever order is picked from here on; S holds behind every operation but e. -/
def anyE (F : Fence) (m : Nat) (P : Program) (md : Region.Mode) (ops : Array Oper) (Q : Exit → Act → World → Prop) (S : World → Prop) (e : Nat) : Nat → Array Bool → Act → World → Prop
  | 0, listed, a, w => Region.ready md ops listed = [] ∧ Q .normal a w
  | fuel + 1, listed, a, w =>
    (Region.ready md ops listed = [] → Q .normal a w) ∧
    ∀ i ∈ Region.ready md ops listed, wpOpIn F m P ops Q i (fun a' w' => (i ≠ e → S w') ∧ anyE F m P md ops Q S e fuel (listed.setIfInBounds i true) a' w') a w
theorem any_of_anyE {m : Nat} : ∀ (fuel : Nat) (listed : Array Bool) (a : Act) (w : World), anyE F m P md ops Q S e fuel listed a w → wpAnyIn F m P md ops Q fuel listed a w
  | 0, _, _, _, h => h
  | fuel + 1, _, _, _, h => ⟨h.1, fun i hi => wpOpIn_mono (fun a' w' h' => any_of_anyE fuel _ a' w' h'.2) (h.2 i hi)⟩
/-- e waits for i. -/
def waitsB (md : Region.Mode) (ops : Array Oper) (e i : Nat) : Bool := match ops[e]? with
  | some o => o.after.toList.any fun x => Region.binds md x && x.on == i
  | none => false
theorem waits_ne {i j : Nat} {listed : Array Bool} (hw : waitsB md ops e i = true) (hi : listed.getD i true = false) (hir : i < listed.size) (hj : j ∈ Region.ready md ops listed) : j ≠ e := by
  rintro rfl
  obtain ⟨_, oj, hoj, hall⟩ := mem_ready.1 hj
  unfold waitsB at hw
  rw [hoj] at hw
  obtain ⟨x, hx, hb⟩ := List.any_eq_true.1 hw
  simp only [Bool.and_eq_true, beq_iff_eq] at hb
  have h1 := hall x (by simpa using hx) hb.1
  rw [hb.2] at h1
  have h2 : listed.getD i false = listed.getD i true := by simp [Array.getD, hir]
  rw [h2, hi] at h1
  cases h1
theorem anyE_first (hO : Wide F P) {m i : Nat} {oi : Oper} {v : Value} (hD : noDefer ops = true) (hi : ops[i]? = some oi) (hsel : ∀ (j : Nat) (o : Oper) cs b, ops[j]? = some o → o.op ≠ .select cs b)
    (hQ : ∀ c a w, Q (.panic c) (a.put oi.dst v) w → Q (.panic c) a w) (hW : waitsB md ops e i = true) :
    ∀ (fuel : Nat) (listed : Array Bool) (a : Act) (w : World),
      (∀ j oj, ops[j]? = some oj → j ≠ i → listed.getD j true = false → (∀ e ∈ oj.after, Region.binds md e = true → e.on ≠ i) → oi.apart ops oj = true) →
      i ∈ Region.ready md ops listed → YieldsIf P ops S oi v a → S w → anyE F m P md ops Q S e fuel (listed.setIfInBounds i true) (a.put oi.dst v) w → anyE F m P md ops Q S e (fuel + 1) listed a w := by
  intro fuel
  induction fuel with
  | zero =>
    intro listed a w _ hr hy hS H
    refine ⟨fun h => (by rw [h] at hr; cases hr), fun j hj => ?_⟩
    by_cases hji : j = i
    · subst hji; exact opIn_of_if hO (noDefer_at hD hi) hi hy hS ⟨fun _ => hS, H⟩
    · have := ready_mono hj hji
      rw [H.1] at this
      cases this
  | succ fuel ih =>
    intro listed a w hfree hr hy hS H
    refine ⟨fun h => (by rw [h] at hr; cases hr), fun j hj => ?_⟩
    by_cases hji : j = i
    · subst hji; exact opIn_of_if hO (noDefer_at hD hi) hi hy hS ⟨fun _ => hS, H⟩
    · have h1 := H.2 j (ready_mono hj hji)
      obtain ⟨hjun, oj, hoj, hall⟩ := mem_ready.1 hj
      have hnot : ∀ e ∈ oj.after, Region.binds md e = true → e.on ≠ i := fun e he hb heq => by
        have h1 := hall e he hb
        rw [heq, getD_both (mem_ready.1 hr).1] at h1
        cases h1
      have hun := (mem_ready.1 hr).1
      have hjne : j ≠ e := by
        rintro rfl
        unfold waitsB at hW
        rw [hoj] at hW
        obtain ⟨x, hx, hb⟩ := List.any_eq_true.1 hW
        simp only [Bool.and_eq_true, beq_iff_eq] at hb
        exact hnot x (by simpa using hx) hb.1 hb.2
      have h2 := opIn_putIf hO (noDefer_at hD hoj) hoj (hfree j oj hoj hji hjun hnot) (fun cs b => hsel i oi cs b hi) (fun cs b => hsel j oj cs b hoj) hQ hy h1
      refine wpOpIn_mono (fun a' w' h3 => ⟨h3.2.1, ih (listed.setIfInBounds j true) a' w' (fun k ok hk hki hun hno => ?_) (ready_mono hr (Ne.symm hji)) h3.1 (h3.2.1 hjne) ?_⟩) h2
      · refine hfree k ok hk hki ?_ hno
        by_cases hjk : j = k
        · subst hjk; exact hjun
        · rw [getD_set_ne true hjk] at hun; exact hun
      · rw [Array.setIfInBounds_comm _ _ hji]
        exact h3.2.2
/-- Take the operation i first. -/
theorem anyE_take (hO : Wide F P) {m : Nat} (i : Nat) {oi : Oper} {v : Value} {fuel : Nat} {listed : Array Bool} {a : Act} {w : World} (hi : ops[i]? = some oi) (hs : (leadB md ops i listed && waitsB md ops e i) = true)
    (hQ : ∀ c a w, Q (.panic c) (a.put oi.dst v) w → Q (.panic c) a w) (hS : S w) (hy : YieldsIf P ops S oi v a) (h : anyE F m P md ops Q S e fuel (listed.setIfInBounds i true) (a.put oi.dst v) w) :
    anyE F m P md ops Q S e (fuel + 1) listed a w := by
  simp only [leadB, Bool.and_eq_true] at hs
  exact anyE_first hO hs.1.1.1.2 hi (Region.noSelect_spec hs.1.1.1.1) hQ hs.2 fuel listed a w (Region.free_spec hi hs.1.1.2) (by simpa using hs.1.2) hy hS h
/-- The only operation that may come up. -/
theorem anyE_sole {m : Nat} (k : Nat) {fuel : Nat} {listed : Array Bool} {a : Act} {w : World} {o : Oper} (ho : ops[k]? = some o) (hr : Region.ready md ops listed = [k])
    (h : ∀ K' : Act → World → Prop, (∀ a w, (k ≠ e → S w) → anyE F m P md ops Q S e fuel (listed.setIfInBounds k true) a w → K' a w) → if Region.wanted o (yielded ops a.tmps) = true then Oper.wpIn F m P o a w K' Q else (∀ f, o.about P w a.eval = some f → F.fn f) ∧ K' (a.put o.dst undef) w) :
    anyE F m P md ops Q S e (fuel + 1) listed a w :=
  ⟨fun h0 => (by rw [hr] at h0; cases h0), fun i hi => by
    rw [hr] at hi
    obtain rfl : i = k := by simpa using hi
    exact wpOpIn_step ho fun K' hK => h K' fun a w hs hh => hK a w ⟨hs, hh⟩⟩
theorem anyE_done {m : Nat} {listed : Array Bool} {a : Act} {w : World} (hr : Region.ready md ops listed = []) (h : Q .normal a w) : anyE F m P md ops Q S e 0 listed a w := ⟨hr, h⟩
/-- The beginning; e: its last operation. -/
theorem wpIn_region_end {id m : Nat} {a : Act} {w : World} (S : World → Prop) (e : Nat) (hm : P.follows .mixedOrders = true) (h : anyE F m P .any ops Q S e ops.size (Array.replicate ops.size false) a w.drew) : (Code.region id ops true).wpIn F m P Q a w :=
  wpIn_region_any hm (any_of_anyE _ _ _ _ h)
end Go.Proofs.Ytigameebcicgpaa
