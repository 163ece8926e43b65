/-
  those: walked, for a function that is handed in.
-/
import Derived.Test.YtdpnmmeecnconaaDtGoes
namespace Go.Proofs.Ytdpnmmeecnconaa
open Go.RowKit Go.Shelf
attribute [local go_sem] Oper.semAt_some
set_option linter.unusedVariables false
set_option linter.unusedSimpArgs false

/-- What those keeps while it goes on. -/
def Coll (n₀ : Nat) (hv pv : Value) (l : List Nat) (W : World) : Prop :=
  ∃ v, Boxed W (n₀ + 1) 25 v ∧ W.ownsRow n₀ 3 1 v l.length (l.map intV) ∧ Boxed W n₀ 52 hv ∧ Boxed W (n₀ + 1 + 1) 24 pv
theorem Coll.keep {n₀ : Nat} {hv pv : Value} {l : List Nat} {W W' : World} {row : Option Nat} (h : Coll n₀ hv pv l W) (hg : W.grownBy W' row) (hr : ∀ r, row = some r → ∃ o : Obj, W.heap[r]? = some o ∧ o.isCells = false) : Coll n₀ hv pv l W' := by
  obtain ⟨v, h1, h2, h3, h4⟩ := h
  refine ⟨v, boxed_stays h1 hg hr, h2.kept hg ?_, boxed_stays h3 hg hr, boxed_stays h4 hg hr⟩
  rcases h2.2 with ⟨rfl, _⟩ | ⟨g, cap, cur, rfl, _, hgb, _⟩
  · exact .inl rfl
  · refine .inr fun e' => ?_
    obtain ⟨o, ho, hc⟩ := hr g (by simpa [Value.ownBlock] using e'.symm)
    rw [hgb] at ho; cases ho; cases hc
theorem Coll.own {β : Type} (n₀ : Nat) (hv pv : Value) (f : β → List Nat) (B : Nat) : OwnFrom B (fun (s : β) W => Coll n₀ hv pv (f s) W) := fun _ _ _ _ hs hg hr => hs.keep hg (fun r e => (hr r e).2)
theorem Coll.append {n₀ : Nat} {hv pv v v' : Value} {l : List Nat} {i : Nat} {W w1 : World} {tmp : Obj} (h1 : Boxed W (n₀ + 1) 25 v) (h2 : W.ownsRow n₀ 3 1 v l.length (l.map intV)) (h3 : Boxed W n₀ 52 hv) (h4 : Boxed W (n₀ + 1 + 1) 24 pv)
    (hn₀ : n₀ ≤ W.heap.size) (hown' : w1.ownsRow n₀ 3 1 v' (l.length + 1) (l.map intV ++ [intV i])) (hgrow : (W.alloc tmp).grownBy w1 v.ownBlock) :
    Boxed w1 (n₀ + 1) 25 v ∧ Coll n₀ hv pv (l ++ [i]) (w1.setCell ⟨n₀ + 1, 0, none⟩ v') ∧ KeepsOthers W (w1.setCell ⟨n₀ + 1, 0, none⟩ v') ∧ Keeps (fun b => b < n₀ ∨ b = n₀ + 1 + 1) W (w1.setCell ⟨n₀ + 1, 0, none⟩ v') ∧ Below n₀ W (w1.setCell ⟨n₀ + 1, 0, none⟩ v') := by
  obtain ⟨a1, a2, a3, a4, a5⟩ := h1.appended (by decide) h2 hn₀ (by omega) hown' hgrow
  have other : ∀ {B : Nat} {ty : TypeId} {u : Value}, Boxed W B ty u → ty ≠ 3 → B ≠ n₀ + 1 → Boxed (w1.setCell ⟨n₀ + 1, 0, none⟩ v') B ty u := fun hb hty hne => (((hb.alloc tmp).kept hgrow (hb.not_row hty h2)).other hne v')
  have o4 := other h4 (by decide) (by omega)
  refine ⟨a1, ⟨v', a2, by simpa using a3, other h3 (by decide) (by omega), o4⟩, a4, fun b hb => ?_, a5⟩
  rcases hb with hb | rfl
  · exact a5.block b hb
  · exact (show _ = _ from o4).trans (show _ = _ from h4).symm
theorem ownsV_form {w : World} {base n : Nat} {v : Value} {xs : List Value} {t : TypeId} (h : w.ownsRow base t 1 v n xs) : ∃ a c, v = .slice a n c ∧ (n : Int) ≤ (c : Int) := by
  rcases h.2 with ⟨rfl, rfl⟩ | ⟨g, cap, cur, rfl, _, _, hc, _⟩
  · exact ⟨_, _, rfl, by omega⟩
  · exact ⟨_, _, rfl, by omega⟩
theorem ownsV_below {w w' : World} {base n : Nat} {v : Value} {xs : List Value} {t : TypeId} (h : w.ownsRow base t 1 v n xs) (hb : Below w.heap.size w w') : w'.ownsRow base t 1 v n xs := by
  refine h.kept (grown_below' hb none) ?_
  rcases h.2 with ⟨rfl, _⟩ | ⟨g, cap, cur, rfl, _⟩
  · exact .inl rfl
  · exact .inr (by simp [Value.ownBlock])
theorem owns_typedV {w : World} {base n size : Nat} {v : Value} {xs : List Value} {t : TypeId} (h : w.ownsRow base t size v n xs) : ∀ g, v.ownBlock = some g → ∃ cur, w.heap[g]? = some (.cells cur t (0, 0)) := fun g hg => by
  rcases h.2 with ⟨rfl, _⟩ | ⟨g', cap, cur, rfl, hb, hw, _⟩
  · cases hg
  · cases hg; exact ⟨_, hw⟩
/-- Who is found among the first k. -/
def found (P : Nat → Nd → Bool) (xs : List (Nat × Nd)) (k : Nat) : List Nat := ((xs.take k).filter fun x => P x.1 x.2).map Prod.fst
theorem found_succ (P : Nat → Nd → Bool) (xs : List (Nat × Nd)) (k : Nat) (x : Nat × Nd) (h : xs[k]? = some x) : found P xs (k + 1) = found P xs k ++ (if P x.1 x.2 then [x.1] else []) := by
  obtain ⟨hk, rfl⟩ := List.getElem?_eq_some_iff.1 h
  rw [found, found, List.take_succ_eq_append_getElem hk, List.filter_append, List.map_append]
  cases hp : P xs[k].1 xs[k].2 <;> simp [List.filter, hp]
theorem found_le (P : Nat → Nd → Bool) (xs : List (Nat × Nd)) (k : Nat) : (found P xs k).length ≤ xs.length := by
  rw [found, List.length_map]
  exact Nat.le_trans (List.length_filter_le _ _) (by rw [List.length_take]; omega)
set_option maxRecDepth 100000 in
set_option maxHeartbeats 4000000 in
theorem dtThose (p : Option Addr) (xs : List (Nat × Nd)) (hxs : xs.length ≤ 16) (gf : Nat) (lb : Array Value) (P : Nat → Nd → Bool) (w : World)
    (heg : ∀ args w, (callFunc gf args).run Try.prog w = .ok (.enter gf args) w)
    (hgo : ∀ (V : World) (Z : Nat), Below w.heap.size w V → w.heap.size ≤ Z → V.cell? ⟨Z, 0, none⟩ = some (.pointer p) → Goes Fence.wide 2 Try.prog 23 #[.pointer (some ⟨Z, 0, none⟩)] encD (Keeps (fun b => b < w.heap.size ∨ b = Z)) xs V)
    (hcl : ∀ (W : World) (i : Nat) (x : Nd), Below w.heap.size w W → (i, x) ∈ xs → Calls Try.prog gf (#[intV i, x.val] ++ lb) W fun e W' => e = .returned (.bool (P i x)) ∧ Below W.heap.size W W') :
    Calls Try.prog 17 #[.pointer p, .func (.func gf) #[] lb] w fun e w' =>
      (∃ u, e = .returned u ∧ Nums w' w.heap.size u (found P xs xs.length)) ∧ Below w.heap.size w w' := by
  have HGO := Lib.hid hgo
  have HCL := Lib.hid hcl
  have HEG := Lib.hid heg
  clear hgo hcl heg
  refine (callsIn_wide (n := 3)).1 ?_
  refine callsIn_of_wp_marks Try.func17 rfl trivial ?_ rfl
  simp only [Try.ntmps17, List.size_toArray, List.length_cons, List.length_nil, Nat.reduceAdd, Nat.reduceSub, Array.replicate_succ, Array.replicate_zero, List.push_toArray, List.append_toArray, List.nil_append, List.cons_append]
  refine wpIn_wide.2 ?_
  go_wp2_with (go_at_call 20; refine (dtAll _ _).mono ?_; rintro e w' ⟨rfl, rfl⟩)
  refine (wpIn_wide (n := 3)).1 ?_
  have b0 := Boxed.new w 52 (.func (.func gf) #[] lb)
  have b1 := Boxed.new (w.alloc (.cells #[.func (.func gf) #[] lb] 52)) 25 (.slice none 0 0)
  have b2 := Boxed.new ((w.alloc (.cells #[.func (.func gf) #[] lb] 52)).alloc (.cells #[.slice none 0 0] 25)) 24 (.pointer p)
  simp only [World.size_alloc] at b1 b2
  have hB0 : Below w.heap.size w (((w.alloc (.cells #[.func (.func gf) #[] lb] 52)).alloc (.cells #[.slice none 0 0] 25)).alloc (.cells #[.pointer p] 24)) :=
    (((Below.refl _ w).alloc (Nat.le_refl _) _).alloc (by simp) _).alloc (by simp; omega) _
  have R0 : Coll w.heap.size (.func (.func gf) #[] lb) (.pointer p) (found P xs 0) (((w.alloc (.cells #[.func (.func gf) #[] lb] 52)).alloc (.cells #[.slice none 0 0] 25)).alloc (.cells #[.pointer p] 24)) :=
    ⟨.slice none 0 0, b1.alloc _, World.ownsRow_nil _ _ _ _, (b0.alloc _).alloc _, b2⟩
  have hsz0 : (((w.alloc (.cells #[.func (.func gf) #[] lb] 52)).alloc (.cells #[.slice none 0 0] 25)).alloc (.cells #[.pointer p] 24)).heap.size = w.heap.size + 3 := by simp
  have hgoes := HGO.out _ (w.heap.size + 1 + 1) hB0 (by omega) b2.cell
  clear b0 b1 b2
  generalize (((w.alloc (.cells #[.func (.func gf) #[] lb] 52)).alloc (.cells #[.slice none 0 0] 25)).alloc (.cells #[.pointer p] 24)) = W0 at *
  refine wpIn_goes_boxed rfl (by omega) (gf := 23) (lb := #[.pointer (some ⟨w.heap.size + 1 + 1, 0, none⟩)]) rfl trivial (enters_of Try.func23 (by kernel_rfl) rfl)
    hgoes (by rintro b (h | h) <;> omega) (Below.refl _ _) (fun _ => rfl)
    (fun k W => Coll w.heap.size (.func (.func gf) #[] lb) (.pointer p) (found P xs k) W ∧ Below w.heap.size w W ∧ w.heap.size + 3 ≤ W.heap.size)
    (fun _ _ _ => False)
    (OwnFrom.and (Coll.own _ _ _ (fun k => found P xs k) _) (OwnFrom.and (ownFrom_below (Nat.le_refl _) (by omega)) (fun _ X Y row hs hg _ => Nat.le_trans hs hg.size)))
    (fun _ _ _ _ _ hs _ _ => hs)
    (by rintro k W ⟨_, _, h⟩; omega)
    ⟨R0, hB0, by omega⟩
    (fun x => #[.int .u64 (x.2.last : Int), .int .u64 (x.2.out : Int), .bool x.2.sus]) 51
    (fun _ _ => True) (fun _ _ _ _ h _ _ => h) (fun _ _ _ _ => trivial)
    ⟨_, (by intro l x b W K hb hK; dsimp only [encD, Nd.val]; gi_wp2; exact hK), ?body⟩ ?done ?stop
  case body =>
    rintro lp k ⟨xi, x⟩ b W hx ⟨⟨v, h1, h2, h3, h4⟩, hBw, hsz⟩ hb hrow -
    have hlk := found_le P xs k
    have hsu := found_succ P xs k (xi, x) hx
    have hmem : (xi, x) ∈ xs := List.mem_of_getElem? hx
    have HC := Lib.hid (HCL.out W xi x hBw hmem)
    have hbW : b < W.heap.size := (Array.getElem?_eq_some_iff.1 hrow).1
    have q0 : W.cell? ⟨b, 0, none⟩ = some (.int .u64 (x.last : Int)) := by simp [World.cell?, hrow]
    have q1 : W.cell? ⟨b, 1, none⟩ = some (.int .u64 (x.out : Int)) := by simp [World.cell?, hrow]
    have q2 : W.cell? ⟨b, 2, none⟩ = some (.bool x.sus) := by simp [World.cell?, hrow]
    have qh := h3.cell
    obtain ⟨i0, hi, hz0, hz1, hz2⟩ := info_parts info_int
    have hnw : w.heap.size ≤ W.heap.size := by omega
    have hfs : (found P xs k).length ≤ 16 := by omega
    clear hx hgoes R0 hB0 hmem hrow HGO hlk
    cases hp : P xi x with
    | false =>
      dsimp only at hsu
      rw [hp] at HC hsu
      have HSU := Lib.hid hsu
      clear hsu
      gi_wp2
      rename_i K aK
      rw [HEG.out]
      refine ⟨trivial, fun _ => Nat.le_refl _, (CallsIn.inRound lp (callsIn_wide.2 HC.out)).mono ?_⟩
      rintro e w1 ⟨rfl, hb1⟩
      refine aK _ _ ?_
      clear aK
      gi_wp2
      refine ⟨from_below' hb1, Keeps.of_below hb1 (by rintro b' (h | h) <;> omega), ?_, hBw.trans (hb1.mono hnw), Nat.le_trans hsz hb1.size⟩
      rw [HSU.out]
      simp only [Bool.false_eq_true, if_false, List.append_nil]
      exact Coll.keep ⟨v, h1, h2, h3, h4⟩ (grown_below' hb1 none) (fun r h => by cases h)
    | true =>
      dsimp only at hsu
      rw [hp] at HC hsu
      have HSU := Lib.hid hsu
      clear hsu
      gi_wp2
      rename_i K aK
      rw [HEG.out]
      refine ⟨trivial, fun _ => Nat.le_refl _, (CallsIn.inRound lp (callsIn_wide.2 HC.out)).mono ?_⟩
      rintro e w1 ⟨rfl, hb1⟩
      refine aK _ _ ?_
      clear aK
      have k1 := boxed_stays h1 (grown_below' hb1 none) (fun r h => by cases h)
      have k2 := ownsV_below h2 hb1
      have k3 := boxed_stays h3 (grown_below' hb1 none) (fun r h => by cases h)
      have k4 := boxed_stays h4 (grown_below' hb1 none) (fun r h => by cases h)
      have hc1 := k1.cell
      gi_wp2_with (gi_at_builtin; refine wpListIn_append_own _ rfl _ _ 25 rfl w.heap.size 3 i0 (.int .i64 0) 1 8 Try.underlying25 hi hz0 hz1 hz2 rfl (by decide) _ _ _ rfl (k2.alloc _) ⟨w1.heap.size, 0, none⟩ 1 1 [intV xi] rfl rfl (cell_one_new _ _ _) (by simp [Value.oneCell']) (by unfold maxLen; omega) (by omega) (by have := hb1.size; simp; omega) ?_; intro v' w2 hown' hgrow _; obtain ⟨g, cap, rfl⟩ := ownsRow_succ hown'; obtain ⟨hv1, hC2, hk2, hkk, hb2⟩ := Coll.append k1 k2 k3 k4 (Nat.le_trans hnw hb1.size) hown' hgrow; have hc2 := hv1.cell; have hf2 := hv1.frozen)
      have hs1 := hb1.size
      refine ⟨(from_below' hb1).trans (hk2.from _), (Keeps.of_below hb1 (by rintro b' (h | h) <;> omega)).trans hkk, ?_, (hBw.trans (hb1.mono hnw)).trans hb2, ?_⟩
      · rw [HSU.out]; exact hC2
      · have := hk2.size; omega
  case done =>
    rintro D W hD ⟨⟨v, h1, h2, h3, h4⟩, hBw, _⟩ hK
    have hN : Nums W w.heap.size v (found P xs xs.length) := Nums.of_owns h2
    obtain ⟨a2, c2, rfl, hac2⟩ := ownsV_form h2
    have hc := h1.cell
    have HR := Lib.hid hN
    have HBW := Lib.hid hBw
    have HO := Lib.hid (owns_typedV h2)
    clear R0 hB0 hgoes h1 h2 h3 h4 hBw hN
    go_wp2
    refine ⟨by simp, .inl ⟨_, _, rfl, run_takeDeferred hK, ?_⟩⟩
    refine ⟨_, results_tmp rfl _ _ _, ⟨_, rfl, HR.out.keep (by simp [World.putObj]) fun g hg => World.putObj_heap_other (fun e => ?_)⟩, HBW.out.trans (belowK_b (w := w) (Nat.le_refl _) _ D _ _ (by omega) hK rfl rfl)⟩
    obtain ⟨cur, hcur⟩ := HO.out g hg
    subst e
    rw [hcur] at hK; cases hK
  case stop =>
    rintro D cc k W hD hk h hK
    exact h.elim
end Go.Proofs.Ytdpnmmeecnconaa
