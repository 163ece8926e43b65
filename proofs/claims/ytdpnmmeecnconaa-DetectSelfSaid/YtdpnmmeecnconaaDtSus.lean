/-
  Suspects, Timeout, Leader; what Tick finds: walked.
-/
import Derived.Test.YtdpnmmeecnconaaDtThose
namespace Go.Proofs.Ytdpnmmeecnconaa
open Go.RowKit Go.Shelf
attribute [local go_sem] Oper.semAt_some
set_option linter.unusedVariables false
set_option linter.unusedSimpArgs false

/-- The nodes for which something holds, rising. -/
def Dt.pick (D : Dt) (P : Nat → Nd → Bool) : List Nat := (List.range D.nodes.length).filter fun i => match D.nodes[i]? with
  | some x => P i x
  | none => false
theorem Dt.found_pairs (D : Dt) (P : Nat → Nd → Bool) : found P D.pairs D.pairs.length = D.pick P := by
  have h : ∀ k, k ≤ D.nodes.length → found P D.pairs k = (List.range k).filter fun i => match D.nodes[i]? with
      | some x => P i x
      | none => false := by
    intro k
    induction k with
    | zero => intro _; rfl
    | succ k ih =>
      intro hk
      have hg := D.pairs_get k (by omega)
      rw [found_succ P D.pairs k _ hg, ih (by omega), List.range_succ, List.filter_append]
      congr 1
      dsimp only
      have hn : D.nodes[k]? = some D.nodes[k] := List.getElem?_eq_getElem (by omega)
      cases hp : P k D.nodes[k] <;> simp [List.filter, hn, hp]
  rw [D.pairs_length]
  exact h _ (Nat.le_refl _)
theorem Dt.pick_le (D : Dt) (P : Nat → Nd → Bool) : (D.pick P).length ≤ D.nodes.length := by
  have := List.length_filter_le (fun i => match D.nodes[i]? with
    | some x => P i x
    | none => false) (List.range D.nodes.length)
  rw [List.length_range] at this
  exact this
theorem dtThoseIs (D : Dt) (B M : Nat) (gf : Nat) (lb : Array Value) (P : Nat → Nd → Bool) (w : World) (h : Dt.Is D B M w)
    (heg : ∀ args w, (callFunc gf args).run Try.prog w = .ok (.enter gf args) w)
    (hcl : ∀ (W : World) (i : Nat) (x : Nd), Below w.heap.size w W → (i, x) ∈ D.pairs → Calls Try.prog gf (#[intV i, x.val] ++ lb) W fun e W' => e = .returned (.bool (P i x)) ∧ Below W.heap.size W W') :
    Calls Try.prog 17 #[.pointer (some ⟨B, 0, none⟩), .func (.func gf) #[] lb] w fun e w' =>
      (∃ u, e = .returned u ∧ Nums w' w.heap.size u (D.pick P)) ∧ Below w.heap.size w w' := by
  rw [← D.found_pairs P]
  exact dtThose _ D.pairs (by rw [D.pairs_length]; exact h.ok.few) gf lb P w heg
    (fun V Z hb hZ hz => allGoes 2 (by omega) V D B M Z _ (.inl h.lt) (.inl h.ltM) (.inr rfl) (h.below hb) hz) hcl
theorem dtThoseNil (gf : Nat) (lb : Array Value) (w : World)
    (heg : ∀ args w, (callFunc gf args).run Try.prog w = .ok (.enter gf args) w) :
    Calls Try.prog 17 #[.pointer none, .func (.func gf) #[] lb] w fun e w' =>
      (∃ u, e = .returned u ∧ Nums w' w.heap.size u []) ∧ Below w.heap.size w w' :=
  dtThose none [] (by simp) gf lb (fun _ _ => false) w heg (fun V Z hb hZ hz => allGoesNil 2 (by omega) V Z _ hz) (fun W i x _ hm => by cases hm)
/-- What Suspects asks of a node. -/
theorem dtSus1 (i : Nat) (x : Nd) (w : World) : Calls Try.prog 21 #[intV i, x.val] w fun e w' => e = .returned (.bool x.sus) ∧ Below w.heap.size w w' := by
  go_enter Try.func21, Try.ntmps21
  go_wp2
  go_ret
  exact ⟨rfl, (Below.refl _ w).alloc (Nat.le_refl _) _⟩
theorem dtSuspects (D : Dt) (B M : Nat) (w : World) (h : Dt.Is D B M w) : Calls Try.prog 12 #[.pointer (some ⟨B, 0, none⟩)] w fun e w' =>
    (∃ u, e = .returned u ∧ Nums w' w.heap.size u D.suspects) ∧ Below w.heap.size w w' := by
  have HT := Lib.hid (dtThoseIs D B M 21 #[] (fun _ x => x.sus) w h (enters_of Try.func21 (by kernel_rfl) rfl) (fun W i x _ _ => dtSus1 i x W))
  clear h
  go_enter Try.func12, Try.ntmps12
  go_wp2_with (go_at_call 17; refine HT.out.mono ?_; rintro e w1 ⟨⟨u, rfl, hN⟩, hb⟩)
  go_ret
  exact ⟨⟨u, rfl, hN⟩, hb⟩
theorem dtSuspectsNil (w : World) : Calls Try.prog 12 #[.pointer none] w fun e w' =>
    (∃ u, e = .returned u ∧ Nums w' w.heap.size u []) ∧ Below w.heap.size w w' := by
  have HT := Lib.hid (dtThoseNil 21 #[] w (enters_of Try.func21 (by kernel_rfl) rfl))
  go_enter Try.func12, Try.ntmps12
  go_wp2_with (go_at_call 17; refine HT.out.mono ?_; rintro e w1 ⟨⟨u, rfl, hN⟩, hb⟩)
  go_ret
  exact ⟨⟨u, rfl, hN⟩, hb⟩
theorem field_out (a b : Int) (c : Bool) (w : World) : (Instr.field 51 (.agg #[.int .u64 a, .int .u64 b, .bool c]) 1).run Try.prog w = .ok (.int .u64 b) w := by kernel_rfl
/-- A node's timeout, of any number. -/
def Dt.outOf (D : Dt) (k : Int) : Nat := if 0 ≤ k then D.timeout k.toNat else 0
theorem dtTimeout (D : Dt) (B M : Nat) (k : Int) (w : World) (h : Dt.Is D B M w) : Calls Try.prog 13 #[.pointer (some ⟨B, 0, none⟩), .int .i64 k] w fun e w' =>
    e = .returned (.int .u64 (D.outOf k : Int)) ∧ w = w' := by
  have h4 : w.cell? ⟨B, 4, none⟩ = some (.map (some M)) := h.cell 4 _ rfl
  by_cases hk : 0 ≤ k ∧ k < (D.nodes.length : Int)
  · obtain ⟨j, rfl⟩ := Int.eq_ofNat_of_zero_le hk.1
    have hj : j < D.nodes.length := by omega
    have hlk := Dt.look h.map j hj
    have he : D.outOf (j : Int) = D.nodes[j].out := by simp [Dt.outOf, Dt.timeout, hj]
    rw [he]
    clear h hk he
    generalize D.nodes[j] = x at *
    have hfd := field_out (x.last : Int) (x.out : Int) x.sus w
    go_enter Try.func13, Try.ntmps13
    go_wp2
    go_ret
    exact ⟨rfl, rfl⟩
  · have hlk := Dt.look_none h.map k (by omega)
    have he : D.outOf k = 0 := by
      unfold Dt.outOf
      split
      · simp [Dt.timeout, show D.nodes[k.toNat]? = none from List.getElem?_eq_none (by omega)]
      · rfl
    rw [he]
    clear h hk he
    have hfd := field_out 0 0 false w
    go_enter Try.func13, Try.ntmps13
    go_wp2
    go_ret
    exact ⟨rfl, rfl⟩
theorem dtTimeoutNil (k : Int) (w : World) : Calls Try.prog 13 #[.pointer none, .int .i64 k] w fun e w' =>
    e = .returned (.int .u64 0) ∧ w = w' := by
  go_enter Try.func13, Try.ntmps13
  go_wp2
  go_ret
  exact ⟨rfl, rfl⟩
end Go.Proofs.Ytdpnmmeecnconaa
