/-
  Out: walked.
-/
import Derived.Test.YtlbhfkiihikimaaLkPend
import Derived.Test.YtlbhfkiihikimaaLkAddr
import Derived.Test.YtlbhfkiihikimaaHeldEnd
namespace Go.Proofs.Ytlbhfkiihikimaa
open Go.RowKit Go.Shelf
attribute [local go_sem] Oper.semAt_some
set_option linter.unusedVariables false
set_option linter.unusedSimpArgs false

namespace Lk
/-- A frame that is sent, not yet addressed. -/
def raw (L : Lk) (x : Nat × ByteArray) : Fr := ⟨0, 1, 0, 0, L.life, bv x.1, bv L.got, 0, x.2⟩
theorem raw_cells (L : Lk) (x : Nat × ByteArray) (hx : x.1 ≤ 1000000) (hg : L.got ≤ 1000000) : (L.raw x).cells = #[.int .i64 0, .int .i64 1, .int .i64 0, .int .i64 0, .int .u32 (L.life.toNat : Int), .int .u32 (x.1 : Int), .int .u32 (L.got : Int), .int .u32 0, .string x.2] := by
  unfold raw Fr.cells
  simp only [bv_toNat _ hx, bv_toNat _ hg]
  rfl
/-- What is sent. -/
def sent (L : Lk) : List Fr := L.pend.map fun x => L.made 1 L.life x.1 x.2
theorem addr_raw (L : Lk) : (L.pend.map L.raw).map L.addr = L.sent := by
  unfold sent
  rw [List.map_map]
  rfl
theorem sent_length (L : Lk) : L.sent.length = L.out.length := by simp [sent, pend_length]
end Lk
theorem Frames.grown {w w' : World} {base : Nat} {v : Value} {l : List Fr} {row : Option Nat} (h : Frames w base v l) (hg : w.grownBy w' row) (hr : ∀ r, row = some r → ∃ o : Obj, w.heap[r]? = some o ∧ o.isCells = false) : Frames w' base v l :=
  h.keep fun g hgv => hg.block g (h.lt g hgv).2 (fun e => by
    obtain ⟨o, ho, hc⟩ := hr g e.symm
    obtain ⟨cur, hcur⟩ := h.typed g hgv
    rw [hcur] at ho; cases ho; cases hc)
/-- The list that grows in its variable's block. -/
def Grows (O base : Nat) (fs : List Fr) (W : World) : Prop := ∃ v, Row W O #[v] 28 ∧ Frames W base v fs
theorem Grows.own {β : Type} (O base : Nat) (f : β → List Fr) (n : Nat) : OwnFrom n (fun (s : β) W => Grows O base (f s) W) := fun s A B row ⟨v, h1, h2⟩ hg hr =>
  ⟨v, Row.own (β := Unit) O (fun _ => #[v]) _ () A B row h1 hg (fun r e => (hr r e).2), h2.grown hg (fun r e => (hr r e).2)⟩
theorem Grows.step {O base : Nat} {fs : List Fr} {W W1 w2 : World} {v v' : Value} {f : Fr} (h1 : Row W O #[v] 28) (h2 : Frames W base v fs) (hO : O < base) (hb : Below W.heap.size W W1) (hg : W1.grownBy w2 v.ownBlock) (ho : Frames w2 base v' (fs ++ [f])) :
    Grows O base (fs ++ [f]) (w2.setCell ⟨O, 0, none⟩ v') ∧ Stays O v.ownBlock W (w2.setCell ⟨O, 0, none⟩ v') ∧ (w2.cell? ⟨O, 0, none⟩ = some v ∧ w2.frozen? ⟨O, 0, none⟩ = false) := by
  have hOs := Row.lt h1
  have hr : Row w2 O #[v] 28 := (hg.block O (Nat.lt_of_lt_of_le hOs hb.size) (fun e => by have := (h2.lt O e.symm).1; omega)).trans ((hb.block O hOs).trans h1)
  refine ⟨⟨v', by have := hr.set 0 v'; exact this, ho.keep fun g hgv => Below.heap_setCell _ _ _ g (by have := (ho.lt g hgv).1; simp; omega)⟩, ((Stays.of_below hb).grown hg).setCell _ _ rfl, hr.cell 0 v rfl, hr.thawed 0⟩
theorem Grows.from {O base n : Nat} {fs : List Fr} {W W' : World} {v : Value} (h1 : Row W O #[v] 28) (h2 : Frames W base v fs) (h : Stays O v.ownBlock W W') : KeepsFrom n W W' :=
  ⟨h.size, fun j o _ hj hc => (h.block j (Array.getElem?_eq_some_iff.1 hj).1 (fun e => by
      subst e
      rw [show W.heap[j]? = _ from h1] at hj; cases hj; cases hc) (fun e => by
      obtain ⟨cur, hcur⟩ := h2.typed j e
      rw [hcur] at hj; cases hj; cases hc)).trans hj⟩
theorem opIn_append_frames {F : Fence} {n : Nat} {ops : Array Oper} {o : Oper} {a : Act} {w : World} {K : Act → World → Prop} {Q : Exit → Act → World → Prop} {E : Prop}
    (hg : o.guard = none) (s x : Operand) (hop : o.op = Op.call { callee := Callee.builtin Builtin.append, args := #[s, x], argTypes := #[28, 28] })
    (base : Nat) (v : Value) (l : List Fr) (hs : a.eval s = v) (hown : Frames w base v l) (X : Value) (hx : a.eval x = X) (news : List Fr) (hc : Given w X news) (hk : l.length + news.length ≤ 1000000) (hb : base ≤ w.heap.size)
    (hK : ∀ v' w', Frames w' base v' (l ++ news) → w.grownBy w' v.ownBlock → (v'.ownBlock = v.ownBlock ∨ v'.ownBlock = some w.heap.size) → K (a.put o.dst v') w') :
    if Region.wanted o (yielded ops a.tmps) = true then Oper.wpIn F n Try.prog o a w K Q else E := by
  have hw : Region.wanted o (yielded ops a.tmps) = true := by simp [Region.wanted, hg]
  rw [if_pos hw]
  obtain ⟨v', w', hrun, r1, r2, r3⟩ := run_append_given w o.type base v l hown X news hc hk hb
  unfold Oper.wpIn
  refine ⟨?_, ?_⟩
  · simp [Oper.about, hop, resolve, Target.leads, Sem.run_pure]
  · rw [Oper.semAt_plain F _ _ (by rw [hop]; intro c hc'; cases hc')]
    simp [execOp, hop, resolve, invoke, builtin, hs, hx, hrun, Result.andThen]
    exact hK v' w' r1 r2 r3
set_option maxRecDepth 100000 in
set_option maxHeartbeats 4000000 in
/-- Out. -/
theorem lkOut (L : Lk) (B M : Nat) (w : World) (h : Lk.Is L B M w) : Calls Try.prog 12 #[.pointer (some ⟨B, 0, none⟩)] w fun e w' =>
    (∃ u, e = .returned u ∧ Frames w' w.heap.size u L.sent) ∧ Below w.heap.size w w' := by
  refine (callsIn_wide (n := 3)).1 ?_
  refine callsIn_of_wp_marks Try.func12 rfl trivial ?_ rfl
  simp only [Try.ntmps12, List.size_toArray, List.length_cons, List.length_nil, Nat.reduceAdd, Nat.reduceSub, Array.replicate_succ, Array.replicate_zero, List.push_toArray, List.append_toArray, List.nil_append, List.cons_append]
  refine wpIn_wide.2 ?_
  go_wp2_with (go_at_call 23; refine (lkPending _ _).mono ?_; rintro e w' ⟨rfl, rfl⟩)
  refine (wpIn_wide (n := 3)).1 ?_
  obtain ⟨V, hV⟩ : ∃ V, (((w.alloc (.cells #[.pointer (some ⟨B, 0, none⟩)] 26)).alloc (.cells #[.slice none 0 0] 28)).alloc (.cells #[.pointer (some ⟨B, 3, none⟩)] 67)) = V := ⟨_, rfl⟩
  have hsz : V.heap.size = w.heap.size + 1 + 1 + 1 := by rw [← hV]; simp
  have hBV : Below w.heap.size w V := by rw [← hV]; exact (((Below.refl _ w).alloc (Nat.le_refl _) _).alloc (by simp) _).alloc (by simp; omega) _
  have hT : Row V w.heap.size #[.pointer (some ⟨B, 0, none⟩)] 26 := by rw [← hV]; exact ((Row.new w _ _).alloc _).alloc _
  have hO : Row V (w.heap.size + 1) #[.slice none 0 0] 28 := by
    rw [← hV]
    have := Row.new (w.alloc (.cells #[.pointer (some ⟨B, 0, none⟩)] 26)) #[.slice none 0 0] 28
    rw [World.size_alloc] at this
    exact this.alloc _
  have hZ : Row V (w.heap.size + 1 + 1) #[.pointer (some ⟨B, 3, none⟩)] 67 := by
    rw [← hV]
    have := Row.new ((w.alloc (.cells #[.pointer (some ⟨B, 0, none⟩)] 26)).alloc (.cells #[.slice none 0 0] 28)) #[.pointer (some ⟨B, 3, none⟩)] 67
    rw [World.size_alloc, World.size_alloc] at this
    exact this
  rw [hV]
  clear hV
  have hB := h.lt
  have hM := h.ltM
  have hgoes := pendGoes (3 - 1) (by omega) V L B M (w.heap.size + 1 + 1) (h.below hBV) (hZ.cell 0 _ rfl)
  have HI := Lib.hid h
  refine wpIn_goesN_found rfl (by omega) (gf := 29) (lb := #[.pointer (some ⟨w.heap.size + 1 + 1, 0, none⟩)]) rfl trivial (enters_of Try.func29 (by kernel_rfl) rfl)
    hgoes (fun _ _ => trivial) (fun _ _ _ _ _ _ => trivial) (fun _ => trivial) (Below.refl _ _) (fun _ => rfl)
    (fun k W => Grows (w.heap.size + 1) V.heap.size ((L.pend.take k).map L.raw) W ∧ Row W w.heap.size #[.pointer (some ⟨B, 0, none⟩)] 26 ∧ Row W (w.heap.size + 1 + 1) #[.pointer (some ⟨B, 3, none⟩)] 67 ∧ Below w.heap.size w W)
    (fun _ _ _ => False)
    (OwnFrom.and (Grows.own _ _ (fun k => (L.pend.take k).map L.raw) _) (OwnFrom.and (Own.from (Row.own _ (fun _ => _) _) _) (OwnFrom.and (Own.from (Row.own _ (fun _ => _) _) _) (ownFrom_below (Nat.le_refl _) hBV.size))))
    (fun cc => ownFrom_pure _ _)
    ⟨⟨_, hO, Frames.nil _ _⟩, hT, hZ, hBV⟩
    (fun k W hk => ⟨⟨0, Nat.zero_le _, Nat.zero_le _, by rw [Lk.shed_zero]; exact h.below hk.2.2.2⟩, hk.2.2.1.cell 0 _ rfl⟩)
    ⟨_, (by intro l x W K hK; gi_wp2; exact hK), ?body⟩ ?done ?stop
  case body =>
    rintro lp k ⟨xn, xs⟩ W hx ⟨⟨v, hr, hf⟩, ht, hz, hBw⟩
    have hkl : k < L.out.length := by have := (List.getElem?_eq_some_iff.1 hx).1; rwa [L.pend_length] at this
    rw [L.pend_get k hkl] at hx
    simp only [Option.some.injEq, Prod.mk.injEq] at hx
    obtain ⟨hxn, hxs⟩ := hx
    have hfew := h.ok.few
    have hgots := h.ok.gots
    have hxsz : xs.size ≤ 4096 := by rw [← hxs]; exact h.ok.small _ (List.getElem_mem hkl)
    have hxm : xn ≤ 1000000 := by rw [← hxn]; unfold Lk.top at hfew; omega
    have hnext : (L.pend.take (k + 1)).map L.raw = (L.pend.take k).map L.raw ++ [L.raw (xn, xs)] := by
      have hk2 : k < L.pend.length := by rw [L.pend_length]; exact hkl
      have h3 : L.pend[k] = (xn, xs) := by have := L.pend_get k hkl; rw [List.getElem?_eq_getElem hk2] at this; simp only [Option.some.injEq] at this; rw [this, hxn, hxs]
      rw [List.take_succ_eq_append_getElem hk2, List.map_append, h3]; rfl
    have hraw := L.raw_cells (xn, xs) hxm (by omega)
    have hfw : ((L.pend.take k).map L.raw).length + 1 ≤ 1000000 := by rw [List.length_map, List.length_take, L.pend_length]; unfold Lk.top at hfew; omega
    dsimp only at hraw
    have hS0 : W.drew.cell? ⟨w.heap.size + 1, 0, none⟩ = some v ∧ W.drew.cell? ⟨w.heap.size, 0, none⟩ = some (.pointer (some ⟨B, 0, none⟩)) ∧ W.drew.cell? ⟨B, 3, none⟩ = some (.int .u32 (L.life.toNat : Int)) := ⟨hr.cell 0 _ rfl, ht.cell 0 _ rfl, (h.below hBw).cell 3 _ rfl⟩
    have HH := Lib.hid hxn
    have HNX := Lib.hid hnext
    have hID : Lk.Is L B M W.drew := (h.below hBw).below (Below.refl _ _).drew
    have HSS := Lib.hid (fun (W' : World) (hb : Below W.drew.heap.size W.drew W') => show W'.cell? ⟨w.heap.size + 1, 0, none⟩ = some v ∧ W'.cell? ⟨w.heap.size, 0, none⟩ = some (.pointer (some ⟨B, 0, none⟩)) ∧ W'.cell? ⟨B, 3, none⟩ = some (.int .u32 (L.life.toNat : Int)) from ⟨(hb.cell (p := ⟨w.heap.size + 1, 0, none⟩) (lt_of_cell hS0.1)).trans hS0.1, (hb.cell (p := ⟨w.heap.size, 0, none⟩) (lt_of_cell hS0.2.1)).trans hS0.2.1, (hb.cell (p := ⟨B, 3, none⟩) (lt_of_cell hS0.2.2)).trans hS0.2.2⟩)
    have hVW : V.heap.size ≤ W.heap.size := by have := Row.lt hz; omega
    have HGV := Lib.hid (fun (W' : World) => hraw ▸ given_one W' (L.raw (xn, xs)) 24 1)
    have HFW := Lib.hid hfw
    have HVW := Lib.hid (show V.heap.size ≤ W.heap.size from hVW)
    have HS3 := Lib.hid (fun (w3 : World) (v' : Value) (hSt : Stays (w.heap.size + 1) v.ownBlock W (w3.setCell ⟨w.heap.size + 1, 0, none⟩ v')) (hc : w3.cell? ⟨w.heap.size + 1, 0, none⟩ = some v) => show w3.cell? ⟨w.heap.size + 1, 0, none⟩ = some v ∧ w3.cell? ⟨w.heap.size, 0, none⟩ = some (.pointer (some ⟨B, 0, none⟩)) ∧ w3.cell? ⟨B, 3, none⟩ = some (.int .u32 (L.life.toNat : Int)) from
      have hlow : ∀ b, b < w.heap.size + 1 → w3.heap[b]? = W.heap[b]? := fun b hb => (Below.heap_setCell w3 ⟨w.heap.size + 1, 0, none⟩ v' b (by simp; omega)).symm.trans (hSt.block b (by omega) (by omega) (fun e => by have := (hf.lt b e).1; omega))
      ⟨hc, (World.cell?_of_block (w := W) (a := ⟨w.heap.size, 0, none⟩) (hlow _ (by simp))).trans (ht.cell 0 _ rfl), (World.cell?_of_block (w := W) (a := ⟨B, 3, none⟩) (hlow _ (by simp; omega))).trans ((h.below hBw).cell 3 _ rfl)⟩)
    have HE := Lib.hid (fun (w3 : World) (v' : Value) (hSt : Stays (w.heap.size + 1) v.ownBlock W (w3.setCell ⟨w.heap.size + 1, 0, none⟩ v')) (hG : Grows (w.heap.size + 1) V.heap.size ((L.pend.take k).map L.raw ++ [L.raw (xn, xs)]) (w3.setCell ⟨w.heap.size + 1, 0, none⟩ v')) =>
      show KeepsFrom V.heap.size W (w3.setCell ⟨w.heap.size + 1, 0, none⟩ v') ∧ True ∧ (Grows (w.heap.size + 1) V.heap.size ((L.pend.take (k + 1)).map L.raw) (w3.setCell ⟨w.heap.size + 1, 0, none⟩ v') ∧ Row (w3.setCell ⟨w.heap.size + 1, 0, none⟩ v') w.heap.size #[.pointer (some ⟨B, 0, none⟩)] 26 ∧ Row (w3.setCell ⟨w.heap.size + 1, 0, none⟩ v') (w.heap.size + 1 + 1) #[.pointer (some ⟨B, 3, none⟩)] 67 ∧ Below w.heap.size w (w3.setCell ⟨w.heap.size + 1, 0, none⟩ v')) from
      ⟨Grows.from hr hf hSt, trivial, by rw [HNX.out]; exact hG, (hSt.block _ (by omega) (by omega) (fun e => by have := (hf.lt _ e).1; omega)).trans ht, (hSt.block _ (by omega) (by omega) (fun e => by have := (hf.lt _ e).1; omega)).trans hz, hBw.trans (hSt.below hBw.size (by omega) (fun g e => by have := (hf.lt _ e).1; omega))⟩)
    clear hraw hfw
    gi_wp2
    refine wpIn_region_end (fun W' => W'.cell? ⟨w.heap.size + 1, 0, none⟩ = some v ∧ W'.cell? ⟨w.heap.size, 0, none⟩ = some (.pointer (some ⟨B, 0, none⟩)) ∧ W'.cell? ⟨B, 3, none⟩ = some (.int .u32 (L.life.toNat : Int))) 16 (by kernel_rfl) ?_
    change anyE _ _ _ _ _ _ _ _ 17 _ _ W.drew
    have hO1 := wide_round (P := Try.prog) lp
    refine anyE_take hO1 0 (v := v) rfl (by kernel_rfl) (fun _ _ _ h => h) hS0 (Or.inl ⟨by rfl, fun X hX => by obtain ⟨x1, x2, x3⟩ := hX; go_simp⟩) ?_
    try simp only [List.getElem_toArray, List.getElem_cons_zero, List.getElem_cons_succ, Act.put, List.setIfInBounds_toArray, List.set_cons_zero, List.set_cons_succ]
    refine anyE_take hO1 1 (v := .pointer (some ⟨B, 0, none⟩)) rfl (by kernel_rfl) (fun _ _ _ h => h) hS0 (Or.inl ⟨by rfl, fun X hX => by obtain ⟨x1, x2, x3⟩ := hX; go_simp⟩) ?_
    try simp only [List.getElem_toArray, List.getElem_cons_zero, List.getElem_cons_succ, Act.put, List.setIfInBounds_toArray, List.set_cons_zero, List.set_cons_succ]
    refine anyE_take hO1 2 (v := .pointer (some ⟨B, 0, none⟩)) rfl (by kernel_rfl) (fun _ _ _ h => h) hS0 (Or.inl ⟨by rfl, fun X hX => by obtain ⟨x1, x2, x3⟩ := hX; go_simp⟩) ?_
    try simp only [List.getElem_toArray, List.getElem_cons_zero, List.getElem_cons_succ, Act.put, List.setIfInBounds_toArray, List.set_cons_zero, List.set_cons_succ]
    refine anyE_take hO1 3 (v := .pointer (some ⟨B, 3, none⟩)) rfl (by kernel_rfl) (fun _ _ _ h => h) hS0 (Or.inl ⟨by rfl, fun X hX => by obtain ⟨x1, x2, x3⟩ := hX; go_simp⟩) ?_
    try simp only [List.getElem_toArray, List.getElem_cons_zero, List.getElem_cons_succ, Act.put, List.setIfInBounds_toArray, List.set_cons_zero, List.set_cons_succ]
    refine anyE_take hO1 4 (v := .pointer (some ⟨B, 3, none⟩)) rfl (by kernel_rfl) (fun _ _ _ h => h) hS0 (Or.inl ⟨by rfl, fun X hX => by obtain ⟨x1, x2, x3⟩ := hX; go_simp⟩) ?_
    try simp only [List.getElem_toArray, List.getElem_cons_zero, List.getElem_cons_succ, Act.put, List.setIfInBounds_toArray, List.set_cons_zero, List.set_cons_succ]
    refine anyE_take hO1 5 (v := .int .u32 (L.life.toNat : Int)) rfl (by kernel_rfl) (fun _ _ _ h => h) hS0 (Or.inl ⟨by rfl, fun X hX => by obtain ⟨x1, x2, x3⟩ := hX; go_simp⟩) ?_
    try simp only [List.getElem_toArray, List.getElem_cons_zero, List.getElem_cons_succ, Act.put, List.setIfInBounds_toArray, List.set_cons_zero, List.set_cons_succ]
    refine anyE_take hO1 6 (v := .int .u32 (xn : Int)) rfl (by kernel_rfl) (fun _ _ _ h => h) hS0 (Or.inl ⟨by rfl, fun X hX => by obtain ⟨x1, x2, x3⟩ := hX; go_simp⟩) ?_
    try simp only [List.getElem_toArray, List.getElem_cons_zero, List.getElem_cons_succ, Act.put, List.setIfInBounds_toArray, List.set_cons_zero, List.set_cons_succ]
    refine anyE_take hO1 7 (v := .pointer (some ⟨B, 0, none⟩)) rfl (by kernel_rfl) (fun _ _ _ h => h) hS0 (Or.inl ⟨by rfl, fun X hX => by obtain ⟨x1, x2, x3⟩ := hX; go_simp⟩) ?_
    try simp only [List.getElem_toArray, List.getElem_cons_zero, List.getElem_cons_succ, Act.put, List.setIfInBounds_toArray, List.set_cons_zero, List.set_cons_succ]
    refine anyE_take hO1 8 (v := .pointer (some ⟨B, 0, none⟩)) rfl (by kernel_rfl) (fun _ _ _ h => h) hS0 (Or.inl ⟨by rfl, fun X hX => by obtain ⟨x1, x2, x3⟩ := hX; go_simp⟩) ?_
    try simp only [List.getElem_toArray, List.getElem_cons_zero, List.getElem_cons_succ, Act.put, List.setIfInBounds_toArray, List.set_cons_zero, List.set_cons_succ]
    refine anyE_take hO1 9 (v := .pointer (some ⟨B, 7, none⟩)) rfl (by kernel_rfl) (fun _ _ _ h => h) hS0 (Or.inl ⟨by rfl, fun X hX => by obtain ⟨x1, x2, x3⟩ := hX; go_simp⟩) ?_
    try simp only [List.getElem_toArray, List.getElem_cons_zero, List.getElem_cons_succ, Act.put, List.setIfInBounds_toArray, List.set_cons_zero, List.set_cons_succ]
    refine anyE_take hO1 11 (v := .string xs) rfl (by kernel_rfl) (fun _ _ _ h => h) hS0 (Or.inl ⟨by rfl, fun X hX => by obtain ⟨x1, x2, x3⟩ := hX; go_simp⟩) ?_
    try simp only [List.getElem_toArray, List.getElem_cons_zero, List.getElem_cons_succ, Act.put, List.setIfInBounds_toArray, List.set_cons_zero, List.set_cons_succ]
    refine anyE_sole 10 rfl (by kernel_rfl) (fun K hK => ?_)
    go_simp
    refine ⟨trivial, (CallsIn.inRound lp (callsIn_wide.2 (lkGot L B M _ hID))).mono ?_⟩
    rintro e w1 ⟨rfl, rfl⟩
    refine hK _ _ (fun _ => hS0) ?_
    clear hK K
    try simp only [List.getElem_toArray, List.getElem_cons_zero, List.getElem_cons_succ, Act.put, List.setIfInBounds_toArray, List.set_cons_zero, List.set_cons_succ]
    refine anyE_sole 12 rfl (by kernel_rfl) (fun K hK => ?_)
    go_simp
    refine ⟨trivial, (CallsIn.inRound lp (callsIn_wide.2 (Try.strings_Clone xs _ (by omega)))).mono ?_⟩
    rintro e w1 ⟨rfl, hb1⟩
    have hS1 := HSS.out w1 hb1
    refine hK _ _ (fun _ => hS1) ?_
    clear hK K
    try simp only [List.getElem_toArray, List.getElem_cons_zero, List.getElem_cons_succ, Act.put, List.setIfInBounds_toArray, List.set_cons_zero, List.set_cons_succ]
    refine anyE_take hO1 13 (v := .agg #[.int .i64 0, .int .i64 1, .int .i64 0, .int .i64 0, .int .u32 (L.life.toNat : Int), .int .u32 (xn : Int), .int .u32 (L.got : Int), .int .u32 0, .string xs]) rfl (by kernel_rfl) (fun _ _ _ h => h) hS1 (Or.inl ⟨by rfl, fun X hX => by obtain ⟨x1, x2, x3⟩ := hX; go_simp⟩) ?_
    try simp only [List.getElem_toArray, List.getElem_cons_zero, List.getElem_cons_succ, Act.put, List.setIfInBounds_toArray, List.set_cons_zero, List.set_cons_succ]
    refine anyE_sole 14 rfl (by kernel_rfl) (fun K hK => ?_)
    go_simp
    have hb2 := hb1.alloc hb1.size (.cells #[.int .i64 0, .int .i64 1, .int .i64 0, .int .i64 0, .int .u32 (L.life.toNat : Int), .int .u32 (xn : Int), .int .u32 (L.got : Int), .int .u32 0, .string xs] 24)
    refine hK _ _ (fun _ => HSS.out _ hb2) ?_
    clear hK K
    try simp only [List.getElem_toArray, List.getElem_cons_zero, List.getElem_cons_succ, Act.put, List.setIfInBounds_toArray, List.set_cons_zero, List.set_cons_succ]
    have hgv := HGV.out w1
    obtain ⟨w2, hw2⟩ : ∃ w2, w1.alloc (.cells #[.int .i64 0, .int .i64 1, .int .i64 0, .int .i64 0, .int .u32 (L.life.toNat : Int), .int .u32 (xn : Int), .int .u32 (L.got : Int), .int .u32 0, .string xs] 24) = w2 := ⟨_, rfl⟩
    rw [hw2] at hb2 hgv ⊢
    clear hw2
    have hb2' : Below W.heap.size W w2 := (Below.refl _ W).drew.trans hb2
    refine anyE_sole 15 rfl (by kernel_rfl) (fun K hK => ?_)
    refine opIn_append_frames rfl _ _ rfl V.heap.size v _ rfl (hf.below hb2') _ rfl [L.raw (xn, xs)] hgv HFW.out (Nat.le_trans HVW.out hb2'.size) ?_
    intro v' w3 ho hg hat
    obtain ⟨hG, hSt, hc3, hz3⟩ := Grows.step hr hf (by omega) hb2' hg ho
    have hend := HE.out w3 v' hSt hG
    refine hK _ _ (fun _ => HS3.out w3 v' hSt hc3) ?_
    clear hK K
    obtain ⟨a2, c2, e2, _⟩ := ho.form
    generalize ((L.pend.take k).map L.raw ++ [L.raw (xn, xs)]).length = q2 at e2
    subst e2
    try simp only [List.getElem_toArray, List.getElem_cons_zero, List.getElem_cons_succ, Act.put, List.setIfInBounds_toArray, List.set_cons_zero, List.set_cons_succ]
    refine anyE_sole 16 rfl (by kernel_rfl) (fun K hK => ?_)
    go_simp
    refine hK _ _ (fun h => absurd rfl h) ?_
    clear hK K
    refine anyE_done (by kernel_rfl) ?_
    exact hend
  case done =>
    rintro D W hD ⟨⟨v, hr, hf⟩, ht, hz, hBw⟩ hK
    rw [List.take_length] at hf
    have hI := h.below hBw
    have hlen : (L.pend.map L.raw).length ≤ 1000 := by rw [List.length_map, L.pend_length]; have := h.ok.few; unfold Lk.top at this; omega
    have HA := Lib.hid (lkAddressed L B M _ V.heap.size v W hI hf hlen)
    rw [L.addr_raw] at HA
    have c0 := ht.cell 0 _ rfl
    have c1 := hr.cell 0 _ rfl
    have hDl : D < W.heap.size := (Array.getElem?_eq_some_iff.1 hK).1
    clear hT hO hZ hgoes
    gi_wp2
    go_wp2_with (go_at_call 17; refine HA.out.mono ?_; rintro e w1 ⟨⟨u, rfl, hFu⟩, hb1⟩)
    try rw [Exit.noGoto_ret]
    have hKn : w1.heap[D]? = some (.deferred (some [])) := (hb1.block D hDl).trans hK
    refine ⟨by simp, .inl ⟨_, _, rfl, run_takeDeferred hKn, ?_⟩⟩
    have hws := hBw.size
    have hFD : Frames (w1.putObj D (.deferred none)) w.heap.size u L.sent := (hFu.keep (fun g hg => World.putObj_heap_other (fun e => by have := (hFu.lt g hg).1; omega))).rebase (fun g hg => Nat.le_trans hws (hFu.lt g hg).1)
    exact ⟨_, results_tmp rfl _ _ _, ⟨u, rfl, hFD⟩, (hBw.trans (hb1.mono hws)).trans (belowK_b (w := w) (Nat.le_refl _) _ D _ _ (by omega) hKn rfl rfl)⟩
  case stop =>
    rintro D cc k W hD hk hF hK
    exact hF.elim
end Go.Proofs.Ytlbhfkiihikimaa
