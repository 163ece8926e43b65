/-
  Lists of notes in memory; append to one.
-/
import Derived.Test.YtialmaapahjchaaFlMath
import Derived.Test.YtialmaapahjchaaCrcRefChange
import Derived.Maps.AppendAt
import Derived.Deep.RegionLaw
import Derived.OwnWalk
import Derived.Laws.OwnMore
namespace Go.Proofs.Ytialmaapahjchaa
open Go.RowKit Go.Shelf
attribute [local go_sem] Oper.semAt_some
set_option linter.unusedVariables false
set_option linter.unusedSimpArgs false

/-- All lies as it lay, but block B and block o. -/
structure Stays (B : Nat) (o : Option Nat) (w w' : World) : Prop where
  os : w'.os = w.os
  tape : w'.tape = w.tape
  output : w'.output = w.output
  size : w.heap.size ≤ w'.heap.size
  block : ∀ k, k < w.heap.size → k ≠ B → o ≠ some k → w'.heap[k]? = w.heap[k]?
namespace Stays
variable {B : Nat} {o : Option Nat} {w w' w'' : World}
theorem refl (B : Nat) (o : Option Nat) (w : World) : Stays B o w w := ⟨rfl, rfl, rfl, Nat.le_refl _, fun _ _ _ _ => rfl⟩
theorem of_below (h : Below w.heap.size w w') : Stays B o w w' := ⟨h.os, h.tape, h.output, h.size, fun k hk _ _ => h.block k hk⟩
theorem trans {o' : Option Nat} (h : Stays B o w w') (h' : Stays B o' w' w'') (ho : ∀ g, o' = some g → o = some g ∨ w.heap.size ≤ g) : Stays B o w w'' :=
  ⟨h'.os.trans h.os, h'.tape.trans h.tape, h'.output.trans h.output, Nat.le_trans h.size h'.size, fun k hk hB hn => by
    refine (h'.block k (Nat.lt_of_lt_of_le hk h.size) hB (fun e => ?_)).trans (h.block k hk hB hn)
    rcases ho k e with e' | e'
    · exact hn e'
    · omega⟩
theorem setCell (h : Stays B o w w') (p : Addr) (v : Value) (hp : p.block = B) : Stays B o w (w'.setCell p v) :=
  ⟨h.os, h.tape, h.output, by have := (KeepsWalks.setCell w' p v).size; have := h.size; omega, fun k hk hB hn =>
    (Below.heap_setCell w' p v k (fun e => hB (e.trans hp))).trans (h.block k hk hB hn)⟩
theorem setOwn (h : Stays B o w w') (p : Addr) (v : Value) (hp : o = some p.block) : Stays B o w (w'.setCell p v) :=
  ⟨h.os, h.tape, h.output, by have := (KeepsWalks.setCell w' p v).size; have := h.size; omega, fun k hk hB hn =>
    (Below.heap_setCell w' p v k (fun e => hn (hp.trans (by rw [e])))).trans (h.block k hk hB hn)⟩
theorem grown (h : Stays B o w w') (hg : w'.grownBy w'' o) : Stays B o w w'' :=
  ⟨hg.os.trans h.os, hg.tape.trans h.tape, hg.output.trans h.output, Nat.le_trans h.size hg.size, fun k hk hB hn =>
    (hg.block k (Nat.lt_of_lt_of_le hk h.size) (fun e => hn e.symm)).trans (h.block k hk hB hn)⟩
theorem below {n : Nat} (h : Stays B o w w') (hn : n ≤ w.heap.size) (hB : n ≤ B) (ho : ∀ g, o = some g → n ≤ g) : Below n w w' :=
  ⟨h.os, h.tape, h.output, h.size, fun k hk => h.block k (by omega) (by omega) (fun e => by have := ho k e; omega)⟩
end Stays
/-- A list of notes; its block may have room behind. -/
def Notes (w : World) (base : Nat) (v : Value) (l : List Nt) : Prop :=
  (v = .slice none 0 0 ∧ l = []) ∨ ∃ (g cap : Nat) (cur : Array Value), v = .slice (some ⟨g, 0, none⟩) l.length cap ∧ base ≤ g ∧ w.heap[g]? = some (.cells cur 42 (0, 0)) ∧ l.length ≤ cap ∧ cap ≤ maxLen ∧ cap * 3 ≤ cur.size ∧ cur.toList.take (l.length * 3) = flat l
namespace Notes
variable {w w' : World} {base : Nat} {v : Value} {l : List Nt}
theorem nil (w : World) (base : Nat) : Notes w base (.slice none 0 0) [] := .inl ⟨rfl, rfl⟩
theorem form (h : Notes w base v l) : ∃ a c, v = .slice a l.length c ∧ l.length ≤ c := by
  rcases h with ⟨rfl, rfl⟩ | ⟨g, cap, cur, rfl, _, _, hc, _⟩
  · exact ⟨_, _, rfl, Nat.le_refl _⟩
  · exact ⟨_, _, rfl, hc⟩
theorem lt (h : Notes w base v l) : ∀ g, v.ownBlock = some g → base ≤ g ∧ g < w.heap.size := fun g hg => by
  rcases h with ⟨rfl, _⟩ | ⟨g', cap, cur, rfl, hb, hw, _⟩
  · cases hg
  · cases hg; exact ⟨hb, (Array.getElem?_eq_some_iff.1 hw).1⟩
theorem keep (h : Notes w base v l) (hb : ∀ g, v.ownBlock = some g → w'.heap[g]? = w.heap[g]?) : Notes w' base v l := by
  rcases h with h | ⟨g, cap, cur, rfl, hbg, hw, rest⟩
  · exact .inl h
  · exact .inr ⟨g, cap, cur, rfl, hbg, (hb g rfl).trans hw, rest⟩
theorem below (h : Notes w base v l) (hb : Below w.heap.size w w') : Notes w' base v l := h.keep fun g hg => hb.block g (h.lt g hg).2
theorem rebase (h : Notes w base v l) {b : Nat} (hb : ∀ g, v.ownBlock = some g → b ≤ g) : Notes w b v l := by
  rcases h with h | ⟨g, cap, cur, rfl, hbg, rest⟩
  · exact .inl h
  · exact .inr ⟨g, cap, cur, rfl, hb g rfl, rest⟩
theorem typed (h : Notes w base v l) : ∀ g, v.ownBlock = some g → ∃ cur, w.heap[g]? = some (.cells cur 42 (0, 0)) := fun g hg => by
  rcases h with ⟨rfl, _⟩ | ⟨g', cap, cur, rfl, hb, hw, _⟩
  · cases hg
  · cases hg; exact ⟨_, hw⟩
/-- With a note there is a block; its cells. -/
theorem get (h : Notes w base v l) (hl : 0 < l.length) : ∃ g c, v = .slice (some ⟨g, 0, none⟩) l.length c ∧ l.length ≤ c ∧ base ≤ g ∧ g < w.heap.size ∧ (∀ j, w.frozen? ⟨g, j, none⟩ = false) ∧
    (∀ j u, (flat l)[j]? = some u → w.cell? ⟨g, j, none⟩ = some u) := by
  rcases h with ⟨rfl, rfl⟩ | ⟨g, cap, cur, rfl, hb, hw, hc, _, _, ht⟩
  · simp at hl
  · refine ⟨g, cap, rfl, hc, hb, (Array.getElem?_eq_some_iff.1 hw).1, fun j => by simp [World.frozen?, hw], fun j u hu => ?_⟩
    rw [← ht, List.getElem?_take] at hu
    split at hu
    · rw [cell_of_row w g j cur 42 (0, 0) hw]; simpa using hu
    · cases hu
theorem cell (h : Notes w base v l) (k : Nat) (hk : k < l.length) : ∃ g c, v = .slice (some ⟨g, 0, none⟩) l.length c ∧ l.length ≤ c ∧ base ≤ g ∧ g < w.heap.size ∧ (∀ j, w.frozen? ⟨g, j, none⟩ = false) ∧
    w.cell? ⟨g, k * 3, none⟩ = some (.int .u32 (l[k].id.toNat : Int)) ∧ w.cell? ⟨g, k * 3 + 1, none⟩ = some (.int .i64 l[k].to) ∧ w.cell? ⟨g, k * 3 + 2, none⟩ = some (.string l[k].s) := by
  obtain ⟨g, c, h1, h2, h3, h4, h5, h6⟩ := h.get (by omega)
  exact ⟨g, c, h1, h2, h3, h4, h5, h6 _ _ (flat_get l k 0 (by omega) hk), h6 _ _ (flat_get l k 1 (by omega) hk), h6 _ _ (flat_get l k 2 (by omega) hk)⟩
/-- Its first notes, with no room behind them. -/
theorem front (h : Notes w base v l) (k : Nat) (hk : k < l.length) : ∃ g c, v = .slice (some ⟨g, 0, none⟩) l.length c ∧ Notes w base (.slice (some ⟨g, 0, none⟩) k k) (l.take k) := by
  rcases h with ⟨rfl, rfl⟩ | ⟨g, cap, cur, rfl, hb, hw, hc, hm, hs, ht⟩
  · simp at hk
  · have e : (l.take k).length = k := by rw [List.length_take]; omega
    refine ⟨g, cap, rfl, .inr ⟨g, k, cur, by rw [e], hb, hw, by rw [e]; omega, by omega, by omega, ?_⟩⟩
    rw [e, ← flat_take, ← ht, List.take_take, Nat.min_eq_left (by omega)]
/-- A note written anew. -/
theorem set (h : Notes w base v l) (k : Nat) (hk : k < l.length) (n : Nt) {g n' c : Nat} (hv : v = .slice (some ⟨g, 0, none⟩) n' c) :
    Notes (((w.setCell ⟨g, k * 3, none⟩ (.int .u32 (n.id.toNat : Int))).setCell ⟨g, k * 3 + 1, none⟩ (.int .i64 n.to)).setCell ⟨g, k * 3 + 2, none⟩ (.string n.s)) base v (l.set k n) := by
  rcases h with ⟨rfl, rfl⟩ | ⟨g', cap, cur, rfl, hb, hw, hc, hm, hs, ht⟩
  · simp at hk
  · simp only [Value.slice.injEq, Option.some.injEq, Addr.mk.injEq, and_true] at hv
    obtain ⟨rfl, _, _⟩ := hv
    refine .inr ⟨g', cap, ((cur.setIfInBounds (k * 3) (.int .u32 (n.id.toNat : Int))).setIfInBounds (k * 3 + 1) (.int .i64 n.to)).setIfInBounds (k * 3 + 2) (.string n.s), by rw [List.length_set], hb, ?_, by rw [List.length_set]; exact hc, hm, by simpa using hs, ?_⟩
    · simp [World.setCell, Array.getElem?_modify, hw]
    · rw [List.length_set, flat_set l k n hk, ← ht]
      simp [List.take_set]
end Notes
theorem info_note : (Try.prog.info? 42).map (fun i => (i.zero, i.size, i.bytes)) = some (some (.agg #[.int .u32 0, .int .i64 0, .string ⟨#[]⟩]), 3, 32) := by kernel_rfl
set_option maxHeartbeats 1000000 in
theorem run_append_notes (w : World) (ty : TypeId) (base : Nat) (v : Value) (l : List Nt) (h : Notes w base v l) (a : Addr) (m c : Nat) (news : List Nt) (hl : news.length = m) (hnews : ∀ j u, (flat news)[j]? = some u → w.cell? (a.add j) = some u)
    (hk : l.length + m ≤ 1000000) (hbase : base ≤ w.heap.size) :
    ∃ v' w', (Builtin.append_ #[27, 27] ty #[v, .slice (some a) m c]).run Try.prog w = .ok v' w' ∧ Notes w' base v' (l ++ news) ∧ w.grownBy w' v.ownBlock ∧ (v'.ownBlock = v.ownBlock ∨ v'.ownBlock = some w.heap.size) := by
  obtain ⟨i, hi, hz, hsz, hby⟩ := info_parts info_note
  have ht := Try.underlying27
  have hzs : (Value.agg #[.int .u32 0, .int .i64 0, .string ⟨#[]⟩]).cells.size = 3 := rfl
  have hln : (flat news).length = m * i.size := by rw [flat_length, hl, hsz]
  have hlen : (flat (l ++ news)).length = (l.length + m) * 3 := by rw [flat_length, List.length_append, hl]
  have grown : ∀ (old : Nat), old < l.length + m → ∀ (row : Option Nat),
      Notes (w.drew.alloc (.cells ((flat l).toArray ++ (flat news).toArray ++ Builtin.zeroCells (Value.agg #[.int .u32 0, .int .i64 0, .string ⟨#[]⟩]).cells (grownCap w (l.length + m) old 42 - (l.length + m))) 42)) base
        (.slice (some ⟨w.heap.size, 0, none⟩) (l.length + m) (grownCap w (l.length + m) old 42)) (l ++ news) ∧
      w.grownBy (w.drew.alloc (.cells ((flat l).toArray ++ (flat news).toArray ++ Builtin.zeroCells (Value.agg #[.int .u32 0, .int .i64 0, .string ⟨#[]⟩]).cells (grownCap w (l.length + m) old 42 - (l.length + m))) 42)) row := by
    intro old ho row
    have hge := grownCap_ge w (l.length + m) old 42
    have hcm : grownCap w (l.length + m) old 42 ≤ maxLen := grownCap_le_maxLen w (l.length + m) old 42 (by unfold maxLen; omega)
    refine ⟨.inr ⟨w.heap.size, _, _, by rw [List.length_append, hl], hbase, heap_alloc_new w.drew _, by rw [List.length_append, hl]; exact hge, hcm, ?_, ?_⟩, ⟨rfl, rfl, rfl, by simp, fun k hk _ => Below.heap_alloc w.drew _ k hk⟩⟩
    · simp only [Array.size_append, List.size_toArray, size_zeroCells, hzs, flat_length, hl]
      omega
    · simp only [Array.toList_append, List.length_append]
      rw [← flat_append, hl, ← hlen]
      exact List.take_left
  rcases h with ⟨rfl, rfl⟩ | ⟨g, cap, cur, rfl, hbg, hg, hnc, hcm, hcs, htake⟩
  · by_cases hm : m = 0
    · subst hm
      have hn : news = [] := List.eq_nil_of_length_eq_zero hl
      subst hn
      refine ⟨.slice none 0 0, w, ?_, Notes.nil _ _, ⟨rfl, rfl, rfl, Nat.le_refl _, fun _ _ _ => rfl⟩, .inl rfl⟩
      simp [Builtin.append_, run_underlying ht, sizeOf, typeInfo, hi, Builtin.lenOf, Builtin.firstCells, loadCells, loadCellsFrom]
    · have hr := run_append_nil (P := Try.prog) w 27 ty 42 i _ ht hi hz a m c (flat news) hln hnews (by omega) (by simp at hk; omega) (by rw [hby]; simp at hk; omega)
      have hgr := grown 0 (by simp; omega) (Value.ownBlock (.slice none 0 0))
      simp only [List.length_nil, Nat.zero_add, List.nil_append, flat_nil, Array.empty_append] at hgr ⊢
      exact ⟨_, _, hr, hgr.1, hgr.2, .inr rfl⟩
  · by_cases hroom : l.length + m ≤ cap
    · have hfit : l.length * i.size + (flat news).length ≤ cur.size := by rw [flat_length, hl, hsz]; omega
      have hr := run_append_room (P := Try.prog) w 27 ty 42 i ht hi g l.length cap cur hg a m c (flat news) hln hnews (flat_one news) hroom hfit
      refine ⟨_, _, hr, .inr ⟨g, cap, _, by rw [List.length_append, hl], hbg, setRow_heap w g cur _ _ _ hg, by rw [List.length_append, hl]; exact hroom, hcm, ?_, ?_⟩, ⟨rfl, rfl, rfl, by simp, fun k _ hk => setRow_other w g k _ (fun e => hk (by simp [Value.ownBlock, e]))⟩, .inl rfl⟩
      · simp only [List.size_toArray, List.length_append, List.length_take, List.length_drop, Array.length_toList]
        omega
      · rw [hsz, htake, ← flat_append, List.length_append, hl, ← hlen]
        exact List.take_left
    · have holds : ∀ j u, (flat l)[j]? = some u → w.cell? ((⟨g, 0, none⟩ : Addr).add j) = some u := by
        intro j u hu
        have hadd : (⟨g, 0, none⟩ : Addr).add j = ⟨g, j, none⟩ := by unfold Addr.add; split <;> simp_all
        rw [hadd, cell_of_row w g j cur _ (0, 0) hg]
        rw [← htake, List.getElem?_take] at hu
        split at hu
        · simpa using hu
        · cases hu
      have hr := run_append_grow (P := Try.prog) w 27 ty 42 i _ ht hi hz ⟨g, 0, none⟩ l.length cap (flat l) (by rw [flat_length, hsz]) holds a m c (flat news) hln hnews (by omega) (by omega) (growslice_fits (by omega) (by rw [hby]; omega))
      have hgr := grown cap (by omega) (Value.ownBlock (.slice (some ⟨g, 0, none⟩) l.length cap))
      exact ⟨_, _, hr, hgr.1, hgr.2, .inr rfl⟩
section
variable {ops : Array Oper} {o : Oper} {a : Act} {w : World} {Q : Exit → Act → World → Prop}
theorem step_append_notes {K : Act → World → Prop} {E : Prop}
    (hg : o.guard = none) (s x : Operand) (hop : o.op = Op.call { callee := Callee.builtin Builtin.append, args := #[s, x], argTypes := #[27, 27] })
    (base : Nat) (v : Value) (l : List Nt) (hs : a.eval s = v) (hown : Notes w base v l) (ad : Addr) (m c : Nat) (news : List Nt) (hx : a.eval x = .slice (some ad) m c) (hl : news.length = m)
    (hc : ∀ j u, (flat news)[j]? = some u → w.cell? (ad.add j) = some u) (hk : l.length + m ≤ 1000000) (hb : base ≤ w.heap.size)
    (hK : ∀ v' w', Notes w' base v' (l ++ news) → w.grownBy w' v.ownBlock → (v'.ownBlock = v.ownBlock ∨ v'.ownBlock = some w.heap.size) → K (a.put o.dst v') w') :
    if Region.wanted o (yielded ops a.tmps) = true then Oper.wp Try.prog o a w K Q else E := by
  have hw : Region.wanted o (yielded ops a.tmps) = true := by simp [Region.wanted, hg]
  rw [if_pos hw]
  obtain ⟨v', w', hrun, r1, r2, r3⟩ := run_append_notes w o.type base v l hown ad m c news hl hc hk hb
  unfold Oper.wp
  simp [execOp, hop, resolve, invoke, builtin, hs, hx, hrun, Result.andThen]
  exact hK v' w' r1 r2 r3
theorem wpList_append_notes {rest : List Oper}
    (hg : o.guard = none) (s x : Operand) (hop : o.op = Op.call { callee := Callee.builtin Builtin.append, args := #[s, x], argTypes := #[27, 27] })
    (base : Nat) (v : Value) (l : List Nt) (hs : a.eval s = v) (hown : Notes w base v l) (ad : Addr) (m c : Nat) (news : List Nt) (hx : a.eval x = .slice (some ad) m c) (hl : news.length = m)
    (hc : ∀ j u, (flat news)[j]? = some u → w.cell? (ad.add j) = some u) (hk : l.length + m ≤ 1000000) (hb : base ≤ w.heap.size)
    (hK : ∀ v' w', Notes w' base v' (l ++ news) → w.grownBy w' v.ownBlock → (v'.ownBlock = v.ownBlock ∨ v'.ownBlock = some w.heap.size) → wpList Try.prog ops Q rest (a.put o.dst v') w') :
    wpList Try.prog ops Q (o :: rest) a w := by
  refine wpList_plain hg fun K hK' => ?_
  obtain ⟨v', w', hrun, r1, r2, r3⟩ := run_append_notes w o.type base v l hown ad m c news hl hc hk hb
  unfold Oper.wp execOp
  simp only [hop, resolve, invoke, builtin, Sem.run_bind, Sem.run_pure, Result.andThen_ok, List.map_toArray, List.map_cons, List.map_nil, hs, hx, hrun]
  exact hK' _ _ (hK v' w' r1 r2 r3)
theorem wpListIn_append_notes {F : Fence} {n : Nat} {rest : List Oper}
    (hg : o.guard = none) (s x : Operand) (hop : o.op = Op.call { callee := Callee.builtin Builtin.append, args := #[s, x], argTypes := #[27, 27] })
    (base : Nat) (v : Value) (l : List Nt) (hs : a.eval s = v) (hown : Notes w base v l) (ad : Addr) (m c : Nat) (news : List Nt) (hx : a.eval x = .slice (some ad) m c) (hl : news.length = m)
    (hc : ∀ j u, (flat news)[j]? = some u → w.cell? (ad.add j) = some u) (hk : l.length + m ≤ 1000000) (hb : base ≤ w.heap.size)
    (hK : ∀ v' w', Notes w' base v' (l ++ news) → w.grownBy w' v.ownBlock → (v'.ownBlock = v.ownBlock ∨ v'.ownBlock = some w.heap.size) → wpListIn F n Try.prog ops Q rest (a.put o.dst v') w') :
    wpListIn F n Try.prog ops Q (o :: rest) a w := by
  refine wpListIn_plain hg fun K hK' => ?_
  obtain ⟨v', w', hrun, r1, r2, r3⟩ := run_append_notes w o.type base v l hown ad m c news hl hc hk hb
  unfold Oper.wpIn
  refine ⟨?_, ?_⟩
  · simp [Oper.about, hop, resolve, Target.leads, Sem.run_pure]
  · rw [Oper.semAt_plain F _ _ (by rw [hop]; intro c hc'; cases hc')]
    simp [execOp, hop, resolve, invoke, builtin, hs, hx, hrun, Result.andThen]
    exact hK' _ _ (hK v' w' r1 r2 r3)
end
theorem add0 (g j : Nat) : (⟨g, 0, none⟩ : Addr).add j = ⟨g, j, none⟩ := by unfold Addr.add; split <;> simp_all
/-- A note that was just laid in memory. -/
theorem cell_note (w : World) (n : Nt) (t : TypeId) : ∀ j u, (flat [n])[j]? = some u → (w.alloc (.cells #[.int .u32 (n.id.toNat : Int), .int .i64 n.to, .string n.s] t)).cell? ((⟨w.heap.size, 0, none⟩ : Addr).add j) = some u := by
  intro j u hu
  rw [add0, cell_of_row _ _ j _ t (0, 0) (World.alloc_heap_new w _)]
  simpa [flat, Nt.cells] using hu
end Go.Proofs.Ytialmaapahjchaa
