/-
  Votes, as cells; lists of votes in memory; append to one.
-/
import Derived.Test.YtigameebcicgpaaDtBase
import Derived.Maps.AppendAt
import Derived.Deep.RegionLaw
import Derived.OwnWalk
import Derived.OwnWalkIn
import Derived.Laws.OwnMore
import Derived.Laws.MakeOwn
namespace Go.Proofs.Ytigameebcicgpaa
open Go.RowKit Go.Shelf
attribute [local go_sem] Oper.semAt_some
set_option linter.unusedVariables false
set_option linter.unusedSimpArgs false

/-- A vote: what was promised, in which ballot was voted last, for what. -/
structure Vt where
  prom : Nat
  bal : Nat
  val' : ByteArray
namespace Vt
def zero : Vt := ⟨0, 0, ⟨#[]⟩⟩
/-- Its cells. -/
def cells (n : Vt) : List Value := [.int .u64 (n.prom : Int), .int .u64 (n.bal : Int), .string n.val']
def val (n : Vt) : Value := .agg #[.int .u64 (n.prom : Int), .int .u64 (n.bal : Int), .string n.val']
theorem cells_length (n : Vt) : n.cells.length = 3 := rfl
end Vt
/-- The cells of a list of votes. -/
def flat (l : List Vt) : List Value := l.flatMap Vt.cells
theorem flat_nil : flat [] = [] := rfl
theorem flat_cons (n : Vt) (l : List Vt) : flat (n :: l) = n.cells ++ flat l := rfl
theorem flat_append (a b : List Vt) : flat (a ++ b) = flat a ++ flat b := List.flatMap_append
theorem flat_length (l : List Vt) : (flat l).length = l.length * 3 := by
  induction l with
  | nil => rfl
  | cons n l ih => rw [flat_cons, List.length_append, ih, Vt.cells_length, List.length_cons]; omega
theorem flat_take (l : List Vt) (k : Nat) : (flat l).take (k * 3) = flat (l.take k) := by
  induction l generalizing k with
  | nil => simp [flat]
  | cons n l ih =>
    cases k with
    | zero => simp [flat]
    | succ k =>
      rw [List.take_succ_cons, flat_cons, flat_cons, ← ih k, show (k + 1) * 3 = n.cells.length + k * 3 from by rw [Vt.cells_length]; omega, List.take_length_add_append]
theorem flat_drop (l : List Vt) (k : Nat) : (flat l).drop (k * 3) = flat (l.drop k) := by
  induction l generalizing k with
  | nil => simp [flat]
  | cons n l ih =>
    cases k with
    | zero => simp [flat]
    | succ k =>
      rw [List.drop_succ_cons, flat_cons, ← ih k, show (k + 1) * 3 = n.cells.length + k * 3 from by rw [Vt.cells_length]; omega, List.drop_length_add_append]
theorem flat_get (l : List Vt) (k i : Nat) (hi : i < 3) (hk : k < l.length) : (flat l)[k * 3 + i]? = l[k].cells[i]? := by
  rw [← List.getElem?_drop, flat_drop, List.drop_eq_getElem_cons hk, flat_cons, List.getElem?_append_left (by rw [Vt.cells_length]; exact hi)]
theorem flat_one (l : List Vt) : ∀ u ∈ flat l, u.oneCell' = true := by
  intro u hu
  obtain ⟨n, _, hn⟩ := List.mem_flatMap.1 hu
  simp only [Vt.cells, List.mem_cons, List.not_mem_nil, or_false] at hn
  rcases hn with rfl | rfl | rfl <;> rfl
theorem flat_set (l : List Vt) (k : Nat) (n : Vt) (hk : k < l.length) : flat (l.set k n) = (((flat l).set (k * 3) (.int .u64 (n.prom : Int))).set (k * 3 + 1) (.int .u64 (n.bal : Int))).set (k * 3 + 2) (.string n.val') := by
  induction l generalizing k with
  | nil => simp at hk
  | cons m l ih =>
    cases k with
    | zero => simp [flat_cons, Vt.cells]
    | succ k =>
      rw [List.set_cons_succ, flat_cons, flat_cons, ih k (by simpa using hk)]
      have e : (k + 1) * 3 = k * 3 + 3 := by omega
      rw [e]
      simp [Vt.cells]
/-- A list of notes; its block may have room behind. -/
def Votes (w : World) (base : Nat) (v : Value) (l : List Vt) : Prop :=
  (v = .slice none 0 0 ∧ l = []) ∨ ∃ (g cap : Nat) (cur : Array Value), v = .slice (some ⟨g, 0, none⟩) l.length cap ∧ base ≤ g ∧ w.heap[g]? = some (.cells cur 24 (0, 0)) ∧ l.length ≤ cap ∧ cap ≤ maxLen ∧ cap * 3 ≤ cur.size ∧ cur.toList.take (l.length * 3) = flat l
namespace Votes
variable {w w' : World} {base : Nat} {v : Value} {l : List Vt}
theorem nil (w : World) (base : Nat) : Votes w base (.slice none 0 0) [] := .inl ⟨rfl, rfl⟩
theorem form (h : Votes w base v l) : ∃ a c, v = .slice a l.length c ∧ l.length ≤ c := by
  rcases h with ⟨rfl, rfl⟩ | ⟨g, cap, cur, rfl, _, _, hc, _⟩
  · exact ⟨_, _, rfl, Nat.le_refl _⟩
  · exact ⟨_, _, rfl, hc⟩
theorem lt (h : Votes w base v l) : ∀ g, v.ownBlock = some g → base ≤ g ∧ g < w.heap.size := fun g hg => by
  rcases h with ⟨rfl, _⟩ | ⟨g', cap, cur, rfl, hb, hw, _⟩
  · cases hg
  · cases hg; exact ⟨hb, (Array.getElem?_eq_some_iff.1 hw).1⟩
theorem keep (h : Votes w base v l) (hb : ∀ g, v.ownBlock = some g → w'.heap[g]? = w.heap[g]?) : Votes w' base v l := by
  rcases h with h | ⟨g, cap, cur, rfl, hbg, hw, rest⟩
  · exact .inl h
  · exact .inr ⟨g, cap, cur, rfl, hbg, (hb g rfl).trans hw, rest⟩
theorem below (h : Votes w base v l) (hb : Below w.heap.size w w') : Votes w' base v l := h.keep fun g hg => hb.block g (h.lt g hg).2
theorem rebase (h : Votes w base v l) {b : Nat} (hb : ∀ g, v.ownBlock = some g → b ≤ g) : Votes w b v l := by
  rcases h with h | ⟨g, cap, cur, rfl, hbg, rest⟩
  · exact .inl h
  · exact .inr ⟨g, cap, cur, rfl, hb g rfl, rest⟩
theorem typed (h : Votes w base v l) : ∀ g, v.ownBlock = some g → ∃ cur, w.heap[g]? = some (.cells cur 24 (0, 0)) := fun g hg => by
  rcases h with ⟨rfl, _⟩ | ⟨g', cap, cur, rfl, hb, hw, _⟩
  · cases hg
  · cases hg; exact ⟨_, hw⟩
/-- With a note there is a block; its cells. -/
theorem get (h : Votes w base v l) (hl : 0 < l.length) : ∃ g c, v = .slice (some ⟨g, 0, none⟩) l.length c ∧ l.length ≤ c ∧ base ≤ g ∧ g < w.heap.size ∧ (∀ j, w.frozen? ⟨g, j, none⟩ = false) ∧
    (∀ j u, (flat l)[j]? = some u → w.cell? ⟨g, j, none⟩ = some u) := by
  rcases h with ⟨rfl, rfl⟩ | ⟨g, cap, cur, rfl, hb, hw, hc, _, _, ht⟩
  · simp at hl
  · refine ⟨g, cap, rfl, hc, hb, (Array.getElem?_eq_some_iff.1 hw).1, fun j => by simp [World.frozen?, hw], fun j u hu => ?_⟩
    rw [← ht, List.getElem?_take] at hu
    split at hu
    · rw [cell_of_row w g j cur 24 (0, 0) hw]; simpa using hu
    · cases hu
theorem cell (h : Votes w base v l) (k : Nat) (hk : k < l.length) : ∃ g c, v = .slice (some ⟨g, 0, none⟩) l.length c ∧ l.length ≤ c ∧ base ≤ g ∧ g < w.heap.size ∧ (∀ j, w.frozen? ⟨g, j, none⟩ = false) ∧
    w.cell? ⟨g, k * 3, none⟩ = some (.int .u64 (l[k].prom : Int)) ∧ w.cell? ⟨g, k * 3 + 1, none⟩ = some (.int .u64 (l[k].bal : Int)) ∧ w.cell? ⟨g, k * 3 + 2, none⟩ = some (.string l[k].val') := by
  obtain ⟨g, c, h1, h2, h3, h4, h5, h6⟩ := h.get (by omega)
  exact ⟨g, c, h1, h2, h3, h4, h5, h6 _ _ (flat_get l k 0 (by omega) hk), h6 _ _ (flat_get l k 1 (by omega) hk), h6 _ _ (flat_get l k 2 (by omega) hk)⟩
/-- Its first notes, with no room behind them. -/
theorem front (h : Votes w base v l) (k : Nat) (hk : k < l.length) : ∃ g c, v = .slice (some ⟨g, 0, none⟩) l.length c ∧ Votes w base (.slice (some ⟨g, 0, none⟩) k k) (l.take k) := by
  rcases h with ⟨rfl, rfl⟩ | ⟨g, cap, cur, rfl, hb, hw, hc, hm, hs, ht⟩
  · simp at hk
  · have e : (l.take k).length = k := by rw [List.length_take]; omega
    refine ⟨g, cap, rfl, .inr ⟨g, k, cur, by rw [e], hb, hw, by rw [e]; omega, by omega, by omega, ?_⟩⟩
    rw [e, ← flat_take, ← ht, List.take_take, Nat.min_eq_left (by omega)]
/-- A note written anew. -/
theorem set (h : Votes w base v l) (k : Nat) (hk : k < l.length) (n : Vt) {g n' c : Nat} (hv : v = .slice (some ⟨g, 0, none⟩) n' c) :
    Votes (((w.setCell ⟨g, k * 3, none⟩ (.int .u64 (n.prom : Int))).setCell ⟨g, k * 3 + 1, none⟩ (.int .u64 (n.bal : Int))).setCell ⟨g, k * 3 + 2, none⟩ (.string n.val')) base v (l.set k n) := by
  rcases h with ⟨rfl, rfl⟩ | ⟨g', cap, cur, rfl, hb, hw, hc, hm, hs, ht⟩
  · simp at hk
  · simp only [Value.slice.injEq, Option.some.injEq, Addr.mk.injEq, and_true] at hv
    obtain ⟨rfl, _, _⟩ := hv
    refine .inr ⟨g', cap, ((cur.setIfInBounds (k * 3) (.int .u64 (n.prom : Int))).setIfInBounds (k * 3 + 1) (.int .u64 (n.bal : Int))).setIfInBounds (k * 3 + 2) (.string n.val'), by rw [List.length_set], hb, ?_, by rw [List.length_set]; exact hc, hm, by simpa using hs, ?_⟩
    · simp [World.setCell, Array.getElem?_modify, hw]
    · rw [List.length_set, flat_set l k n hk, ← ht]
      simp [List.take_set]
end Votes
theorem info_vote : (Try.prog.info? 24).map (fun i => (i.zero, i.size, i.bytes)) = some (some (.agg #[.int .u64 0, .int .u64 0, .string ⟨#[]⟩]), 3, 32) := by kernel_rfl
set_option maxHeartbeats 1000000 in
theorem run_append_votes (w : World) (ty : TypeId) (base : Nat) (v : Value) (l : List Vt) (h : Votes w base v l) (a : Addr) (m c : Nat) (news : List Vt) (hl : news.length = m) (hnews : ∀ j u, (flat news)[j]? = some u → w.cell? (a.add j) = some u)
    (hk : l.length + m ≤ 1000000) (hbase : base ≤ w.heap.size) :
    ∃ v' w', (Builtin.append_ #[33, 33] ty #[v, .slice (some a) m c]).run Try.prog w = .ok v' w' ∧ Votes w' base v' (l ++ news) ∧ w.grownBy w' v.ownBlock ∧ (v'.ownBlock = v.ownBlock ∨ v'.ownBlock = some w.heap.size) := by
  obtain ⟨i, hi, hz, hsz, hby⟩ := info_parts info_vote
  have ht := Try.underlying33
  have hzs : (Value.agg #[.int .u64 0, .int .u64 0, .string ⟨#[]⟩]).cells.size = 3 := rfl
  have hln : (flat news).length = m * i.size := by rw [flat_length, hl, hsz]
  have hlen : (flat (l ++ news)).length = (l.length + m) * 3 := by rw [flat_length, List.length_append, hl]
  have grown : ∀ (old : Nat), old < l.length + m → ∀ (row : Option Nat),
      Votes (w.drew.alloc (.cells ((flat l).toArray ++ (flat news).toArray ++ Builtin.zeroCells (Value.agg #[.int .u64 0, .int .u64 0, .string ⟨#[]⟩]).cells (grownCap w (l.length + m) old 24 - (l.length + m))) 24)) base
        (.slice (some ⟨w.heap.size, 0, none⟩) (l.length + m) (grownCap w (l.length + m) old 24)) (l ++ news) ∧
      w.grownBy (w.drew.alloc (.cells ((flat l).toArray ++ (flat news).toArray ++ Builtin.zeroCells (Value.agg #[.int .u64 0, .int .u64 0, .string ⟨#[]⟩]).cells (grownCap w (l.length + m) old 24 - (l.length + m))) 24)) row := by
    intro old ho row
    have hge := grownCap_ge w (l.length + m) old 24
    have hcm : grownCap w (l.length + m) old 24 ≤ maxLen := grownCap_le_maxLen w (l.length + m) old 24 (by unfold maxLen; omega)
    refine ⟨.inr ⟨w.heap.size, _, _, by rw [List.length_append, hl], hbase, heap_alloc_new w.drew _, by rw [List.length_append, hl]; exact hge, hcm, ?_, ?_⟩, ⟨rfl, rfl, rfl, by simp, fun k hk _ => Below.heap_alloc w.drew _ k hk⟩⟩
    · simp only [Array.size_append, List.size_toArray, size_zeroCells, hzs, flat_length, hl]
      omega
    · simp only [Array.toList_append, List.length_append]
      rw [← flat_append, hl, ← hlen]
      exact List.take_left
  rcases h with ⟨rfl, rfl⟩ | ⟨g, cap, cur, rfl, hbg, hg, hnc, hcm, hcs, htake⟩
  · by_cases hm : m = 0
    · subst hm
      have hn : news = [] := List.eq_nil_of_length_eq_zero hl
      subst hn
      refine ⟨.slice none 0 0, w, ?_, Votes.nil _ _, ⟨rfl, rfl, rfl, Nat.le_refl _, fun _ _ _ => rfl⟩, .inl rfl⟩
      simp [Builtin.append_, run_underlying ht, sizeOf, typeInfo, hi, Builtin.lenOf, Builtin.firstCells, loadCells, loadCellsFrom]
    · have hr := run_append_nil (P := Try.prog) w 33 ty 24 i _ ht hi hz a m c (flat news) hln hnews (by omega) (by simp at hk; omega) (by rw [hby]; simp at hk; omega)
      have hgr := grown 0 (by simp; omega) (Value.ownBlock (.slice none 0 0))
      simp only [List.length_nil, Nat.zero_add, List.nil_append, flat_nil, Array.empty_append] at hgr ⊢
      exact ⟨_, _, hr, hgr.1, hgr.2, .inr rfl⟩
  · by_cases hroom : l.length + m ≤ cap
    · have hfit : l.length * i.size + (flat news).length ≤ cur.size := by rw [flat_length, hl, hsz]; omega
      have hr := run_append_room (P := Try.prog) w 33 ty 24 i ht hi g l.length cap cur hg a m c (flat news) hln hnews (flat_one news) hroom hfit
      refine ⟨_, _, hr, .inr ⟨g, cap, _, by rw [List.length_append, hl], hbg, setRow_heap w g cur _ _ _ hg, by rw [List.length_append, hl]; exact hroom, hcm, ?_, ?_⟩, ⟨rfl, rfl, rfl, by simp, fun k _ hk => setRow_other w g k _ (fun e => hk (by simp [Value.ownBlock, e]))⟩, .inl rfl⟩
      · simp only [List.size_toArray, List.length_append, List.length_take, List.length_drop, Array.length_toList]
        omega
      · rw [hsz, htake, ← flat_append, List.length_append, hl, ← hlen]
        exact List.take_left
    · have holds : ∀ j u, (flat l)[j]? = some u → w.cell? ((⟨g, 0, none⟩ : Addr).add j) = some u := by
        intro j u hu
        have hadd : (⟨g, 0, none⟩ : Addr).add j = ⟨g, j, none⟩ := by unfold Addr.add; split <;> simp_all
        rw [hadd, cell_of_row w g j cur _ (0, 0) hg]
        rw [← htake, List.getElem?_take] at hu
        split at hu
        · simpa using hu
        · cases hu
      have hr := run_append_grow (P := Try.prog) w 33 ty 24 i _ ht hi hz ⟨g, 0, none⟩ l.length cap (flat l) (by rw [flat_length, hsz]) holds a m c (flat news) hln hnews (by omega) (by omega) (growslice_fits (by omega) (by rw [hby]; omega))
      have hgr := grown cap (by omega) (Value.ownBlock (.slice (some ⟨g, 0, none⟩) l.length cap))
      exact ⟨_, _, hr, hgr.1, hgr.2, .inr rfl⟩
section
variable {ops : Array Oper} {o : Oper} {a : Act} {w : World} {Q : Exit → Act → World → Prop}
theorem step_append_votes {K : Act → World → Prop} {E : Prop}
    (hg : o.guard = none) (s x : Operand) (hop : o.op = Op.call { callee := Callee.builtin Builtin.append, args := #[s, x], argTypes := #[33, 33] })
    (base : Nat) (v : Value) (l : List Vt) (hs : a.eval s = v) (hown : Votes w base v l) (ad : Addr) (m c : Nat) (news : List Vt) (hx : a.eval x = .slice (some ad) m c) (hl : news.length = m)
    (hc : ∀ j u, (flat news)[j]? = some u → w.cell? (ad.add j) = some u) (hk : l.length + m ≤ 1000000) (hb : base ≤ w.heap.size)
    (hK : ∀ v' w', Votes w' base v' (l ++ news) → w.grownBy w' v.ownBlock → (v'.ownBlock = v.ownBlock ∨ v'.ownBlock = some w.heap.size) → K (a.put o.dst v') w') :
    if Region.wanted o (yielded ops a.tmps) = true then Oper.wp Try.prog o a w K Q else E := by
  have hw : Region.wanted o (yielded ops a.tmps) = true := by simp [Region.wanted, hg]
  rw [if_pos hw]
  obtain ⟨v', w', hrun, r1, r2, r3⟩ := run_append_votes w o.type base v l hown ad m c news hl hc hk hb
  unfold Oper.wp
  simp [execOp, hop, resolve, invoke, builtin, hs, hx, hrun, Result.andThen]
  exact hK v' w' r1 r2 r3
theorem wpList_append_votes {rest : List Oper}
    (hg : o.guard = none) (s x : Operand) (hop : o.op = Op.call { callee := Callee.builtin Builtin.append, args := #[s, x], argTypes := #[33, 33] })
    (base : Nat) (v : Value) (l : List Vt) (hs : a.eval s = v) (hown : Votes w base v l) (ad : Addr) (m c : Nat) (news : List Vt) (hx : a.eval x = .slice (some ad) m c) (hl : news.length = m)
    (hc : ∀ j u, (flat news)[j]? = some u → w.cell? (ad.add j) = some u) (hk : l.length + m ≤ 1000000) (hb : base ≤ w.heap.size)
    (hK : ∀ v' w', Votes w' base v' (l ++ news) → w.grownBy w' v.ownBlock → (v'.ownBlock = v.ownBlock ∨ v'.ownBlock = some w.heap.size) → wpList Try.prog ops Q rest (a.put o.dst v') w') :
    wpList Try.prog ops Q (o :: rest) a w := by
  refine wpList_plain hg fun K hK' => ?_
  obtain ⟨v', w', hrun, r1, r2, r3⟩ := run_append_votes w o.type base v l hown ad m c news hl hc hk hb
  unfold Oper.wp execOp
  simp only [hop, resolve, invoke, builtin, Sem.run_bind, Sem.run_pure, Result.andThen_ok, List.map_toArray, List.map_cons, List.map_nil, hs, hx, hrun]
  exact hK' _ _ (hK v' w' r1 r2 r3)
theorem wpListIn_append_votes {F : Fence} {n : Nat} {rest : List Oper}
    (hg : o.guard = none) (s x : Operand) (hop : o.op = Op.call { callee := Callee.builtin Builtin.append, args := #[s, x], argTypes := #[33, 33] })
    (base : Nat) (v : Value) (l : List Vt) (hs : a.eval s = v) (hown : Votes w base v l) (ad : Addr) (m c : Nat) (news : List Vt) (hx : a.eval x = .slice (some ad) m c) (hl : news.length = m)
    (hc : ∀ j u, (flat news)[j]? = some u → w.cell? (ad.add j) = some u) (hk : l.length + m ≤ 1000000) (hb : base ≤ w.heap.size)
    (hK : ∀ v' w', Votes w' base v' (l ++ news) → w.grownBy w' v.ownBlock → (v'.ownBlock = v.ownBlock ∨ v'.ownBlock = some w.heap.size) → wpListIn F n Try.prog ops Q rest (a.put o.dst v') w') :
    wpListIn F n Try.prog ops Q (o :: rest) a w := by
  refine wpListIn_plain hg fun K hK' => ?_
  obtain ⟨v', w', hrun, r1, r2, r3⟩ := run_append_votes w o.type base v l hown ad m c news hl hc hk hb
  unfold Oper.wpIn
  refine ⟨?_, ?_⟩
  · simp [Oper.about, hop, resolve, Target.leads, Sem.run_pure]
  · rw [Oper.semAt_plain F _ _ (by rw [hop]; intro c hc'; cases hc')]
    simp [execOp, hop, resolve, invoke, builtin, hs, hx, hrun, Result.andThen]
    exact hK' _ _ (hK v' w' r1 r2 r3)
end
theorem add0 (g j : Nat) : (⟨g, 0, none⟩ : Addr).add j = ⟨g, j, none⟩ := by unfold Addr.add; split <;> simp_all
/-- A note that was just laid in memory. -/
theorem cell_vote (w : World) (n : Vt) (t : TypeId) : ∀ j u, (flat [n])[j]? = some u → (w.alloc (.cells #[.int .u64 (n.prom : Int), .int .u64 (n.bal : Int), .string n.val'] t)).cell? ((⟨w.heap.size, 0, none⟩ : Addr).add j) = some u := by
  intro j u hu
  rw [add0, cell_of_row _ _ j _ t (0, 0) (World.alloc_heap_new w _)]
  simpa [flat, Vt.cells] using hu
end Go.Proofs.Ytigameebcicgpaa
