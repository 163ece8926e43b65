/-
  Lists of texts in memory; append to one.
-/
import Derived.Test.YtlbhfkiihikimaaLkRows
import Derived.Test.YtlbhfkiihikimaaCrcRefChange
import Derived.Maps.AppendAt
import Derived.Deep.RegionLaw
import Derived.OwnWalk
import Derived.Laws.OwnMore
import Derived.Laws.MakeOwn
namespace Go.Proofs.Ytlbhfkiihikimaa
open Go.RowKit Go.Shelf
attribute [local go_sem] Oper.semAt_some
set_option linter.unusedVariables false
set_option linter.unusedSimpArgs false

def rowW (s : ByteArray) : List Value := [.string s]
theorem rowW_length (f : ByteArray) : (rowW f).length = 1 := rfl
/-- The cells of a list of frames. -/
def flatW (l : List ByteArray) : List Value := l.flatMap rowW
theorem flatW_nil : flatW [] = [] := rfl
theorem flatW_cons (n : ByteArray) (l : List ByteArray) : flatW (n :: l) = rowW n ++ flatW l := rfl
theorem flatW_append (a b : List ByteArray) : flatW (a ++ b) = flatW a ++ flatW b := List.flatMap_append
theorem flatW_length (l : List ByteArray) : (flatW l).length = l.length * 1 := by
  induction l with
  | nil => rfl
  | cons n l ih => rw [flatW_cons, List.length_append, ih, rowW_length, List.length_cons]; omega
theorem flatW_take (l : List ByteArray) (k : Nat) : (flatW l).take (k * 1) = flatW (l.take k) := by
  induction l generalizing k with
  | nil => simp [flatW]
  | cons n l ih =>
    cases k with
    | zero => simp [flatW]
    | succ k =>
      rw [List.take_succ_cons, flatW_cons, flatW_cons, ← ih k, show (k + 1) * 1 = (rowW n).length + k * 1 from by rw [rowW_length]; omega, List.take_length_add_append]
theorem flatW_drop (l : List ByteArray) (k : Nat) : (flatW l).drop (k * 1) = flatW (l.drop k) := by
  induction l generalizing k with
  | nil => simp [flatW]
  | cons n l ih =>
    cases k with
    | zero => simp [flatW]
    | succ k =>
      rw [List.drop_succ_cons, flatW_cons, ← ih k, show (k + 1) * 1 = (rowW n).length + k * 1 from by rw [rowW_length]; omega, List.drop_length_add_append]
theorem flatW_get (l : List ByteArray) (k i : Nat) (hi : i < 1) (hk : k < l.length) : (flatW l)[k * 1 + i]? = (rowW l[k])[i]? := by
  rw [← List.getElem?_drop, flatW_drop, List.drop_eq_getElem_cons hk, flatW_cons, List.getElem?_append_left (by rw [rowW_length]; exact hi)]
theorem flatW_one (l : List ByteArray) : ∀ u ∈ flatW l, u.oneCell' = true := by
  intro u hu
  obtain ⟨n, _, hn⟩ := List.mem_flatMap.1 hu
  simp only [rowW, List.mem_cons, List.not_mem_nil, or_false] at hn
  subst hn; rfl
/-- A list of notes; its block may have room behind. -/
def Words (w : World) (base : Nat) (v : Value) (l : List ByteArray) : Prop :=
  (v = .slice none 0 0 ∧ l = []) ∨ ∃ (g cap : Nat) (cur : Array Value), v = .slice (some ⟨g, 0, none⟩) l.length cap ∧ base ≤ g ∧ w.heap[g]? = some (.cells cur 9 (0, 0)) ∧ l.length ≤ cap ∧ cap ≤ maxLen ∧ cap * 1 ≤ cur.size ∧ cur.toList.take (l.length * 1) = flatW l
namespace Words
variable {w w' : World} {base : Nat} {v : Value} {l : List ByteArray}
theorem nil (w : World) (base : Nat) : Words w base (.slice none 0 0) [] := .inl ⟨rfl, rfl⟩
theorem form (h : Words w base v l) : ∃ a c, v = .slice a l.length c ∧ l.length ≤ c := by
  rcases h with ⟨rfl, rfl⟩ | ⟨g, cap, cur, rfl, _, _, hc, _⟩
  · exact ⟨_, _, rfl, Nat.le_refl _⟩
  · exact ⟨_, _, rfl, hc⟩
theorem lt (h : Words w base v l) : ∀ g, v.ownBlock = some g → base ≤ g ∧ g < w.heap.size := fun g hg => by
  rcases h with ⟨rfl, _⟩ | ⟨g', cap, cur, rfl, hb, hw, _⟩
  · cases hg
  · cases hg; exact ⟨hb, (Array.getElem?_eq_some_iff.1 hw).1⟩
theorem keep (h : Words w base v l) (hb : ∀ g, v.ownBlock = some g → w'.heap[g]? = w.heap[g]?) : Words w' base v l := by
  rcases h with h | ⟨g, cap, cur, rfl, hbg, hw, rest⟩
  · exact .inl h
  · exact .inr ⟨g, cap, cur, rfl, hbg, (hb g rfl).trans hw, rest⟩
theorem below (h : Words w base v l) (hb : Below w.heap.size w w') : Words w' base v l := h.keep fun g hg => hb.block g (h.lt g hg).2
theorem rebase (h : Words w base v l) {b : Nat} (hb : ∀ g, v.ownBlock = some g → b ≤ g) : Words w b v l := by
  rcases h with h | ⟨g, cap, cur, rfl, hbg, rest⟩
  · exact .inl h
  · exact .inr ⟨g, cap, cur, rfl, hb g rfl, rest⟩
theorem typed (h : Words w base v l) : ∀ g, v.ownBlock = some g → ∃ cur, w.heap[g]? = some (.cells cur 9 (0, 0)) := fun g hg => by
  rcases h with ⟨rfl, _⟩ | ⟨g', cap, cur, rfl, hb, hw, _⟩
  · cases hg
  · cases hg; exact ⟨_, hw⟩
/-- With a note there is a block; its cells. -/
theorem get (h : Words w base v l) (hl : 0 < l.length) : ∃ g c, v = .slice (some ⟨g, 0, none⟩) l.length c ∧ l.length ≤ c ∧ base ≤ g ∧ g < w.heap.size ∧ (∀ j, w.frozen? ⟨g, j, none⟩ = false) ∧
    (∀ j u, (flatW l)[j]? = some u → w.cell? ⟨g, j, none⟩ = some u) := by
  rcases h with ⟨rfl, rfl⟩ | ⟨g, cap, cur, rfl, hb, hw, hc, _, _, ht⟩
  · simp at hl
  · refine ⟨g, cap, rfl, hc, hb, (Array.getElem?_eq_some_iff.1 hw).1, fun j => by simp [World.frozen?, hw], fun j u hu => ?_⟩
    rw [← ht, List.getElem?_take] at hu
    split at hu
    · rw [cell_of_row w g j cur 9 (0, 0) hw]; simpa using hu
    · cases hu
theorem cell (h : Words w base v l) (k : Nat) (hk : k < l.length) : ∃ g c, v = .slice (some ⟨g, 0, none⟩) l.length c ∧ l.length ≤ c ∧ base ≤ g ∧ g < w.heap.size ∧ w.cell? ⟨g, k, none⟩ = some (.string l[k]) := by
  obtain ⟨g, c, h1, h2, h3, h4, h5, h6⟩ := h.get (by omega)
  exact ⟨g, c, h1, h2, h3, h4, h6 _ _ (by have := flatW_get l k 0 (by omega) hk; simpa [rowW] using this)⟩
/-- Its first frames, with no room behind them. -/
theorem front (h : Words w base v l) (k : Nat) (hk : k < l.length) : ∃ g c, v = .slice (some ⟨g, 0, none⟩) l.length c ∧ Words w base (.slice (some ⟨g, 0, none⟩) k k) (l.take k) := by
  rcases h with ⟨rfl, rfl⟩ | ⟨g, cap, cur, rfl, hb, hw, hc, hm, hs, ht⟩
  · simp at hk
  · have e : (l.take k).length = k := by rw [List.length_take]; omega
    refine ⟨g, cap, rfl, .inr ⟨g, k, cur, by rw [e], hb, hw, by rw [e]; omega, by omega, by omega, ?_⟩⟩
    rw [e, ← flatW_take, ← ht, List.take_take, Nat.min_eq_left (by omega)]
end Words
theorem info_word : (Try.prog.info? 9).map (fun i => (i.zero, i.size, i.bytes)) = some (some (.string ⟨#[]⟩), 1, 16) := by kernel_rfl
set_option maxHeartbeats 1000000 in
theorem run_append_words (w : World) (ty : TypeId) (base : Nat) (v : Value) (l : List ByteArray) (h : Words w base v l) (a : Addr) (m c : Nat) (news : List ByteArray) (hl : news.length = m) (hnews : ∀ j u, (flatW news)[j]? = some u → w.cell? (a.add j) = some u)
    (hk : l.length + m ≤ 1000000) (hbase : base ≤ w.heap.size) :
    ∃ v' w', (Builtin.append_ #[27, 27] ty #[v, .slice (some a) m c]).run Try.prog w = .ok v' w' ∧ Words w' base v' (l ++ news) ∧ w.grownBy w' v.ownBlock ∧ (v'.ownBlock = v.ownBlock ∨ v'.ownBlock = some w.heap.size) := by
  obtain ⟨i, hi, hz, hsz, hby⟩ := info_parts info_word
  have ht := Try.underlying27
  have hzs : (Value.string ⟨#[]⟩).cells.size = 1 := rfl
  have hln : (flatW news).length = m * i.size := by rw [flatW_length, hl, hsz]
  have hlen : (flatW (l ++ news)).length = (l.length + m) * 1 := by rw [flatW_length, List.length_append, hl]
  have grown : ∀ (old : Nat), old < l.length + m → ∀ (row : Option Nat),
      Words (w.drew.alloc (.cells ((flatW l).toArray ++ (flatW news).toArray ++ Builtin.zeroCells (Value.string ⟨#[]⟩).cells (grownCap w (l.length + m) old 9 - (l.length + m))) 9)) base
        (.slice (some ⟨w.heap.size, 0, none⟩) (l.length + m) (grownCap w (l.length + m) old 9)) (l ++ news) ∧
      w.grownBy (w.drew.alloc (.cells ((flatW l).toArray ++ (flatW news).toArray ++ Builtin.zeroCells (Value.string ⟨#[]⟩).cells (grownCap w (l.length + m) old 9 - (l.length + m))) 9)) row := by
    intro old ho row
    have hge := grownCap_ge w (l.length + m) old 9
    have hcm : grownCap w (l.length + m) old 9 ≤ maxLen := grownCap_le_maxLen w (l.length + m) old 9 (by unfold maxLen; omega)
    refine ⟨.inr ⟨w.heap.size, _, _, by rw [List.length_append, hl], hbase, heap_alloc_new w.drew _, by rw [List.length_append, hl]; exact hge, hcm, ?_, ?_⟩, ⟨rfl, rfl, rfl, by simp, fun k hk _ => Below.heap_alloc w.drew _ k hk⟩⟩
    · simp only [Array.size_append, List.size_toArray, size_zeroCells, hzs, flatW_length, hl]
      omega
    · simp only [Array.toList_append, List.length_append]
      rw [← flatW_append, hl, ← hlen]
      exact List.take_left
  rcases h with ⟨rfl, rfl⟩ | ⟨g, cap, cur, rfl, hbg, hg, hnc, hcm, hcs, htake⟩
  · by_cases hm : m = 0
    · subst hm
      have hn : news = [] := List.eq_nil_of_length_eq_zero hl
      subst hn
      refine ⟨.slice none 0 0, w, ?_, Words.nil _ _, ⟨rfl, rfl, rfl, Nat.le_refl _, fun _ _ _ => rfl⟩, .inl rfl⟩
      simp [Builtin.append_, run_underlying ht, sizeOf, typeInfo, hi, Builtin.lenOf, Builtin.firstCells, loadCells, loadCellsFrom]
    · have hr := run_append_nil (P := Try.prog) w 27 ty 9 i _ ht hi hz a m c (flatW news) hln hnews (by omega) (by simp at hk; omega) (by rw [hby]; simp at hk; omega)
      have hgr := grown 0 (by simp; omega) (Value.ownBlock (.slice none 0 0))
      simp only [List.length_nil, Nat.zero_add, List.nil_append, flatW_nil, Array.empty_append] at hgr ⊢
      exact ⟨_, _, hr, hgr.1, hgr.2, .inr rfl⟩
  · by_cases hroom : l.length + m ≤ cap
    · have hfit : l.length * i.size + (flatW news).length ≤ cur.size := by rw [flatW_length, hl, hsz]; omega
      have hr := run_append_room (P := Try.prog) w 27 ty 9 i ht hi g l.length cap cur hg a m c (flatW news) hln hnews (flatW_one news) hroom hfit
      refine ⟨_, _, hr, .inr ⟨g, cap, _, by rw [List.length_append, hl], hbg, setRow_heap w g cur _ _ _ hg, by rw [List.length_append, hl]; exact hroom, hcm, ?_, ?_⟩, ⟨rfl, rfl, rfl, by simp, fun k _ hk => setRow_other w g k _ (fun e => hk (by simp [Value.ownBlock, e]))⟩, .inl rfl⟩
      · simp only [List.size_toArray, List.length_append, List.length_take, List.length_drop, Array.length_toList]
        omega
      · rw [hsz, htake, ← flatW_append, List.length_append, hl, ← hlen]
        exact List.take_left
    · have holds : ∀ j u, (flatW l)[j]? = some u → w.cell? ((⟨g, 0, none⟩ : Addr).add j) = some u := by
        intro j u hu
        have hadd : (⟨g, 0, none⟩ : Addr).add j = ⟨g, j, none⟩ := by unfold Addr.add; split <;> simp_all
        rw [hadd, cell_of_row w g j cur _ (0, 0) hg]
        rw [← htake, List.getElem?_take] at hu
        split at hu
        · simpa using hu
        · cases hu
      have hr := run_append_grow (P := Try.prog) w 27 ty 9 i _ ht hi hz ⟨g, 0, none⟩ l.length cap (flatW l) (by rw [flatW_length, hsz]) holds a m c (flatW news) hln hnews (by omega) (by omega) (growslice_fits (by omega) (by rw [hby]; omega))
      have hgr := grown cap (by omega) (Value.ownBlock (.slice (some ⟨g, 0, none⟩) l.length cap))
      exact ⟨_, _, hr, hgr.1, hgr.2, .inr rfl⟩
/-- Words that are appended: none, or those that lie from an address on. -/
def GivenW (w : World) (x : Value) (news : List ByteArray) : Prop := (x = .slice none 0 0 ∧ news = []) ∨ ∃ ad c, x = .slice (some ad) news.length c ∧ ∀ j u, (flatW news)[j]? = some u → w.cell? (ad.add j) = some u
theorem Words.given {w : World} {base : Nat} {v : Value} {l : List ByteArray} (h : Words w base v l) : GivenW w v l := by
  rcases h with h | ⟨g, cap, cur, rfl, hb, hw, hc, hm, hs, ht⟩
  · exact .inl h
  · refine .inr ⟨⟨g, 0, none⟩, cap, rfl, fun j u hu => ?_⟩
    have e : (⟨g, 0, none⟩ : Addr).add j = ⟨g, j, none⟩ := by unfold Addr.add; split <;> simp_all
    rw [e]
    rw [← ht, List.getElem?_take] at hu
    split at hu
    · rw [cell_of_row w g j cur 9 (0, 0) hw]; simpa using hu
    · cases hu
theorem GivenW.below {w w' : World} {x : Value} {l : List ByteArray} (h : GivenW w x l) (hb : Below w.heap.size w w') : GivenW w' x l := by
  rcases h with h | ⟨ad, c, rfl, hc⟩
  · exact .inl h
  · refine .inr ⟨ad, c, rfl, fun j u hu => ?_⟩
    have h1 := hc j u hu
    exact (hb.cell (p := ad.add j) (World.block_lt_of_cell? w _ h1)).trans h1
theorem run_append_givenW (w : World) (ty : TypeId) (base : Nat) (v : Value) (l : List ByteArray) (h : Words w base v l) (x : Value) (news : List ByteArray) (hx : GivenW w x news)
    (hk : l.length + news.length ≤ 1000000) (hbase : base ≤ w.heap.size) :
    ∃ v' w', (Builtin.append_ #[27, 27] ty #[v, x]).run Try.prog w = .ok v' w' ∧ Words w' base v' (l ++ news) ∧ w.grownBy w' v.ownBlock ∧ (v'.ownBlock = v.ownBlock ∨ v'.ownBlock = some w.heap.size) := by
  rcases hx with ⟨rfl, rfl⟩ | ⟨ad, c, rfl, hc⟩
  · obtain ⟨i, hi, hz, hsz, hby⟩ := info_parts info_word
    refine ⟨v, w, ?_, by rw [List.append_nil]; exact h, ⟨rfl, rfl, rfl, Nat.le_refl _, fun _ _ _ => rfl⟩, .inl rfl⟩
    obtain ⟨a, cc, rfl, hlc⟩ := h.form
    cases a <;> simp [Builtin.append_, run_underlying Try.underlying27, sizeOf, typeInfo, hi, Builtin.lenOf, Builtin.firstCells, loadCells, loadCellsFrom, storeCells, hlc]
  · exact run_append_words w ty base v l h ad news.length c news rfl hc hk hbase
section
variable {ops : Array Oper} {o : Oper} {a : Act} {w : World} {Q : Exit → Act → World → Prop}
theorem step_append_words {K : Act → World → Prop} {E : Prop}
    (hg : o.guard = none) (s x : Operand) (hop : o.op = Op.call { callee := Callee.builtin Builtin.append, args := #[s, x], argTypes := #[27, 27] })
    (base : Nat) (v : Value) (l : List ByteArray) (hs : a.eval s = v) (hown : Words w base v l) (X : Value) (hx : a.eval x = X) (news : List ByteArray) (hc : GivenW w X news) (hk : l.length + news.length ≤ 1000000) (hb : base ≤ w.heap.size)
    (hK : ∀ v' w', Words w' base v' (l ++ news) → w.grownBy w' v.ownBlock → (v'.ownBlock = v.ownBlock ∨ v'.ownBlock = some w.heap.size) → K (a.put o.dst v') w') :
    if Region.wanted o (yielded ops a.tmps) = true then Oper.wp Try.prog o a w K Q else E := by
  have hw : Region.wanted o (yielded ops a.tmps) = true := by simp [Region.wanted, hg]
  rw [if_pos hw]
  obtain ⟨v', w', hrun, r1, r2, r3⟩ := run_append_givenW w o.type base v l hown X news hc hk hb
  unfold Oper.wp
  simp [execOp, hop, resolve, invoke, builtin, hs, hx, hrun, Result.andThen]
  exact hK v' w' r1 r2 r3
theorem wpList_append_words {rest : List Oper}
    (hg : o.guard = none) (s x : Operand) (hop : o.op = Op.call { callee := Callee.builtin Builtin.append, args := #[s, x], argTypes := #[27, 27] })
    (base : Nat) (v : Value) (l : List ByteArray) (hs : a.eval s = v) (hown : Words w base v l) (X : Value) (hx : a.eval x = X) (news : List ByteArray) (hc : GivenW w X news) (hk : l.length + news.length ≤ 1000000) (hb : base ≤ w.heap.size)
    (hK : ∀ v' w', Words w' base v' (l ++ news) → w.grownBy w' v.ownBlock → (v'.ownBlock = v.ownBlock ∨ v'.ownBlock = some w.heap.size) → wpList Try.prog ops Q rest (a.put o.dst v') w') :
    wpList Try.prog ops Q (o :: rest) a w := by
  refine wpList_plain hg fun K hK' => ?_
  obtain ⟨v', w', hrun, r1, r2, r3⟩ := run_append_givenW w o.type base v l hown X news hc hk hb
  unfold Oper.wp execOp
  simp only [hop, resolve, invoke, builtin, Sem.run_bind, Sem.run_pure, Result.andThen_ok, List.map_toArray, List.map_cons, List.map_nil, hs, hx, hrun]
  exact hK' _ _ (hK v' w' r1 r2 r3)
theorem wpListIn_append_words {F : Fence} {n : Nat} {rest : List Oper}
    (hg : o.guard = none) (s x : Operand) (hop : o.op = Op.call { callee := Callee.builtin Builtin.append, args := #[s, x], argTypes := #[27, 27] })
    (base : Nat) (v : Value) (l : List ByteArray) (hs : a.eval s = v) (hown : Words w base v l) (X : Value) (hx : a.eval x = X) (news : List ByteArray) (hc : GivenW w X news) (hk : l.length + news.length ≤ 1000000) (hb : base ≤ w.heap.size)
    (hK : ∀ v' w', Words w' base v' (l ++ news) → w.grownBy w' v.ownBlock → (v'.ownBlock = v.ownBlock ∨ v'.ownBlock = some w.heap.size) → wpListIn F n Try.prog ops Q rest (a.put o.dst v') w') :
    wpListIn F n Try.prog ops Q (o :: rest) a w := by
  refine wpListIn_plain hg fun K hK' => ?_
  obtain ⟨v', w', hrun, r1, r2, r3⟩ := run_append_givenW w o.type base v l hown X news hc hk hb
  unfold Oper.wpIn
  refine ⟨?_, ?_⟩
  · simp [Oper.about, hop, resolve, Target.leads, Sem.run_pure]
  · rw [Oper.semAt_plain F _ _ (by rw [hop]; intro c hc'; cases hc')]
    simp [execOp, hop, resolve, invoke, builtin, hs, hx, hrun, Result.andThen]
    exact hK' _ _ (hK v' w' r1 r2 r3)
end
/-- A frame that was just laid in memory. -/
theorem givenW_one (w : World) (n : ByteArray) (t : TypeId) (c : Nat) : GivenW (w.alloc (.cells #[.string n] t)) (.slice (some ⟨w.heap.size, 0, none⟩) 1 c) [n] := by
  refine .inr ⟨_, c, rfl, fun j u hu => ?_⟩
  rw [add0, cell_of_row _ _ j _ t (0, 0) (World.alloc_heap_new w _)]
  simpa [flatW, rowW] using hu
end Go.Proofs.Ytlbhfkiihikimaa
