/-
  Lists of frames in memory; append to one.
-/
import Derived.Test.YtlbhfkiihikimaaLkMath
import Derived.Test.YtlbhfkiihikimaaCrcRefChange
import Derived.Maps.AppendAt
import Derived.Deep.RegionLaw
import Derived.OwnWalk
import Derived.Laws.OwnMore
import Derived.Laws.MakeOwn
namespace Go.Proofs.Ytlbhfkiihikimaa
open Go.RowKit Go.Shelf
attribute [local go_sem] Oper.semAt_some
set_option linter.unusedVariables false
set_option linter.unusedSimpArgs false

namespace Fr
def row (f : Fr) : List Value := f.cells.toList
theorem row_length (f : Fr) : f.row.length = 9 := rfl
end Fr
/-- The cells of a list of frames. -/
def flatF (l : List Fr) : List Value := l.flatMap Fr.row
theorem flatF_nil : flatF [] = [] := rfl
theorem flatF_cons (n : Fr) (l : List Fr) : flatF (n :: l) = n.row ++ flatF l := rfl
theorem flatF_append (a b : List Fr) : flatF (a ++ b) = flatF a ++ flatF b := List.flatMap_append
theorem flatF_length (l : List Fr) : (flatF l).length = l.length * 9 := by
  induction l with
  | nil => rfl
  | cons n l ih => rw [flatF_cons, List.length_append, ih, Fr.row_length, List.length_cons]; omega
theorem flatF_take (l : List Fr) (k : Nat) : (flatF l).take (k * 9) = flatF (l.take k) := by
  induction l generalizing k with
  | nil => simp [flatF]
  | cons n l ih =>
    cases k with
    | zero => simp [flatF]
    | succ k =>
      rw [List.take_succ_cons, flatF_cons, flatF_cons, ← ih k, show (k + 1) * 9 = n.row.length + k * 9 from by rw [Fr.row_length]; omega, List.take_length_add_append]
theorem flatF_drop (l : List Fr) (k : Nat) : (flatF l).drop (k * 9) = flatF (l.drop k) := by
  induction l generalizing k with
  | nil => simp [flatF]
  | cons n l ih =>
    cases k with
    | zero => simp [flatF]
    | succ k =>
      rw [List.drop_succ_cons, flatF_cons, ← ih k, show (k + 1) * 9 = n.row.length + k * 9 from by rw [Fr.row_length]; omega, List.drop_length_add_append]
theorem flatF_get (l : List Fr) (k i : Nat) (hi : i < 9) (hk : k < l.length) : (flatF l)[k * 9 + i]? = l[k].row[i]? := by
  rw [← List.getElem?_drop, flatF_drop, List.drop_eq_getElem_cons hk, flatF_cons, List.getElem?_append_left (by rw [Fr.row_length]; exact hi)]
theorem flatF_one (l : List Fr) : ∀ u ∈ flatF l, u.oneCell' = true := by
  intro u hu
  obtain ⟨n, _, hn⟩ := List.mem_flatMap.1 hu
  simp only [Fr.row, Fr.cells, List.mem_cons, List.not_mem_nil, or_false] at hn
  rcases hn with rfl | rfl | rfl | rfl | rfl | rfl | rfl | rfl | rfl <;> rfl
/-- Nine cells from p on hold a frame. -/
def HasFr (W : World) (g k : Nat) (f : Fr) : Prop := ∀ i u, f.row[i]? = some u → W.cell? ⟨g, k + i, none⟩ = some u

/-- All lies as it lay, but block B and block o. -/
structure Stays (B : Nat) (o : Option Nat) (w w' : World) : Prop where
  os : w'.os = w.os
  tape : w'.tape = w.tape
  output : w'.output = w.output
  size : w.heap.size ≤ w'.heap.size
  block : ∀ k, k < w.heap.size → k ≠ B → o ≠ some k → w'.heap[k]? = w.heap[k]?
namespace Stays
variable {B : Nat} {o : Option Nat} {w w' w'' : World}
theorem refl (B : Nat) (o : Option Nat) (w : World) : Stays B o w w := ⟨rfl, rfl, rfl, Nat.le_refl _, fun _ _ _ _ => rfl⟩
theorem of_below (h : Below w.heap.size w w') : Stays B o w w' := ⟨h.os, h.tape, h.output, h.size, fun k hk _ _ => h.block k hk⟩
theorem trans {o' : Option Nat} (h : Stays B o w w') (h' : Stays B o' w' w'') (ho : ∀ g, o' = some g → o = some g ∨ w.heap.size ≤ g) : Stays B o w w'' :=
  ⟨h'.os.trans h.os, h'.tape.trans h.tape, h'.output.trans h.output, Nat.le_trans h.size h'.size, fun k hk hB hn => by
    refine (h'.block k (Nat.lt_of_lt_of_le hk h.size) hB (fun e => ?_)).trans (h.block k hk hB hn)
    rcases ho k e with e' | e'
    · exact hn e'
    · omega⟩
theorem setCell (h : Stays B o w w') (p : Addr) (v : Value) (hp : p.block = B) : Stays B o w (w'.setCell p v) :=
  ⟨h.os, h.tape, h.output, by have := (KeepsWalks.setCell w' p v).size; have := h.size; omega, fun k hk hB hn =>
    (Below.heap_setCell w' p v k (fun e => hB (e.trans hp))).trans (h.block k hk hB hn)⟩
theorem setOwn (h : Stays B o w w') (p : Addr) (v : Value) (hp : o = some p.block) : Stays B o w (w'.setCell p v) :=
  ⟨h.os, h.tape, h.output, by have := (KeepsWalks.setCell w' p v).size; have := h.size; omega, fun k hk hB hn =>
    (Below.heap_setCell w' p v k (fun e => hn (hp.trans (by rw [e])))).trans (h.block k hk hB hn)⟩
theorem grown (h : Stays B o w w') (hg : w'.grownBy w'' o) : Stays B o w w'' :=
  ⟨hg.os.trans h.os, hg.tape.trans h.tape, hg.output.trans h.output, Nat.le_trans h.size hg.size, fun k hk hB hn =>
    (hg.block k (Nat.lt_of_lt_of_le hk h.size) (fun e => hn e.symm)).trans (h.block k hk hB hn)⟩
theorem below {n : Nat} (h : Stays B o w w') (hn : n ≤ w.heap.size) (hB : n ≤ B) (ho : ∀ g, o = some g → n ≤ g) : Below n w w' :=
  ⟨h.os, h.tape, h.output, h.size, fun k hk => h.block k (by omega) (by omega) (fun e => by have := ho k e; omega)⟩
end Stays
/-- A list of notes; its block may have room behind. -/
def Frames (w : World) (base : Nat) (v : Value) (l : List Fr) : Prop :=
  (v = .slice none 0 0 ∧ l = []) ∨ ∃ (g cap : Nat) (cur : Array Value), v = .slice (some ⟨g, 0, none⟩) l.length cap ∧ base ≤ g ∧ w.heap[g]? = some (.cells cur 24 (0, 0)) ∧ l.length ≤ cap ∧ cap ≤ maxLen ∧ cap * 9 ≤ cur.size ∧ cur.toList.take (l.length * 9) = flatF l
namespace Frames
variable {w w' : World} {base : Nat} {v : Value} {l : List Fr}
theorem nil (w : World) (base : Nat) : Frames w base (.slice none 0 0) [] := .inl ⟨rfl, rfl⟩
theorem form (h : Frames w base v l) : ∃ a c, v = .slice a l.length c ∧ l.length ≤ c := by
  rcases h with ⟨rfl, rfl⟩ | ⟨g, cap, cur, rfl, _, _, hc, _⟩
  · exact ⟨_, _, rfl, Nat.le_refl _⟩
  · exact ⟨_, _, rfl, hc⟩
theorem lt (h : Frames w base v l) : ∀ g, v.ownBlock = some g → base ≤ g ∧ g < w.heap.size := fun g hg => by
  rcases h with ⟨rfl, _⟩ | ⟨g', cap, cur, rfl, hb, hw, _⟩
  · cases hg
  · cases hg; exact ⟨hb, (Array.getElem?_eq_some_iff.1 hw).1⟩
theorem keep (h : Frames w base v l) (hb : ∀ g, v.ownBlock = some g → w'.heap[g]? = w.heap[g]?) : Frames w' base v l := by
  rcases h with h | ⟨g, cap, cur, rfl, hbg, hw, rest⟩
  · exact .inl h
  · exact .inr ⟨g, cap, cur, rfl, hbg, (hb g rfl).trans hw, rest⟩
theorem below (h : Frames w base v l) (hb : Below w.heap.size w w') : Frames w' base v l := h.keep fun g hg => hb.block g (h.lt g hg).2
theorem rebase (h : Frames w base v l) {b : Nat} (hb : ∀ g, v.ownBlock = some g → b ≤ g) : Frames w b v l := by
  rcases h with h | ⟨g, cap, cur, rfl, hbg, rest⟩
  · exact .inl h
  · exact .inr ⟨g, cap, cur, rfl, hb g rfl, rest⟩
theorem typed (h : Frames w base v l) : ∀ g, v.ownBlock = some g → ∃ cur, w.heap[g]? = some (.cells cur 24 (0, 0)) := fun g hg => by
  rcases h with ⟨rfl, _⟩ | ⟨g', cap, cur, rfl, hb, hw, _⟩
  · cases hg
  · cases hg; exact ⟨_, hw⟩
/-- With a note there is a block; its cells. -/
theorem get (h : Frames w base v l) (hl : 0 < l.length) : ∃ g c, v = .slice (some ⟨g, 0, none⟩) l.length c ∧ l.length ≤ c ∧ base ≤ g ∧ g < w.heap.size ∧ (∀ j, w.frozen? ⟨g, j, none⟩ = false) ∧
    (∀ j u, (flatF l)[j]? = some u → w.cell? ⟨g, j, none⟩ = some u) := by
  rcases h with ⟨rfl, rfl⟩ | ⟨g, cap, cur, rfl, hb, hw, hc, _, _, ht⟩
  · simp at hl
  · refine ⟨g, cap, rfl, hc, hb, (Array.getElem?_eq_some_iff.1 hw).1, fun j => by simp [World.frozen?, hw], fun j u hu => ?_⟩
    rw [← ht, List.getElem?_take] at hu
    split at hu
    · rw [cell_of_row w g j cur 24 (0, 0) hw]; simpa using hu
    · cases hu
theorem at' (h : Frames w base v l) (k : Nat) (hk : k < l.length) : ∃ g c, v = .slice (some ⟨g, 0, none⟩) l.length c ∧ l.length ≤ c ∧ base ≤ g ∧ g < w.heap.size ∧ (∀ j, w.frozen? ⟨g, j, none⟩ = false) ∧ HasFr w g (k * 9) l[k] := by
  obtain ⟨g, c, h1, h2, h3, h4, h5, h6⟩ := h.get (by omega)
  refine ⟨g, c, h1, h2, h3, h4, h5, fun i u hu => h6 _ _ ?_⟩
  have hi : i < 9 := by have := (List.getElem?_eq_some_iff.1 hu).1; rwa [Fr.row_length] at this
  rw [flatF_get l k i hi hk]; exact hu
/-- Its first frames, with no room behind them. -/
theorem front (h : Frames w base v l) (k : Nat) (hk : k < l.length) : ∃ g c, v = .slice (some ⟨g, 0, none⟩) l.length c ∧ Frames w base (.slice (some ⟨g, 0, none⟩) k k) (l.take k) := by
  rcases h with ⟨rfl, rfl⟩ | ⟨g, cap, cur, rfl, hb, hw, hc, hm, hs, ht⟩
  · simp at hk
  · have e : (l.take k).length = k := by rw [List.length_take]; omega
    refine ⟨g, cap, rfl, .inr ⟨g, k, cur, by rw [e], hb, hw, by rw [e]; omega, by omega, by omega, ?_⟩⟩
    rw [e, ← flatF_take, ← ht, List.take_take, Nat.min_eq_left (by omega)]
end Frames
theorem info_frame : (Try.prog.info? 24).map (fun i => (i.zero, i.size, i.bytes)) = some (some (.agg #[.int .i64 0, .int .i64 0, .int .i64 0, .int .i64 0, .int .u32 0, .int .u32 0, .int .u32 0, .int .u32 0, .string ⟨#[]⟩]), 9, 64) := by kernel_rfl
set_option maxHeartbeats 1000000 in
theorem run_append_frames (w : World) (ty : TypeId) (base : Nat) (v : Value) (l : List Fr) (h : Frames w base v l) (a : Addr) (m c : Nat) (news : List Fr) (hl : news.length = m) (hnews : ∀ j u, (flatF news)[j]? = some u → w.cell? (a.add j) = some u)
    (hk : l.length + m ≤ 1000000) (hbase : base ≤ w.heap.size) :
    ∃ v' w', (Builtin.append_ #[28, 28] ty #[v, .slice (some a) m c]).run Try.prog w = .ok v' w' ∧ Frames w' base v' (l ++ news) ∧ w.grownBy w' v.ownBlock ∧ (v'.ownBlock = v.ownBlock ∨ v'.ownBlock = some w.heap.size) := by
  obtain ⟨i, hi, hz, hsz, hby⟩ := info_parts info_frame
  have ht := Try.underlying28
  have hzs : (Value.agg #[.int .i64 0, .int .i64 0, .int .i64 0, .int .i64 0, .int .u32 0, .int .u32 0, .int .u32 0, .int .u32 0, .string ⟨#[]⟩]).cells.size = 9 := rfl
  have hln : (flatF news).length = m * i.size := by rw [flatF_length, hl, hsz]
  have hlen : (flatF (l ++ news)).length = (l.length + m) * 9 := by rw [flatF_length, List.length_append, hl]
  have grown : ∀ (old : Nat), old < l.length + m → ∀ (row : Option Nat),
      Frames (w.drew.alloc (.cells ((flatF l).toArray ++ (flatF news).toArray ++ Builtin.zeroCells (Value.agg #[.int .i64 0, .int .i64 0, .int .i64 0, .int .i64 0, .int .u32 0, .int .u32 0, .int .u32 0, .int .u32 0, .string ⟨#[]⟩]).cells (grownCap w (l.length + m) old 24 - (l.length + m))) 24)) base
        (.slice (some ⟨w.heap.size, 0, none⟩) (l.length + m) (grownCap w (l.length + m) old 24)) (l ++ news) ∧
      w.grownBy (w.drew.alloc (.cells ((flatF l).toArray ++ (flatF news).toArray ++ Builtin.zeroCells (Value.agg #[.int .i64 0, .int .i64 0, .int .i64 0, .int .i64 0, .int .u32 0, .int .u32 0, .int .u32 0, .int .u32 0, .string ⟨#[]⟩]).cells (grownCap w (l.length + m) old 24 - (l.length + m))) 24)) row := by
    intro old ho row
    have hge := grownCap_ge w (l.length + m) old 24
    have hcm : grownCap w (l.length + m) old 24 ≤ maxLen := grownCap_le_maxLen w (l.length + m) old 24 (by unfold maxLen; omega)
    refine ⟨.inr ⟨w.heap.size, _, _, by rw [List.length_append, hl], hbase, heap_alloc_new w.drew _, by rw [List.length_append, hl]; exact hge, hcm, ?_, ?_⟩, ⟨rfl, rfl, rfl, by simp, fun k hk _ => Below.heap_alloc w.drew _ k hk⟩⟩
    · simp only [Array.size_append, List.size_toArray, size_zeroCells, hzs, flatF_length, hl]
      omega
    · simp only [Array.toList_append, List.length_append]
      rw [← flatF_append, hl, ← hlen]
      exact List.take_left
  rcases h with ⟨rfl, rfl⟩ | ⟨g, cap, cur, rfl, hbg, hg, hnc, hcm, hcs, htake⟩
  · by_cases hm : m = 0
    · subst hm
      have hn : news = [] := List.eq_nil_of_length_eq_zero hl
      subst hn
      refine ⟨.slice none 0 0, w, ?_, Frames.nil _ _, ⟨rfl, rfl, rfl, Nat.le_refl _, fun _ _ _ => rfl⟩, .inl rfl⟩
      simp [Builtin.append_, run_underlying ht, sizeOf, typeInfo, hi, Builtin.lenOf, Builtin.firstCells, loadCells, loadCellsFrom]
    · have hr := run_append_nil (P := Try.prog) w 28 ty 24 i _ ht hi hz a m c (flatF news) hln hnews (by omega) (by simp at hk; omega) (by rw [hby]; simp at hk; omega)
      have hgr := grown 0 (by simp; omega) (Value.ownBlock (.slice none 0 0))
      simp only [List.length_nil, Nat.zero_add, List.nil_append, flatF_nil, Array.empty_append] at hgr ⊢
      exact ⟨_, _, hr, hgr.1, hgr.2, .inr rfl⟩
  · by_cases hroom : l.length + m ≤ cap
    · have hfit : l.length * i.size + (flatF news).length ≤ cur.size := by rw [flatF_length, hl, hsz]; omega
      have hr := run_append_room (P := Try.prog) w 28 ty 24 i ht hi g l.length cap cur hg a m c (flatF news) hln hnews (flatF_one news) hroom hfit
      refine ⟨_, _, hr, .inr ⟨g, cap, _, by rw [List.length_append, hl], hbg, setRow_heap w g cur _ _ _ hg, by rw [List.length_append, hl]; exact hroom, hcm, ?_, ?_⟩, ⟨rfl, rfl, rfl, by simp, fun k _ hk => setRow_other w g k _ (fun e => hk (by simp [Value.ownBlock, e]))⟩, .inl rfl⟩
      · simp only [List.size_toArray, List.length_append, List.length_take, List.length_drop, Array.length_toList]
        omega
      · rw [hsz, htake, ← flatF_append, List.length_append, hl, ← hlen]
        exact List.take_left
    · have holds : ∀ j u, (flatF l)[j]? = some u → w.cell? ((⟨g, 0, none⟩ : Addr).add j) = some u := by
        intro j u hu
        have hadd : (⟨g, 0, none⟩ : Addr).add j = ⟨g, j, none⟩ := by unfold Addr.add; split <;> simp_all
        rw [hadd, cell_of_row w g j cur _ (0, 0) hg]
        rw [← htake, List.getElem?_take] at hu
        split at hu
        · simpa using hu
        · cases hu
      have hr := run_append_grow (P := Try.prog) w 28 ty 24 i _ ht hi hz ⟨g, 0, none⟩ l.length cap (flatF l) (by rw [flatF_length, hsz]) holds a m c (flatF news) hln hnews (by omega) (by omega) (growslice_fits (by omega) (by rw [hby]; omega))
      have hgr := grown cap (by omega) (Value.ownBlock (.slice (some ⟨g, 0, none⟩) l.length cap))
      exact ⟨_, _, hr, hgr.1, hgr.2, .inr rfl⟩
/-- Frames that are appended: none, or those that lie from an address on. -/
def Given (w : World) (x : Value) (news : List Fr) : Prop := (x = .slice none 0 0 ∧ news = []) ∨ ∃ ad c, x = .slice (some ad) news.length c ∧ ∀ j u, (flatF news)[j]? = some u → w.cell? (ad.add j) = some u
theorem Frames.given {w : World} {base : Nat} {v : Value} {l : List Fr} (h : Frames w base v l) : Given w v l := by
  rcases h with h | ⟨g, cap, cur, rfl, hb, hw, hc, hm, hs, ht⟩
  · exact .inl h
  · refine .inr ⟨⟨g, 0, none⟩, cap, rfl, fun j u hu => ?_⟩
    have e : (⟨g, 0, none⟩ : Addr).add j = ⟨g, j, none⟩ := by unfold Addr.add; split <;> simp_all
    rw [e]
    rw [← ht, List.getElem?_take] at hu
    split at hu
    · rw [cell_of_row w g j cur 24 (0, 0) hw]; simpa using hu
    · cases hu
theorem Given.below {w w' : World} {x : Value} {l : List Fr} (h : Given w x l) (hb : Below w.heap.size w w') : Given w' x l := by
  rcases h with h | ⟨ad, c, rfl, hc⟩
  · exact .inl h
  · refine .inr ⟨ad, c, rfl, fun j u hu => ?_⟩
    have h1 := hc j u hu
    exact (hb.cell (p := ad.add j) (World.block_lt_of_cell? w _ h1)).trans h1
theorem run_append_given (w : World) (ty : TypeId) (base : Nat) (v : Value) (l : List Fr) (h : Frames w base v l) (x : Value) (news : List Fr) (hx : Given w x news)
    (hk : l.length + news.length ≤ 1000000) (hbase : base ≤ w.heap.size) :
    ∃ v' w', (Builtin.append_ #[28, 28] ty #[v, x]).run Try.prog w = .ok v' w' ∧ Frames w' base v' (l ++ news) ∧ w.grownBy w' v.ownBlock ∧ (v'.ownBlock = v.ownBlock ∨ v'.ownBlock = some w.heap.size) := by
  rcases hx with ⟨rfl, rfl⟩ | ⟨ad, c, rfl, hc⟩
  · obtain ⟨i, hi, hz, hsz, hby⟩ := info_parts info_frame
    refine ⟨v, w, ?_, by rw [List.append_nil]; exact h, ⟨rfl, rfl, rfl, Nat.le_refl _, fun _ _ _ => rfl⟩, .inl rfl⟩
    obtain ⟨a, cc, rfl, hlc⟩ := h.form
    cases a <;> simp [Builtin.append_, run_underlying Try.underlying28, sizeOf, typeInfo, hi, Builtin.lenOf, Builtin.firstCells, loadCells, loadCellsFrom, storeCells, hlc]
  · exact run_append_frames w ty base v l h ad news.length c news rfl hc hk hbase
section
variable {ops : Array Oper} {o : Oper} {a : Act} {w : World} {Q : Exit → Act → World → Prop}
theorem step_append_frames {K : Act → World → Prop} {E : Prop}
    (hg : o.guard = none) (s x : Operand) (hop : o.op = Op.call { callee := Callee.builtin Builtin.append, args := #[s, x], argTypes := #[28, 28] })
    (base : Nat) (v : Value) (l : List Fr) (hs : a.eval s = v) (hown : Frames w base v l) (X : Value) (hx : a.eval x = X) (news : List Fr) (hc : Given w X news) (hk : l.length + news.length ≤ 1000000) (hb : base ≤ w.heap.size)
    (hK : ∀ v' w', Frames w' base v' (l ++ news) → w.grownBy w' v.ownBlock → (v'.ownBlock = v.ownBlock ∨ v'.ownBlock = some w.heap.size) → K (a.put o.dst v') w') :
    if Region.wanted o (yielded ops a.tmps) = true then Oper.wp Try.prog o a w K Q else E := by
  have hw : Region.wanted o (yielded ops a.tmps) = true := by simp [Region.wanted, hg]
  rw [if_pos hw]
  obtain ⟨v', w', hrun, r1, r2, r3⟩ := run_append_given w o.type base v l hown X news hc hk hb
  unfold Oper.wp
  simp [execOp, hop, resolve, invoke, builtin, hs, hx, hrun, Result.andThen]
  exact hK v' w' r1 r2 r3
theorem wpList_append_frames {rest : List Oper}
    (hg : o.guard = none) (s x : Operand) (hop : o.op = Op.call { callee := Callee.builtin Builtin.append, args := #[s, x], argTypes := #[28, 28] })
    (base : Nat) (v : Value) (l : List Fr) (hs : a.eval s = v) (hown : Frames w base v l) (X : Value) (hx : a.eval x = X) (news : List Fr) (hc : Given w X news) (hk : l.length + news.length ≤ 1000000) (hb : base ≤ w.heap.size)
    (hK : ∀ v' w', Frames w' base v' (l ++ news) → w.grownBy w' v.ownBlock → (v'.ownBlock = v.ownBlock ∨ v'.ownBlock = some w.heap.size) → wpList Try.prog ops Q rest (a.put o.dst v') w') :
    wpList Try.prog ops Q (o :: rest) a w := by
  refine wpList_plain hg fun K hK' => ?_
  obtain ⟨v', w', hrun, r1, r2, r3⟩ := run_append_given w o.type base v l hown X news hc hk hb
  unfold Oper.wp execOp
  simp only [hop, resolve, invoke, builtin, Sem.run_bind, Sem.run_pure, Result.andThen_ok, List.map_toArray, List.map_cons, List.map_nil, hs, hx, hrun]
  exact hK' _ _ (hK v' w' r1 r2 r3)
theorem wpListIn_append_frames {F : Fence} {n : Nat} {rest : List Oper}
    (hg : o.guard = none) (s x : Operand) (hop : o.op = Op.call { callee := Callee.builtin Builtin.append, args := #[s, x], argTypes := #[28, 28] })
    (base : Nat) (v : Value) (l : List Fr) (hs : a.eval s = v) (hown : Frames w base v l) (X : Value) (hx : a.eval x = X) (news : List Fr) (hc : Given w X news) (hk : l.length + news.length ≤ 1000000) (hb : base ≤ w.heap.size)
    (hK : ∀ v' w', Frames w' base v' (l ++ news) → w.grownBy w' v.ownBlock → (v'.ownBlock = v.ownBlock ∨ v'.ownBlock = some w.heap.size) → wpListIn F n Try.prog ops Q rest (a.put o.dst v') w') :
    wpListIn F n Try.prog ops Q (o :: rest) a w := by
  refine wpListIn_plain hg fun K hK' => ?_
  obtain ⟨v', w', hrun, r1, r2, r3⟩ := run_append_given w o.type base v l hown X news hc hk hb
  unfold Oper.wpIn
  refine ⟨?_, ?_⟩
  · simp [Oper.about, hop, resolve, Target.leads, Sem.run_pure]
  · rw [Oper.semAt_plain F _ _ (by rw [hop]; intro c hc'; cases hc')]
    simp [execOp, hop, resolve, invoke, builtin, hs, hx, hrun, Result.andThen]
    exact hK' _ _ (hK v' w' r1 r2 r3)
end
theorem add0 (g j : Nat) : (⟨g, 0, none⟩ : Addr).add j = ⟨g, j, none⟩ := by unfold Addr.add; split <;> simp_all
/-- make([]api.Frame, 0, n). -/
theorem run_make_frames (w : World) (base n : Nat) (hn : n ≤ 1000000) (hb : base ≤ w.heap.size) :
    ∃ w', (Instr.makeSlice 28 (.int .i64 0) (.int .i64 (n : Int))).run Try.prog w = .ok (.slice (some ⟨w.heap.size, 0, none⟩) 0 n) w' ∧
      Frames w' base (.slice (some ⟨w.heap.size, 0, none⟩) 0 n) [] ∧ Below w.heap.size w w' := by
  obtain ⟨i, hi, hz, hsz, hby⟩ := info_parts info_frame
  have hr := run_make (P := Try.prog) w 28 24 i _ Try.underlying28 hi hz .i64 .i64 0 n (Int.le_refl _) (by omega) (by rw [hby]; omega) (by omega)
  simp only [Int.toNat_zero, Int.toNat_natCast] at hr
  refine ⟨_, hr, .inr ⟨w.heap.size, n, _, rfl, hb, World.alloc_heap_new w _, Nat.zero_le _, by unfold maxLen; omega, ?_, by simp [flatF]⟩, (Below.refl _ w).alloc (Nat.le_refl _) _⟩
  rw [size_madeCells, hsz]; exact Nat.le_refl _
/-- A frame that was just laid in memory. -/
theorem given_one (w : World) (n : Fr) (t : TypeId) (c : Nat) : Given (w.alloc (.cells n.cells t)) (.slice (some ⟨w.heap.size, 0, none⟩) 1 c) [n] := by
  refine .inr ⟨_, c, rfl, fun j u hu => ?_⟩
  rw [add0, cell_of_row _ _ j _ t (0, 0) (World.alloc_heap_new w _)]
  simpa [flatF, Fr.row] using hu
theorem given_at {w : World} {g : Nat} {n : Fr} {t : TypeId} (h : w.heap[g]? = some (.cells n.cells t (0, 0))) (c : Nat) : Given w (.slice (some ⟨g, 0, none⟩) 1 c) [n] := by
  refine .inr ⟨_, c, rfl, fun j u hu => ?_⟩
  rw [add0, cell_of_row _ _ j _ t (0, 0) h]
  simpa [flatF, Fr.row] using hu
theorem given_two (w : World) (X : Obj) (n : Fr) (t : TypeId) (c : Nat) : Given ((w.alloc X).alloc (.cells n.cells t)).drew (.slice (some ⟨w.heap.size + 1, 0, none⟩) 1 c) [n] := by
  refine given_at (t := t) ?_ c
  have := World.alloc_heap_new (w.alloc X) (.cells n.cells t)
  rwa [World.size_alloc] at this
theorem cell_frame (w : World) (n : Fr) (t : TypeId) : ∀ j u, (flatF [n])[j]? = some u → (w.alloc (.cells n.cells t)).cell? ((⟨w.heap.size, 0, none⟩ : Addr).add j) = some u := by
  intro j u hu
  rw [add0, cell_of_row _ _ j _ t (0, 0) (World.alloc_heap_new w _)]
  simpa [flatF, Fr.row] using hu
end Go.Proofs.Ytlbhfkiihikimaa
