/-
  strings.Builder's Write; journal.joined, Record, told: walked.
-/
import Derived.Test.YtfbponiiejanfaaJMath
import Derived.Deep.RegionHeld3
import Derived.Lib.FrozenHead2
import Derived.Laws.OwnMore
namespace Go.Proofs.Ytfbponiiejanfaa
open Go.RowKit Go.Shelf
attribute [local go_sem] Oper.semAt_some
set_option linter.unusedVariables false
set_option linter.unusedSimpArgs false

abbrev byteV (b : UInt8) : Value := .int .u8 (b.toNat : Int)
theorem byteV_one (l : List UInt8) : ∀ u ∈ l.map byteV, u.oneCell' = true := by
  intro u hu
  obtain ⟨x, _, rfl⟩ := List.mem_map.1 hu
  rfl
theorem run_append_nilF {w W : World} {B : Nat} {v : Value} {n : Nat} {xs : List Value} (hown : w.ownsRowF B 5 1 v n xs) (i : TypeInfo) (hi : Try.prog.info? 5 = some i) {ty : TypeId} :
    (Builtin.append_ #[52, 52] ty #[v, .slice none 0 0]).run Try.prog W = .ok v W := by
  rcases hown.2 with ⟨rfl, rfl⟩ | ⟨g, cap, cur, fz, rfl, hbg, hg, hfz, hnc, hcm, hcs, htake⟩
  · simp [Builtin.append_, run_underlying Try.underlying52, sizeOf, typeInfo, hi, Builtin.lenOf, Builtin.firstCells]
  · simp [Builtin.append_, run_underlying Try.underlying52, sizeOf, typeInfo, hi, Builtin.lenOf, Builtin.firstCells, hnc, storeCells]
theorem wpList_append_nilF (w : World) {ops : Array Oper} {rest : List Oper} {o : Oper} {a : Act} {Q : Exit → Act → World → Prop} (hgd : o.guard = none) (s x : Operand)
    (ho : o.op = .call { callee := .builtin .append, args := #[s, x], argTypes := #[52, 52] }) {w0 : World} {B : Nat} {v : Value} {n : Nat} {xs : List Value} (hown : w0.ownsRowF B 5 1 v n xs) (i : TypeInfo) (hi : Try.prog.info? 5 = some i)
    (hs : a.eval s = v) (hx : a.eval x = .slice none 0 0) (h : wpList Try.prog ops Q rest (a.put o.dst v) w) : wpList Try.prog ops Q (o :: rest) a w := by
  refine wpList_plain hgd fun K hK => ?_
  have hr := run_append_nilF (w := w0) (W := w) (ty := o.type) hown i hi
  unfold Oper.wp execOp
  simp only [ho, resolve, invoke, builtin, Sem.run_bind, Sem.run_pure, Result.andThen_ok, List.map_toArray, List.map_cons, List.map_nil, hs, hx, hr]
  exact hK _ _ h
set_option maxRecDepth 100000 in
set_option maxHeartbeats 2000000 in
theorem builderWriteNil (B b : Nat) (bs : List Value) (w : World) (h : Lib.IsBuilderF 76 5 B b bs w) (hBw : B ≤ w.heap.size) :
    Calls Try.prog 41 #[.pointer (some ⟨b, 0, none⟩), .slice none 0 0] w fun e w' => e = .returned (.tuple #[.int .i64 0, .nilIface]) ∧
      (Lib.BuilderAtF 76 5 B b (.pointer (some ⟨b, 0, none⟩)) bs w' ∧ Below B w w') := by
  obtain ⟨i0, hi, hz0, hz1, hz2⟩ := info_parts infoByte
  go_enter Try.func41, Try.ntmps41
  go_wp2_with (go_at_call 47; refine (builderCheck B b bs _ h).mono ?_)
  rintro e w1 ⟨rfl, h1, hb1, hk1⟩
  obtain ⟨hB, v, hbk, hown, hne⟩ := h1
  have c0 : w1.cell? ⟨b, 0, none⟩ = some (.pointer (some ⟨b, 0, none⟩)) := by rw [Lib.cell_of_heap hbk]; rfl
  have c1 : w1.cell? ⟨b, 1, none⟩ = some v := by rw [Lib.cell_of_heap hbk]; rfl
  have f1 : w1.frozen? ⟨b, 1, none⟩ = false := Lib.frozen_of_heap hbk 1
  obtain ⟨ao, n', cap, rfl⟩ : ∃ ao n' cap, v = .slice ao n' cap := by
    rcases hown.2 with ⟨hv, _⟩ | ⟨g, cap, cur, fz, hv, _⟩
    · exact ⟨_, _, _, hv⟩
    · exact ⟨_, _, _, hv⟩
  go_wp2_with (at_builtin; refine wpList_append_nilF _ rfl _ _ rfl hown i0 hi rfl rfl ?_)
  go_ret2
  have hs : w1.setCell ⟨b, 1, none⟩ (.slice ao n' cap) = w1.setCell ⟨b, 1, none⟩ (.slice ao n' cap) := rfl
  refine ⟨rfl, Lib.BuilderAtF.put (T := 76) (e := 5) hB hbk (bs' := bs) hown (by decide), hb1.setCell (p := ⟨b, 1, none⟩) hB _⟩
set_option maxRecDepth 100000 in
set_option maxHeartbeats 2000000 in
theorem builderWrite (B b : Nat) (bs : List Value) (l : List UInt8) (g c : Nat) (w : World) (h : Lib.IsBuilderF 76 5 B b bs w) (hg : g < B) (hh : Holds w g 0 l) (hlen : bs.length + l.length ≤ 140737488355328) (hBw : B ≤ w.heap.size) :
    Calls Try.prog 41 #[.pointer (some ⟨b, 0, none⟩), .slice (some ⟨g, 0, none⟩) l.length c] w fun e w' => e = .returned (.tuple #[.int .i64 l.length, .nilIface]) ∧
      (Lib.BuilderAtF 76 5 B b (.pointer (some ⟨b, 0, none⟩)) (bs ++ l.map byteV) w' ∧ Below B w w') := by
  obtain ⟨i0, hi, hz0, hz1, hz2⟩ := info_parts infoByte
  go_enter Try.func41, Try.ntmps41
  go_wp2_with (go_at_call 47; refine (builderCheck B b bs _ h).mono ?_)
  rintro e w1 ⟨rfl, h1, hb1, hk1⟩
  obtain ⟨hB, v, hbk, hown, hne⟩ := h1
  have c0 : w1.cell? ⟨b, 0, none⟩ = some (.pointer (some ⟨b, 0, none⟩)) := by rw [Lib.cell_of_heap hbk]; rfl
  have c1 : w1.cell? ⟨b, 1, none⟩ = some v := by rw [Lib.cell_of_heap hbk]; rfl
  have hn1 : ∀ j u, (l.map byteV)[j]? = some u → w1.cell? ((⟨g, 0, none⟩ : Addr).add j) = some u := by
    intro j u hj
    rw [List.getElem?_map, Option.map_eq_some_iff] at hj
    obtain ⟨x, hx, rfl⟩ := hj
    obtain ⟨hjl, rfl⟩ := List.getElem?_eq_some_iff.1 hx
    rw [add_at]
    exact (hb1.cell (p := ⟨g, 0 + j, none⟩) hg).trans (hh j hjl)
  go_wp2_with (at_builtin; refine wpList_append_ownF _ rfl _ _ 52 rfl B 5 i0 (.int .u8 0) 1 1 Try.underlying52 hi hz0 hz1 hz2 rfl (by decide) _ _ _ rfl hown ⟨g, 0, none⟩ l.length c (l.map byteV) rfl (by simp) hn1 (byteV_one l) ?c3 ?c4 ?c5 ?_)
  case c3 => unfold maxLen; omega
  case c4 => omega
  case c5 => have := hb1.size; omega
  intro v' w2 hown' hgrow _
  have hlt : b < w1.heap.size := by
    rcases Nat.lt_or_ge b w1.heap.size with h' | h'
    · exact h'
    · simp [Array.getElem?_eq_none h'] at hbk
  have hb2 : w2.heap[b]? = some (.cells #[.pointer (some ⟨b, 0, none⟩), v] 76 (0, 0)) := by
    rw [hgrow.block b hlt (fun e => hne e.symm)]
    exact hbk
  have d0 : w2.cell? ⟨b, 0, none⟩ = some (.pointer (some ⟨b, 0, none⟩)) := by rw [Lib.cell_of_heap hb2]; rfl
  have d1 : w2.cell? ⟨b, 1, none⟩ = some v := by rw [Lib.cell_of_heap hb2]; rfl
  have f1 : w2.frozen? ⟨b, 1, none⟩ = false := Lib.frozen_of_heap hb2 1
  obtain ⟨ao, n', cap, rfl⟩ : ∃ ao n' cap, v' = .slice ao n' cap := by
    rcases hown'.2 with ⟨hv, _⟩ | ⟨g, cap, cur, fz, hv, _⟩
    · exact ⟨_, _, _, hv⟩
    · exact ⟨_, _, _, hv⟩
  go_wp2
  go_ret2
  refine ⟨rfl, ?_, ?_⟩
  · exact Lib.BuilderAtF.put (T := 76) (e := 5) hB hb2 (bs' := bs ++ l.map byteV) (by simpa using hown') (by decide)
  · exact (hb1.grown hgrow (by have := hb1.size; omega) (fun k hk => (hown.lt k hk).1)).setCell (p := ⟨b, 1, none⟩) hB _
/-- Bytes handed on as a slice: none, or cells that hold them. -/
def BytesAt (w : World) (v : Value) (l : List UInt8) : Prop := (v = .slice none 0 0 ∧ l = []) ∨ ∃ g c, v = .slice (some ⟨g, 0, none⟩) l.length c ∧ g < w.heap.size ∧ Holds w g 0 l
theorem byteCells_map (l : List UInt8) : Lib.byteCells l = l.map byteV := rfl
set_option maxRecDepth 100000 in
set_option maxHeartbeats 2000000 in
theorem jJoined (s : ByteArray) (v : Value) (l : List UInt8) (w : World) (hv : BytesAt w v l) (hs : s.size + l.length ≤ 140737488355328) :
    Calls Try.prog 32 #[.string s, v] w fun e w' => e = .returned (.string (s ++ txt l)) ∧ Below w.heap.size w w' := by
  have hcat : Lib.byteCells (s.data.toList ++ l) = Lib.byteCells s.data.toList ++ l.map byteV := by rw [Lib.byteCells_append]; rfl
  have hstr : ([] : List Value) ++ Lib.strCells s = Lib.byteCells s.data.toList := by rw [List.nil_append, Lib.strCells_eq]
  have hres : (⟨(s.data.toList ++ l).toArray⟩ : ByteArray) = s ++ txt l := by
    apply ByteArray.ext; rw [ByteArray.data_append]; simp [txt]
  have hl1 : (Lib.byteCells s.data.toList).length + l.length ≤ 140737488355328 := by rw [Lib.byteCells_length, Array.length_toList]; exact hs
  rcases hv with ⟨rfl, rfl⟩ | ⟨g, c, rfl, hg, hh⟩
  · have hs' : s.size ≤ 140737488355328 := by simpa using hs
    have hz : ([] : List Value).length + s.size ≤ 140737488355328 := by simpa using hs
    go_enter Try.func32, Try.ntmps32
    have hbk : (w.alloc (.cells #[.pointer none, .slice none 0 0] 76)).heap[w.heap.size]? = some (.cells #[.pointer none, .slice none 0 0] 76 (0, 0)) := World.alloc_heap_new w _
    have hB0 : Below w.heap.size w (w.alloc (.cells #[.pointer none, .slice none 0 0] 76)) := (Below.refl _ w).alloc (Nat.le_refl _) _
    go_wp2_with (first
      | (go_at_call 39; refine (builderGrow w.heap.size w.heap.size s.size _ (Nat.le_refl _) hbk hB0.size (by omega)).mono ?_; rintro e w1 ⟨rfl, h1, hb1⟩; replace hB0 := hB0.trans hb1; clear hb1)
      | (go_at_call 40; refine (builderWrites w.heap.size w.heap.size [] s _ (.inr h1) hz hB0.size).mono ?_; rintro e w2 ⟨rfl, h2, hb2, _⟩; replace hB0 := hB0.trans hb2; clear hb2; rw [hstr] at h2)
      | (go_at_call 41; refine (builderWriteNil w.heap.size w.heap.size _ _ (.inr h2) hB0.size).mono ?_; rintro e w3 ⟨rfl, h3, hb3⟩; replace hB0 := hB0.trans hb3; clear hb3)
      | (go_at_call 42; refine (Try.Builder_String_any_k w.heap.size w.heap.size s.data.toList _ (.inr h3) hB0.size).mono ?_; rintro e w4 ⟨rfl, _, hb4, _⟩; replace hB0 := hB0.trans hb4; clear hb4))
    go_ret
    exact ⟨by rw [← hres, List.append_nil]; rfl, hB0⟩
  · go_enter Try.func32, Try.ntmps32
    have hbk : (w.alloc (.cells #[.pointer none, .slice none 0 0] 76)).heap[w.heap.size]? = some (.cells #[.pointer none, .slice none 0 0] 76 (0, 0)) := World.alloc_heap_new w _
    have hB0 : Below w.heap.size w (w.alloc (.cells #[.pointer none, .slice none 0 0] 76)) := (Below.refl _ w).alloc (Nat.le_refl _) _
    have hold : ∀ {W : World}, Below w.heap.size w W → Holds W g 0 l := fun hb j hj => (hb.cell (p := ⟨g, 0 + j, none⟩) hg).trans (hh j hj)
    have hz : ([] : List Value).length + s.size ≤ 140737488355328 := by simp only [List.length_nil]; omega
    have HW2 := Lib.hid (show (s.size : Int) + (l.length : Int) = ((s.size + l.length : Nat) : Int) by omega)
    have HW := Lib.hid (show wrap64 ((s.size : Int) + (l.length : Int)) = ((s.size + l.length : Nat) : Int) by unfold wrap64; omega)
    go_wp2_with (first
      | (go_at_call 39; (first | rw [HW.out] | rw [HW2.out]); refine (builderGrow w.heap.size w.heap.size (s.size + l.length) _ (Nat.le_refl _) hbk hB0.size (by omega)).mono ?_; rintro e w1 ⟨rfl, h1, hb1⟩; replace hB0 := hB0.trans hb1; clear hb1)
      | (go_at_call 40; refine (builderWrites w.heap.size w.heap.size [] s _ (.inr h1) hz hB0.size).mono ?_; rintro e w2 ⟨rfl, h2, hb2, _⟩; replace hB0 := hB0.trans hb2; clear hb2; rw [hstr] at h2)
      | (go_at_call 41; refine (builderWrite w.heap.size w.heap.size _ l g c _ (.inr h2) hg (hold hB0) hl1 hB0.size).mono ?_; rintro e w3 ⟨rfl, h3, hb3⟩; replace hB0 := hB0.trans hb3; clear hb3; rw [← hcat] at h3)
      | (go_at_call 42; refine (Try.Builder_String_any_k w.heap.size w.heap.size (s.data.toList ++ l) _ (.inr h3) hB0.size).mono ?_; rintro e w4 ⟨rfl, _, hb4, _⟩; replace hB0 := hB0.trans hb4; clear hb4))
    go_ret
    exact ⟨by rw [← hres]; rfl, hB0⟩
end Go.Proofs.Ytfbponiiejanfaa
