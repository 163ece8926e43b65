/-
  The map of a detector's nodes: asked, laid in; a detector in memory.
-/
import Derived.Test.YtdpnmmeecnconaaDtMath
import Derived.Test.YtdpnmmeecnconaaDtBase
namespace Go.Proofs.Ytdpnmmeecnconaa
open Go.RowKit Go.Shelf
attribute [local go_sem] Oper.semAt_some
set_option linter.unusedVariables false
set_option linter.unusedSimpArgs false

abbrev Nd.val (x : Nd) : Value := .agg #[.int .u64 (x.last : Int), .int .u64 (x.out : Int), .bool x.sus]
namespace Dt
def entry (x : Nd) (n : Nat) : MapEntry := { key := intV n, val := x.val, born := n }
/-- The entries, from number b on. -/
def entries : Nat → List Nd → List MapEntry
  | _, [] => []
  | b, x :: l => entry x b :: entries (b + 1) l
def mapL (l : List Nd) : Obj := .map (entries 0 l).toArray l.length
theorem entries_length (b : Nat) (l : List Nd) : (entries b l).length = l.length := by
  induction l generalizing b with
  | nil => rfl
  | cons s l ih => simp [entries, ih]
theorem entries_append (b : Nat) (l r : List Nd) : entries b (l ++ r) = entries b l ++ entries (b + l.length) r := by
  induction l generalizing b with
  | nil => rfl
  | cons s l ih => simp only [List.cons_append, entries, ih, List.length_cons]; rw [show b + 1 + l.length = b + (l.length + 1) from by omega]
theorem entries_get (b : Nat) (l : List Nd) (i : Nat) : (entries b l)[i]? = (l[i]?).map fun x => entry x (b + i) := by
  induction l generalizing b i with
  | nil => rfl
  | cons s l ih =>
    cases i with
    | zero => rfl
    | succ i => simp only [entries, List.getElem?_cons_succ, ih]; rw [show b + 1 + i = b + (i + 1) from by omega]
theorem same_int (a b : Int) : Instr.sameNow (.int .i64) (.int .i64 a) (.int .i64 b) = some (a == b) := by simp [Instr.sameNow]
theorem find_in (b k : Nat) (l : List Nd) (i : Nat) (hk : k < l.length) : Instr.findNow (.int .i64) (.int .i64 ((b + k : Nat) : Int)) (entries b l) i = some (some (i + k, l[k].val)) := by
  induction l generalizing b k i with
  | nil => simp at hk
  | cons s l ih =>
    cases k with
    | zero => simp [entries, entry, Instr.findNow, same_int]
    | succ k =>
      have := ih (b + 1) k (i + 1) (by simpa using hk)
      rw [show b + 1 + k = b + (k + 1) from by omega, show i + 1 + k = i + (k + 1) from by omega] at this
      simp only [entries, entry, Instr.findNow, same_int, List.getElem_cons_succ]
      rw [beq_eq_false_iff_ne.2 (show ((b + (k + 1) : Nat) : Int) ≠ ((b : Nat) : Int) from by omega)]
      exact this
theorem find_out (b : Nat) (n : Int) (l : List Nd) (i : Nat) (hn : n < (b : Int) ∨ (b : Int) + l.length ≤ n) : Instr.findNow (.int .i64) (.int .i64 n) (entries b l) i = some none := by
  induction l generalizing b i with
  | nil => rfl
  | cons s l ih =>
    simp only [List.length_cons] at hn
    simp only [entries, entry, Instr.findNow, same_int]
    rw [beq_eq_false_iff_ne.2 (show n ≠ ((b : Nat) : Int) from by omega)]
    exact ih (b + 1) (i + 1) (by omega)
theorem check_int (w : World) (e : Bool) (n : Int) : (Instr.checkKey e 10000 3 (.int .i64 n)).run Try.prog w = .ok () w :=
  MapKept.run_checkKey (k := .int .i64 n) Try.underlying3 (by simp [MapKept.IsKey]) e 9999
/-- Asked. -/
theorem look {w : World} {M : Nat} {l : List Nd} (h : w.heap[M]? = some (mapL l)) (k : Nat) (hk : k < l.length) :
    (Instr.lookup 46 (.map (some M)) (.int .i64 (k : Int)) false).run Try.prog w = .ok l[k].val w := by
  have hf := find_in 0 k l 0 hk
  simp only [Nat.zero_add] at hf
  unfold mapL at h
  have hkey := MapKept.run_findKey (P := Try.prog) (w := w) (l := (entries 0 l).toArray.toList) Try.underlying3 hf
  simp only [List.toList_toArray] at hkey
  simp [Instr.lookup, run_underlying Try.underlying46, MapKept.run_getObj_map h, check_int, hkey, Result.andThen]
theorem info_pulse : (Try.prog.info? 51).map (fun i => i.zero) = some (some (.agg #[.int .u64 0, .int .u64 0, .bool false])) := by kernel_rfl
theorem zero_pulse (w : World) : (zeroValue 51).run Try.prog w = .ok (.agg #[.int .u64 0, .int .u64 0, .bool false]) w := by
  have h := info_pulse
  cases hi : Try.prog.info? 51 with
  | none => rw [hi] at h; cases h
  | some i =>
    rw [hi] at h
    simp only [Option.map_some, Option.some.injEq] at h
    simp [zeroValue, typeInfo, Sem.run, hi, h]
/-- Asked for none. -/
theorem look_none {w : World} {M : Nat} {l : List Nd} (h : w.heap[M]? = some (mapL l)) (n : Int) (hn : n < 0 ∨ (l.length : Int) ≤ n) :
    (Instr.lookup 46 (.map (some M)) (.int .i64 n) false).run Try.prog w = .ok (.agg #[.int .u64 0, .int .u64 0, .bool false]) w := by
  have hf := find_out 0 n l 0 (by omega)
  unfold mapL at h
  have hkey := MapKept.run_findKey (P := Try.prog) (w := w) (l := (entries 0 l).toArray.toList) Try.underlying3 hf
  simp only [List.toList_toArray] at hkey
  simp [Instr.lookup, run_underlying Try.underlying46, MapKept.run_getObj_map h, check_int, hkey, zero_pulse, Result.andThen]
/-- Laid in anew. -/
theorem push {w : World} {M : Nat} {l : List Nd} (h : w.heap[M]? = some (mapL l)) (x : Nd) :
    (Instr.mapUpdate 46 (.map (some M)) (.int .i64 (l.length : Int)) x.val).run Try.prog w = .ok () (w.putObj M (mapL (l ++ [x]))) := by
  have hf := find_out 0 (l.length : Int) l 0 (by omega)
  have hkey := MapKept.run_findKey (P := Try.prog) (w := w) (l := (entries 0 l).toArray.toList) Try.underlying3 hf
  simp only [List.toList_toArray] at hkey
  have h' := h
  unfold mapL at h'
  have e : mapL (l ++ [x]) = .map ((entries 0 l).toArray.push { key := .int .i64 (l.length : Int), val := x.val, born := l.length }) (l.length + 1) := by
    unfold mapL
    rw [entries_append]
    simp [entries, entry]
  rw [e]
  simp [Instr.mapUpdate, run_underlying Try.underlying46, MapKept.run_getObj_map h', check_int, hkey, MapKept.run_setObj_map _ h', Result.andThen, World.putObj]
/-- Laid in the place of another. -/
theorem put {w : World} {M : Nat} {l : List Nd} (h : w.heap[M]? = some (mapL l)) (k : Nat) (hk : k < l.length) (x : Nd) :
    (Instr.mapUpdate 46 (.map (some M)) (.int .i64 (k : Int)) x.val).run Try.prog w = .ok () (w.putObj M (mapL (l.set k x))) := by
  have hf := find_in 0 k l 0 hk
  simp only [Nat.zero_add] at hf
  have hkey := MapKept.run_findKey (P := Try.prog) (w := w) (l := (entries 0 l).toArray.toList) Try.underlying3 hf
  simp only [List.toList_toArray] at hkey
  have h' := h
  unfold mapL at h'
  have e : mapL (l.set k x) = .map ((entries 0 l).toArray.modify k fun e => { e with key := .int .i64 (k : Int), val := x.val }) l.length := by
    unfold mapL
    rw [List.length_set]
    congr 1
    apply Array.toList_inj.1
    simp only [Array.toList_modify]
    apply List.ext_getElem?
    intro i
    rw [List.getElem?_modify, entries_get, entries_get, List.getElem?_set]
    by_cases hi : k = i
    · subst hi
      simp [hk, entry]
    · simp only [hi, if_false]
      cases l[i]? <;> rfl
  have hkl : k < (entries 0 l).length := by rw [entries_length]; exact hk
  have hke : (entries 0 l)[k] = entry l[k] k := by
    have := entries_get 0 l k
    rw [List.getElem?_eq_getElem hkl, List.getElem?_eq_getElem hk] at this
    simpa using this
  rw [e]
  simp [Instr.mapUpdate, run_underlying Try.underlying46, MapKept.run_getObj_map h', check_int, hkey, MapKept.run_setObj_map _ h', Result.andThen, World.putObj, hkl, hke, entry, Instr.keyThatStays, Instr.sameBits]
/-- The cells of a detector; M: its map's block. -/
def cells (D : Dt) (M : Nat) : Array Value := #[intV D.me, .int .u64 (D.step : Int), .int .u64 (D.most : Int), .int .u64 (D.now : Int), .map (some M)]
/-- Block B is the detector D, block M its map. -/
structure Is (D : Dt) (B M : Nat) (w : World) : Prop where
  row : w.heap[B]? = some (.cells (cells D M) 48 (0, 0))
  map : w.heap[M]? = some (mapL D.nodes)
  ne : B ≠ M
  ok : D.Ok
/-- The blocks of a detector. -/
def Own (B M : Nat) (k : Nat) : Prop := k = B ∨ k = M
/-- Behind a call the detector is D', and nothing else has turned. -/
def Turns (D' : Dt) (B M : Nat) (w w' : World) : Prop := Is D' B M w' ∧ Save (Own B M) w w'
variable {D D' : Dt} {B M : Nat} {w w' w'' : World}
theorem Is.lt (h : Is D B M w) : B < w.heap.size := (Array.getElem?_eq_some_iff.1 h.row).1
theorem Is.ltM (h : Is D B M w) : M < w.heap.size := (Array.getElem?_eq_some_iff.1 h.map).1
theorem Is.cell (h : Is D B M w) (j : Nat) (u : Value) (hk : (cells D M)[j]? = some u) : w.cell? ⟨B, j, none⟩ = some u := by simp [World.cell?, h.row, hk]
theorem Is.thawed (h : Is D B M w) (j : Nat) : w.frozen? ⟨B, j, none⟩ = false := by simp [World.frozen?, h.row]
theorem Is.keep (h : Is D B M w) (hB : w'.heap[B]? = w.heap[B]?) (hM : w'.heap[M]? = w.heap[M]?) : Is D B M w' := ⟨hB.trans h.row, hM.trans h.map, h.ne, h.ok⟩
theorem Is.below (h : Is D B M w) (hb : Below w.heap.size w w') : Is D B M w' := h.keep (hb.block B h.lt) (hb.block M h.ltM)
theorem Turns.of_below (h : Is D B M w) (hb : Below w.heap.size w w') : Turns D B M w w' := ⟨h.below hb, Save.of_below hb⟩
theorem Turns.refl (h : Is D B M w) : Turns D B M w w := Turns.of_below h (Below.refl _ _)
theorem Turns.trans (h : Turns D B M w w') (h' : Turns D' B M w' w'') : Turns D' B M w w'' := ⟨h'.1, h.2.trans h'.2⟩
theorem Is.lenMap (h : Is D B M w) (ty : TypeId) : (Builtin.len_ #[46] ty #[.map (some M)]).run Try.prog w = .ok (.int .i64 (D.nodes.length : Int)) w := by
  have hm := h.map
  unfold mapL at hm
  simp [Builtin.len_, run_underlying Try.underlying46, MapKept.run_getObj_map hm, Result.andThen, entries_length, goInt]
end Dt
end Go.Proofs.Ytdpnmmeecnconaa
