/-
  The map that counts choices: asked, an entry laid in, written; as mathematics: how often each choice came.
-/
import Derived.Test.YtigameebcicgpaaBtGoes
import Derived.MapKept
import Derived.WideKeyRuns
import Derived.Laws.StructEq
namespace Go.Proofs.Ytigameebcicgpaa
open Go.RowKit
set_option linter.unusedVariables false
set_option linter.unusedSimpArgs false

/-- A choice and how often it came. -/
structure Ct where
  bal : Nat
  val' : ByteArray
  n : Nat
namespace Ct
def key (b : Nat) (s : ByteArray) : Value := .agg #[.int .u64 (b : Int), .string s]
def is (b : Nat) (s : ByteArray) (c : Ct) : Bool := decide (b = c.bal ∧ s = c.val')
def entry (c : Ct) (i : Nat) : MapEntry := { key := key c.bal c.val', val := .int .i64 (c.n : Int), born := i }
/-- The entries, from number b on. -/
def entries : Nat → List Ct → List MapEntry
  | _, [] => []
  | b, x :: l => entry x b :: entries (b + 1) l
def mapO (l : List Ct) : Obj := .map (entries 0 l).toArray l.length
theorem entries_length (b : Nat) (l : List Ct) : (entries b l).length = l.length := by
  induction l generalizing b with
  | nil => rfl
  | cons s l ih => simp [entries, ih]
theorem entries_append (b : Nat) (l r : List Ct) : entries b (l ++ r) = entries b l ++ entries (b + l.length) r := by
  induction l generalizing b with
  | nil => simp [entries]
  | cons s l ih => simp only [List.cons_append, entries, ih, List.length_cons]; rw [show b + 1 + l.length = b + (l.length + 1) from by omega]
theorem entries_get (b : Nat) (l : List Ct) (i : Nat) : (entries b l)[i]? = (l[i]?).map fun x => entry x (b + i) := by
  induction l generalizing b i with
  | nil => rfl
  | cons s l ih =>
    cases i with
    | zero => rfl
    | succ i => simp only [entries, List.getElem?_cons_succ, ih]; rw [show b + 1 + i = b + (i + 1) from by omega]
/-- The first entry of a choice. -/
def at' (l : List Ct) (b : Nat) (s : ByteArray) : Option Nat := l.findIdx? (is b s)
/-- How often it came. -/
def ask (l : List Ct) (b : Nat) (s : ByteArray) : Nat := ((l.find? (is b s)).map Ct.n).getD 0
/-- With an entry for it. -/
def ent (l : List Ct) (b : Nat) (s : ByteArray) : List Ct := if (at' l b s).isSome then l else l ++ [⟨b, s, 0⟩]
def place (l : List Ct) (b : Nat) (s : ByteArray) : Nat := (at' l b s).getD l.length
/-- It came once more. -/
def bump (l : List Ct) (b : Nat) (s : ByteArray) : List Ct := (ent l b s).modify (place l b s) fun c => { c with n := ask l b s + 1 }
theorem find_at (l : List Ct) (b : Nat) (s : ByteArray) : l.find? (is b s) = (at' l b s).bind fun i => l[i]? := by
  unfold at'
  induction l with
  | nil => rfl
  | cons c l ih =>
    rw [List.find?_cons, List.findIdx?_cons]
    cases h : is b s c
    · simp only [Bool.false_eq_true, if_false]
      rw [ih]
      cases List.findIdx? (is b s) l <;> simp
    · simp
theorem at_some {l : List Ct} {b : Nat} {s : ByteArray} {i : Nat} (h : at' l b s = some i) : ∃ hi : i < l.length, l[i].bal = b ∧ l[i].val' = s ∧ ask l b s = l[i].n := by
  have h0 := h
  unfold at' at h
  rw [List.findIdx?_eq_some_iff_getElem] at h
  obtain ⟨hi, h1, _⟩ := h
  unfold is at h1
  rw [decide_eq_true_eq] at h1
  refine ⟨hi, h1.1.symm, h1.2.symm, ?_⟩
  unfold ask
  rw [find_at, h0]
  simp [hi]
theorem at_none {l : List Ct} {b : Nat} {s : ByteArray} (h : at' l b s = none) : ask l b s = 0 := by
  unfold ask
  rw [find_at, h]
  rfl
/-- Asked, behind it came once more. -/
theorem ask_bump (l : List Ct) (b : Nat) (s : ByteArray) (c : Nat) (u : ByteArray) : ask (bump l b s) c u = ask l c u + (if c = b ∧ u = s then 1 else 0) := by
  have key : ∀ (l : List Ct) (i : Nat) (m : Nat), at' l b s = some i → ask (l.modify i fun x => { x with n := m }) c u = if c = b ∧ u = s then m else ask l c u := by
    intro l
    induction l with
    | nil => intro i m h; cases h
    | cons x l ih =>
      intro i m h
      unfold at' at h
      rw [List.findIdx?_cons] at h
      cases hx : is b s x
      · rw [hx] at h
        simp only [Bool.false_eq_true, if_false, Option.map_eq_some_iff] at h
        obtain ⟨j, hj, rfl⟩ := h
        rw [List.modify_succ_cons]
        unfold ask
        rw [List.find?_cons, List.find?_cons]
        cases hc : is c u x
        · exact ih j m hj
        · simp only [Option.map_some, Option.getD_some]
          rw [if_neg]
          rintro ⟨rfl, rfl⟩
          rw [hx] at hc
          cases hc
      · rw [hx] at h
        simp only [if_true, Option.some.injEq] at h
        subst h
        rw [List.modify_zero_cons]
        unfold is at hx
        rw [decide_eq_true_eq] at hx
        obtain ⟨rfl, rfl⟩ := hx
        unfold ask
        rw [List.find?_cons, List.find?_cons]
        have e : is c u { x with n := m } = decide (c = x.bal ∧ u = x.val') := rfl
        rw [e, show is c u x = decide (c = x.bal ∧ u = x.val') from rfl]
        by_cases hcu : c = x.bal ∧ u = x.val'
        · rw [decide_eq_true hcu, if_pos hcu]; rfl
        · rw [decide_eq_false hcu, if_neg hcu]
  have app : at' l b s = none → at' (l ++ [⟨b, s, 0⟩]) b s = some l.length := fun h => by
    unfold at' at *
    rw [List.findIdx?_append, h]
    simp [List.findIdx?_cons, is]
  have app2 : ∀ d v, ask (l ++ [⟨b, s, 0⟩]) d v = ask l d v := fun d v => by
    unfold ask
    rw [List.find?_append]
    cases hf : l.find? (is d v) with
    | some x => rfl
    | none =>
      by_cases hd : d = b ∧ v = s
      · obtain ⟨rfl, rfl⟩ := hd
        simp [is]
      · simp [is, hd]
  unfold bump ent place
  cases ha : at' l b s with
  | some i =>
    simp only [Option.isSome_some, if_true, Option.getD_some]
    rw [key l i _ ha]
    by_cases h : c = b ∧ u = s
    · obtain ⟨rfl, rfl⟩ := h; simp
    · simp [h]
  | none =>
    simp only [Option.isSome_none, Bool.false_eq_true, if_false, Option.getD_none]
    rw [key _ _ _ (app ha), app2]
    by_cases h : c = b ∧ u = s
    · obtain ⟨rfl, rfl⟩ := h; simp
    · simp [h]
/-! The map in memory. -/
theorem equal (w : World) (b c : Nat) (s u : ByteArray) : (Op.equal 67 (key b s) (key c u)).run Try.prog w = .ok (decide (b = c ∧ s = u)) w := by
  have nu : ∀ x y : Nat, ((x : Int) = (y : Int)) = (x = y) := fun x y => propext ⟨fun h => by omega, fun h => by rw [h]⟩
  have nb : ∀ x y : ByteArray, (x.toList = y.toList) = (x = y) := fun x y => propext ⟨fun h => by rw [ByteArray.toList_eq, ByteArray.toList_eq] at h; exact ByteArray.ext (Array.toList_inj.1 h), fun h => by rw [h]⟩
  unfold Op.equal Op.maxDepth key
  rw [show (10000 : Nat) = 9999 + 1 from rfl, run_equalIn_agg w 9999 67 _ _ (by kernel_rfl) (by kernel_rfl)]
  simp only [Program.fieldsOf, Try.underlying67]
  simp [go_sem, Try.underlying22, Try.underlying9]
  simp only [nu, nb]
  by_cases h1 : b = c <;> by_cases h2 : s = u <;> simp [h1, h2]
theorem check (w : World) (em : Bool) (b : Nat) (s : ByteArray) : (Instr.checkKey em 10000 67 (key b s)).run Try.prog w = .ok () w := by
  have h1 : ∀ n, (Instr.checkKey em (n + 1) 22 (.int .u64 (b : Int))).run Try.prog w = .ok () w := fun n => by simp [Instr.checkKey, run_underlying Try.underlying22]
  have h2 : ∀ n, (Instr.checkKey em (n + 1) 9 (.string s)).run Try.prog w = .ok () w := fun n => by simp [Instr.checkKey, run_underlying Try.underlying9]
  unfold key
  rw [show (10000 : Nat) = 9998 + 1 + 1 from rfl, Instr.checkKey]
  simp only [Sem.run_bind, run_underlying Try.underlying67, Result.andThen_ok]
  simp [h1, h2, go_sem, Try.isAgg22, Try.isAgg9]
theorem find (w : World) (b : Nat) (s : ByteArray) (l : List Ct) : ∀ d i, (Instr.findAsking 67 (key b s) (entries d l) i).run Try.prog w = .ok ((at' l b s).map fun j => (i + j, .int .i64 (((l[j]?).map Ct.n).getD 0 : Nat))) w := by
  induction l with
  | nil => intro d i; rfl
  | cons c l ih =>
    intro d i
    simp only [entries, entry, Instr.findAsking, Sem.run_bind, equal, Result.andThen_ok]
    unfold at'
    rw [List.findIdx?_cons]
    by_cases h : b = c.bal ∧ s = c.val'
    · have e : is b s c = true := decide_eq_true h
      rw [e, decide_eq_true h]
      simp
    · have e : is b s c = false := decide_eq_false h
      rw [e, decide_eq_false h]
      simp only [Bool.false_eq_true, if_false]
      rw [ih]
      unfold at'
      cases List.findIdx? (is b s) l with
      | none => rfl
      | some j => simp [Nat.add_assoc, Nat.add_comm 1 j]
theorem findK (w : World) (b : Nat) (s : ByteArray) (l : List Ct) : (Instr.findKey 67 (key b s) (entries 0 l)).run Try.prog w = .ok ((at' l b s).map fun j => (j, .int .i64 (((l[j]?).map Ct.n).getD 0 : Nat))) w := by
  rw [run_findKey_eq w (by rw [Try.underlying67]), find]
  simp
theorem zero (w : World) : (zeroValue 3).run Try.prog w = .ok (.int .i64 0) w := by simp [Try.zeroValue3]
theorem ask_at (l : List Ct) (b : Nat) (s : ByteArray) : ask l b s = ((at' l b s).map fun j => ((l[j]?).map Ct.n).getD 0).getD 0 := by
  unfold ask
  rw [find_at]
  cases at' l b s <;> simp
/-- Asked. -/
theorem look {w : World} {M : Nat} {l : List Ct} (h : w.heap[M]? = some (mapO l)) (b : Nat) (s : ByteArray) :
    (Instr.lookup 65 (.map (some M)) (key b s) false).run Try.prog w = .ok (.int .i64 (ask l b s : Int)) w := by
  have hkey := findK w b s l
  rw [ask_at]
  unfold mapO at h
  cases ha : at' l b s with
  | none =>
    rw [ha] at hkey
    simp [Instr.lookup, run_underlying Try.underlying65, MapKept.run_getObj_map h, check, hkey, zero, Result.andThen]
  | some j =>
    rw [ha] at hkey
    simp [Instr.lookup, run_underlying Try.underlying65, MapKept.run_getObj_map h, check, hkey, zero, Result.andThen]
theorem stays (w : World) (b : Nat) (s : ByteArray) : (Instr.keyThatStays (key b s) (key b s)).run Try.prog w = .ok (key b s) w := by
  have h : Instr.sameBits 10000 (key b s) (key b s) = true := by
    unfold key
    rw [show (10000 : Nat) = 9999 + 1 from rfl]
    simp [Instr.sameBits, (MapKept.bytes_beq s s).2 rfl]
  simp [Instr.keyThatStays, h]
theorem at_lt {l : List Ct} {b : Nat} {s : ByteArray} {i : Nat} (h : at' l b s = some i) : i < l.length := (at_some h).1
theorem ask_ent (l : List Ct) (b : Nat) (s : ByteArray) : ask (ent l b s) b s = ask l b s := by
  unfold ent
  cases ha : at' l b s with
  | some i => rfl
  | none =>
    simp only [Option.isSome_none, Bool.false_eq_true, if_false]
    rw [at_none ha]
    unfold at' at ha
    unfold ask
    rw [List.find?_append, find_at]
    unfold at'
    rw [ha]
    simp [is]
/-- An entry laid in, if there was none. -/
theorem entryE {w : World} {M : Nat} {l : List Ct} (h : w.heap[M]? = some (mapO l)) (b : Nat) (s : ByteArray) :
    (Instr.mapEntry 65 (.map (some M)) (key b s)).run Try.prog w = .ok (.tuple #[.int .i64 (ask l b s : Int), .int .i64 (place l b s : Int)]) (w.putObj M (mapO (ent l b s))) := by
  have hkey := findK w b s l
  have hst := stays w b s
  have h' := h
  unfold mapO at h'
  cases ha : at' l b s with
  | none =>
    rw [ha] at hkey
    have e : mapO (ent l b s) = .map ((entries 0 l).toArray.push { key := key b s, val := .int .i64 0, born := l.length }) (l.length + 1) := by
      unfold ent mapO
      rw [ha]
      simp only [Option.isSome_none, Bool.false_eq_true, if_false]
      rw [entries_append]
      simp [entries, entry]
    have e2 : place l b s = l.length := by unfold place; rw [ha]; rfl
    rw [e, e2, at_none ha]
    simp [Instr.mapEntry, run_underlying Try.underlying65, MapKept.run_getObj_map h', check, hkey, zero, MapKept.run_setObj_map _ h', Result.andThen, World.putObj, goInt]
  | some j =>
    rw [ha] at hkey
    obtain ⟨hj, hb, hs, hn⟩ := at_some ha
    have e : mapO (ent l b s) = .map ((entries 0 l).toArray.modify j fun e => { e with key := key b s }) l.length := by
      unfold ent mapO
      rw [ha]
      simp only [Option.isSome_some, if_true]
      congr 1
      apply Array.toList_inj.1
      simp only [Array.toList_modify]
      apply List.ext_getElem?
      intro i
      rw [List.getElem?_modify, entries_get]
      by_cases hi : j = i
      · subst hi
        simp [hj, entry, hb, hs]
      · simp only [hi, if_false]
        cases l[i]? <;> rfl
    have e2 : place l b s = j := by unfold place; rw [ha]; rfl
    have e3 : (entries 0 l)[j]? = some (entry l[j] j) := by rw [entries_get]; simp [hj]
    rw [e, e2, hn]
    simp only [Option.map_some, List.getElem?_eq_getElem hj, Option.getD_some] at hkey
    simp [Instr.mapEntry, run_underlying Try.underlying65, MapKept.run_getObj_map h', check, hkey, e3, entry, hb, hs, hst, MapKept.run_setObj_map _ h', Result.andThen, World.putObj, goInt]
theorem place_lt (l : List Ct) (b : Nat) (s : ByteArray) : place l b s < (ent l b s).length := by
  unfold place ent
  cases ha : at' l b s with
  | none => simp
  | some j => simpa using at_lt ha
/-- An entry's count written. -/
theorem storeE {w : World} {M : Nat} {l : List Ct} (b : Nat) (s : ByteArray) (h : w.heap[M]? = some (mapO (ent l b s))) :
    (Instr.entryStore 65 (.map (some M)) (.int .i64 (place l b s : Int)) (.int .i64 ((ask l b s + 1 : Nat) : Int))).run Try.prog w = .ok () (w.putObj M (mapO (bump l b s))) := by
  have h' := h
  unfold mapO at h'
  have hp := place_lt l b s
  have hf : (entries 0 (ent l b s)).toArray.findIdx? (fun e => (e.born : Int) == (place l b s : Int)) = some (place l b s) := by
    rw [List.findIdx?_toArray, List.findIdx?_eq_some_iff_getElem]
    have hg : ∀ i (hi : i < (entries 0 (ent l b s)).length), ((entries 0 (ent l b s))[i]).born = i := fun i hi => by
      have := entries_get 0 (ent l b s) i
      rw [List.getElem?_eq_getElem hi] at this
      rw [entries_length] at hi
      rw [List.getElem?_eq_getElem hi, Option.map_some, Option.some.injEq] at this
      rw [this]; simp [entry]
    refine ⟨by rw [entries_length]; exact hp, by rw [hg]; simp, fun j hj => ?_⟩
    rw [hg]
    simp
    omega
  have e : mapO (bump l b s) = .map ((entries 0 (ent l b s)).toArray.modify (place l b s) fun e => { e with val := .int .i64 ((ask l b s + 1 : Nat) : Int) }) (ent l b s).length := by
    unfold bump mapO
    rw [List.length_modify]
    congr 1
    apply Array.toList_inj.1
    simp only [Array.toList_modify]
    apply List.ext_getElem?
    intro i
    rw [List.getElem?_modify, entries_get, entries_get, List.getElem?_modify]
    by_cases hi : place l b s = i
    · rw [hi] at hp ⊢
      simp [hp, entry]
    · simp only [hi, if_false]
      cases (ent l b s)[i]? <;> rfl
  rw [e]
  have ha : ∀ W : World, (asInt (.int .i64 (place l b s : Int))).run Try.prog W = .ok (place l b s : Int) W := fun W => by simp [asInt, asIntOf]
  rw [List.findIdx?_toArray] at hf
  generalize (ent l b s) = l1 at *
  simp [Instr.entryStore, MapKept.run_getObj_map h', ha, hf, MapKept.run_setObj_map _ h', Result.andThen, World.putObj]
end Ct
end Go.Proofs.Ytigameebcicgpaa
