/-
  The map of what is out: asked, laid in, taken out.
-/
import Derived.Test.YtlbhfkiihikimaaLkMath
import Derived.MapKept
namespace Go.Proofs.Ytlbhfkiihikimaa
open Go.RowKit
set_option linter.unusedVariables false
set_option linter.unusedSimpArgs false
namespace Lk
theorem same_num (a b : Nat) : Instr.sameNow (.int .u32) (num a) (num b) = some (a == b) := by
  unfold num Instr.sameNow
  simp only [if_true, Option.some.injEq]
  by_cases h : a = b
  · subst h; simp
  · rw [beq_eq_false_iff_ne.2 h]
    exact beq_eq_false_iff_ne.2 (fun e => h (by omega))
theorem find_in (b k : Nat) (l : List ByteArray) (i : Nat) (hk : k < l.length) : Instr.findNow (.int .u32) (num (b + k + 1)) (entries b l) i = some (some (i + k, .string l[k])) := by
  induction l generalizing b k i with
  | nil => simp at hk
  | cons s l ih =>
    cases k with
    | zero => simp [entries, entry, Instr.findNow, same_num]
    | succ k =>
      have := ih (b + 1) k (i + 1) (by simpa using hk)
      rw [show b + 1 + k + 1 = b + (k + 1) + 1 from by omega, show i + 1 + k = i + (k + 1) from by omega] at this
      simp only [entries, entry, Instr.findNow, same_num, List.getElem_cons_succ]
      rw [beq_eq_false_iff_ne.2 (show b + (k + 1) + 1 ≠ b + 1 from by omega)]
      exact this
theorem find_out (b n : Nat) (l : List ByteArray) (i : Nat) (hn : b + l.length ≤ n) : Instr.findNow (.int .u32) (num (n + 1)) (entries b l) i = some none := by
  induction l generalizing b i with
  | nil => rfl
  | cons s l ih =>
    simp only [List.length_cons] at hn
    simp only [entries, entry, Instr.findNow, same_num]
    rw [beq_eq_false_iff_ne.2 (show n + 1 ≠ b + 1 from by omega)]
    exact ih (b + 1) (i + 1) (by omega)
theorem check_num (w : World) (e : Bool) (n : Nat) : (Instr.checkKey e 10000 22 (num n)).run Try.prog w = .ok () w :=
  MapKept.run_checkKey (k := num n) Try.underlying22 (by simp [MapKept.IsKey, num]) e 9999
theorem size_map (L : Lk) : (entries L.base L.out).toArray.size = L.out.length := by simp [entries_length]
/-- Asked. -/
theorem look {w : World} {M : Nat} {L : Lk} (h : w.heap[M]? = some L.mapO) (k : Nat) (hk : k < L.out.length) :
    (Instr.lookup 46 (.map (some M)) (num (L.base + k + 1)) false).run Try.prog w = .ok (.string L.out[k]) w := by
  have hf := find_in L.base k L.out 0 hk
  unfold mapO at h
  have hkey := MapKept.run_findKey (P := Try.prog) (w := w) (l := (entries L.base L.out).toArray.toList) Try.underlying22 hf
  simp only [List.toList_toArray] at hkey
  simp [Instr.lookup, run_underlying Try.underlying46, MapKept.run_getObj_map h, check_num, hkey, Result.andThen]
/-- Laid in. -/
theorem store {w : World} {M : Nat} {L : Lk} (h : w.heap[M]? = some L.mapO) (s : ByteArray) :
    (Instr.mapUpdate 46 (.map (some M)) (num (L.top + 1)) (.string s)).run Try.prog w = .ok () (w.putObj M ({ L with out := L.out ++ [s] }).mapO) := by
  have hf := find_out L.base L.top L.out 0 (Nat.le_refl _)
  have hkey := MapKept.run_findKey (P := Try.prog) (w := w) (l := (entries L.base L.out).toArray.toList) Try.underlying22 hf
  simp only [List.toList_toArray] at hkey
  have h' := h
  unfold mapO at h'
  have e : ({ L with out := L.out ++ [s] } : Lk).mapO = .map ((entries L.base L.out).toArray.push { key := num (L.top + 1), val := .string s, born := L.top }) (L.top + 1) := by
    unfold mapO
    rw [entries_append]
    simp [entries, entry, top, Nat.add_assoc]
  rw [e]
  simp [Instr.mapUpdate, run_underlying Try.underlying46, MapKept.run_getObj_map h', check_num, hkey, MapKept.run_setObj_map _ h', Result.andThen, World.putObj]
/-- Taken out: the first. -/
theorem drop {w : World} {M : Nat} {L : Lk} (h : w.heap[M]? = some L.mapO) (s : ByteArray) (l : List ByteArray) (ho : L.out = s :: l) (ty : TypeId) :
    (Builtin.delete_ #[46, 22] ty #[.map (some M), num (L.base + 1)]).run Try.prog w = .ok (.tuple #[]) (w.putObj M ({ L with base := L.base + 1, out := l }).mapO) := by
  have hf := find_in L.base 0 (s :: l) 0 (by simp)
  have hkey := MapKept.run_findKey (P := Try.prog) (w := w) (l := (entries L.base (s :: l)).toArray.toList) Try.underlying22 hf
  simp only [List.toList_toArray, Nat.add_zero] at hkey
  have h' := h
  unfold mapO at h'
  rw [ho] at h'
  have e : ({ L with base := L.base + 1, out := l } : Lk).mapO = .map ((entries L.base (s :: l)).toArray.eraseIdxIfInBounds 0) L.top := by
    unfold mapO
    have : (entries L.base (s :: l)).toArray.eraseIdxIfInBounds 0 = (entries (L.base + 1) l).toArray := by
      apply Array.toList_inj.1
      simp [entries, Array.eraseIdxIfInBounds]
    rw [this]
    simp only [top, ho, List.length_cons]
    congr 1
    omega
  rw [e]
  simp [Builtin.delete_, run_underlying Try.underlying46, MapKept.run_getObj_map h', check_num, hkey, MapKept.run_setObj_map _ h', Result.andThen, World.putObj]
end Lk
end Go.Proofs.Ytlbhfkiihikimaa
