/-
  Maps whose keys are arrays of two ints: equality, storing, looking up; over any program.
-/
import Derived.Test.YtlbhfkiihikimaaCrcPut
import Derived.MapKept
import Derived.WideKeyRuns
namespace Go.Proofs.Ytlbhfkiihikimaa
open Go.RowKit

/-- A key. -/
abbrev key2 (p q : Int) : Value := .agg #[.int .i64 p, .int .i64 q]
theorem run_equal_key2 {P : Program} (w : World) {K E : TypeId} (hK : P.underlying K = some (.array 2 E)) (hE : P.underlying E = some (.int .i64)) (hz : ∀ w, (sizeOf E).run P w = .ok 1 w)
    (hg : ∀ w, (isAgg E).run P w = .ok false w) (a b c d : Int) : (Op.equal K (key2 a b) (key2 c d)).run P w = .ok (a == c && b == d) w := by
  have he : ∀ d (x y : Int), (Op.equalIn (d + 1) E (.int .i64 x) (.int .i64 y)).run P w = .ok (x == y) w := fun d x y => run_equalIn_int w d E .i64 .i64 x y hE
  unfold Op.equal Op.maxDepth
  rw [show (10000 : Nat) = 9998 + 1 + 1 from rfl]
  rw [Op.equalIn]
  simp only [Sem.run_bind, run_underlying hK, Result.andThen_ok, hz]
  cases hac : (a == c) <;> cases hbd : (b == d) <;> simp [Std.Legacy.Range.forIn_eq_forIn_range', Std.Legacy.Range.size, List.range', hg, he, hac, hbd, go_sem]

/-- What a type of keys must be. -/
structure Key2 (P : Program) (K E : TypeId) : Prop where
  arr : P.underlying K = some (.array 2 E)
  int : P.underlying E = some (.int .i64)
  size : ∀ w, (sizeOf E).run P w = .ok 1 w
  bare : ∀ w, (isAgg E).run P w = .ok false w
variable {P : Program} {K E : TypeId}
theorem Key2.equal (k : Key2 P K E) (w : World) (a b c d : Int) : (Op.equal K (key2 a b) (key2 c d)).run P w = .ok (a == c && b == d) w := run_equal_key2 w k.arr k.int k.size k.bare a b c d
theorem Key2.check (k : Key2 P K E) (w : World) (em : Bool) (a b : Int) : (Instr.checkKey em 10000 K (key2 a b)).run P w = .ok () w := by
  have hc : ∀ n (x : Int), (Instr.checkKey em (n + 1) E (.int .i64 x)).run P w = .ok () w := fun n x => by simp [Instr.checkKey, run_underlying k.int]
  have hz := k.size
  have hg := k.bare
  rw [show (10000 : Nat) = 9998 + 1 + 1 from rfl, Instr.checkKey]
  simp only [Sem.run_bind, run_underlying k.arr, Result.andThen_ok]
  simp [Std.Legacy.Range.forIn_eq_forIn_range', Std.Legacy.Range.size, List.range', hc, hg, hz, go_sem]
theorem Key2.find (k : Key2 P K E) (w : World) (p q : Int) (es : List MapEntry) : (Instr.findKey K (key2 p q) es).run P w = (Instr.findAsking K (key2 p q) es).run P w := run_findKey_eq w (by rw [k.arr]) _ _
theorem Key2.first (k : Key2 P K E) (w : World) {T V : TypeId} (hT : P.underlying T = some (.map K V)) (r : Nat) (a b : Int) (u : Value) (hb : w.heap[r]? = some (.map #[] 0)) :
    (Instr.mapUpdate T (.map (some r)) (key2 a b) u).run P w = .ok () (w.putObj r (.map #[{ key := key2 a b, val := u, born := 0 }] 1)) := by
  simp [Instr.mapUpdate, run_underlying hT, MapKept.run_getObj_map hb, k.check, k.find, Instr.findAsking, MapKept.run_setObj_map _ hb, Result.andThen, World.putObj]
theorem Key2.second (k : Key2 P K E) (w : World) {T V : TypeId} (hT : P.underlying T = some (.map K V)) (r : Nat) (a b c d : Int) (u v : Value) (hb : w.heap[r]? = some (.map #[{ key := key2 a b, val := u, born := 0 }] 1)) (hne : (c == a && d == b) = false) :
    (Instr.mapUpdate T (.map (some r)) (key2 c d) v).run P w = .ok () (w.putObj r (.map #[{ key := key2 a b, val := u, born := 0 }, { key := key2 c d, val := v, born := 1 }] 2)) := by
  have he := k.equal w c d a b
  rw [hne] at he
  simp [Instr.mapUpdate, run_underlying hT, MapKept.run_getObj_map hb, k.check, k.find, Instr.findAsking, he, MapKept.run_setObj_map _ hb, Result.andThen, World.putObj]
theorem Key2.look (k : Key2 P K E) (w : World) {T V : TypeId} (hT : P.underlying T = some (.map K V)) (r n x y : Nat) (a b c d p q : Int) (u v z : Value) (hb : w.heap[r]? = some (.map #[{ key := key2 a b, val := u, born := x }, { key := key2 c d, val := v, born := y }] n))
    (hz : (zeroValue V).run P w = .ok z w) :
    (Instr.lookup T (.map (some r)) (key2 p q) true).run P w = .ok (.tuple #[if (p == a && q == b) = true then u else if (p == c && q == d) = true then v else z, .bool ((p == a && q == b) || (p == c && q == d))]) w := by
  have h1 := k.equal w p q a b
  have h2 := k.equal w p q c d
  cases e1 : (p == a && q == b) <;> cases e2 : (p == c && q == d) <;> rw [e1] at h1 <;> rw [e2] at h2 <;>
    simp [Instr.lookup, run_underlying hT, MapKept.run_getObj_map hb, k.check, k.find, Instr.findAsking, h1, h2, hz, Result.andThen]
end Go.Proofs.Ytlbhfkiihikimaa
