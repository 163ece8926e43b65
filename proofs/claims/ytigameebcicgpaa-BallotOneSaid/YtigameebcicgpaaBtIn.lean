/-
  A list of structs that was handed in (api.Vote): its reading, its opening.
-/
import Derived.Test.YtigameebcicgpaaArgs
import Derived.Deep.Slices
import Derived.ProofKit
import Derived.OpenShut
import Derived.ShutString
import Derived.ChangeOld
import Derived.Below
import Derived.ChangeArms
namespace Go.Proofs.Ytigameebcicgpaa
open Go.ChangeShapes Go.WideShapes Go.ChangeAt Go.RowKit
set_option linter.unusedVariables false
set_option linter.unusedSimpArgs false

/-- Such a list. -/
def VtIn (w : World) (v : Value) (l : List (Nat × Nat × ByteArray)) : Prop :=
  (v = .slice none 0 0 ∧ l = []) ∨ ∃ (a : Addr) (c : Nat), v = .slice (some a) l.length c ∧ l.length ≤ c ∧ ∀ j (h : j < l.length), w.cell? (a.add (j * 3)) = some (Value.int .u64 (((l[j].1) : Nat) : Int)) ∧ w.cell? (a.add (j * 3 + 1)) = some (Value.int .u64 (((l[j].2.1) : Nat) : Int)) ∧ w.cell? (a.add (j * 3 + 2)) = some (Value.string (l[j].2.2))
theorem VtIn.below {w w' : World} {v : Value} {l : List (Nat × Nat × ByteArray)} {n : Nat} (h : VtIn w v l) (hb : Below n w w') (hn : w.heap.size ≤ n) : VtIn w' v l := by
  rcases h with h | ⟨a, c, rfl, hcap, hx⟩
  · exact .inl h
  · refine .inr ⟨a, c, rfl, hcap, fun j hj => ?_⟩
    have hx' := hx j hj
    have hbl : a.block < n := by have := cell_block hx'.1; omega
    exact ⟨(hb.cell (p := a.add (j * 3)) (by rw [add_block]; exact hbl)).trans hx'.1, (hb.cell (p := a.add (j * 3 + 1)) (by rw [add_block]; exact hbl)).trans hx'.2.1, (hb.cell (p := a.add (j * 3 + 2)) (by rw [add_block]; exact hbl)).trans hx'.2.2⟩
theorem open_VtIn {H : Type} {enc : TypeId × Value → H} {W : World} {r : Reach} {b0 base : Nat} {spare : Nat → Bool} {held : Bool} {v : Value} {d : DataW H} {p : List MemPlace} (hv : Value.okWide Try.prog W r b0 33 v) (h : DataW.Trod enc Try.prog W base spare held 33 v d p) :
    ∃ l : List (Nat × Nat × ByteArray), VtIn W v l ∧ l.length ≤ maxLen ∧ ∀ x ∈ l, (x.1 < 2 ^ 64 ∧ x.2.1 < 2 ^ 64 ∧ (x.2.2).size ≤ maxLen) := by
  obtain ⟨a0, len, cap, rfl⟩ := okWide_slice Try.underlying33 hv
  obtain ⟨fuel, hf⟩ := h
  have cE : Try.prog.cellsOf 24 = 3 := by kernel_rfl
  have c_string : Try.prog.cellsOf 9 = 1 := by kernel_rfl
  have c_u64 : Try.prog.cellsOf 22 = 1 := by kernel_rfl
  rcases Deep.open_slice Try.underlying33 hf with ⟨hcs, hx⟩ | ⟨a, len', cap', m, n, D, Pl, hcs, _, hl, hm, hmm, hx, hel⟩
  · simp [Value.cells] at hcs
    obtain ⟨rfl, rfl, rfl⟩ := hcs
    exact ⟨[], .inl ⟨rfl, rfl⟩, Nat.zero_le _, fun x hx => by cases hx⟩
  · simp [Value.cells] at hcs
    obtain ⟨rfl, rfl, rfl⟩ := hcs
    have hlm : len ≤ m := by rw [hmm]; split <;> omega
    have each : ∀ i, i < len → ∃ q : Nat × Nat × ByteArray, (W.cell? (a.add (i * 3)) = some (Value.int .u64 ((q.1 : Nat) : Int)) ∧ W.cell? (a.add (i * 3 + 1)) = some (Value.int .u64 ((q.2.1 : Nat) : Int)) ∧ W.cell? (a.add (i * 3 + 2)) = some (Value.string q.2.2)) ∧ q.1 < 2 ^ 64 ∧ q.2.1 < 2 ^ 64 ∧ (q.2.2).size ≤ maxLen := by
      intro i hi
      obtain ⟨cs', h1, h2⟩ := hel i (by omega)
      rw [cE] at h1
      obtain ⟨_, hlen, hcell⟩ := World.cells?_some h1
      obtain ⟨xs, k, hk, hxy, _, hxl, hfs⟩ := DataW.trod_struct Try.underlying24 h2
      match xs, hxl, cs', hlen with
      | [y0, y1, y2], _, [v0, v1, v2], _ =>
        have k0 : DataW.trod enc Try.prog W base spare held k 22 (([v0, v1, v2].drop 0).take (Try.prog.cellsOf 22)) = some y0 := hfs 0 _ rfl
        rw [c_u64] at k0
        change DataW.trod enc Try.prog W base spare held k 22 [v0] = some y0 at k0
        obtain ⟨z0, e0, _, g0⟩ := DataW.trod_int Try.underlying22 k0
        simp only [List.cons.injEq, and_true] at e0
        obtain ⟨b0, rfl, t0⟩ := u64_of_wf g0
        have f0 := hcell 0 (by omega)
        rw [Deep.add_add] at f0
        have k1 : DataW.trod enc Try.prog W base spare held k 22 (([v0, v1, v2].drop 1).take (Try.prog.cellsOf 22)) = some y1 := hfs 1 _ rfl
        rw [c_u64] at k1
        change DataW.trod enc Try.prog W base spare held k 22 [v1] = some y1 at k1
        obtain ⟨z1, e1, _, g1⟩ := DataW.trod_int Try.underlying22 k1
        simp only [List.cons.injEq, and_true] at e1
        obtain ⟨b1, rfl, t1⟩ := u64_of_wf g1
        have f1 := hcell 1 (by omega)
        rw [Deep.add_add] at f1
        have k2 : DataW.trod enc Try.prog W base spare held k 9 (([v0, v1, v2].drop 2).take (Try.prog.cellsOf 9)) = some y2 := hfs 2 _ rfl
        rw [c_string] at k2
        change DataW.trod enc Try.prog W base spare held k 9 [v2] = some y2 at k2
        obtain ⟨z2, e2, _, g2⟩ := DataW.trod_string Try.underlying9 k2
        simp only [List.cons.injEq, and_true] at e2
        have f2 := hcell 2 (by omega)
        rw [Deep.add_add] at f2
        subst e0 e1 e2
        exact ⟨(b0, b1, z2), ⟨by simpa using f0, by simpa using f1, by simpa using f2⟩, ⟨t0, t1, g2⟩⟩
    haveI : Inhabited (Nat × Nat × ByteArray) := ⟨(0, 0, ByteArray.empty)⟩
    obtain ⟨q, hq⟩ := Deep.choose_lt each
    have hlen : ((List.range len).map q).length = len := by simp
    refine ⟨(List.range len).map q, .inr ⟨a, cap, by rw [hlen], (by rw [hlen]; omega), fun j hj => ?_⟩, by rw [hlen]; omega, fun x hx => ?_⟩
    · have hj' : j < len := by rw [hlen] at hj; exact hj
      have hg : ((List.range len).map q)[j] = q j := by simp
      rw [hg]
      exact (hq j hj').1
    · obtain ⟨j, hj, rfl⟩ := List.mem_map.1 hx
      exact (hq j (List.mem_range.1 hj)).2
end Go.Proofs.Ytigameebcicgpaa
