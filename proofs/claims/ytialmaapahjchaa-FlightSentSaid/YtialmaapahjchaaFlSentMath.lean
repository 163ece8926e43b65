/-
  FlightSent's mathematics: what was sent; what a round keeps.
-/
import Derived.Test.YtialmaapahjchaaFlOnceMath
namespace Go.Proofs.Ytialmaapahjchaa
open Go.RowKit Go.Shelf
set_option linter.unusedVariables false
set_option linter.unusedSimpArgs false

/-- Two hundred notes, as cells. -/
def sentRow (sent : Nat → Nt) : Array Value := (flat ((List.range 200).map sent)).toArray
theorem sentRow_get (sent : Nat → Nt) (j i : Nat) (hj : j < 200) (hi : i < 3) : (sentRow sent)[j * 3 + i]? = (sent j).cells[i]? := by
  rw [sentRow, List.getElem?_toArray, flat_get _ j i hi (by simpa using hj)]
  simp
theorem range_set (sent : Nat → Nt) (j : Nat) (hj : j < 200) (x : Nt) : ((List.range 200).map sent).set j x = (List.range 200).map (fun i => if i = j then x else sent i) := by
  apply List.ext_getElem (by simp)
  intro i h1 h2
  rw [List.getElem_set]
  simp only [List.getElem_map, List.getElem_range]
  by_cases h : j = i
  · simp [h]
  · have h' : ¬ i = j := fun e => h e.symm
    simp [h, h']
theorem sentRow_set (sent : Nat → Nt) (j : Nat) (hj : j < 200) (x : Nt) : (((sentRow sent).setIfInBounds (j * 3) (.int .u32 (x.id.toNat : Int))).setIfInBounds (j * 3 + 1) (.int .i64 x.to)).setIfInBounds (j * 3 + 2) (.string x.s) = sentRow (fun i => if i = j then x else sent i) := by
  rw [sentRow, sentRow, ← range_set sent j hj x, flat_set _ _ _ (by simpa using hj)]
  simp
theorem info_sent : (Try.prog.info? 52).map (fun i => i.zero) = some (some (.agg (sentRow fun _ => Nt.zero))) := by kernel_rfl
theorem zero_sent (W : World) : (zeroValue 52).run Try.prog W = .ok (.agg (sentRow fun _ => Nt.zero)) W := by
  have h := info_sent
  simp only [Option.map_eq_some_iff] at h
  obtain ⟨i, hi, hz⟩ := h
  simp [zeroValue, typeInfo, hi, hz]
/-- What holds behind k rounds. -/
structure Sent (F : Fl) (sent : Nat → Nt) (k : Nat) : Prop where
  few : F.notes.length ≤ k
  last : F.last.toNat ≤ k
  ids : ∀ n ∈ F.notes, n.id.toNat ≤ F.last.toNat
  same : ∀ n ∈ F.notes, sent n.id.toNat = n
namespace Sent
variable {F : Fl} {sent : Nat → Nt} {k : Nat}
theorem start : Sent Fl.new (fun _ => Nt.zero) 0 := ⟨Nat.le_refl _, Nat.le_refl _, (fun n h => by cases h), (fun n h => by cases h)⟩
theorem stay (h : Sent F sent k) : Sent F sent (k + 1) := ⟨Nat.le_succ_of_le h.few, Nat.le_succ_of_le h.last, h.ids, h.same⟩
theorem lay (h : Sent F sent k) (hk : k < 60) (to : Int) (s : ByteArray) : Sent ⟨F.notes ++ [⟨F.last + 1, to, s⟩], F.last + 1⟩ (fun i => if i = (F.last + 1).toNat then ⟨F.last + 1, to, s⟩ else sent i) (k + 1) := by
  have hn := next_toNat h.last (by omega)
  have hl := h.last
  refine ⟨by simpa using h.few, by show (F.last + 1).toNat ≤ _; omega, fun n hn' => ?_, fun n hn' => ?_⟩
  · show n.id.toNat ≤ (F.last + 1).toNat
    rcases List.mem_append.1 hn' with h1 | h1
    · have := h.ids n h1; omega
    · rw [List.mem_singleton.1 h1]; exact Nat.le_refl _
  · rcases List.mem_append.1 hn' with h1 | h1
    · have := h.ids n h1
      rw [if_neg (by omega)]; exact h.same n h1
    · rw [List.mem_singleton.1 h1]; simp
theorem drop (h : Sent F sent k) (j : Nat) : Sent { F with notes := F.notes.eraseIdx j } sent (k + 1) :=
  ⟨Nat.le_trans (List.length_eraseIdx_le _ _) (Nat.le_succ_of_le h.few), Nat.le_succ_of_le h.last, fun n hn => h.ids n (List.mem_of_mem_eraseIdx hn), fun n hn => h.same n (List.mem_of_mem_eraseIdx hn)⟩
end Sent
/-- A note among two hundred, laid: the flight lies as it lay. -/
theorem sent_set {F : Fl} {B M : Nat} {v : Value} {sent : Nat → Nt} {w w6 : World} {n₀ : Nat} (n : Nat) (hn : n < 200) (x : Nt) (hI : Fl.Is true F B v w6) (hM : w6.heap[M]? = some (.cells (sentRow sent) 52 (0, 0))) (hB : Below n₀ w w6) (hnM : n₀ ≤ M) :
    Fl.Is true F B v (((w6.setCell ⟨M, n * 3, none⟩ (.int .u32 (x.id.toNat : Int))).setCell ⟨M, n * 3 + 1, none⟩ (.int .i64 x.to)).setCell ⟨M, n * 3 + 2, none⟩ (.string x.s)) ∧
    (((w6.setCell ⟨M, n * 3, none⟩ (.int .u32 (x.id.toNat : Int))).setCell ⟨M, n * 3 + 1, none⟩ (.int .i64 x.to)).setCell ⟨M, n * 3 + 2, none⟩ (.string x.s)).heap[M]? = some (.cells (sentRow fun i => if i = n then x else sent i) 52 (0, 0)) ∧
    Below n₀ w (((w6.setCell ⟨M, n * 3, none⟩ (.int .u32 (x.id.toNat : Int))).setCell ⟨M, n * 3 + 1, none⟩ (.int .i64 x.to)).setCell ⟨M, n * 3 + 2, none⟩ (.string x.s)) := by
  have hne : B ≠ M := fun e => by rw [← e, hI.row] at hM; simp [Fl.ty] at hM
  have hown : ∀ g, v.ownBlock = some g → g ≠ M := fun g hg e => by
    subst e
    obtain ⟨cur, hc⟩ := hI.own.typed g hg
    rw [hM] at hc; simp at hc
  have hset : ∀ j, j ≠ M → (((w6.setCell ⟨M, n * 3, none⟩ (.int .u32 (x.id.toNat : Int))).setCell ⟨M, n * 3 + 1, none⟩ (.int .i64 x.to)).setCell ⟨M, n * 3 + 2, none⟩ (.string x.s)).heap[j]? = w6.heap[j]? := fun j hj =>
    (Below.heap_setCell _ _ _ j hj).trans ((Below.heap_setCell _ _ _ j hj).trans (Below.heap_setCell _ _ _ j hj))
  refine ⟨⟨(hset B hne).trans hI.row, hI.own.keep (fun g hg => hset g (hown g hg)), hI.ok⟩, ?_, ((hB.setCell (p := ⟨M, n * 3, none⟩) hnM _).setCell (p := ⟨M, n * 3 + 1, none⟩) hnM _).setCell (p := ⟨M, n * 3 + 2, none⟩) hnM _⟩
  have := Fl.row_set (Fl.row_set (Fl.row_set hM (n * 3) (.int .u32 (x.id.toNat : Int))) (n * 3 + 1) (.int .i64 x.to)) (n * 3 + 2) (.string x.s)
  rw [sentRow_set sent n hn x] at this
  exact this
theorem index_sent (M n : Nat) (h : n < 200) : ∀ W : World, (Instr.indexAt 52 (.pointer (some ⟨M, 0, none⟩)) (.int .u32 (n : Int))).run Try.prog W = .ok (.pointer (some ⟨M, n * 3, none⟩)) W := fun W => by
  have hi1 : (n : Int) < 200 := by omega
  go_simp
end Go.Proofs.Ytialmaapahjchaa
