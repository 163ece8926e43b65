/-
  FlightOnce's mathematics: what was met yet; what a round keeps.
-/
import Derived.Test.YtialmaapahjchaaFlCopies
namespace Go.Proofs.Ytialmaapahjchaa
open Go.RowKit Go.Shelf
set_option linter.unusedVariables false
set_option linter.unusedSimpArgs false

/-- What was met yet, as cells. -/
def metRow (met : Nat → Bool) : Array Value := Array.ofFn fun j : Fin 200 => .bool (met j.val)
theorem metRow_get (met : Nat → Bool) (j : Nat) (h : j < 200) : (metRow met)[j]? = some (.bool (met j)) := by
  simp [metRow, h]
theorem metRow_set (met : Nat → Bool) (j : Nat) : (metRow met).setIfInBounds j (.bool true) = metRow (fun i => if i = j then true else met i) := by
  apply Array.ext_getElem?
  intro i
  rw [Array.getElem?_setIfInBounds]
  simp only [metRow]
  by_cases h : j = i
  · subst h
    by_cases h2 : j < 200 <;> simp [h2]
  · have h' : ¬ i = j := fun e => h e.symm
    by_cases h2 : i < 200 <;> simp [h, h2, h']
theorem info_bools : (Try.prog.info? 49).map (fun i => i.zero) = some (some (.agg (metRow fun _ => false))) := by kernel_rfl
theorem zero_bools (W : World) : (zeroValue 49).run Try.prog W = .ok (.agg (metRow fun _ => false)) W := by
  have h := info_bools
  simp only [Option.map_eq_some_iff] at h
  obtain ⟨i, hi, hz⟩ := h
  simp [zeroValue, typeInfo, hi, hz]
/-- A flight's call leaves a block of another type. -/
theorem Fl.Turns.block {k : Bool} {F0 F : Fl} {B M : Nat} {v : Value} {w w' : World} (hI : Fl.Is k F0 B v w) (h : Fl.Turns k F B v w w') {cur : Array Value} {t : TypeId} (hM : w.heap[M]? = some (.cells cur t (0, 0))) (h1 : t ≠ 42) (h2 : t ≠ Fl.ty k) : w'.heap[M]? = some (.cells cur t (0, 0)) := by
  obtain ⟨v', _, _, hs⟩ := h
  refine (hs.block M (Array.getElem?_eq_some_iff.1 hM).1 (fun e => ?_) (fun e => ?_)).trans hM
  · subst e; rw [hI.row] at hM; cases hM; exact h2 rfl
  · obtain ⟨cur', hc'⟩ := hI.own.typed M e
    rw [hM] at hc'; cases hc'; exact h1 rfl
theorem u64_cases (x : Int) : (IntKind.u64.wrap x).tmod 6 = 0 ∨ (IntKind.u64.wrap x).tmod 6 = 1 ∨ (IntKind.u64.wrap x).tmod 6 = 2 ∨ (IntKind.u64.wrap x).tmod 6 = 3 ∨ (IntKind.u64.wrap x).tmod 6 = 4 ∨ (IntKind.u64.wrap x).tmod 6 = 5 := by
  have h : 0 ≤ IntKind.u64.wrap x := by
    simp only [IntKind.wrap, IntKind.signed, IntKind.bits]
    exact Int.emod_nonneg _ (by decide)
  rw [Int.tmod_eq_emod_of_nonneg h]
  omega
theorem lay_few {F : Fl} (to : Int) (s : ByteArray) (h : F.notes.length < 1000) : F.lay to s = ⟨F.notes ++ [⟨F.last + 1, to, s⟩], F.last + 1⟩ ∧ F.layN = F.last + 1 ∧ F.layE = 0 := by
  have : F.full = false := by simp [Fl.full]; omega
  simp [Fl.lay, Fl.layN, Fl.layE, this]
theorem send_yes {F : Fl} (to : Int) (s : ByteArray) (h : F.notes.length < 1000) (hn : Fl.node to = true) : F.send to s = ⟨F.notes ++ [⟨F.last + 1, to, s⟩], F.last + 1⟩ ∧ F.sendN to = F.last + 1 ∧ F.sendE to = 0 := by
  obtain ⟨h1, h2, h3⟩ := lay_few (F := F) to s h
  simp [Fl.send, Fl.sendN, Fl.sendE, hn, h1, h2, h3]
theorem send_no {F : Fl} (to : Int) (s : ByteArray) (hn : ¬ Fl.node to = true) : F.send to s = F ∧ F.sendN to = 0 ∧ F.sendE to = 2 := by
  simp [Fl.send, Fl.sendN, Fl.sendE, hn]
theorem copy_yes {F : Fl} {j : Nat} (h : F.notes.length < 1000) (hj : j < F.notes.length) : F.copy (j : Int) = ⟨F.notes ++ [⟨F.last + 1, F.notes[j].to, F.notes[j].s⟩], F.last + 1⟩ ∧ F.copyN (j : Int) = F.last + 1 ∧ F.copyE (j : Int) = 0 := by
  obtain ⟨h1, h2, h3⟩ := lay_few (F := F) F.notes[j].to F.notes[j].s h
  have hp : F.place (j : Int) = true := Fl.place_iff.2 ⟨j, rfl, hj⟩
  simp [Fl.copy, Fl.copyN, Fl.copyE, hp, h2, h3, Fl.note_at hj, h1]
theorem copy_no {F : Fl} {at' : Int} (hp : ¬ F.place at' = true) : F.copy at' = F ∧ F.copyN at' = 0 ∧ F.copyE at' = 2 := by
  simp [Fl.copy, Fl.copyN, Fl.copyE, hp]
theorem next_toNat {x : BitVec 32} {k : Nat} (h : x.toNat ≤ k) (hk : k < 1000) : (x + 1).toNat = x.toNat + 1 := by
  rw [BitVec.toNat_add]
  have : (1 : BitVec 32).toNat = 1 := rfl
  rw [this]
  omega
theorem hurt_cases (F : Fl) (at' bit : Int) (m : BitVec 32) : F.hurt at' bit m = F ∨ ∃ (j : Nat) (hj : j < F.notes.length) (s : ByteArray), F.hurt at' bit m = { F with notes := F.notes.set j { F.notes[j] with s := s } } := by
  by_cases hp : F.place at' = true
  · obtain ⟨j, rfl, hj⟩ := Fl.place_iff.1 hp
    by_cases hb : Fl.bits F.notes[j].s bit = true
    · exact .inr ⟨j, hj, txt (CrcM.chg F.notes[j].s.data.toList bit.toNat m.toNat), by simp [Fl.hurt, hp, Fl.note_at hj, hb]⟩
    · exact .inl (by simp [Fl.hurt, hp, Fl.note_at hj, hb])
  · exact .inl (by simp [Fl.hurt, hp])
/-- What holds behind k rounds. -/
structure Once (F : Fl) (met : Nat → Bool) (k : Nat) : Prop where
  few : F.notes.length ≤ k
  last : F.last.toNat ≤ k
  ids : ∀ n ∈ F.notes, n.id.toNat ≤ F.last.toNat
  nodup : (F.notes.map Nt.id).Nodup
  fresh : ∀ n ∈ F.notes, met n.id.toNat = false
  low : ∀ j, met j = true → j ≤ F.last.toNat
namespace Once
variable {F : Fl} {met : Nat → Bool} {k : Nat}
theorem start : Once Fl.new (fun _ => false) 0 := ⟨Nat.le_refl _, Nat.le_refl _, (fun n h => by cases h), List.nodup_nil, (fun n h => by cases h), (fun j h => by cases h)⟩
theorem same (h : Once F met k) : Once F met (k + 1) := ⟨Nat.le_succ_of_le h.few, Nat.le_succ_of_le h.last, h.ids, h.nodup, h.fresh, h.low⟩
theorem lay (h : Once F met k) (hk : k < 60) (to : Int) (s : ByteArray) : Once ⟨F.notes ++ [⟨F.last + 1, to, s⟩], F.last + 1⟩ met (k + 1) := by
  have hn := next_toNat h.last (by omega)
  have hl := h.last
  refine ⟨by simpa using h.few, by show (F.last + 1).toNat ≤ _; omega, fun n hn' => ?_, ?_, fun n hn' => ?_, fun j hj => ?_⟩
  · show n.id.toNat ≤ (F.last + 1).toNat
    rcases List.mem_append.1 hn' with h1 | h1
    · have := h.ids n h1; omega
    · rw [List.mem_singleton.1 h1]; exact Nat.le_refl _
  · rw [List.map_append, List.nodup_append]
    refine ⟨h.nodup, by simp, fun a ha b hb e => ?_⟩
    obtain ⟨n, hn1, rfl⟩ := List.mem_map.1 ha
    simp only [List.map_cons, List.map_nil, List.mem_singleton] at hb
    have := h.ids n hn1
    rw [e, hb] at this
    omega
  · rcases List.mem_append.1 hn' with h1 | h1
    · exact h.fresh n h1
    · rw [List.mem_singleton.1 h1]
      show met (F.last + 1).toNat = false
      cases hm : met (F.last + 1).toNat with
      | false => rfl
      | true => have := h.low _ hm; omega
  · show j ≤ (F.last + 1).toNat
    have := h.low j hj; omega
theorem drop (h : Once F met k) (j : Nat) : Once { F with notes := F.notes.eraseIdx j } met (k + 1) :=
  ⟨Nat.le_trans (List.length_eraseIdx_le _ _) (Nat.le_succ_of_le h.few), Nat.le_succ_of_le h.last, fun n hn => h.ids n (List.mem_of_mem_eraseIdx hn),
    h.nodup.sublist ((List.eraseIdx_sublist F.notes j).map Nt.id), fun n hn => h.fresh n (List.mem_of_mem_eraseIdx hn), h.low⟩
theorem take (h : Once F met k) (j : Nat) (hj : j < F.notes.length) : Once { F with notes := F.notes.eraseIdx j } (fun i => if i = F.notes[j].id.toNat then true else met i) (k + 1) := by
  have hd := h.drop j
  refine ⟨hd.few, hd.last, hd.ids, hd.nodup, fun n hn => ?_, fun i hi => ?_⟩
  · have hne : n.id ≠ F.notes[j].id := by
      intro e
      obtain ⟨i, hi, hin⟩ := List.getElem_of_mem hn
      simp only [List.getElem_eraseIdx] at hin
      have hnd : ∀ (a b : Nat) (ha : a < F.notes.length) (hb : b < F.notes.length), a < b → F.notes[a].id ≠ F.notes[b].id := fun a b ha hb hab => by
        have := List.pairwise_iff_getElem.1 h.nodup a b (by simpa using ha) (by simpa using hb) hab
        simpa using this
      have hl := List.length_eraseIdx (l := F.notes) (i := j)
      rw [if_pos hj] at hl
      have hi' : i < (F.notes.eraseIdx j).length := hi
      by_cases hij : i < j
      · simp only [hij, dif_pos] at hin
        exact hnd i j (by omega) hj hij (by rw [hin, e])
      · simp only [hij, dif_neg, not_false_iff] at hin
        exact hnd j (i + 1) hj (by omega) (by omega) (by rw [hin, e])
    have : n.id.toNat ≠ F.notes[j].id.toNat := fun e => hne (BitVec.eq_of_toNat_eq e)
    simp [this]
    exact h.fresh n (List.mem_of_mem_eraseIdx hn)
  · by_cases e : i = F.notes[j].id.toNat
    · rw [e]; exact h.ids _ (List.getElem_mem hj)
    · simp [e] at hi; exact h.low i hi
theorem hurt (h : Once F met k) (j : Nat) (hj : j < F.notes.length) (s : ByteArray) : Once { F with notes := F.notes.set j { F.notes[j] with s := s } } met (k + 1) := by
  have hm : ∀ n ∈ F.notes.set j { F.notes[j] with s := s }, ∃ n' ∈ F.notes, n.id = n'.id := fun n hn => by
    rcases List.mem_or_eq_of_mem_set hn with h1 | h1
    · exact ⟨n, h1, rfl⟩
    · exact ⟨F.notes[j], List.getElem_mem hj, by rw [h1]⟩
  refine ⟨by simpa using Nat.le_succ_of_le h.few, Nat.le_succ_of_le h.last, fun n hn => ?_, ?_, fun n hn => ?_, h.low⟩
  · obtain ⟨n', h1, h2⟩ := hm n hn
    rw [h2]; exact h.ids n' h1
  · have e : (F.notes.set j { F.notes[j] with s := s }).map Nt.id = F.notes.map Nt.id := by
      rw [List.map_set]
      apply List.ext_getElem (by simp)
      intro i h1 h2
      rw [List.getElem_set]
      split
      · rename_i e; subst e; simp
      · rfl
    rw [e]; exact h.nodup
  · obtain ⟨n', h1, h2⟩ := hm n hn
    rw [h2]; exact h.fresh n' h1
end Once
end Go.Proofs.Ytialmaapahjchaa
