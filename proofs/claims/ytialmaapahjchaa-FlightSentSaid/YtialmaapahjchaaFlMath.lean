/-
  Layer 5: what is on its way, as mathematics.
-/
import Derived.Test.YtialmaapahjchaaCrcChgMath
import Derived.Test.YtialmaapahjchaaCrcOpen
namespace Go.Proofs.Ytialmaapahjchaa
open Go.RowKit
set_option linter.unusedVariables false
set_option linter.unusedSimpArgs false

/-- A note. -/
structure Nt where
  id : BitVec 32
  to : Int
  s : ByteArray
namespace Nt
def zero : Nt := ⟨0, 0, ⟨#[]⟩⟩
/-- Its cells. -/
def cells (n : Nt) : List Value := [.int .u32 (n.id.toNat : Int), .int .i64 n.to, .string n.s]
def val (n : Nt) : Value := .agg #[.int .u32 (n.id.toNat : Int), .int .i64 n.to, .string n.s]
theorem cells_length (n : Nt) : n.cells.length = 3 := rfl
theorem cells_inj {a b : Nt} (h : a.cells = b.cells) : a = b := by
  obtain ⟨i, t, s⟩ := a
  obtain ⟨i', t', s'⟩ := b
  simp only [cells, List.cons.injEq, Value.int.injEq, Value.string.injEq, true_and, and_true] at h
  obtain ⟨h1, h2, h3⟩ := h
  have : i = i' := BitVec.eq_of_toNat_eq (by omega)
  subst this h2 h3
  rfl
end Nt
/-- The cells of a list of notes. -/
def flat (l : List Nt) : List Value := l.flatMap Nt.cells
theorem flat_nil : flat [] = [] := rfl
theorem flat_cons (n : Nt) (l : List Nt) : flat (n :: l) = n.cells ++ flat l := rfl
theorem flat_append (a b : List Nt) : flat (a ++ b) = flat a ++ flat b := List.flatMap_append
theorem flat_length (l : List Nt) : (flat l).length = l.length * 3 := by
  induction l with
  | nil => rfl
  | cons n l ih => rw [flat_cons, List.length_append, ih, Nt.cells_length, List.length_cons]; omega
theorem flat_take (l : List Nt) (k : Nat) : (flat l).take (k * 3) = flat (l.take k) := by
  induction l generalizing k with
  | nil => simp [flat]
  | cons n l ih =>
    cases k with
    | zero => simp [flat]
    | succ k =>
      rw [List.take_succ_cons, flat_cons, flat_cons, ← ih k, show (k + 1) * 3 = n.cells.length + k * 3 from by rw [Nt.cells_length]; omega, List.take_length_add_append]
theorem flat_drop (l : List Nt) (k : Nat) : (flat l).drop (k * 3) = flat (l.drop k) := by
  induction l generalizing k with
  | nil => simp [flat]
  | cons n l ih =>
    cases k with
    | zero => simp [flat]
    | succ k =>
      rw [List.drop_succ_cons, flat_cons, ← ih k, show (k + 1) * 3 = n.cells.length + k * 3 from by rw [Nt.cells_length]; omega, List.drop_length_add_append]
theorem flat_get (l : List Nt) (k i : Nat) (hi : i < 3) (hk : k < l.length) : (flat l)[k * 3 + i]? = l[k].cells[i]? := by
  rw [← List.getElem?_drop, flat_drop, List.drop_eq_getElem_cons hk, flat_cons, List.getElem?_append_left (by rw [Nt.cells_length]; exact hi)]
theorem flat_one (l : List Nt) : ∀ u ∈ flat l, u.oneCell' = true := by
  intro u hu
  obtain ⟨n, _, hn⟩ := List.mem_flatMap.1 hu
  simp only [Nt.cells, List.mem_cons, List.not_mem_nil, or_false] at hn
  rcases hn with rfl | rfl | rfl <;> rfl
theorem flat_set (l : List Nt) (k : Nat) (n : Nt) (hk : k < l.length) : flat (l.set k n) = (((flat l).set (k * 3) (.int .u32 (n.id.toNat : Int))).set (k * 3 + 1) (.int .i64 n.to)).set (k * 3 + 2) (.string n.s) := by
  induction l generalizing k with
  | nil => simp at hk
  | cons m l ih =>
    cases k with
    | zero => simp [flat_cons, Nt.cells]
    | succ k =>
      rw [List.set_cons_succ, flat_cons, flat_cons, ih k (by simpa using hk)]
      have e : (k + 1) * 3 = k * 3 + 3 := by omega
      rw [e]
      simp [Nt.cells]
/-- What a flight keeps: its notes, the last number. -/
structure Fl where
  notes : List Nt
  last : BitVec 32
namespace Fl
def new : Fl := ⟨[], 0⟩
/-- Is it a place? -/
def place (F : Fl) (at' : Int) : Bool := decide (0 ≤ at') && decide (at' < (F.notes.length : Int))
/-- Where nothing more is laid: what is wrong. -/
def full (F : Fl) : Bool := decide (1000 ≤ F.notes.length)
def lay (F : Fl) (to : Int) (s : ByteArray) : Fl := if F.full then F else ⟨F.notes ++ [⟨F.last + 1, to, s⟩], F.last + 1⟩
def layN (F : Fl) : BitVec 32 := if F.full then 0 else F.last + 1
def layE (F : Fl) : Int := if F.full then 30 else 0
def node (to : Int) : Bool := decide (0 ≤ to) && decide (to < 16)
def send (F : Fl) (to : Int) (s : ByteArray) : Fl := if node to then F.lay to s else F
def sendN (F : Fl) (to : Int) : BitVec 32 := if node to then F.layN else 0
def sendE (F : Fl) (to : Int) : Int := if node to then F.layE else 2
/-- The note at a place; none. -/
def note (F : Fl) (at' : Int) : Nt := if F.place at' then F.notes.getD at'.toNat Nt.zero else Nt.zero
def checkE (F : Fl) (at' : Int) : Int := if F.place at' then 0 else 2
def drop (F : Fl) (at' : Int) : Fl := if F.place at' then { F with notes := F.notes.eraseIdx at'.toNat } else F
def copy (F : Fl) (at' : Int) : Fl := if F.place at' then F.lay (F.note at').to (F.note at').s else F
def copyN (F : Fl) (at' : Int) : BitVec 32 := if F.place at' then F.layN else 0
def copyE (F : Fl) (at' : Int) : Int := if F.place at' then F.layE else 2
def bits (s : ByteArray) (bit : Int) : Bool := decide (0 ≤ bit) && decide (bit < 8 * (s.size : Int))
def hurtE (F : Fl) (at' bit : Int) : Int := if F.place at' then (if bits (F.note at').s bit then 0 else 2) else 2
def hurt (F : Fl) (at' bit : Int) (m : BitVec 32) : Fl :=
  if F.place at' then (if bits (F.note at').s bit then { F with notes := F.notes.set at'.toNat { F.note at' with s := txt (CrcM.chg (F.note at').s.data.toList bit.toNat m.toNat) } } else F) else F
/-- The first place of a note to a node. -/
def first (l : List Nt) (to : Int) : Option Nat := l.findIdx? fun n => decide (n.to = to)
def oldest (F : Fl) (to : Int) : Int := match first F.notes to with | some k => (k : Int) | none => -1
/-- So many, of so many bytes. -/
structure Ok (F : Fl) : Prop where
  few : F.notes.length ≤ 1000
  small : ∀ n ∈ F.notes, n.s.size ≤ 10000
theorem new_ok : new.Ok := ⟨Nat.zero_le _, fun n h => by cases h⟩
theorem place_iff {F : Fl} {at' : Int} : F.place at' = true ↔ ∃ k : Nat, at' = (k : Int) ∧ k < F.notes.length := by
  simp only [place, Bool.and_eq_true, decide_eq_true_eq]
  constructor
  · rintro ⟨h1, h2⟩
    exact ⟨at'.toNat, by omega, by omega⟩
  · rintro ⟨k, rfl, h⟩
    exact ⟨by omega, by omega⟩
theorem note_at {F : Fl} {k : Nat} (h : k < F.notes.length) : F.note (k : Int) = F.notes[k] := by
  have : F.place (k : Int) = true := place_iff.2 ⟨k, rfl, h⟩
  simp [note, this, h]
theorem note_small {F : Fl} (h : F.Ok) (at' : Int) : (F.note at').s.size ≤ 10000 := by
  unfold note
  split
  · rename_i hp
    obtain ⟨k, rfl, hk⟩ := place_iff.1 hp
    simp only [Int.toNat_natCast, List.getD_eq_getElem?_getD, List.getElem?_eq_getElem hk, Option.getD_some]
    exact h.small _ (List.getElem_mem hk)
  · simp [Nt.zero, ByteArray.size]
theorem lay_ok {F : Fl} (h : F.Ok) (to : Int) (s : ByteArray) (hs : s.size ≤ 10000) : (F.lay to s).Ok := by
  unfold lay
  split
  · exact h
  · rename_i hf
    simp only [full, decide_eq_true_eq] at hf
    refine ⟨by simp; omega, fun n hn => ?_⟩
    rcases List.mem_append.1 hn with hn | hn
    · exact h.small n hn
    · rw [List.mem_singleton.1 hn]; exact hs
theorem send_ok {F : Fl} (h : F.Ok) (to : Int) (s : ByteArray) (hs : s.size ≤ 10000) : (F.send to s).Ok := by
  unfold send; split
  · exact lay_ok h _ _ hs
  · exact h
theorem copy_ok {F : Fl} (h : F.Ok) (at' : Int) : (F.copy at').Ok := by
  unfold copy; split
  · exact lay_ok h _ _ (note_small h at')
  · exact h
theorem drop_ok {F : Fl} (h : F.Ok) (at' : Int) : (F.drop at').Ok := by
  unfold drop; split
  · exact ⟨Nat.le_trans (List.length_eraseIdx_le _ _) h.few, fun n hn => h.small n (List.mem_of_mem_eraseIdx hn)⟩
  · exact h
theorem txt_len (l : List UInt8) : (txt l).size = l.length := txt_size l
theorem hurt_ok {F : Fl} (h : F.Ok) (at' bit : Int) (m : BitVec 32) : (F.hurt at' bit m).Ok := by
  unfold hurt; split
  · split
    · refine ⟨by simpa using h.few, fun n hn => ?_⟩
      rcases List.mem_or_eq_of_mem_set hn with hn | rfl
      · exact h.small n hn
      · have := note_small h at'
        show (txt _).size ≤ 10000
        rw [txt_size, CrcM.chg_length]
        simpa using this
    · exact h
  · exact h
end Fl
end Go.Proofs.Ytialmaapahjchaa
