/-
  Mathematics of stores: what one keeps, how many bytes it holds.
-/
import Derived.Test.YtfbponiiejanfaaJRec
import Derived.Test.YtfbponiiejanfaaJWhole
import Derived.Test.YtfbponiiejanfaaJSame
namespace Go.Proofs.Ytfbponiiejanfaa
open Go.RowKit Go.Shelf
set_option linter.unusedVariables false
set_option linter.unusedSimpArgs false

/-- What a store keeps: the snapshot's data, the records' data, what a cut write has left of a record, the capacity, what it does at the next write, how many bytes are kept then. -/
structure St where
  snap : Option (List UInt8)
  ds : List (List UInt8)
  torn : Option (List UInt8)
  cap : Nat
  state : Int
  keep : Int
namespace St
/-- The snapshot's record. -/
def mark (S : St) : List UInt8 := match S.snap with | none => [] | some d => J.rec d
/-- The journal's bytes, write by write. -/
def pieces (S : St) : List (List UInt8) := S.ds.map J.rec ++ S.torn.toList
def sum (l : List (List UInt8)) : Nat := (l.map List.length).sum
def held (S : St) : Nat := S.mark.length + sum S.pieces
/-- A part of a record that is none. -/
def Torn (t : List UInt8) : Prop := t.length ≤ 5000 ∧ J.read t = [] ∧ J.end' t = 0
structure Ok (S : St) : Prop where
  recs : ∀ d ∈ S.ds, d.length ≤ 4096
  snap : ∀ d, S.snap = some d → d.length ≤ 4096
  torn : ∀ t, S.torn = some t → Torn t
  cap : S.held ≤ S.cap
  most : S.cap ≤ 1048576
theorem sum_append (a b : List (List UInt8)) : sum (a ++ b) = sum a + sum b := by simp [sum]
theorem sum_recs (ds : List (List UInt8)) : 9 * ds.length ≤ sum (ds.map J.rec) := by
  induction ds with
  | nil => simp [sum]
  | cons d ds ih =>
    simp only [sum, List.map_cons, List.sum_cons, List.length_cons, J.rec_length] at ih ⊢
    omega
theorem ds_few {S : St} (h : S.Ok) : S.ds.length ≤ 116508 := by
  have h1 := sum_recs S.ds
  have h2 := h.cap
  have h3 := h.most
  rw [held, pieces, sum_append] at h2
  omega
theorem pieces_len (S : St) : S.pieces.length = S.ds.length + S.torn.toList.length := by simp [pieces]
theorem torn_len (S : St) : S.torn.toList.length ≤ 1 := by cases S.torn <;> simp
theorem pieces_few {S : St} (h : S.Ok) : S.pieces.length ≤ 116509 := by
  have := ds_few h
  have := S.torn_len
  rw [S.pieces_len]; omega
theorem held_small {S : St} (h : S.Ok) : S.held ≤ 1048576 := Nat.le_trans h.cap h.most
/-- What stands at a place: a record, or what is torn. -/
theorem piece_at {S : St} (h : S.Ok) (k : Nat) (x : List UInt8) (hx : S.pieces[k]? = some x) :
    (∃ hk : k < S.ds.length, x = J.rec S.ds[k]) ∨ (k = S.ds.length ∧ S.torn = some x ∧ S.pieces.length = k + 1) := by
  by_cases hk : k < S.ds.length
  · left
    refine ⟨hk, ?_⟩
    rw [pieces, List.getElem?_append_left (by simpa using hk), List.getElem?_map, List.getElem?_eq_getElem hk] at hx
    exact (Option.some.inj hx).symm
  · right
    rw [pieces, List.getElem?_append_right (by simpa using hk), List.length_map] at hx
    have hl := S.pieces_len
    cases ht : S.torn with
    | none => rw [ht] at hx; simp at hx
    | some t =>
      rw [ht] at hx hl
      simp only [Option.toList_some, List.length_cons, List.length_nil, List.getElem?_singleton] at hx hl
      by_cases h0 : k - S.ds.length = 0
      · rw [if_pos h0] at hx
        exact ⟨by omega, hx, by omega⟩
      · rw [if_neg h0] at hx; cases hx
theorem read_one {S : St} (h : S.Ok) (k : Nat) (hk : k < S.ds.length) : J.read (J.rec S.ds[k]) = [S.ds[k]] ∧ J.end' (J.rec S.ds[k]) = (J.rec S.ds[k]).length := by
  have hd := h.recs _ (List.getElem_mem hk)
  obtain ⟨h1, h2⟩ := J.read_rec S.ds[k] [] hd
  rw [List.append_nil] at h1 h2
  rw [h1, h2, J.read_nil.1, J.read_nil.2, J.rec_length]
  exact ⟨rfl, rfl⟩
theorem piece_small {S : St} (h : S.Ok) (k : Nat) (x : List UInt8) (hx : S.pieces[k]? = some x) : x.length ≤ 5000 := by
  rcases piece_at h k x hx with ⟨hk, rfl⟩ | ⟨_, ht, _⟩
  · have := h.recs _ (List.getElem_mem hk)
    rw [J.rec_length]; omega
  · exact (h.torn _ ht).1
end St
/-- The store's cells. -/
def cells (S : St) (v : Value) : Array Value := #[strV S.mark, v, .int .i64 (S.held : Int), .int .i64 (S.cap : Int), .int .i64 S.state, .int .i64 S.keep]
/-- Block B is the store S; its journal's bytes are v. -/
structure Is (S : St) (B : Nat) (v : Value) (w : World) : Prop where
  row : w.heap[B]? = some (.cells (cells S v) 48 (0, 0))
  own : w.ownsRow (B + 1) 9 1 v S.pieces.length (S.pieces.map strV)
  ok : S.Ok
/-- All lies as it lay, but block B and block o. -/
structure Still (B : Nat) (o : Option Nat) (w w' : World) : Prop where
  os : w'.os = w.os
  tape : w'.tape = w.tape
  output : w'.output = w.output
  size : w.heap.size ≤ w'.heap.size
  block : ∀ k, k < w.heap.size → k ≠ B → o ≠ some k → w'.heap[k]? = w.heap[k]?
namespace Still
variable {B : Nat} {o : Option Nat} {w w' w'' : World}
theorem refl (B : Nat) (o : Option Nat) (w : World) : Still B o w w := ⟨rfl, rfl, rfl, Nat.le_refl _, fun _ _ _ _ => rfl⟩
theorem of_below (h : Below w.heap.size w w') : Still B o w w' := ⟨h.os, h.tape, h.output, h.size, fun k hk _ _ => h.block k hk⟩
theorem trans {o' : Option Nat} (h : Still B o w w') (h' : Still B o' w' w'') (ho : ∀ g, o' = some g → o = some g ∨ w.heap.size ≤ g) : Still B o w w'' :=
  ⟨h'.os.trans h.os, h'.tape.trans h.tape, h'.output.trans h.output, Nat.le_trans h.size h'.size, fun k hk hB hn => by
    refine (h'.block k (Nat.lt_of_lt_of_le hk h.size) hB (fun e => ?_)).trans (h.block k hk hB hn)
    rcases ho k e with e' | e'
    · exact hn e'
    · omega⟩
theorem setCell (h : Still B o w w') (p : Addr) (v : Value) (hp : p.block = B) : Still B o w (w'.setCell p v) :=
  ⟨h.os, h.tape, h.output, by have := (KeepsWalks.setCell w' p v).size; have := h.size; omega, fun k hk hB hn =>
    (Below.heap_setCell w' p v k (fun e => hB (e.trans hp))).trans (h.block k hk hB hn)⟩
theorem grown (h : Still B o w w') (hg : w'.grownBy w'' o) : Still B o w w'' :=
  ⟨hg.os.trans h.os, hg.tape.trans h.tape, hg.output.trans h.output, Nat.le_trans h.size hg.size, fun k hk hB hn =>
    (hg.block k (Nat.lt_of_lt_of_le hk h.size) (fun e => hn e.symm)).trans (h.block k hk hB hn)⟩
theorem below {n : Nat} (h : Still B o w w') (hn : n ≤ w.heap.size) (hB : n ≤ B) (ho : ∀ g, o = some g → n ≤ g) : Below n w w' :=
  ⟨h.os, h.tape, h.output, h.size, fun k hk => h.block k (by omega) (by omega) (fun e => by have := ho k e; omega)⟩
end Still
/-- Behind a call block B is the store S, and nothing else has turned but its journal. -/
def Turns (S : St) (B : Nat) (v : Value) (w w' : World) : Prop := ∃ v', Is S B v' w' ∧ (∀ g, v'.ownBlock = some g → v.ownBlock = some g ∨ w.heap.size ≤ g) ∧ Still B v.ownBlock w w'
theorem owns_keep {w w' : World} {base n : Nat} {v : Value} {xs : List Value} {t : TypeId} (h : w.ownsRow base t 1 v n xs) (hb : ∀ g, v.ownBlock = some g → w'.heap[g]? = w.heap[g]?) : w'.ownsRow base t 1 v n xs := by
  refine ⟨h.1, ?_⟩
  rcases h.2 with h0 | ⟨g, cap, cur, rfl, hbg, hg, rest⟩
  · exact .inl h0
  · exact .inr ⟨g, cap, cur, rfl, hbg, (hb g rfl).trans hg, rest⟩
theorem owns_base {w : World} {base n : Nat} {v : Value} {xs : List Value} {t : TypeId} (h : w.ownsRow base t 1 v n xs) : ∀ g, v.ownBlock = some g → base ≤ g ∧ g < w.heap.size := fun g hg => by
  rcases h.2 with ⟨rfl, _⟩ | ⟨g', cap, cur, rfl, hbg, hgw, _⟩
  · cases hg
  · cases hg; exact ⟨hbg, (Array.getElem?_eq_some_iff.1 hgw).1⟩
theorem Is.below {S : St} {B : Nat} {v : Value} {w w' : World} (h : Is S B v w) (hb : Below w.heap.size w w') : Is S B v w' :=
  ⟨(hb.block B (Array.getElem?_eq_some_iff.1 h.row).1).trans h.row, owns_keep h.own (fun g hg => hb.block g (owns_base h.own g hg).2), h.ok⟩
theorem Turns.of_below {S : St} {B : Nat} {v : Value} {w w' : World} (h : Is S B v w) (hb : Below w.heap.size w w') : Turns S B v w w' :=
  ⟨v, h.below hb, fun g hg => .inl hg, Still.of_below hb⟩
theorem Turns.trans {S' : St} {B : Nat} {v v' : Value} {w w' w'' : World} (h : Still B v.ownBlock w w') (hv : ∀ g, v'.ownBlock = some g → v.ownBlock = some g ∨ w.heap.size ≤ g) (h' : Turns S' B v' w' w'') : Turns S' B v w w'' := by
  obtain ⟨u, hI, hu, hs⟩ := h'
  refine ⟨u, hI, fun g hg => ?_, h.trans hs hv⟩
  rcases hu g hg with e | e
  · exact hv g e
  · exact .inr (Nat.le_trans h.size e)
end Go.Proofs.Ytfbponiiejanfaa
