/-
  A script over a line between two ends, as mathematics.
-/
import Derived.Test.YtlbhfkiihikimaaLkPair
namespace Go.Proofs.Ytlbhfkiihikimaa
open Go.RowKit
set_option linter.unusedVariables false
set_option linter.unusedSimpArgs false

/-- A step of a script. -/
structure Sp where
  d : Int
  at' : Int
  s : ByteArray
/-- Two ends, what is on its way, what was sent, what came. -/
structure Ws where
  a : Lk
  b : Lk
  way : List Fr
  sent : List ByteArray
  came : List ByteArray
namespace Ws
def begin' (window : Int) : Ws := ⟨Lk.new 1 2 2 window 3, Lk.new 2 1 2 window 4, [], [], []⟩
/-- Which one is meant. -/
def pos (S : Ws) (x : Sp) : Nat := if S.way.length = 0 then 0 else (x.at' % 18446744073709551616 % (S.way.length : Int)).toNat
def kind (x : Sp) : Nat := (x.d % 18446744073709551616 % 6).toNat
theorem kind_lt (x : Sp) : kind x < 6 := by unfold kind; omega
theorem pos_lt (S : Ws) (x : Sp) (h : S.way.length ≠ 0) : S.pos x < S.way.length := by
  unfold pos; rw [if_neg h]
  have h1 := Int.emod_lt_of_pos (x.at' % 18446744073709551616) (show (0 : Int) < (S.way.length : Int) by omega)
  have h2 := Int.emod_nonneg (x.at' % 18446744073709551616) (show (S.way.length : Int) ≠ 0 by omega)
  omega
def drop (S : Ws) (k : Nat) : Ws := { S with way := S.way.take k ++ S.way.drop (k + 1) }
def send (S : Ws) (s : ByteArray) : Ws := if S.a.sendE s = 0 then { S with a := S.a.send s, sent := S.sent ++ [s] } else S
def outs (S : Ws) : Ws := if S.way.length < 200 then { S with way := S.way ++ S.a.sent } else S
/-- A frame comes. -/
def take (S : Ws) (y : Fr) : Ws := if y.dst = 2 then { S with b := S.b.recv y, came := S.came ++ S.b.recvD y, way := S.way ++ S.b.recvA y } else { S with a := S.a.recv y }
def nilFr : Fr := Fr.nil
def get (S : Ws) (k : Nat) : Fr := (S.way[k]?).getD Fr.nil
def comes (S : Ws) (k : Nat) : Ws := if S.way.length = 0 then S else (S.drop k).take (S.get k)
def lose (S : Ws) (k : Nat) : Ws := if S.way.length = 0 then S else S.drop k
def again (S : Ws) (k : Nat) : Ws := if S.way.length = 0 then S else if S.way.length < 200 then { S with way := S.way ++ [S.get k] } else S
def step (S : Ws) (x : Sp) : Ws :=
  match kind x with
  | 0 => S.send (hun x.s)
  | 1 => S.outs
  | 3 => S.lose (S.pos x)
  | 4 => S.again (S.pos x)
  | _ => S.comes (S.pos x)
/-- A frame of data from the first end; an answer of the second one. -/
def IsData (sent : List ByteArray) (f : Fr) : Prop := f.kind = 1 ∧ f.src = 1 ∧ f.dst = 2 ∧ f.life = 3 ∧ ∃ n, f.seq = Lk.bv (n + 1) ∧ sent[n]? = some f.data
def IsAck (got : Nat) (f : Fr) : Prop := f.kind = 2 ∧ f.src = 2 ∧ f.dst = 1 ∧ f.life = 3 ∧ f.data = ⟨#[]⟩ ∧ ∃ n, f.ack = Lk.bv n ∧ n ≤ got
/-- What holds behind k steps. -/
structure Fits (W : Int) (k : Nat) (S : Ws) : Prop where
  am : S.a.me = 1 ∧ S.a.peer = 2 ∧ S.a.wire = 2 ∧ S.a.window = W ∧ S.a.life = 3
  bm : S.b.me = 2 ∧ S.b.peer = 1 ∧ S.b.wire = 2
  win : 1 ≤ W ∧ W ≤ 64
  few : S.sent.length ≤ k
  top : S.a.top = S.sent.length
  out : S.a.out = S.sent.drop S.a.base
  full : (S.a.out.length : Int) ≤ W
  ack : S.a.base ≤ S.b.got
  got : S.b.got ≤ S.sent.length
  came : S.came = S.sent.take S.b.got
  life : (S.b.plife = 0 ∧ S.b.got = 0) ∨ S.b.plife = 3
  bout : S.b.out = [] ∧ S.b.base = 0
  small : ∀ s ∈ S.sent, s.size ≤ 100
  way : ∀ f ∈ S.way, IsData S.sent f ∨ IsAck S.b.got f
  len : S.way.length ≤ 264
variable {W : Int} {k : Nat} {S : Ws}
theorem Fits.begin' (h : 1 ≤ W ∧ W ≤ 64) : Fits W 0 (begin' W) where
  am := ⟨rfl, rfl, rfl, rfl, rfl⟩
  bm := ⟨rfl, rfl, rfl⟩
  win := h
  few := Nat.le_refl _
  top := rfl
  out := rfl
  full := by simp [Ws.begin', Lk.new]; omega
  ack := Nat.le_refl _
  got := Nat.le_refl _
  came := rfl
  life := .inl ⟨rfl, rfl⟩
  bout := ⟨rfl, rfl⟩
  small := fun s hs => by cases hs
  way := fun f hf => by cases hf
  len := Nat.zero_le _
theorem Fits.mono (h : Fits W k S) {j : Nat} (hj : k ≤ j) : Fits W j S := { h with few := Nat.le_trans h.few hj }
theorem IsData.mono {sent : List ByteArray} {f : Fr} (h : IsData sent f) (s : ByteArray) : IsData (sent ++ [s]) f := by
  obtain ⟨h1, h2, h3, h4, n, h5, h6⟩ := h
  refine ⟨h1, h2, h3, h4, n, h5, ?_⟩
  rw [List.getElem?_append_left (List.getElem?_eq_some_iff.1 h6).1]; exact h6
theorem IsAck.mono {g g' : Nat} {f : Fr} (h : IsAck g f) (hg : g ≤ g') : IsAck g' f := by
  obtain ⟨h1, h2, h3, h4, h5, n, h6, h7⟩ := h
  exact ⟨h1, h2, h3, h4, h5, n, h6, by omega⟩
theorem Fits.send (h : Fits W k S) (s : ByteArray) (hs : s.size ≤ 100) : Fits W (k + 1) (S.send s) := by
  unfold Ws.send
  split
  · rename_i he
    have hw : (S.a.out.length : Int) < W := by
      unfold Lk.sendE at he
      rw [h.am.2.2.2.1] at he
      split at he
      · omega
      · split at he <;> omega
    have hsend : S.a.send s = { S.a with out := S.a.out ++ [s] } := by unfold Lk.send; rw [if_pos he]
    have htop := h.top
    have hb : S.a.base ≤ S.sent.length := by unfold Lk.top at htop; omega
    rw [hsend]
    exact {
      am := h.am, bm := h.bm, win := h.win
      few := by simpa using h.few
      top := by simp only [Lk.top, List.length_append, List.length_cons, List.length_nil] at *; omega
      out := by simp only; rw [h.out, List.drop_append_of_le_length hb]
      full := by simp only [List.length_append, List.length_cons, List.length_nil]; omega
      ack := h.ack
      got := by simp only [List.length_append]; have := h.got; omega
      came := by simp only; rw [h.came, List.take_append_of_le_length h.got]
      life := h.life, bout := h.bout
      small := fun x hx => by
        rcases List.mem_append.1 hx with hx | hx
        · exact h.small x hx
        · rw [List.mem_singleton.1 hx]; exact hs
      way := fun f hf => (h.way f hf).imp (fun h => h.mono s) id
      len := h.len }
  · exact h.mono (Nat.le_succ k)
theorem sent_data (h : Fits W k S) : ∀ f ∈ S.a.sent, IsData S.sent f := by
  intro f hf
  obtain ⟨x, hx, rfl⟩ := List.mem_map.1 hf
  obtain ⟨j, hj, hjx⟩ := List.mem_iff_getElem.1 hx
  have hjl : j < S.a.out.length := by rwa [Lk.pend_length] at hj
  have hp := S.a.pend_get j hjl
  rw [List.getElem?_eq_getElem hj, hjx] at hp
  simp only [Option.some.injEq] at hp
  subst hp
  obtain ⟨h1, h2, h3, h4, h5⟩ := h.am
  refine ⟨rfl, h1, h2, h5, S.a.base + j, rfl, ?_⟩
  have : S.a.out[j]? = some S.a.out[j] := List.getElem?_eq_getElem hjl
  simp only [Lk.made]
  rw [← this, h.out, List.getElem?_drop]
theorem Fits.outs (h : Fits W k S) : Fits W k S.outs := by
  unfold Ws.outs
  split
  · exact { h with
      way := fun f hf => by
        rcases List.mem_append.1 hf with hf | hf
        · exact h.way f hf
        · exact .inl (sent_data h f hf)
      len := by simp only [List.length_append, Lk.sent_length]; have := h.full; have := h.win; omega }
  · exact h
theorem Fits.drop (h : Fits W k S) (j : Nat) : Fits W k (S.drop j) := by
  refine { h with way := fun f hf => h.way f ?_, len := ?_ }
  · rcases List.mem_append.1 hf with hf | hf
    · exact List.mem_of_mem_take hf
    · exact List.mem_of_mem_drop hf
  · simp only [Ws.drop, List.length_append, List.length_take, List.length_drop]; have := h.len; omega
theorem Fits.get (h : Fits W k S) (j : Nat) (hj : j < S.way.length) : IsData S.sent (S.get j) ∨ IsAck S.b.got (S.get j) := by
  unfold Ws.get
  rw [List.getElem?_eq_getElem hj]
  exact h.way _ (List.getElem_mem hj)
theorem Fits.lose (h : Fits W k S) (j : Nat) : Fits W k (S.lose j) := by
  unfold Ws.lose; split
  · exact h
  · exact h.drop j
theorem Fits.again (h : Fits W k S) (j : Nat) (hj : S.way.length ≠ 0 → j < S.way.length) : Fits W k (S.again j) := by
  unfold Ws.again
  split
  · exact h
  · rename_i hn
    split
    · refine { h with way := fun f hf => ?_, len := ?_ }
      · rcases List.mem_append.1 hf with hf | hf
        · exact h.way f hf
        · rw [List.mem_singleton.1 hf]; exact h.get j (hj hn)
      · simp only [List.length_append, List.length_cons, List.length_nil]; omega
    · exact h
end Ws
end Go.Proofs.Ytlbhfkiihikimaa
