/-
  Layer 6: one end of a line, as mathematics: its state, its calls.
-/
import Derived.Test.YtlbhfkiihikimaaFrameRight2
namespace Go.Proofs.Ytlbhfkiihikimaa
open Go.RowKit
set_option linter.unusedVariables false
set_option linter.unusedSimpArgs false

/-- One end: its nodes, version, window, life; how many were acknowledged, what is out; the peer's life, the number up to which all has come. -/
structure Lk where
  me : Int
  peer : Int
  wire : Int
  window : Int
  life : BitVec 32
  base : Nat
  out : List ByteArray
  plife : BitVec 32
  got : Nat
namespace Lk
/-- The next number to send, less one. -/
def top (L : Lk) : Nat := L.base + L.out.length
def num (n : Nat) : Value := .int .u32 ((n : Nat) : Int)
def bv (n : Nat) : BitVec 32 := BitVec.ofNat 32 n
theorem bv_toNat (n : Nat) (h : n ≤ 1000000) : (bv n).toNat = n := by unfold bv; rw [BitVec.toNat_ofNat, Nat.mod_eq_of_lt (by omega)]
/-- Its cells; M: the map's block. -/
def cells (L : Lk) (M : Nat) : Array Value :=
  #[.int .i64 L.me, .int .i64 L.peer, .int .i64 L.wire, .int .u32 (L.life.toNat : Int), .int .i64 L.window, num (L.top + 1), .map (some M), .int .u32 (L.plife.toNat : Int), num (L.got + 1)]
/-- An entry of the map: what is out with a number. -/
def entry (s : ByteArray) (n : Nat) : MapEntry := { key := num (n + 1), val := .string s, born := n }
/-- The entries: numbers from b + 1 on. -/
def entries : Nat → List ByteArray → List MapEntry
  | _, [] => []
  | b, s :: l => entry s b :: entries (b + 1) l
def mapO (L : Lk) : Obj := .map (entries L.base L.out).toArray L.top
theorem entries_length (b : Nat) (l : List ByteArray) : (entries b l).length = l.length := by
  induction l generalizing b with
  | nil => rfl
  | cons s l ih => simp [entries, ih]
theorem entries_append (b : Nat) (l r : List ByteArray) : entries b (l ++ r) = entries b l ++ entries (b + l.length) r := by
  induction l generalizing b with
  | nil => rfl
  | cons s l ih => simp only [List.cons_append, entries, ih, List.length_cons]; rw [show b + 1 + l.length = b + (l.length + 1) from by omega]
/-- What a call does. -/
def new (me peer wire window : Int) (life : BitVec 32) : Lk := ⟨me, peer, wire, window, life, 0, [], 0, 0⟩
def sendE (L : Lk) (s : ByteArray) : Int := if 4096 < s.size then 2 else if L.window ≤ (L.out.length : Int) then 30 else 0
def send (L : Lk) (s : ByteArray) : Lk := if L.sendE s = 0 then { L with out := L.out ++ [s] } else L
/-- A frame of its own. -/
def made (L : Lk) (kind : Int) (life : BitVec 32) (seq : Nat) (s : ByteArray) : Fr := ⟨L.wire, kind, L.me, L.peer, life, bv seq, bv L.got, 0, s⟩
def outsFrom (L : Lk) : Nat → List ByteArray → List Fr
  | _, [] => []
  | b, s :: l => L.made 1 L.life (b + 1) s :: outsFrom L (b + 1) l
def outs (L : Lk) : List Fr := L.outsFrom L.base L.out
theorem outsFrom_length (L : Lk) (b : Nat) (l : List ByteArray) : (L.outsFrom b l).length = l.length := by
  induction l generalizing b with
  | nil => rfl
  | cons s l ih => simp [outsFrom, ih]
/-- Is a frame one that it hears? -/
def hears (L : Lk) (f : Fr) : Bool := f.src == L.peer && f.dst == L.me
def acked (L : Lk) (f : Fr) : Lk :=
  if f.life = L.life ∧ f.ack.toNat ≤ L.top then { L with base := max L.base f.ack.toNat, out := L.out.drop (f.ack.toNat - L.base) } else L
/-- The receiver, behind the life of a frame. -/
def lived (L : Lk) (f : Fr) : Lk := if L.plife.toNat < f.life.toNat then { L with plife := f.life, got := 0 } else L
/-- Does the data come? -/
def comes (L : Lk) (f : Fr) : Bool := f.seq.toNat == L.got + 1
def took (L : Lk) (f : Fr) : Lk := if (L.lived f).comes f then { L.lived f with got := (L.lived f).got + 1 } else L.lived f
def came (L : Lk) (f : Fr) : List ByteArray := if (L.lived f).comes f then [f.data] else []
def stale (L : Lk) (f : Fr) : Bool := decide (f.life.toNat < L.plife.toNat)
/-- Receive: behind it, what comes, the answer. -/
def recv (L : Lk) (f : Fr) : Lk := if f.kind = 2 then L.acked f else if L.stale f then L else L.took f
def recvD (L : Lk) (f : Fr) : List ByteArray := if f.kind = 2 then [] else if L.stale f then [] else L.came f
def recvA (L : Lk) (f : Fr) : List Fr := if f.kind = 2 then [] else if L.stale f then [] else [(L.took f).made 2 (L.took f).plife 0 ⟨#[]⟩]
/-- What it must be for the walks: few numbers, short data. -/
structure Ok (L : Lk) : Prop where
  few : L.top ≤ 1000
  gots : L.got ≤ 1000
  small : ∀ s ∈ L.out, s.size ≤ 4096
theorem send_ok {L : Lk} (h : L.Ok) (s : ByteArray) (hl : L.top < 1000) : (L.send s).Ok := by
  unfold send
  split
  · rename_i he
    refine ⟨?_, h.gots, fun x hx => ?_⟩
    · simp only [top, List.length_append, List.length_cons, List.length_nil] at *; omega
    · rcases List.mem_append.1 hx with hx | hx
      · exact h.small x hx
      · rw [List.mem_singleton.1 hx]
        unfold sendE at he
        split at he
        · omega
        · omega
  · exact h
theorem acked_top {L : Lk} (f : Fr) : (L.acked f).top = L.top := by
  unfold acked
  split
  · rename_i he
    simp only [top, List.length_drop] at *
    omega
  · rfl
theorem acked_ok {L : Lk} (h : L.Ok) (f : Fr) : (L.acked f).Ok := by
  refine ⟨by rw [acked_top]; exact h.few, ?_, ?_⟩
  · unfold acked; split <;> exact h.gots
  · unfold acked; split
    · exact fun x hx => h.small x (List.mem_of_mem_drop hx)
    · exact h.small
theorem lived_few (L : Lk) (f : Fr) : (L.lived f).base = L.base ∧ (L.lived f).out = L.out ∧ (L.lived f).got ≤ L.got := by
  unfold lived; split
  · exact ⟨rfl, rfl, Nat.zero_le _⟩
  · exact ⟨rfl, rfl, Nat.le_refl _⟩
theorem took_few (L : Lk) (f : Fr) : (L.took f).base = L.base ∧ (L.took f).out = L.out ∧ (L.took f).got ≤ L.got + 1 := by
  obtain ⟨h1, h2, h3⟩ := lived_few L f
  unfold took; split
  · exact ⟨h1, h2, Nat.succ_le_succ h3⟩
  · exact ⟨h1, h2, by omega⟩
theorem took_ok {L : Lk} (h : L.Ok) (f : Fr) (hl : L.got < 1000) : (L.took f).Ok := by
  obtain ⟨h1, h2, h3⟩ := took_few L f
  exact ⟨by unfold top; rw [h1, h2]; exact h.few, by omega, by rw [h2]; exact h.small⟩
theorem recv_ok {L : Lk} (h : L.Ok) (f : Fr) (hl : L.got < 1000) : (L.recv f).Ok := by
  unfold recv
  split
  · exact acked_ok h f
  · split
    · exact h
    · exact took_ok h f hl
end Lk
end Go.Proofs.Ytlbhfkiihikimaa
