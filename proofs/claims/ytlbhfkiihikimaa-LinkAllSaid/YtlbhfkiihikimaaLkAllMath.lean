/-
  What is sent comes then, and the answers: as mathematics.
-/
import Derived.Test.YtlbhfkiihikimaaLkRun2
namespace Go.Proofs.Ytlbhfkiihikimaa
open Go.RowKit
set_option linter.unusedVariables false
set_option linter.unusedSimpArgs false
namespace Ws
variable {W : Int} {k : Nat} {S T : Ws}
/-- The answer of the second end. -/
def ackOf (m : Nat) : Fr := ⟨2, 2, 2, 1, 3, 0, Lk.bv m, 0, ⟨#[]⟩⟩
theorem sent_get (h : Fits W k S) (i : Nat) (hi : i < S.a.out.length) : ∃ d f6, S.a.sent[i]? = some ⟨2, 1, 1, 2, 3, Lk.bv (S.a.base + i + 1), f6, 0, d⟩ ∧ S.sent[S.a.base + i]? = some d := by
  obtain ⟨h1, h2, h3, h4, h5⟩ := h.am
  refine ⟨S.a.out[i], Lk.bv S.a.got, ?_, ?_⟩
  · unfold Lk.sent
    rw [List.getElem?_map, S.a.pend_get i hi]
    simp only [Option.map_some, Lk.made, h1, h2, h3, h5]
  · have : S.a.out[i]? = some S.a.out[i] := List.getElem?_eq_getElem hi
    rw [← this, h.out, List.getElem?_drop]
/-- Behind i of the frames that were out. -/
structure Dl (W : Int) (S : Ws) (i : Nat) (T : Ws) : Prop where
  fits : Fits W 100 T
  way : T.way = S.a.sent
  sent : T.sent = S.sent
  got : S.a.base + i ≤ T.b.got
  base : (i = 0 ∧ T.a = S.a) ∨ T.b.got ≤ T.a.base
theorem Dl.begin (h : Fits W 100 S) : Dl W S 0 { S with way := S.a.sent } where
  fits := { h with way := fun f hf => .inl (sent_data h f hf), len := by simp only [Lk.sent_length]; have := h.full; have := h.win; omega }
  way := rfl
  sent := rfl
  got := by have := h.ack; simpa using this
  base := .inl ⟨rfl, rfl⟩
theorem Dl.step {i : Nat} (hS : Fits W 100 S) (h : Dl W S i T) (hi : i < S.a.out.length) {d : ByteArray} {f6 : BitVec 32} (hd : S.sent[S.a.base + i]? = some d) :
    ∃ m, T.b.recvA ⟨2, 1, 1, 2, 3, Lk.bv (S.a.base + i + 1), f6, 0, d⟩ = [ackOf m] ∧ Dl W S (i + 1) { { { T with b := T.b.recv ⟨2, 1, 1, 2, 3, Lk.bv (S.a.base + i + 1), f6, 0, d⟩ } with came := T.came ++ T.b.recvD ⟨2, 1, 1, 2, 3, Lk.bv (S.a.base + i + 1), f6, 0, d⟩ } with a := T.a.recv (ackOf m) } := by
  have hd' : T.sent[S.a.base + i]? = some d := by rw [h.sent]; exact hd
  obtain ⟨e1, e2, e3, e4, e5⟩ := data_recv (y := ⟨2, 1, 1, 2, 3, Lk.bv (S.a.base + i + 1), f6, 0, d⟩) h.fits (by decide) rfl rfl rfl hd'
  refine ⟨nextGot T.b.got (S.a.base + i), e3, ?_⟩
  have hway : ∀ f ∈ T.way, IsData T.sent f := fun f hf => by rw [h.way] at hf; rw [h.sent]; exact sent_data hS f hf
  have hlen : T.way.length ≤ 264 := h.fits.len
  -- the second end
  have f1 : Fits W 100 { { T with b := T.b.recv ⟨2, 1, 1, 2, 3, Lk.bv (S.a.base + i + 1), f6, 0, d⟩ } with came := T.came ++ T.b.recvD ⟨2, 1, 1, 2, 3, Lk.bv (S.a.base + i + 1), f6, 0, d⟩ } := by
    rw [e1, e2]
    exact { am := h.fits.am, bm := h.fits.bm, win := h.fits.win, few := h.fits.few, top := h.fits.top, out := h.fits.out, full := h.fits.full, ack := Nat.le_trans h.fits.ack e5, got := e4, came := rfl, life := .inr rfl, bout := h.fits.bout, small := h.fits.small, way := fun f hf => .inl (hway f hf), len := hlen }
  have hack : IsAck (T.b.recv ⟨2, 1, 1, 2, 3, Lk.bv (S.a.base + i + 1), f6, 0, d⟩).got (ackOf (nextGot T.b.got (S.a.base + i))) := ⟨rfl, rfl, rfl, rfl, rfl, _, rfl, by rw [e1]; exact Nat.le_refl _⟩
  have f2 := f1.acks (by decide) hack
  have hgot := h.got
  have hnx : S.a.base + (i + 1) ≤ nextGot T.b.got (S.a.base + i) := by unfold nextGot; split <;> omega
  have har := ack_recv f1 (by decide) (y := ackOf (nextGot T.b.got (S.a.base + i))) (m := nextGot T.b.got (S.a.base + i)) rfl rfl rfl (by rw [e1]; exact Nat.le_refl _)
  refine ⟨f2, h.way, h.sent, ?_, .inr ?_⟩
  · show _ ≤ (T.b.recv _).got
    rw [e1]; exact hnx
  · show (T.b.recv _).got ≤ (T.a.recv _).base
    simp only at har
    rw [e1, har]
    exact Nat.le_max_right _ _
theorem Dl.finish (hS : Fits W 100 S) (h : Dl W S S.a.out.length T) : T.came = S.sent ∧ T.a.out = [] := by
  have htop := hS.top
  unfold Lk.top at htop
  have hg := h.got
  have hgl := h.fits.got
  have hs := h.sent
  have e : T.b.got = S.sent.length := by rw [hs] at hgl; omega
  refine ⟨by rw [h.fits.came, e, hs, List.take_length], ?_⟩
  rcases h.base with ⟨h0, ha⟩ | hb
  · rw [ha]; exact List.eq_nil_of_length_eq_zero h0
  · rw [h.fits.out, hs]
    exact List.drop_of_length_le (by omega)
theorem out_none {L : Lk} (h : L.out = []) : L.sent = [] := by
  have := L.sent_length
  rw [h] at this
  exact List.eq_nil_of_length_eq_zero this
end Ws
end Go.Proofs.Ytlbhfkiihikimaa
