/-
  What a frame that comes does to a line; what holds behind a whole script.
-/
import Derived.Test.YtlbhfkiihikimaaLkRun
namespace Go.Proofs.Ytlbhfkiihikimaa
open Go.RowKit
set_option linter.unusedVariables false
set_option linter.unusedSimpArgs false
namespace Ws
variable {W : Int} {k : Nat} {S : Ws}
/-- The number up to which all has come, behind data of the number n + 1. -/
def nextGot (g n : Nat) : Nat := if n = g then g + 1 else g
theorem data_recv (h : Fits W k S) (hk : k ≤ 1000) {y : Fr} {n : Nat} (h1 : y.kind = 1) (h4 : y.life = 3) (h5 : y.seq = Lk.bv (n + 1)) (h6 : S.sent[n]? = some y.data) :
    S.b.recv y = { S.b with plife := 3, got := nextGot S.b.got n } ∧ S.came ++ S.b.recvD y = S.sent.take (nextGot S.b.got n) ∧ S.b.recvA y = [⟨2, 2, 2, 1, 3, 0, Lk.bv (nextGot S.b.got n), 0, ⟨#[]⟩⟩] ∧ nextGot S.b.got n ≤ S.sent.length ∧ S.b.got ≤ nextGot S.b.got n := by
  have hn : n < S.sent.length := (List.getElem?_eq_some_iff.1 h6).1
  have hfew := h.few
  have hst : S.b.stale y = false := by
    unfold Lk.stale
    rw [h4]
    rcases h.life with ⟨e, _⟩ | e <;> rw [e] <;> rfl
  have hlv : S.b.lived y = { S.b with plife := 3 } := by
    unfold Lk.lived
    rw [h4]
    rcases h.life with ⟨e, e2⟩ | e
    · rw [e, if_pos (by decide)]
      simp [e2]
    · rw [e, if_neg (by decide), ← e]
  have hseq : y.seq.toNat = n + 1 := by rw [h5, Lk.bv_toNat _ (by omega)]
  have hc : (S.b.lived y).comes y = decide (n = S.b.got) := by
    rw [hlv]
    unfold Lk.comes
    rw [hseq]
    by_cases he : n = S.b.got
    · subst he; simp
    · rw [decide_eq_false he, beq_eq_false_iff_ne]; show ¬ n + 1 = S.b.got + 1; omega
  have hk2 : ¬ y.kind = 2 := by omega
  obtain ⟨m1, m2, m3⟩ := h.bm
  have htook : S.b.took y = { S.b with plife := 3, got := nextGot S.b.got n } := by
    unfold Lk.took nextGot
    rw [hc, hlv]
    by_cases he : n = S.b.got
    · rw [decide_eq_true he, if_pos rfl, if_pos he]
    · rw [decide_eq_false he, if_neg (by simp), if_neg he]
  have hgn : S.b.got ≤ nextGot S.b.got n := by unfold nextGot; split <;> omega
  have hgl : nextGot S.b.got n ≤ S.sent.length := by
    have := h.got
    unfold nextGot; split <;> omega
  refine ⟨?_, ?_, ?_, hgl, hgn⟩
  · unfold Lk.recv; rw [if_neg hk2, hst, htook]; rfl
  · unfold Lk.recvD Lk.came
    rw [if_neg hk2, hst, hc, h.came]
    unfold nextGot
    by_cases he : n = S.b.got
    · subst he
      rw [decide_eq_true rfl, if_pos rfl, if_neg (by simp), if_pos rfl, List.take_add_one, h6]; rfl
    · rw [decide_eq_false he, if_neg he]; simp
  · unfold Lk.recvA
    rw [if_neg hk2, hst, htook]
    simp only [Bool.false_eq_true, if_false, Lk.made, m1, m2, m3]
    rfl
theorem ack_recv (h : Fits W k S) (hk : k ≤ 1000) {y : Fr} {m : Nat} (h1 : y.kind = 2) (h4 : y.life = 3) (h5 : y.ack = Lk.bv m) (h6 : m ≤ S.b.got) :
    S.a.recv y = { S.a with base := max S.a.base m, out := S.sent.drop (max S.a.base m) } := by
  have hg := h.got
  have hfew := h.few
  have hm : y.ack.toNat = m := by rw [h5, Lk.bv_toNat _ (by omega)]
  obtain ⟨a1, a2, a3, a4, a5⟩ := h.am
  unfold Lk.recv Lk.acked
  rw [if_pos h1, hm, if_pos ⟨by rw [h4, a5], by rw [h.top]; omega⟩, h.out, List.drop_drop]
  congr 2
  omega
/-- Data come: the second end turns. -/
theorem Fits.data (h : Fits W k S) (hk : k ≤ 1000) {y : Fr} (hy : IsData S.sent y) (hlen : S.way.length ≤ 263) : Fits W k { S with b := S.b.recv y, came := S.came ++ S.b.recvD y, way := S.way ++ S.b.recvA y } := by
  obtain ⟨h1, h2, h3, h4, n, h5, h6⟩ := hy
  obtain ⟨e1, e2, e3, e4, e5⟩ := data_recv h hk h1 h4 h5 h6
  rw [e1, e2, e3]
  exact {
    am := h.am, bm := h.bm, win := h.win, few := h.few, top := h.top, out := h.out, full := h.full
    ack := Nat.le_trans h.ack e5
    got := e4
    came := rfl
    life := .inr rfl
    bout := h.bout, small := h.small
    way := fun f hf => by
      rcases List.mem_append.1 hf with hf | hf
      · exact (h.way f hf).imp id (fun h => h.mono e5)
      · rw [List.mem_singleton.1 hf]
        exact .inr ⟨rfl, rfl, rfl, rfl, rfl, _, rfl, Nat.le_refl _⟩
    len := by simp only [List.length_append, List.length_cons, List.length_nil]; omega }
theorem Fits.acks (h : Fits W k S) (hk : k ≤ 1000) {y : Fr} (hy : IsAck S.b.got y) : Fits W k { S with a := S.a.recv y } := by
  obtain ⟨h1, h2, h3, h4, hd, m, h5, h6⟩ := hy
  rw [ack_recv h hk h1 h4 h5 h6]
  have htop := h.top
  have hack := h.ack
  have hgot := h.got
  have hout := h.out
  have hfull := h.full
  exact {
    am := h.am, bm := h.bm, win := h.win, few := h.few
    top := by simp only [Lk.top, List.length_drop]; omega
    out := rfl
    full := by
      simp only [List.length_drop]
      rw [hout, List.length_drop] at hfull
      omega
    ack := by simp only; omega
    got := h.got, came := h.came, life := h.life, bout := h.bout, small := h.small, way := h.way, len := h.len }
theorem Fits.take (h : Fits W k S) (hk : k ≤ 1000) {y : Fr} (hy : IsData S.sent y ∨ IsAck S.b.got y) (hlen : S.way.length ≤ 263) : Fits W k (S.take y) := by
  unfold Ws.take
  rcases hy with hy | hy
  · rw [if_pos hy.2.2.1]
    exact h.data hk hy hlen
  · rw [if_neg (by rw [hy.2.2.1]; decide)]
    exact h.acks hk hy
theorem Fits.comes (h : Fits W k S) (hk : k ≤ 1000) (j : Nat) (hj : S.way.length ≠ 0 → j < S.way.length) : Fits W k (S.comes j) := by
  unfold Ws.comes
  split
  · exact h
  · rename_i hn
    have hl := h.len
    have hj' := hj hn
    exact (h.drop j).take hk (h.get j hj') (by simp only [Ws.drop, List.length_append, List.length_take, List.length_drop]; omega)
theorem Fits.step (h : Fits W k S) (hk : k < 1000) (x : Sp) : Fits W (k + 1) (S.step x) := by
  have hp := S.pos_lt x
  unfold Ws.step
  split
  · exact h.send _ (hun_size _)
  · exact h.outs.mono (Nat.le_succ k)
  · exact (h.lose _).mono (Nat.le_succ k)
  · exact (h.again _ hp).mono (Nat.le_succ k)
  · exact (h.comes (by omega) _ hp).mono (Nat.le_succ k)
/-- Behind a script. -/
def run (window : Int) (l : List Sp) : Ws := l.foldl Ws.step (begin' window)
theorem run_fits (hW : 1 ≤ W ∧ W ≤ 64) (l : List Sp) (hl : l.length ≤ 1000) : Fits W l.length (run W l) := by
  have : ∀ (l : List Sp) (k : Nat) (S : Ws), Fits W k S → k + l.length ≤ 1000 → Fits W (k + l.length) (l.foldl Ws.step S) := by
    intro l
    induction l with
    | nil => intro k S h _; exact h
    | cons x l ih =>
      intro k S h hk
      simp only [List.length_cons] at hk
      have := ih (k + 1) (S.step x) (h.step (by omega) x) (by omega)
      rw [List.foldl_cons, List.length_cons, show k + (l.length + 1) = k + 1 + l.length from by omega]
      exact this
  have h := this l 0 _ (Fits.begin' hW) (by omega)
  rwa [Nat.zero_add] at h
theorem run_snoc (l : List Sp) (x : Sp) : run W (l ++ [x]) = (run W l).step x := by unfold run; rw [List.foldl_append]; rfl
end Ws
end Go.Proofs.Ytlbhfkiihikimaa
