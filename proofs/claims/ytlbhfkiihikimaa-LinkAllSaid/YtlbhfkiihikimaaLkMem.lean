/-
  What a script's law keeps: two ends, what is on its way, what was sent, what came; how it turns.
-/
import Derived.Test.YtlbhfkiihikimaaLkRun2
import Derived.Test.YtlbhfkiihikimaaLkSteps
namespace Go.Proofs.Ytlbhfkiihikimaa
open Go.RowKit Go.Shelf
set_option linter.unusedVariables false
set_option linter.unusedSimpArgs false

theorem add_off (a : Addr) (m n : Nat) (hn : 0 < n) : (⟨(a.add m).block, (a.add m).off + n, none⟩ : Addr) = a.add (m + n) := by
  simp only [Addr.add]
  by_cases hm : m = 0
  · subst hm
    simp [show n ≠ 0 by omega]
  · simp [hm, Nat.add_assoc]
abbrev Sc := Int × Int × ByteArray
def spOf (x : Sc) : Sp := ⟨x.1, x.2.1, x.2.2⟩
theorem lksteps_form {w : World} {v : Value} {l : List Sc} (h : LkSteps w v l) : ∃ a c, v = .slice a l.length c := by
  rcases h with ⟨rfl, rfl⟩ | ⟨a, c, rfl, _⟩
  · exact ⟨_, _, rfl⟩
  · exact ⟨_, _, rfl⟩
theorem lksteps_at {w : World} {v : Value} {l : List Sc} (h : LkSteps w v l) (k : Nat) (hk : k < l.length) : ∃ a c, v = .slice (some a) l.length c ∧ ∀ W, Below w.heap.size w W →
    W.cell? (a.add (k * 3)) = some (.int .i64 l[k].1) ∧ W.cell? ⟨(a.add (k * 3)).block, (a.add (k * 3)).off + 1, none⟩ = some (.int .i64 l[k].2.1) ∧ W.cell? ⟨(a.add (k * 3)).block, (a.add (k * 3)).off + 2, none⟩ = some (.string l[k].2.2) := by
  rcases h with ⟨rfl, rfl⟩ | ⟨a, c, rfl, hx⟩
  · simp at hk
  · refine ⟨a, c, rfl, fun W hb => ?_⟩
    obtain ⟨h0, h1, h2⟩ := hx k hk
    have hbl : ∀ j, (a.add j).block < w.heap.size := fun j => by rw [add_block]; exact cell_block h0
    refine ⟨?_, ?_, ?_⟩
    · exact (hb.cell (hbl _)).trans h0
    · rw [add_off _ _ _ (by decide)]; exact (hb.cell (hbl _)).trans h1
    · rw [add_off _ _ _ (by decide)]; exact (hb.cell (hbl _)).trans h2
/-- What is kept in memory. -/
structure Mem (a ma b mb n : Nat) (S : Ws) (wv sv cv : Value) (w W : World) : Prop where
  pair : Pair S.a S.b a ma b mb n W
  way : Frames W n wv S.way
  sent : Words W n sv S.sent
  came : Words W n cv S.came
  sc : ∀ g, sv.ownBlock = some g → cv.ownBlock ≠ some g
  bel : Below n w W
namespace Mem
variable {a ma b mb n : Nat} {S : Ws} {wv sv cv wv' sv' cv' : Value} {w W W' : World}
theorem size (h : Mem a ma b mb n S wv sv cv w W) : n ≤ W.heap.size := Nat.le_trans h.pair.low.1 (Nat.le_of_lt h.pair.l.lt)
theorem below (h : Mem a ma b mb n S wv sv cv w W) (hb : Below W.heap.size W W') : Mem a ma b mb n S wv sv cv w W' :=
  ⟨h.pair.below hb, h.way.below hb, h.sent.below hb, h.came.below hb, h.sc, h.bel.trans (hb.mono h.size)⟩
theorem left (h : Mem a ma b mb n S wv sv cv w W) {P : Lk} (hT : Lk.Turns P a ma W W') : Mem a ma b mb n { S with a := P } wv sv cv w W' := by
  obtain ⟨h1, h2⟩ := h.pair.left hT
  exact ⟨h1, h.way.stay h.pair.l hT.2, h.sent.stay h.pair.l hT.2, h.came.stay h.pair.l hT.2, h.sc, h.bel.trans h2⟩
theorem right (h : Mem a ma b mb n S wv sv cv w W) {Q : Lk} (hT : Lk.Turns Q b mb W W') : Mem a ma b mb n { S with b := Q } wv sv cv w W' := by
  obtain ⟨h1, h2⟩ := h.pair.right hT
  exact ⟨h1, h.way.stay h.pair.r hT.2, h.sent.stay h.pair.r hT.2, h.came.stay h.pair.r hT.2, h.sc, h.bel.trans h2⟩
/-- Nothing turned but a block of a list. -/
theorem grown_is {L : Lk} {B M : Nat} {u : Option Nat} (h : Lk.Is L B M W) (hg : W.grownBy W' u) (hu : ∀ g, u = some g → ∃ cur t, W.heap[g]? = some (.cells cur t (0, 0)) ∧ t ≠ 52) : Lk.Is L B M W' := by
  refine h.keep (hg.block B h.lt (fun e => ?_)) (hg.block M h.ltM (fun e => ?_))
  · obtain ⟨cur, t, hc, ht⟩ := hu B e.symm
    exact (h.apart hc ht).1 rfl
  · obtain ⟨cur, t, hc, ht⟩ := hu M e.symm
    exact (h.apart hc ht).2 rfl
theorem grown_pair {P Q : Lk} {u : Option Nat} (h : Pair P Q a ma b mb n W) (hg : W.grownBy W' u) (hu : ∀ g, u = some g → ∃ cur t, W.heap[g]? = some (.cells cur t (0, 0)) ∧ t ≠ 52) : Pair P Q a ma b mb n W' :=
  ⟨grown_is h.l hg hu, grown_is h.r hg hu, h.ab, h.mm, h.low⟩
theorem way_append (h : Mem a ma b mb n S wv sv cv w W) {l : List Fr} (ho : Frames W' n wv' l) (hg : W.grownBy W' wv.ownBlock) : Mem a ma b mb n { S with way := l } wv' sv cv w W' := by
  have hw : ∀ {v : Value} {l : List ByteArray}, Words W n v l → Words W' n v l := fun hv => hv.keep fun g hgv => hg.block g (hv.lt g hgv).2 (fun e => by
    obtain ⟨c1, h1⟩ := hv.typed g hgv
    obtain ⟨c2, h2⟩ := h.way.typed g e.symm
    rw [h1] at h2
    simp only [Option.some.injEq, Obj.cells.injEq] at h2
    exact absurd h2.2.1 (by decide))
  exact ⟨grown_pair h.pair hg (fun g e => by obtain ⟨c, hc⟩ := h.way.typed g e; exact ⟨c, _, hc, by decide⟩), ho, hw h.sent, hw h.came, h.sc, h.bel.grown hg h.size (fun g e => (h.way.lt g e).1)⟩
theorem words_frames {v : Value} {l : List ByteArray} {u : Value} {fs : List Fr} (h : Words W n v l) (hf : Frames W n u fs) (hg : W.grownBy W' v.ownBlock) : Frames W' n u fs := hf.keep fun g hgv => hg.block g (hf.lt g hgv).2 (fun e => by
    obtain ⟨c1, h1⟩ := hf.typed g hgv
    obtain ⟨c2, h2⟩ := h.typed g e.symm
    rw [h1] at h2
    simp only [Option.some.injEq, Obj.cells.injEq] at h2
    exact absurd h2.2.1 (by decide))
theorem sent_append (h : Mem a ma b mb n S wv sv cv w W) {l : List ByteArray} (ho : Words W' n sv' l) (hg : W.grownBy W' sv.ownBlock) (hat : sv'.ownBlock = sv.ownBlock ∨ sv'.ownBlock = some W.heap.size) : Mem a ma b mb n { S with sent := l } wv sv' cv w W' :=
  ⟨grown_pair h.pair hg (fun g e => by obtain ⟨c, hc⟩ := h.sent.typed g e; exact ⟨c, _, hc, by decide⟩), words_frames h.sent h.way hg, ho,
    h.came.keep fun g hgv => hg.block g (h.came.lt g hgv).2 (fun e => h.sc g e.symm hgv),
    fun g e e2 => by
      rcases hat with hat | hat
      · exact h.sc g (hat ▸ e) e2
      · rw [hat] at e; cases e
        have := (h.came.lt _ e2).2; omega,
    h.bel.grown hg h.size (fun g e => (h.sent.lt g e).1)⟩
theorem came_append (h : Mem a ma b mb n S wv sv cv w W) {l : List ByteArray} (ho : Words W' n cv' l) (hg : W.grownBy W' cv.ownBlock) (hat : cv'.ownBlock = cv.ownBlock ∨ cv'.ownBlock = some W.heap.size) : Mem a ma b mb n { S with came := l } wv sv cv' w W' :=
  ⟨grown_pair h.pair hg (fun g e => by obtain ⟨c, hc⟩ := h.came.typed g e; exact ⟨c, _, hc, by decide⟩), words_frames h.came h.way hg,
    h.sent.keep fun g hgv => hg.block g (h.sent.lt g hgv).2 (fun e => h.sc g hgv e.symm), ho,
    fun g e e2 => by
      rcases hat with hat | hat
      · exact h.sc g e (hat ▸ e2)
      · rw [hat] at e2; cases e2
        have := (h.sent.lt _ e).2; omega,
    h.bel.grown hg h.size (fun g e => (h.came.lt g e).1)⟩
theorem way_new (h : Mem a ma b mb n S wv sv cv w W) {l : List Fr} (hb : Below W.heap.size W W') (ho : Frames W' n wv' l) : Mem a ma b mb n { S with way := l } wv' sv cv w W' := by
  have h2 := h.below hb
  exact ⟨h2.pair, ho, h2.sent, h2.came, h2.sc, h2.bel⟩
end Mem
/-- Blocks of cells that are no ends lie as they lay. -/
def KeepRows (W W' : World) : Prop := ∀ (r : Nat) (C : Array Value) (t : TypeId), t ≠ 52 → Row W r C t → Row W' r C t
theorem KeepRows.of_turns {L L' : Lk} {B M : Nat} {W W' : World} (h : Lk.Is L B M W) (hT : Lk.Turns L' B M W W') : KeepRows W W' := fun r C t ht hr => by
  obtain ⟨h1, h2⟩ := h.apart (show W.heap[r]? = some (.cells C t (0, 0)) from hr) ht
  exact (hT.2.block r (Row.lt hr) h1 (fun e => h2 (by cases e; rfl))).trans hr
section
variable {a ma b mb n : Nat} {S : Ws} {wv sv cv : Value} {w W : World}
theorem memSend (h : Mem a ma b mb n S wv sv cv w W) (s : ByteArray) (ht : S.a.top < 1000) : Calls Try.prog 11 #[.pointer (some ⟨a, 0, none⟩), .string s] W fun e w' =>
    e = .returned (.int .i64 (S.a.sendE s)) ∧ Mem a ma b mb n { S with a := S.a.send s } wv sv cv w w' ∧ KeepRows W w' :=
  (lkSend S.a a ma s W h.pair.l ht).mono fun e w' ⟨h1, h2⟩ => ⟨h1, h.left h2, KeepRows.of_turns h.pair.l h2⟩
theorem memOut (h : Mem a ma b mb n S wv sv cv w W) : Calls Try.prog 12 #[.pointer (some ⟨a, 0, none⟩)] W fun e w' =>
    (∃ u, e = .returned u ∧ Frames w' n u S.a.sent) ∧ Mem a ma b mb n S wv sv cv w w' ∧ Below W.heap.size W w' :=
  (lkOut S.a a ma W h.pair.l).mono fun e w' ⟨⟨u, h1, h2⟩, h3⟩ => ⟨⟨u, h1, h2.rebase fun g hg => Nat.le_trans h.size (h2.lt g hg).1⟩, h.below h3, h3⟩
theorem memRecvB (h : Mem a ma b mb n S wv sv cv w W) (y : Fr) (hg : S.b.got < 1000) (hd : y.data.size ≤ 1000000) (hk : y.kind = 1 ∨ y.kind = 2) (hs : y.src = S.b.peer) (hm : y.dst = S.b.me) : Calls Try.prog 9 #[.pointer (some ⟨b, 0, none⟩), y.val] W fun e w' =>
    (∃ dv av, e = .returned (.tuple #[dv, av, .int .i64 0]) ∧ Words w' n dv (S.b.recvD y) ∧ Frames w' n av (S.b.recvA y) ∧ (∀ g, dv.ownBlock = some g → W.heap.size ≤ g) ∧ (∀ g, av.ownBlock = some g → W.heap.size ≤ g)) ∧ Mem a ma b mb n { S with b := S.b.recv y } wv sv cv w w' :=
  (lkRecv S.b b mb y W h.pair.r hg hd hk hs hm).mono fun e w' ⟨⟨dv, av, h1, h2, h3⟩, h4⟩ =>
    ⟨⟨dv, av, h1, h2.rebase fun g hg => Nat.le_trans h.size (h2.lt g hg).1, h3.rebase fun g hg => Nat.le_trans h.size (h3.lt g hg).1, fun g hg => (h2.lt g hg).1, fun g hg => (h3.lt g hg).1⟩, h.right h4⟩
theorem memRecvA (h : Mem a ma b mb n S wv sv cv w W) (y : Fr) (hk : y.kind = 2) (hs : y.src = S.a.peer) (hm : y.dst = S.a.me) : Calls Try.prog 9 #[.pointer (some ⟨a, 0, none⟩), y.val] W fun e w' =>
    (∃ dv av, e = .returned (.tuple #[dv, av, .int .i64 0]) ∧ Words w' n dv [] ∧ Frames w' n av []) ∧ Mem a ma b mb n { S with a := S.a.recv y } wv sv cv w w' :=
  (lkRecvAck S.a a ma y W h.pair.l hk hs hm).mono fun e w' ⟨⟨dv, av, h1, h2, h3⟩, h4⟩ => ⟨⟨dv, av, h1, by
      have e1 : S.a.recvD y = [] := by simp [Lk.recvD, hk]
      rw [e1] at h2
      exact h2.rebase fun g hg => Nat.le_trans h.size (h2.lt g hg).1, by
      have e2 : S.a.recvA y = [] := by simp [Lk.recvA, hk]
      rw [e2] at h3
      exact h3.rebase fun g hg => Nat.le_trans h.size (h3.lt g hg).1⟩, h.left h4⟩
end
end Go.Proofs.Ytlbhfkiihikimaa
