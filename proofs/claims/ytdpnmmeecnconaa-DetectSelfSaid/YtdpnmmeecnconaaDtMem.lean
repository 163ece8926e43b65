/-
  What the laws of layer 7 keep in memory: a detector beside beats; acts handed in.
-/
import Derived.Test.YtdpnmmeecnconaaDtShown
import Derived.Test.YtdpnmmeecnconaaDtActs
import Derived.Test.YtdpnmmeecnconaaDtBeats
namespace Go.Proofs.Ytdpnmmeecnconaa
open Go.RowKit Go.Shelf
attribute [local go_sem] Oper.semAt_some
set_option linter.unusedVariables false
set_option linter.unusedSimpArgs false

theorem add_off (a : Addr) (m n : Nat) (hn : 0 < n) : (⟨(a.add m).block, (a.add m).off + n, none⟩ : Addr) = a.add (m + n) := by
  simp only [Addr.add]
  by_cases hm : m = 0
  · subst hm
    simp [show n ≠ 0 by omega]
  · simp [hm, Nat.add_assoc]
abbrev Ac := Bool × Int × Nat × Bool
theorem acts_form {w : World} {v : Value} {l : List Ac} (h : DtActs w v l) : ∃ a c, v = .slice a l.length c := by
  rcases h with ⟨rfl, rfl⟩ | ⟨a, c, rfl, _⟩
  · exact ⟨_, _, rfl⟩
  · exact ⟨_, _, rfl⟩
theorem acts_at {w : World} {v : Value} {l : List Ac} (h : DtActs w v l) (k : Nat) (hk : k < l.length) : ∃ a c, v = .slice (some a) l.length c ∧ ∀ W, Below w.heap.size w W →
    W.cell? (a.add (k * 4)) = some (.bool l[k].1) ∧ W.cell? ⟨(a.add (k * 4)).block, (a.add (k * 4)).off + 1, none⟩ = some (.int .i64 l[k].2.1) ∧ W.cell? ⟨(a.add (k * 4)).block, (a.add (k * 4)).off + 2, none⟩ = some (.int .u64 ((l[k].2.2.1 : Nat) : Int)) := by
  rcases h with ⟨rfl, rfl⟩ | ⟨a, c, rfl, hx⟩
  · simp at hk
  · refine ⟨a, c, rfl, fun W hb => ?_⟩
    obtain ⟨h0, h1, h2, _⟩ := hx k hk
    have hbl : ∀ j, (a.add j).block < w.heap.size := fun j => by rw [add_block]; exact cell_block h0
    refine ⟨?_, ?_, ?_⟩
    · exact (hb.cell (hbl _)).trans h0
    · rw [add_off _ _ _ (by decide)]; exact (hb.cell (hbl _)).trans h1
    · rw [add_off _ _ _ (by decide)]; exact (hb.cell (hbl _)).trans h2
/-- Beats, as cells. -/
abbrev beatC (first most step : Nat) : Array Value := #[.int .u64 (first : Int), .int .u64 (most : Int), .int .u64 (step : Int)]
/-- What is kept. -/
structure Mem (D : Dt) (B M first most step : Nat) (w W : World) : Prop where
  is : Dt.Is D B M W
  box : W.heap[w.heap.size]? = some (.cells (beatC first most step) 35 (0, 0))
  low : w.heap.size < B ∧ w.heap.size < M
  bel : Below w.heap.size w W
namespace Mem
variable {D D' : Dt} {B M first most step : Nat} {w W W' : World}
theorem size (h : Mem D B M first most step w W) : w.heap.size < W.heap.size := Nat.lt_trans h.low.1 h.is.lt
theorem below (h : Mem D B M first most step w W) (hb : Below W.heap.size W W') : Mem D B M first most step w W' :=
  ⟨h.is.below hb, (hb.block _ h.size).trans h.box, h.low, h.bel.trans (hb.mono (Nat.le_of_lt h.size))⟩
theorem turn (h : Mem D B M first most step w W) (hT : Dt.Turns D' B M W W') : Mem D' B M first most step w W' :=
  ⟨hT.1, (hT.2.block _ h.size (fun e => by have := h.low; rcases e with e | e <;> omega)).trans h.box, h.low, h.bel.trans (hT.2.below (Nat.le_of_lt h.size) (fun j hj => by have := h.low; rcases hj with e | e <;> omega))⟩
theorem cells (h : Mem D B M first most step w W) : W.cell? ⟨w.heap.size, 0, none⟩ = some (.int .u64 (first : Int)) ∧ W.cell? ⟨w.heap.size, 1, none⟩ = some (.int .u64 (most : Int)) ∧ W.cell? ⟨w.heap.size, 2, none⟩ = some (.int .u64 (step : Int)) := by
  have := h.box
  simp [World.cell?, this]
end Mem
/-- New, as the laws call it. -/
theorem memNew (me n : Int) (first most step : Nat) (w W : World) (hr : Dt.right me n first most step 0) (hb : Below (w.alloc (.cells (beatC first most step) 35)).heap.size (w.alloc (.cells (beatC first most step) 35)) W) :
    Calls Try.prog 14 #[.int .i64 me, .int .i64 n, .agg #[.int .u64 (first : Int), .int .u64 (most : Int), .int .u64 (step : Int)], .int .u64 0] W fun e w' =>
      ∃ B M, e = .returned (.tuple #[.pointer (some ⟨B, 0, none⟩), .int .i64 0]) ∧ Mem (Dt.new me.toNat n.toNat first most step 0) B M first most step w w' :=
  (show Calls Try.prog 14 #[.int .i64 me, .int .i64 n, .agg #[.int .u64 (first : Int), .int .u64 (most : Int), .int .u64 (step : Int)], .int .u64 0] W _ from dtNew me n first most step 0 W).mono fun e w' ⟨h, hb2⟩ => by
    rcases h with ⟨_, B, M, he, hB, hM, hI⟩ | ⟨h, _⟩
    · have hs := hb.size
      simp only [World.size_alloc] at hs
      have hrow := World.alloc_heap_new w (.cells (beatC first most step) 35)
      have hbw : Below w.heap.size w W := ((Below.refl _ w).alloc (Nat.le_refl _) _).trans (hb.mono (by simp))
      refine ⟨B, M, he, hI, ?_, by omega, hbw.trans (hb2.mono (by omega))⟩
      exact (hb2.block _ (by omega)).trans ((hb.block _ (by simp)).trans hrow)
    · exact absurd hr h
theorem memNewNo (me n : Int) (first most step : Nat) (W : World) (hr : ¬ Dt.right me n first most step 0) :
    Calls Try.prog 14 #[.int .i64 me, .int .i64 n, .agg #[.int .u64 (first : Int), .int .u64 (most : Int), .int .u64 (step : Int)], .int .u64 0] W fun e w' =>
      e = .returned (.tuple #[.pointer none, .int .i64 70]) ∧ Below W.heap.size W w' :=
  (show Calls Try.prog 14 #[.int .i64 me, .int .i64 n, .agg #[.int .u64 (first : Int), .int .u64 (most : Int), .int .u64 (step : Int)], .int .u64 0] W _ from dtNew me n first most step 0 W).mono fun e w' ⟨h, hb2⟩ => by
    rcases h with ⟨h, _⟩ | ⟨_, he⟩
    · exact absurd h hr
    · exact ⟨he, hb2⟩
section
variable {D : Dt} {B M first most step : Nat} {w W : World}
theorem memHear (h : Mem D B M first most step w W) (k : Int) (t : Nat) : Calls Try.prog 10 #[.pointer (some ⟨B, 0, none⟩), .int .i64 k, .int .u64 (t : Int)] W fun e w' =>
    e = .returned (.int .i64 (D.hearE k t)) ∧ Mem (D.hearS k t) B M first most step w w' :=
  (dtHear D B M k t W h.is).mono fun e w' ⟨h1, h2⟩ => ⟨h1, h.turn h2⟩
theorem memTick (h : Mem D B M first most step w W) (t : Nat) : Calls Try.prog 9 #[.pointer (some ⟨B, 0, none⟩), .int .u64 (t : Int)] W fun e w' =>
    (∃ u, e = .returned (.tuple #[u, .int .i64 (D.tickE t)]) ∧ Nums w' W.heap.size u (D.tickL t)) ∧ Mem (D.tickS t) B M first most step w w' :=
  (dtTick D B M t W h.is).mono fun e w' ⟨h1, h2⟩ => ⟨h1, h.turn h2⟩
theorem memTimeout (h : Mem D B M first most step w W) (k : Int) : Calls Try.prog 13 #[.pointer (some ⟨B, 0, none⟩), .int .i64 k] W fun e w' => e = .returned (.int .u64 (D.outOf k : Int)) ∧ W = w' := dtTimeout D B M k W h.is
theorem memLeader (h : Mem D B M first most step w W) : Calls Try.prog 11 #[.pointer (some ⟨B, 0, none⟩)] W fun e w' => e = .returned (.int .i64 (D.leader : Int)) ∧ Mem D B M first most step w w' :=
  (dtLeader D B M W h.is).mono fun e w' ⟨h1, h2⟩ => ⟨h1, h.below h2⟩
theorem memSuspects (h : Mem D B M first most step w W) : Calls Try.prog 12 #[.pointer (some ⟨B, 0, none⟩)] W fun e w' =>
    (∃ u, e = .returned u ∧ Nums w' W.heap.size u D.suspects) ∧ Mem D B M first most step w w' :=
  (dtSuspects D B M W h.is).mono fun e w' ⟨h1, h2⟩ => ⟨h1, h.below h2⟩
end
namespace Dt
theorem hearS_ok {D : Dt} (h : D.Ok) (k : Int) (t : Nat) : (D.hearS k t).Ok := by
  unfold hearS hearE
  by_cases h1 : 0 ≤ k ∧ k < (D.nodes.length : Int)
  · by_cases h2 : D.timely t
    · rw [if_pos h1, if_pos h2, if_pos rfl]; exact hear_ok h _ t h2
    · rw [if_pos h1, if_neg h2, if_neg (by decide)]; exact h
  · rw [if_neg h1, if_neg (by decide)]; exact h
theorem tickS_ok {D : Dt} (h : D.Ok) (t : Nat) : (D.tickS t).Ok := by
  unfold tickS
  split
  · exact tick_ok h t ‹_›
  · exact h
theorem hearS_keeps (D : Dt) (k : Int) (t : Nat) : (D.hearS k t).me = D.me ∧ (D.hearS k t).most = D.most ∧ (D.hearS k t).step = D.step ∧ (D.hearS k t).nodes.length = D.nodes.length := by
  unfold hearS
  split
  · exact ⟨rfl, rfl, rfl, hear_length _ _ _⟩
  · exact ⟨rfl, rfl, rfl, rfl⟩
theorem tickS_keeps (D : Dt) (t : Nat) : (D.tickS t).me = D.me ∧ (D.tickS t).most = D.most ∧ (D.tickS t).step = D.step ∧ (D.tickS t).nodes.length = D.nodes.length := by
  unfold tickS
  split
  · exact ⟨rfl, rfl, rfl, tick_length _ _⟩
  · exact ⟨rfl, rfl, rfl, rfl⟩
theorem hearS_grows {D : Dt} (h : D.Ok) (k : Int) (t : Nat) (j : Int) : D.outOf j ≤ (D.hearS k t).outOf j := by
  unfold outOf hearS
  split
  · split
    · exact hear_grows h _ _ _
    · exact Nat.le_refl _
  · exact Nat.le_refl _
theorem tickS_same (D : Dt) (t : Nat) (j : Int) : (D.tickS t).outOf j = D.outOf j := by
  unfold outOf tickS
  split
  · split
    · exact tick_same _ _ _
    · rfl
  · rfl
theorem outOf_most {D : Dt} (h : D.Ok) (j : Int) : D.outOf j ≤ D.most := by
  unfold outOf
  split
  · exact timeout_most h _
  · exact Nat.zero_le _
/-- One act. -/
def act (D : Dt) (x : Bool × Int) (t : Nat) : Dt := if x.1 then D.hearS x.2 t else D.tickS t
end Dt
end Go.Proofs.Ytdpnmmeecnconaa
