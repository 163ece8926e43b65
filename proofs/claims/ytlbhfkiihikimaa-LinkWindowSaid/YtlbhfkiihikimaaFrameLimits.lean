/-
  What frame.limited goes through.
-/
import Derived.Test.YtlbhfkiihikimaaFrameRight
namespace Go.Proofs.Ytlbhfkiihikimaa
open Go.RowKit Go.Shelf
attribute [local go_sem] Oper.semAt_some
set_option linter.unusedVariables false

abbrev enc2 (x : Int × Int) : Array Value := #[.int .i64 x.1, .int .i64 x.2]
def Fr.limits (f : Fr) : List (Int × Int) := [(f.kind, 31), (f.src, 15), (f.dst, 15), ((f.data.size : Int), 4096)]
theorem frameLimited (f : Fr) (w : World) : Calls Try.prog 28 #[f.val] w fun e w' =>
    e = .returned (.func (.func 32) #[] #[.pointer (some ⟨w.heap.size, 0, none⟩)]) ∧ w.alloc (.cells f.cells 24) = w' := by
  go_enter Try.func28, Try.ntmps28
  unfold Fr.val Fr.cells
  go_wp2
  go_ret
  exact ⟨rfl, rfl⟩
set_option maxRecDepth 100000 in
set_option maxHeartbeats 1000000 in
theorem limitedGoes (F : Fence) (n : Nat) (hF : F.fn 32) (hro : F.round = none) (hn : 1 ≤ n) (w : World) (B : Nat) (f : Fr) (hs : f.data.size ≤ maxLen) (hB : B < w.heap.size) (hc : Row w B f.cells 24) :
    Goes F n Try.prog 32 #[.pointer (some ⟨B, 0, none⟩)] enc2 (Keeps (· = B)) f.limits w := by
  intro l J Jx W hW hJ hJx hY h0
  unfold maxLen at hs
  refine callsIn_of_wp Try.func32 rfl hF ?_ hro
  simp only [Try.ntmps32, List.size_toArray, List.length_cons, List.length_nil, Nat.reduceAdd, Nat.reduceSub, Array.replicate_succ, Array.replicate_zero, List.push_toArray, List.append_toArray, List.nil_append, List.cons_append]
  have hr : Row W B f.cells 24 := (hW.block B hB).trans hc
  have c1 : W.cell? ⟨B, 1, none⟩ = some (.int .i64 f.kind) := hr.cell 1 _ rfl
  obtain ⟨fn, tmps, assign, body, hy, hR⟩ := hY 0 _ W rfl h0
  dsimp only [enc2] at hy
  gi_wp2
  refine hR.mono ?_
  rintro e W1 (⟨rfl, hJ1, hk1⟩ | ⟨rfl, hJx1⟩)
  · have hr1 : Row W1 B f.cells 24 := (hk1 B rfl).trans hr
    have c2 : W1.cell? ⟨B, 2, none⟩ = some (.int .i64 f.src) := hr1.cell 2 _ rfl
    clear hR hy c1
    obtain ⟨fn, tmps, assign, body, hy, hR⟩ := hY 1 _ W1 rfl hJ1
    dsimp only [enc2] at hy
    gi_wp2
    refine hR.mono ?_
    rintro e W2 (⟨rfl, hJ2, hk2⟩ | ⟨rfl, hJx1⟩)
    · have hr2 : Row W2 B f.cells 24 := (hk2 B rfl).trans hr1
      have c3 : W2.cell? ⟨B, 3, none⟩ = some (.int .i64 f.dst) := hr2.cell 3 _ rfl
      clear hR hy c2
      obtain ⟨fn, tmps, assign, body, hy, hR⟩ := hY 2 _ W2 rfl hJ2
      dsimp only [enc2] at hy
      gi_wp2
      refine hR.mono ?_
      rintro e W3 (⟨rfl, hJ3, hk3⟩ | ⟨rfl, hJx1⟩)
      · have hr3 : Row W3 B f.cells 24 := (hk3 B rfl).trans hr2
        have c8 : W3.cell? ⟨B, 8, none⟩ = some (.string f.data) := hr3.cell 8 _ rfl
        clear hR hy c3
        obtain ⟨fn, tmps, assign, body, hy, hR⟩ := hY 3 _ W3 rfl hJ3
        dsimp only [enc2] at hy
        gi_wp2
        refine hR.mono ?_
        rintro e W4 (⟨rfl, hJ4, hk4⟩ | ⟨rfl, hJx1⟩)
        · gi_wp2
          go_end0
          exact ⟨⟨_, rfl⟩, .inl hJ4⟩
        · gi_wp2
          go_end0
          exact ⟨⟨_, rfl⟩, .inr ⟨3, by simp [Fr.limits], hJx1⟩⟩
      · gi_wp2
        refine ⟨fun _ h => (by cases h), ?_⟩
        gi_wp2
        go_end0
        exact ⟨⟨_, rfl⟩, .inr ⟨2, by simp [Fr.limits], hJx1⟩⟩
    · gi_wp2
      refine ⟨fun _ h => (by cases h), ?_⟩
      gi_wp2
      refine ⟨fun _ h => (by cases h), ?_⟩
      gi_wp2
      go_end0
      exact ⟨⟨_, rfl⟩, .inr ⟨1, by simp [Fr.limits], hJx1⟩⟩
  · gi_wp2
    refine ⟨fun _ h => (by cases h), ?_⟩
    gi_wp2
    refine ⟨fun _ h => (by cases h), ?_⟩
    gi_wp2
    go_end0
    exact ⟨⟨_, rfl⟩, .inr ⟨0, by simp [Fr.limits], hJx1⟩⟩
end Go.Proofs.Ytlbhfkiihikimaa
