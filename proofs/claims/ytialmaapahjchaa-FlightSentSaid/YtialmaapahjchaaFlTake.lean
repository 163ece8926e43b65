/-
  flight's Take: walked.
-/
import Derived.Test.YtialmaapahjchaaFlCalls
namespace Go.Proofs.Ytialmaapahjchaa
open Go.RowKit Go.Shelf
attribute [local go_sem] Oper.semAt_some
set_option linter.unusedVariables false
set_option linter.unusedSimpArgs false

theorem row_three (w : World) (R : Nat) (c : Array Value) (x y z : Value) {a b d : Value} (h : w.heap[R]? = some (.cells #[a, b, d] 42 (0, 0))) :
    (((w.setCell ⟨R, 0, none⟩ x).setCell ⟨R, 1, none⟩ y).setCell ⟨R, 2, none⟩ z).heap[R]? = some (.cells #[x, y, z] 42 (0, 0)) ∧
    (∀ j, j ≠ R → (((w.setCell ⟨R, 0, none⟩ x).setCell ⟨R, 1, none⟩ y).setCell ⟨R, 2, none⟩ z).heap[j]? = w.heap[j]?) ∧
    (((w.setCell ⟨R, 0, none⟩ x).setCell ⟨R, 1, none⟩ y).setCell ⟨R, 2, none⟩ z).heap.size = w.heap.size ∧
    ((((w.setCell ⟨R, 0, none⟩ x).setCell ⟨R, 1, none⟩ y).setCell ⟨R, 2, none⟩ z).os = w.os ∧ (((w.setCell ⟨R, 0, none⟩ x).setCell ⟨R, 1, none⟩ y).setCell ⟨R, 2, none⟩ z).tape = w.tape ∧ (((w.setCell ⟨R, 0, none⟩ x).setCell ⟨R, 1, none⟩ y).setCell ⟨R, 2, none⟩ z).output = w.output) := by
  refine ⟨?_, fun j hj => ?_, by simp, rfl, rfl, rfl⟩
  · have := Fl.row_set (Fl.row_set (Fl.row_set h 0 x) 1 y) 2 z
    simpa using this
  · exact (Below.heap_setCell _ _ _ j hj).trans ((Below.heap_setCell _ _ _ j hj).trans (Below.heap_setCell _ _ _ j hj))
set_option maxRecDepth 100000 in
set_option maxHeartbeats 4000000 in
theorem flTakeNo (F : Fl) (B : Nat) (v : Value) (at' : Int) (w : World) (h : Fl.Is true F B v w) (hp : ¬ F.place at' = true) : Calls Try.prog 18 #[.pointer (some ⟨B, 0, none⟩), .int .i64 at'] w fun e w' =>
    e = .returned (.tuple #[(F.note at').val, .int .i64 (F.checkE at')]) ∧ Fl.Turns true (F.drop at') B v w w' := by
  have hI1 := h.below ((Below.refl _ w).alloc (Nat.le_refl _) (.cells #[.int .u32 0, .int .i64 0, .string ⟨#[]⟩] 42))
  have HC := flCheck F B v at' _ hI1
  have e1 : F.checkE at' = 2 := by simp [Fl.checkE, hp]
  have e2 : F.drop at' = F := by simp [Fl.drop, hp]
  have e3 : F.note at' = Nt.zero := by simp [Fl.note, hp]
  rw [e1] at HC ⊢
  rw [e2, e3]
  have HT := Lib.hid (fun (w' : World) (hb : Below w.heap.size w w') => Fl.Turns.of_below h hb)
  clear h hp e1 e2 e3 hI1
  go_enter Try.func18, Try.ntmps18
  go_wp2_with (first
    | (go_at_call 31; refine HC.mono ?_; rintro e w' ⟨rfl, rfl⟩))
  refine bodyPost_ret (v := .tuple #[.agg #[.int .u32 0, .int .i64 0, .string ⟨#[]⟩], .int .i64 2]) (by simp [results, Try.results18, go_sem]) rfl ?_
  exact ⟨rfl, HT.out _ ((Below.refl _ w).alloc (Nat.le_refl _) _)⟩
set_option maxRecDepth 100000 in
set_option maxHeartbeats 4000000 in
theorem flTakeYes (F : Fl) (B : Nat) (v : Value) (k : Nat) (w : World) (h : Fl.Is true F B v w) (hk : k < F.notes.length) : Calls Try.prog 18 #[.pointer (some ⟨B, 0, none⟩), .int .i64 (k : Int)] w fun e w' =>
    e = .returned (.tuple #[F.notes[k].val, .int .i64 0]) ∧ Fl.Turns true { F with notes := F.notes.eraseIdx k } B v w w' := by
  obtain ⟨W1, hW1⟩ : ∃ W1, w.alloc (.cells #[.int .u32 0, .int .i64 0, .string ⟨#[]⟩] 42) = W1 := ⟨_, rfl⟩
  have hB1 : Below w.heap.size w W1 := hW1 ▸ (Below.refl _ w).alloc (Nat.le_refl _) _
  have hs1 : W1.heap.size = w.heap.size + 1 := by rw [← hW1]; simp
  have hI1 := h.below hB1
  have HC := flCheck F B v (k : Int) _ hI1
  have e1 : F.checkE (k : Int) = 0 := by simp [Fl.checkE, Fl.place]; omega
  rw [e1] at HC
  have hc1 : W1.cell? ⟨B, 1, none⟩ = some v := hI1.cell 1 _ rfl
  obtain ⟨g, c, hv, hc, hbg, hgw, hfz, q0, q1, q2⟩ := hI1.own.cell k hk
  obtain ⟨n, hn⟩ : ∃ n, F.notes.length = n := ⟨_, rfl⟩
  have HN := Lib.hid hn
  have HI1 := Lib.hid hI1
  have HI := Lib.hid h
  have HK := Lib.hid hk
  have hok := Lib.hid (h.ok.small _ (List.getElem_mem hk))
  generalize hx : F.notes[k] = x at *
  rw [hn] at hv hc
  have hkn : k < n := by omega
  have hki : (k : Int) < (n : Int) := by omega
  obtain ⟨xi, xt, xs⟩ := x
  dsimp only at q0 q1 q2
  obtain ⟨W2, hW2⟩ : ∃ W2, W1.alloc (.cells #[.int .u32 (xi.toNat : Int), .int .i64 xt, .string xs] 42) = W2 := ⟨_, rfl⟩
  have hB2 : Below W1.heap.size W1 W2 := hW2 ▸ (Below.refl _ W1).alloc (Nat.le_refl _) _
  have hs2 : W2.heap.size = w.heap.size + 2 := by rw [← hW2]; simp [hs1]
  have hr1 : W2.heap[w.heap.size]? = some (.cells #[.int .u32 0, .int .i64 0, .string ⟨#[]⟩] 42 (0, 0)) := (hB2.block _ (by omega)).trans (hW1 ▸ World.alloc_heap_new w _)
  have hr2 : W2.heap[w.heap.size + 1]? = some (.cells #[.int .u32 (xi.toNat : Int), .int .i64 xt, .string xs] 42 (0, 0)) := by rw [← hs1, ← hW2]; exact World.alloc_heap_new W1 _
  have HR := flRemove F B v k W2 (hI1.below hB2) hk
  have hBlt := h.lt
  subst hv
  clear h hI1 hn hk hfz hc1
  have hc1 : W1.cell? ⟨B, 1, none⟩ = some (.slice (some ⟨g, 0, none⟩) n c) := HI1.out.cell 1 _ rfl
  have hgl : g < w.heap.size := (HI.out.own.lt g rfl).2
  have A3 := Lib.hid (fun (w3 : World) (hs3 : Stays B (some g) W2 w3) => show w3.heap[w.heap.size]? = some (.cells #[.int .u32 0, .int .i64 0, .string ⟨#[]⟩] 42 (0, 0)) ∧ w3.heap[w.heap.size + 1]? = some (.cells #[.int .u32 (xi.toNat : Int), .int .i64 xt, .string xs] 42 (0, 0)) from
    ⟨(hs3.block _ (by omega) (by omega) (by simp; omega)).trans hr1, (hs3.block _ (by omega) (by omega) (by simp; omega)).trans hr2⟩)
  clear hr1 hr2
  go_enter Try.func18, Try.ntmps18
  go_wp2_with (first
    | (go_at_call 31; refine HC.mono ?_; rintro e w' ⟨rfl, rfl⟩)
    | (go_at_call 32; refine HR.mono ?_; rintro e w3 ⟨rfl, v3, hI3, hv3, hs3⟩; obtain ⟨b1, b2⟩ := A3.out w3 hs3; have p0 : w3.cell? ⟨w.heap.size + 1, 0, none⟩ = some (.int .u32 (xi.toNat : Int)) := (by simp [World.cell?, b2]); have p1 : w3.cell? ⟨w.heap.size + 1, 1, none⟩ = some (.int .i64 xt) := (by simp [World.cell?, b2]); have p2 : w3.cell? ⟨w.heap.size + 1, 2, none⟩ = some (.string xs) := (by simp [World.cell?, b2]); have hsz3 := hs3.size; have B1 := Lib.hid b1; clear b1 b2)
    | (go_at_call 27; refine (flTold [⟨xi, xt, xs⟩] _ w3.heap.size _ (Notes.one w3 ⟨xi, xt, xs⟩) (by simpa using hok.out) (by simp)).mono ?_; rintro e w4 ⟨⟨u, rfl, hN4⟩, hb4⟩; obtain ⟨g4, c4, rfl, hc4, hg4, hgw4, hz4, r0, r1, r2⟩ := hN4.cell 0 (by simp); have b4 := (((Below.refl _ w3).alloc (Nat.le_refl _) (.cells #[.int .u32 (xi.toNat : Int), .int .i64 xt, .string xs] 42)).trans (hb4.mono (by simp))); have B4 := (b4.block w.heap.size (by omega)).trans B1.out; have t0 : w4.cell? ⟨w.heap.size, 0, none⟩ = some (.int .u32 0) := (by simp [World.cell?, B4]); have t1 : w4.cell? ⟨w.heap.size, 1, none⟩ = some (.int .i64 0) := (by simp [World.cell?, B4]); have t2 : w4.cell? ⟨w.heap.size, 2, none⟩ = some (.string ⟨#[]⟩) := (by simp [World.cell?, B4]); have f0 : ∀ j, w4.frozen? ⟨w.heap.size, j, none⟩ = false := (fun j => by simp [World.frozen?, B4]); have f00 := f0 0; have f01 := f0 1; have f02 := f0 2; simp only [Nat.zero_mul, Nat.zero_add, List.getElem_cons_zero] at r0 r1 r2))
  have hT4 := Fl.Turns.wrap HI.out (hB1.trans (hB2.mono (by omega))) ⟨v3, hI3, hv3, hs3⟩ b4
  have hv4 : ∀ v', Fl.Is true { F with notes := F.notes.eraseIdx k } B v' w4 → v'.ownBlock ≠ some w.heap.size := fun v' hI e => by
    have h1 := hI.cell 1 v' rfl
    have h2 := (hI3.below b4).cell 1 v3 rfl
    rw [h2] at h1
    have e2 := Option.some.inj h1
    subst e2
    rcases hv3 _ e with e3 | e3
    · simp [Value.ownBlock] at e3; omega
    · omega
  have h5 := row_three w4 w.heap.size #[] (.int .u32 (xi.toNat : Int)) (.int .i64 xt) (.string xs) B4
  obtain ⟨W5, hW5⟩ : ∃ W5, (((w4.setCell ⟨w.heap.size, 0, none⟩ (.int .u32 (xi.toNat : Int))).setCell ⟨w.heap.size, 1, none⟩ (.int .i64 xt)).setCell ⟨w.heap.size, 2, none⟩ (.string xs)) = W5 := ⟨_, rfl⟩
  rw [hW5] at h5 ⊢
  obtain ⟨h5r, h5o, h5s, h5x⟩ := h5
  have s0 : W5.cell? ⟨w.heap.size, 0, none⟩ = some (.int .u32 (xi.toNat : Int)) := by simp [World.cell?, h5r]
  have s1 : W5.cell? ⟨w.heap.size, 1, none⟩ = some (.int .i64 xt) := by simp [World.cell?, h5r]
  have s2 : W5.cell? ⟨w.heap.size, 2, none⟩ = some (.string xs) := by simp [World.cell?, h5r]
  have hfin := hT4.other (R := w.heap.size) (Nat.le_refl _) (by omega) hv4 h5o h5s h5x
  clear hW5 h5r h5o h5s h5x hT4 hv4
  refine bodyPost_ret (v := .tuple #[.agg #[.int .u32 (xi.toNat : Int), .int .i64 xt, .string xs], .int .i64 0]) (by simp [results, Try.results18, go_sem, s0, s1, s2]) rfl ?_
  exact ⟨rfl, hfin⟩
theorem flTake (F : Fl) (B : Nat) (v : Value) (at' : Int) (w : World) (h : Fl.Is true F B v w) : Calls Try.prog 18 #[.pointer (some ⟨B, 0, none⟩), .int .i64 at'] w fun e w' =>
    e = .returned (.tuple #[(F.note at').val, .int .i64 (F.checkE at')]) ∧ Fl.Turns true (F.drop at') B v w w' := by
  by_cases hp : F.place at' = true
  · obtain ⟨k, rfl, hk⟩ := Fl.place_iff.1 hp
    have e1 : F.checkE (k : Int) = 0 := by simp [Fl.checkE, hp]
    have e2 : F.drop (k : Int) = { F with notes := F.notes.eraseIdx k } := by simp [Fl.drop, hp]
    rw [e1, e2, Fl.note_at hk]
    exact flTakeYes F B v k w h hk
  · exact flTakeNo F B v at' w h hp
end Go.Proofs.Ytialmaapahjchaa
