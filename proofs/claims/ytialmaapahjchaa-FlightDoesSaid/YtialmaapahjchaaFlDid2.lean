/-
  Layer 5's law FlightDoes: did, walked.
-/
import Derived.Test.YtialmaapahjchaaFlDid
namespace Go.Proofs.Ytialmaapahjchaa
open Go.RowKit Go.Shelf
attribute [local go_sem] Oper.semAt_some
set_option linter.unusedVariables false
set_option linter.unusedSimpArgs false

set_option maxRecDepth 100000 in
set_option maxHeartbeats 8000000 in
theorem lawDid (F : Fl) (B1 B2 n₀ : Nat) (v1 v2 : Value) (xd xa xb : Int) (xm : BitVec 32) (xs : ByteArray) (w : World) (h : Half F F B1 B2 v1 v2 w) (hnode : ∀ n ∈ F.notes, Fl.node n.to = true) (hbit : xb ≤ 2 ^ 63 - 1) (hn1 : n₀ ≤ B1) (hn2 : n₀ ≤ B2) (hnw : n₀ ≤ w.heap.size) :
    Calls Try.prog 12 #[.pointer (some ⟨B1, 0, none⟩), .pointer (some ⟨B2, 0, none⟩), .agg #[.int .i64 xd, .int .i64 xa, .int .i64 xb, .int .u32 (xm.toNat : Int), .string xs]] w fun e w' =>
      e = .returned (.bool true) ∧ (∃ v1' v2', Half (doing F ((IntKind.u64.wrap xd).tmod 6) xa xb xm xs) (doing F ((IntKind.u64.wrap xd).tmod 6) xa xb xm xs) B1 B2 v1' v2' w') ∧ Below n₀ w w' := by
  obtain ⟨W0, hW0⟩ : ∃ W0, w.alloc (.cells #[.int .i64 xd, .int .i64 xa, .int .i64 xb, .int .u32 (xm.toNat : Int), .string xs] 33) = W0 := ⟨_, rfl⟩
  have hb0 : Below w.heap.size w W0 := hW0 ▸ (Below.refl _ w).alloc (Nat.le_refl _) _
  have hH := h.below hb0
  have hB0 := hb0.mono hnw
  have hX0 : W0.heap[w.heap.size]? = some (.cells #[.int .i64 xd, .int .i64 xa, .int .i64 xb, .int .u32 (xm.toNat : Int), .string xs] 33 (0, 0)) := hW0 ▸ World.alloc_heap_new w _
  obtain ⟨X, hXX⟩ : ∃ X, w.heap.size = X := ⟨_, rfl⟩
  rw [hXX] at hX0
  have HX := Lib.hid (fun (W : World) (h : W.heap[X]? = some (.cells #[.int .i64 xd, .int .i64 xa, .int .i64 xb, .int .u32 (xm.toNat : Int), .string xs] 33 (0, 0))) => show W.cell? ⟨X, 0, none⟩ = some (.int .i64 xd) ∧ W.cell? ⟨X, 1, none⟩ = some (.int .i64 xa) ∧ W.cell? ⟨X, 2, none⟩ = some (.int .i64 xb) ∧ W.cell? ⟨X, 3, none⟩ = some (.int .u32 (xm.toNat : Int)) ∧ W.cell? ⟨X, 4, none⟩ = some (.string xs) from by simp [World.cell?, h])
  obtain ⟨p0, p1, p2, p3, p4⟩ := HX.out W0 hX0
  have HBIT := Lib.hid hbit
  have HNODE := Lib.hid hnode
  clear h hb0 hbit hnode
  rcases u64_cases xd with hr | hr | hr | hr | hr | hr
  · rw [hr, show doing F 0 xa xb xm xs = F.send xa (hun xs) by simp [doing]]
    have hsz := hun_size xs
    have HS1 := Lib.hid (fun (W : World) (v : Value) (hI : Fl.Is true F B1 v W) => flSend F _ v xa (hun xs) W hI (by omega))
    have HS2 := Lib.hid (fun (W : World) (v : Value) (hI : Fl.Is false F B2 v W) => refSend F _ v xa (hun xs) W hI (by omega))
    generalize F.send xa (hun xs) = G at *
    generalize ((F.sendN xa).toNat : Int) = sn at *
    generalize F.sendE xa = se at *
    go_enter Try.func12, Try.ntmps12
    go_wp2
    clear p0 p1 p2 p3 p4
    replace hB0 := hB0.trans ((Below.refl _ W0).drew.mono (Nat.le_trans hnw hB0.size))
    replace hH := hH.below (Below.refl _ W0).drew
    replace hX0 : W0.drew.heap[X]? = _ := hX0
    clear hW0
    go_region_held3 (fun W => W.cell? ⟨X, 0, none⟩ = some (.int .i64 xd) ∧ W.cell? ⟨X, 1, none⟩ = some (.int .i64 xa) ∧ W.cell? ⟨X, 2, none⟩ = some (.int .i64 xb) ∧ W.cell? ⟨X, 3, none⟩ = some (.int .u32 (xm.toNat : Int)) ∧ W.cell? ⟨X, 4, none⟩ = some (.string xs)) (first | exact HX.out _ hX0 | go_keep) (first
      | (go_at_call 22; refine (lawText5 _ _ _ _ _ _).mono ?_; rintro e w5 ⟨rfl, hb5⟩; replace hX0 := (hb5.block X (Array.getElem?_eq_some_iff.1 hX0).1).trans hX0; replace hB0 := hB0.trans (hb5.mono (Nat.le_trans hnw hB0.size)); replace hH := hH.below hb5; clear hb5)
      | (go_at_call 17; refine (HS1.out _ _ hH.one).mono ?_; rintro e w6 ⟨rfl, hT6⟩; replace hX0 := turns_block2 hH.one hT6 hX0; obtain ⟨v6, hH6, hb6⟩ := hH.left hT6 hn1; replace hB0 := hB0.trans hb6))
    go_wp2
    replace hB0 := hB0.trans ((Below.refl _ w6).drew.mono (Nat.le_trans hnw hB0.size))
    replace hH6 := hH6.below (Below.refl _ w6).drew
    replace hX0 : w6.drew.heap[X]? = _ := hX0
    go_region_held3 (fun W => W.cell? ⟨X, 0, none⟩ = some (.int .i64 xd) ∧ W.cell? ⟨X, 1, none⟩ = some (.int .i64 xa) ∧ W.cell? ⟨X, 2, none⟩ = some (.int .i64 xb) ∧ W.cell? ⟨X, 3, none⟩ = some (.int .u32 (xm.toNat : Int)) ∧ W.cell? ⟨X, 4, none⟩ = some (.string xs)) (first | exact HX.out _ hX0 | go_keep) (first
      | (go_at_call 22; refine (lawText5 _ _ _ _ _ _).mono ?_; rintro e w7 ⟨rfl, hb7⟩; replace hX0 := (hb7.block X (Array.getElem?_eq_some_iff.1 hX0).1).trans hX0; replace hB0 := hB0.trans (hb7.mono (Nat.le_trans hnw hB0.size)); replace hH6 := hH6.below hb7; clear hb7)
      | (go_at_call 23; refine (HS2.out _ _ hH6.two).mono ?_; rintro e w8 ⟨rfl, hT8⟩; replace hX0 := turns_block2 hH6.two hT8 hX0; obtain ⟨v8, hH8, hb8⟩ := hH6.right hT8 hn2; replace hB0 := hB0.trans hb8))
    all_goals
      go_wp2
      go_ret
      exact ⟨rfl, ⟨_, _, hH8⟩, hB0⟩
  · rw [hr, show doing F 1 xa xb xm xs = F.send xa (hun xs) by simp [doing]]
    have hsz := hun_size xs
    have HS1 := Lib.hid (fun (W : World) (v : Value) (hI : Fl.Is true F B1 v W) => flSend F _ v xa (hun xs) W hI (by omega))
    have HS2 := Lib.hid (fun (W : World) (v : Value) (hI : Fl.Is false F B2 v W) => refSend F _ v xa (hun xs) W hI (by omega))
    generalize F.send xa (hun xs) = G at *
    generalize ((F.sendN xa).toNat : Int) = sn at *
    generalize F.sendE xa = se at *
    go_enter Try.func12, Try.ntmps12
    go_wp2
    clear p0 p1 p2 p3 p4
    replace hB0 := hB0.trans ((Below.refl _ W0).drew.mono (Nat.le_trans hnw hB0.size))
    replace hH := hH.below (Below.refl _ W0).drew
    replace hX0 : W0.drew.heap[X]? = _ := hX0
    clear hW0
    go_region_held3 (fun W => W.cell? ⟨X, 0, none⟩ = some (.int .i64 xd) ∧ W.cell? ⟨X, 1, none⟩ = some (.int .i64 xa) ∧ W.cell? ⟨X, 2, none⟩ = some (.int .i64 xb) ∧ W.cell? ⟨X, 3, none⟩ = some (.int .u32 (xm.toNat : Int)) ∧ W.cell? ⟨X, 4, none⟩ = some (.string xs)) (first | exact HX.out _ hX0 | go_keep) (first
      | (go_at_call 22; refine (lawText5 _ _ _ _ _ _).mono ?_; rintro e w5 ⟨rfl, hb5⟩; replace hX0 := (hb5.block X (Array.getElem?_eq_some_iff.1 hX0).1).trans hX0; replace hB0 := hB0.trans (hb5.mono (Nat.le_trans hnw hB0.size)); replace hH := hH.below hb5; clear hb5)
      | (go_at_call 17; refine (HS1.out _ _ hH.one).mono ?_; rintro e w6 ⟨rfl, hT6⟩; replace hX0 := turns_block2 hH.one hT6 hX0; obtain ⟨v6, hH6, hb6⟩ := hH.left hT6 hn1; replace hB0 := hB0.trans hb6))
    go_wp2
    replace hB0 := hB0.trans ((Below.refl _ w6).drew.mono (Nat.le_trans hnw hB0.size))
    replace hH6 := hH6.below (Below.refl _ w6).drew
    replace hX0 : w6.drew.heap[X]? = _ := hX0
    go_region_held3 (fun W => W.cell? ⟨X, 0, none⟩ = some (.int .i64 xd) ∧ W.cell? ⟨X, 1, none⟩ = some (.int .i64 xa) ∧ W.cell? ⟨X, 2, none⟩ = some (.int .i64 xb) ∧ W.cell? ⟨X, 3, none⟩ = some (.int .u32 (xm.toNat : Int)) ∧ W.cell? ⟨X, 4, none⟩ = some (.string xs)) (first | exact HX.out _ hX0 | go_keep) (first
      | (go_at_call 22; refine (lawText5 _ _ _ _ _ _).mono ?_; rintro e w7 ⟨rfl, hb7⟩; replace hX0 := (hb7.block X (Array.getElem?_eq_some_iff.1 hX0).1).trans hX0; replace hB0 := hB0.trans (hb7.mono (Nat.le_trans hnw hB0.size)); replace hH6 := hH6.below hb7; clear hb7)
      | (go_at_call 23; refine (HS2.out _ _ hH6.two).mono ?_; rintro e w8 ⟨rfl, hT8⟩; replace hX0 := turns_block2 hH6.two hT8 hX0; obtain ⟨v8, hH8, hb8⟩ := hH6.right hT8 hn2; replace hB0 := hB0.trans hb8))
    all_goals
      go_wp2
      go_ret
      exact ⟨rfl, ⟨_, _, hH8⟩, hB0⟩
  · rw [hr, show doing F 2 xa xb xm xs = F.drop xa by simp [doing]]
    have HS1 := flTake F _ v1 xa W0 hH.one
    have HS2 := Lib.hid (fun (W : World) (v : Value) (hI : Fl.Is false F B2 v W) => refTake F _ v xa W hI)
    generalize F.drop xa = G at *
    generalize F.checkE xa = ce at *
    generalize F.note xa = x at *
    obtain ⟨ti, tt, ts⟩ := x
    dsimp only [Nt.val] at HS1 HS2
    go_enter Try.func12, Try.ntmps12
    go_wp2_with (first
      | (go_at_call 18; refine HS1.mono ?_; rintro e w6 ⟨rfl, hT6⟩; have hX6 := turns_block2 hH.one hT6 hX0; obtain ⟨v6, hH6, hb6⟩ := hH.left hT6 hn1; have hB6 := hB0.trans hb6; obtain ⟨q0, q1, q2, q3, q4⟩ := HX.out w6 hX6; have hb7 := (Below.refl _ w6).alloc (Nat.le_refl _) (.cells #[.int .u32 (ti.toNat : Int), .int .i64 tt, .string ts] 42); have hH7 := hH6.below hb7; have hX7 := (hb7.block X (Array.getElem?_eq_some_iff.1 hX6).1).trans hX6; have hB7 := hB6.trans (hb7.mono (Nat.le_trans hnw hB6.size)); obtain ⟨r0, r1, r2, r3, r4⟩ := HX.out _ hX7; have hA7 := Lib.hid (World.alloc_heap_new w6 (.cells #[.int .u32 (ti.toNat : Int), .int .i64 tt, .string ts] 42)); have hlt6 := Lib.hid (fun g (e : v2.ownBlock = some g) => (hH6.two.own.lt g e).2); have hB26 := hH6.two.lt; have hX7 := Lib.hid hX7; clear hX6 hT6)
      | (go_at_call 24; refine (HS2.out _ _ hH7.two).mono ?_; rintro e w8 ⟨rfl, hT8⟩; have hA8 : w8.heap[w6.heap.size]? = _ := (note_stays hT8 (by simp) (by omega) (fun e => by have := hlt6.out _ e; omega)).trans hA7.out; have s0 : w8.cell? ⟨w6.heap.size, 0, none⟩ = some (.int .u32 (ti.toNat : Int)) := (by simp [World.cell?, hA8]); have s1 : w8.cell? ⟨w6.heap.size, 1, none⟩ = some (.int .i64 tt) := (by simp [World.cell?, hA8]); have s2 : w8.cell? ⟨w6.heap.size, 2, none⟩ = some (.string ts) := (by simp [World.cell?, hA8]); have hlt8 : w6.heap.size < w8.heap.size := (Array.getElem?_eq_some_iff.1 hA8).1; obtain ⟨v8, hH8, hb8⟩ := hH7.right hT8 hn2; have hB8 := hB7.trans hb8; clear hA8 hT8))
    go_ret
    exact ⟨rfl, ⟨_, _, hH8.below ((Below.refl _ w8).alloc (Nat.le_refl _) _)⟩, hB8.alloc (Nat.le_trans hnw hB8.size) _⟩
  · rw [hr, show doing F 3 xa xb xm xs = F.drop xa by simp [doing]]
    have HS2 := refTake F _ v2 xa W0 hH.two
    have HS1 := Lib.hid (fun (W : World) (v : Value) (hI : Fl.Is true F B1 v W) => flDrop F _ v xa W hI)
    generalize F.drop xa = G at *
    generalize F.checkE xa = ce at *
    generalize F.note xa = x at *
    obtain ⟨ti, tt, ts⟩ := x
    dsimp only [Nt.val] at HS2
    go_enter Try.func12, Try.ntmps12
    go_wp2_with (first
      | (go_at_call 24; refine HS2.mono ?_; rintro e w6 ⟨rfl, hT6⟩; have hX6 := turns_block2 hH.two hT6 hX0; obtain ⟨v6, hH6, hb6⟩ := hH.right hT6 hn2; have hB6 := hB0.trans hb6; obtain ⟨q0, q1, q2, q3, q4⟩ := HX.out w6 hX6; have hb7 := (Below.refl _ w6).alloc (Nat.le_refl _) (.cells #[.int .u32 (ti.toNat : Int), .int .i64 tt, .string ts] 42); have hH7 := hH6.below hb7; have hX7 := (hb7.block X (Array.getElem?_eq_some_iff.1 hX6).1).trans hX6; have hB7 := hB6.trans (hb7.mono (Nat.le_trans hnw hB6.size)); obtain ⟨r0, r1, r2, r3, r4⟩ := HX.out _ hX7; clear hX6 hT6 hX7)
      | (go_at_call 20; refine (HS1.out _ _ hH7.one).mono ?_; rintro e w8 ⟨rfl, hT8⟩; obtain ⟨v8, hH8, hb8⟩ := hH7.left hT8 hn1; have hB8 := hB7.trans hb8))
    go_ret
    exact ⟨rfl, ⟨_, _, hH8⟩, hB8⟩
  · rw [hr, show doing F 4 xa xb xm xs = F.copy xa by simp [doing]]
    have HS1 := flCopy F _ v1 xa W0 hH.one
    have HS2 := Lib.hid (fun (W : World) (v : Value) (hI : Fl.Is false F B2 v W) => refCopy F _ v xa W hI HNODE.out)
    generalize F.copy xa = G at *
    generalize F.copyE xa = ce at *
    generalize ((F.copyN xa).toNat : Int) = cn at *
    go_enter Try.func12, Try.ntmps12
    go_wp2_with (first
      | (go_at_call 19; refine HS1.mono ?_; rintro e w6 ⟨rfl, hT6⟩; have hX6 := turns_block2 hH.one hT6 hX0; obtain ⟨v6, hH6, hb6⟩ := hH.left hT6 hn1; have hB6 := hB0.trans hb6; obtain ⟨q0, q1, q2, q3, q4⟩ := HX.out w6 hX6; clear hX6 hT6)
      | (go_at_call 25; refine (HS2.out _ _ hH6.two).mono ?_; rintro e w8 ⟨rfl, hT8⟩; obtain ⟨v8, hH8, hb8⟩ := hH6.right hT8 hn2; have hB8 := hB6.trans hb8))
    go_ret
    exact ⟨rfl, ⟨_, _, hH8⟩, hB8⟩
  · rw [hr, show doing F 5 xa xb xm xs = F.hurt xa xb xm by simp [doing]]
    have HS1 := Lib.hid (fun (W : World) (v : Value) (hI : Fl.Is true F B1 v W) => flHurt F _ v xa xb xm W hI HBIT.out)
    have HS2 := Lib.hid (fun (W : World) (v : Value) (hI : Fl.Is false F B2 v W) => refHurt F _ v xa xb xm W hI)
    generalize F.hurt xa xb xm = G at *
    generalize F.hurtE xa xb = ce at *
    go_enter Try.func12, Try.ntmps12
    go_wp2
    clear p0 p1 p2 p3 p4
    replace hB0 := hB0.trans ((Below.refl _ W0).drew.mono (Nat.le_trans hnw hB0.size))
    replace hH := hH.below (Below.refl _ W0).drew
    replace hX0 : W0.drew.heap[X]? = _ := hX0
    clear hW0
    go_region_held3 (fun W => W.cell? ⟨X, 0, none⟩ = some (.int .i64 xd) ∧ W.cell? ⟨X, 1, none⟩ = some (.int .i64 xa) ∧ W.cell? ⟨X, 2, none⟩ = some (.int .i64 xb) ∧ W.cell? ⟨X, 3, none⟩ = some (.int .u32 (xm.toNat : Int)) ∧ W.cell? ⟨X, 4, none⟩ = some (.string xs)) (first | exact HX.out _ hX0 | go_keep) (first
      | (go_at_call 21; refine (HS1.out _ _ hH.one).mono ?_; rintro e w6 ⟨rfl, hT6⟩; replace hX0 := turns_block2 hH.one hT6 hX0; obtain ⟨v6, hH6, hb6⟩ := hH.left hT6 hn1; replace hB0 := hB0.trans hb6)
      | (go_at_call 26; refine (HS2.out _ _ hH6.two).mono ?_; rintro e w8 ⟨rfl, hT8⟩; replace hX0 := turns_block2 hH6.two hT8 hX0; obtain ⟨v8, hH8, hb8⟩ := hH6.right hT8 hn2; replace hB0 := hB0.trans hb8))
    all_goals
      go_wp2
      go_ret
      exact ⟨rfl, ⟨_, _, hH8⟩, hB0⟩
end Go.Proofs.Ytialmaapahjchaa
