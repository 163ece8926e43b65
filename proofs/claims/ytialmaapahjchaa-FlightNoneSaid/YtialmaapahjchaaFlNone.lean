/-
  Layer 5: a nil flight; the law FlightNone.
-/
import Derived.Test.YtialmaapahjchaaFlLaw1
namespace Go.Proofs.Ytialmaapahjchaa
open Go.RowKit Go.Shelf
attribute [local go_sem] Oper.semAt_some
set_option linter.unusedVariables false
set_option linter.unusedSimpArgs false

theorem nilCheck (at' : Int) (w : World) : Calls Try.prog 31 #[.pointer none, .int .i64 at'] w fun e w' => e = .returned (.int .i64 1) ∧ w = w' := by
  go_enter Try.func31, Try.ntmps31
  go_wp2
  go_ret
  exact ⟨rfl, rfl⟩
theorem nilSend (to : Int) (s : ByteArray) (w : World) : Calls Try.prog 17 #[.pointer none, .int .i64 to, .string s] w fun e w' => e = .returned (.tuple #[.int .u32 0, .int .i64 1]) ∧ w = w' := by
  go_enter Try.func17, Try.ntmps17
  go_wp2
  go_ret2
  exact ⟨rfl, rfl⟩
theorem nilTake (at' : Int) (w : World) : Calls Try.prog 18 #[.pointer none, .int .i64 at'] w fun e w' => e = .returned (.tuple #[.agg #[.int .u32 0, .int .i64 0, .string ⟨#[]⟩], .int .i64 1]) ∧ Below w.heap.size w w' := by
  go_enter Try.func18, Try.ntmps18
  go_wp2_with (go_at_call 31; refine (nilCheck _ _).mono ?_; rintro e w' ⟨rfl, rfl⟩)
  refine bodyPost_ret (v := .tuple #[.agg #[.int .u32 0, .int .i64 0, .string ⟨#[]⟩], .int .i64 1]) (by simp [results, Try.results18, go_sem]) rfl ?_
  exact ⟨rfl, (Below.refl _ w).alloc (Nat.le_refl _) _⟩
theorem nilDrop (at' : Int) (w : World) : Calls Try.prog 20 #[.pointer none, .int .i64 at'] w fun e w' => e = .returned (.int .i64 1) ∧ w = w' := by
  go_enter Try.func20, Try.ntmps20
  go_wp2_with (go_at_call 31; refine (nilCheck _ _).mono ?_; rintro e w' ⟨rfl, rfl⟩)
  go_ret
  exact ⟨rfl, rfl⟩
theorem nilCopy (at' : Int) (w : World) : Calls Try.prog 19 #[.pointer none, .int .i64 at'] w fun e w' => e = .returned (.tuple #[.int .u32 0, .int .i64 1]) ∧ w = w' := by
  go_enter Try.func19, Try.ntmps19
  go_wp2_with (go_at_call 31; refine (nilCheck _ _).mono ?_; rintro e w' ⟨rfl, rfl⟩)
  go_ret2
  exact ⟨rfl, rfl⟩
theorem nilHurt (at' bit : Int) (m : BitVec 32) (w : World) : Calls Try.prog 21 #[.pointer none, .int .i64 at', .int .i64 bit, .int .u32 (m.toNat : Int)] w fun e w' => e = .returned (.int .i64 1) ∧ w = w' := by
  go_enter Try.func21, Try.ntmps21
  go_wp2_with (go_at_call 31; refine (nilCheck _ _).mono ?_; rintro e w' ⟨rfl, rfl⟩)
  go_ret
  exact ⟨rfl, rfl⟩
theorem nilAll (w : World) : Calls Try.prog 14 #[.pointer none] w fun e w' => e = .returned (.slice none 0 0) ∧ w = w' := by
  go_enter Try.func14, Try.ntmps14
  go_wp2
  go_ret
  exact ⟨rfl, rfl⟩
set_option maxRecDepth 100000 in
theorem nilOldest (to : Int) (w : World) : Calls Try.prog 15 #[.pointer none, .int .i64 to] w fun e w' => e = .returned (.int .i64 (-1)) ∧ Below w.heap.size w w' := by
  go_enter Try.func15, Try.ntmps15
  go_wp2
  go_step3
  go_wp2
  rw [Exit.noGoto_ret]
  go_ret
  exact ⟨rfl, ((Below.refl _ w).alloc (Nat.le_refl _) _).alloc (by simp) _⟩
set_option maxRecDepth 100000 in
set_option maxHeartbeats 4000000 in
theorem lawFlNone (xd xa xb : Int) (xm : BitVec 32) (xs : ByteArray) (w : World) : Calls Try.prog 4 #[.agg #[.int .i64 xd, .int .i64 xa, .int .i64 xb, .int .u32 (xm.toNat : Int), .string xs]] w fun e w' => e = .returned (.bool true) ∧ Below w.heap.size w w' := by
  obtain ⟨W0, hW0⟩ : ∃ W0, w.alloc (.cells #[.int .i64 xd, .int .i64 xa, .int .i64 xb, .int .u32 (xm.toNat : Int), .string xs] 33) = W0 := ⟨_, rfl⟩
  have hB0 : Below w.heap.size w W0 := hW0 ▸ (Below.refl _ w).alloc (Nat.le_refl _) _
  have hr0 : W0.heap[w.heap.size]? = some (.cells #[.int .i64 xd, .int .i64 xa, .int .i64 xb, .int .u32 (xm.toNat : Int), .string xs] 33 (0, 0)) := hW0 ▸ World.alloc_heap_new w _
  have hs0 : W0.heap.size = w.heap.size + 1 := by rw [← hW0]; simp
  have HR := Lib.hid (fun (W : World) (hb : Below W0.heap.size W0 W) => show W.cell? ⟨w.heap.size, 1, none⟩ = some (.int .i64 xa) ∧ W.cell? ⟨w.heap.size, 2, none⟩ = some (.int .i64 xb) ∧ W.cell? ⟨w.heap.size, 3, none⟩ = some (.int .u32 (xm.toNat : Int)) ∧ W.cell? ⟨w.heap.size, 4, none⟩ = some (.string xs) from by
    have h1 := (hb.block w.heap.size (by omega)).trans hr0
    simp [World.cell?, h1])
  clear hr0 hs0
  go_enter Try.func4, Try.ntmps4
  go_wp2_with (first
    | (go_at_call 10; refine (lawShown5 _).mono ?_; rintro e w1 ⟨rfl, hb1⟩; obtain ⟨q1, q2, q3, q4⟩ := HR.out w1 hb1)
    | (go_at_call 17; refine (nilSend _ _ _).mono ?_; rintro e w2 ⟨rfl, rfl⟩)
    | (go_at_call 18; refine (nilTake _ _).mono ?_; rintro e w3 ⟨rfl, hb3⟩; have hb3 := hb1.trans (hb3.mono hb1.size); have hb3' := hb3.alloc hb3.size (.cells #[.int .u32 0, .int .i64 0, .string ⟨#[]⟩] 42); clear q1 q2 q3 q4; obtain ⟨q1, q2, q3, q4⟩ := HR.out _ hb3; obtain ⟨p1, p2, p3, p4⟩ := HR.out _ hb3')
    | (go_at_call 19; refine (nilCopy _ _).mono ?_; rintro e w4 ⟨rfl, rfl⟩)
    | (go_at_call 20; refine (nilDrop _ _).mono ?_; rintro e w5 ⟨rfl, rfl⟩)
    | (go_at_call 21; refine (nilHurt _ _ _ _).mono ?_; rintro e w6 ⟨rfl, rfl⟩)
    | (go_at_call 15; refine (nilOldest _ _).mono ?_; rintro e w7 ⟨rfl, hb7⟩)
    | (go_at_call 14; refine (nilAll _).mono ?_; rintro e w8 ⟨rfl, rfl⟩))
  go_ret
  exact ⟨rfl, hB0.trans ((hb3'.trans (hb7.mono hb3'.size)).mono hB0.size)⟩
end Go.Proofs.Ytialmaapahjchaa
