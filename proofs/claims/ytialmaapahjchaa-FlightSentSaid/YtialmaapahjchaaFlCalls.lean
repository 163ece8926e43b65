/-
  flight's All, Drop, Send, Take: walked.
-/
import Derived.Test.YtialmaapahjchaaFlRemove
import Derived.Test.YtialmaapahjchaaFlTold
namespace Go.Proofs.Ytialmaapahjchaa
open Go.RowKit Go.Shelf
attribute [local go_sem] Oper.semAt_some
set_option linter.unusedVariables false
set_option linter.unusedSimpArgs false

/-- A call that turns a flight, others ahead and behind that leave it alone. -/
theorem Fl.Turns.wrap {k : Bool} {F F' : Fl} {B : Nat} {v : Value} {w W w2 w3 : World} (h : Fl.Is k F B v w) (hb : Below w.heap.size w W) (ht : Fl.Turns k F' B v W w2) (h3 : Below w2.heap.size w2 w3) : Fl.Turns k F' B v w w3 := by
  obtain ⟨v', hI, hv, hs⟩ := ht
  refine ⟨v', hI.below h3, fun g hg => (hv g hg).imp id (Nat.le_trans hb.size), ?_⟩
  exact ((Stays.of_below hb).trans hs (fun g hg => .inl hg)).trans (Stays.of_below (o := none) h3) (fun g hg => by cases hg)
/-- Another block written. -/
theorem Fl.Turns.other {k : Bool} {F' : Fl} {B R : Nat} {v : Value} {w w3 w4 : World} (ht : Fl.Turns k F' B v w w3) (hR : w.heap.size ≤ R) (hRB : R ≠ B) (hRv : ∀ v', Fl.Is k F' B v' w3 → v'.ownBlock ≠ some R) (hw : ∀ j, j ≠ R → w4.heap[j]? = w3.heap[j]?) (hs : w4.heap.size = w3.heap.size) (ho : w4.os = w3.os ∧ w4.tape = w3.tape ∧ w4.output = w3.output) : Fl.Turns k F' B v w w4 := by
  obtain ⟨v', hI, hv, hs'⟩ := ht
  refine ⟨v', ⟨(hw B hRB.symm).trans hI.row, hI.own.keep (fun g hg => hw g (fun e => hRv v' hI (e ▸ hg))), hI.ok⟩, hv, ?_⟩
  exact ⟨ho.1.trans hs'.os, ho.2.1.trans hs'.tape, ho.2.2.trans hs'.output, by rw [hs]; exact hs'.size, fun j hj h1 h2 => (hw j (by omega)).trans (hs'.block j hj h1 h2)⟩
theorem Notes.one (w : World) (n : Nt) : Notes (w.alloc (.cells #[.int .u32 (n.id.toNat : Int), .int .i64 n.to, .string n.s] 42)) w.heap.size (.slice (some ⟨w.heap.size, 0, none⟩) 1 1) [n] :=
  .inr ⟨w.heap.size, 1, _, rfl, Nat.le_refl _, World.alloc_heap_new w _, Nat.le_refl _, by unfold maxLen; omega, by simp, by simp [flat, Nt.cells]⟩
theorem flAll (F : Fl) (B : Nat) (v : Value) (w : World) (h : Fl.Is true F B v w) : Calls Try.prog 14 #[.pointer (some ⟨B, 0, none⟩)] w fun e w' =>
    (∃ u, e = .returned u ∧ Notes w' w.heap.size u F.notes) ∧ Below w.heap.size w w' := by
  have hc : w.cell? ⟨B, 1, none⟩ = some v := h.cell 1 _ rfl
  have HT := flTold F.notes v (B + 1) w h.own h.ok.small h.ok.few
  obtain ⟨a, c, hv, _⟩ := h.own.form
  generalize F.notes.length = n at hv
  clear h
  subst hv
  go_enter Try.func14, Try.ntmps14
  go_wp2_with (go_at_call 27; refine HT.mono ?_; rintro e w' ⟨⟨u, rfl, hN⟩, hb⟩)
  go_ret
  exact ⟨⟨u, rfl, hN⟩, hb⟩
theorem flDrop (F : Fl) (B : Nat) (v : Value) (at' : Int) (w : World) (h : Fl.Is true F B v w) : Calls Try.prog 20 #[.pointer (some ⟨B, 0, none⟩), .int .i64 at'] w fun e w' =>
    e = .returned (.int .i64 (F.checkE at')) ∧ Fl.Turns true (F.drop at') B v w w' := by
  have HC := flCheck F B v at' w h
  by_cases hp : F.place at' = true
  · obtain ⟨k, rfl, hk⟩ := Fl.place_iff.1 hp
    have HR := flRemove F B v k w h hk
    have e1 : F.checkE (k : Int) = 0 := by simp [Fl.checkE, hp]
    have e2 : F.drop (k : Int) = { F with notes := F.notes.eraseIdx k } := by simp [Fl.drop, hp]
    rw [e1] at HC ⊢
    rw [e2]
    clear h hp e1 e2
    go_enter Try.func20, Try.ntmps20
    go_wp2_with (first
      | (go_at_call 31; refine HC.mono ?_; rintro e w' ⟨rfl, rfl⟩)
      | (go_at_call 32; refine HR.mono ?_; rintro e w' ⟨rfl, hT⟩))
    go_ret
    exact ⟨rfl, hT⟩
  · have e1 : F.checkE at' = 2 := by simp [Fl.checkE, hp]
    have e2 : F.drop at' = F := by simp [Fl.drop, hp]
    rw [e1] at HC ⊢
    rw [e2]
    have HT := Lib.hid (Fl.Turns.refl h)
    clear h hp e1 e2
    go_enter Try.func20, Try.ntmps20
    go_wp2_with (first
      | (go_at_call 31; refine HC.mono ?_; rintro e w' ⟨rfl, rfl⟩))
    go_ret
    exact ⟨rfl, HT.out⟩
theorem flSend (F : Fl) (B : Nat) (v : Value) (to : Int) (s : ByteArray) (w : World) (h : Fl.Is true F B v w) (hs : s.size ≤ 10000) : Calls Try.prog 17 #[.pointer (some ⟨B, 0, none⟩), .int .i64 to, .string s] w fun e w' =>
    e = .returned (.tuple #[.int .u32 ((F.sendN to).toNat : Int), .int .i64 (F.sendE to)]) ∧ Fl.Turns true (F.send to s) B v w w' := by
  by_cases h0 : to < 0
  · have e : F.send to s = F ∧ F.sendN to = 0 ∧ F.sendE to = 2 := by
      have : Fl.node to = false := by simp [Fl.node]; omega
      simp [Fl.send, Fl.sendN, Fl.sendE, this]
    obtain ⟨e1, e2, e3⟩ := e
    rw [e1, e2, e3]
    have HT := Lib.hid (Fl.Turns.refl h)
    clear h e1 e2 e3
    go_enter Try.func17, Try.ntmps17
    go_wp2
    go_ret2
    exact ⟨rfl, HT.out⟩
  by_cases h1 : 16 ≤ to
  · have e : F.send to s = F ∧ F.sendN to = 0 ∧ F.sendE to = 2 := by
      have : Fl.node to = false := by simp [Fl.node]; omega
      simp [Fl.send, Fl.sendN, Fl.sendE, this]
    obtain ⟨e1, e2, e3⟩ := e
    rw [e1, e2, e3]
    have HT := Lib.hid (Fl.Turns.refl h)
    clear h e1 e2 e3
    go_enter Try.func17, Try.ntmps17
    go_wp2
    go_ret2
    exact ⟨rfl, HT.out⟩
  have e : F.send to s = F.lay to s ∧ F.sendN to = F.layN ∧ F.sendE to = F.layE := by
    have : Fl.node to = true := by simp [Fl.node]; omega
    simp [Fl.send, Fl.sendN, Fl.sendE, this]
  obtain ⟨e1, e2, e3⟩ := e
  rw [e1, e2, e3]
  have hs2 : s.size ≤ 281474976710656 := by omega
  have HL := fun w1 (hI : Fl.Is true F B v w1) => flLay F B v to s w1 hI hs
  have HW := Lib.hid (fun (W w2 : World) (hb : Below w.heap.size w W) (ht : Fl.Turns true (F.lay to s) B v W w2) => Fl.Turns.wrap h hb ht (Below.refl _ _))
  have HB := Lib.hid (fun (W : World) (hb : Below w.heap.size w W) => h.below hb)
  generalize F.layN = N at *
  generalize F.layE = E at *
  clear h e1 e2 e3
  go_enter Try.func17, Try.ntmps17
  go_wp2_with (first
    | (go_at_call 30; refine (Try.strings_Clone _ _ hs2).mono ?_; rintro e w1 ⟨rfl, hb1⟩)
    | (go_at_call 29; refine (HL _ (HB.out _ hb1)).mono ?_; rintro e w2 ⟨rfl, hT⟩))
  go_ret2
  exact ⟨rfl, HW.out _ _ hb1 hT⟩
end Go.Proofs.Ytialmaapahjchaa
