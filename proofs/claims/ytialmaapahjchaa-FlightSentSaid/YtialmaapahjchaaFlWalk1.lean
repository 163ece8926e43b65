/-
  flight.New, next, lay, check: walked.
-/
import Derived.Test.YtialmaapahjchaaFlRows
import Derived.Test.YtialmaapahjchaaHeld
namespace Go.Proofs.Ytialmaapahjchaa
open Go.RowKit Go.Shelf
attribute [local go_sem] Oper.semAt_some
set_option linter.unusedVariables false
set_option linter.unusedSimpArgs false

namespace Fl
/-- The cells of a flight (k), of the document's. -/
def cells (k : Bool) (F : Fl) (v : Value) : Array Value := bif k then #[.int .u32 (F.last.toNat : Int), v] else #[v, .int .u32 (F.last.toNat : Int)]
def ty (k : Bool) : TypeId := bif k then 61 else 30
/-- Block B is the flight F; its list is v. -/
structure Is (k : Bool) (F : Fl) (B : Nat) (v : Value) (w : World) : Prop where
  row : w.heap[B]? = some (.cells (cells k F v) (ty k) (0, 0))
  own : Notes w (B + 1) v F.notes
  ok : F.Ok
/-- Behind a call block B is the flight F, and nothing else has turned but its list. -/
def Turns (k : Bool) (F : Fl) (B : Nat) (v : Value) (w w' : World) : Prop := ∃ v', Is k F B v' w' ∧ (∀ g, v'.ownBlock = some g → v.ownBlock = some g ∨ w.heap.size ≤ g) ∧ Stays B v.ownBlock w w'
variable {k : Bool} {F F' : Fl} {B : Nat} {v : Value} {w w' w'' : World}
theorem Is.lt (h : Is k F B v w) : B < w.heap.size := (Array.getElem?_eq_some_iff.1 h.row).1
theorem Is.cell (h : Is k F B v w) (j : Nat) (u : Value) (hk : (cells k F v)[j]? = some u) : w.cell? ⟨B, j, none⟩ = some u := by simp [World.cell?, h.row, hk]
theorem Is.thawed (h : Is k F B v w) (j : Nat) : w.frozen? ⟨B, j, none⟩ = false := by simp [World.frozen?, h.row]
theorem Is.below (h : Is k F B v w) (hb : Below w.heap.size w w') : Is k F B v w' := ⟨(hb.block B h.lt).trans h.row, h.own.below hb, h.ok⟩
theorem Turns.of_below (h : Is k F B v w) (hb : Below w.heap.size w w') : Turns k F B v w w' := ⟨v, h.below hb, fun g hg => .inl hg, Stays.of_below hb⟩
theorem Turns.refl (h : Is k F B v w) : Turns k F B v w w := Turns.of_below h (Below.refl _ _)
theorem Turns.trans {v' : Value} (h : Stays B v.ownBlock w w') (hv : ∀ g, v'.ownBlock = some g → v.ownBlock = some g ∨ w.heap.size ≤ g) (h' : Turns k F B v' w' w'') : Turns k F B v w w'' := by
  obtain ⟨u, hI, hu, hs⟩ := h'
  refine ⟨u, hI, fun g hg => ?_, h.trans hs hv⟩
  rcases hu g hg with e | e
  · exact hv g e
  · exact .inr (Nat.le_trans h.size e)
theorem row_set {W : World} {c : Array Value} {t : TypeId} (h : W.heap[B]? = some (.cells c t (0, 0))) (j : Nat) (u : Value) : (W.setCell ⟨B, j, none⟩ u).heap[B]? = some (.cells (c.setIfInBounds j u) t (0, 0)) := by
  simp only [World.setCell, Array.getElem?_modify, if_true]
  rw [h]
  simp
end Fl
theorem next_num (x : BitVec 32) : ((x.toNat : Int) + 1) % 4294967296 = ((x + 1).toNat : Int) := by
  rw [BitVec.toNat_add]; simp
theorem flNew (w : World) : Calls Try.prog 11 #[] w fun e w' => e = .returned (.pointer (some ⟨w.heap.size, 0, none⟩)) ∧ Fl.Is true Fl.new w.heap.size (.slice none 0 0) w' ∧ Below w.heap.size w w' := by
  go_enter Try.func11, Try.ntmps11
  go_wp2
  go_ret
  exact ⟨rfl, ⟨World.alloc_heap_new w _, Notes.nil _ _, Fl.new_ok⟩, (Below.refl _ w).alloc (Nat.le_refl _) _⟩
/-- check. -/
theorem flCheck (F : Fl) (B : Nat) (v : Value) (at' : Int) (w : World) (h : Fl.Is true F B v w) : Calls Try.prog 31 #[.pointer (some ⟨B, 0, none⟩), .int .i64 at'] w fun e w' => e = .returned (.int .i64 (F.checkE at')) ∧ w = w' := by
  obtain ⟨a, c, rfl, _⟩ := h.own.form
  have hc : w.cell? ⟨B, 1, none⟩ = some (.slice a F.notes.length c) := h.cell 1 _ rfl
  have h0 : at' < 0 → F.checkE at' = 2 := fun hn => by simp [Fl.checkE, Fl.place]; omega
  have h1 : (F.notes.length : Int) ≤ at' → F.checkE at' = 2 := fun hn => by simp [Fl.checkE, Fl.place]; omega
  have h2 : ¬ at' < 0 → ¬ (F.notes.length : Int) ≤ at' → F.checkE at' = 0 := fun hn hm => by simp [Fl.checkE, Fl.place]; omega
  generalize F.notes.length = n at *
  generalize F.checkE at' = E at *
  clear h
  by_cases hn : at' < 0
  · rw [h0 hn]; clear h0 h1 h2
    go_enter Try.func31, Try.ntmps31
    go_wp2
    go_ret
    exact ⟨rfl, rfl⟩
  · by_cases hm : (n : Int) ≤ at'
    · rw [h1 hm]; clear h0 h1 h2
      go_enter Try.func31, Try.ntmps31
      go_wp2
      go_ret
      exact ⟨rfl, rfl⟩
    · rw [h2 hn hm]; clear h0 h1 h2
      go_enter Try.func31, Try.ntmps31
      go_wp2
      go_ret
      exact ⟨rfl, rfl⟩
/-- next. -/
theorem flNext (F : Fl) (B : Nat) (v : Value) (w : World) (h : Fl.Is true F B v w) : Calls Try.prog 37 #[.pointer (some ⟨B, 0, none⟩)] w fun e w' => e = .returned (.int .u32 ((F.last + 1).toNat : Int)) ∧ w.setCell ⟨B, 0, none⟩ (.int .u32 ((F.last + 1).toNat : Int)) = w' := by
  have hc : w.cell? ⟨B, 0, none⟩ = some (.int .u32 (F.last.toNat : Int)) := h.cell 0 _ rfl
  have hf := h.thawed 0
  have hn := next_num F.last
  have HN := Lib.hid hn
  clear h hn
  generalize F.last = x at *
  go_enter Try.func37, Try.ntmps37
  go_wp2
  rw [HN.out]
  go_ret
  exact ⟨rfl, rfl⟩
theorem next_is {F : Fl} {B : Nat} {v : Value} {w : World} (h : Fl.Is true F B v w) : Fl.Is true { F with last := F.last + 1 } B v (w.setCell ⟨B, 0, none⟩ (.int .u32 ((F.last + 1).toNat : Int))) :=
  ⟨Fl.row_set h.row 0 _, h.own.keep (fun g hg => Below.heap_setCell _ _ _ g (by have := (h.own.lt g hg).1; simp; omega)), ⟨h.ok.few, h.ok.small⟩⟩
theorem lay_row {k : Bool} {F : Fl} {B : Nat} {v : Value} {w w2 : World} {tmp : Obj} (h : Fl.Is k F B v w) (hg : (w.alloc tmp).grownBy w2 v.ownBlock) : w2.heap[B]? = some (.cells (Fl.cells k F v) (Fl.ty k) (0, 0)) := by
  have hB := h.lt
  refine (hg.block B (by simp; omega) (fun e => ?_)).trans ((Below.heap_alloc w tmp B hB).trans h.row)
  have := (h.own.lt B e.symm).1
  omega
theorem lay_end {F : Fl} {B : Nat} {v v' : Value} {n : Nt} {w w2 : World} {tmp : Obj} (h : Fl.Is true F B v w) (hl : F.notes.length < 1000) (hs : n.s.size ≤ 10000) (ho : Notes w2 (B + 1) v' (F.notes ++ [n])) (hg : (w.alloc tmp).grownBy w2 v.ownBlock)
    (hw : v'.ownBlock = v.ownBlock ∨ v'.ownBlock = some (w.alloc tmp).heap.size) : Fl.Turns true ⟨F.notes ++ [n], F.last⟩ B v w (w2.setCell ⟨B, 1, none⟩ v') := by
  have hrow := lay_row h hg
  refine ⟨v', ⟨Fl.row_set hrow 1 v', ho.keep (fun g hg => Below.heap_setCell _ _ _ g (by have := (ho.lt g hg).1; simp; omega)), ⟨by simp; omega, fun x hx => ?_⟩⟩, fun g hgg => ?_, ?_⟩
  · rcases List.mem_append.1 hx with hx | hx
    · exact h.ok.small x hx
    · rw [List.mem_singleton.1 hx]; exact hs
  · rcases hw with e | e
    · exact .inl (e ▸ hgg)
    · rw [e] at hgg; cases hgg; exact .inr (by simp)
  · exact ((Stays.of_below ((Below.refl _ w).alloc (Nat.le_refl _) tmp)).grown hg).setCell _ _ rfl
set_option maxRecDepth 100000 in
set_option maxHeartbeats 4000000 in
/-- lay. -/
theorem flLay (F : Fl) (B : Nat) (v : Value) (to : Int) (s : ByteArray) (w : World) (h : Fl.Is true F B v w) (hs : s.size ≤ 10000) : Calls Try.prog 29 #[.pointer (some ⟨B, 0, none⟩), .int .i64 to, .string s] w fun e w' =>
    e = .returned (.tuple #[.int .u32 (F.layN.toNat : Int), .int .i64 F.layE]) ∧ Fl.Turns true (F.lay to s) B v w w' := by
  obtain ⟨a, c, hv, _⟩ := h.own.form
  have hc : w.cell? ⟨B, 1, none⟩ = some v := h.cell 1 _ rfl
  have hB := h.lt
  by_cases hf : 1000 ≤ F.notes.length
  · have e : F.lay to s = F ∧ F.layN = 0 ∧ F.layE = 30 := by simp [Fl.lay, Fl.layN, Fl.layE, Fl.full, hf]
    obtain ⟨e1, e2, e3⟩ := e
    have HT := Lib.hid (Fl.Turns.refl h)
    rw [e1, e2, e3]
    subst hv
    generalize F.notes.length = n at *
    have hfi : 1000 ≤ (n : Int) := by omega
    clear h e1 e2 e3
    go_enter Try.func29, Try.ntmps29
    go_wp2
    go_ret2
    exact ⟨rfl, HT.out⟩
  · have hl : F.notes.length < 1000 := by omega
    have e : F.lay to s = ⟨F.notes ++ [⟨F.last + 1, to, s⟩], F.last + 1⟩ ∧ F.layN = F.last + 1 ∧ F.layE = 0 := by simp [Fl.lay, Fl.layN, Fl.layE, Fl.full, hf]
    obtain ⟨e1, e2, e3⟩ := e
    have hN := next_is h
    have HN := flNext F B v w h
    rw [e1, e2, e3]
    have hc2 := hN.cell 1 v rfl
    have hf2 := hN.thawed 1
    have hB2 := hN.lt
    have HS : Stays B v.ownBlock w (w.setCell ⟨B, 0, none⟩ (.int .u32 ((F.last + 1).toNat : Int))) := (Stays.refl B _ w).setCell _ _ rfl
    have HE := Lib.hid (fun (n : Nt) (w2 : World) (tmp : Obj) (v' : Value) (hs : n.s.size ≤ 10000) (ho : Notes w2 (B + 1) v' (F.notes ++ [n])) => lay_end (v' := v') (w2 := w2) (tmp := tmp) hN hl hs ho)
    have HR := Lib.hid (fun (w2 : World) (tmp : Obj) (hg : World.grownBy (World.alloc (w.setCell ⟨B, 0, none⟩ (.int .u32 ((F.last + 1).toNat : Int))) tmp) w2 v.ownBlock) => show w2.cell? ⟨B, 1, none⟩ = some v ∧ w2.frozen? ⟨B, 1, none⟩ = false by simp [World.frozen?, World.cell?, lay_row (w2 := w2) (tmp := tmp) hN hg, Fl.cells])
    obtain ⟨W, hW⟩ : ∃ W, w.setCell ⟨B, 0, none⟩ (.int .u32 ((F.last + 1).toNat : Int)) = W := ⟨_, rfl⟩
    rw [hW] at HN HE HR hN hc2 hf2 hB2 HS
    have hown := hN.own
    have hlo : F.notes.length + 1 ≤ 1000000 := by omega
    clear h hW hN e1 e2 e3
    generalize hx : F.last + 1 = x at *
    have hll : ∃ n, n = F.notes.length := ⟨_, rfl⟩
    obtain ⟨n, hn⟩ := hll
    have hv' := hv
    rw [← hn] at hv' hf hl
    have hfi : ¬ 1000 ≤ (n : Int) := by omega
    subst hv'
    go_enter Try.func29, Try.ntmps29
    go_wp2_with (first
      | (go_at_call 37; refine HN.mono ?_; rintro e w1 ⟨rfl, rfl⟩)
      | (at_builtin; refine wpList_append_notes rfl _ _ rfl (B + 1) _ F.notes rfl (hown.below ((Below.refl _ W).alloc (Nat.le_refl _) _)) ⟨W.heap.size, 0, none⟩ 1 1 [⟨x, to, s⟩] rfl rfl (cell_note W ⟨x, to, s⟩ _) hlo (by simp; omega) ?_; intro v' w2 ho hg hat; have hend := HE.out _ _ _ _ hs ho hg hat; obtain ⟨hy2, hz2⟩ := HR.out _ _ hg; obtain ⟨a2, c2, e2, _⟩ := ho.form; generalize (F.notes ++ [(⟨x, to, s⟩ : Nt)]).length = q at e2; subst e2))
    go_ret2
    obtain ⟨v', r1, r2, r3⟩ := hend
    exact ⟨rfl, v', r1, fun g hg => (r2 g hg).imp id (Nat.le_trans HS.size), HS.trans r3 (fun g hg => .inl hg)⟩
end Go.Proofs.Ytialmaapahjchaa
