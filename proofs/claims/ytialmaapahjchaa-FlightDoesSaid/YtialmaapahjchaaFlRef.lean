/-
  The document's flight: walked.
-/
import Derived.Test.YtialmaapahjchaaFlCopies
namespace Go.Proofs.Ytialmaapahjchaa
open Go.RowKit Go.Shelf
attribute [local go_sem] Oper.semAt_some
set_option linter.unusedVariables false
set_option linter.unusedSimpArgs false

theorem lay_few5 {F : Fl} (to : Int) (s : ByteArray) (h : F.notes.length < 1000) : F.lay to s = ⟨F.notes ++ [⟨F.last + 1, to, s⟩], F.last + 1⟩ ∧ F.layN = F.last + 1 ∧ F.layE = 0 := by
  have : F.full = false := by simp [Fl.full]; omega
  simp [Fl.lay, Fl.layN, Fl.layE, this]
theorem ref_next {F : Fl} {B : Nat} {v : Value} {w : World} (h : Fl.Is false F B v w) : Fl.Is false { F with last := F.last + 1 } B v (w.setCell ⟨B, 1, none⟩ (.int .u32 ((F.last + 1).toNat : Int))) :=
  ⟨Fl.row_set h.row 1 _, h.own.keep (fun g hg => Below.heap_setCell _ _ _ g (by have := (h.own.lt g hg).1; simp; omega)), ⟨h.ok.few, h.ok.small⟩⟩
theorem ref_lay_end {F : Fl} {B : Nat} {v v' : Value} {n : Nt} {w w2 : World} {tmp : Obj} (h : Fl.Is false F B v w) (hl : F.notes.length < 1000) (hs : n.s.size ≤ 10000) (ho : Notes w2 (B + 1) v' (F.notes ++ [n])) (hg : (w.alloc tmp).grownBy w2 v.ownBlock)
    (hw : v'.ownBlock = v.ownBlock ∨ v'.ownBlock = some (w.alloc tmp).heap.size) : Fl.Turns false ⟨F.notes ++ [n], F.last⟩ B v w (w2.setCell ⟨B, 0, none⟩ v') := by
  have hB := h.lt
  have hrow := lay_row h hg
  refine ⟨v', ⟨Fl.row_set hrow 0 v', ho.keep (fun g hg => Below.heap_setCell _ _ _ g (by have := (ho.lt g hg).1; simp; omega)), ⟨by simp; omega, fun x hx => ?_⟩⟩, fun g hgg => ?_, ?_⟩
  · rcases List.mem_append.1 hx with hx | hx
    · exact h.ok.small x hx
    · rw [List.mem_singleton.1 hx]; exact hs
  · rcases hw with e | e
    · exact .inl (e ▸ hgg)
    · rw [e] at hgg; cases hgg; exact .inr (by simp)
  · exact ((Stays.of_below ((Below.refl _ w).alloc (Nat.le_refl _) tmp)).grown hg).setCell _ _ rfl
set_option maxRecDepth 100000 in
set_option maxHeartbeats 4000000 in
theorem refSend (F : Fl) (B : Nat) (v : Value) (to : Int) (s : ByteArray) (w : World) (h : Fl.Is false F B v w) (hs : s.size ≤ 10000) : Calls Try.prog 23 #[.pointer (some ⟨B, 0, none⟩), .int .i64 to, .string s] w fun e w' =>
    e = .returned (.tuple #[.int .u32 ((F.sendN to).toNat : Int), .int .i64 (F.sendE to)]) ∧ Fl.Turns false (F.send to s) B v w w' := by
  by_cases h0 : to < 0
  · have e : F.send to s = F ∧ F.sendN to = 0 ∧ F.sendE to = 2 := by
      have : Fl.node to = false := by simp [Fl.node]; omega
      simp [Fl.send, Fl.sendN, Fl.sendE, this]
    obtain ⟨e1, e2, e3⟩ := e
    rw [e1, e2, e3]
    have HT := Lib.hid (Fl.Turns.refl h)
    clear h e1 e2 e3
    go_enter Try.func23, Try.ntmps23
    go_wp2
    go_ret2
    exact ⟨rfl, HT.out⟩
  by_cases h1 : 16 ≤ to
  · have e : F.send to s = F ∧ F.sendN to = 0 ∧ F.sendE to = 2 := by
      have : Fl.node to = false := by simp [Fl.node]; omega
      simp [Fl.send, Fl.sendN, Fl.sendE, this]
    obtain ⟨e1, e2, e3⟩ := e
    rw [e1, e2, e3]
    have HT := Lib.hid (Fl.Turns.refl h)
    clear h e1 e2 e3
    go_enter Try.func23, Try.ntmps23
    go_wp2
    go_ret2
    exact ⟨rfl, HT.out⟩
  have e : F.send to s = F.lay to s ∧ F.sendN to = F.layN ∧ F.sendE to = F.layE := by
    have : Fl.node to = true := by simp [Fl.node]; omega
    simp [Fl.send, Fl.sendN, Fl.sendE, this]
  obtain ⟨e1, e2, e3⟩ := e
  rw [e1, e2, e3]
  clear e1 e2 e3
  obtain ⟨a, c, hv, _⟩ := h.own.form
  have hc : w.cell? ⟨B, 0, none⟩ = some v := h.cell 0 _ rfl
  have hB := h.lt
  by_cases hf : 1000 ≤ F.notes.length
  · have e : F.lay to s = F ∧ F.layN = 0 ∧ F.layE = 30 := by simp [Fl.lay, Fl.layN, Fl.layE, Fl.full, hf]
    obtain ⟨e1, e2, e3⟩ := e
    have HT := Lib.hid (Fl.Turns.refl h)
    rw [e1, e2, e3]
    subst hv
    generalize F.notes.length = n at *
    have hfi : 1000 ≤ (n : Int) := by omega
    clear h e1 e2 e3
    go_enter Try.func23, Try.ntmps23
    go_wp2
    go_ret2
    exact ⟨rfl, HT.out⟩
  · have hl : F.notes.length < 1000 := by omega
    obtain ⟨e1, e2, e3⟩ := lay_few5 (F := F) to s hl
    have hN := ref_next h
    have hc0 : w.cell? ⟨B, 1, none⟩ = some (.int .u32 (F.last.toNat : Int)) := h.cell 1 _ rfl
    have hf0 := h.thawed 1
    have hnl := next_num F.last
    rw [e1, e2, e3]
    have HS : Stays B v.ownBlock w (w.setCell ⟨B, 1, none⟩ (.int .u32 ((F.last + 1).toNat : Int))) := (Stays.refl B _ w).setCell _ _ rfl
    obtain ⟨x, hx⟩ : ∃ x, F.last + 1 = x := ⟨_, rfl⟩
    rw [hx] at hN hnl HS ⊢
    obtain ⟨W, hW⟩ : ∃ W, w.setCell ⟨B, 1, none⟩ (.int .u32 (x.toNat : Int)) = W := ⟨_, rfl⟩
    rw [hW] at hN HS
    replace hN := hN.below (Below.refl _ W).drew
    have hc2 := hN.cell 0 v rfl
    have hc3 : W.drew.cell? ⟨B, 1, none⟩ = some (.int .u32 (x.toNat : Int)) := hN.cell 1 _ rfl
    have hf2 := hN.thawed 0
    have hA0 : W.cell? ⟨B, 0, none⟩ = some v := hN.cell 0 _ rfl
    have hA1 : W.cell? ⟨B, 1, none⟩ = some (.int .u32 (x.toNat : Int)) := hN.cell 1 _ rfl
    have hB2 := hN.lt
    have hB3 : B < W.heap.size := hN.lt
    have HE := Lib.hid (fun (n : Nt) (w2 : World) (tmp : Obj) (v' : Value) (hs : n.s.size ≤ 10000) (ho : Notes w2 (B + 1) v' (F.notes ++ [n])) => ref_lay_end (v' := v') (w2 := w2) (tmp := tmp) hN hl hs ho)
    have HR := Lib.hid (fun (w2 : World) (tmp : Obj) (hg : World.grownBy (World.alloc W.drew tmp) w2 v.ownBlock) => show (w2.cell? ⟨B, 0, none⟩ = some v ∧ w2.cell? ⟨B, 1, none⟩ = some (.int .u32 (x.toNat : Int))) ∧ w2.frozen? ⟨B, 0, none⟩ = false by simp [World.frozen?, World.cell?, lay_row (w2 := w2) (tmp := tmp) hN hg, Fl.cells])
    have hown := hN.own
    have hlo : F.notes.length + 1 ≤ 1000000 := by omega
    have HSd : Stays B v.ownBlock w W.drew := ⟨HS.os, HS.tape, HS.output, HS.size, HS.block⟩
    obtain ⟨n, hn⟩ : ∃ n, F.notes.length = n := ⟨_, rfl⟩
    have HFN := Lib.hid hn
    rw [hn] at hv hf hl
    have hfi : ¬ 1000 ≤ (n : Int) := by omega
    clear h hN e1 e2 e3 hx hn
    subst hv
    go_enter Try.func23, Try.ntmps23
    go_wp2
    go_region_law (refine step_append_notes rfl _ _ rfl (B + 1) (.slice a n c) F.notes rfl (hown.below ((Below.refl _ W.drew).alloc (Nat.le_refl _) _)) ⟨W.heap.size, 0, none⟩ 1 1 [⟨x, to, s⟩] rfl rfl (cell_note W.drew ⟨x, to, s⟩ _) hlo (by simp; omega) ?_; intro v' w2 ho hg hat; have hend := HE.out _ _ _ _ hs ho hg hat; obtain ⟨⟨hy2, hy3⟩, hz2⟩ := HR.out _ _ hg; obtain ⟨a2, c2, e2, _⟩ := ho.form; generalize (F.notes ++ [(⟨x, to, s⟩ : Nt)]).length = q at e2; subst e2)
    all_goals
      go_wp2
      go_ret2
      obtain ⟨v'', r1, r2, r3⟩ := hend
      exact ⟨rfl, v'', r1, fun g hg => (r2 g hg).imp id (Nat.le_trans HSd.size), HSd.trans r3 (fun g hg => .inl hg)⟩
end Go.Proofs.Ytialmaapahjchaa
