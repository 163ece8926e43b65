/-
  flight's Hurt: walked.
-/
import Derived.Test.YtialmaapahjchaaFlCalls
namespace Go.Proofs.Ytialmaapahjchaa
open Go.RowKit Go.Shelf
attribute [local go_sem] Oper.semAt_some
set_option linter.unusedVariables false
set_option linter.unusedSimpArgs false

theorem changeYes (s : ByteArray) (bit : Int) (m : BitVec 32) (hs : s.size ≤ 10000) (h : Fl.bits s bit = true) (w : World) :
    Calls Try.prog 33 #[.string s, .int .i64 bit, .int .u32 (m.toNat : Int)] w fun e w' => e = .returned (.tuple #[.string (txt (CrcM.chg s.data.toList bit.toNat m.toNat)), .int .i64 0]) ∧ Below w.heap.size w w' := by
  simp only [Fl.bits, Bool.and_eq_true, decide_eq_true_eq] at h
  obtain ⟨n, rfl⟩ := Int.eq_ofNat_of_zero_le h.1
  have h2 := h.2
  rw [Int.toNat_natCast]
  exact crcChange s n (n / 8) (n % 8) m (by omega) (by omega) (by omega) (by omega) w
theorem changeNo (s : ByteArray) (bit : Int) (m : BitVec 32) (hs : s.size ≤ 10000) (hb : bit ≤ 2 ^ 63 - 1) (h : ¬ Fl.bits s bit = true) (w : World) :
    Calls Try.prog 33 #[.string s, .int .i64 bit, .int .u32 (m.toNat : Int)] w fun e w' => e = .returned (.tuple #[.string ⟨#[]⟩, .int .i64 2]) ∧ Below w.heap.size w w' := by
  simp only [Fl.bits, Bool.and_eq_true, decide_eq_true_eq] at h
  exact crcChangeNo s bit m (by omega) hb (by omega) w
/-- A note's bytes written anew. -/
theorem hurt_end {k' : Bool} {F : Fl} {B : Nat} {v : Value} {w : World} (h : Fl.Is k' F B v w) (k : Nat) (hk : k < F.notes.length) (s : ByteArray) (hs : s.size ≤ 10000) {g n c : Nat} (hv : v = .slice (some ⟨g, 0, none⟩) n c) :
    Fl.Turns k' { F with notes := F.notes.set k { F.notes[k] with s := s } } B v w (w.setCell ⟨g, k * 3 + 2, none⟩ (.string s)) := by
  have hgB : ¬ B = g := by have := (h.own.lt g (by rw [hv]; rfl)).1; omega
  have hown : Notes (w.setCell ⟨g, k * 3 + 2, none⟩ (.string s)) (B + 1) v (F.notes.set k { F.notes[k] with s := s }) := by
    rcases h.own with ⟨h0, _⟩ | ⟨g', cap, cur, hv', hb, hw, hc, hm, hcs, ht⟩
    · rw [h0] at hv; cases hv
    · rw [hv] at hv'
      simp only [Value.slice.injEq, Option.some.injEq, Addr.mk.injEq, and_true] at hv'
      obtain ⟨rfl, hn', rfl⟩ := hv'
      refine .inr ⟨g, c, cur.setIfInBounds (k * 3 + 2) (.string s), by rw [List.length_set, hv, hn'], hb, ?_, by rw [List.length_set]; exact hc, hm, by simpa using hcs, ?_⟩
      · simp [World.setCell, Array.getElem?_modify, hw]
      · rw [List.length_set, flat_set _ _ _ hk]
        have e0 : (flat F.notes).set (k * 3) (.int .u32 (F.notes[k].id.toNat : Int)) = flat F.notes := by
          have := flat_get F.notes k 0 (by omega) hk
          refine List.ext_getElem? fun j => ?_
          rw [List.getElem?_set]
          split
          · rename_i e; subst e
            have h3 : k * 3 < (flat F.notes).length := by rw [flat_length]; omega
            rw [if_pos h3]
            simpa [Nt.cells] using this.symm
          · rfl
        have e1 : (flat F.notes).set (k * 3 + 1) (.int .i64 F.notes[k].to) = flat F.notes := by
          have := flat_get F.notes k 1 (by omega) hk
          refine List.ext_getElem? fun j => ?_
          rw [List.getElem?_set]
          split
          · rename_i e; subst e
            have h3 : k * 3 + 1 < (flat F.notes).length := by rw [flat_length]; omega
            rw [if_pos h3]
            simpa [Nt.cells] using this.symm
          · rfl
        rw [e0, e1, ← ht]
        simp [List.take_set]
  refine ⟨v, ⟨(Below.heap_setCell _ _ _ B hgB).trans h.row, hown, ⟨by simpa using h.ok.few, fun x hx => ?_⟩⟩, fun g hg => .inl hg, (Stays.refl B _ w).setOwn _ _ (by rw [hv]; rfl)⟩
  rcases List.mem_or_eq_of_mem_set hx with hx | rfl
  · exact h.ok.small x hx
  · exact hs
set_option maxRecDepth 100000 in
set_option maxHeartbeats 4000000 in
theorem flHurt (F : Fl) (B : Nat) (v : Value) (at' bit : Int) (m : BitVec 32) (w : World) (h : Fl.Is true F B v w) (hbit : bit ≤ 2 ^ 63 - 1) : Calls Try.prog 21 #[.pointer (some ⟨B, 0, none⟩), .int .i64 at', .int .i64 bit, .int .u32 (m.toNat : Int)] w fun e w' =>
    e = .returned (.int .i64 (F.hurtE at' bit)) ∧ Fl.Turns true (F.hurt at' bit m) B v w w' := by
  have HC := flCheck F B v at' w h
  by_cases hp : F.place at' = true
  · obtain ⟨k, rfl, hk⟩ := Fl.place_iff.1 hp
    have e1 : F.checkE (k : Int) = 0 := by simp [Fl.checkE, hp]
    have hsm := h.ok.small _ (List.getElem_mem hk)
    have hc1 : w.cell? ⟨B, 1, none⟩ = some v := h.cell 1 _ rfl
    obtain ⟨g, c, hv, hc, hbg, hgw, hfz, q0, q1, q2⟩ := h.own.cell k hk
    rw [e1] at HC
    by_cases hb : Fl.bits F.notes[k].s bit = true
    · have e2 : F.hurtE (k : Int) bit = 0 := by simp [Fl.hurtE, hp, Fl.note_at hk, hb]
      have e3 : F.hurt (k : Int) bit m = { F with notes := F.notes.set k { F.notes[k] with s := txt (CrcM.chg F.notes[k].s.data.toList bit.toNat m.toNat) } } := by simp [Fl.hurt, hp, Fl.note_at hk, hb]
      have HG := changeYes _ bit m hsm hb w
      have hts : (txt (CrcM.chg F.notes[k].s.data.toList bit.toNat m.toNat)).size ≤ 10000 := by rw [txt_size, CrcM.chg_length]; simpa using hsm
      rw [e2, e3]
      have HE := Lib.hid (fun (w1 : World) (hb : Below w.heap.size w w1) => Fl.Turns.wrap h hb (hurt_end (h.below hb) k hk _ hts hv) (Below.refl _ _))
      have HQ := Lib.hid (fun (w1 : World) (hb : Below w.heap.size w w1) => show w1.cell? ⟨B, 1, none⟩ = some v ∧ w1.frozen? ⟨g, k * 3 + 2, none⟩ = false ∧ w1.cell? ⟨g, k * 3 + 2, none⟩ = some (.string F.notes[k].s) from
        ⟨(h.below hb).cell 1 _ rfl, (hb.frozen (p := ⟨g, k * 3 + 2, none⟩) hgw).trans (hfz _), (hb.cell (p := ⟨g, k * 3 + 2, none⟩) hgw).trans q2⟩)
      obtain ⟨T, hT⟩ : ∃ T, txt (CrcM.chg F.notes[k].s.data.toList bit.toNat m.toNat) = T := ⟨_, rfl⟩
      rw [hT] at HE HG ⊢
      generalize hx : F.notes[k] = x at *
      obtain ⟨n, hn⟩ : ∃ n, F.notes.length = n := ⟨_, rfl⟩
      rw [hn] at hv hc hk
      have hki : (k : Int) < (n : Int) := by omega
      obtain ⟨xi, xt, xs⟩ := x
      dsimp only at q0 q1 q2 HG HQ
      subst hv
      clear h hn hfz hp e1 e2 e3 hx hT hb
      go_enter Try.func21, Try.ntmps21
      go_wp2_with (first
        | (go_at_call 31; refine HC.mono ?_; rintro e w' ⟨rfl, rfl⟩)
        | (go_at_call 33; refine HG.mono ?_; rintro e w1 ⟨rfl, hb1⟩; obtain ⟨y1, y2, y3⟩ := HQ.out _ hb1))
      go_ret
      exact ⟨rfl, HE.out _ hb1⟩
    · have e2 : F.hurtE (k : Int) bit = 2 := by simp [Fl.hurtE, hp, Fl.note_at hk, hb]
      have e3 : F.hurt (k : Int) bit m = F := by simp [Fl.hurt, hp, Fl.note_at hk, hb]
      have HG := changeNo _ bit m hsm hbit hb w
      rw [e2, e3]
      have HE := Lib.hid (fun (w1 : World) (hb : Below w.heap.size w w1) => Fl.Turns.of_below h hb)
      generalize hx : F.notes[k] = x at *
      obtain ⟨n, hn⟩ : ∃ n, F.notes.length = n := ⟨_, rfl⟩
      rw [hn] at hv hc hk
      have hki : (k : Int) < (n : Int) := by omega
      obtain ⟨xi, xt, xs⟩ := x
      dsimp only at q0 q1 q2 HG
      subst hv
      clear h hn hfz hp e1 e2 e3 hx hb hbit
      go_enter Try.func21, Try.ntmps21
      go_wp2_with (first
        | (go_at_call 31; refine HC.mono ?_; rintro e w' ⟨rfl, rfl⟩)
        | (go_at_call 33; refine HG.mono ?_; rintro e w1 ⟨rfl, hb1⟩))
      go_ret
      exact ⟨rfl, HE.out _ hb1⟩
  · have e1 : F.checkE at' = 2 := by simp [Fl.checkE, hp]
    have e2 : F.hurt at' bit m = F ∧ F.hurtE at' bit = 2 := by simp [Fl.hurt, Fl.hurtE, hp]
    obtain ⟨e2, e3⟩ := e2
    rw [e1] at HC
    rw [e2, e3]
    have HT := Lib.hid (Fl.Turns.refl h)
    clear h hp e1 e2 e3 hbit
    go_enter Try.func21, Try.ntmps21
    go_wp2_with (first
      | (go_at_call 31; refine HC.mono ?_; rintro e w' ⟨rfl, rfl⟩))
    go_ret
    exact ⟨rfl, HT.out⟩
end Go.Proofs.Ytialmaapahjchaa
