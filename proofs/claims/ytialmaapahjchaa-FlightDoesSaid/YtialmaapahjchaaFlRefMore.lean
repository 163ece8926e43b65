/-
  The document's flight: Copy, Hurt, Oldest, walked.
-/
import Derived.Test.YtialmaapahjchaaFlRef
import Derived.Test.YtialmaapahjchaaFlHurt
namespace Go.Proofs.Ytialmaapahjchaa
open Go.RowKit Go.Shelf
attribute [local go_sem] Oper.semAt_some
set_option linter.unusedVariables false
set_option linter.unusedSimpArgs false

theorem place_no {F : Fl} {at' : Int} (hp : ¬ F.place at' = true) : at' < 0 ∨ ¬ at' < 0 ∧ (F.notes.length : Int) ≤ at' := by simp [Fl.place] at hp; omega
set_option maxRecDepth 100000 in
set_option maxHeartbeats 4000000 in
theorem refCopy (F : Fl) (B : Nat) (v : Value) (at' : Int) (w : World) (h : Fl.Is false F B v w) (hnode : ∀ n ∈ F.notes, Fl.node n.to = true) : Calls Try.prog 25 #[.pointer (some ⟨B, 0, none⟩), .int .i64 at'] w fun e w' =>
    e = .returned (.tuple #[.int .u32 ((F.copyN at').toNat : Int), .int .i64 (F.copyE at')]) ∧ Fl.Turns false (F.copy at') B v w w' := by
  by_cases hp : F.place at' = true
  · obtain ⟨k, rfl, hk⟩ := Fl.place_iff.1 hp
    have hn := hnode _ (List.getElem_mem hk)
    have e : F.send F.notes[k].to F.notes[k].s = F.copy (k : Int) ∧ F.sendN F.notes[k].to = F.copyN (k : Int) ∧ F.sendE F.notes[k].to = F.copyE (k : Int) := by
      simp [Fl.send, Fl.sendN, Fl.sendE, Fl.copy, Fl.copyN, Fl.copyE, hn, hp, Fl.note_at hk]
    obtain ⟨e1, e2, e3⟩ := e
    have hd := h.below (Below.refl _ w).drew
    have HL := refSend F B v F.notes[k].to F.notes[k].s w.drew hd (h.ok.small _ (List.getElem_mem hk))
    rw [e1, e2, e3] at HL
    have HW := Lib.hid (fun (w2 : World) (ht : Fl.Turns false (F.copy (k : Int)) B v w.drew w2) => Fl.Turns.wrap h (Below.refl _ w).drew ht (Below.refl _ _))
    have hc1 : w.drew.cell? ⟨B, 0, none⟩ = some v := hd.cell 0 _ rfl
    have hc0 : w.cell? ⟨B, 0, none⟩ = some v := h.cell 0 _ rfl
    obtain ⟨g, c, hv, hc, hbg, hgw, hfz, q0, q1, q2⟩ := hd.own.cell k hk
    generalize hx : F.notes[k] = x at *
    obtain ⟨n, hn⟩ : ∃ n, F.notes.length = n := ⟨_, rfl⟩
    rw [hn] at hv hc hk
    have hki : (k : Int) < (n : Int) := by omega
    obtain ⟨xi, xt, xs⟩ := x
    dsimp only at q0 q1 q2 HL HW ⊢
    generalize F.copyN (k : Int) = LN at *
    generalize F.copyE (k : Int) = LE at *
    subst hv
    clear h hd hn hfz hp e1 e2 e3 hx hnode
    go_enter Try.func25, Try.ntmps25
    go_wp2
    refine (wpIn_wide (n := 3)).1 ?_
    refine wpIn_region_any (by kernel_rfl) ?_
    change wpAnyIn _ _ _ _ _ _ 22 _ _ w.drew
    refine wpAnyIn_phase wide_plain 0 17 (g := 5) (by kernel_rfl) rfl (by kernel_rfl) rfl ?_
    simp only [List.drop_succ_cons, List.drop_zero, List.take_succ_cons, List.take_zero, Nat.reduceSub]
    repeat still_step
    refine wpStill_nil ?_
    refine wpAnyIn_sole 17 (by kernel_rfl) rfl (fun K hK => ?_)
    go_simp
    refine ⟨trivial, (callsIn_wide.2 HL).mono ?_⟩
    rintro e w2 ⟨rfl, hT⟩
    refine hK _ _ ?_
    clear hK K
    refine wpAnyIn_phase wide_plain 18 20 (g := 2) (by kernel_rfl) rfl (by kernel_rfl) rfl ?_
    simp only [List.drop_succ_cons, List.drop_zero, List.take_succ_cons, List.take_zero, Nat.reduceSub]
    repeat still_step
    refine wpStill_nil ?_
    refine wpAnyIn_of_seq (List.drop 20 (Array.toList _)) 20 _ _ _ (fun j => by rw [List.getElem?_drop, Array.getElem?_toList]) (by kernel_rfl) ?_
    simp only [List.drop_succ_cons, List.drop_zero]
    gi_wp2
    go_wp2
    go_ret2
    exact ⟨rfl, HW.out _ hT⟩
  · have e2 : F.copy at' = F ∧ F.copyN at' = 0 ∧ F.copyE at' = 2 := by simp [Fl.copy, Fl.copyN, Fl.copyE, hp]
    obtain ⟨e2, e3, e4⟩ := e2
    rw [e2, e3, e4]
    have hor := place_no hp
    have HT := Lib.hid (Fl.Turns.refl h)
    obtain ⟨a, c, hv, _⟩ := h.own.form
    have hc0 : w.cell? ⟨B, 0, none⟩ = some v := h.cell 0 _ rfl
    generalize F.notes.length = n at *
    clear h hp e2 e3 e4
    subst hv
    rcases hor with h0 | ⟨h0, h1⟩
    · go_enter Try.func25, Try.ntmps25
      go_wp2
      go_ret2
      exact ⟨rfl, HT.out⟩
    · go_enter Try.func25, Try.ntmps25
      go_wp2
      go_ret2
      exact ⟨rfl, HT.out⟩
theorem refChangeYes (s : ByteArray) (bit : Int) (m : BitVec 32) (hs : s.size ≤ 10000) (h : Fl.bits s bit = true) (w : World) :
    Calls Try.prog 34 #[.string s, .int .i64 bit, .int .u32 (m.toNat : Int)] w fun e w' => e = .returned (.tuple #[.string (txt (CrcM.chg s.data.toList bit.toNat m.toNat)), .int .i64 0]) ∧ Below w.heap.size w w' := by
  simp only [Fl.bits, Bool.and_eq_true, decide_eq_true_eq] at h
  exact refChangeIn s bit m (by omega) ⟨h.1, h.2⟩ w
theorem refChangeNo (s : ByteArray) (bit : Int) (m : BitVec 32) (hs : s.size ≤ 10000) (h : ¬ Fl.bits s bit = true) (w : World) :
    Calls Try.prog 34 #[.string s, .int .i64 bit, .int .u32 (m.toNat : Int)] w fun e w' => e = .returned (.tuple #[.string ⟨#[]⟩, .int .i64 2]) ∧ Below w.heap.size w w' := by
  simp only [Fl.bits, Bool.and_eq_true, decide_eq_true_eq] at h
  exact refChangeOut s bit m (by omega) (fun hh => h ⟨hh.1, hh.2⟩) w
set_option maxRecDepth 100000 in
set_option maxHeartbeats 4000000 in
theorem refHurt (F : Fl) (B : Nat) (v : Value) (at' bit : Int) (m : BitVec 32) (w : World) (h : Fl.Is false F B v w) : Calls Try.prog 26 #[.pointer (some ⟨B, 0, none⟩), .int .i64 at', .int .i64 bit, .int .u32 (m.toNat : Int)] w fun e w' =>
    e = .returned (.int .i64 (F.hurtE at' bit)) ∧ Fl.Turns false (F.hurt at' bit m) B v w w' := by
  by_cases hp : F.place at' = true
  · obtain ⟨k, rfl, hk⟩ := Fl.place_iff.1 hp
    have hsm := h.ok.small _ (List.getElem_mem hk)
    have hc1 : w.cell? ⟨B, 0, none⟩ = some v := h.cell 0 _ rfl
    obtain ⟨g, c, hv, hc, hbg, hgw, hfz, q0, q1, q2⟩ := h.own.cell k hk
    have hk0 : ¬ (k : Int) < 0 := by omega
    by_cases hb : Fl.bits F.notes[k].s bit = true
    · have e2 : F.hurtE (k : Int) bit = 0 := by simp [Fl.hurtE, hp, Fl.note_at hk, hb]
      have e3 : F.hurt (k : Int) bit m = { F with notes := F.notes.set k { F.notes[k] with s := txt (CrcM.chg F.notes[k].s.data.toList bit.toNat m.toNat) } } := by simp [Fl.hurt, hp, Fl.note_at hk, hb]
      have HG := refChangeYes _ bit m hsm hb w
      have hts : (txt (CrcM.chg F.notes[k].s.data.toList bit.toNat m.toNat)).size ≤ 10000 := by rw [txt_size, CrcM.chg_length]; simpa using hsm
      rw [e2, e3]
      have HE := Lib.hid (fun (w1 : World) (hb : Below w.heap.size w w1) => Fl.Turns.wrap h hb (hurt_end (h.below hb) k hk _ hts hv) (Below.refl _ _))
      have HQ := Lib.hid (fun (w1 : World) (hb : Below w.heap.size w w1) => show w1.cell? ⟨B, 0, none⟩ = some v ∧ w1.frozen? ⟨g, k * 3 + 2, none⟩ = false ∧ w1.cell? ⟨g, k * 3 + 2, none⟩ = some (.string F.notes[k].s) from
        ⟨(h.below hb).cell 0 _ rfl, (hb.frozen (p := ⟨g, k * 3 + 2, none⟩) hgw).trans (hfz _), (hb.cell (p := ⟨g, k * 3 + 2, none⟩) hgw).trans q2⟩)
      obtain ⟨T, hT⟩ : ∃ T, txt (CrcM.chg F.notes[k].s.data.toList bit.toNat m.toNat) = T := ⟨_, rfl⟩
      rw [hT] at HE HG ⊢
      generalize hx : F.notes[k] = x at *
      obtain ⟨n, hn⟩ : ∃ n, F.notes.length = n := ⟨_, rfl⟩
      rw [hn] at hv hc hk
      have hki : (k : Int) < (n : Int) := by omega
      obtain ⟨xi, xt, xs⟩ := x
      dsimp only at q0 q1 q2 HG HQ
      subst hv
      clear h hn hfz hp e2 e3 hx hT hb
      go_enter Try.func26, Try.ntmps26
      go_wp2_with (go_at_call 34; refine HG.mono ?_; rintro e w1 ⟨rfl, hb1⟩; obtain ⟨y1, y2, y3⟩ := HQ.out _ hb1)
      go_ret
      exact ⟨rfl, HE.out _ hb1⟩
    · have e2 : F.hurtE (k : Int) bit = 2 := by simp [Fl.hurtE, hp, Fl.note_at hk, hb]
      have e3 : F.hurt (k : Int) bit m = F := by simp [Fl.hurt, hp, Fl.note_at hk, hb]
      have HG := refChangeNo _ bit m hsm hb w
      rw [e2, e3]
      have HE := Lib.hid (fun (w1 : World) (hb : Below w.heap.size w w1) => Fl.Turns.of_below h hb)
      generalize hx : F.notes[k] = x at *
      obtain ⟨n, hn⟩ : ∃ n, F.notes.length = n := ⟨_, rfl⟩
      rw [hn] at hv hc hk
      have hki : (k : Int) < (n : Int) := by omega
      obtain ⟨xi, xt, xs⟩ := x
      dsimp only at q0 q1 q2 HG
      subst hv
      clear h hn hfz hp e2 e3 hx hb
      go_enter Try.func26, Try.ntmps26
      go_wp2_with (go_at_call 34; refine HG.mono ?_; rintro e w1 ⟨rfl, hb1⟩)
      go_ret
      exact ⟨rfl, HE.out _ hb1⟩
  · have e2 : F.hurt at' bit m = F ∧ F.hurtE at' bit = 2 := by simp [Fl.hurt, Fl.hurtE, hp]
    obtain ⟨e2, e3⟩ := e2
    rw [e2, e3]
    have hor := place_no hp
    have HT := Lib.hid (Fl.Turns.refl h)
    obtain ⟨a, c, hv, _⟩ := h.own.form
    have hc0 : w.cell? ⟨B, 0, none⟩ = some v := h.cell 0 _ rfl
    generalize F.notes.length = n at *
    clear h hp e2 e3
    subst hv
    rcases hor with h0 | ⟨h0, h1⟩
    · go_enter Try.func26, Try.ntmps26
      go_wp2
      go_ret
      exact ⟨rfl, HT.out⟩
    · go_enter Try.func26, Try.ntmps26
      go_wp2
      go_ret
      exact ⟨rfl, HT.out⟩
theorem first_lt {l : List Nt} {to : Int} {k : Nat} (h : Fl.first l to = some k) : ∃ hk : k < l.length, l[k].to = to ∧ ∀ j (hj : j < k), l[j].to ≠ to := by
  rw [Fl.first, List.findIdx?_eq_some_iff_getElem] at h
  obtain ⟨hk, h1, h2⟩ := h
  exact ⟨hk, by simpa using h1, fun j hj => by simpa using h2 j hj⟩
set_option maxRecDepth 100000 in
set_option maxHeartbeats 4000000 in
theorem refOldest (F : Fl) (B : Nat) (v : Value) (to : Int) (w : World) (h : Fl.Is false F B v w) : Calls Try.prog 16 #[.pointer (some ⟨B, 0, none⟩), .int .i64 to] w fun e w' =>
    e = .returned (.int .i64 (F.oldest to)) ∧ w = w' := by
  obtain ⟨a, c, hv, _⟩ := h.own.form
  have hc0 : w.cell? ⟨B, 0, none⟩ = some v := h.cell 0 _ rfl
  have hown := Lib.hid h.own
  have HF := Lib.hid (fun (k : Nat) hk hno he => first_at F.notes to k hk hno he)
  have HNO := Lib.hid (first_no F.notes to)
  obtain ⟨n, hn⟩ : ∃ n, F.notes.length = n := ⟨_, rfl⟩
  have HN := Lib.hid hn
  rw [hn] at hv
  have hnb : n ≤ 1000 := by have := h.ok.few; omega
  clear h hn
  subst hv
  go_enter Try.func16, Try.ntmps16
  go_wp2
  go_loopw [5] (fun i W => ∃ k : Nat, k ≤ n ∧ i = .int .i64 k ∧ W = w ∧ ∀ j x, j < k → F.notes[j]? = some x → x.to ≠ to) (fun i _ => n - (intOf i).toNat)
  case atStart => exact ⟨0, Nat.zero_le _, rfl, rfl, fun j x hj => absurd hj (Nat.not_lt_zero _)⟩
  case round =>
    obtain ⟨k, hk, rfl, rfl, hno⟩ := hrel
    have HNK := Lib.hid hno
    clear hno
    by_cases hlt : k < n
    · have hkl : k < F.notes.length := by rw [HN.out]; exact hlt
      have hki : (k : Int) < (n : Int) := by omega
      obtain ⟨g, c1, e1, _, _, _, _, q0, q1, q2⟩ := hown.out.cell k hkl
      simp only [Value.slice.injEq] at e1
      obtain ⟨rfl, -, rfl⟩ := e1
      have HA := Lib.hid (HF.out k hkl HNK.out)
      have HNX := Lib.hid (fun (hne : F.notes[k].to ≠ to) j x (hj : j < k + 1) (hy : F.notes[j]? = some x) => show x.to ≠ to from by
        by_cases h : j = k
        · rw [h, List.getElem?_eq_getElem hkl] at hy
          cases hy; exact hne
        · exact HNK.out j x (by omega) hy)
      generalize F.notes[k] = x at *
      obtain ⟨xi, xt, xs⟩ := x
      dsimp only at q0 q1 q2 HA HNX
      by_cases ht : xt = to
      · have hO : F.oldest to = (k : Int) := by rw [Fl.oldest, HA.out ht]
        have HO := Lib.hid hO
        have hq : (xt == to) = true := by simpa using ht
        clear hO
        go_wp2
        go_ret
        exact ⟨by rw [HO.out]; rfl, rfl⟩
      · have hq : (xt == to) = false := by simpa using ht
        have HNX2 := Lib.hid (HNX.out ht)
        go_wp2
        go_roundw
        case rel => exact ⟨k + 1, by omega, by go_num, by first | rfl | trivial, HNX2.out⟩
        case measure => simp [intOf]; omega
    · obtain rfl : k = n := by omega
      have hO : F.oldest to = -1 := by rw [Fl.oldest, HNO.out (fun j x hj hx => HNK.out j x (by rw [← HN.out]; exact hj) hx)]
      have HO := Lib.hid hO
      clear hO
      go_wp2
      go_ret
      exact ⟨by rw [HO.out]; rfl, rfl⟩
end Go.Proofs.Ytialmaapahjchaa
