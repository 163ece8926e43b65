/-
  Layer 5's law FlightDoes: walked.
-/
import Derived.Test.YtialmaapahjchaaFlDid2
namespace Go.Proofs.Ytialmaapahjchaa
open Go.RowKit Go.Shelf
attribute [local go_sem] Oper.semAt_some
set_option linter.unusedVariables false
set_option linter.unusedSimpArgs false

theorem lay_nodes {F : Fl} {to : Int} {s : ByteArray} (h : ∀ n ∈ F.notes, Fl.node n.to = true) (ht : Fl.node to = true) : ∀ n ∈ (F.lay to s).notes, Fl.node n.to = true := by
  unfold Fl.lay
  split
  · exact h
  · intro n hn
    rcases List.mem_append.1 hn with h1 | h1
    · exact h n h1
    · rw [List.mem_singleton.1 h1]; exact ht
theorem doing_nodes {F : Fl} (r xa xb : Int) (xm : BitVec 32) (xs : ByteArray) (h : ∀ n ∈ F.notes, Fl.node n.to = true) : ∀ n ∈ (doing F r xa xb xm xs).notes, Fl.node n.to = true := by
  unfold doing
  split
  · unfold Fl.send
    split
    · rename_i hn; exact lay_nodes h hn
    · exact h
  · split
    · unfold Fl.drop
      split
      · exact fun n hn => h n (List.mem_of_mem_eraseIdx hn)
      · exact h
    · split
      · unfold Fl.copy
        split
        · rename_i hp
          obtain ⟨k, rfl, hk⟩ := Fl.place_iff.1 hp
          exact lay_nodes h (by rw [Fl.note_at hk]; exact h _ (List.getElem_mem hk))
        · exact h
      · rcases hurt_cases F xa xb xm with e | ⟨j, hj, s, e⟩
        · rw [e]; exact h
        · rw [e]
          intro n hn
          rcases List.mem_or_eq_of_mem_set hn with h1 | h1
          · exact h n h1
          · rw [h1]; exact h F.notes[j] (List.getElem_mem hj)
set_option maxRecDepth 100000 in
set_option maxHeartbeats 8000000 in
theorem lawFlDoes (v0 : Value) (l : List Ac) (w : World) (hT : FlActs w v0 l) (hll : l.length ≤ maxLen) (hZ : ∀ x ∈ l, x.1 ≤ 2 ^ 63 - 1 ∧ x.2.1 ≤ 2 ^ 63 - 1 ∧ x.2.2.1 ≤ 2 ^ 63 - 1 ∧ x.2.2.2.2.size ≤ maxLen) : Calls Try.prog 3 #[v0] w fun e w' => e = .returned (.bool true) ∧ Below w.heap.size w w' := by
  obtain ⟨a, c, rfl⟩ := flacts_form hT
  obtain ⟨len, hlen⟩ : ∃ len, l.length = len := ⟨_, rfl⟩
  have HT := Lib.hid hT
  have HL := Lib.hid hlen
  have HZ := Lib.hid hZ
  rw [hlen] at hll ⊢
  clear hT hlen hZ
  go_enter Try.func3, Try.ntmps3
  go_wp2_with (first
    | (go_at_call 10; refine (lawShown5 _).mono ?_; rintro e w1 ⟨rfl, hb1⟩)
    | (go_at_call 11; refine (flNew _).mono ?_; rintro e w2 ⟨rfl, hI2, hb2⟩))
  have hn1 := hb1.size
  have hB2 : Below w.heap.size w w2 := hb1.trans (hb2.mono hn1)
  have hBM := hI2.lt
  have hI3 := hI2.below ((Below.refl _ w2).alloc (Nat.le_refl _) (.cells #[.slice none 0 0, .int .u32 0] 30))
  have hB3 := hB2.alloc hB2.size (.cells #[.slice none 0 0, .int .u32 0] 30)
  have hR3 : Fl.Is false Fl.new w2.heap.size (.slice none 0 0) (w2.alloc (.cells #[.slice none 0 0, .int .u32 0] 30)) := ⟨World.alloc_heap_new w2 _, Notes.nil _ _, Fl.new_ok⟩
  obtain ⟨M, hMM⟩ : ∃ M, w2.heap.size = M := ⟨_, rfl⟩
  have hnM : w.heap.size ≤ M := by omega
  rw [hMM] at hR3 ⊢
  generalize w2.alloc (.cells #[.slice none 0 0, .int .u32 0] 30) = w3 at *
  go_loopw [6, 7] (fun i _ W => ∃ (k : Nat) (F : Fl) (v1 v2 : Value), k ≤ len ∧ k ≤ 60 ∧ i = .int .i64 k ∧ (∀ n ∈ F.notes, Fl.node n.to = true) ∧ Half F F w1.heap.size M v1 v2 W ∧ Below w.heap.size w W) (fun i _ _ => 60 - (intOf i).toNat)
  case atStart => exact ⟨0, Fl.new, _, _, Nat.zero_le _, Nat.zero_le _, rfl, (fun n hn => by cases hn), ⟨hI3, hR3, fun g hg => by cases hg⟩, hB3⟩
  case round =>
    clear hI3 hB3 hI2 hb2 hB2 hR3
    obtain ⟨k, F, v1, v2, hk, hk60, rfl, hnode, hH, hB⟩ := hrel
    by_cases hlt : k < len
    · by_cases h60 : k < 60
      · have hkl : k < l.length := by rw [HL.out]; exact hlt
        obtain ⟨ad, c', h0, hx⟩ := flacts_at HT.out k hkl
        simp only [Value.slice.injEq] at h0
        obtain ⟨rfl, -, rfl⟩ := h0
        have hzx := HZ.out l[k] (List.getElem_mem hkl)
        generalize l[k] = x at hx hzx
        obtain ⟨xd, xa, xb, xm, xs⟩ := x
        have HX := Lib.hid hx
        have hki : (k : Int) < (len : Int) := by omega
        have hki60 : (k : Int) < 60 := by omega
        obtain ⟨q0, q1, q2, q3, q4⟩ := hx wr hB
        dsimp only at q0 q1 q2 q3 q4
        have HD := lawDid F w1.heap.size M w.heap.size v1 v2 xd xa xb xm xs wr hH hnode hzx.2.2.1 hn1 hnM hB.size
        have hnode2 := Lib.hid (doing_nodes ((IntKind.u64.wrap xd).tmod 6) xa xb xm xs hnode)
        generalize doing F ((IntKind.u64.wrap xd).tmod 6) xa xb xm xs = G at *
        clear hx hzx hH hnode
        go_wp2_with (go_at_call 12; refine HD.mono ?_; rintro e w5 ⟨rfl, ⟨v5, u5, hH5⟩, hb5⟩)
        replace hB := (hB.trans hb5).trans ((Below.refl _ w5).drew.mono (hB.trans hb5).size)
        replace hH5 := hH5.below (Below.refl _ w5).drew
        obtain ⟨ua, uc, hu, _⟩ := hH5.two.own.form
        have HO1 := Lib.hid (fun (W : World) (hI : Fl.Is true G w1.heap.size v5 W) => flOldest G _ v5 xa W hI)
        have HO2 := Lib.hid (fun (W : World) (hI : Fl.Is false G M u5 W) => refOldest G _ u5 xa W hI)
        have HA := Lib.hid (fun (W : World) (hI : Fl.Is true G w1.heap.size v5 W) => flAll G _ v5 W hI)
        generalize G.oldest xa = ox at *
        obtain ⟨gn, hgn⟩ : ∃ gn, G.notes.length = gn := ⟨_, rfl⟩
        rw [hgn] at hu
        have HGN := Lib.hid hgn
        clear hgn
        subst hu
        go_region_held3 (fun W => W.cell? ⟨M, 0, none⟩ = some (.slice ua gn uc) ∧ W.cell? ⟨(ad.add (k * 5)).block, (ad.add (k * 5)).off + 1, none⟩ = some (.int .i64 xa)) (first | exact ⟨hH5.two.cell 0 _ rfl, (HX.out _ hB).2.1⟩ | go_keep) (first
          | (go_at_call 14; refine (HA.out _ hH5.one).mono ?_; rintro e w6 ⟨⟨u, rfl, hN6⟩, hb6⟩; replace hB := hB.trans (hb6.mono hB.size); replace hH5 := hH5.below hb6; obtain ⟨a6, c6, hu6, _⟩ := hN6.form; rw [HGN.out] at hu6; subst hu6; clear hb6)
          | (go_at_call 13; refine (refSame G.notes _ _ _ _ _ hN6 hH5.two.own hH5.one.ok.few).mono ?_; rintro e w7 ⟨rfl, hb7⟩; replace hB := hB.trans (hb7.mono hB.size); replace hH5 := hH5.below hb7; clear hb7)
          | (go_at_call 15; refine (HO1.out _ hH5.one).mono ?_; rintro e w8 ⟨rfl, hb8⟩; replace hB := hB.trans (hb8.mono hB.size); replace hH5 := hH5.below hb8; clear hb8)
          | (go_at_call 16; refine (HO2.out _ hH5.two).mono ?_; rintro e w9 ⟨rfl, rfl⟩))
        all_goals
          go_wp2
          go_roundw
          case rel => exact ⟨k + 1, G, v5, _, by omega, by omega, by go_num, hnode2.out, hH5, hB⟩
          case measure => simp [intOf]; omega
      · have hki : (k : Int) < (len : Int) := by omega
        have hki60 : ¬ (k : Int) < 60 := by omega
        go_wp2
        go_ret
        exact ⟨rfl, hB⟩
    · have hki : ¬ (k : Int) < (len : Int) := by omega
      go_wp2
      go_ret
      exact ⟨rfl, hB⟩
end Go.Proofs.Ytialmaapahjchaa
