/-
  Layer 5's law FlightCopies: walked.
-/
import Derived.Test.YtialmaapahjchaaFlText
import Derived.Test.YtialmaapahjchaaFlActs
import Derived.Test.YtialmaapahjchaaHeld
import Derived.LoopTactic
import Derived.BigQuiet
import Derived.Deep.QuietTactic
import Derived.Deep.RegionHeld3
namespace Go.Proofs.Ytialmaapahjchaa
open Go.RowKit Go.Shelf
attribute [local go_sem] Oper.semAt_some
set_option linter.unusedVariables false
set_option linter.unusedSimpArgs false

theorem add_off (a : Addr) (m n : Nat) (hn : 0 < n) : (⟨(a.add m).block, (a.add m).off + n, none⟩ : Addr) = a.add (m + n) := by
  simp only [Addr.add]
  by_cases hm : m = 0
  · subst hm
    simp [show n ≠ 0 by omega]
  · simp [hm, Nat.add_assoc]
abbrev Ac := Int × Int × Int × BitVec 32 × ByteArray
theorem flacts_form {w : World} {v : Value} {l : List Ac} (h : FlActs w v l) : ∃ a c, v = .slice a l.length c := by
  rcases h with ⟨rfl, rfl⟩ | ⟨a, c, rfl, _⟩
  · exact ⟨_, _, rfl⟩
  · exact ⟨_, _, rfl⟩
/-- The cells of an act that was handed in. -/
def ActAt (p : Addr) (x : Ac) (W : World) : Prop :=
  W.cell? p = some (.int .i64 x.1) ∧ W.cell? ⟨p.block, p.off + 1, none⟩ = some (.int .i64 x.2.1) ∧ W.cell? ⟨p.block, p.off + 2, none⟩ = some (.int .i64 x.2.2.1) ∧ W.cell? ⟨p.block, p.off + 3, none⟩ = some (.int .u32 (x.2.2.2.1.toNat : Int)) ∧ W.cell? ⟨p.block, p.off + 4, none⟩ = some (.string x.2.2.2.2)
theorem flacts_at {w : World} {v : Value} {l : List Ac} (h : FlActs w v l) (k : Nat) (hk : k < l.length) : ∃ a c, v = .slice (some a) l.length c ∧ ∀ W, Below w.heap.size w W → ActAt (a.add (k * 5)) l[k] W := by
  rcases h with ⟨rfl, rfl⟩ | ⟨a, c, rfl, hx⟩
  · simp at hk
  · refine ⟨a, c, rfl, fun W hb => ?_⟩
    obtain ⟨h0, h1, h2, h3, h4⟩ := hx k hk
    have hbl : ∀ j, (a.add j).block < w.heap.size := fun j => by rw [add_block]; exact cell_block h0
    refine ⟨?_, ?_, ?_, ?_, ?_⟩
    · exact (hb.cell (hbl _)).trans h0
    · rw [add_off _ _ _ (by decide)]; exact (hb.cell (hbl _)).trans h1
    · rw [add_off _ _ _ (by decide)]; exact (hb.cell (hbl _)).trans h2
    · rw [add_off _ _ _ (by decide)]; exact (hb.cell (hbl _)).trans h3
    · rw [add_off _ _ _ (by decide)]; exact (hb.cell (hbl _)).trans h4
theorem send_le (F : Fl) (to : Int) (s : ByteArray) : (F.send to s).notes.length ≤ F.notes.length + 1 := by
  unfold Fl.send Fl.lay
  split
  · split <;> simp
  · simp
/-- Notes that were handed back lie beside a flight. -/
theorem Notes.apart {k : Bool} {F0 F : Fl} {B b : Nat} {u v : Value} {l : List Nt} {w w' : World} (hN : Notes w b u l) (hI : Fl.Is k F0 B v w) (ht : Fl.Turns k F B v w w') (hu : ∀ g, u.ownBlock = some g → v.ownBlock ≠ some g) :
    ∃ v', Fl.Is k F B v' w' ∧ Notes w' b u l ∧ (∀ g, u.ownBlock = some g → v'.ownBlock ≠ some g) ∧ Stays B v.ownBlock w w' := by
  obtain ⟨v', h1, h2, h3⟩ := ht
  refine ⟨v', h1, hN.keep fun g hg => h3.block g (hN.lt g hg).2 (fun e => ?_) (hu g hg), fun g hg e => ?_, h3⟩
  · subst e
    obtain ⟨cur, hc⟩ := hN.typed g hg
    rw [hI.row] at hc
    simp only [Option.some.injEq, Obj.cells.injEq] at hc
    revert hc; cases k <;> simp [Fl.ty]
  · rcases h2 g e with e2 | e2
    · exact hu g hg e2
    · have := (hN.lt g hg).2; omega
set_option maxRecDepth 100000 in
set_option maxHeartbeats 4000000 in
theorem lawFlCopies (v0 : Value) (l : List Ac) (at' : Int) (w : World) (hT : FlActs w v0 l) (hll : l.length ≤ maxLen) : Calls Try.prog 9 #[v0, .int .i64 at'] w fun e w' => e = .returned (.bool true) ∧ Below w.heap.size w w' := by
  obtain ⟨a, c, rfl⟩ := flacts_form hT
  obtain ⟨len, hlen⟩ : ∃ len, l.length = len := ⟨_, rfl⟩
  have HT := Lib.hid hT
  have HL := Lib.hid hlen
  rw [hlen] at hll ⊢
  clear hT hlen
  go_enter Try.func9, Try.ntmps9
  go_wp2_with (first
    | (go_at_call 10; refine (lawShown5 _).mono ?_; rintro e w1 ⟨rfl, hb1⟩)
    | (go_at_call 11; refine (flNew _).mono ?_; rintro e w2 ⟨rfl, hI2, hb2⟩))
  have hn1 := hb1.size
  have hB2 : Below w.heap.size w w2 := hb1.trans (hb2.mono hn1)
  go_loopw [7] (fun i W => ∃ (k : Nat) (F : Fl) (v : Value), k ≤ len ∧ k ≤ 60 ∧ i = .int .i64 k ∧ F.notes.length ≤ k ∧ Fl.Is true F w1.heap.size v W ∧ Below w.heap.size w W) (fun i _ => 60 - (intOf i).toNat)
  case atStart => exact ⟨0, Fl.new, _, Nat.zero_le _, Nat.zero_le _, rfl, Nat.le_refl _, hI2, hB2⟩
  case round =>
    obtain ⟨k, F, v, hk, hk60, rfl, hl, hI, hB⟩ := hrel
    by_cases hlt : k < len
    · by_cases h60 : k < 60
      · have hkl : k < l.length := by rw [HL.out]; exact hlt
        obtain ⟨ad, c', h0, hx⟩ := flacts_at HT.out k hkl
        simp only [Value.slice.injEq] at h0
        obtain ⟨rfl, -, rfl⟩ := h0
        generalize l[k] = x at hx
        obtain ⟨xd, xa, xb, xm, xs⟩ := x
        have HX := Lib.hid hx
        have hki : (k : Int) < (len : Int) := by omega
        have hki60 : (k : Int) < 60 := by omega
        obtain ⟨q0, q1, q2, q3, q4⟩ := hx wr hB
        dsimp only at q0 q1 q2 q3 q4
        clear hx
        have HS := Lib.hid (fun (W : World) (hI : Fl.Is true F w1.heap.size v W) => flSend F _ v xa (hun xs) W hI (by have := hun_size xs; omega))
        go_wp2
        case roundEnd => exact ⟨⟨k + 1, F, v, by omega, by omega, by go_num, by omega, hI, hB⟩, by simp [intOf]; omega⟩
        replace hB := hB.trans ((Below.refl _ wr).drew.mono hB.size)
        replace hI := hI.below (Below.refl _ wr).drew
        go_region_held3 (fun W => W.cell? (ad.add (k * 5)) = some (.int .i64 xd) ∧ W.cell? ⟨(ad.add (k * 5)).block, (ad.add (k * 5)).off + 1, none⟩ = some (.int .i64 xa) ∧ W.cell? ⟨(ad.add (k * 5)).block, (ad.add (k * 5)).off + 2, none⟩ = some (.int .i64 xb) ∧ W.cell? ⟨(ad.add (k * 5)).block, (ad.add (k * 5)).off + 3, none⟩ = some (.int .u32 (xm.toNat : Int)) ∧ W.cell? ⟨(ad.add (k * 5)).block, (ad.add (k * 5)).off + 4, none⟩ = some (.string xs)) (first | exact HX.out _ hB | go_keep) (first
          | (go_at_call 22; refine (lawText5 _ _ _ _ _ _).mono ?_; rintro e w3 ⟨rfl, hb3⟩; replace hB := hB.trans (hb3.mono hB.size); replace hI := hI.below hb3; clear hb3)
          | (go_at_call 17; refine (HS.out _ hI).mono ?_; rintro e w4 ⟨rfl, hT4⟩; obtain ⟨v4, hI4, hb4⟩ := hT4.low hI (Nat.le_refl _); replace hB := hB.trans (hb4.mono hn1)))
        all_goals
          go_wp2
          go_roundw
          case rel => exact ⟨k + 1, _, v4, by omega, by omega, by go_num, Nat.le_trans (send_le F xa (hun xs)) (by omega), hI4, hB⟩
          case measure => simp [intOf]; omega
      · have hki : (k : Int) < (len : Int) := by omega
        have hki60 : ¬ (k : Int) < 60 := by omega
        have hn60 : F.notes.length ≤ 60 := by omega
        have hsm := hI.ok.small
        have HA := flAll F _ v wr hI
        have hvl := fun g hg => (hI.own.lt g hg).2
        by_cases hp : F.place at' = true
        · have hpl : F.copyE at' = 0 := by simp [Fl.copyE, hp, Fl.layE, Fl.full]; omega
          have e1 : F.copy at' = ⟨F.notes ++ [⟨F.last + 1, (F.note at').to, (F.note at').s⟩], F.last + 1⟩ := by
            have : F.full = false := by simp [Fl.full]; omega
            simp [Fl.copy, hp, Fl.lay, this]
          have HC := Lib.hid (fun (W : World) (hb : Below wr.heap.size wr W) => flCopy F _ v at' W (hI.below hb))
          rw [hpl, e1] at HC
          generalize (⟨F.last + 1, (F.note at').to, (F.note at').s⟩ : Nt) = x at HC
          have hpl2 : ∀ z, (⟨F.notes ++ [x], z⟩ : Fl).place (F.notes.length : Int) = true := fun z => by simp [Fl.place]; omega
          have HD := Lib.hid (fun (W : World) (v4 : Value) (h : Fl.Is true ⟨F.notes ++ [x], F.last + 1⟩ w1.heap.size v4 W) => flDrop ⟨F.notes ++ [x], F.last + 1⟩ _ v4 (F.notes.length : Int) W h)
          rw [show (⟨F.notes ++ [x], F.last + 1⟩ : Fl).checkE (F.notes.length : Int) = 0 by simp [Fl.checkE, hpl2],
            show (⟨F.notes ++ [x], F.last + 1⟩ : Fl).drop (F.notes.length : Int) = ⟨F.notes, F.last + 1⟩ by simp [Fl.drop, hpl2, List.eraseIdx_append_of_length_le]] at HD
          generalize ((F.copyN at').toNat : Int) = cn at HC
          obtain ⟨n, hn⟩ : ∃ n, F.notes.length = n := ⟨_, rfl⟩
          rw [hn] at HD
          have HN := Lib.hid hn
          have HIX := Lib.hid hI
          have HVL := Lib.hid hvl
          have HAL := HA
          have HA2 := Lib.hid (fun (W : World) (v6 : Value) (h : Fl.Is true ⟨F.notes, F.last + 1⟩ w1.heap.size v6 W) => flAll ⟨F.notes, F.last + 1⟩ _ v6 W h)
          have HA1 := Lib.hid HA
          clear hn hp hpl e1 hpl2 hI hvl HA HAL hsm hl
          go_wp2_with (first
            | (go_at_call 14; have H := HA1; refine H.out.mono ?_; clear H HA1; rintro e w3 ⟨⟨u, rfl, hN3⟩, hb3⟩; obtain ⟨a3, c3, hu3, _⟩ := hN3.form; rw [HN.out] at hu3; subst hu3; have hI3 := HIX.out.below hb3; have hap3 : ∀ g, (Value.slice a3 n c3).ownBlock = some g → v.ownBlock ≠ some g := (fun g e e' => absurd (HVL.out g e') (by have := (hN3.lt g e).1; omega)); have hap3 := Lib.hid hap3)
            | (go_at_call 19; refine (HC.out _ hb3).mono ?_; rintro e w4 ⟨rfl, hT4⟩; obtain ⟨_, _, hb4⟩ := hT4.low hI3 (Nat.le_refl _); obtain ⟨v4, hI4, hN4, hap4, hst4⟩ := hN3.apart hI3 hT4 hap3.out; have hap4 := Lib.hid hap4)
            | (go_at_call 20; refine (HD.out _ _ hI4).mono ?_; rintro e w5 ⟨rfl, hT5⟩; obtain ⟨_, _, hb5⟩ := hT5.low hI4 (Nat.le_refl _); obtain ⟨v5, hI5, hN5, hap5, hst5⟩ := hN4.apart hI4 hT5 hap4.out)
            | (go_at_call 14; have H := HA2; refine (H.out _ _ hI5).mono ?_; clear H; rintro e w6 ⟨⟨u6, rfl, hN6⟩, hb6⟩; obtain ⟨a6, c6, hu6, _⟩ := hN6.form; subst hu6)
            | (go_at_call 13; refine (refSame F.notes _ _ _ _ _ hN6 (hN5.below hb6) (by have := HN.out; omega)).mono ?_; rintro e w7 ⟨rfl, hb7⟩))
          go_ret
          have c5 := ((hB.trans (hb3.mono hB.size)).trans (hb4.mono hn1)).trans (hb5.mono hn1)
          have c6 := c5.trans (hb6.mono c5.size)
          exact ⟨rfl, c6.trans (hb7.mono c6.size)⟩
        · have hpl : F.copyE at' = 2 := by simp [Fl.copyE, hp]
          have HC := Lib.hid (fun (W : World) (hb : Below wr.heap.size wr W) => flCopy F _ v at' W (hI.below hb))
          rw [hpl] at HC
          generalize ((F.copyN at').toNat : Int) = cn at HC
          have hor : at' < 0 ∨ ¬ at' < 0 ∧ (F.notes.length : Int) ≤ at' := by simp [Fl.place] at hp; omega
          obtain ⟨n, hn⟩ : ∃ n, F.notes.length = n := ⟨_, rfl⟩
          rw [hn] at hor
          have HN := Lib.hid hn
          have HIX := Lib.hid hI
          clear hn hp hpl hI hvl hsm hl
          rcases hor with h0 | ⟨h0, h1⟩
          · go_wp2_with (first
              | (go_at_call 14; refine HA.mono ?_; rintro e w3 ⟨⟨u, rfl, hN3⟩, hb3⟩; obtain ⟨a3, c3, hu3, _⟩ := hN3.form; rw [HN.out] at hu3; subst hu3)
              | (go_at_call 19; refine (HC.out _ hb3).mono ?_; rintro e w4 ⟨rfl, hT4⟩; obtain ⟨_, _, hb4⟩ := hT4.low (HIX.out.below hb3) (Nat.le_refl _)))
            go_ret
            exact ⟨rfl, (hB.trans (hb3.mono hB.size)).trans (hb4.mono hn1)⟩
          · go_wp2_with (first
              | (go_at_call 14; refine HA.mono ?_; rintro e w3 ⟨⟨u, rfl, hN3⟩, hb3⟩; obtain ⟨a3, c3, hu3, _⟩ := hN3.form; rw [HN.out] at hu3; subst hu3)
              | (go_at_call 19; refine (HC.out _ hb3).mono ?_; rintro e w4 ⟨rfl, hT4⟩; obtain ⟨_, _, hb4⟩ := hT4.low (HIX.out.below hb3) (Nat.le_refl _)))
            go_ret
            exact ⟨rfl, (hB.trans (hb3.mono hB.size)).trans (hb4.mono hn1)⟩
    · have hki : ¬ (k : Int) < (len : Int) := by omega
      have hn60 : F.notes.length ≤ 60 := by omega
      have hsm := hI.ok.small
      have HA := flAll F _ v wr hI
      have hvl := fun g hg => (hI.own.lt g hg).2
      by_cases hp : F.place at' = true
      · have hpl : F.copyE at' = 0 := by simp [Fl.copyE, hp, Fl.layE, Fl.full]; omega
        have e1 : F.copy at' = ⟨F.notes ++ [⟨F.last + 1, (F.note at').to, (F.note at').s⟩], F.last + 1⟩ := by
          have : F.full = false := by simp [Fl.full]; omega
          simp [Fl.copy, hp, Fl.lay, this]
        have HC := Lib.hid (fun (W : World) (hb : Below wr.heap.size wr W) => flCopy F _ v at' W (hI.below hb))
        rw [hpl, e1] at HC
        generalize (⟨F.last + 1, (F.note at').to, (F.note at').s⟩ : Nt) = x at HC
        have hpl2 : ∀ z, (⟨F.notes ++ [x], z⟩ : Fl).place (F.notes.length : Int) = true := fun z => by simp [Fl.place]; omega
        have HD := Lib.hid (fun (W : World) (v4 : Value) (h : Fl.Is true ⟨F.notes ++ [x], F.last + 1⟩ w1.heap.size v4 W) => flDrop ⟨F.notes ++ [x], F.last + 1⟩ _ v4 (F.notes.length : Int) W h)
        rw [show (⟨F.notes ++ [x], F.last + 1⟩ : Fl).checkE (F.notes.length : Int) = 0 by simp [Fl.checkE, hpl2],
          show (⟨F.notes ++ [x], F.last + 1⟩ : Fl).drop (F.notes.length : Int) = ⟨F.notes, F.last + 1⟩ by simp [Fl.drop, hpl2, List.eraseIdx_append_of_length_le]] at HD
        generalize ((F.copyN at').toNat : Int) = cn at HC
        obtain ⟨n, hn⟩ : ∃ n, F.notes.length = n := ⟨_, rfl⟩
        rw [hn] at HD
        have HN := Lib.hid hn
        have HIX := Lib.hid hI
        have HVL := Lib.hid hvl
        have HAL := HA
        have HA2 := Lib.hid (fun (W : World) (v6 : Value) (h : Fl.Is true ⟨F.notes, F.last + 1⟩ w1.heap.size v6 W) => flAll ⟨F.notes, F.last + 1⟩ _ v6 W h)
        have HA1 := Lib.hid HA
        clear hn hp hpl e1 hpl2 hI hvl HA HAL hsm hl
        go_wp2_with (first
          | (go_at_call 14; have H := HA1; refine H.out.mono ?_; clear H HA1; rintro e w3 ⟨⟨u, rfl, hN3⟩, hb3⟩; obtain ⟨a3, c3, hu3, _⟩ := hN3.form; rw [HN.out] at hu3; subst hu3; have hI3 := HIX.out.below hb3; have hap3 : ∀ g, (Value.slice a3 n c3).ownBlock = some g → v.ownBlock ≠ some g := (fun g e e' => absurd (HVL.out g e') (by have := (hN3.lt g e).1; omega)); have hap3 := Lib.hid hap3)
          | (go_at_call 19; refine (HC.out _ hb3).mono ?_; rintro e w4 ⟨rfl, hT4⟩; obtain ⟨_, _, hb4⟩ := hT4.low hI3 (Nat.le_refl _); obtain ⟨v4, hI4, hN4, hap4, hst4⟩ := hN3.apart hI3 hT4 hap3.out; have hap4 := Lib.hid hap4)
          | (go_at_call 20; refine (HD.out _ _ hI4).mono ?_; rintro e w5 ⟨rfl, hT5⟩; obtain ⟨_, _, hb5⟩ := hT5.low hI4 (Nat.le_refl _); obtain ⟨v5, hI5, hN5, hap5, hst5⟩ := hN4.apart hI4 hT5 hap4.out)
          | (go_at_call 14; have H := HA2; refine (H.out _ _ hI5).mono ?_; clear H; rintro e w6 ⟨⟨u6, rfl, hN6⟩, hb6⟩; obtain ⟨a6, c6, hu6, _⟩ := hN6.form; subst hu6)
          | (go_at_call 13; refine (refSame F.notes _ _ _ _ _ hN6 (hN5.below hb6) (by have := HN.out; omega)).mono ?_; rintro e w7 ⟨rfl, hb7⟩))
        go_ret
        have c5 := ((hB.trans (hb3.mono hB.size)).trans (hb4.mono hn1)).trans (hb5.mono hn1)
        have c6 := c5.trans (hb6.mono c5.size)
        exact ⟨rfl, c6.trans (hb7.mono c6.size)⟩
      · have hpl : F.copyE at' = 2 := by simp [Fl.copyE, hp]
        have HC := Lib.hid (fun (W : World) (hb : Below wr.heap.size wr W) => flCopy F _ v at' W (hI.below hb))
        rw [hpl] at HC
        generalize ((F.copyN at').toNat : Int) = cn at HC
        have hor : at' < 0 ∨ ¬ at' < 0 ∧ (F.notes.length : Int) ≤ at' := by simp [Fl.place] at hp; omega
        obtain ⟨n, hn⟩ : ∃ n, F.notes.length = n := ⟨_, rfl⟩
        rw [hn] at hor
        have HN := Lib.hid hn
        have HIX := Lib.hid hI
        clear hn hp hpl hI hvl hsm hl
        rcases hor with h0 | ⟨h0, h1⟩
        · go_wp2_with (first
            | (go_at_call 14; refine HA.mono ?_; rintro e w3 ⟨⟨u, rfl, hN3⟩, hb3⟩; obtain ⟨a3, c3, hu3, _⟩ := hN3.form; rw [HN.out] at hu3; subst hu3)
            | (go_at_call 19; refine (HC.out _ hb3).mono ?_; rintro e w4 ⟨rfl, hT4⟩; obtain ⟨_, _, hb4⟩ := hT4.low (HIX.out.below hb3) (Nat.le_refl _)))
          go_ret
          exact ⟨rfl, (hB.trans (hb3.mono hB.size)).trans (hb4.mono hn1)⟩
        · go_wp2_with (first
            | (go_at_call 14; refine HA.mono ?_; rintro e w3 ⟨⟨u, rfl, hN3⟩, hb3⟩; obtain ⟨a3, c3, hu3, _⟩ := hN3.form; rw [HN.out] at hu3; subst hu3)
            | (go_at_call 19; refine (HC.out _ hb3).mono ?_; rintro e w4 ⟨rfl, hT4⟩; obtain ⟨_, _, hb4⟩ := hT4.low (HIX.out.below hb3) (Nat.le_refl _)))
          go_ret
          exact ⟨rfl, (hB.trans (hb3.mono hB.size)).trans (hb4.mono hn1)⟩
end Go.Proofs.Ytialmaapahjchaa
