/-
  Layer 5's law FlightFull: walked.
-/
import Derived.Test.YtialmaapahjchaaFlLaw1
import Derived.LoopTactic
namespace Go.Proofs.Ytialmaapahjchaa
open Go.RowKit Go.Shelf
attribute [local go_sem] Oper.semAt_some
set_option linter.unusedVariables false
set_option linter.unusedSimpArgs false

theorem send_len {F : Fl} {k : Nat} (to : Int) (s : ByteArray) (ht : Fl.node to = true) (h : F.notes.length = k) (hk : k < 1000) : (F.send to s).notes.length = k + 1 ∧ F.sendE to = 0 := by
  have : F.full = false := by simp [Fl.full]; omega
  simp [Fl.send, Fl.sendE, Fl.layE, Fl.lay, ht, this, h]
theorem send_full {F : Fl} (to : Int) (s : ByteArray) (ht : Fl.node to = true) (h : F.notes.length = 1000) : (F.send to s).notes.length = 1000 ∧ F.sendE to = 30 := by
  have : F.full = true := by simp [Fl.full, h]
  simp [Fl.send, Fl.sendE, Fl.layE, Fl.lay, ht, this, h]
theorem copy_few {F : Fl} (h0 : 0 < F.notes.length) (h : F.notes.length < 1000) : F.copyE 0 = 0 := by
  have h1 : F.full = false := by simp [Fl.full]; omega
  have h2 : F.place 0 = true := by simp [Fl.place]; omega
  simp [Fl.copyE, h2, Fl.layE, h1]
theorem copy_many {F : Fl} (h : F.notes.length = 1000) : F.copyE 0 = 30 := by
  have h1 : F.full = true := by simp [Fl.full]; omega
  have h2 : F.place 0 = true := by simp [Fl.place]; omega
  simp [Fl.copyE, h2, Fl.layE, h1]
/-- The last error behind k sends. -/
def lastE (k : Nat) : Int := if 1000 < k then 30 else 0
set_option maxRecDepth 100000 in
set_option maxHeartbeats 4000000 in
theorem lawFlFull (n : Int) (w : World) : Calls Try.prog 7 #[.int .i64 n] w fun e w' => e = .returned (.bool true) ∧ Below w.heap.size w w' := by
  by_cases h0 : n < 990
  · go_enter Try.func7, Try.ntmps7
    go_wp2_with (go_at_call 10; refine (lawShown5 _).mono ?_; rintro e w1 ⟨rfl, hb1⟩)
    go_ret
    exact ⟨rfl, hb1⟩
  by_cases h1 : 1010 < n
  · go_enter Try.func7, Try.ntmps7
    go_wp2_with (go_at_call 10; refine (lawShown5 _).mono ?_; rintro e w1 ⟨rfl, hb1⟩)
    go_ret
    exact ⟨rfl, hb1⟩
  obtain ⟨N, rfl⟩ : ∃ N : Nat, n = (N : Int) := ⟨n.toNat, by omega⟩
  have h2 : 990 ≤ N := by omega
  have h3 : N ≤ 1010 := by omega
  go_enter Try.func7, Try.ntmps7
  go_wp2_with (first
    | (go_at_call 10; refine (lawShown5 _).mono ?_; rintro e w1 ⟨rfl, hb1⟩)
    | (go_at_call 11; refine (flNew _).mono ?_; rintro e w2 ⟨rfl, hI2, hb2⟩))
  have hn1 := hb1.size
  have hB2 : Below w.heap.size w w2 := hb1.trans (hb2.mono hn1)
  go_loopw [5, 6] (fun le i W => ∃ (k : Nat) (F : Fl) (v : Value), k ≤ N ∧ i = .int .i64 k ∧ le = .int .i64 (lastE k) ∧ F.notes.length = min k 1000 ∧ Fl.Is true F w1.heap.size v W ∧ Below w.heap.size w W) (fun _ i _ => N - (intOf i).toNat)
  case atStart => exact ⟨0, Fl.new, _, Nat.zero_le _, rfl, rfl, rfl, hI2, hB2⟩
  case round =>
    obtain ⟨k, F, v, hk, rfl, rfl, hl, hI, hB⟩ := hrel
    by_cases hlt : k < N
    · have hki : (k : Int) < (N : Int) := by omega
      have hto : Fl.node ((k : Int) % 16) = true := by simp [Fl.node]; omega
      by_cases hk1 : k < 1000
      · obtain ⟨e1, e2⟩ := send_len (F := F) (k := k) ((k : Int) % 16) ⟨#[]⟩ hto (by rw [hl]; omega) hk1
        have HS := flSend F _ v ((k : Int) % 16) ⟨#[]⟩ wr hI (by decide)
        rw [e2] at HS
        generalize ((F.sendN ((k : Int) % 16)).toNat : Int) = sn at *
        have HE1 := Lib.hid e1
        have HIX := Lib.hid hI
        clear hto e1 e2 hl hI
        go_wp2_with (go_at_call 17; refine HS.mono ?_; rintro e w3 ⟨rfl, hT⟩; obtain ⟨v3, hI3, hb3⟩ := hT.low HIX.out (Nat.le_refl _))
        go_roundw
        case rel => exact ⟨k + 1, F.send ((k : Int) % 16) ⟨#[]⟩, v3, by omega, by go_num, by rw [lastE, if_neg (by omega)], by rw [HE1.out]; omega, hI3, hB.trans (hb3.mono hn1)⟩
        case measure => simp [intOf]; omega
      · obtain ⟨e1, e2⟩ := send_full (F := F) ((k : Int) % 16) ⟨#[]⟩ hto (by rw [hl]; omega)
        have HS := flSend F _ v ((k : Int) % 16) ⟨#[]⟩ wr hI (by decide)
        rw [e2] at HS
        generalize ((F.sendN ((k : Int) % 16)).toNat : Int) = sn at *
        have HE1 := Lib.hid e1
        have HIX := Lib.hid hI
        clear hto e1 e2 hl hI
        go_wp2_with (go_at_call 17; refine HS.mono ?_; rintro e w3 ⟨rfl, hT⟩; obtain ⟨v3, hI3, hb3⟩ := hT.low HIX.out (Nat.le_refl _))
        go_roundw
        case rel => exact ⟨k + 1, F.send ((k : Int) % 16) ⟨#[]⟩, v3, by omega, by go_num, by rw [lastE, if_pos (by omega)], by rw [HE1.out]; omega, hI3, hB.trans (hb3.mono hn1)⟩
        case measure => simp [intOf]; omega
    · obtain rfl : k = N := by omega
      have HA := flAll F _ v wr hI
      have HIX := Lib.hid hI
      have HL := Lib.hid hl
      have HC := Lib.hid (fun (W : World) (hb : Below wr.heap.size wr W) => flCopy F _ v 0 W (hI.below hb))
      clear hI
      rcases Nat.lt_trichotomy k 1000 with h4 | h4 | h4
      · have e1 : lastE k = 0 := by rw [lastE, if_neg (by omega)]
        have e2 : F.copyE 0 = 0 := copy_few (by rw [hl]; omega) (by rw [hl]; omega)
        rw [e1]
        rw [e2] at HC
        have hll : F.notes.length = k := by rw [hl]; omega
        have h4i : (k : Int) < 1000 := by omega
        have HLL := Lib.hid hll
        clear hl e1 e2 hll h2 h3
        have hx0 : min (k : Int) 1000 = (k : Int) := by omega
        have hx1 : decide ((1000 : Int) < (k : Int)) = false := by simp; omega
        have hx2 : decide ((1000 : Int) ≤ (k : Int)) = false := by simp; omega
        clear h4 h4i h0 h1 hlt hk
        clear ‹990 ≤ (k : Int) ∧ (k : Int) ≤ 1010›
        have hkk : ¬ (k : Int) < (k : Int) := by omega
        generalize ((F.copyN 0).toNat : Int) = cn at *
        go_wp2_with (first
          | (go_at_call 14; refine HA.mono ?_; rintro e w3 ⟨⟨u, rfl, hN⟩, hb3⟩; obtain ⟨a3, c3, rfl, _⟩ := hN.form; generalize HLQ : F.notes.length = q at *; obtain rfl : q = k := HLL.out)
          | (go_at_call 19; refine (HC.out _ hb3).mono ?_; rintro e w4 ⟨rfl, hT⟩; obtain ⟨v4, hI4, hb4⟩ := hT.low (HIX.out.below hb3) (Nat.le_refl _)))
        go_ret
        exact ⟨rfl, (hB.trans (hb3.mono hB.size)).trans (hb4.mono hn1)⟩
      · have e1 : lastE k = 0 := by rw [lastE, if_neg (by omega)]
        have e2 : F.copyE 0 = 30 := copy_many (by rw [hl]; omega)
        rw [e1]
        rw [e2] at HC
        have hll : F.notes.length = 1000 := by rw [hl]; omega
        subst h4
        have HLL := Lib.hid hll
        clear hl e1 e2 hll h2 h3
        clear h0 h1
        generalize ((F.copyN 0).toNat : Int) = cn at *
        go_wp2_with (first
          | (go_at_call 14; refine HA.mono ?_; rintro e w3 ⟨⟨u, rfl, hN⟩, hb3⟩; obtain ⟨a3, c3, rfl, _⟩ := hN.form; generalize HLQ : F.notes.length = q at *; obtain rfl : q = 1000 := HLL.out)
          | (go_at_call 19; refine (HC.out _ hb3).mono ?_; rintro e w4 ⟨rfl, hT⟩; obtain ⟨v4, hI4, hb4⟩ := hT.low (HIX.out.below hb3) (Nat.le_refl _)))
        go_ret
        exact ⟨rfl, (hB.trans (hb3.mono hB.size)).trans (hb4.mono hn1)⟩
      · have e1 : lastE k = 30 := by rw [lastE, if_pos (by omega)]
        have e2 : F.copyE 0 = 30 := copy_many (by rw [hl]; omega)
        rw [e1]
        rw [e2] at HC
        have hll : F.notes.length = 1000 := by rw [hl]; omega
        have h4i : 1000 < (k : Int) := by omega
        have HLL := Lib.hid hll
        clear hl e1 e2 hll h2 h3
        have hx0 : min (k : Int) 1000 = (1000 : Int) := by omega
        have hx1 : decide ((1000 : Int) < (k : Int)) = true := by simp; omega
        have hx2 : decide ((1000 : Int) ≤ (k : Int)) = true := by simp; omega
        clear h4 h4i h0 h1 hlt hk
        clear ‹990 ≤ (k : Int) ∧ (k : Int) ≤ 1010›
        have hkk : ¬ (k : Int) < (k : Int) := by omega
        generalize ((F.copyN 0).toNat : Int) = cn at *
        go_wp2_with (first
          | (go_at_call 14; refine HA.mono ?_; rintro e w3 ⟨⟨u, rfl, hN⟩, hb3⟩; obtain ⟨a3, c3, rfl, _⟩ := hN.form; generalize HLQ : F.notes.length = q at *; obtain rfl : q = 1000 := HLL.out)
          | (go_at_call 19; refine (HC.out _ hb3).mono ?_; rintro e w4 ⟨rfl, hT⟩; obtain ⟨v4, hI4, hb4⟩ := hT.low (HIX.out.below hb3) (Nat.le_refl _)))
        go_ret
        exact ⟨rfl, (hB.trans (hb3.mono hB.size)).trans (hb4.mono hn1)⟩
end Go.Proofs.Ytialmaapahjchaa
