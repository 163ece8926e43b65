/-
  Layer 5's law FlightOldest: walked.
-/
import Derived.Test.YtialmaapahjchaaFlOldMath
import Derived.LoopTactic
import Derived.BigQuiet
import Derived.Deep.QuietTactic
namespace Go.Proofs.Ytialmaapahjchaa
open Go.RowKit Go.Shelf
attribute [local go_sem] Oper.semAt_some
set_option linter.unusedVariables false
set_option linter.unusedSimpArgs false

theorem info_u32 : (Try.prog.info? 28).map (fun i => (i.zero, i.size, i.bytes)) = some (some (.int .u32 0), 1, 4) := by kernel_rfl
def u32V (x : BitVec 32) : Value := .int .u32 (x.toNat : Int)
theorem send_one {F : Fl} {k : Nat} (to : Int) (ht : Fl.node to = true) (h : F.notes.length = k) (hk : k < 1000) : F.send to ⟨#[]⟩ = ⟨F.notes ++ [⟨F.last + 1, to, ⟨#[]⟩⟩], F.last + 1⟩ ∧ F.sendE to = 0 ∧ F.sendN to = F.last + 1 := by
  have : F.full = false := by simp [Fl.full]; omega
  simp [Fl.send, Fl.sendE, Fl.sendN, Fl.layE, Fl.layN, Fl.lay, ht, this]
theorem owns_form1 {w : World} {base n : Nat} {v : Value} {xs : List Value} {t : TypeId} (h : w.ownsRow base t 1 v n xs) : ∃ a c, v = .slice a n c ∧ (n : Int) ≤ (c : Int) := by
  rcases h.2 with ⟨rfl, rfl⟩ | ⟨g, cap, cur, rfl, _, _, hc, _⟩
  · exact ⟨_, _, rfl, by omega⟩
  · exact ⟨_, _, rfl, by omega⟩
theorem owns_some {w : World} {base n c : Nat} {a : Option Addr} {xs : List Value} {t : TypeId} (h : w.ownsRow base t 1 (.slice a n c) n xs) (hn : 0 < n) : ∃ g, a = some ⟨g, 0, none⟩ := by
  rcases h.2 with ⟨_, h0⟩ | ⟨g, cap, cur, h1, _⟩
  · omega
  · simp only [Value.slice.injEq] at h1
    exact ⟨g, h1.1⟩
set_option maxRecDepth 100000 in
set_option maxHeartbeats 4000000 in
theorem lawFlOldest (v0 : Value) (l : List Int) (w : World) (hT : IntsA w v0 l) (hll : l.length ≤ maxLen) : Calls Try.prog 8 #[v0] w fun e w' => e = .returned (.bool true) ∧ Below w.heap.size w w' := by
  have hform : ∃ a c, v0 = .slice a l.length c := by
    rcases hT with ⟨rfl, rfl⟩ | ⟨a, c, rfl, _⟩
    · exact ⟨_, _, rfl⟩
    · exact ⟨_, _, rfl⟩
  obtain ⟨a, c, rfl⟩ := hform
  obtain ⟨len, hlen⟩ : ∃ len, l.length = len := ⟨_, rfl⟩
  have HT := Lib.hid hT
  have HL := Lib.hid hlen
  rw [hlen] at hll ⊢
  obtain ⟨i0, hi, hz0, hz1, hz2⟩ := info_parts info_u32
  clear hT hlen
  go_enter Try.func8, Try.ntmps8
  go_wp2_with (first
    | (go_at_call 10; refine (lawShown5 _).mono ?_; rintro e w1 ⟨rfl, hb1⟩)
    | (go_at_call 11; refine (flNew _).mono ?_; rintro e w2 ⟨rfl, hI2, hb2⟩))
  have hn1 := hb1.size
  have hB2 : Below w.heap.size w w2 := hb1.trans (hb2.mono hn1)
  have hN2 : w2.ownsRow w1.heap.size 28 1 (.slice none 0 0) (ids3 Fl.new.notes).length ((ids3 Fl.new.notes).map u32V) := World.ownsRow_nil _ _ _ _
  go_loopw [5, 6, 7, 8] (fun uv i _ _ W => ∃ (k : Nat) (F : Fl) (v : Value), k ≤ len ∧ k ≤ 60 ∧ i = .int .i64 k ∧ F.notes.length = k ∧ W.ownsRow w1.heap.size 28 1 uv (ids3 F.notes).length ((ids3 F.notes).map u32V) ∧ Fl.Is true F w1.heap.size v W ∧ Below w.heap.size w W) (fun _ i _ _ _ => 60 - (intOf i).toNat)
  case atStart => exact ⟨0, Fl.new, _, Nat.zero_le _, Nat.zero_le _, rfl, rfl, hN2, hI2, hB2⟩
  case round =>
    obtain ⟨k, F, v, hk, hk60, rfl, hl, hO, hI, hB⟩ := hrel
    by_cases hlt : k < len
    · by_cases h60 : k < 60
      · have hkl : k < l.length := by rw [HL.out]; exact hlt
        rcases HT.out with ⟨h0, h1⟩ | ⟨ad, c', h0, hx⟩
        · have := HL.out; rw [h1] at this; simp at this; omega
        simp only [Value.slice.injEq] at h0
        obtain ⟨rfl, -, rfl⟩ := h0
        have hx1 := hx k hkl
        generalize l[k] = x at hx1
        clear hx
        have hblk : ad.block < w.heap.size := cell_block hx1
        have hc1 : ∀ {W : World}, Below w.heap.size w W → W.cell? (ad.add k) = some (.int .i64 x) := fun hb => (hb.cell (p := ad.add k) (by rw [add_block]; exact hblk)).trans hx1
        have q1 := hc1 hB
        have HC1 := Lib.hid (fun (W : World) (hb : Below w.heap.size w W) => hc1 hb)
        have hki : (k : Int) < (len : Int) := by omega
        have hki60 : (k : Int) < 60 := by omega
        obtain ⟨t, ht⟩ : ∃ t, Go.bits .and .i64 x 15 = t := ⟨_, rfl⟩
        have hnode := node15 x
        rw [ht] at hnode
        obtain ⟨e1, e2, e3⟩ := send_one (F := F) (k := k) t hnode hl (by omega)
        have HS := flSend F _ v t ⟨#[]⟩ wr hI (by decide)
        rw [e1, e2, e3] at HS
        have HIX := Lib.hid hI
        have HOX := Lib.hid hO
        have HLX := Lib.hid hl
        obtain ⟨nx, hnx⟩ : ∃ nx, F.last + 1 = nx := ⟨_, rfl⟩
        rw [hnx] at HS
        have hs1 := ids3_snoc F.notes ⟨nx, t, ⟨#[]⟩⟩
        have hll3 := ids3_len F.notes
        clear e1 e2 e3 hnode hI hc1 hnx
        obtain ⟨ua, uc, rfl, _⟩ := owns_form1 hO
        by_cases ht3 : t = 3
        · subst ht3
          have hs2 : ids3 (F.notes ++ [⟨nx, 3, ⟨#[]⟩⟩]) = ids3 F.notes ++ [nx] := by rw [hs1]; rfl
          have HS2 := Lib.hid hs2
          have hlk : (ids3 F.notes).length + 1 ≤ maxLen := by unfold maxLen; omega
          have hlk2 : ((ids3 F.notes).length + 1) * 4 ≤ 140737488355328 := by omega
          clear hs1 hs2 hl hll3
          clear hO
          go_wp2_with (first
            | (go_at_call 17; refine HS.mono ?_; rintro e w3 ⟨rfl, hT3⟩; obtain ⟨v3, hI3, hb3⟩ := hT3.low HIX.out (Nat.le_refl _); have hO3 := hT3.row HIX.out HOX.out (by decide) (by decide); have hB3 := hB.trans (hb3.mono hn1); have q3 := HC1.out w3 hB3)
            | (at_builtin; refine wpList_append_own_at _ rfl _ _ 55 rfl w1.heap.size 28 i0 _ 1 4 Try.underlying55 hi hz0 hz1 hz2 rfl (by decide) (.slice ua (ids3 F.notes).length uc) (ids3 F.notes).length ((ids3 F.notes).map u32V) rfl (owns_low hO3 ((Below.refl _ w3).alloc (Nat.le_refl _) _)) ⟨w3.heap.size, 0, none⟩ 1 1 [u32V nx] rfl rfl (cell_one_new _ _ _) (by simp [u32V, Value.oneCell']) hlk hlk2 (by have := hb3.size; have := hI3.lt; simp; omega) ?_; intro uv' w4 hO4 hg4 hnil hat; have hI4 := (hI3.below ((Below.refl _ w3).alloc (Nat.le_refl _) (.cells #[u32V nx] 28))).beside hg4 (fun g hg => (owns_typed (owns_low hO3 ((Below.refl _ w3).alloc (Nat.le_refl _) _)) g hg).2) (by decide) (by decide); have hB4 := (hB3.alloc hB3.size (.cells #[u32V nx] 28)).grown hg4 (by have := hB3.size; simp; omega) (fun g hg => Nat.le_trans hn1 (owns_typed hO3 g hg).1)))
          go_roundw
          case rel => exact ⟨k + 1, _, v3, by omega, by omega, by go_num, by simp [HLX.out], by rw [HS2.out]; simpa using hO4, hI4, hB4⟩
          case measure => simp [intOf]; omega
        · have hs2 : ids3 (F.notes ++ [⟨nx, t, ⟨#[]⟩⟩]) = ids3 F.notes := by rw [hs1]; simp [ht3]
          have HS2 := Lib.hid hs2
          clear hs1 hs2 hl hll3 hO
          go_wp2_with (first
            | (go_at_call 17; refine HS.mono ?_; rintro e w3 ⟨rfl, hT3⟩; obtain ⟨v3, hI3, hb3⟩ := hT3.low HIX.out (Nat.le_refl _); have hO3 := hT3.row HIX.out HOX.out (by decide) (by decide); have hB3 := hB.trans (hb3.mono hn1); have q3 := HC1.out w3 hB3))
          go_roundw
          case rel => exact ⟨k + 1, _, v3, by omega, by omega, by go_num, by simp [HLX.out], by rw [HS2.out]; exact hO3, hI3, hB3⟩
          case measure => simp [intOf]; omega
      · have hki : (k : Int) < (len : Int) := by omega
        have hki60 : ¬ (k : Int) < 60 := by omega
        obtain ⟨ua, uc, rfl, huc⟩ := owns_form1 hO
        obtain ⟨ws, hws⟩ : ∃ ws, ids3 F.notes = ws := ⟨_, rfl⟩
        rw [hws] at hO huc
        have hwl : ws.length ≤ 60 := by have := ids3_len F.notes; rw [hws] at this; omega
        obtain ⟨n, hn⟩ : ∃ n, ws.length = n := ⟨_, rfl⟩
        rw [hn] at hO huc hwl
        have HN := Lib.hid hn
        have HWS := Lib.hid hws
        have HIX := Lib.hid hI
        have HOX := Lib.hid hO
        clear hI hO hn hws hl
        rw [show (ids3 F.notes).length = n by rw [HWS.out, HN.out]]
        go_wp2
        go_loopw [9, 10, 11] (fun i _ _ W => ∃ (j : Nat) (G : Fl) (v : Value), j ≤ n ∧ i = .int .i64 j ∧ ids3 G.notes = ws.drop j ∧ W.ownsRow w1.heap.size 28 1 (.slice ua n uc) n (ws.map u32V) ∧ Fl.Is true G w1.heap.size v W ∧ Below w.heap.size w W) (fun i _ _ _ => n - (intOf i).toNat)
        case atStart => exact ⟨0, F, v, Nat.zero_le _, rfl, by rw [HWS.out]; rfl, HOX.out, HIX.out, hB⟩
        case round =>
          clear HIX HOX hB
          obtain ⟨j, G, v, hj, rfl, hG, hO, hI, hB⟩ := hrel
          by_cases hjn : j < n
          · have hjw : j < ws.length := by rw [HN.out]; exact hjn
            obtain ⟨kk, hkk, f1, f2, f3, f4⟩ := ids3_first G.notes ws[j] (ws.drop (j + 1)) (by rw [hG]; exact List.drop_eq_getElem_cons hjw)
            have hO1 : G.oldest 3 = (kk : Int) := by rw [Fl.oldest, f1]
            have HOld := flOldest G _ v 3 wr hI
            rw [hO1] at HOld
            have HTk := Lib.hid (fun (W : World) (hb : Below wr.heap.size wr W) => flTakeYes G _ v kk W (hI.below hb) hkk)
            have hwj : (ws.map u32V)[j]? = some (u32V ws[j]) := by simp [hjw]
            obtain ⟨g, rfl⟩ := owns_some hO (by omega)
            have HE := Lib.hid (fun (W : World) (ho : W.ownsRow w1.heap.size 28 1 (.slice (some ⟨g, 0, none⟩) n uc) n (ws.map u32V)) => show W.cell? ⟨g, j, none⟩ = some (u32V ws[j]) by rw [← add0]; exact ho.cells (g := g) rfl j _ hwj)
            generalize hxx : G.notes[kk] = x at *
            obtain ⟨xi, xt, xs⟩ := x
            dsimp only at f2 f3
            subst f3
            have F4 := Lib.hid f4
            have HIX2 := Lib.hid hI
            have HOX2 := Lib.hid hO
            rw [← f2] at HE
            have hji : (j : Int) < (n : Int) := by omega
            clear hO1 hI hO hxx f1 hwj hG f4 f2
            dsimp only [Nt.val] at HTk
            go_wp2_with (first
              | (go_at_call 15; refine HOld.mono ?_; rintro e w3 ⟨rfl, hb3⟩)
              | (go_at_call 18; refine (HTk.out _ hb3).mono ?_; rintro e w4 ⟨rfl, hT4⟩; have hI3 := HIX2.out.below hb3; obtain ⟨v4, hI4, hb4⟩ := hT4.low hI3 (Nat.le_refl _); have hO4 := hT4.row hI3 (owns_low HOX2.out hb3) (by decide) (by decide); have hI5 := hI4.below ((Below.refl _ w4).alloc (Nat.le_refl _) (.cells #[.int .u32 (xi.toNat : Int), .int .i64 3, .string xs] 42)); have hO5 := owns_low hO4 ((Below.refl _ w4).alloc (Nat.le_refl _) (.cells #[.int .u32 (xi.toNat : Int), .int .i64 3, .string xs] 42))))
            have y0 := HE.out _ hO5
            have hr5 := World.alloc_heap_new w4 (.cells #[.int .u32 (xi.toNat : Int), .int .i64 3, .string xs] 42)
            have hB5 := ((hB.trans (hb3.mono hB.size)).trans (hb4.mono hn1)).alloc (by have := hI4.lt; omega) (.cells #[.int .u32 (xi.toNat : Int), .int .i64 3, .string xs] 42)
            obtain ⟨W5, hW5⟩ : ∃ W5, w4.alloc (.cells #[.int .u32 (xi.toNat : Int), .int .i64 3, .string xs] 42) = W5 := ⟨_, rfl⟩
            rw [hW5] at y0 hr5 hI5 hO5 hB5 ⊢
            have y1 : W5.cell? ⟨w4.heap.size, 0, none⟩ = some (.int .u32 (xi.toNat : Int)) := by simp [World.cell?, hr5]
            have y2 : W5.cell? ⟨w4.heap.size, 1, none⟩ = some (.int .i64 3) := by simp [World.cell?, hr5]
            unfold u32V at y0
            clear hW5 hr5
            go_quiet (fail)
            go_wp2
            have hd : ∀ nq, Below W5.heap.size W5 (W5.drewN nq) := fun nq => ⟨rfl, rfl, rfl, Nat.le_refl _, fun _ _ => rfl⟩
            go_roundw
            case rel => exact ⟨j + 1, _, v4, by omega, by go_num, F4.out, owns_low hO5 (hd _), hI5.below (hd _), hB5.trans ((hd _).mono hB5.size)⟩
            case measure => simp [intOf]; omega
          · obtain rfl : j = n := by omega
            have hG0 : ids3 G.notes = [] := by rw [hG]; exact List.drop_eq_nil_of_le (by rw [HN.out]; exact Nat.le_refl _)
            have hO1 : G.oldest 3 = -1 := by rw [Fl.oldest, ids3_none _ hG0]
            have HOld := flOldest G _ v 3 wr hI
            rw [hO1] at HOld
            clear hO1 hG hG0 hI hO
            go_wp2_with (first
              | (go_at_call 15; refine HOld.mono ?_; rintro e w3 ⟨rfl, hb3⟩))
            go_ret
            exact ⟨rfl, hB.trans (hb3.mono hB.size)⟩
    · have hki : ¬ (k : Int) < (len : Int) := by omega
      obtain ⟨ua, uc, rfl, huc⟩ := owns_form1 hO
      obtain ⟨ws, hws⟩ : ∃ ws, ids3 F.notes = ws := ⟨_, rfl⟩
      rw [hws] at hO huc
      have hwl : ws.length ≤ 60 := by have := ids3_len F.notes; rw [hws] at this; omega
      obtain ⟨n, hn⟩ : ∃ n, ws.length = n := ⟨_, rfl⟩
      rw [hn] at hO huc hwl
      have HN := Lib.hid hn
      have HWS := Lib.hid hws
      have HIX := Lib.hid hI
      have HOX := Lib.hid hO
      clear hI hO hn hws hl
      rw [show (ids3 F.notes).length = n by rw [HWS.out, HN.out]]
      go_wp2
      go_loopw [9, 10, 11] (fun i _ _ W => ∃ (j : Nat) (G : Fl) (v : Value), j ≤ n ∧ i = .int .i64 j ∧ ids3 G.notes = ws.drop j ∧ W.ownsRow w1.heap.size 28 1 (.slice ua n uc) n (ws.map u32V) ∧ Fl.Is true G w1.heap.size v W ∧ Below w.heap.size w W) (fun i _ _ _ => n - (intOf i).toNat)
      case atStart => exact ⟨0, F, v, Nat.zero_le _, rfl, by rw [HWS.out]; rfl, HOX.out, HIX.out, hB⟩
      case round =>
        clear HIX HOX hB
        obtain ⟨j, G, v, hj, rfl, hG, hO, hI, hB⟩ := hrel
        by_cases hjn : j < n
        · have hjw : j < ws.length := by rw [HN.out]; exact hjn
          obtain ⟨kk, hkk, f1, f2, f3, f4⟩ := ids3_first G.notes ws[j] (ws.drop (j + 1)) (by rw [hG]; exact List.drop_eq_getElem_cons hjw)
          have hO1 : G.oldest 3 = (kk : Int) := by rw [Fl.oldest, f1]
          have HOld := flOldest G _ v 3 wr hI
          rw [hO1] at HOld
          have HTk := Lib.hid (fun (W : World) (hb : Below wr.heap.size wr W) => flTakeYes G _ v kk W (hI.below hb) hkk)
          have hwj : (ws.map u32V)[j]? = some (u32V ws[j]) := by simp [hjw]
          obtain ⟨g, rfl⟩ := owns_some hO (by omega)
          have HE := Lib.hid (fun (W : World) (ho : W.ownsRow w1.heap.size 28 1 (.slice (some ⟨g, 0, none⟩) n uc) n (ws.map u32V)) => show W.cell? ⟨g, j, none⟩ = some (u32V ws[j]) by rw [← add0]; exact ho.cells (g := g) rfl j _ hwj)
          generalize hxx : G.notes[kk] = x at *
          obtain ⟨xi, xt, xs⟩ := x
          dsimp only at f2 f3
          subst f3
          have F4 := Lib.hid f4
          have HIX2 := Lib.hid hI
          have HOX2 := Lib.hid hO
          rw [← f2] at HE
          have hji : (j : Int) < (n : Int) := by omega
          clear hO1 hI hO hxx f1 hwj hG f4 f2
          dsimp only [Nt.val] at HTk
          go_wp2_with (first
            | (go_at_call 15; refine HOld.mono ?_; rintro e w3 ⟨rfl, hb3⟩)
            | (go_at_call 18; refine (HTk.out _ hb3).mono ?_; rintro e w4 ⟨rfl, hT4⟩; have hI3 := HIX2.out.below hb3; obtain ⟨v4, hI4, hb4⟩ := hT4.low hI3 (Nat.le_refl _); have hO4 := hT4.row hI3 (owns_low HOX2.out hb3) (by decide) (by decide); have hI5 := hI4.below ((Below.refl _ w4).alloc (Nat.le_refl _) (.cells #[.int .u32 (xi.toNat : Int), .int .i64 3, .string xs] 42)); have hO5 := owns_low hO4 ((Below.refl _ w4).alloc (Nat.le_refl _) (.cells #[.int .u32 (xi.toNat : Int), .int .i64 3, .string xs] 42))))
          have y0 := HE.out _ hO5
          have hr5 := World.alloc_heap_new w4 (.cells #[.int .u32 (xi.toNat : Int), .int .i64 3, .string xs] 42)
          have hB5 := ((hB.trans (hb3.mono hB.size)).trans (hb4.mono hn1)).alloc (by have := hI4.lt; omega) (.cells #[.int .u32 (xi.toNat : Int), .int .i64 3, .string xs] 42)
          obtain ⟨W5, hW5⟩ : ∃ W5, w4.alloc (.cells #[.int .u32 (xi.toNat : Int), .int .i64 3, .string xs] 42) = W5 := ⟨_, rfl⟩
          rw [hW5] at y0 hr5 hI5 hO5 hB5 ⊢
          have y1 : W5.cell? ⟨w4.heap.size, 0, none⟩ = some (.int .u32 (xi.toNat : Int)) := by simp [World.cell?, hr5]
          have y2 : W5.cell? ⟨w4.heap.size, 1, none⟩ = some (.int .i64 3) := by simp [World.cell?, hr5]
          unfold u32V at y0
          clear hW5 hr5
          go_quiet (fail)
          go_wp2
          have hd : ∀ nq, Below W5.heap.size W5 (W5.drewN nq) := fun nq => ⟨rfl, rfl, rfl, Nat.le_refl _, fun _ _ => rfl⟩
          go_roundw
          case rel => exact ⟨j + 1, _, v4, by omega, by go_num, F4.out, owns_low hO5 (hd _), hI5.below (hd _), hB5.trans ((hd _).mono hB5.size)⟩
          case measure => simp [intOf]; omega
        · obtain rfl : j = n := by omega
          have hG0 : ids3 G.notes = [] := by rw [hG]; exact List.drop_eq_nil_of_le (by rw [HN.out]; exact Nat.le_refl _)
          have hO1 : G.oldest 3 = -1 := by rw [Fl.oldest, ids3_none _ hG0]
          have HOld := flOldest G _ v 3 wr hI
          rw [hO1] at HOld
          clear hO1 hG hG0 hI hO
          go_wp2_with (first
            | (go_at_call 15; refine HOld.mono ?_; rintro e w3 ⟨rfl, hb3⟩))
          go_ret
          exact ⟨rfl, hB.trans (hb3.mono hB.size)⟩
end Go.Proofs.Ytialmaapahjchaa
