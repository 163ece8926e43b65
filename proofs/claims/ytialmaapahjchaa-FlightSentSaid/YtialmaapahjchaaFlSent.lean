/-
  Layer 5's law FlightSent: walked.
-/
import Derived.Test.YtialmaapahjchaaFlSentMath
import Derived.StillTailTactics
import Derived.Deep.DeepCutAuto
namespace Go.Proofs.Ytialmaapahjchaa
open Go.RowKit Go.Shelf
attribute [local go_sem] Oper.semAt_some
set_option linter.unusedVariables false
set_option linter.unusedSimpArgs false

theorem frozen_row {w : World} {M : Nat} {cur : Array Value} {t : TypeId} (h : w.heap[M]? = some (.cells cur t (0, 0))) (j : Nat) : w.frozen? ⟨M, j, none⟩ = false := by simp [World.frozen?, h]
theorem set3_other {X M : Nat} (h : X ≠ M) (w : World) (a b c : Nat) (x y z : Value) : (((w.setCell ⟨M, a, none⟩ x).setCell ⟨M, b, none⟩ y).setCell ⟨M, c, none⟩ z).heap[X]? = w.heap[X]? :=
  (Below.heap_setCell _ _ _ X h).trans ((Below.heap_setCell _ _ _ X h).trans (Below.heap_setCell _ _ _ X h))
theorem notes_cells {W : World} {b g n c : Nat} {l : List Nt} (h : Notes W b (.slice (some ⟨g, 0, none⟩) n c) l) (j : Nat) (hj : j < l.length) : W.cell? ⟨g, j * 3, none⟩ = some (.int .u32 (l[j].id.toNat : Int)) ∧ W.cell? ⟨g, j * 3 + 1, none⟩ = some (.int .i64 l[j].to) ∧ W.cell? ⟨g, j * 3 + 2, none⟩ = some (.string l[j].s) := by
  obtain ⟨g', c', e, _, _, _, _, h0, h1, h2⟩ := h.cell j hj
  simp only [Value.slice.injEq, Option.some.injEq, Addr.mk.injEq, and_true] at e
  obtain ⟨e, -, -⟩ := e
  subst e
  exact ⟨h0, h1, h2⟩
theorem sent_cells {w : World} {M n : Nat} {sent : Nat → Nt} (hn : n < 200) (h : w.heap[M]? = some (.cells (sentRow sent) 52 (0, 0))) :
    (w.cell? ⟨M, n * 3, none⟩ = some (.int .u32 ((sent n).id.toNat : Int)) ∧ w.cell? ⟨M, n * 3 + 1, none⟩ = some (.int .i64 (sent n).to) ∧ w.cell? ⟨M, n * 3 + 2, none⟩ = some (.string (sent n).s)) ∧
    w.frozen? ⟨M, n * 3, none⟩ = false ∧ w.frozen? ⟨M, n * 3 + 1, none⟩ = false ∧ w.frozen? ⟨M, n * 3 + 2, none⟩ = false :=
  ⟨⟨(cell_of_row _ M _ _ _ (0, 0) h).trans (sentRow_get sent n 0 hn (by omega)), (cell_of_row _ M _ _ _ (0, 0) h).trans (sentRow_get sent n 1 hn (by omega)), (cell_of_row _ M _ _ _ (0, 0) h).trans (sentRow_get sent n 2 hn (by omega))⟩,
    frozen_row h _, frozen_row h _, frozen_row h _⟩
set_option maxRecDepth 100000 in
set_option maxHeartbeats 8000000 in
theorem lawFlSent (v0 : Value) (l : List Ac) (w : World) (hT : FlActs w v0 l) (hll : l.length ≤ maxLen) (hZ : ∀ x ∈ l, x.1 ≤ 2 ^ 63 - 1 ∧ x.2.1 ≤ 2 ^ 63 - 1 ∧ x.2.2.1 ≤ 2 ^ 63 - 1 ∧ x.2.2.2.2.size ≤ maxLen) : Calls Try.prog 6 #[v0] w fun e w' => e = .returned (.bool true) ∧ Below w.heap.size w w' := by
  obtain ⟨a, c, rfl⟩ := flacts_form hT
  obtain ⟨len, hlen⟩ : ∃ len, l.length = len := ⟨_, rfl⟩
  have HT := Lib.hid hT
  have HL := Lib.hid hlen
  have HZ := Lib.hid hZ
  rw [hlen] at hll ⊢
  have hzv := zero_sent
  clear hT hlen hZ
  go_enter Try.func6, Try.ntmps6
  go_wp2_with (first
    | (go_at_call 10; refine (lawShown5 _).mono ?_; rintro e w1 ⟨rfl, hb1⟩)
    | (go_at_call 11; refine (flNew _).mono ?_; rintro e w2 ⟨rfl, hI2, hb2⟩))
  have hn1 := hb1.size
  have hB2 : Below w.heap.size w w2 := hb1.trans (hb2.mono hn1)
  have hBM := hI2.lt
  have hI3 := hI2.below ((Below.refl _ w2).alloc (Nat.le_refl _) (.cells (sentRow fun _ => Nt.zero) 52))
  have hB3 := hB2.alloc hB2.size (.cells (sentRow fun _ => Nt.zero) 52)
  have hM3 := World.alloc_heap_new w2 (.cells (sentRow fun _ => Nt.zero) 52)
  obtain ⟨M, hMM⟩ : ∃ M, w2.heap.size = M := ⟨_, rfl⟩
  have hnM : w.heap.size ≤ M := by omega
  rw [hMM] at hM3 ⊢
  generalize w2.alloc (.cells (sentRow fun _ => Nt.zero) 52) = w3 at *
  clear hzv
  go_loopw [6, 7, 8, 9, 10, 11, 12, 13, 14] (fun i _ _ _ _ _ _ _ _ W => ∃ (k : Nat) (F : Fl) (v : Value) (sent : Nat → Nt), k ≤ len ∧ k ≤ 60 ∧ i = .int .i64 k ∧ Sent F sent k ∧ W.heap[M]? = some (.cells (sentRow sent) 52 (0, 0)) ∧ Fl.Is true F w1.heap.size v W ∧ Below w.heap.size w W) (fun i _ _ _ _ _ _ _ _ _ => 60 - (intOf i).toNat)
  case atStart => exact ⟨0, Fl.new, _, _, Nat.zero_le _, Nat.zero_le _, rfl, Sent.start, hM3, hI3, hB3⟩
  case round =>
    clear hM3 hI3 hB3 hI2 hb2 hB2
    obtain ⟨k, F, v, sent, hk, hk60, rfl, hO, hM, hI, hB⟩ := hrel
    by_cases hlt : k < len
    · by_cases h60 : k < 60
      · have hkl : k < l.length := by rw [HL.out]; exact hlt
        obtain ⟨ad, c', h0, hx⟩ := flacts_at HT.out k hkl
        simp only [Value.slice.injEq] at h0
        obtain ⟨rfl, -, rfl⟩ := h0
        have hzx := HZ.out l[k] (List.getElem_mem hkl)
        generalize l[k] = x at hx hzx
        obtain ⟨xd, xa, xb, xm, xs⟩ := x
        have hki : (k : Int) < (len : Int) := by omega
        have hki60 : (k : Int) < 60 := by omega
        obtain ⟨q0, q1, q2, q3, q4⟩ := hx wr hB
        dsimp only at q0 q1 q2 q3 q4
        have hbit := Lib.hid hzx.2.2.1
        obtain ⟨W0, hW0⟩ : ∃ W0, wr.alloc (.cells #[.int .i64 xd, .int .i64 xa, .int .i64 xb, .int .u32 (xm.toNat : Int), .string xs] 33) = W0 := ⟨_, rfl⟩
        have hb0 : Below wr.heap.size wr W0 := hW0 ▸ (Below.refl _ wr).alloc (Nat.le_refl _) _
        have hI0 := hI.below hb0
        have hM0 := (hb0.block M (Array.getElem?_eq_some_iff.1 hM).1).trans hM
        have hB0 := hB.trans (hb0.mono hB.size)
        have hX0 : W0.heap[wr.heap.size]? = some (.cells #[.int .i64 xd, .int .i64 xa, .int .i64 xb, .int .u32 (xm.toNat : Int), .string xs] 33 (0, 0)) := hW0 ▸ World.alloc_heap_new wr _
        obtain ⟨X, hXX⟩ : ∃ X, wr.heap.size = X := ⟨_, rfl⟩
        rw [hXX] at hX0
        have hXM : X ≠ M := fun e => by rw [← e, hX0] at hM0; simp at hM0
        have HX := Lib.hid (fun (W : World) (h : W.heap[X]? = some (.cells #[.int .i64 xd, .int .i64 xa, .int .i64 xb, .int .u32 (xm.toNat : Int), .string xs] 33 (0, 0))) => show W.cell? ⟨X, 0, none⟩ = some (.int .i64 xd) ∧ W.cell? ⟨X, 1, none⟩ = some (.int .i64 xa) ∧ W.cell? ⟨X, 2, none⟩ = some (.int .i64 xb) ∧ W.cell? ⟨X, 3, none⟩ = some (.int .u32 (xm.toNat : Int)) ∧ W.cell? ⟨X, 4, none⟩ = some (.string xs) from by simp [World.cell?, h])
        obtain ⟨p0, p1, p2, p3, p4⟩ := HX.out W0 hX0
        have hfew := hO.few
        have hnl := next_num F.last
        clear hx hzx hI hM hB hb0
        rcases u64_cases xd with hr | hr | hr | hr | hr | hr
        · by_cases hnode : Fl.node xa = true
          · obtain ⟨e1, e2, e3⟩ := send_yes (F := F) xa (hun xs) (by omega) hnode
            have HS := Lib.hid (fun (W : World) (hI : Fl.Is true F w1.heap.size v W) => flSend F _ v xa (hun xs) W hI (by have := hun_size xs; omega))
            rw [e1, e2, e3] at HS
            have HOL := Lib.hid (hO.lay h60 xa (hun xs))
            obtain ⟨nx, hnx⟩ : ∃ nx, F.last + 1 = nx := ⟨_, rfl⟩
            have hnt := next_toNat hO.last (by omega)
            have hol := hO.last
            rw [hnx] at hnt HS HOL
            obtain ⟨nn, hnn⟩ : ∃ nn, nx.toNat = nn := ⟨_, rfl⟩
            rw [hnn] at hnt HS HOL
            have HNN := Lib.hid hnn
            have h200 : nn < 200 := by omega
            have hix := index_sent M nn h200
            have hx4 : decide (nn < 200) = true := by simp; omega
            have hx5 : decide ((nn : Int) < 200) = true := by simp; omega
            have HC := Lib.hid (fun (W : World) (hM : W.heap[M]? = some (.cells (sentRow sent) 52 (0, 0))) => sent_cells h200 hM)
            have H200 := Lib.hid h200
            clear hnn hnx hnt hol h200 hnl
            clear e1 e2 e3 hnode
            go_wp2
            clear p0 p1 p2 p3 p4 q0 q1 q2 q3 q4
            replace hB0 := hB0.trans ((Below.refl _ W0).drew.mono hB0.size)
            replace hI0 := hI0.below (Below.refl _ W0).drew
            replace hM0 : W0.drew.heap[M]? = _ := hM0
            replace hX0 : W0.drew.heap[X]? = _ := hX0
            clear hW0
            go_region_held3 (fun W => W.cell? ⟨X, 0, none⟩ = some (.int .i64 xd) ∧ W.cell? ⟨X, 1, none⟩ = some (.int .i64 xa) ∧ W.cell? ⟨X, 2, none⟩ = some (.int .i64 xb) ∧ W.cell? ⟨X, 3, none⟩ = some (.int .u32 (xm.toNat : Int)) ∧ W.cell? ⟨X, 4, none⟩ = some (.string xs)) (first | exact HX.out _ hX0 | go_keep) (first
              | (go_at_call 22; refine (lawText5 _ _ _ _ _ _).mono ?_; rintro e w5 ⟨rfl, hb5⟩; replace hM0 := (hb5.block M (Array.getElem?_eq_some_iff.1 hM0).1).trans hM0; replace hX0 := (hb5.block X (Array.getElem?_eq_some_iff.1 hX0).1).trans hX0; replace hB0 := hB0.trans (hb5.mono hB0.size); replace hI0 := hI0.below hb5; clear hb5)
              | (go_at_call 17; refine (HS.out _ hI0).mono ?_; rintro e w6 ⟨rfl, hT6⟩; obtain ⟨v6, hI6, hb6⟩ := hT6.low hI0 (Nat.le_refl _); replace hM0 := hT6.block hI0 hM0 (by decide) (by decide); replace hX0 := hT6.block hI0 hX0 (by decide) (by decide); replace hB0 := hB0.trans (hb6.mono hn1)))
            go_wp2
            replace hB0 := hB0.trans ((Below.refl _ w6).drew.mono hB0.size)
            replace hI6 := hI6.below (Below.refl _ w6).drew
            replace hM0 : w6.drew.heap[M]? = _ := hM0
            replace hX0 : w6.drew.heap[X]? = _ := hX0
            obtain ⟨⟨c0, c1, c2⟩, z0, z1, z2⟩ := HC.out _ hM0
            go_region_held3 (fun W => W.cell? ⟨X, 0, none⟩ = some (.int .i64 xd) ∧ W.cell? ⟨X, 1, none⟩ = some (.int .i64 xa) ∧ W.cell? ⟨X, 2, none⟩ = some (.int .i64 xb) ∧ W.cell? ⟨X, 3, none⟩ = some (.int .u32 (xm.toNat : Int)) ∧ W.cell? ⟨X, 4, none⟩ = some (.string xs)) (first | exact HX.out _ hX0 | exact HX.out _ ((set3_other hXM _ _ _ _ _ _ _).trans hX0) | go_keep) (first
              | (go_at_call 22; refine (lawText5 _ _ _ _ _ _).mono ?_; rintro e w7 ⟨rfl, hb7⟩; replace hM0 := (hb7.block M (Array.getElem?_eq_some_iff.1 hM0).1).trans hM0; replace hX0 := (hb7.block X (Array.getElem?_eq_some_iff.1 hX0).1).trans hX0; replace hB0 := hB0.trans (hb7.mono hB0.size); replace hI6 := hI6.below hb7; clear hb7 c0 c1 c2 z0 z1 z2; obtain ⟨⟨c0, c1, c2⟩, z0, z1, z2⟩ := HC.out _ hM0))
            all_goals
              go_wp2
              have hS8 := sent_set nn H200.out ⟨nx, xa, hun xs⟩ hI6 hM0 hB0 hnM
              dsimp only at hS8
              rw [HNN.out] at hS8
              obtain ⟨g1, g2, g3⟩ := hS8
              go_roundw
              case rel => exact ⟨k + 1, _, v6, _, by omega, by omega, by go_num, HOL.out, g2, g1, g3⟩
              case measure => simp [intOf]; omega
          · obtain ⟨e1, e2, e3⟩ := send_no (F := F) xa (hun xs) hnode
            have HS := Lib.hid (fun (W : World) (hI : Fl.Is true F w1.heap.size v W) => flSend F _ v xa (hun xs) W hI (by have := hun_size xs; omega))
            rw [e1, e2, e3] at HS
            clear hnl e1 e2 e3 hnode
            go_wp2
            clear p0 p1 p2 p3 p4 q0 q1 q2 q3 q4
            replace hB0 := hB0.trans ((Below.refl _ W0).drew.mono hB0.size)
            replace hI0 := hI0.below (Below.refl _ W0).drew
            replace hM0 : W0.drew.heap[M]? = _ := hM0
            replace hX0 : W0.drew.heap[X]? = _ := hX0
            clear hW0
            go_region_held3 (fun W => W.cell? ⟨X, 0, none⟩ = some (.int .i64 xd) ∧ W.cell? ⟨X, 1, none⟩ = some (.int .i64 xa) ∧ W.cell? ⟨X, 2, none⟩ = some (.int .i64 xb) ∧ W.cell? ⟨X, 3, none⟩ = some (.int .u32 (xm.toNat : Int)) ∧ W.cell? ⟨X, 4, none⟩ = some (.string xs)) (first | exact HX.out _ hX0 | go_keep) (first
              | (go_at_call 22; refine (lawText5 _ _ _ _ _ _).mono ?_; rintro e w5 ⟨rfl, hb5⟩; replace hM0 := (hb5.block M (Array.getElem?_eq_some_iff.1 hM0).1).trans hM0; replace hX0 := (hb5.block X (Array.getElem?_eq_some_iff.1 hX0).1).trans hX0; replace hB0 := hB0.trans (hb5.mono hB0.size); replace hI0 := hI0.below hb5; clear hb5)
              | (go_at_call 17; refine (HS.out _ hI0).mono ?_; rintro e w6 ⟨rfl, hT6⟩; obtain ⟨v6, hI6, hb6⟩ := hT6.low hI0 (Nat.le_refl _); replace hM0 := hT6.block hI0 hM0 (by decide) (by decide); replace hX0 := hT6.block hI0 hX0 (by decide) (by decide); replace hB0 := hB0.trans (hb6.mono hn1)))
            all_goals
              go_wp2
              go_roundw
              case rel => exact ⟨k + 1, F, v6, sent, by omega, by omega, by go_num, hO.stay, hM0, hI6, hB0⟩
              case measure => simp [intOf]; omega
        · by_cases hnode : Fl.node xa = true
          · obtain ⟨e1, e2, e3⟩ := send_yes (F := F) xa (hun xs) (by omega) hnode
            have HS := Lib.hid (fun (W : World) (hI : Fl.Is true F w1.heap.size v W) => flSend F _ v xa (hun xs) W hI (by have := hun_size xs; omega))
            rw [e1, e2, e3] at HS
            have HOL := Lib.hid (hO.lay h60 xa (hun xs))
            obtain ⟨nx, hnx⟩ : ∃ nx, F.last + 1 = nx := ⟨_, rfl⟩
            have hnt := next_toNat hO.last (by omega)
            have hol := hO.last
            rw [hnx] at hnt HS HOL
            obtain ⟨nn, hnn⟩ : ∃ nn, nx.toNat = nn := ⟨_, rfl⟩
            rw [hnn] at hnt HS HOL
            have HNN := Lib.hid hnn
            have h200 : nn < 200 := by omega
            have hix := index_sent M nn h200
            have hx4 : decide (nn < 200) = true := by simp; omega
            have hx5 : decide ((nn : Int) < 200) = true := by simp; omega
            have HC := Lib.hid (fun (W : World) (hM : W.heap[M]? = some (.cells (sentRow sent) 52 (0, 0))) => sent_cells h200 hM)
            have H200 := Lib.hid h200
            clear hnn hnx hnt hol h200 hnl
            clear e1 e2 e3 hnode
            go_wp2
            clear p0 p1 p2 p3 p4 q0 q1 q2 q3 q4
            replace hB0 := hB0.trans ((Below.refl _ W0).drew.mono hB0.size)
            replace hI0 := hI0.below (Below.refl _ W0).drew
            replace hM0 : W0.drew.heap[M]? = _ := hM0
            replace hX0 : W0.drew.heap[X]? = _ := hX0
            clear hW0
            go_region_held3 (fun W => W.cell? ⟨X, 0, none⟩ = some (.int .i64 xd) ∧ W.cell? ⟨X, 1, none⟩ = some (.int .i64 xa) ∧ W.cell? ⟨X, 2, none⟩ = some (.int .i64 xb) ∧ W.cell? ⟨X, 3, none⟩ = some (.int .u32 (xm.toNat : Int)) ∧ W.cell? ⟨X, 4, none⟩ = some (.string xs)) (first | exact HX.out _ hX0 | go_keep) (first
              | (go_at_call 22; refine (lawText5 _ _ _ _ _ _).mono ?_; rintro e w5 ⟨rfl, hb5⟩; replace hM0 := (hb5.block M (Array.getElem?_eq_some_iff.1 hM0).1).trans hM0; replace hX0 := (hb5.block X (Array.getElem?_eq_some_iff.1 hX0).1).trans hX0; replace hB0 := hB0.trans (hb5.mono hB0.size); replace hI0 := hI0.below hb5; clear hb5)
              | (go_at_call 17; refine (HS.out _ hI0).mono ?_; rintro e w6 ⟨rfl, hT6⟩; obtain ⟨v6, hI6, hb6⟩ := hT6.low hI0 (Nat.le_refl _); replace hM0 := hT6.block hI0 hM0 (by decide) (by decide); replace hX0 := hT6.block hI0 hX0 (by decide) (by decide); replace hB0 := hB0.trans (hb6.mono hn1)))
            go_wp2
            replace hB0 := hB0.trans ((Below.refl _ w6).drew.mono hB0.size)
            replace hI6 := hI6.below (Below.refl _ w6).drew
            replace hM0 : w6.drew.heap[M]? = _ := hM0
            replace hX0 : w6.drew.heap[X]? = _ := hX0
            obtain ⟨⟨c0, c1, c2⟩, z0, z1, z2⟩ := HC.out _ hM0
            go_region_held3 (fun W => W.cell? ⟨X, 0, none⟩ = some (.int .i64 xd) ∧ W.cell? ⟨X, 1, none⟩ = some (.int .i64 xa) ∧ W.cell? ⟨X, 2, none⟩ = some (.int .i64 xb) ∧ W.cell? ⟨X, 3, none⟩ = some (.int .u32 (xm.toNat : Int)) ∧ W.cell? ⟨X, 4, none⟩ = some (.string xs)) (first | exact HX.out _ hX0 | exact HX.out _ ((set3_other hXM _ _ _ _ _ _ _).trans hX0) | go_keep) (first
              | (go_at_call 22; refine (lawText5 _ _ _ _ _ _).mono ?_; rintro e w7 ⟨rfl, hb7⟩; replace hM0 := (hb7.block M (Array.getElem?_eq_some_iff.1 hM0).1).trans hM0; replace hX0 := (hb7.block X (Array.getElem?_eq_some_iff.1 hX0).1).trans hX0; replace hB0 := hB0.trans (hb7.mono hB0.size); replace hI6 := hI6.below hb7; clear hb7 c0 c1 c2 z0 z1 z2; obtain ⟨⟨c0, c1, c2⟩, z0, z1, z2⟩ := HC.out _ hM0))
            all_goals
              go_wp2
              have hS8 := sent_set nn H200.out ⟨nx, xa, hun xs⟩ hI6 hM0 hB0 hnM
              dsimp only at hS8
              rw [HNN.out] at hS8
              obtain ⟨g1, g2, g3⟩ := hS8
              go_roundw
              case rel => exact ⟨k + 1, _, v6, _, by omega, by omega, by go_num, HOL.out, g2, g1, g3⟩
              case measure => simp [intOf]; omega
          · obtain ⟨e1, e2, e3⟩ := send_no (F := F) xa (hun xs) hnode
            have HS := Lib.hid (fun (W : World) (hI : Fl.Is true F w1.heap.size v W) => flSend F _ v xa (hun xs) W hI (by have := hun_size xs; omega))
            rw [e1, e2, e3] at HS
            clear hnl e1 e2 e3 hnode
            go_wp2
            clear p0 p1 p2 p3 p4 q0 q1 q2 q3 q4
            replace hB0 := hB0.trans ((Below.refl _ W0).drew.mono hB0.size)
            replace hI0 := hI0.below (Below.refl _ W0).drew
            replace hM0 : W0.drew.heap[M]? = _ := hM0
            replace hX0 : W0.drew.heap[X]? = _ := hX0
            clear hW0
            go_region_held3 (fun W => W.cell? ⟨X, 0, none⟩ = some (.int .i64 xd) ∧ W.cell? ⟨X, 1, none⟩ = some (.int .i64 xa) ∧ W.cell? ⟨X, 2, none⟩ = some (.int .i64 xb) ∧ W.cell? ⟨X, 3, none⟩ = some (.int .u32 (xm.toNat : Int)) ∧ W.cell? ⟨X, 4, none⟩ = some (.string xs)) (first | exact HX.out _ hX0 | go_keep) (first
              | (go_at_call 22; refine (lawText5 _ _ _ _ _ _).mono ?_; rintro e w5 ⟨rfl, hb5⟩; replace hM0 := (hb5.block M (Array.getElem?_eq_some_iff.1 hM0).1).trans hM0; replace hX0 := (hb5.block X (Array.getElem?_eq_some_iff.1 hX0).1).trans hX0; replace hB0 := hB0.trans (hb5.mono hB0.size); replace hI0 := hI0.below hb5; clear hb5)
              | (go_at_call 17; refine (HS.out _ hI0).mono ?_; rintro e w6 ⟨rfl, hT6⟩; obtain ⟨v6, hI6, hb6⟩ := hT6.low hI0 (Nat.le_refl _); replace hM0 := hT6.block hI0 hM0 (by decide) (by decide); replace hX0 := hT6.block hI0 hX0 (by decide) (by decide); replace hB0 := hB0.trans (hb6.mono hn1)))
            all_goals
              go_wp2
              go_roundw
              case rel => exact ⟨k + 1, F, v6, sent, by omega, by omega, by go_num, hO.stay, hM0, hI6, hB0⟩
              case measure => simp [intOf]; omega
        · clear hnl
          by_cases hp : F.place xa = true
          · obtain ⟨j, rfl, hj⟩ := Fl.place_iff.1 hp
            have HD := flTakeYes F _ v j W0 hI0 hj
            have hOt := Lib.hid (hO.drop j)
            have h1 := hO.ids _ (List.getElem_mem hj)
            have h2 := hO.same _ (List.getElem_mem hj)
            have h3 := hO.last
            generalize hxx : F.notes[j] = x at *
            obtain ⟨ti, tt, ts⟩ := x
            dsimp only at h1 h2
            dsimp only [Nt.val] at HD
            obtain ⟨n, hnn⟩ : ∃ n, ti.toNat = n := ⟨_, rfl⟩
            have h200 : n < 200 := by omega
            have HC := fun (W : World) (hM : W.heap[M]? = some (.cells (sentRow sent) 52 (0, 0))) => sent_cells h200 hM
            rw [hnn] at h1 h2 HD
            rw [h2] at HC
            dsimp only at HC
            rw [hnn] at HC
            replace HC := Lib.hid HC
            have hx4 : decide (200 ≤ n) = false := by simp; omega
            have hx5 : decide ((200 : Int) ≤ (n : Int)) = false := by simp; omega
            have hix := index_sent M n h200
            have HM0 := Lib.hid hM0
            have HI0 := Lib.hid hI0
            clear hp hxx h1 h2 h3 hM0 hX0 hO hj hnn p2 p3 p4 hfew h200 hXM
            go_upto_region 23 with (go_at_call 18; refine HD.mono ?_; rintro e w6 ⟨rfl, hT6⟩; obtain ⟨v6, hI6, hb6⟩ := hT6.low hI0 (Nat.le_refl _); have hM6 := hT6.block hI0 HM0.out (by decide) (by decide); have hB6 := hB0.trans (hb6.mono hn1))
            have hz := (Below.refl _ w6).alloc (Nat.le_refl _) (.cells #[.int .u32 (n : Int), .int .i64 tt, .string ts] 42)
            have hI7 := hI6.below hz
            have hM7 := (hz.block M (Array.getElem?_eq_some_iff.1 hM6).1).trans hM6
            have hB7 := hB6.trans (hz.mono hB6.size)
            have hr7 := World.alloc_heap_new w6 (.cells #[.int .u32 (n : Int), .int .i64 tt, .string ts] 42)
            obtain ⟨X7, hX7⟩ : ∃ X7, w6.heap.size = X7 := ⟨_, rfl⟩
            obtain ⟨w7, hw7⟩ : ∃ w7, w6.alloc (.cells #[.int .u32 (n : Int), .int .i64 tt, .string ts] 42) = w7 := ⟨_, rfl⟩
            rw [hw7] at hI7 hM7 hB7 hr7 ⊢
            rw [hX7] at hr7 ⊢
            obtain ⟨⟨c0, c1, c2⟩, _, _, _⟩ := HC.out _ hM7
            have y0 : w7.cell? ⟨X7, 0, none⟩ = some (.int .u32 (n : Int)) := by simp [World.cell?, hr7]
            have y1 : w7.cell? ⟨X7, 1, none⟩ = some (.int .i64 tt) := by simp [World.cell?, hr7]
            have y2 : w7.cell? ⟨X7, 2, none⟩ = some (.string ts) := by simp [World.cell?, hr7]
            clear hw7 hr7 hM6 hI6 hT6 hb6 hz hX7 hI0
            go_quiet (fail)
            go_wp2
            have hd : ∀ nq, Below w7.heap.size w7 (w7.drewN nq) := fun nq => ⟨rfl, rfl, rfl, Nat.le_refl _, fun _ _ => rfl⟩
            go_roundw
            case rel => exact ⟨k + 1, { F with notes := F.notes.eraseIdx j }, v6, sent, by omega, by omega, by go_num, hOt.out, hM7, hI7.below (hd _), hB7.trans ((hd _).mono hB7.size)⟩
            case measure => simp [intOf]; omega
          · have HD := flTake F _ v xa W0 hI0
            rw [show F.drop xa = F by simp [Fl.drop, hp], show F.checkE xa = 2 by simp [Fl.checkE, hp], show F.note xa = Nt.zero by simp [Fl.note, hp]] at HD
            change Calls _ _ _ _ (fun e w' => e = .returned (.tuple #[.agg #[.int .u32 0, .int .i64 0, .string ⟨#[]⟩], .int .i64 2]) ∧ _) at HD
            clear hp
            go_upto_region 23 with (go_at_call 18; refine HD.mono ?_; rintro e w6 ⟨rfl, hT6⟩; obtain ⟨v6, hI6, hb6⟩ := hT6.low hI0 (Nat.le_refl _); have hM6 := hT6.block hI0 hM0 (by decide) (by decide); have hB6 := hB0.trans (hb6.mono hn1))
            have hz := (Below.refl _ w6).alloc (Nat.le_refl _) (.cells #[.int .u32 0, .int .i64 0, .string ⟨#[]⟩] 42)
            have hI7 := hI6.below hz
            have hM7 := (hz.block M (Array.getElem?_eq_some_iff.1 hM6).1).trans hM6
            have hB7 := hB6.trans (hz.mono hB6.size)
            obtain ⟨w7, hw7⟩ : ∃ w7, w6.alloc (.cells #[.int .u32 0, .int .i64 0, .string ⟨#[]⟩] 42) = w7 := ⟨_, rfl⟩
            rw [hw7] at hI7 hM7 hB7 ⊢
            clear hw7
            go_quiet (fail)
            go_wp2
            have hd : ∀ nq, Below w7.heap.size w7 (w7.drewN nq) := fun nq => ⟨rfl, rfl, rfl, Nat.le_refl _, fun _ _ => rfl⟩
            go_roundw
            case rel => exact ⟨k + 1, F, v6, sent, by omega, by omega, by go_num, hO.stay, hM7, hI7.below (hd _), hB7.trans ((hd _).mono hB7.size)⟩
            case measure => simp [intOf]; omega
        · have HD := flDrop F _ v xa W0 hI0
          by_cases hp : F.place xa = true
          · obtain ⟨j, rfl, hj⟩ := Fl.place_iff.1 hp
            rw [show F.drop (j : Int) = { F with notes := F.notes.eraseIdx j } by simp [Fl.drop, hp]] at HD
            generalize F.checkE _ = ce at HD
            clear hp hnl
            go_wp2_with (go_at_call 20; refine HD.mono ?_; rintro e w6 ⟨rfl, hT6⟩; obtain ⟨v6, hI6, hb6⟩ := hT6.low hI0 (Nat.le_refl _); have hM6 := hT6.block hI0 hM0 (by decide) (by decide); have hB6 := hB0.trans (hb6.mono hn1))
            go_roundw
            case rel => exact ⟨k + 1, { F with notes := F.notes.eraseIdx j }, v6, sent, by omega, by omega, by go_num, hO.drop j, hM6, hI6, hB6⟩
            case measure => simp [intOf]; omega
          · rw [show F.drop xa = F by simp [Fl.drop, hp]] at HD
            generalize F.checkE _ = ce at HD
            clear hp hnl
            go_wp2_with (go_at_call 20; refine HD.mono ?_; rintro e w6 ⟨rfl, hT6⟩; obtain ⟨v6, hI6, hb6⟩ := hT6.low hI0 (Nat.le_refl _); have hM6 := hT6.block hI0 hM0 (by decide) (by decide); have hB6 := hB0.trans (hb6.mono hn1))
            go_roundw
            case rel => exact ⟨k + 1, F, v6, sent, by omega, by omega, by go_num, hO.stay, hM6, hI6, hB6⟩
            case measure => simp [intOf]; omega
        · by_cases hp : F.place xa = true
          · obtain ⟨j, rfl, hj⟩ := Fl.place_iff.1 hp
            obtain ⟨e1, e2, e3⟩ := copy_yes (F := F) (j := j) (by omega) hj
            have HS := Lib.hid (fun (W : World) (hI : Fl.Is true F w1.heap.size v W) => flCopy F _ v (j : Int) W hI)
            rw [e1, e2, e3] at HS
            have HOL := Lib.hid (hO.lay h60 F.notes[j].to F.notes[j].s)
            obtain ⟨nx, hnx⟩ : ∃ nx, F.last + 1 = nx := ⟨_, rfl⟩
            have hnt := next_toNat hO.last (by omega)
            have hol := hO.last
            rw [hnx] at hnt HS HOL
            obtain ⟨nn, hnn⟩ : ∃ nn, nx.toNat = nn := ⟨_, rfl⟩
            rw [hnn] at hnt HS HOL
            have HNN := Lib.hid hnn
            have h200 : nn < 200 := by omega
            have hix := index_sent M nn h200
            have hx4 : decide (nn < 200) = true := by simp; omega
            have hx5 : decide ((nn : Int) < 200) = true := by simp; omega
            have HC := Lib.hid (fun (W : World) (hM : W.heap[M]? = some (.cells (sentRow sent) 52 (0, 0))) => sent_cells h200 hM)
            have H200 := Lib.hid h200
            clear hnn hnx hnt hol h200 hnl
            have HA := flAll F _ v W0 hI0
            have hvl := Lib.hid (fun g hg => (hI0.own.lt g hg).2)
            have HCC := Lib.hid (fun (W : World) (b g c : Nat) (hN : Notes W b (.slice (some ⟨g, 0, none⟩) F.notes.length c) F.notes) => notes_cells hN j hj)
            generalize hxx : F.notes[j] = x at *
            obtain ⟨xi, xt, xxs⟩ := x
            dsimp only at HS HOL HCC
            obtain ⟨n, hn⟩ : ∃ n, F.notes.length = n := ⟨_, rfl⟩
            rw [hn] at hj HCC
            have HN := Lib.hid hn
            have hji : (j : Int) < (n : Int) := by omega
            have hj0 : (0 : Int) ≤ (j : Int) := by omega
            clear hp e1 e2 e3 hxx hn hfew
            have HI0 := Lib.hid hI0
            have HM0 := Lib.hid hM0
            have HX0 := Lib.hid hX0
            have HXM := Lib.hid hXM
            clear hI0 hM0 hX0 hXM hO
            go_upto_region 18 with (first
              | (go_at_call 14; refine HA.mono ?_; rintro e w5 ⟨⟨u, rfl, hN5⟩, hb5⟩; have hI5 := HI0.out.below hb5; have hM5 := (hb5.block M (Array.getElem?_eq_some_iff.1 HM0.out).1).trans HM0.out; have hX5 := (hb5.block X (Array.getElem?_eq_some_iff.1 HX0.out).1).trans HX0.out; have hB5 := hB0.trans (hb5.mono hB0.size); obtain ⟨g5, c5, hu, _⟩ := hN5.cell j (by rw [HN.out]; exact hj); rw [HN.out] at hu; subst hu; have hap5 : ∀ g, (Value.slice (some ⟨g5, 0, none⟩) n c5).ownBlock = some g → v.ownBlock ≠ some g := (fun g e e' => absurd (hvl.out g e') (by have := (hN5.lt g e).1; omega)); clear p0 p1 p2 p3 p4; obtain ⟨p0, p1, p2, p3, p4⟩ := HX.out _ hX5)
              | (go_at_call 19; refine (HS.out _ hI5).mono ?_; rintro e w6 ⟨rfl, hT6⟩; obtain ⟨_, _, hb6⟩ := hT6.low hI5 (Nat.le_refl _); have hM6 := hT6.block hI5 hM5 (by decide) (by decide); have hX6 := hT6.block hI5 hX5 (by decide) (by decide); obtain ⟨v6, hI6, hN6, _, _⟩ := hN5.apart hI5 hT6 hap5; have hB6 := hB5.trans (hb6.mono hn1); clear p0 p1 p2 p3 p4; obtain ⟨p0, p1, p2, p3, p4⟩ := HX.out _ hX6; obtain ⟨r0, r1, r2⟩ := HCC.out _ _ _ _ hN6))
            replace hB6 := hB6.trans ((Below.refl _ w6).drew.mono hB6.size)
            replace hI6 := hI6.below (Below.refl _ w6).drew
            replace hM6 : w6.drew.heap[M]? = _ := hM6
            go_still_tail 16, (by kernel_rfl)
            change wpList _ _ _ _ _ w6.drew
            generalize w6.drew = w7 at *
            clear r0 r1 r2 p0 p1 p2 p3 p4
            obtain ⟨⟨c0, c1, c2⟩, z0, z1, z2⟩ := HC.out _ hM6
            go_wp2
            have hS8 := sent_set nn H200.out ⟨nx, xt, xxs⟩ hI6 hM6 hB6 hnM
            dsimp only at hS8
            rw [HNN.out] at hS8
            obtain ⟨g1, g2, g3⟩ := hS8
            go_roundw
            case rel => exact ⟨k + 1, _, v6, _, by omega, by omega, by go_num, HOL.out, g2, g1, g3⟩
            case measure => simp [intOf]; omega
          · obtain ⟨e1, e2, e3⟩ := copy_no hp
            have HD := Lib.hid (fun (W : World) (hI : Fl.Is true F w1.heap.size v W) => flCopy F _ v xa W hI)
            rw [e1, e2, e3] at HD
            have HA := flAll F _ v W0 hI0
            clear hp e1 e2 e3 hnl
            go_wp2_with (first
              | (go_at_call 14; refine HA.mono ?_; rintro e w5 ⟨⟨u, rfl, hN5⟩, hb5⟩; obtain ⟨a5, c5, rfl, _⟩ := hN5.form; have hI5 := hI0.below hb5; have hM5 := (hb5.block M (Array.getElem?_eq_some_iff.1 hM0).1).trans hM0; have hX5 := (hb5.block X (Array.getElem?_eq_some_iff.1 hX0).1).trans hX0; have hB5 := hB0.trans (hb5.mono hB0.size); clear p0 p1 p2 p3 p4; obtain ⟨p0, p1, p2, p3, p4⟩ := HX.out _ hX5)
              | (go_at_call 19; refine (HD.out _ hI5).mono ?_; rintro e w6 ⟨rfl, hT6⟩; obtain ⟨v6, hI6, hb6⟩ := hT6.low hI5 (Nat.le_refl _); have hM6 := hT6.block hI5 hM5 (by decide) (by decide); have hB6 := hB5.trans (hb6.mono hn1); have hX6 := hT6.block hI5 hX5 (by decide) (by decide); clear p0 p1 p2 p3 p4; obtain ⟨p0, p1, p2, p3, p4⟩ := HX.out _ hX6))
            all_goals
              go_roundw
              case rel => exact ⟨k + 1, F, v6, sent, by omega, by omega, by go_num, hO.stay, hM6, hI6, hB6⟩
              case measure => simp [intOf]; omega
        · clear hnl
          go_wp2
          exact ⟨⟨k + 1, F, v, sent, by omega, by omega, by go_num, hO.stay, hM0, hI0, hB0⟩, by simp [intOf]; omega⟩
      · have hki : (k : Int) < (len : Int) := by omega
        have hki60 : ¬ (k : Int) < 60 := by omega
        go_wp2
        go_ret
        exact ⟨rfl, hB⟩
    · have hki : ¬ (k : Int) < (len : Int) := by omega
      go_wp2
      go_ret
      exact ⟨rfl, hB⟩
end Go.Proofs.Ytialmaapahjchaa
