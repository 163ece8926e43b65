/-
  Layer 5's law FlightOnce: walked.
-/
import Derived.Test.YtialmaapahjchaaFlOnceMath
namespace Go.Proofs.Ytialmaapahjchaa
open Go.RowKit Go.Shelf
attribute [local go_sem] Oper.semAt_some
set_option linter.unusedVariables false
set_option linter.unusedSimpArgs false

theorem frozen_of_row {w : World} {M : Nat} {cur : Array Value} {t : TypeId} (h : w.heap[M]? = some (.cells cur t (0, 0))) (j : Nat) : w.frozen? ⟨M, j, none⟩ = false := by simp [World.frozen?, h]
theorem index_met (M n : Nat) (h : n < 200) : ∀ W : World, (Instr.indexAt 49 (.pointer (some ⟨M, 0, none⟩)) (.int .u32 (n : Int))).run Try.prog W = .ok (.pointer (some ⟨M, n, none⟩)) W := fun W => by
  have hi1 : (n : Int) < 200 := by omega
  go_simp
theorem once_set {F : Fl} {B M : Nat} {v : Value} {met : Nat → Bool} {w w6 : World} {n₀ : Nat} (n : Nat) (o : Obj) (hI : Fl.Is true F B v w6) (hM : w6.heap[M]? = some (.cells (metRow met) 49 (0, 0))) (hB : Below n₀ w w6) (hnM : n₀ ≤ M) (hnw : n₀ ≤ w.heap.size) :
    Fl.Is true F B v ((w6.setCell ⟨M, n, none⟩ (.bool true)).alloc o) ∧ ((w6.setCell ⟨M, n, none⟩ (.bool true)).alloc o).heap[M]? = some (.cells (metRow fun i => if i = n then true else met i) 49 (0, 0)) ∧ Below n₀ w ((w6.setCell ⟨M, n, none⟩ (.bool true)).alloc o) := by
  have hne : B ≠ M := fun e => by rw [← e, hI.row] at hM; simp [Fl.ty] at hM
  have hown : ∀ g, v.ownBlock = some g → g ≠ M := fun g hg e => by
    subst e
    obtain ⟨cur, hc⟩ := hI.own.typed g hg
    rw [hM] at hc; simp at hc
  have hI1 : Fl.Is true F B v (w6.setCell ⟨M, n, none⟩ (.bool true)) := ⟨(Below.heap_setCell _ _ _ B hne).trans hI.row, hI.own.keep (fun g hg => Below.heap_setCell _ _ _ g (hown g hg)), hI.ok⟩
  have hM1 := Fl.row_set hM n (.bool true)
  rw [metRow_set] at hM1
  have hz := (Below.refl _ (w6.setCell ⟨M, n, none⟩ (.bool true))).alloc (Nat.le_refl _) o
  have hB1 := hB.setCell (p := ⟨M, n, none⟩) hnM (.bool true)
  exact ⟨hI1.below hz, (hz.block M (Array.getElem?_eq_some_iff.1 hM1).1).trans hM1, hB1.trans (hz.mono (Nat.le_trans hnw hB1.size))⟩
set_option maxRecDepth 100000 in
set_option maxHeartbeats 8000000 in
theorem lawFlOnce (v0 : Value) (l : List Ac) (w : World) (hT : FlActs w v0 l) (hll : l.length ≤ maxLen) (hZ : ∀ x ∈ l, x.1 ≤ 2 ^ 63 - 1 ∧ x.2.1 ≤ 2 ^ 63 - 1 ∧ x.2.2.1 ≤ 2 ^ 63 - 1 ∧ x.2.2.2.2.size ≤ maxLen) : Calls Try.prog 5 #[v0] w fun e w' => e = .returned (.bool true) ∧ Below w.heap.size w w' := by
  obtain ⟨a, c, rfl⟩ := flacts_form hT
  obtain ⟨len, hlen⟩ : ∃ len, l.length = len := ⟨_, rfl⟩
  have HT := Lib.hid hT
  have HL := Lib.hid hlen
  have HZ := Lib.hid hZ
  rw [hlen] at hll ⊢
  have hzv := zero_bools
  clear hT hlen hZ
  go_enter Try.func5, Try.ntmps5
  go_wp2_with (first
    | (go_at_call 10; refine (lawShown5 _).mono ?_; rintro e w1 ⟨rfl, hb1⟩)
    | (go_at_call 11; refine (flNew _).mono ?_; rintro e w2 ⟨rfl, hI2, hb2⟩))
  have hn1 := hb1.size
  have hB2 : Below w.heap.size w w2 := hb1.trans (hb2.mono hn1)
  have hBM := hI2.lt
  have hI3 := hI2.below ((Below.refl _ w2).alloc (Nat.le_refl _) (.cells (metRow fun _ => false) 49))
  have hB3 := hB2.alloc hB2.size (.cells (metRow fun _ => false) 49)
  have hM3 := World.alloc_heap_new w2 (.cells (metRow fun _ => false) 49)
  obtain ⟨M, hMM⟩ : ∃ M, w2.heap.size = M := ⟨_, rfl⟩
  have hnM : w.heap.size ≤ M := by omega
  rw [hMM] at hM3 ⊢
  generalize w2.alloc (.cells (metRow fun _ => false) 49) = w3 at *
  clear hzv
  go_loopw [6, 7, 8, 9, 10, 11, 12] (fun la i _ _ _ _ _ W => ∃ (k : Nat) (F : Fl) (v : Value) (met : Nat → Bool), k ≤ len ∧ k ≤ 60 ∧ i = .int .i64 k ∧ la = .int .u32 (F.last.toNat : Int) ∧ Once F met k ∧ W.heap[M]? = some (.cells (metRow met) 49 (0, 0)) ∧ Fl.Is true F w1.heap.size v W ∧ Below w.heap.size w W) (fun _ i _ _ _ _ _ _ => 60 - (intOf i).toNat)
  case atStart => exact ⟨0, Fl.new, _, _, Nat.zero_le _, Nat.zero_le _, rfl, rfl, Once.start, hM3, hI3, hB3⟩
  case round =>
    clear hM3 hI3 hB3 hI2 hb2 hB2
    obtain ⟨k, F, v, met, hk, hk60, rfl, rfl, hO, hM, hI, hB⟩ := hrel
    by_cases hlt : k < len
    · by_cases h60 : k < 60
      · have hkl : k < l.length := by rw [HL.out]; exact hlt
        obtain ⟨ad, c', h0, hx⟩ := flacts_at HT.out k hkl
        simp only [Value.slice.injEq] at h0
        obtain ⟨rfl, -, rfl⟩ := h0
        have hzx := HZ.out l[k] (List.getElem_mem hkl)
        generalize l[k] = x at hx hzx
        obtain ⟨xd, xa, xb, xm, xs⟩ := x
        have hki : (k : Int) < (len : Int) := by omega
        have hki60 : (k : Int) < 60 := by omega
        obtain ⟨q0, q1, q2, q3, q4⟩ := hx wr hB
        dsimp only at q0 q1 q2 q3 q4
        have hbit := Lib.hid hzx.2.2.1
        obtain ⟨W0, hW0⟩ : ∃ W0, wr.alloc (.cells #[.int .i64 xd, .int .i64 xa, .int .i64 xb, .int .u32 (xm.toNat : Int), .string xs] 33) = W0 := ⟨_, rfl⟩
        have hb0 : Below wr.heap.size wr W0 := hW0 ▸ (Below.refl _ wr).alloc (Nat.le_refl _) _
        have hI0 := hI.below hb0
        have hM0 := (hb0.block M (Array.getElem?_eq_some_iff.1 hM).1).trans hM
        have hB0 := hB.trans (hb0.mono hB.size)
        have hX0 : W0.heap[wr.heap.size]? = some (.cells #[.int .i64 xd, .int .i64 xa, .int .i64 xb, .int .u32 (xm.toNat : Int), .string xs] 33 (0, 0)) := hW0 ▸ World.alloc_heap_new wr _
        obtain ⟨X, hXX⟩ : ∃ X, wr.heap.size = X := ⟨_, rfl⟩
        rw [hXX] at hX0
        have HX := Lib.hid (fun (W : World) (h : W.heap[X]? = some (.cells #[.int .i64 xd, .int .i64 xa, .int .i64 xb, .int .u32 (xm.toNat : Int), .string xs] 33 (0, 0))) => show W.cell? ⟨X, 0, none⟩ = some (.int .i64 xd) ∧ W.cell? ⟨X, 1, none⟩ = some (.int .i64 xa) ∧ W.cell? ⟨X, 2, none⟩ = some (.int .i64 xb) ∧ W.cell? ⟨X, 3, none⟩ = some (.int .u32 (xm.toNat : Int)) ∧ W.cell? ⟨X, 4, none⟩ = some (.string xs) from by simp [World.cell?, h])
        obtain ⟨p0, p1, p2, p3, p4⟩ := HX.out W0 hX0
        have hfew := hO.few
        have hnl := next_num F.last
        clear hx hzx hI hM hB hb0
        rcases u64_cases xd with hr | hr | hr | hr | hr | hr
        · by_cases hnode : Fl.node xa = true
          · obtain ⟨e1, e2, e3⟩ := send_yes (F := F) xa (hun xs) (by omega) hnode
            have HS := Lib.hid (fun (W : World) (hI : Fl.Is true F w1.heap.size v W) => flSend F _ v xa (hun xs) W hI (by have := hun_size xs; omega))
            rw [e1, e2, e3] at HS
            have HOL := Lib.hid (hO.lay h60 xa (hun xs))
            obtain ⟨nx, hnx⟩ : ∃ nx, F.last + 1 = nx := ⟨_, rfl⟩
            rw [hnx] at HS HOL hnl
            clear hnx
            clear e1 e2 e3 hnode
            go_wp2
            clear p0 p1 p2 p3 p4 q0 q1 q2 q3 q4
            replace hB0 := hB0.trans ((Below.refl _ W0).drew.mono hB0.size)
            replace hI0 := hI0.below (Below.refl _ W0).drew
            replace hM0 : W0.drew.heap[M]? = _ := hM0
            replace hX0 : W0.drew.heap[X]? = _ := hX0
            clear hW0
            go_region_held3 (fun W => W.cell? ⟨X, 0, none⟩ = some (.int .i64 xd) ∧ W.cell? ⟨X, 1, none⟩ = some (.int .i64 xa) ∧ W.cell? ⟨X, 2, none⟩ = some (.int .i64 xb) ∧ W.cell? ⟨X, 3, none⟩ = some (.int .u32 (xm.toNat : Int)) ∧ W.cell? ⟨X, 4, none⟩ = some (.string xs)) (first | exact HX.out _ hX0 | go_keep) (first
              | (go_at_call 22; refine (lawText5 _ _ _ _ _ _).mono ?_; rintro e w5 ⟨rfl, hb5⟩; replace hM0 := (hb5.block M (Array.getElem?_eq_some_iff.1 hM0).1).trans hM0; replace hX0 := (hb5.block X (Array.getElem?_eq_some_iff.1 hX0).1).trans hX0; replace hB0 := hB0.trans (hb5.mono hB0.size); replace hI0 := hI0.below hb5; clear hb5)
              | (go_at_call 17; refine (HS.out _ hI0).mono ?_; rintro e w6 ⟨rfl, hT6⟩; obtain ⟨v6, hI6, hb6⟩ := hT6.low hI0 (Nat.le_refl _); replace hM0 := hT6.block hI0 hM0 (by decide) (by decide); replace hX0 := hT6.block hI0 hX0 (by decide) (by decide); replace hB0 := hB0.trans (hb6.mono hn1)))
            all_goals
              go_wp2
              go_roundw
              case rel => exact ⟨k + 1, _, v6, met, by omega, by omega, by go_num, rfl, HOL.out, hM0, hI6, hB0⟩
              case measure => simp [intOf]; omega
          · obtain ⟨e1, e2, e3⟩ := send_no (F := F) xa (hun xs) hnode
            have HS := Lib.hid (fun (W : World) (hI : Fl.Is true F w1.heap.size v W) => flSend F _ v xa (hun xs) W hI (by have := hun_size xs; omega))
            rw [e1, e2, e3] at HS
            clear hnl
            clear e1 e2 e3 hnode
            go_wp2
            clear p0 p1 p2 p3 p4 q0 q1 q2 q3 q4
            replace hB0 := hB0.trans ((Below.refl _ W0).drew.mono hB0.size)
            replace hI0 := hI0.below (Below.refl _ W0).drew
            replace hM0 : W0.drew.heap[M]? = _ := hM0
            replace hX0 : W0.drew.heap[X]? = _ := hX0
            clear hW0
            go_region_held3 (fun W => W.cell? ⟨X, 0, none⟩ = some (.int .i64 xd) ∧ W.cell? ⟨X, 1, none⟩ = some (.int .i64 xa) ∧ W.cell? ⟨X, 2, none⟩ = some (.int .i64 xb) ∧ W.cell? ⟨X, 3, none⟩ = some (.int .u32 (xm.toNat : Int)) ∧ W.cell? ⟨X, 4, none⟩ = some (.string xs)) (first | exact HX.out _ hX0 | go_keep) (first
              | (go_at_call 22; refine (lawText5 _ _ _ _ _ _).mono ?_; rintro e w5 ⟨rfl, hb5⟩; replace hM0 := (hb5.block M (Array.getElem?_eq_some_iff.1 hM0).1).trans hM0; replace hX0 := (hb5.block X (Array.getElem?_eq_some_iff.1 hX0).1).trans hX0; replace hB0 := hB0.trans (hb5.mono hB0.size); replace hI0 := hI0.below hb5; clear hb5)
              | (go_at_call 17; refine (HS.out _ hI0).mono ?_; rintro e w6 ⟨rfl, hT6⟩; obtain ⟨v6, hI6, hb6⟩ := hT6.low hI0 (Nat.le_refl _); replace hM0 := hT6.block hI0 hM0 (by decide) (by decide); replace hX0 := hT6.block hI0 hX0 (by decide) (by decide); replace hB0 := hB0.trans (hb6.mono hn1)))
            all_goals
              go_wp2
              go_roundw
              case rel => exact ⟨k + 1, F, v6, met, by omega, by omega, by go_num, rfl, hO.same, hM0, hI6, hB0⟩
              case measure => simp [intOf]; omega
        · by_cases hnode : Fl.node xa = true
          · obtain ⟨e1, e2, e3⟩ := send_yes (F := F) xa (hun xs) (by omega) hnode
            have HS := Lib.hid (fun (W : World) (hI : Fl.Is true F w1.heap.size v W) => flSend F _ v xa (hun xs) W hI (by have := hun_size xs; omega))
            rw [e1, e2, e3] at HS
            have HOL := Lib.hid (hO.lay h60 xa (hun xs))
            obtain ⟨nx, hnx⟩ : ∃ nx, F.last + 1 = nx := ⟨_, rfl⟩
            rw [hnx] at HS HOL hnl
            clear hnx
            clear e1 e2 e3 hnode
            go_wp2
            clear p0 p1 p2 p3 p4 q0 q1 q2 q3 q4
            replace hB0 := hB0.trans ((Below.refl _ W0).drew.mono hB0.size)
            replace hI0 := hI0.below (Below.refl _ W0).drew
            replace hM0 : W0.drew.heap[M]? = _ := hM0
            replace hX0 : W0.drew.heap[X]? = _ := hX0
            clear hW0
            go_region_held3 (fun W => W.cell? ⟨X, 0, none⟩ = some (.int .i64 xd) ∧ W.cell? ⟨X, 1, none⟩ = some (.int .i64 xa) ∧ W.cell? ⟨X, 2, none⟩ = some (.int .i64 xb) ∧ W.cell? ⟨X, 3, none⟩ = some (.int .u32 (xm.toNat : Int)) ∧ W.cell? ⟨X, 4, none⟩ = some (.string xs)) (first | exact HX.out _ hX0 | go_keep) (first
              | (go_at_call 22; refine (lawText5 _ _ _ _ _ _).mono ?_; rintro e w5 ⟨rfl, hb5⟩; replace hM0 := (hb5.block M (Array.getElem?_eq_some_iff.1 hM0).1).trans hM0; replace hX0 := (hb5.block X (Array.getElem?_eq_some_iff.1 hX0).1).trans hX0; replace hB0 := hB0.trans (hb5.mono hB0.size); replace hI0 := hI0.below hb5; clear hb5)
              | (go_at_call 17; refine (HS.out _ hI0).mono ?_; rintro e w6 ⟨rfl, hT6⟩; obtain ⟨v6, hI6, hb6⟩ := hT6.low hI0 (Nat.le_refl _); replace hM0 := hT6.block hI0 hM0 (by decide) (by decide); replace hX0 := hT6.block hI0 hX0 (by decide) (by decide); replace hB0 := hB0.trans (hb6.mono hn1)))
            all_goals
              go_wp2
              go_roundw
              case rel => exact ⟨k + 1, _, v6, met, by omega, by omega, by go_num, rfl, HOL.out, hM0, hI6, hB0⟩
              case measure => simp [intOf]; omega
          · obtain ⟨e1, e2, e3⟩ := send_no (F := F) xa (hun xs) hnode
            have HS := Lib.hid (fun (W : World) (hI : Fl.Is true F w1.heap.size v W) => flSend F _ v xa (hun xs) W hI (by have := hun_size xs; omega))
            rw [e1, e2, e3] at HS
            clear hnl
            clear e1 e2 e3 hnode
            go_wp2
            clear p0 p1 p2 p3 p4 q0 q1 q2 q3 q4
            replace hB0 := hB0.trans ((Below.refl _ W0).drew.mono hB0.size)
            replace hI0 := hI0.below (Below.refl _ W0).drew
            replace hM0 : W0.drew.heap[M]? = _ := hM0
            replace hX0 : W0.drew.heap[X]? = _ := hX0
            clear hW0
            go_region_held3 (fun W => W.cell? ⟨X, 0, none⟩ = some (.int .i64 xd) ∧ W.cell? ⟨X, 1, none⟩ = some (.int .i64 xa) ∧ W.cell? ⟨X, 2, none⟩ = some (.int .i64 xb) ∧ W.cell? ⟨X, 3, none⟩ = some (.int .u32 (xm.toNat : Int)) ∧ W.cell? ⟨X, 4, none⟩ = some (.string xs)) (first | exact HX.out _ hX0 | go_keep) (first
              | (go_at_call 22; refine (lawText5 _ _ _ _ _ _).mono ?_; rintro e w5 ⟨rfl, hb5⟩; replace hM0 := (hb5.block M (Array.getElem?_eq_some_iff.1 hM0).1).trans hM0; replace hX0 := (hb5.block X (Array.getElem?_eq_some_iff.1 hX0).1).trans hX0; replace hB0 := hB0.trans (hb5.mono hB0.size); replace hI0 := hI0.below hb5; clear hb5)
              | (go_at_call 17; refine (HS.out _ hI0).mono ?_; rintro e w6 ⟨rfl, hT6⟩; obtain ⟨v6, hI6, hb6⟩ := hT6.low hI0 (Nat.le_refl _); replace hM0 := hT6.block hI0 hM0 (by decide) (by decide); replace hX0 := hT6.block hI0 hX0 (by decide) (by decide); replace hB0 := hB0.trans (hb6.mono hn1)))
            all_goals
              go_wp2
              go_roundw
              case rel => exact ⟨k + 1, F, v6, met, by omega, by omega, by go_num, rfl, hO.same, hM0, hI6, hB0⟩
              case measure => simp [intOf]; omega
        · clear hnl
          by_cases hp : F.place xa = true
          · obtain ⟨j, rfl, hj⟩ := Fl.place_iff.1 hp
            have HD := flTakeYes F _ v j W0 hI0 hj
            have hOt := Lib.hid (hO.take j hj)
            have h1 := hO.ids _ (List.getElem_mem hj)
            have h2 := hO.fresh _ (List.getElem_mem hj)
            have h3 := hO.last
            generalize hxx : F.notes[j] = x at *
            obtain ⟨ti, tt, ts⟩ := x
            dsimp only at h1 h2 hOt
            dsimp only [Nt.val] at HD
            obtain ⟨n, hnn⟩ : ∃ n, ti.toNat = n := ⟨_, rfl⟩
            have hg1 := metRow_get met n (by omega)
            rw [hnn] at h1 h2 hOt HD
            rw [h2] at hg1
            obtain ⟨la, hla⟩ : ∃ la, F.last.toNat = la := ⟨_, rfl⟩
            have HLA := Lib.hid hla
            rw [hla] at h1 h3 ⊢
            have hi1 : (n : Int) < 200 := by omega
            have hi2 : (n : Int) ≤ (la : Int) := by omega
            have hx1 : decide ((200 : Int) ≤ (n : Int)) = false := by simp; omega
            have hx2 : decide ((la : Int) < (n : Int)) = false := by simp; omega
            have hx3 : decide (la < n) = false := by simp; omega
            have hx4 : decide (200 ≤ n) = false := by simp; omega
            have hix := index_met M n (by omega)
            have HG := Lib.hid hg1
            have HM0 := Lib.hid hM0
            have HI0 := Lib.hid hI0
            have HJ := Lib.hid hj
            clear hi1 hi2 hp hxx hla h1 h2 h3 hg1 hM0 hX0 hO hj hnn p2 p3 p4 hfew
            go_wp2_with (go_at_call 18; refine HD.mono ?_; rintro e w6 ⟨rfl, hT6⟩; obtain ⟨v6, hI6, hb6⟩ := hT6.low hI0 (Nat.le_refl _); have hM6 := hT6.block hI0 HM0.out (by decide) (by decide); have hB6 := hB0.trans (hb6.mono hn1); have hw6 := hI6.lt; have c6 : w6.cell? ⟨M, n, none⟩ = some (.bool false) := ((cell_of_row _ M n _ _ (0, 0) hM6).trans HG.out); have z6 : w6.frozen? ⟨M, n, none⟩ = false := (frozen_of_row hM6 n); have hML : M < w6.heap.size := (Array.getElem?_eq_some_iff.1 hM6).1; have hMB : ¬ M = w6.heap.size := (by omega); have HI6 := Lib.hid hI6; have HM6 := Lib.hid hM6; clear hM6 hT6 hb6 hI6)
            obtain ⟨e1, e2, e3⟩ := once_set n (.cells #[.int .u32 (n : Int), .int .i64 tt, .string ts] 42) HI6.out HM6.out hB6 hnM (Nat.le_refl _)
            exact ⟨⟨k + 1, { F with notes := F.notes.eraseIdx j }, v6, _, by omega, by omega, by go_num, by rw [HLA.out], hOt.out, e2, e1, e3⟩, by simp [intOf]; omega⟩
          · have HD := flTake F _ v xa W0 hI0
            rw [show F.drop xa = F by simp [Fl.drop, hp], show F.checkE xa = 2 by simp [Fl.checkE, hp], show F.note xa = Nt.zero by simp [Fl.note, hp]] at HD
            change Calls _ _ _ _ (fun e w' => e = .returned (.tuple #[.agg #[.int .u32 0, .int .i64 0, .string ⟨#[]⟩], .int .i64 2]) ∧ _) at HD
            clear hp
            go_wp2_with (go_at_call 18; refine HD.mono ?_; rintro e w6 ⟨rfl, hT6⟩; obtain ⟨v6, hI6, hb6⟩ := hT6.low hI0 (Nat.le_refl _); have hM6 := hT6.block hI0 hM0 (by decide) (by decide); have hB6 := hB0.trans (hb6.mono hn1); have hw6 := hI6.lt)
            have hz := (Below.refl _ w6).alloc (Nat.le_refl _) (.cells #[.int .u32 0, .int .i64 0, .string ⟨#[]⟩] 42)
            exact ⟨⟨k + 1, F, v6, met, by omega, by omega, by go_num, rfl, hO.same, (hz.block M (Array.getElem?_eq_some_iff.1 hM6).1).trans hM6, hI6.below hz, hB6.trans (hz.mono hB6.size)⟩, by simp [intOf]; omega⟩
        · have HD := flDrop F _ v xa W0 hI0
          by_cases hp : F.place xa = true
          · obtain ⟨j, rfl, hj⟩ := Fl.place_iff.1 hp
            rw [show F.drop (j : Int) = { F with notes := F.notes.eraseIdx j } by simp [Fl.drop, hp]] at HD
            generalize F.checkE _ = ce at HD
            clear hp hnl
            go_wp2_with (go_at_call 20; refine HD.mono ?_; rintro e w6 ⟨rfl, hT6⟩; obtain ⟨v6, hI6, hb6⟩ := hT6.low hI0 (Nat.le_refl _); have hM6 := hT6.block hI0 hM0 (by decide) (by decide); have hB6 := hB0.trans (hb6.mono hn1))
            go_roundw
            case rel => exact ⟨k + 1, { F with notes := F.notes.eraseIdx j }, v6, met, by omega, by omega, by go_num, rfl, hO.drop j, hM6, hI6, hB6⟩
            case measure => simp [intOf]; omega
          · rw [show F.drop xa = F by simp [Fl.drop, hp]] at HD
            generalize F.checkE _ = ce at HD
            clear hp hnl
            go_wp2_with (go_at_call 20; refine HD.mono ?_; rintro e w6 ⟨rfl, hT6⟩; obtain ⟨v6, hI6, hb6⟩ := hT6.low hI0 (Nat.le_refl _); have hM6 := hT6.block hI0 hM0 (by decide) (by decide); have hB6 := hB0.trans (hb6.mono hn1))
            go_roundw
            case rel => exact ⟨k + 1, F, v6, met, by omega, by omega, by go_num, rfl, hO.same, hM6, hI6, hB6⟩
            case measure => simp [intOf]; omega
        · have HD := flCopy F _ v xa W0 hI0
          by_cases hp : F.place xa = true
          · obtain ⟨j, rfl, hj⟩ := Fl.place_iff.1 hp
            obtain ⟨e1, e2, e3⟩ := copy_yes (F := F) (j := j) (by omega) hj
            rw [e1, e2, e3] at HD
            have HOL := Lib.hid (hO.lay h60 F.notes[j].to F.notes[j].s)
            obtain ⟨nx, hnx⟩ : ∃ nx, F.last + 1 = nx := ⟨_, rfl⟩
            rw [hnx] at HD HOL hnl
            clear hnx
            clear hp e1 e2 e3
            go_wp2_with (go_at_call 19; refine HD.mono ?_; rintro e w6 ⟨rfl, hT6⟩; obtain ⟨v6, hI6, hb6⟩ := hT6.low hI0 (Nat.le_refl _); have hM6 := hT6.block hI0 hM0 (by decide) (by decide); have hB6 := hB0.trans (hb6.mono hn1))
            go_roundw
            case rel => exact ⟨k + 1, _, v6, met, by omega, by omega, by go_num, rfl, HOL.out, hM6, hI6, hB6⟩
            case measure => simp [intOf]; omega
          · obtain ⟨e1, e2, e3⟩ := copy_no hp
            rw [e1, e2, e3] at HD
            clear hnl
            clear hp e1 e2 e3
            go_wp2_with (go_at_call 19; refine HD.mono ?_; rintro e w6 ⟨rfl, hT6⟩; obtain ⟨v6, hI6, hb6⟩ := hT6.low hI0 (Nat.le_refl _); have hM6 := hT6.block hI0 hM0 (by decide) (by decide); have hB6 := hB0.trans (hb6.mono hn1))
            go_roundw
            case rel => exact ⟨k + 1, _, v6, met, by omega, by omega, by go_num, rfl, hO.same, hM6, hI6, hB6⟩
            case measure => simp [intOf]; omega
        · have HD := flHurt F _ v xa xb xm W0 hI0 hbit.out
          have hdisj : F.hurt xa xb xm = F ∨ ∃ (j : Nat) (hj : j < F.notes.length) (s : ByteArray), F.hurt xa xb xm = { F with notes := F.notes.set j { F.notes[j] with s := s } } := hurt_cases F xa xb xm
          generalize F.hurtE _ _ = ce at HD
          rcases hdisj with e1 | ⟨j, hj, s', e1⟩
          · rw [e1] at HD
            clear e1 hnl
            go_wp2_with (go_at_call 21; refine HD.mono ?_; rintro e w6 ⟨rfl, hT6⟩; obtain ⟨v6, hI6, hb6⟩ := hT6.low hI0 (Nat.le_refl _); have hM6 := hT6.block hI0 hM0 (by decide) (by decide); have hB6 := hB0.trans (hb6.mono hn1))
            go_roundw
            case rel => exact ⟨k + 1, F, v6, met, by omega, by omega, by go_num, rfl, hO.same, hM6, hI6, hB6⟩
            case measure => simp [intOf]; omega
          · rw [e1] at HD
            clear e1 hnl
            go_wp2_with (go_at_call 21; refine HD.mono ?_; rintro e w6 ⟨rfl, hT6⟩; obtain ⟨v6, hI6, hb6⟩ := hT6.low hI0 (Nat.le_refl _); have hM6 := hT6.block hI0 hM0 (by decide) (by decide); have hB6 := hB0.trans (hb6.mono hn1))
            go_roundw
            case rel => exact ⟨k + 1, { F with notes := F.notes.set j { F.notes[j] with s := s' } }, v6, met, by omega, by omega, by go_num, rfl, hO.hurt j hj s', hM6, hI6, hB6⟩
            case measure => simp [intOf]; omega
      · have hki : (k : Int) < (len : Int) := by omega
        have hki60 : ¬ (k : Int) < 60 := by omega
        go_wp2
        go_ret
        exact ⟨rfl, hB⟩
    · have hki : ¬ (k : Int) < (len : Int) := by omega
      go_wp2
      go_ret
      exact ⟨rfl, hB⟩
end Go.Proofs.Ytialmaapahjchaa
