/-
  The law BallotVotes: walked.
-/
import Derived.Test.YtigameebcicgpaaBtShown
import Derived.Deep.CutRange
import Derived.Deep.DeepCutAuto
namespace Go.Proofs.Ytigameebcicgpaa
open Go.RowKit Go.Shelf
attribute [local go_sem] Oper.semAt_some
set_option linter.unusedVariables false
set_option linter.unusedSimpArgs false

set_option maxRecDepth 100000 in
set_option maxHeartbeats 4000000 in
theorem lawVotes8 (p c : Nat) (s : ByteArray) (b : Nat) (u : ByteArray) (w : World) (hs : s.size ≤ maxLen) (hu : u.size ≤ maxLen) : Calls Try.prog 3 #[.agg #[.int .u64 (p : Int), .int .u64 (c : Int), .string s], .int .u64 (b : Int), .string u] w fun e w' => e = .returned (.bool true) ∧ Below w.heap.size w w' := by
  have hSz := cut41_size s
  have hUz := cut41_size u
  have H1 := Lib.hid (fun W => lawShown8 W)
  have HCS := Lib.hid (fun W => lawCut8 s hs W)
  have HCU := Lib.hid (fun W => lawCut8 u hu W)
  generalize cut41 s = S at *
  generalize cut41 u = U at *
  have HP := Lib.hid (fun W => btPromise ⟨p, c, S⟩ b (by dsimp only; omega) W)
  have HQ := Lib.hid (fun W => refPromise ⟨p, c, S⟩ b (by dsimp only; omega) W)
  have HC := Lib.hid (fun W => btCast ⟨p, c, S⟩ b U (by dsimp only; omega) (by omega) W)
  have HD := Lib.hid (fun W => refCast ⟨p, c, S⟩ b U (by dsimp only; omega) (by omega) W)
  have HR := Lib.hid (fun W => btRight ⟨p, c, S⟩ (by dsimp only; omega) W)
  have HZ := Lib.hid (fun W => refRight ⟨p, c, S⟩ (by dsimp only; omega) W)
  obtain ⟨pp, pc, ps, hpv⟩ : ∃ pp pc ps, Bt.promV ⟨p, c, S⟩ b = ⟨pp, pc, ps⟩ := ⟨_, _, _, rfl⟩
  obtain ⟨cp, cc, cs, hcv⟩ : ∃ cp cc cs, Bt.castV ⟨p, c, S⟩ b U = ⟨cp, cc, cs⟩ := ⟨_, _, _, rfl⟩
  rw [hpv] at HP HQ
  rw [hcv] at HC HD
  generalize Bt.promE ⟨p, c, S⟩ b = pe at *
  generalize Bt.castE ⟨p, c, S⟩ b U = ce at *
  generalize decide (Bt.Right ⟨p, c, S⟩) = rr at *
  unfold Vt.val at HP HQ HC HD HR HZ
  dsimp only at HP HQ HC HD HR HZ
  clear hpv hcv hSz hUz hs hu
  have hb0 : Below w.heap.size w (w.alloc (.cells #[.int .u64 (p : Int), .int .u64 (c : Int), .string s] 24)) := (Below.refl _ w).alloc (Nat.le_refl _) _
  have hr0 := World.alloc_heap_new w (.cells #[.int .u64 (p : Int), .int .u64 (c : Int), .string s] 24)
  go_enter Try.func3, Try.ntmps3
  go_upto_region 5 with (first
    | (go_at_call 10; refine (H1.out _).mono ?_; rintro e w1 ⟨rfl, hb1⟩; have hr1 := (hb1.block w.heap.size (by simp)).trans hr0; have hbA := hb0.trans (hb1.mono (by simp)); have hlt1 : w.heap.size < w1.heap.size := (Array.getElem?_eq_some_iff.1 hr1).1; have hf2 := row_thawed hr1 2; have x0 : w1.cell? ⟨w.heap.size, 0, none⟩ = some (.int .u64 (p : Int)) := cell_of hr1 rfl; have x1 : w1.cell? ⟨w.heap.size, 1, none⟩ = some (.int .u64 (c : Int)) := cell_of hr1 rfl; have x2 : w1.cell? ⟨w.heap.size, 2, none⟩ = some (.string s) := cell_of hr1 rfl)
    | (go_at_call 11; refine (HCS.out _).mono ?_; rintro e w8 ⟨rfl, rfl⟩; clear HCS)
    | (go_at_call 12; refine (HP.out _).mono ?_; rintro e w2 ⟨rfl, hb2⟩; have hr2 : w2.heap[w.heap.size]? = some (.cells #[.int .u64 (p : Int), .int .u64 (c : Int), .string S] 24 (0, 0)) := (hb2.block _ (by simpa using hlt1)).trans (row_setB hr1 2 (.string S)); have hbB : Below w.heap.size w w2 := (hbA.setCell (p := ⟨w.heap.size, 2, none⟩) (by simp) _).trans (hb2.mono (by simp; omega)); have hlt2 : w.heap.size < w2.heap.size := (Array.getElem?_eq_some_iff.1 hr2).1; clear HP x0 x1 x2; have hr2a := (Below.heap_alloc w2 (.cells #[.int .u64 (pp : Int), .int .u64 (pc : Int), .string ps] 24) w.heap.size hlt2).trans hr2; have x0 : (w2.alloc (.cells #[.int .u64 (pp : Int), .int .u64 (pc : Int), .string ps] 24)).cell? ⟨w.heap.size, 0, none⟩ = some (.int .u64 (p : Int)) := cell_of hr2a rfl; have x1 : (w2.alloc (.cells #[.int .u64 (pp : Int), .int .u64 (pc : Int), .string ps] 24)).cell? ⟨w.heap.size, 1, none⟩ = some (.int .u64 (c : Int)) := cell_of hr2a rfl; have x2 : (w2.alloc (.cells #[.int .u64 (pp : Int), .int .u64 (pc : Int), .string ps] 24)).cell? ⟨w.heap.size, 2, none⟩ = some (.string S) := cell_of hr2a rfl)
    | (go_at_call 13; refine (HQ.out _).mono ?_; rintro e w3 ⟨rfl, hb3⟩; have hr3 := (hb3.block _ (by simp; omega)).trans hr2a; have hq3 := (hb3.block w2.heap.size (by simp)).trans (World.alloc_heap_new w2 _); have hbC : Below w.heap.size w w3 := (hbB.alloc (by omega) _).trans (hb3.mono (by simp; omega)); clear HQ x0 x1 x2))
  have hlt3 : w.heap.size < w3.heap.size := (Array.getElem?_eq_some_iff.1 hr3).1
  have hlq3 : w2.heap.size < w3.heap.size := (Array.getElem?_eq_some_iff.1 hq3).1
  have hr4 := (Below.heap_alloc w3 (.cells #[.int .u64 (pp : Int), .int .u64 (pc : Int), .string ps] 24) w.heap.size hlt3).trans hr3
  have hq4 := (Below.heap_alloc w3 (.cells #[.int .u64 (pp : Int), .int .u64 (pc : Int), .string ps] 24) w2.heap.size hlq3).trans hq3
  have ht4 := World.alloc_heap_new w3 (.cells #[.int .u64 (pp : Int), .int .u64 (pc : Int), .string ps] 24)
  have hbD := hbC.alloc (Nat.le_of_lt hlt3) (.cells #[.int .u64 (pp : Int), .int .u64 (pc : Int), .string ps] 24)
  clear hb1 hb2 hb3 hr1 hr2 hr2a hr3 hq3 hbA hbB hbC hf2 hb0 hr0 hlt1
  obtain ⟨V, hV⟩ : ∃ V, w3.alloc (.cells #[.int .u64 (pp : Int), .int .u64 (pc : Int), .string ps] 24) = V := ⟨_, rfl⟩
  obtain ⟨G, hG⟩ : ∃ G, w2.heap.size = G := ⟨_, rfl⟩
  obtain ⟨T, hT⟩ : ∃ T, w3.heap.size = T := ⟨_, rfl⟩
  rw [hV] at hr4 hq4 ht4 hbD ⊢
  rw [hG] at hq4 ⊢
  rw [hT] at ht4 ⊢
  clear hV hG hT hlt3 hlq3 hlt2 w2 w3
  have hlv := (Array.getElem?_eq_some_iff.1 hr4).1
  have hlg := (Array.getElem?_eq_some_iff.1 hq4).1
  have hlt := (Array.getElem?_eq_some_iff.1 ht4).1
  go_cut [12, 13] from 33 to 40 (fun s12 s13 wx => ∃ X, s12 = .pointer (some ⟨X, 0, none⟩) ∧ s13 = .int .i64 ce ∧ wx.heap[X]? = some (.cells #[.int .u64 (cp : Int), .int .u64 (cc : Int), .string cs] 24 (0, 0)) ∧ Below V.heap.size V wx)
  case first =>
    have FS := Lib.hid (fun (W : World) (hb : Below V.heap.size V W) => show W.cell? ⟨w.heap.size, 0, none⟩ = some (.int .u64 (p : Int)) ∧ W.cell? ⟨w.heap.size, 1, none⟩ = some (.int .u64 (c : Int)) ∧ W.cell? ⟨w.heap.size, 2, none⟩ = some (.string S) from
      ⟨cell_of ((hb.block _ hlv).trans hr4) rfl, cell_of ((hb.block _ hlv).trans hr4) rfl, cell_of ((hb.block _ hlv).trans hr4) rfl⟩)
    have hS0 := FS.out _ (Below.refl _ V).drew
    have hNW : (V.alloc (.cells #[.int .u64 (0 : Int), .int .u64 (0 : Int), .string ⟨#[]⟩] 24)).drew.heap[V.heap.size]? = some (.cells #[.int .u64 (0 : Int), .int .u64 (0 : Int), .string ⟨#[]⟩] 24 (0, 0)) := World.alloc_heap_new V _
    go_region_held3 (fun W => W.cell? ⟨w.heap.size, 0, none⟩ = some (.int .u64 (p : Int)) ∧ W.cell? ⟨w.heap.size, 1, none⟩ = some (.int .u64 (c : Int)) ∧ W.cell? ⟨w.heap.size, 2, none⟩ = some (.string S)) (first | exact hS0 | exact hS1 | exact hS2 | exact FS.out _ (((Below.refl _ V).alloc (Nat.le_refl _) _).drew) | exact FS.out _ (hbN.alloc hbN.size _) | exact FS.out _ (((hbN.setCell (p := ⟨V.heap.size, 0, none⟩) (by simp) _).setCell (p := ⟨V.heap.size, 1, none⟩) (by simp) _).setCell (p := ⟨V.heap.size, 2, none⟩) (by simp) _) | go_keep) (first
      | (go_at_call 11; refine (HCU.out _).mono ?_; rintro e w8 ⟨rfl, rfl⟩)
      | (go_at_call 14; refine (HC.out V.drew).mono ?_; rintro e w9 ⟨rfl, hbx⟩; have hbN : Below V.heap.size V w9 := (Below.refl _ V).drew.trans (hbx.mono (Nat.le_refl _)); have hS1 := FS.out _ hbN)
      | (go_at_call 14; refine (HC.out (V.alloc _).drew).mono ?_; rintro e w9 ⟨rfl, hbx⟩; have hbN : Below V.heap.size V w9 := (((Below.refl _ V).alloc (Nat.le_refl _) _).drew).trans (hbx.mono (by simp)); have hS2 := FS.out _ hbN; have hnw := (hbx.block V.heap.size (by simp)).trans hNW; have z0 : w9.cell? ⟨V.heap.size, 0, none⟩ = some (.int .u64 0) := cell_of hnw rfl; have z1 : w9.cell? ⟨V.heap.size, 1, none⟩ = some (.int .u64 0) := cell_of hnw rfl; have z2 : w9.cell? ⟨V.heap.size, 2, none⟩ = some (.string ⟨#[]⟩) := cell_of hnw rfl; have f0 := row_thawed hnw 0; have f1 := row_thawed hnw 1; have f2 := row_thawed hnw 2))

    all_goals first
      | (go_wp2; go_meet; exact ⟨_, rfl, rfl, World.alloc_heap_new w9 _, hbN.alloc hbN.size _⟩)
      | (go_wp2; go_meet; exact ⟨_, rfl, rfl, row_setB (row_setB (row_setB hnw 0 (.int .u64 (cp : Int))) 1 (.int .u64 (cc : Int))) 2 (.string cs), ((hbN.setCell (p := ⟨V.heap.size, 0, none⟩) (by simp) _).setCell (p := ⟨V.heap.size, 1, none⟩) (by simp) _).setCell (p := ⟨V.heap.size, 2, none⟩) (by simp) _⟩)
      | (go_wp2; go_meet; trace_state; sorry)
  case rest =>
    obtain ⟨X, rfl, rfl, hx5, hb5⟩ := hcut
    have hr5 := (hb5.block _ hlv).trans hr4
    have hq5 := (hb5.block _ hlg).trans hq4
    have ht5 := (hb5.block _ hlt).trans ht4
    have hbE := hbD.trans (hb5.mono (by omega))
    clear hr4 hq4 ht4 hbD hb5 hlv hlg hlt
    have hlv := (Array.getElem?_eq_some_iff.1 hr5).1
    have hlg := (Array.getElem?_eq_some_iff.1 hq5).1
    have hlt := (Array.getElem?_eq_some_iff.1 ht5).1
    have hlx := (Array.getElem?_eq_some_iff.1 hx5).1
    clear HC
    go_upto_region 6 with fail
    obtain ⟨V2, hV2⟩ : ∃ V2, wc = V2 := ⟨_, rfl⟩
    rw [hV2] at hx5 hr5 hq5 ht5 hbE hlv hlg hlt hlx ⊢
    clear hV2
    go_cut [14, 15] from 41 to 48 (fun s14 s15 wx => ∃ Y, s14 = .pointer (some ⟨Y, 0, none⟩) ∧ s15 = .int .i64 ce ∧ wx.heap[Y]? = some (.cells #[.int .u64 (cp : Int), .int .u64 (cc : Int), .string cs] 24 (0, 0)) ∧ Below V2.heap.size V2 wx)
    case first =>
      have FS := Lib.hid (fun (W : World) (hb : Below V2.heap.size V2 W) => show W.cell? ⟨w.heap.size, 0, none⟩ = some (.int .u64 (p : Int)) ∧ W.cell? ⟨w.heap.size, 1, none⟩ = some (.int .u64 (c : Int)) ∧ W.cell? ⟨w.heap.size, 2, none⟩ = some (.string S) from
        ⟨cell_of ((hb.block _ hlv).trans hr5) rfl, cell_of ((hb.block _ hlv).trans hr5) rfl, cell_of ((hb.block _ hlv).trans hr5) rfl⟩)
      have hS0 := FS.out _ (Below.refl _ V2).drew
      have hNW : (V2.alloc (.cells #[.int .u64 (0 : Int), .int .u64 (0 : Int), .string ⟨#[]⟩] 24)).drew.heap[V2.heap.size]? = some (.cells #[.int .u64 (0 : Int), .int .u64 (0 : Int), .string ⟨#[]⟩] 24 (0, 0)) := World.alloc_heap_new V2 _
      go_region_held3 (fun W => W.cell? ⟨w.heap.size, 0, none⟩ = some (.int .u64 (p : Int)) ∧ W.cell? ⟨w.heap.size, 1, none⟩ = some (.int .u64 (c : Int)) ∧ W.cell? ⟨w.heap.size, 2, none⟩ = some (.string S)) (first | exact hS0 | exact hS1 | exact hS2 | exact FS.out _ (((Below.refl _ V2).alloc (Nat.le_refl _) _).drew) | exact FS.out _ (hbN.alloc hbN.size _) | exact FS.out _ (((hbN.setCell (p := ⟨V2.heap.size, 0, none⟩) (by simp) _).setCell (p := ⟨V2.heap.size, 1, none⟩) (by simp) _).setCell (p := ⟨V2.heap.size, 2, none⟩) (by simp) _) | go_keep) (first
        | (go_at_call 11; refine (HCU.out _).mono ?_; rintro e w8 ⟨rfl, rfl⟩)
        | (go_at_call 15; refine (HD.out V2.drew).mono ?_; rintro e w9 ⟨rfl, hbx⟩; have hbN : Below V2.heap.size V2 w9 := (Below.refl _ V2).drew.trans (hbx.mono (Nat.le_refl _)); have hS1 := FS.out _ hbN)
        | (go_at_call 15; refine (HD.out (V2.alloc _).drew).mono ?_; rintro e w9 ⟨rfl, hbx⟩; have hbN : Below V2.heap.size V2 w9 := (((Below.refl _ V2).alloc (Nat.le_refl _) _).drew).trans (hbx.mono (by simp)); have hS2 := FS.out _ hbN; have hnw := (hbx.block V2.heap.size (by simp)).trans hNW; have z0 : w9.cell? ⟨V2.heap.size, 0, none⟩ = some (.int .u64 0) := cell_of hnw rfl; have z1 : w9.cell? ⟨V2.heap.size, 1, none⟩ = some (.int .u64 0) := cell_of hnw rfl; have z2 : w9.cell? ⟨V2.heap.size, 2, none⟩ = some (.string ⟨#[]⟩) := cell_of hnw rfl; have f0 := row_thawed hnw 0; have f1 := row_thawed hnw 1; have f2 := row_thawed hnw 2))
      all_goals first
        | (go_wp2; go_meet; exact ⟨_, rfl, rfl, World.alloc_heap_new w9 _, hbN.alloc hbN.size _⟩)
        | (go_wp2; go_meet; exact ⟨_, rfl, rfl, row_setB (row_setB (row_setB hnw 0 (.int .u64 (cp : Int))) 1 (.int .u64 (cc : Int))) 2 (.string cs), ((hbN.setCell (p := ⟨V2.heap.size, 0, none⟩) (by simp) _).setCell (p := ⟨V2.heap.size, 1, none⟩) (by simp) _).setCell (p := ⟨V2.heap.size, 2, none⟩) (by simp) _⟩)
        | (go_wp2; go_meet; trace_state; sorry)
    case rest =>
      obtain ⟨Y, rfl, rfl, hy6, hb6⟩ := hcut
      have hr6 := (hb6.block _ hlv).trans hr5
      have hq6 := (hb6.block _ hlg).trans hq5
      have ht6 := (hb6.block _ hlt).trans ht5
      have hx6 := (hb6.block _ hlx).trans hx5
      have hbF := hbE.trans (hb6.mono (by omega))
      clear hr5 hq5 ht5 hx5 hbE hb6 hlv hlg hlt hlx HD
      have hlv := (Array.getElem?_eq_some_iff.1 hr6).1
      have hlg := (Array.getElem?_eq_some_iff.1 hq6).1
      have hlt := (Array.getElem?_eq_some_iff.1 ht6).1
      have hlx := (Array.getElem?_eq_some_iff.1 hx6).1
      have hly := (Array.getElem?_eq_some_iff.1 hy6).1
      go_upto_region 7 with fail
      obtain ⟨V3, hV3⟩ : ∃ V3, wc = V3 := ⟨_, rfl⟩
      rw [hV3] at hr6 hq6 ht6 hx6 hy6 hbF hlv hlg hlt hlx hly ⊢
      clear hV3
      have FS := Lib.hid (fun (W : World) (hb : Below V3.heap.size V3 W) => show W.cell? ⟨w.heap.size, 0, none⟩ = some (.int .u64 (p : Int)) ∧ W.cell? ⟨w.heap.size, 1, none⟩ = some (.int .u64 (c : Int)) ∧ W.cell? ⟨w.heap.size, 2, none⟩ = some (.string S) ∧ W.cell? ⟨G, 0, none⟩ = some (.int .u64 (pp : Int)) ∧ W.cell? ⟨G, 1, none⟩ = some (.int .u64 (pc : Int)) ∧ W.cell? ⟨G, 2, none⟩ = some (.string ps) ∧ W.cell? ⟨T, 0, none⟩ = some (.int .u64 (pp : Int)) ∧ W.cell? ⟨T, 1, none⟩ = some (.int .u64 (pc : Int)) ∧ W.cell? ⟨T, 2, none⟩ = some (.string ps) ∧ W.cell? ⟨X, 0, none⟩ = some (.int .u64 (cp : Int)) ∧ W.cell? ⟨X, 1, none⟩ = some (.int .u64 (cc : Int)) ∧ W.cell? ⟨X, 2, none⟩ = some (.string cs) ∧ W.cell? ⟨Y, 0, none⟩ = some (.int .u64 (cp : Int)) ∧ W.cell? ⟨Y, 1, none⟩ = some (.int .u64 (cc : Int)) ∧ W.cell? ⟨Y, 2, none⟩ = some (.string cs) from
        ⟨cell_of ((hb.block _ hlv).trans hr6) rfl, cell_of ((hb.block _ hlv).trans hr6) rfl, cell_of ((hb.block _ hlv).trans hr6) rfl, cell_of ((hb.block _ hlg).trans hq6) rfl, cell_of ((hb.block _ hlg).trans hq6) rfl, cell_of ((hb.block _ hlg).trans hq6) rfl, cell_of ((hb.block _ hlt).trans ht6) rfl, cell_of ((hb.block _ hlt).trans ht6) rfl, cell_of ((hb.block _ hlt).trans ht6) rfl, cell_of ((hb.block _ hlx).trans hx6) rfl, cell_of ((hb.block _ hlx).trans hx6) rfl, cell_of ((hb.block _ hlx).trans hx6) rfl, cell_of ((hb.block _ hly).trans hy6) rfl, cell_of ((hb.block _ hly).trans hy6) rfl, cell_of ((hb.block _ hly).trans hy6) rfl⟩)
      have hS0 := FS.out _ (Below.refl _ V3).drew
      go_region_held3 (fun W => W.cell? ⟨w.heap.size, 0, none⟩ = some (.int .u64 (p : Int)) ∧ W.cell? ⟨w.heap.size, 1, none⟩ = some (.int .u64 (c : Int)) ∧ W.cell? ⟨w.heap.size, 2, none⟩ = some (.string S) ∧ W.cell? ⟨G, 0, none⟩ = some (.int .u64 (pp : Int)) ∧ W.cell? ⟨G, 1, none⟩ = some (.int .u64 (pc : Int)) ∧ W.cell? ⟨G, 2, none⟩ = some (.string ps) ∧ W.cell? ⟨T, 0, none⟩ = some (.int .u64 (pp : Int)) ∧ W.cell? ⟨T, 1, none⟩ = some (.int .u64 (pc : Int)) ∧ W.cell? ⟨T, 2, none⟩ = some (.string ps) ∧ W.cell? ⟨X, 0, none⟩ = some (.int .u64 (cp : Int)) ∧ W.cell? ⟨X, 1, none⟩ = some (.int .u64 (cc : Int)) ∧ W.cell? ⟨X, 2, none⟩ = some (.string cs) ∧ W.cell? ⟨Y, 0, none⟩ = some (.int .u64 (cp : Int)) ∧ W.cell? ⟨Y, 1, none⟩ = some (.int .u64 (cc : Int)) ∧ W.cell? ⟨Y, 2, none⟩ = some (.string cs)) (first | exact hS0 | exact hS1 | exact hS2 | go_keep) (first
        | (go_at_call 16; refine (HR.out V3.drew).mono ?_; rintro e w8 ⟨rfl, hb8⟩; have hbM : Below V3.heap.size V3 w8 := (Below.refl _ V3).drew.trans hb8; have hS1 := FS.out _ hbM)
        | (go_at_call 17; refine (HZ.out V3.drew).mono ?_; rintro e w8 ⟨rfl, hb8⟩; have hbM : Below V3.heap.size V3 w8 := (Below.refl _ V3).drew.trans hb8; have hS1 := FS.out _ hbM)
        | (go_at_call 16; refine (HR.out w8).mono ?_; rintro e w9 ⟨rfl, hb9⟩; have hbN : Below V3.heap.size V3 w9 := hbM.trans (hb9.mono hbM.size); have hS2 := FS.out _ hbN)
        | (go_at_call 17; refine (HZ.out w8).mono ?_; rintro e w9 ⟨rfl, hb9⟩; have hbN : Below V3.heap.size V3 w9 := hbM.trans (hb9.mono hbM.size); have hS2 := FS.out _ hbN))
      all_goals
        go_wp2
        go_ret
        exact ⟨rfl, hbF.trans (hbN.mono (by omega))⟩
theorem lawVotes8W (p c : Nat) (s : ByteArray) (b : Int) (hb : (Lit.int .u64 b).wf = true) (u : ByteArray) (w : World) (hs : s.size ≤ maxLen) (hu : u.size ≤ maxLen) : Calls Try.prog 3 #[.agg #[.int .u64 (p : Int), .int .u64 (c : Int), .string s], .int .u64 b, .string u] w fun e w' => e = .returned (.bool true) ∧ Below w.heap.size w w' := by
  obtain ⟨n, rfl, _⟩ := u64_of_wf hb
  exact lawVotes8 p c s n u w hs hu
end Go.Proofs.Ytigameebcicgpaa
