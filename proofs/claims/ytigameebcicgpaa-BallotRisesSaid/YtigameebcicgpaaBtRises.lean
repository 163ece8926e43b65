/-
  The law BallotRises: walked (written by gen_btrises2.py).
-/
import Derived.Test.YtigameebcicgpaaBtShown
import Derived.Test.YtigameebcicgpaaDtU64s
import Derived.Test.YtigameebcicgpaaBtFlags
import Derived.Deep.CutRange
import Derived.Deep.DeepCutAuto
import Derived.OrdersHeld
namespace Go.Proofs.Ytigameebcicgpaa
open Go.RowKit Go.Shelf
attribute [local go_sem] Oper.semAt_some
set_option linter.unusedVariables false
set_option linter.unusedSimpArgs false

theorem flags_form {w : World} {v : Value} {l : List Bool} (h : FlagsA w v l) : ∃ a c, v = .slice a l.length c := by
  rcases h with ⟨rfl, rfl⟩ | ⟨a, c, rfl, _⟩
  · exact ⟨_, _, rfl⟩
  · exact ⟨_, _, rfl⟩
theorem flags_at {w : World} {v : Value} {l : List Bool} (h : FlagsA w v l) (k : Nat) (hk : k < l.length) : ∃ a c, v = .slice (some a) l.length c ∧ ∀ W, Below w.heap.size w W → W.cell? (a.add k) = some (.bool l[k]) := by
  rcases h with ⟨rfl, rfl⟩ | ⟨a, c, rfl, hx⟩
  · simp at hk
  · refine ⟨a, c, rfl, fun W hb => ?_⟩
    exact (hb.cell (by rw [add_block]; exact cell_block (hx k hk))).trans (hx k hk)
theorem prom_rises {v : Vt} (hv : Bt.Right v) (b : Nat) (he : Bt.promE v b = 0) : Bt.promV v b = ⟨b, v.bal, v.val'⟩ ∧ v.prom ≤ b ∧ v.bal ≤ b ∧ Bt.Right ⟨b, v.bal, v.val'⟩ := by
  have h : 1 ≤ b ∧ v.prom < b := by
    unfold Bt.promE at he
    split at he
    · rename_i hh
      split at he
      · cases he
      · exact ⟨hh.2, by omega⟩
    · cases he
  have h1 := hv.1
  refine ⟨by unfold Bt.promV; rw [if_pos he], by omega, by omega, ⟨show v.bal ≤ b by omega, hv.2⟩⟩
theorem cast_rises {v : Vt} (hv : Bt.Right v) (b : Nat) (s : ByteArray) (he : Bt.castE v b s = 0) : Bt.castV v b s = ⟨b, b, s⟩ ∧ v.prom ≤ b ∧ v.bal ≤ b ∧ Bt.Right ⟨b, b, s⟩ := by
  have h : 1 ≤ b ∧ v.prom ≤ b ∧ s.size ≤ 4000 := by
    unfold Bt.castE at he
    split at he
    · rename_i hh
      split at he
      · cases he
      · exact ⟨hh.2.1, by omega, hh.2.2⟩
    · cases he
  have h1 := hv.1
  refine ⟨by unfold Bt.castV; rw [if_pos he], h.2.1, by omega, ⟨Nat.le_refl _, .inl h.1, h.2.2⟩⟩
theorem promE_three (v : Vt) (b : Nat) : Bt.promE v b = 0 ∨ Bt.promE v b = 2 ∨ Bt.promE v b = 80 := by
  unfold Bt.promE
  split
  · split <;> simp
  · simp
theorem castE_three (v : Vt) (b : Nat) (s : ByteArray) : Bt.castE v b s = 0 ∨ Bt.castE v b s = 2 ∨ Bt.castE v b s = 80 := by
  unfold Bt.castE
  split
  · split <;> simp
  · simp
set_option maxRecDepth 100000 in
set_option maxHeartbeats 4000000 in
theorem lawRises8 (v0 v1 : Value) (l : List Nat) (fs : List Bool) (w : World) (hT : U64s w v0 l) (hF : FlagsA w v1 fs) (hll : l.length ≤ maxLen) (hfl : fs.length ≤ maxLen) : Calls Try.prog 6 #[v0, v1] w fun e w' => e = .returned (.bool true) ∧ Below w.heap.size w w' := by
  obtain ⟨a0, c0, rfl⟩ := u64s_form hT
  obtain ⟨a1, c1, rfl⟩ := flags_form hF
  obtain ⟨len, hlen⟩ : ∃ len, l.length = len := ⟨_, rfl⟩
  obtain ⟨fen, hfen⟩ : ∃ fen, fs.length = fen := ⟨_, rfl⟩
  have HT := Lib.hid hT
  have HF := Lib.hid hF
  have HL := Lib.hid hlen
  have HFN := Lib.hid hfen
  rw [hlen] at hll ⊢
  rw [hfen] at hfl ⊢
  clear hT hlen hF hfen
  unfold maxLen at hll hfl
  have H1 := Lib.hid (fun W => lawShown8 W)
  go_enter Try.func6, Try.ntmps6
  go_wp2_with (go_at_call 10; refine (H1.out _).mono ?_; rintro e w1 ⟨rfl, hb1⟩)
  have hs1 := hb1.size
  have hr1 := World.alloc_heap_new w1 (.cells #[.int .u64 0, .int .u64 0, .string ⟨#[]⟩] 24)
  have hbA := hb1.alloc hs1 (.cells #[.int .u64 0, .int .u64 0, .string ⟨#[]⟩] 24)
  go_loopw [7] (fun i wr => ∃ (k : Nat) (v : Vt), k ≤ len ∧ k ≤ 100 ∧ i = .int .i64 (k : Int) ∧ Bt.Right v ∧ wr.heap[w1.heap.size]? = some (.cells #[.int .u64 (v.prom : Int), .int .u64 (v.bal : Int), .string v.val'] 24 (0, 0)) ∧ Below w.heap.size w wr) (fun i _ => 100 - (intOf i).toNat)
  case atStart => exact ⟨0, Vt.zero, Nat.zero_le _, Nat.zero_le _, rfl, ⟨Nat.le_refl _, .inr rfl, Nat.zero_le _⟩, hr1, hbA⟩
  case round =>
    obtain ⟨k, v, hk, hk100, rfl, hv, hrw, hBW⟩ := hrel
    clear hr1 hbA hb1
    by_cases hlt : k < len
    · by_cases h100 : k < 100
      · have hkl : k < l.length := by rw [HL.out]; exact hlt
        obtain ⟨ad, c', e1, hx⟩ := u64s_at HT.out k hkl
        simp only [Value.slice.injEq] at e1
        obtain ⟨rfl, -, -⟩ := e1
        have hki : (k : Int) < (len : Int) := by omega
        have hki2 : (k : Int) < 100 := by omega
        have HX := Lib.hid hx
        clear hx
        generalize l[k] = b at *
        obtain ⟨p, c, s⟩ := v
        dsimp only at hrw
        have hlw : w1.heap.size < wr.heap.size := (Array.getElem?_eq_some_iff.1 hrw).1
        have x0 : wr.cell? ⟨w1.heap.size, 0, none⟩ = some (.int .u64 (p : Int)) := cell_of hrw rfl
        have x1 : wr.cell? ⟨w1.heap.size, 1, none⟩ = some (.int .u64 (c : Int)) := cell_of hrw rfl
        have x2 : wr.cell? ⟨w1.heap.size, 2, none⟩ = some (.string s) := cell_of hrw rfl
        have hvs := hv.2.2
        dsimp only at hvs
        have HPR := Lib.hid (fun W => btPromise ⟨p, c, s⟩ b (by dsimp only; omega) W)
        have HCA := Lib.hid (fun W => btCast ⟨p, c, s⟩ b ⟨#[118]⟩ (by dsimp only; omega) (by decide) W)
        have hbV := hBW.alloc hBW.size (.cells #[.int .u64 (p : Int), .int .u64 (c : Int), .string s] 24)
        have FS := Lib.hid (fun (W : World) (hb : Below wr.heap.size wr W) => show W.cell? ⟨w1.heap.size, 0, none⟩ = some (.int .u64 (p : Int)) ∧ W.cell? ⟨w1.heap.size, 1, none⟩ = some (.int .u64 (c : Int)) ∧ W.cell? ⟨w1.heap.size, 2, none⟩ = some (.string s) ∧ W.cell? (ad.add k) = some (.int .u64 (b : Int)) from
          ⟨(hb.cell (p := ⟨w1.heap.size, 0, none⟩) hlw).trans x0, (hb.cell (p := ⟨w1.heap.size, 1, none⟩) hlw).trans x1, (hb.cell (p := ⟨w1.heap.size, 2, none⟩) hlw).trans x2, HX.out W (hBW.trans (hb.mono hBW.size))⟩)
        unfold Vt.val at HPR HCA
        dsimp only at HPR HCA
        obtain ⟨pp, pc, ps, hpv⟩ : ∃ pp pc ps, Bt.promV ⟨p, c, s⟩ b = ⟨pp, pc, ps⟩ := ⟨_, _, _, rfl⟩
        obtain ⟨cp, cc, cs, hcv⟩ : ∃ cp cc cs, Bt.castV ⟨p, c, s⟩ b ⟨#[118]⟩ = ⟨cp, cc, cs⟩ := ⟨_, _, _, rfl⟩
        obtain ⟨pe, hpe⟩ : ∃ pe, Bt.promE ⟨p, c, s⟩ b = pe := ⟨_, rfl⟩
        obtain ⟨ce, hce⟩ : ∃ ce, Bt.castE ⟨p, c, s⟩ b ⟨#[118]⟩ = ce := ⟨_, rfl⟩
        have HPF := Lib.hid (show (pe = 0 → pp = b ∧ p ≤ b ∧ c ≤ pc ∧ Bt.Right ⟨pp, pc, ps⟩) ∧ (pe = 0 ∨ pe = 2 ∨ pe = 80) from ⟨fun h => by
          have h2 := prom_rises hv b (hpe.trans h)
          rw [hpv] at h2
          obtain ⟨h1, h2, h3, h4⟩ := h2
          cases h1
          exact ⟨rfl, h2, Nat.le_refl _, h4⟩, by rw [← hpe]; exact promE_three _ _⟩)
        have HCF := Lib.hid (show (ce = 0 → cp = b ∧ p ≤ b ∧ c ≤ cc ∧ Bt.Right ⟨cp, cc, cs⟩) ∧ (ce = 0 ∨ ce = 2 ∨ ce = 80) from ⟨fun h => by
          have h2 := cast_rises hv b ⟨#[118]⟩ (hce.trans h)
          rw [hcv] at h2
          obtain ⟨h1, h2, h3, h4⟩ := h2
          cases h1
          exact ⟨rfl, h2, h3, h4⟩, by rw [← hce]; exact castE_three _ _ _⟩)
        rw [hpv, hpe] at HPR
        rw [hcv, hce] at HCA
        clear hpv hcv hpe hce
        dsimp only at HPR HCA
        have HVR := Lib.hid hv
        clear hv hvs
        go_upto_region 7 with fail
        have hw0 := World.alloc_heap_new wr (.cells #[.int .u64 (p : Int), .int .u64 (c : Int), .string s] 24)
        have hr0 := (Below.heap_alloc wr (.cells #[.int .u64 (p : Int), .int .u64 (c : Int), .string s] 24) _ hlw).trans hrw
        have hbwr : Below wr.heap.size wr (wr.alloc (.cells #[.int .u64 (p : Int), .int .u64 (c : Int), .string s] 24)) := (Below.refl _ wr).alloc (Nat.le_refl _) _
        obtain ⟨V, hV⟩ : ∃ V, wr.alloc (.cells #[.int .u64 (p : Int), .int .u64 (c : Int), .string s] 24) = V := ⟨_, rfl⟩
        rw [hV] at hw0 hr0 hbV hbwr ⊢
        clear hV
        have FS0 := FS
        clear FS
        have hlr0 := (Array.getElem?_eq_some_iff.1 hr0).1
        have hlw0 := (Array.getElem?_eq_some_iff.1 hw0).1
        have FS := Lib.hid (fun (W : World) (hb : Below V.heap.size V W) => FS0.out W (hbwr.trans (hb.mono hbwr.size)))
        go_cut [9, 10] from 13 to 91 (fun s9 s10 wx => ∃ X, s9 = .pointer (some ⟨X, 0, none⟩) ∧ s10 = .int .i64 pe ∧ wx.heap[X]? = some (.cells #[.int .u64 (pp : Int), .int .u64 (pc : Int), .string ps] 24 (0, 0)) ∧ Below V.heap.size V wx ∧ V.heap.size ≤ X)
        case first =>
          have hS0 := FS.out _ (Below.refl _ V).drew
          have hNW : (V.alloc (.cells #[.int .u64 (0 : Int), .int .u64 (0 : Int), .string ⟨#[]⟩] 24)).drew.heap[V.heap.size]? = some (.cells #[.int .u64 (0 : Int), .int .u64 (0 : Int), .string ⟨#[]⟩] 24 (0, 0)) := World.alloc_heap_new V _
          go_region_held3 (fun W => W.cell? ⟨w1.heap.size, 0, none⟩ = some (.int .u64 (p : Int)) ∧ W.cell? ⟨w1.heap.size, 1, none⟩ = some (.int .u64 (c : Int)) ∧ W.cell? ⟨w1.heap.size, 2, none⟩ = some (.string s) ∧ W.cell? (ad.add k) = some (.int .u64 (b : Int))) (first | exact hS0 | exact hS1 | exact hS2 | exact FS.out _ (((Below.refl _ V).alloc (Nat.le_refl _) _).drew) | exact FS.out _ (hbN.alloc hbN.size _) | exact FS.out _ (((hbN.setCell (p := ⟨V.heap.size, 0, none⟩) (by simp) _).setCell (p := ⟨V.heap.size, 1, none⟩) (by simp) _).setCell (p := ⟨V.heap.size, 2, none⟩) (by simp) _) | go_keep) (first
            | (go_at_call 12; refine (HPR.out V.drew).mono ?_; rintro e w9 ⟨rfl, hbx⟩; have hbN : Below V.heap.size V w9 := (Below.refl _ V).drew.trans (hbx.mono (Nat.le_refl _)); have hS1 := FS.out _ hbN)
            | (go_at_call 12; refine (HPR.out (V.alloc _).drew).mono ?_; rintro e w9 ⟨rfl, hbx⟩; have hbN : Below V.heap.size V w9 := (((Below.refl _ V).alloc (Nat.le_refl _) _).drew).trans (hbx.mono (by simp)); have hS2 := FS.out _ hbN; have hnw := (hbx.block V.heap.size (by simp)).trans hNW; have z0 : w9.cell? ⟨V.heap.size, 0, none⟩ = some (.int .u64 0) := cell_of hnw rfl; have z1 : w9.cell? ⟨V.heap.size, 1, none⟩ = some (.int .u64 0) := cell_of hnw rfl; have z2 : w9.cell? ⟨V.heap.size, 2, none⟩ = some (.string ⟨#[]⟩) := cell_of hnw rfl; have f0 := row_thawed hnw 0; have f1 := row_thawed hnw 1; have f2 := row_thawed hnw 2))
          all_goals first
            | (go_wp2; go_meet; exact ⟨_, rfl, rfl, World.alloc_heap_new w9 _, hbN.alloc hbN.size _, hbN.size⟩)
            | (go_wp2; go_meet; exact ⟨_, rfl, rfl, row_setB (row_setB (row_setB hnw 0 (.int .u64 (pp : Int))) 1 (.int .u64 (pc : Int))) 2 (.string ps), ((hbN.setCell (p := ⟨V.heap.size, 0, none⟩) (by simp) _).setCell (p := ⟨V.heap.size, 1, none⟩) (by simp) _).setCell (p := ⟨V.heap.size, 2, none⟩) (by simp) _, Nat.le_refl _⟩)

        case rest =>
          clear HPR
          obtain ⟨X, rfl, rfl, hX, hB, hVX⟩ := hcut
          have hXl := (Array.getElem?_eq_some_iff.1 hX).1
          go_upto_region 8 with fail
          obtain ⟨V1, hV1⟩ : ∃ V1, wc = V1 := ⟨_, rfl⟩
          rw [hV1] at hX hB hXl ⊢
          clear hV1
          clear wc
          go_cut [42] from 13 to 91 (fun s42 wx => ∃ f : Bool, s42 = .bool f ∧ wx = V1)
          case first =>
            by_cases hkf : k < fen
            · have hkf' : k < fs.length := by rw [HFN.out]; exact hkf
              obtain ⟨ad1, c1', e1, hy⟩ := flags_at HF.out k hkf'
              simp only [Value.slice.injEq] at e1
              obtain ⟨rfl, -, -⟩ := e1
              have hyV : V1.cell? (ad1.add k) = some (.bool fs[k]) := hy V1 (hbV.trans (hB.mono hbV.size))
              have hkfi : (k : Int) < (fen : Int) := by omega
              have hkfd : decide ((k : Int) < (fen : Int)) = true := decide_eq_true hkfi
              generalize fs[k] = fl at *
              go_wp2
              go_meet
              exact ⟨fl, rfl, rfl⟩
            · have hkfd : decide ((k : Int) < (fen : Int)) = false := decide_eq_false (by omega)
              have hkfi : ¬ (k : Int) < (fen : Int) := by omega
              go_wp2
              go_meet
              exact ⟨false, rfl, rfl⟩
          case rest =>
            obtain ⟨f, rfl, hwc⟩ := hcut
            rw [hwc]
            clear hwc
            clear wc
            go_upto_if 42 with fail
            go_cut [10] from 13 to 91 (fun s10 wx => ∃ (up uc : Nat) (us : ByteArray) (ee : Int), s10 = .int .i64 ee ∧ wx.heap[X]? = some (.cells #[.int .u64 (up : Int), .int .u64 (uc : Int), .string us] 24 (0, 0)) ∧ Below V.heap.size V wx ∧ (ee = 0 → up = b ∧ p ≤ b ∧ c ≤ uc ∧ Bt.Right ⟨up, uc, us⟩) ∧ (ee = 0 ∨ ee = 2 ∨ ee = 80))
            case first =>
              cases f with
              | false =>
                go_wp2
                go_meet
                exact ⟨pp, pc, ps, pe, rfl, hX, hB, HPF.out.1, HPF.out.2⟩
              | true =>
                go_upto_region 9 with fail
                have hS0 := FS.out _ (hB.drew)
                have hx0 : V1.drew.heap[X]? = some (.cells #[.int .u64 (pp : Int), .int .u64 (pc : Int), .string ps] 24 (0, 0)) := hX
                go_region_held3 (fun W => W.cell? ⟨w1.heap.size, 0, none⟩ = some (.int .u64 (p : Int)) ∧ W.cell? ⟨w1.heap.size, 1, none⟩ = some (.int .u64 (c : Int)) ∧ W.cell? ⟨w1.heap.size, 2, none⟩ = some (.string s) ∧ W.cell? (ad.add k) = some (.int .u64 (b : Int))) (first | exact hS0 | exact hS1 | exact FS.out _ (((hbN.setCell (p := ⟨X, 0, none⟩) hVX _).setCell (p := ⟨X, 1, none⟩) hVX _).setCell (p := ⟨X, 2, none⟩) hVX _) | go_keep) (first
                  | (go_at_call 14; refine (HCA.out _).mono ?_; rintro e w9 ⟨rfl, hbx⟩; have hbN : Below V.heap.size V w9 := hB.drew.trans (hbx.mono hB.size); have hS1 := FS.out _ hbN; have hnw := (hbx.block X hXl).trans hx0; have z0 : w9.cell? ⟨X, 0, none⟩ = some (.int .u64 (pp : Int)) := cell_of hnw rfl; have z1 : w9.cell? ⟨X, 1, none⟩ = some (.int .u64 (pc : Int)) := cell_of hnw rfl; have z2 : w9.cell? ⟨X, 2, none⟩ = some (.string ps) := cell_of hnw rfl; have f0 := row_thawed hnw 0; have f1 := row_thawed hnw 1; have f2 := row_thawed hnw 2))
                all_goals
                  go_wp2
                  go_meet
                  exact ⟨cp, cc, cs, ce, rfl, row_setB (row_setB (row_setB hnw 0 (.int .u64 (cp : Int))) 1 (.int .u64 (cc : Int))) 2 (.string cs), ((hbN.setCell (p := ⟨X, 0, none⟩) hVX _).setCell (p := ⟨X, 1, none⟩) hVX _).setCell (p := ⟨X, 2, none⟩) hVX _, HCF.out.1, HCF.out.2⟩

            case rest =>
              clear HCA HPF HCF hX hB
              obtain ⟨up, uc, us, ee, rfl, hX, hB, hU, hE⟩ := hcut
              have hXl := (Array.getElem?_eq_some_iff.1 hX).1
              have HU := Lib.hid hU
              have hrw2 := (hB.block _ hlr0).trans hr0
              have hww2 := (hB.block _ hlw0).trans hw0
              have hbb2 := hbV.trans (hB.mono hbV.size)
              have hne : w1.heap.size ≠ wr.heap.size := by omega
              rcases hE with rfl | rfl | rfl
              · obtain ⟨hub, hpb, hcu, hrt⟩ := HU.out rfl
                rw [hub] at hX hrt
                have HRT := Lib.hid hrt
                have hcb := hrt.1
                dsimp only at hcb
                have y0 : wc.cell? ⟨X, 0, none⟩ = some (.int .u64 (b : Int)) := cell_of hX rfl
                have y1 : wc.cell? ⟨X, 1, none⟩ = some (.int .u64 (uc : Int)) := cell_of hX rfl
                have y2 : wc.cell? ⟨X, 2, none⟩ = some (.string us) := cell_of hX rfl
                have v0 : wc.cell? ⟨w1.heap.size, 0, none⟩ = some (.int .u64 (p : Int)) := cell_of hrw2 rfl
                have v1 : wc.cell? ⟨w1.heap.size, 1, none⟩ = some (.int .u64 (c : Int)) := cell_of hrw2 rfl
                have v2 : wc.cell? ⟨w1.heap.size, 2, none⟩ = some (.string s) := cell_of hrw2 rfl
                have g0 := row_thawed hrw2 0
                have g1 := row_thawed hrw2 1
                have g2 := row_thawed hrw2 2
                have d0 : decide ((b : Int) < (p : Int)) = false := decide_eq_false (by omega)
                have d1 : decide ((uc : Int) < (c : Int)) = false := decide_eq_false (by omega)
                have d2 : decide ((b : Int) < (uc : Int)) = false := decide_eq_false (by omega)
                clear HU hU hrt
                go_upto_region 12 with fail
                have hr4 := row_setB (row_setB (row_setB hrw2 0 (.int .u64 (b : Int))) 1 (.int .u64 (uc : Int))) 2 (.string us)
                have hw4 := (Below.heap_setCell ((wc.setCell ⟨w1.heap.size, 0, none⟩ (.int .u64 (b : Int))).setCell ⟨w1.heap.size, 1, none⟩ (.int .u64 (uc : Int))) ⟨w1.heap.size, 2, none⟩ (.string us) wr.heap.size (Ne.symm hne)).trans ((Below.heap_setCell (wc.setCell ⟨w1.heap.size, 0, none⟩ (.int .u64 (b : Int))) ⟨w1.heap.size, 1, none⟩ (.int .u64 (uc : Int)) wr.heap.size (Ne.symm hne)).trans ((Below.heap_setCell wc ⟨w1.heap.size, 0, none⟩ (.int .u64 (b : Int)) wr.heap.size (Ne.symm hne)).trans hww2))
                have hb4' := ((hbb2.setCell (p := ⟨w1.heap.size, 0, none⟩) hs1 (.int .u64 (b : Int))).setCell (p := ⟨w1.heap.size, 1, none⟩) hs1 (.int .u64 (uc : Int))).setCell (p := ⟨w1.heap.size, 2, none⟩) hs1 (.string us)
                obtain ⟨V4, hV4⟩ : ∃ V4, ((wc.setCell ⟨w1.heap.size, 0, none⟩ (.int .u64 (b : Int))).setCell ⟨w1.heap.size, 1, none⟩ (.int .u64 (uc : Int))).setCell ⟨w1.heap.size, 2, none⟩ (.string us) = V4 := ⟨_, rfl⟩
                rw [hV4] at hr4 hw4 hb4' ⊢
                clear hV4
                have hl4 := (Array.getElem?_eq_some_iff.1 hr4).1
                have hm4 := (Array.getElem?_eq_some_iff.1 hw4).1
                have HRR := Lib.hid (fun W => btRight ⟨b, uc, us⟩ (by have := HRT.out.2.2; dsimp only at this ⊢; omega) W)
                rw [decide_eq_true HRT.out] at HRR
                unfold Vt.val at HRR
                dsimp only at HRR
                have F12 := Lib.hid (fun (W : World) (hb : Below V4.heap.size V4 W) => show W.cell? ⟨w1.heap.size, 0, none⟩ = some (.int .u64 (b : Int)) ∧ W.cell? ⟨w1.heap.size, 1, none⟩ = some (.int .u64 (uc : Int)) ∧ W.cell? ⟨w1.heap.size, 2, none⟩ = some (.string us) ∧ W.cell? ⟨wr.heap.size, 0, none⟩ = some (.int .u64 (p : Int)) ∧ W.cell? ⟨wr.heap.size, 1, none⟩ = some (.int .u64 (c : Int)) ∧ W.cell? (ad.add k) = some (.int .u64 (b : Int)) from
                  ⟨cell_of ((hb.block _ hl4).trans hr4) rfl, cell_of ((hb.block _ hl4).trans hr4) rfl, cell_of ((hb.block _ hl4).trans hr4) rfl, cell_of ((hb.block _ hm4).trans hw4) rfl, cell_of ((hb.block _ hm4).trans hw4) rfl, HX.out W (hb4'.trans (hb.mono hb4'.size))⟩)
                have hS0 := F12.out _ (Below.refl _ V4).drew
                have hb4 : Below V4.heap.size V4 V4.drew := (Below.refl _ V4).drew
                refine wp_region_held_drew (S := fun W => W.cell? ⟨w1.heap.size, 0, none⟩ = some (.int .u64 (b : Int)) ∧ W.cell? ⟨w1.heap.size, 1, none⟩ = some (.int .u64 (uc : Int)) ∧ W.cell? ⟨w1.heap.size, 2, none⟩ = some (.string us) ∧ W.cell? ⟨wr.heap.size, 0, none⟩ = some (.int .u64 (p : Int)) ∧ W.cell? ⟨wr.heap.size, 1, none⟩ = some (.int .u64 (c : Int)) ∧ W.cell? (ad.add k) = some (.int .u64 (b : Int))) (by kernel_rfl) hS0 (fun _ => ?_)
                refine wpAnyH_take (i := 0) (v := .pointer (some ⟨w1.heap.size, 0, none⟩)) rfl (by kernel_rfl) (by kernel_rfl) (by kernel_rfl) (fun _ _ _ h => h) (Or.inl ⟨by kernel_rfl, fun W hW => by obtain ⟨x0, x1, x2, x3, x4, x5⟩ := hW; go_simp <;> assumption⟩) hS0 ?_
                try simp only [Act.put, List.setIfInBounds_toArray, List.set_cons_zero, List.set_cons_succ, List.getElem_toArray, List.getElem_cons_succ, List.getElem_cons_zero]
                refine wpAnyH_take (i := 1) (v := .int .u64 (b : Int)) rfl (by kernel_rfl) (by kernel_rfl) (by kernel_rfl) (fun _ _ _ h => h) (Or.inl ⟨by kernel_rfl, fun W hW => by obtain ⟨x0, x1, x2, x3, x4, x5⟩ := hW; go_simp <;> assumption⟩) hS0 ?_
                try simp only [Act.put, List.setIfInBounds_toArray, List.set_cons_zero, List.set_cons_succ, List.getElem_toArray, List.getElem_cons_succ, List.getElem_cons_zero]
                refine wpAnyH_take (i := 2) (v := .pointer (some ⟨wr.heap.size, 0, none⟩)) rfl (by kernel_rfl) (by kernel_rfl) (by kernel_rfl) (fun _ _ _ h => h) (Or.inl ⟨by kernel_rfl, fun W hW => by obtain ⟨x0, x1, x2, x3, x4, x5⟩ := hW; go_simp <;> assumption⟩) hS0 ?_
                try simp only [Act.put, List.setIfInBounds_toArray, List.set_cons_zero, List.set_cons_succ, List.getElem_toArray, List.getElem_cons_succ, List.getElem_cons_zero]
                refine wpAnyH_take (i := 3) (v := .int .u64 (p : Int)) rfl (by kernel_rfl) (by kernel_rfl) (by kernel_rfl) (fun _ _ _ h => h) (Or.inl ⟨by kernel_rfl, fun W hW => by obtain ⟨x0, x1, x2, x3, x4, x5⟩ := hW; go_simp <;> assumption⟩) hS0 ?_
                try simp only [Act.put, List.setIfInBounds_toArray, List.set_cons_zero, List.set_cons_succ, List.getElem_toArray, List.getElem_cons_succ, List.getElem_cons_zero]
                refine wpAnyH_take (i := 4) (v := .bool false) rfl (by kernel_rfl) (by kernel_rfl) (by kernel_rfl) (fun _ _ _ h => h) (Or.inl ⟨by kernel_rfl, fun W hW => by obtain ⟨x0, x1, x2, x3, x4, x5⟩ := hW; go_simp <;> assumption⟩) hS0 ?_
                try simp only [Act.put, List.setIfInBounds_toArray, List.set_cons_zero, List.set_cons_succ, List.getElem_toArray, List.getElem_cons_succ, List.getElem_cons_zero]
                refine wpAnyH_take (i := 5) (v := .bool false) rfl (by kernel_rfl) (by kernel_rfl) (by kernel_rfl) (fun _ _ _ h => h) (Or.inl ⟨by kernel_rfl, fun W hW => by obtain ⟨x0, x1, x2, x3, x4, x5⟩ := hW; go_simp <;> assumption⟩) hS0 ?_
                try simp only [Act.put, List.setIfInBounds_toArray, List.set_cons_zero, List.set_cons_succ, List.getElem_toArray, List.getElem_cons_succ, List.getElem_cons_zero]
                refine wpAnyH_take (i := 6) (v := .pointer (some ⟨w1.heap.size, 1, none⟩)) rfl (by kernel_rfl) (by kernel_rfl) (by kernel_rfl) (fun _ _ _ h => h) (Or.inl ⟨by kernel_rfl, fun W hW => by obtain ⟨x0, x1, x2, x3, x4, x5⟩ := hW; go_simp <;> assumption⟩) hS0 ?_
                try simp only [Act.put, List.setIfInBounds_toArray, List.set_cons_zero, List.set_cons_succ, List.getElem_toArray, List.getElem_cons_succ, List.getElem_cons_zero]
                refine wpAnyH_take (i := 7) (v := .int .u64 (uc : Int)) rfl (by kernel_rfl) (by kernel_rfl) (by kernel_rfl) (fun _ _ _ h => h) (Or.inl ⟨by kernel_rfl, fun W hW => by obtain ⟨x0, x1, x2, x3, x4, x5⟩ := hW; go_simp <;> assumption⟩) hS0 ?_
                try simp only [Act.put, List.setIfInBounds_toArray, List.set_cons_zero, List.set_cons_succ, List.getElem_toArray, List.getElem_cons_succ, List.getElem_cons_zero]
                refine wpAnyH_take (i := 8) (v := .pointer (some ⟨wr.heap.size, 1, none⟩)) rfl (by kernel_rfl) (by kernel_rfl) (by kernel_rfl) (fun _ _ _ h => h) (Or.inl ⟨by kernel_rfl, fun W hW => by obtain ⟨x0, x1, x2, x3, x4, x5⟩ := hW; go_simp <;> assumption⟩) hS0 ?_
                try simp only [Act.put, List.setIfInBounds_toArray, List.set_cons_zero, List.set_cons_succ, List.getElem_toArray, List.getElem_cons_succ, List.getElem_cons_zero]
                refine wpAnyH_take (i := 9) (v := .int .u64 (c : Int)) rfl (by kernel_rfl) (by kernel_rfl) (by kernel_rfl) (fun _ _ _ h => h) (Or.inl ⟨by kernel_rfl, fun W hW => by obtain ⟨x0, x1, x2, x3, x4, x5⟩ := hW; go_simp <;> assumption⟩) hS0 ?_
                try simp only [Act.put, List.setIfInBounds_toArray, List.set_cons_zero, List.set_cons_succ, List.getElem_toArray, List.getElem_cons_succ, List.getElem_cons_zero]
                refine wpAnyH_take (i := 10) (v := .bool false) rfl (by kernel_rfl) (by kernel_rfl) (by kernel_rfl) (fun _ _ _ h => h) (Or.inl ⟨by kernel_rfl, fun W hW => by obtain ⟨x0, x1, x2, x3, x4, x5⟩ := hW; go_simp <;> assumption⟩) hS0 ?_
                try simp only [Act.put, List.setIfInBounds_toArray, List.set_cons_zero, List.set_cons_succ, List.getElem_toArray, List.getElem_cons_succ, List.getElem_cons_zero]
                refine wpAnyH_take (i := 11) (v := .bool false) rfl (by kernel_rfl) (by kernel_rfl) (by kernel_rfl) (fun _ _ _ h => h) (Or.inl ⟨by kernel_rfl, fun W hW => by obtain ⟨x0, x1, x2, x3, x4, x5⟩ := hW; go_simp <;> assumption⟩) hS0 ?_
                try simp only [Act.put, List.setIfInBounds_toArray, List.set_cons_zero, List.set_cons_succ, List.getElem_toArray, List.getElem_cons_succ, List.getElem_cons_zero]
                refine wpAnyH_take (i := 12) (v := .bool false) rfl (by kernel_rfl) (by kernel_rfl) (by kernel_rfl) (fun _ _ _ h => h) (Or.inl ⟨by kernel_rfl, fun W hW => by obtain ⟨x0, x1, x2, x3, x4, x5⟩ := hW; go_simp <;> assumption⟩) hS0 ?_
                try simp only [Act.put, List.setIfInBounds_toArray, List.set_cons_zero, List.set_cons_succ, List.getElem_toArray, List.getElem_cons_succ, List.getElem_cons_zero]
                refine wpAnyH_take (i := 13) (v := .pointer (some ⟨w1.heap.size, 1, none⟩)) rfl (by kernel_rfl) (by kernel_rfl) (by kernel_rfl) (fun _ _ _ h => h) (Or.inl ⟨by kernel_rfl, fun W hW => by obtain ⟨x0, x1, x2, x3, x4, x5⟩ := hW; go_simp <;> assumption⟩) hS0 ?_
                try simp only [Act.put, List.setIfInBounds_toArray, List.set_cons_zero, List.set_cons_succ, List.getElem_toArray, List.getElem_cons_succ, List.getElem_cons_zero]
                refine wpAnyH_take (i := 14) (v := .int .u64 (uc : Int)) rfl (by kernel_rfl) (by kernel_rfl) (by kernel_rfl) (fun _ _ _ h => h) (Or.inl ⟨by kernel_rfl, fun W hW => by obtain ⟨x0, x1, x2, x3, x4, x5⟩ := hW; go_simp <;> assumption⟩) hS0 ?_
                try simp only [Act.put, List.setIfInBounds_toArray, List.set_cons_zero, List.set_cons_succ, List.getElem_toArray, List.getElem_cons_succ, List.getElem_cons_zero]
                refine wpAnyH_take (i := 15) (v := .pointer (some ⟨w1.heap.size, 0, none⟩)) rfl (by kernel_rfl) (by kernel_rfl) (by kernel_rfl) (fun _ _ _ h => h) (Or.inl ⟨by kernel_rfl, fun W hW => by obtain ⟨x0, x1, x2, x3, x4, x5⟩ := hW; go_simp <;> assumption⟩) hS0 ?_
                try simp only [Act.put, List.setIfInBounds_toArray, List.set_cons_zero, List.set_cons_succ, List.getElem_toArray, List.getElem_cons_succ, List.getElem_cons_zero]
                refine wpAnyH_take (i := 16) (v := .int .u64 (b : Int)) rfl (by kernel_rfl) (by kernel_rfl) (by kernel_rfl) (fun _ _ _ h => h) (Or.inl ⟨by kernel_rfl, fun W hW => by obtain ⟨x0, x1, x2, x3, x4, x5⟩ := hW; go_simp <;> assumption⟩) hS0 ?_
                try simp only [Act.put, List.setIfInBounds_toArray, List.set_cons_zero, List.set_cons_succ, List.getElem_toArray, List.getElem_cons_succ, List.getElem_cons_zero]
                refine wpAnyH_take (i := 17) (v := .bool false) rfl (by kernel_rfl) (by kernel_rfl) (by kernel_rfl) (fun _ _ _ h => h) (Or.inl ⟨by kernel_rfl, fun W hW => by obtain ⟨x0, x1, x2, x3, x4, x5⟩ := hW; go_simp <;> assumption⟩) hS0 ?_
                try simp only [Act.put, List.setIfInBounds_toArray, List.set_cons_zero, List.set_cons_succ, List.getElem_toArray, List.getElem_cons_succ, List.getElem_cons_zero]
                refine wpAnyH_take (i := 18) (v := .bool false) rfl (by kernel_rfl) (by kernel_rfl) (by kernel_rfl) (fun _ _ _ h => h) (Or.inl ⟨by kernel_rfl, fun W hW => by obtain ⟨x0, x1, x2, x3, x4, x5⟩ := hW; go_simp <;> assumption⟩) hS0 ?_
                try simp only [Act.put, List.setIfInBounds_toArray, List.set_cons_zero, List.set_cons_succ, List.getElem_toArray, List.getElem_cons_succ, List.getElem_cons_zero]
                refine wpAnyH_take (i := 19) (v := .bool false) rfl (by kernel_rfl) (by kernel_rfl) (by kernel_rfl) (fun _ _ _ h => h) (Or.inl ⟨by kernel_rfl, fun W hW => by obtain ⟨x0, x1, x2, x3, x4, x5⟩ := hW; go_simp <;> assumption⟩) hS0 ?_
                try simp only [Act.put, List.setIfInBounds_toArray, List.set_cons_zero, List.set_cons_succ, List.getElem_toArray, List.getElem_cons_succ, List.getElem_cons_zero]
                refine wpAnyH_take (i := 20) (v := .agg #[.int .u64 (b : Int), .int .u64 (uc : Int), .string us]) rfl (by kernel_rfl) (by kernel_rfl) (by kernel_rfl) (fun _ _ _ h => h) (Or.inl ⟨by kernel_rfl, fun W hW => by obtain ⟨x0, x1, x2, x3, x4, x5⟩ := hW; go_simp <;> assumption⟩) hS0 ?_
                try simp only [Act.put, List.setIfInBounds_toArray, List.set_cons_zero, List.set_cons_succ, List.getElem_toArray, List.getElem_cons_succ, List.getElem_cons_zero]
                refine wpAnyH_ready (rs := [21]) (by kernel_rfl) (by simp) ?_
                refine AllReadyH.cons rfl (fun K hK => ?_) (AllReadyH.nil)
                go_simp
                go_at_call 16
                refine (HRR.out _).mono ?_
                rintro e w9 ⟨rfl, hbx⟩
                have hbN := hb4.trans hbx
                have hS1 := F12.out _ hbN
                go_simp
                refine hK.out _ _ hS1 (fun _ => ?_)
                clear hK K
                refine wpAnyH_take (i := 22) (v := .bool false) rfl (by kernel_rfl) (by kernel_rfl) (by kernel_rfl) (fun _ _ _ h => h) (Or.inl ⟨by kernel_rfl, fun W hW => by obtain ⟨x0, x1, x2, x3, x4, x5⟩ := hW; go_simp <;> assumption⟩) hS1 ?_
                try simp only [Act.put, List.setIfInBounds_toArray, List.set_cons_zero, List.set_cons_succ, List.getElem_toArray, List.getElem_cons_succ, List.getElem_cons_zero]
                refine wpAnyH_take (i := 23) (v := .bool false) rfl (by kernel_rfl) (by kernel_rfl) (by kernel_rfl) (fun _ _ _ h => h) (Or.inl ⟨by kernel_rfl, fun W hW => by obtain ⟨x0, x1, x2, x3, x4, x5⟩ := hW; go_simp <;> assumption⟩) hS1 ?_
                try simp only [Act.put, List.setIfInBounds_toArray, List.set_cons_zero, List.set_cons_succ, List.getElem_toArray, List.getElem_cons_succ, List.getElem_cons_zero]
                refine wpAnyH_take (i := 24) (v := .bool false) rfl (by kernel_rfl) (by kernel_rfl) (by kernel_rfl) (fun _ _ _ h => h) (Or.inl ⟨by kernel_rfl, fun W hW => by obtain ⟨x0, x1, x2, x3, x4, x5⟩ := hW; go_simp <;> assumption⟩) hS1 ?_
                try simp only [Act.put, List.setIfInBounds_toArray, List.set_cons_zero, List.set_cons_succ, List.getElem_toArray, List.getElem_cons_succ, List.getElem_cons_zero]
                refine wpAnyH_take (i := 25) (v := .int .i64 0) rfl (by kernel_rfl) (by kernel_rfl) (by kernel_rfl) (fun _ _ _ h => h) (Or.inl ⟨by kernel_rfl, fun W hW => by obtain ⟨x0, x1, x2, x3, x4, x5⟩ := hW; go_simp <;> assumption⟩) hS1 ?_
                try simp only [Act.put, List.setIfInBounds_toArray, List.set_cons_zero, List.set_cons_succ, List.getElem_toArray, List.getElem_cons_succ, List.getElem_cons_zero]
                refine wpAnyH_take (i := 26) (v := .bool true) rfl (by kernel_rfl) (by kernel_rfl) (by kernel_rfl) (fun _ _ _ h => h) (Or.inl ⟨by kernel_rfl, fun W hW => by obtain ⟨x0, x1, x2, x3, x4, x5⟩ := hW; go_simp <;> assumption⟩) hS1 ?_
                try simp only [Act.put, List.setIfInBounds_toArray, List.set_cons_zero, List.set_cons_succ, List.getElem_toArray, List.getElem_cons_succ, List.getElem_cons_zero]
                refine wpAnyH_take (i := 27) (v := .bool true) rfl (by kernel_rfl) (by kernel_rfl) (by kernel_rfl) (fun _ _ _ h => h) (Or.inl ⟨by kernel_rfl, fun W hW => by obtain ⟨x0, x1, x2, x3, x4, x5⟩ := hW; go_simp <;> assumption⟩) hS1 ?_
                try simp only [Act.put, List.setIfInBounds_toArray, List.set_cons_zero, List.set_cons_succ, List.getElem_toArray, List.getElem_cons_succ, List.getElem_cons_zero]
                refine wpAnyH_take (i := 28) (v := .pointer (some ⟨w1.heap.size, 0, none⟩)) rfl (by kernel_rfl) (by kernel_rfl) (by kernel_rfl) (fun _ _ _ h => h) (Or.inl ⟨by kernel_rfl, fun W hW => by obtain ⟨x0, x1, x2, x3, x4, x5⟩ := hW; go_simp <;> assumption⟩) hS1 ?_
                try simp only [Act.put, List.setIfInBounds_toArray, List.set_cons_zero, List.set_cons_succ, List.getElem_toArray, List.getElem_cons_succ, List.getElem_cons_zero]
                refine wpAnyH_take (i := 29) (v := .int .u64 (b : Int)) rfl (by kernel_rfl) (by kernel_rfl) (by kernel_rfl) (fun _ _ _ h => h) (Or.inl ⟨by kernel_rfl, fun W hW => by obtain ⟨x0, x1, x2, x3, x4, x5⟩ := hW; go_simp <;> assumption⟩) hS1 ?_
                try simp only [Act.put, List.setIfInBounds_toArray, List.set_cons_zero, List.set_cons_succ, List.getElem_toArray, List.getElem_cons_succ, List.getElem_cons_zero]
                refine wpAnyH_take (i := 30) (v := .slice (some ad) len c0) rfl (by kernel_rfl) (by kernel_rfl) (by kernel_rfl) (fun _ _ _ h => h) (Or.inl ⟨by kernel_rfl, fun W hW => by obtain ⟨x0, x1, x2, x3, x4, x5⟩ := hW; go_simp <;> assumption⟩) hS1 ?_
                try simp only [Act.put, List.setIfInBounds_toArray, List.set_cons_zero, List.set_cons_succ, List.getElem_toArray, List.getElem_cons_succ, List.getElem_cons_zero]
                refine wpAnyH_take (i := 31) (v := .int .i64 (k : Int)) rfl (by kernel_rfl) (by kernel_rfl) (by kernel_rfl) (fun _ _ _ h => h) (Or.inl ⟨by kernel_rfl, fun W hW => by obtain ⟨x0, x1, x2, x3, x4, x5⟩ := hW; go_simp <;> assumption⟩) hS1 ?_
                try simp only [Act.put, List.setIfInBounds_toArray, List.set_cons_zero, List.set_cons_succ, List.getElem_toArray, List.getElem_cons_succ, List.getElem_cons_zero]
                refine wpAnyH_take (i := 32) (v := .pointer (some (ad.add k))) rfl (by kernel_rfl) (by kernel_rfl) (by kernel_rfl) (fun _ _ _ h => h) (Or.inl ⟨by kernel_rfl, fun W hW => by obtain ⟨x0, x1, x2, x3, x4, x5⟩ := hW; go_simp <;> assumption⟩) hS1 ?_
                try simp only [Act.put, List.setIfInBounds_toArray, List.set_cons_zero, List.set_cons_succ, List.getElem_toArray, List.getElem_cons_succ, List.getElem_cons_zero]
                refine wpAnyH_take (i := 33) (v := .int .u64 (b : Int)) rfl (by kernel_rfl) (by kernel_rfl) (by kernel_rfl) (fun _ _ _ h => h) (Or.inl ⟨by kernel_rfl, fun W hW => by obtain ⟨x0, x1, x2, x3, x4, x5⟩ := hW; go_simp <;> assumption⟩) hS1 ?_
                try simp only [Act.put, List.setIfInBounds_toArray, List.set_cons_zero, List.set_cons_succ, List.getElem_toArray, List.getElem_cons_succ, List.getElem_cons_zero]
                refine wpAnyH_take (i := 34) (v := .bool false) rfl (by kernel_rfl) (by kernel_rfl) (by kernel_rfl) (fun _ _ _ h => h) (Or.inl ⟨by kernel_rfl, fun W hW => by obtain ⟨x0, x1, x2, x3, x4, x5⟩ := hW; go_simp <;> assumption⟩) hS1 ?_
                try simp only [Act.put, List.setIfInBounds_toArray, List.set_cons_zero, List.set_cons_succ, List.getElem_toArray, List.getElem_cons_succ, List.getElem_cons_zero]
                refine wpAnyH_take (i := 35) (v := .bool false) rfl (by kernel_rfl) (by kernel_rfl) (by kernel_rfl) (fun _ _ _ h => h) (Or.inl ⟨by kernel_rfl, fun W hW => by obtain ⟨x0, x1, x2, x3, x4, x5⟩ := hW; go_simp <;> assumption⟩) hS1 ?_
                try simp only [Act.put, List.setIfInBounds_toArray, List.set_cons_zero, List.set_cons_succ, List.getElem_toArray, List.getElem_cons_succ, List.getElem_cons_zero]
                refine wpAnyH_take (i := 36) (v := .bool false) rfl (by kernel_rfl) (by kernel_rfl) (by kernel_rfl) (fun _ _ _ h => h) (Or.inl ⟨by kernel_rfl, fun W hW => by obtain ⟨x0, x1, x2, x3, x4, x5⟩ := hW; go_simp <;> assumption⟩) hS1 ?_
                try simp only [Act.put, List.setIfInBounds_toArray, List.set_cons_zero, List.set_cons_succ, List.getElem_toArray, List.getElem_cons_succ, List.getElem_cons_zero]
                refine wpAnyH_done (by kernel_rfl) ?_ _
                go_wp2
                go_roundw
                case rel => exact ⟨k + 1, ⟨b, uc, us⟩, by omega, by omega, by go_num, HRT.out, (hbN.block _ hl4).trans hr4, hb4'.trans (hbN.mono hb4'.size)⟩
                case measure => simp [intOf]; omega

              · have HRT := HVR
                have hcp : c ≤ p := HVR.out.1
                have d2 : decide ((p : Int) < (c : Int)) = false := decide_eq_false (by have := HVR.out.1; dsimp only at this; omega)
                clear HU hU
                go_upto_region 12 with fail
                have hr4 := hrw2
                have hw4 := hww2
                have hb4' := hbb2
                obtain ⟨V4, hV4⟩ : ∃ V4, wc = V4 := ⟨_, rfl⟩
                rw [hV4] at hr4 hw4 hb4' ⊢
                clear hV4
                have hl4 := (Array.getElem?_eq_some_iff.1 hr4).1
                have hm4 := (Array.getElem?_eq_some_iff.1 hw4).1
                have HRR := Lib.hid (fun W => btRight ⟨p, c, s⟩ (by have := HRT.out.2.2; dsimp only at this ⊢; omega) W)
                rw [decide_eq_true HRT.out] at HRR
                unfold Vt.val at HRR
                dsimp only at HRR
                have F12 := Lib.hid (fun (W : World) (hb : Below V4.heap.size V4 W) => show W.cell? ⟨w1.heap.size, 0, none⟩ = some (.int .u64 (p : Int)) ∧ W.cell? ⟨w1.heap.size, 1, none⟩ = some (.int .u64 (c : Int)) ∧ W.cell? ⟨w1.heap.size, 2, none⟩ = some (.string s) ∧ W.cell? ⟨wr.heap.size, 0, none⟩ = some (.int .u64 (p : Int)) ∧ W.cell? ⟨wr.heap.size, 1, none⟩ = some (.int .u64 (c : Int)) ∧ W.cell? (ad.add k) = some (.int .u64 (b : Int)) from
                  ⟨cell_of ((hb.block _ hl4).trans hr4) rfl, cell_of ((hb.block _ hl4).trans hr4) rfl, cell_of ((hb.block _ hl4).trans hr4) rfl, cell_of ((hb.block _ hm4).trans hw4) rfl, cell_of ((hb.block _ hm4).trans hw4) rfl, HX.out W (hb4'.trans (hb.mono hb4'.size))⟩)
                have hS0 := F12.out _ (Below.refl _ V4).drew
                have hb4 : Below V4.heap.size V4 V4.drew := (Below.refl _ V4).drew
                refine wp_region_held_drew (S := fun W => W.cell? ⟨w1.heap.size, 0, none⟩ = some (.int .u64 (p : Int)) ∧ W.cell? ⟨w1.heap.size, 1, none⟩ = some (.int .u64 (c : Int)) ∧ W.cell? ⟨w1.heap.size, 2, none⟩ = some (.string s) ∧ W.cell? ⟨wr.heap.size, 0, none⟩ = some (.int .u64 (p : Int)) ∧ W.cell? ⟨wr.heap.size, 1, none⟩ = some (.int .u64 (c : Int)) ∧ W.cell? (ad.add k) = some (.int .u64 (b : Int))) (by kernel_rfl) hS0 (fun _ => ?_)
                refine wpAnyH_take (i := 0) (v := .pointer (some ⟨w1.heap.size, 0, none⟩)) rfl (by kernel_rfl) (by kernel_rfl) (by kernel_rfl) (fun _ _ _ h => h) (Or.inl ⟨by kernel_rfl, fun W hW => by obtain ⟨x0, x1, x2, x3, x4, x5⟩ := hW; go_simp <;> assumption⟩) hS0 ?_
                try simp only [Act.put, List.setIfInBounds_toArray, List.set_cons_zero, List.set_cons_succ, List.getElem_toArray, List.getElem_cons_succ, List.getElem_cons_zero]
                refine wpAnyH_take (i := 1) (v := .int .u64 (p : Int)) rfl (by kernel_rfl) (by kernel_rfl) (by kernel_rfl) (fun _ _ _ h => h) (Or.inl ⟨by kernel_rfl, fun W hW => by obtain ⟨x0, x1, x2, x3, x4, x5⟩ := hW; go_simp <;> assumption⟩) hS0 ?_
                try simp only [Act.put, List.setIfInBounds_toArray, List.set_cons_zero, List.set_cons_succ, List.getElem_toArray, List.getElem_cons_succ, List.getElem_cons_zero]
                refine wpAnyH_take (i := 2) (v := .pointer (some ⟨wr.heap.size, 0, none⟩)) rfl (by kernel_rfl) (by kernel_rfl) (by kernel_rfl) (fun _ _ _ h => h) (Or.inl ⟨by kernel_rfl, fun W hW => by obtain ⟨x0, x1, x2, x3, x4, x5⟩ := hW; go_simp <;> assumption⟩) hS0 ?_
                try simp only [Act.put, List.setIfInBounds_toArray, List.set_cons_zero, List.set_cons_succ, List.getElem_toArray, List.getElem_cons_succ, List.getElem_cons_zero]
                refine wpAnyH_take (i := 3) (v := .int .u64 (p : Int)) rfl (by kernel_rfl) (by kernel_rfl) (by kernel_rfl) (fun _ _ _ h => h) (Or.inl ⟨by kernel_rfl, fun W hW => by obtain ⟨x0, x1, x2, x3, x4, x5⟩ := hW; go_simp <;> assumption⟩) hS0 ?_
                try simp only [Act.put, List.setIfInBounds_toArray, List.set_cons_zero, List.set_cons_succ, List.getElem_toArray, List.getElem_cons_succ, List.getElem_cons_zero]
                refine wpAnyH_take (i := 4) (v := .bool false) rfl (by kernel_rfl) (by kernel_rfl) (by kernel_rfl) (fun _ _ _ h => h) (Or.inl ⟨by kernel_rfl, fun W hW => by obtain ⟨x0, x1, x2, x3, x4, x5⟩ := hW; go_simp <;> assumption⟩) hS0 ?_
                try simp only [Act.put, List.setIfInBounds_toArray, List.set_cons_zero, List.set_cons_succ, List.getElem_toArray, List.getElem_cons_succ, List.getElem_cons_zero]
                refine wpAnyH_take (i := 5) (v := .bool false) rfl (by kernel_rfl) (by kernel_rfl) (by kernel_rfl) (fun _ _ _ h => h) (Or.inl ⟨by kernel_rfl, fun W hW => by obtain ⟨x0, x1, x2, x3, x4, x5⟩ := hW; go_simp <;> assumption⟩) hS0 ?_
                try simp only [Act.put, List.setIfInBounds_toArray, List.set_cons_zero, List.set_cons_succ, List.getElem_toArray, List.getElem_cons_succ, List.getElem_cons_zero]
                refine wpAnyH_take (i := 6) (v := .pointer (some ⟨w1.heap.size, 1, none⟩)) rfl (by kernel_rfl) (by kernel_rfl) (by kernel_rfl) (fun _ _ _ h => h) (Or.inl ⟨by kernel_rfl, fun W hW => by obtain ⟨x0, x1, x2, x3, x4, x5⟩ := hW; go_simp <;> assumption⟩) hS0 ?_
                try simp only [Act.put, List.setIfInBounds_toArray, List.set_cons_zero, List.set_cons_succ, List.getElem_toArray, List.getElem_cons_succ, List.getElem_cons_zero]
                refine wpAnyH_take (i := 7) (v := .int .u64 (c : Int)) rfl (by kernel_rfl) (by kernel_rfl) (by kernel_rfl) (fun _ _ _ h => h) (Or.inl ⟨by kernel_rfl, fun W hW => by obtain ⟨x0, x1, x2, x3, x4, x5⟩ := hW; go_simp <;> assumption⟩) hS0 ?_
                try simp only [Act.put, List.setIfInBounds_toArray, List.set_cons_zero, List.set_cons_succ, List.getElem_toArray, List.getElem_cons_succ, List.getElem_cons_zero]
                refine wpAnyH_take (i := 8) (v := .pointer (some ⟨wr.heap.size, 1, none⟩)) rfl (by kernel_rfl) (by kernel_rfl) (by kernel_rfl) (fun _ _ _ h => h) (Or.inl ⟨by kernel_rfl, fun W hW => by obtain ⟨x0, x1, x2, x3, x4, x5⟩ := hW; go_simp <;> assumption⟩) hS0 ?_
                try simp only [Act.put, List.setIfInBounds_toArray, List.set_cons_zero, List.set_cons_succ, List.getElem_toArray, List.getElem_cons_succ, List.getElem_cons_zero]
                refine wpAnyH_take (i := 9) (v := .int .u64 (c : Int)) rfl (by kernel_rfl) (by kernel_rfl) (by kernel_rfl) (fun _ _ _ h => h) (Or.inl ⟨by kernel_rfl, fun W hW => by obtain ⟨x0, x1, x2, x3, x4, x5⟩ := hW; go_simp <;> assumption⟩) hS0 ?_
                try simp only [Act.put, List.setIfInBounds_toArray, List.set_cons_zero, List.set_cons_succ, List.getElem_toArray, List.getElem_cons_succ, List.getElem_cons_zero]
                refine wpAnyH_take (i := 10) (v := .bool false) rfl (by kernel_rfl) (by kernel_rfl) (by kernel_rfl) (fun _ _ _ h => h) (Or.inl ⟨by kernel_rfl, fun W hW => by obtain ⟨x0, x1, x2, x3, x4, x5⟩ := hW; go_simp <;> assumption⟩) hS0 ?_
                try simp only [Act.put, List.setIfInBounds_toArray, List.set_cons_zero, List.set_cons_succ, List.getElem_toArray, List.getElem_cons_succ, List.getElem_cons_zero]
                refine wpAnyH_take (i := 11) (v := .bool false) rfl (by kernel_rfl) (by kernel_rfl) (by kernel_rfl) (fun _ _ _ h => h) (Or.inl ⟨by kernel_rfl, fun W hW => by obtain ⟨x0, x1, x2, x3, x4, x5⟩ := hW; go_simp <;> assumption⟩) hS0 ?_
                try simp only [Act.put, List.setIfInBounds_toArray, List.set_cons_zero, List.set_cons_succ, List.getElem_toArray, List.getElem_cons_succ, List.getElem_cons_zero]
                refine wpAnyH_take (i := 12) (v := .bool false) rfl (by kernel_rfl) (by kernel_rfl) (by kernel_rfl) (fun _ _ _ h => h) (Or.inl ⟨by kernel_rfl, fun W hW => by obtain ⟨x0, x1, x2, x3, x4, x5⟩ := hW; go_simp <;> assumption⟩) hS0 ?_
                try simp only [Act.put, List.setIfInBounds_toArray, List.set_cons_zero, List.set_cons_succ, List.getElem_toArray, List.getElem_cons_succ, List.getElem_cons_zero]
                refine wpAnyH_take (i := 13) (v := .pointer (some ⟨w1.heap.size, 1, none⟩)) rfl (by kernel_rfl) (by kernel_rfl) (by kernel_rfl) (fun _ _ _ h => h) (Or.inl ⟨by kernel_rfl, fun W hW => by obtain ⟨x0, x1, x2, x3, x4, x5⟩ := hW; go_simp <;> assumption⟩) hS0 ?_
                try simp only [Act.put, List.setIfInBounds_toArray, List.set_cons_zero, List.set_cons_succ, List.getElem_toArray, List.getElem_cons_succ, List.getElem_cons_zero]
                refine wpAnyH_take (i := 14) (v := .int .u64 (c : Int)) rfl (by kernel_rfl) (by kernel_rfl) (by kernel_rfl) (fun _ _ _ h => h) (Or.inl ⟨by kernel_rfl, fun W hW => by obtain ⟨x0, x1, x2, x3, x4, x5⟩ := hW; go_simp <;> assumption⟩) hS0 ?_
                try simp only [Act.put, List.setIfInBounds_toArray, List.set_cons_zero, List.set_cons_succ, List.getElem_toArray, List.getElem_cons_succ, List.getElem_cons_zero]
                refine wpAnyH_take (i := 15) (v := .pointer (some ⟨w1.heap.size, 0, none⟩)) rfl (by kernel_rfl) (by kernel_rfl) (by kernel_rfl) (fun _ _ _ h => h) (Or.inl ⟨by kernel_rfl, fun W hW => by obtain ⟨x0, x1, x2, x3, x4, x5⟩ := hW; go_simp <;> assumption⟩) hS0 ?_
                try simp only [Act.put, List.setIfInBounds_toArray, List.set_cons_zero, List.set_cons_succ, List.getElem_toArray, List.getElem_cons_succ, List.getElem_cons_zero]
                refine wpAnyH_take (i := 16) (v := .int .u64 (p : Int)) rfl (by kernel_rfl) (by kernel_rfl) (by kernel_rfl) (fun _ _ _ h => h) (Or.inl ⟨by kernel_rfl, fun W hW => by obtain ⟨x0, x1, x2, x3, x4, x5⟩ := hW; go_simp <;> assumption⟩) hS0 ?_
                try simp only [Act.put, List.setIfInBounds_toArray, List.set_cons_zero, List.set_cons_succ, List.getElem_toArray, List.getElem_cons_succ, List.getElem_cons_zero]
                refine wpAnyH_take (i := 17) (v := .bool false) rfl (by kernel_rfl) (by kernel_rfl) (by kernel_rfl) (fun _ _ _ h => h) (Or.inl ⟨by kernel_rfl, fun W hW => by obtain ⟨x0, x1, x2, x3, x4, x5⟩ := hW; go_simp <;> assumption⟩) hS0 ?_
                try simp only [Act.put, List.setIfInBounds_toArray, List.set_cons_zero, List.set_cons_succ, List.getElem_toArray, List.getElem_cons_succ, List.getElem_cons_zero]
                refine wpAnyH_take (i := 18) (v := .bool false) rfl (by kernel_rfl) (by kernel_rfl) (by kernel_rfl) (fun _ _ _ h => h) (Or.inl ⟨by kernel_rfl, fun W hW => by obtain ⟨x0, x1, x2, x3, x4, x5⟩ := hW; go_simp <;> assumption⟩) hS0 ?_
                try simp only [Act.put, List.setIfInBounds_toArray, List.set_cons_zero, List.set_cons_succ, List.getElem_toArray, List.getElem_cons_succ, List.getElem_cons_zero]
                refine wpAnyH_take (i := 19) (v := .bool false) rfl (by kernel_rfl) (by kernel_rfl) (by kernel_rfl) (fun _ _ _ h => h) (Or.inl ⟨by kernel_rfl, fun W hW => by obtain ⟨x0, x1, x2, x3, x4, x5⟩ := hW; go_simp <;> assumption⟩) hS0 ?_
                try simp only [Act.put, List.setIfInBounds_toArray, List.set_cons_zero, List.set_cons_succ, List.getElem_toArray, List.getElem_cons_succ, List.getElem_cons_zero]
                refine wpAnyH_take (i := 20) (v := .agg #[.int .u64 (p : Int), .int .u64 (c : Int), .string s]) rfl (by kernel_rfl) (by kernel_rfl) (by kernel_rfl) (fun _ _ _ h => h) (Or.inl ⟨by kernel_rfl, fun W hW => by obtain ⟨x0, x1, x2, x3, x4, x5⟩ := hW; go_simp <;> assumption⟩) hS0 ?_
                try simp only [Act.put, List.setIfInBounds_toArray, List.set_cons_zero, List.set_cons_succ, List.getElem_toArray, List.getElem_cons_succ, List.getElem_cons_zero]
                refine wpAnyH_ready (rs := [21]) (by kernel_rfl) (by simp) ?_
                refine AllReadyH.cons rfl (fun K hK => ?_) (AllReadyH.nil)
                go_simp
                go_at_call 16
                refine (HRR.out _).mono ?_
                rintro e w9 ⟨rfl, hbx⟩
                have hbN := hb4.trans hbx
                have hS1 := F12.out _ hbN
                go_simp
                refine hK.out _ _ hS1 (fun _ => ?_)
                clear hK K
                refine wpAnyH_take (i := 22) (v := .bool false) rfl (by kernel_rfl) (by kernel_rfl) (by kernel_rfl) (fun _ _ _ h => h) (Or.inl ⟨by kernel_rfl, fun W hW => by obtain ⟨x0, x1, x2, x3, x4, x5⟩ := hW; go_simp <;> assumption⟩) hS1 ?_
                try simp only [Act.put, List.setIfInBounds_toArray, List.set_cons_zero, List.set_cons_succ, List.getElem_toArray, List.getElem_cons_succ, List.getElem_cons_zero]
                refine wpAnyH_take (i := 23) (v := .bool false) rfl (by kernel_rfl) (by kernel_rfl) (by kernel_rfl) (fun _ _ _ h => h) (Or.inl ⟨by kernel_rfl, fun W hW => by obtain ⟨x0, x1, x2, x3, x4, x5⟩ := hW; go_simp <;> assumption⟩) hS1 ?_
                try simp only [Act.put, List.setIfInBounds_toArray, List.set_cons_zero, List.set_cons_succ, List.getElem_toArray, List.getElem_cons_succ, List.getElem_cons_zero]
                refine wpAnyH_take (i := 24) (v := .bool false) rfl (by kernel_rfl) (by kernel_rfl) (by kernel_rfl) (fun _ _ _ h => h) (Or.inl ⟨by kernel_rfl, fun W hW => by obtain ⟨x0, x1, x2, x3, x4, x5⟩ := hW; go_simp <;> assumption⟩) hS1 ?_
                try simp only [Act.put, List.setIfInBounds_toArray, List.set_cons_zero, List.set_cons_succ, List.getElem_toArray, List.getElem_cons_succ, List.getElem_cons_zero]
                refine wpAnyH_take (i := 25) (v := .int .i64 2) rfl (by kernel_rfl) (by kernel_rfl) (by kernel_rfl) (fun _ _ _ h => h) (Or.inl ⟨by kernel_rfl, fun W hW => by obtain ⟨x0, x1, x2, x3, x4, x5⟩ := hW; go_simp <;> assumption⟩) hS1 ?_
                try simp only [Act.put, List.setIfInBounds_toArray, List.set_cons_zero, List.set_cons_succ, List.getElem_toArray, List.getElem_cons_succ, List.getElem_cons_zero]
                refine wpAnyH_take (i := 26) (v := .bool false) rfl (by kernel_rfl) (by kernel_rfl) (by kernel_rfl) (fun _ _ _ h => h) (Or.inl ⟨by kernel_rfl, fun W hW => by obtain ⟨x0, x1, x2, x3, x4, x5⟩ := hW; go_simp <;> assumption⟩) hS1 ?_
                try simp only [Act.put, List.setIfInBounds_toArray, List.set_cons_zero, List.set_cons_succ, List.getElem_toArray, List.getElem_cons_succ, List.getElem_cons_zero]
                refine wpAnyH_take (i := 27) (v := .bool false) rfl (by kernel_rfl) (by kernel_rfl) (by kernel_rfl) (fun _ _ _ h => h) (Or.inl ⟨by kernel_rfl, fun W hW => by obtain ⟨x0, x1, x2, x3, x4, x5⟩ := hW; go_simp <;> assumption⟩) hS1 ?_
                try simp only [Act.put, List.setIfInBounds_toArray, List.set_cons_zero, List.set_cons_succ, List.getElem_toArray, List.getElem_cons_succ, List.getElem_cons_zero]
                refine wpAnyH_take (i := 28) (v := undef) rfl (by kernel_rfl) (by kernel_rfl) (by kernel_rfl) (fun _ _ _ h => h) (Or.inr ⟨by kernel_rfl, rfl⟩) hS1 ?_
                try simp only [Act.put, List.setIfInBounds_toArray, List.set_cons_zero, List.set_cons_succ, List.getElem_toArray, List.getElem_cons_succ, List.getElem_cons_zero]
                refine wpAnyH_take (i := 29) (v := undef) rfl (by kernel_rfl) (by kernel_rfl) (by kernel_rfl) (fun _ _ _ h => h) (Or.inr ⟨by kernel_rfl, rfl⟩) hS1 ?_
                try simp only [Act.put, List.setIfInBounds_toArray, List.set_cons_zero, List.set_cons_succ, List.getElem_toArray, List.getElem_cons_succ, List.getElem_cons_zero]
                refine wpAnyH_take (i := 30) (v := undef) rfl (by kernel_rfl) (by kernel_rfl) (by kernel_rfl) (fun _ _ _ h => h) (Or.inr ⟨by kernel_rfl, rfl⟩) hS1 ?_
                try simp only [Act.put, List.setIfInBounds_toArray, List.set_cons_zero, List.set_cons_succ, List.getElem_toArray, List.getElem_cons_succ, List.getElem_cons_zero]
                refine wpAnyH_take (i := 31) (v := undef) rfl (by kernel_rfl) (by kernel_rfl) (by kernel_rfl) (fun _ _ _ h => h) (Or.inr ⟨by kernel_rfl, rfl⟩) hS1 ?_
                try simp only [Act.put, List.setIfInBounds_toArray, List.set_cons_zero, List.set_cons_succ, List.getElem_toArray, List.getElem_cons_succ, List.getElem_cons_zero]
                refine wpAnyH_take (i := 32) (v := undef) rfl (by kernel_rfl) (by kernel_rfl) (by kernel_rfl) (fun _ _ _ h => h) (Or.inr ⟨by kernel_rfl, rfl⟩) hS1 ?_
                try simp only [Act.put, List.setIfInBounds_toArray, List.set_cons_zero, List.set_cons_succ, List.getElem_toArray, List.getElem_cons_succ, List.getElem_cons_zero]
                refine wpAnyH_take (i := 33) (v := undef) rfl (by kernel_rfl) (by kernel_rfl) (by kernel_rfl) (fun _ _ _ h => h) (Or.inr ⟨by kernel_rfl, rfl⟩) hS1 ?_
                try simp only [Act.put, List.setIfInBounds_toArray, List.set_cons_zero, List.set_cons_succ, List.getElem_toArray, List.getElem_cons_succ, List.getElem_cons_zero]
                refine wpAnyH_take (i := 34) (v := undef) rfl (by kernel_rfl) (by kernel_rfl) (by kernel_rfl) (fun _ _ _ h => h) (Or.inr ⟨by kernel_rfl, rfl⟩) hS1 ?_
                try simp only [Act.put, List.setIfInBounds_toArray, List.set_cons_zero, List.set_cons_succ, List.getElem_toArray, List.getElem_cons_succ, List.getElem_cons_zero]
                refine wpAnyH_take (i := 35) (v := .bool false) rfl (by kernel_rfl) (by kernel_rfl) (by kernel_rfl) (fun _ _ _ h => h) (Or.inl ⟨by kernel_rfl, fun W hW => by obtain ⟨x0, x1, x2, x3, x4, x5⟩ := hW; go_simp <;> assumption⟩) hS1 ?_
                try simp only [Act.put, List.setIfInBounds_toArray, List.set_cons_zero, List.set_cons_succ, List.getElem_toArray, List.getElem_cons_succ, List.getElem_cons_zero]
                refine wpAnyH_take (i := 36) (v := .bool false) rfl (by kernel_rfl) (by kernel_rfl) (by kernel_rfl) (fun _ _ _ h => h) (Or.inl ⟨by kernel_rfl, fun W hW => by obtain ⟨x0, x1, x2, x3, x4, x5⟩ := hW; go_simp <;> assumption⟩) hS1 ?_
                try simp only [Act.put, List.setIfInBounds_toArray, List.set_cons_zero, List.set_cons_succ, List.getElem_toArray, List.getElem_cons_succ, List.getElem_cons_zero]
                refine wpAnyH_done (by kernel_rfl) ?_ _
                go_wp2
                go_roundw
                case rel => exact ⟨k + 1, ⟨p, c, s⟩, by omega, by omega, by go_num, HRT.out, (hbN.block _ hl4).trans hr4, hb4'.trans (hbN.mono hb4'.size)⟩
                case measure => simp [intOf]; omega

              · have HRT := HVR
                have hcp : c ≤ p := HVR.out.1
                have d2 : decide ((p : Int) < (c : Int)) = false := decide_eq_false (by have := HVR.out.1; dsimp only at this; omega)
                clear HU hU
                go_upto_region 12 with fail
                have hr4 := hrw2
                have hw4 := hww2
                have hb4' := hbb2
                obtain ⟨V4, hV4⟩ : ∃ V4, wc = V4 := ⟨_, rfl⟩
                rw [hV4] at hr4 hw4 hb4' ⊢
                clear hV4
                have hl4 := (Array.getElem?_eq_some_iff.1 hr4).1
                have hm4 := (Array.getElem?_eq_some_iff.1 hw4).1
                have HRR := Lib.hid (fun W => btRight ⟨p, c, s⟩ (by have := HRT.out.2.2; dsimp only at this ⊢; omega) W)
                rw [decide_eq_true HRT.out] at HRR
                unfold Vt.val at HRR
                dsimp only at HRR
                have F12 := Lib.hid (fun (W : World) (hb : Below V4.heap.size V4 W) => show W.cell? ⟨w1.heap.size, 0, none⟩ = some (.int .u64 (p : Int)) ∧ W.cell? ⟨w1.heap.size, 1, none⟩ = some (.int .u64 (c : Int)) ∧ W.cell? ⟨w1.heap.size, 2, none⟩ = some (.string s) ∧ W.cell? ⟨wr.heap.size, 0, none⟩ = some (.int .u64 (p : Int)) ∧ W.cell? ⟨wr.heap.size, 1, none⟩ = some (.int .u64 (c : Int)) ∧ W.cell? (ad.add k) = some (.int .u64 (b : Int)) from
                  ⟨cell_of ((hb.block _ hl4).trans hr4) rfl, cell_of ((hb.block _ hl4).trans hr4) rfl, cell_of ((hb.block _ hl4).trans hr4) rfl, cell_of ((hb.block _ hm4).trans hw4) rfl, cell_of ((hb.block _ hm4).trans hw4) rfl, HX.out W (hb4'.trans (hb.mono hb4'.size))⟩)
                have hS0 := F12.out _ (Below.refl _ V4).drew
                have hb4 : Below V4.heap.size V4 V4.drew := (Below.refl _ V4).drew
                refine wp_region_held_drew (S := fun W => W.cell? ⟨w1.heap.size, 0, none⟩ = some (.int .u64 (p : Int)) ∧ W.cell? ⟨w1.heap.size, 1, none⟩ = some (.int .u64 (c : Int)) ∧ W.cell? ⟨w1.heap.size, 2, none⟩ = some (.string s) ∧ W.cell? ⟨wr.heap.size, 0, none⟩ = some (.int .u64 (p : Int)) ∧ W.cell? ⟨wr.heap.size, 1, none⟩ = some (.int .u64 (c : Int)) ∧ W.cell? (ad.add k) = some (.int .u64 (b : Int))) (by kernel_rfl) hS0 (fun _ => ?_)
                refine wpAnyH_take (i := 0) (v := .pointer (some ⟨w1.heap.size, 0, none⟩)) rfl (by kernel_rfl) (by kernel_rfl) (by kernel_rfl) (fun _ _ _ h => h) (Or.inl ⟨by kernel_rfl, fun W hW => by obtain ⟨x0, x1, x2, x3, x4, x5⟩ := hW; go_simp <;> assumption⟩) hS0 ?_
                try simp only [Act.put, List.setIfInBounds_toArray, List.set_cons_zero, List.set_cons_succ, List.getElem_toArray, List.getElem_cons_succ, List.getElem_cons_zero]
                refine wpAnyH_take (i := 1) (v := .int .u64 (p : Int)) rfl (by kernel_rfl) (by kernel_rfl) (by kernel_rfl) (fun _ _ _ h => h) (Or.inl ⟨by kernel_rfl, fun W hW => by obtain ⟨x0, x1, x2, x3, x4, x5⟩ := hW; go_simp <;> assumption⟩) hS0 ?_
                try simp only [Act.put, List.setIfInBounds_toArray, List.set_cons_zero, List.set_cons_succ, List.getElem_toArray, List.getElem_cons_succ, List.getElem_cons_zero]
                refine wpAnyH_take (i := 2) (v := .pointer (some ⟨wr.heap.size, 0, none⟩)) rfl (by kernel_rfl) (by kernel_rfl) (by kernel_rfl) (fun _ _ _ h => h) (Or.inl ⟨by kernel_rfl, fun W hW => by obtain ⟨x0, x1, x2, x3, x4, x5⟩ := hW; go_simp <;> assumption⟩) hS0 ?_
                try simp only [Act.put, List.setIfInBounds_toArray, List.set_cons_zero, List.set_cons_succ, List.getElem_toArray, List.getElem_cons_succ, List.getElem_cons_zero]
                refine wpAnyH_take (i := 3) (v := .int .u64 (p : Int)) rfl (by kernel_rfl) (by kernel_rfl) (by kernel_rfl) (fun _ _ _ h => h) (Or.inl ⟨by kernel_rfl, fun W hW => by obtain ⟨x0, x1, x2, x3, x4, x5⟩ := hW; go_simp <;> assumption⟩) hS0 ?_
                try simp only [Act.put, List.setIfInBounds_toArray, List.set_cons_zero, List.set_cons_succ, List.getElem_toArray, List.getElem_cons_succ, List.getElem_cons_zero]
                refine wpAnyH_take (i := 4) (v := .bool false) rfl (by kernel_rfl) (by kernel_rfl) (by kernel_rfl) (fun _ _ _ h => h) (Or.inl ⟨by kernel_rfl, fun W hW => by obtain ⟨x0, x1, x2, x3, x4, x5⟩ := hW; go_simp <;> assumption⟩) hS0 ?_
                try simp only [Act.put, List.setIfInBounds_toArray, List.set_cons_zero, List.set_cons_succ, List.getElem_toArray, List.getElem_cons_succ, List.getElem_cons_zero]
                refine wpAnyH_take (i := 5) (v := .bool false) rfl (by kernel_rfl) (by kernel_rfl) (by kernel_rfl) (fun _ _ _ h => h) (Or.inl ⟨by kernel_rfl, fun W hW => by obtain ⟨x0, x1, x2, x3, x4, x5⟩ := hW; go_simp <;> assumption⟩) hS0 ?_
                try simp only [Act.put, List.setIfInBounds_toArray, List.set_cons_zero, List.set_cons_succ, List.getElem_toArray, List.getElem_cons_succ, List.getElem_cons_zero]
                refine wpAnyH_take (i := 6) (v := .pointer (some ⟨w1.heap.size, 1, none⟩)) rfl (by kernel_rfl) (by kernel_rfl) (by kernel_rfl) (fun _ _ _ h => h) (Or.inl ⟨by kernel_rfl, fun W hW => by obtain ⟨x0, x1, x2, x3, x4, x5⟩ := hW; go_simp <;> assumption⟩) hS0 ?_
                try simp only [Act.put, List.setIfInBounds_toArray, List.set_cons_zero, List.set_cons_succ, List.getElem_toArray, List.getElem_cons_succ, List.getElem_cons_zero]
                refine wpAnyH_take (i := 7) (v := .int .u64 (c : Int)) rfl (by kernel_rfl) (by kernel_rfl) (by kernel_rfl) (fun _ _ _ h => h) (Or.inl ⟨by kernel_rfl, fun W hW => by obtain ⟨x0, x1, x2, x3, x4, x5⟩ := hW; go_simp <;> assumption⟩) hS0 ?_
                try simp only [Act.put, List.setIfInBounds_toArray, List.set_cons_zero, List.set_cons_succ, List.getElem_toArray, List.getElem_cons_succ, List.getElem_cons_zero]
                refine wpAnyH_take (i := 8) (v := .pointer (some ⟨wr.heap.size, 1, none⟩)) rfl (by kernel_rfl) (by kernel_rfl) (by kernel_rfl) (fun _ _ _ h => h) (Or.inl ⟨by kernel_rfl, fun W hW => by obtain ⟨x0, x1, x2, x3, x4, x5⟩ := hW; go_simp <;> assumption⟩) hS0 ?_
                try simp only [Act.put, List.setIfInBounds_toArray, List.set_cons_zero, List.set_cons_succ, List.getElem_toArray, List.getElem_cons_succ, List.getElem_cons_zero]
                refine wpAnyH_take (i := 9) (v := .int .u64 (c : Int)) rfl (by kernel_rfl) (by kernel_rfl) (by kernel_rfl) (fun _ _ _ h => h) (Or.inl ⟨by kernel_rfl, fun W hW => by obtain ⟨x0, x1, x2, x3, x4, x5⟩ := hW; go_simp <;> assumption⟩) hS0 ?_
                try simp only [Act.put, List.setIfInBounds_toArray, List.set_cons_zero, List.set_cons_succ, List.getElem_toArray, List.getElem_cons_succ, List.getElem_cons_zero]
                refine wpAnyH_take (i := 10) (v := .bool false) rfl (by kernel_rfl) (by kernel_rfl) (by kernel_rfl) (fun _ _ _ h => h) (Or.inl ⟨by kernel_rfl, fun W hW => by obtain ⟨x0, x1, x2, x3, x4, x5⟩ := hW; go_simp <;> assumption⟩) hS0 ?_
                try simp only [Act.put, List.setIfInBounds_toArray, List.set_cons_zero, List.set_cons_succ, List.getElem_toArray, List.getElem_cons_succ, List.getElem_cons_zero]
                refine wpAnyH_take (i := 11) (v := .bool false) rfl (by kernel_rfl) (by kernel_rfl) (by kernel_rfl) (fun _ _ _ h => h) (Or.inl ⟨by kernel_rfl, fun W hW => by obtain ⟨x0, x1, x2, x3, x4, x5⟩ := hW; go_simp <;> assumption⟩) hS0 ?_
                try simp only [Act.put, List.setIfInBounds_toArray, List.set_cons_zero, List.set_cons_succ, List.getElem_toArray, List.getElem_cons_succ, List.getElem_cons_zero]
                refine wpAnyH_take (i := 12) (v := .bool false) rfl (by kernel_rfl) (by kernel_rfl) (by kernel_rfl) (fun _ _ _ h => h) (Or.inl ⟨by kernel_rfl, fun W hW => by obtain ⟨x0, x1, x2, x3, x4, x5⟩ := hW; go_simp <;> assumption⟩) hS0 ?_
                try simp only [Act.put, List.setIfInBounds_toArray, List.set_cons_zero, List.set_cons_succ, List.getElem_toArray, List.getElem_cons_succ, List.getElem_cons_zero]
                refine wpAnyH_take (i := 13) (v := .pointer (some ⟨w1.heap.size, 1, none⟩)) rfl (by kernel_rfl) (by kernel_rfl) (by kernel_rfl) (fun _ _ _ h => h) (Or.inl ⟨by kernel_rfl, fun W hW => by obtain ⟨x0, x1, x2, x3, x4, x5⟩ := hW; go_simp <;> assumption⟩) hS0 ?_
                try simp only [Act.put, List.setIfInBounds_toArray, List.set_cons_zero, List.set_cons_succ, List.getElem_toArray, List.getElem_cons_succ, List.getElem_cons_zero]
                refine wpAnyH_take (i := 14) (v := .int .u64 (c : Int)) rfl (by kernel_rfl) (by kernel_rfl) (by kernel_rfl) (fun _ _ _ h => h) (Or.inl ⟨by kernel_rfl, fun W hW => by obtain ⟨x0, x1, x2, x3, x4, x5⟩ := hW; go_simp <;> assumption⟩) hS0 ?_
                try simp only [Act.put, List.setIfInBounds_toArray, List.set_cons_zero, List.set_cons_succ, List.getElem_toArray, List.getElem_cons_succ, List.getElem_cons_zero]
                refine wpAnyH_take (i := 15) (v := .pointer (some ⟨w1.heap.size, 0, none⟩)) rfl (by kernel_rfl) (by kernel_rfl) (by kernel_rfl) (fun _ _ _ h => h) (Or.inl ⟨by kernel_rfl, fun W hW => by obtain ⟨x0, x1, x2, x3, x4, x5⟩ := hW; go_simp <;> assumption⟩) hS0 ?_
                try simp only [Act.put, List.setIfInBounds_toArray, List.set_cons_zero, List.set_cons_succ, List.getElem_toArray, List.getElem_cons_succ, List.getElem_cons_zero]
                refine wpAnyH_take (i := 16) (v := .int .u64 (p : Int)) rfl (by kernel_rfl) (by kernel_rfl) (by kernel_rfl) (fun _ _ _ h => h) (Or.inl ⟨by kernel_rfl, fun W hW => by obtain ⟨x0, x1, x2, x3, x4, x5⟩ := hW; go_simp <;> assumption⟩) hS0 ?_
                try simp only [Act.put, List.setIfInBounds_toArray, List.set_cons_zero, List.set_cons_succ, List.getElem_toArray, List.getElem_cons_succ, List.getElem_cons_zero]
                refine wpAnyH_take (i := 17) (v := .bool false) rfl (by kernel_rfl) (by kernel_rfl) (by kernel_rfl) (fun _ _ _ h => h) (Or.inl ⟨by kernel_rfl, fun W hW => by obtain ⟨x0, x1, x2, x3, x4, x5⟩ := hW; go_simp <;> assumption⟩) hS0 ?_
                try simp only [Act.put, List.setIfInBounds_toArray, List.set_cons_zero, List.set_cons_succ, List.getElem_toArray, List.getElem_cons_succ, List.getElem_cons_zero]
                refine wpAnyH_take (i := 18) (v := .bool false) rfl (by kernel_rfl) (by kernel_rfl) (by kernel_rfl) (fun _ _ _ h => h) (Or.inl ⟨by kernel_rfl, fun W hW => by obtain ⟨x0, x1, x2, x3, x4, x5⟩ := hW; go_simp <;> assumption⟩) hS0 ?_
                try simp only [Act.put, List.setIfInBounds_toArray, List.set_cons_zero, List.set_cons_succ, List.getElem_toArray, List.getElem_cons_succ, List.getElem_cons_zero]
                refine wpAnyH_take (i := 19) (v := .bool false) rfl (by kernel_rfl) (by kernel_rfl) (by kernel_rfl) (fun _ _ _ h => h) (Or.inl ⟨by kernel_rfl, fun W hW => by obtain ⟨x0, x1, x2, x3, x4, x5⟩ := hW; go_simp <;> assumption⟩) hS0 ?_
                try simp only [Act.put, List.setIfInBounds_toArray, List.set_cons_zero, List.set_cons_succ, List.getElem_toArray, List.getElem_cons_succ, List.getElem_cons_zero]
                refine wpAnyH_take (i := 20) (v := .agg #[.int .u64 (p : Int), .int .u64 (c : Int), .string s]) rfl (by kernel_rfl) (by kernel_rfl) (by kernel_rfl) (fun _ _ _ h => h) (Or.inl ⟨by kernel_rfl, fun W hW => by obtain ⟨x0, x1, x2, x3, x4, x5⟩ := hW; go_simp <;> assumption⟩) hS0 ?_
                try simp only [Act.put, List.setIfInBounds_toArray, List.set_cons_zero, List.set_cons_succ, List.getElem_toArray, List.getElem_cons_succ, List.getElem_cons_zero]
                refine wpAnyH_ready (rs := [21]) (by kernel_rfl) (by simp) ?_
                refine AllReadyH.cons rfl (fun K hK => ?_) (AllReadyH.nil)
                go_simp
                go_at_call 16
                refine (HRR.out _).mono ?_
                rintro e w9 ⟨rfl, hbx⟩
                have hbN := hb4.trans hbx
                have hS1 := F12.out _ hbN
                go_simp
                refine hK.out _ _ hS1 (fun _ => ?_)
                clear hK K
                refine wpAnyH_take (i := 22) (v := .bool false) rfl (by kernel_rfl) (by kernel_rfl) (by kernel_rfl) (fun _ _ _ h => h) (Or.inl ⟨by kernel_rfl, fun W hW => by obtain ⟨x0, x1, x2, x3, x4, x5⟩ := hW; go_simp <;> assumption⟩) hS1 ?_
                try simp only [Act.put, List.setIfInBounds_toArray, List.set_cons_zero, List.set_cons_succ, List.getElem_toArray, List.getElem_cons_succ, List.getElem_cons_zero]
                refine wpAnyH_take (i := 23) (v := .bool false) rfl (by kernel_rfl) (by kernel_rfl) (by kernel_rfl) (fun _ _ _ h => h) (Or.inl ⟨by kernel_rfl, fun W hW => by obtain ⟨x0, x1, x2, x3, x4, x5⟩ := hW; go_simp <;> assumption⟩) hS1 ?_
                try simp only [Act.put, List.setIfInBounds_toArray, List.set_cons_zero, List.set_cons_succ, List.getElem_toArray, List.getElem_cons_succ, List.getElem_cons_zero]
                refine wpAnyH_take (i := 24) (v := .bool false) rfl (by kernel_rfl) (by kernel_rfl) (by kernel_rfl) (fun _ _ _ h => h) (Or.inl ⟨by kernel_rfl, fun W hW => by obtain ⟨x0, x1, x2, x3, x4, x5⟩ := hW; go_simp <;> assumption⟩) hS1 ?_
                try simp only [Act.put, List.setIfInBounds_toArray, List.set_cons_zero, List.set_cons_succ, List.getElem_toArray, List.getElem_cons_succ, List.getElem_cons_zero]
                refine wpAnyH_take (i := 25) (v := .int .i64 80) rfl (by kernel_rfl) (by kernel_rfl) (by kernel_rfl) (fun _ _ _ h => h) (Or.inl ⟨by kernel_rfl, fun W hW => by obtain ⟨x0, x1, x2, x3, x4, x5⟩ := hW; go_simp <;> assumption⟩) hS1 ?_
                try simp only [Act.put, List.setIfInBounds_toArray, List.set_cons_zero, List.set_cons_succ, List.getElem_toArray, List.getElem_cons_succ, List.getElem_cons_zero]
                refine wpAnyH_take (i := 26) (v := .bool false) rfl (by kernel_rfl) (by kernel_rfl) (by kernel_rfl) (fun _ _ _ h => h) (Or.inl ⟨by kernel_rfl, fun W hW => by obtain ⟨x0, x1, x2, x3, x4, x5⟩ := hW; go_simp <;> assumption⟩) hS1 ?_
                try simp only [Act.put, List.setIfInBounds_toArray, List.set_cons_zero, List.set_cons_succ, List.getElem_toArray, List.getElem_cons_succ, List.getElem_cons_zero]
                refine wpAnyH_take (i := 27) (v := .bool false) rfl (by kernel_rfl) (by kernel_rfl) (by kernel_rfl) (fun _ _ _ h => h) (Or.inl ⟨by kernel_rfl, fun W hW => by obtain ⟨x0, x1, x2, x3, x4, x5⟩ := hW; go_simp <;> assumption⟩) hS1 ?_
                try simp only [Act.put, List.setIfInBounds_toArray, List.set_cons_zero, List.set_cons_succ, List.getElem_toArray, List.getElem_cons_succ, List.getElem_cons_zero]
                refine wpAnyH_take (i := 28) (v := undef) rfl (by kernel_rfl) (by kernel_rfl) (by kernel_rfl) (fun _ _ _ h => h) (Or.inr ⟨by kernel_rfl, rfl⟩) hS1 ?_
                try simp only [Act.put, List.setIfInBounds_toArray, List.set_cons_zero, List.set_cons_succ, List.getElem_toArray, List.getElem_cons_succ, List.getElem_cons_zero]
                refine wpAnyH_take (i := 29) (v := undef) rfl (by kernel_rfl) (by kernel_rfl) (by kernel_rfl) (fun _ _ _ h => h) (Or.inr ⟨by kernel_rfl, rfl⟩) hS1 ?_
                try simp only [Act.put, List.setIfInBounds_toArray, List.set_cons_zero, List.set_cons_succ, List.getElem_toArray, List.getElem_cons_succ, List.getElem_cons_zero]
                refine wpAnyH_take (i := 30) (v := undef) rfl (by kernel_rfl) (by kernel_rfl) (by kernel_rfl) (fun _ _ _ h => h) (Or.inr ⟨by kernel_rfl, rfl⟩) hS1 ?_
                try simp only [Act.put, List.setIfInBounds_toArray, List.set_cons_zero, List.set_cons_succ, List.getElem_toArray, List.getElem_cons_succ, List.getElem_cons_zero]
                refine wpAnyH_take (i := 31) (v := undef) rfl (by kernel_rfl) (by kernel_rfl) (by kernel_rfl) (fun _ _ _ h => h) (Or.inr ⟨by kernel_rfl, rfl⟩) hS1 ?_
                try simp only [Act.put, List.setIfInBounds_toArray, List.set_cons_zero, List.set_cons_succ, List.getElem_toArray, List.getElem_cons_succ, List.getElem_cons_zero]
                refine wpAnyH_take (i := 32) (v := undef) rfl (by kernel_rfl) (by kernel_rfl) (by kernel_rfl) (fun _ _ _ h => h) (Or.inr ⟨by kernel_rfl, rfl⟩) hS1 ?_
                try simp only [Act.put, List.setIfInBounds_toArray, List.set_cons_zero, List.set_cons_succ, List.getElem_toArray, List.getElem_cons_succ, List.getElem_cons_zero]
                refine wpAnyH_take (i := 33) (v := undef) rfl (by kernel_rfl) (by kernel_rfl) (by kernel_rfl) (fun _ _ _ h => h) (Or.inr ⟨by kernel_rfl, rfl⟩) hS1 ?_
                try simp only [Act.put, List.setIfInBounds_toArray, List.set_cons_zero, List.set_cons_succ, List.getElem_toArray, List.getElem_cons_succ, List.getElem_cons_zero]
                refine wpAnyH_take (i := 34) (v := undef) rfl (by kernel_rfl) (by kernel_rfl) (by kernel_rfl) (fun _ _ _ h => h) (Or.inr ⟨by kernel_rfl, rfl⟩) hS1 ?_
                try simp only [Act.put, List.setIfInBounds_toArray, List.set_cons_zero, List.set_cons_succ, List.getElem_toArray, List.getElem_cons_succ, List.getElem_cons_zero]
                refine wpAnyH_take (i := 35) (v := .bool false) rfl (by kernel_rfl) (by kernel_rfl) (by kernel_rfl) (fun _ _ _ h => h) (Or.inl ⟨by kernel_rfl, fun W hW => by obtain ⟨x0, x1, x2, x3, x4, x5⟩ := hW; go_simp <;> assumption⟩) hS1 ?_
                try simp only [Act.put, List.setIfInBounds_toArray, List.set_cons_zero, List.set_cons_succ, List.getElem_toArray, List.getElem_cons_succ, List.getElem_cons_zero]
                refine wpAnyH_take (i := 36) (v := .bool false) rfl (by kernel_rfl) (by kernel_rfl) (by kernel_rfl) (fun _ _ _ h => h) (Or.inl ⟨by kernel_rfl, fun W hW => by obtain ⟨x0, x1, x2, x3, x4, x5⟩ := hW; go_simp <;> assumption⟩) hS1 ?_
                try simp only [Act.put, List.setIfInBounds_toArray, List.set_cons_zero, List.set_cons_succ, List.getElem_toArray, List.getElem_cons_succ, List.getElem_cons_zero]
                refine wpAnyH_done (by kernel_rfl) ?_ _
                go_wp2
                go_roundw
                case rel => exact ⟨k + 1, ⟨p, c, s⟩, by omega, by omega, by go_num, HRT.out, (hbN.block _ hl4).trans hr4, hb4'.trans (hbN.mono hb4'.size)⟩
                case measure => simp [intOf]; omega
      · obtain rfl : k = 100 := by omega
        have hki : ((100 : Nat) : Int) < (len : Int) := by omega
        go_wp2
        go_ret
        exact ⟨rfl, hBW⟩
    · obtain rfl : k = len := by omega
      go_wp2
      go_ret
      exact ⟨rfl, hBW⟩
end Go.Proofs.Ytigameebcicgpaa
