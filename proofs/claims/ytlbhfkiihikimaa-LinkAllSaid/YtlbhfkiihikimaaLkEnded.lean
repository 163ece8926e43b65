/-
  The laws' script over a line: walked.
-/
import Derived.Test.YtlbhfkiihikimaaLkMem
import Derived.LoopTactic
import Derived.BigQuiet
import Derived.Deep.QuietTactic
import Derived.Deep.RegionHeld3
import Derived.Deep.CutRange
import Derived.Deep.DeepCutAuto
namespace Go.Proofs.Ytlbhfkiihikimaa
open Go.RowKit Go.Shelf
attribute [local go_sem] Oper.semAt_some
set_option linter.unusedVariables false
set_option linter.unusedSimpArgs false

theorem kind_spelled (xd : Int) {xa : Int} {xs : ByteArray} : (IntKind.u64.wrap xd).tmod 6 = ((Ws.kind ⟨xd, xa, xs⟩ : Nat) : Int) := by
  unfold Ws.kind
  rw [IntKind.wrap_u64]
  simp only
  rw [Int.tmod_eq_emod_of_nonneg (by omega)]
  omega
theorem step0 {S : Ws} {x : Sp} (h : Ws.kind x = 0) : S.step x = S.send (hun x.s) := by unfold Ws.step; rw [h]; rfl
theorem step1 {S : Ws} {x : Sp} (h : Ws.kind x = 1) : S.step x = S.outs := by unfold Ws.step; rw [h]; rfl
theorem step2 {S : Ws} {x : Sp} (h : Ws.kind x = 2 ∨ Ws.kind x = 5) : S.step x = S.comes (S.pos x) := by unfold Ws.step; rcases h with h | h <;> rw [h] <;> rfl
theorem step3 {S : Ws} {x : Sp} (h : Ws.kind x = 3) : S.step x = S.lose (S.pos x) := by unfold Ws.step; rw [h]; rfl
theorem step4 {S : Ws} {x : Sp} (h : Ws.kind x = 4) : S.step x = S.again (S.pos x) := by unfold Ws.step; rw [h]; rfl
theorem drop_facts {a ma b mb n : Nat} {S : Ws} {sv cv : Value} {w V wm : World} {g cw : Nat} {u : Value} {nw : Nat} (hn : S.way.length = nw) (h : Mem a ma b mb n S (.slice (some ⟨g, 0, none⟩) nw cw) sv cv w V) (hF : Frames wm n u []) (hB : Below V.heap.size V wm) (p : Nat) (hp : p < S.way.length) :
    Frames wm n u [] ∧ Given wm (.slice (some ⟨g, 0, none⟩) p cw) (S.way.take p) ∧ n ≤ wm.heap.size := by
  subst hn
  refine ⟨hF, ?_, Nat.le_trans h.size hB.size⟩
  have hl : (S.way.take p).length = p := by rw [List.length_take]; omega
  have hway := h.way.below hB
  refine .inr ⟨⟨g, 0, none⟩, cw, by rw [hl], fun j u hu => ?_⟩
  obtain ⟨g', c', e, _, _, _, _, hc⟩ := hway.get (by omega)
  cases e
  rw [add0]
  refine hc j u ?_
  rw [← flatF_take, List.getElem?_take] at hu
  split at hu
  · exact hu
  · cases hu
theorem drop_facts2 {a ma b mb n : Nat} {S : Ws} {sv cv : Value} {w V wm w5 : World} {g cw nw : Nat} (hn : S.way.length = nw) (h : Mem a ma b mb n S (.slice (some ⟨g, 0, none⟩) nw cw) sv cv w V) (hB : Below V.heap.size V wm) (hg : wm.grownBy w5 (some V.heap.size)) (p : Nat) (hp : p < S.way.length) (hcw : nw ≤ cw) :
    Below V.heap.size V w5 ∧ Given w5 (.slice (if cw = p + 1 then some ⟨g, 0, none⟩ else some ⟨g, (p + 1) * 9, none⟩) (nw - (p + 1)) (cw - (p + 1))) (S.way.drop (p + 1)) ∧ n ≤ w5.heap.size := by
  subst hn
  have hb : Below V.heap.size V w5 := hB.grown hg hB.size (fun k e => by cases e; exact Nat.le_refl _)
  refine ⟨hb, ?_, Nat.le_trans h.size hb.size⟩
  by_cases hc1 : cw = p + 1
  · rw [if_pos hc1]
    have e : S.way.drop (p + 1) = [] := List.drop_of_length_le (by omega)
    rw [e]
    exact .inr ⟨⟨g, 0, none⟩, _, by rw [show S.way.length - (p + 1) = 0 from by omega]; rfl, fun j u hu => by simp [flatF] at hu⟩
  · rw [if_neg hc1]
    have hway := h.way.below hb
    refine .inr ⟨⟨g, (p + 1) * 9, none⟩, _, by rw [List.length_drop], fun j u hu => ?_⟩
    obtain ⟨g', c', e, _, _, _, _, hc⟩ := hway.get (by omega)
    cases e
    have e2 : (⟨g, (p + 1) * 9, none⟩ : Addr).add j = ⟨g, (p + 1) * 9 + j, none⟩ := by unfold Addr.add; split <;> simp_all
    rw [e2]
    refine hc _ u ?_
    rw [← flatF_drop, List.getElem?_drop] at hu
    exact hu
theorem drop_end {a ma b mb n : Nat} {S : Ws} {wv sv cv : Value} {w V wm w5 w6 : World} {v5 v6 : Value} (h : Mem a ma b mb n S wv sv cv w V) (hB : Below V.heap.size V wm) (hb : Below V.heap.size V w5) (hat : v5.ownBlock = some V.heap.size ∨ v5.ownBlock = some wm.heap.size) (hg6 : w5.grownBy w6 v5.ownBlock) {l : List Fr} (ho : Frames w6 n v6 l) :
    Mem a ma b mb n { S with way := l } v6 sv cv w w6 ∧ Below V.heap.size V w6 := by
  have hb6 : Below V.heap.size V w6 := hb.grown hg6 hb.size (fun k e => by
    have := hB.size
    rcases hat with hat | hat
    · rw [hat] at e; cases e; exact Nat.le_refl _
    · rw [hat] at e; cases e; exact this)
  exact ⟨h.way_new hb6 ho, hb6⟩
theorem drop_none {S : Ws} {w5 : World} {nw p : Nat} (hn : S.way.length = nw) (hp : nw = p + 1) (ad : Addr) (c : Nat) : Given w5 (.slice (some ad) 0 c) (S.way.drop (p + 1)) := by
  have e : S.way.drop (p + 1) = [] := List.drop_of_length_le (by omega)
  rw [e]
  exact .inr ⟨ad, c, rfl, fun j u hu => by simp [flatF] at hu⟩
theorem recv_few (L : Lk) (y : Fr) : (L.recvD y).length ≤ 1 ∧ (L.recvA y).length ≤ 1 := by
  unfold Lk.recvD Lk.recvA Lk.came
  refine ⟨?_, ?_⟩ <;> (repeat' split) <;> simp
theorem pos_spelled (S : Ws) (xd xa : Int) (xs : ByteArray) (h : S.way.length ≠ 0) : (IntKind.u64.wrap xa).tmod (S.way.length : Int) = ((S.pos ⟨xd, xa, xs⟩ : Nat) : Int) := by
  unfold Ws.pos
  rw [if_neg h, IntKind.wrap_u64]
  simp only
  have h1 : 0 ≤ xa % 18446744073709551616 := by omega
  rw [Int.tmod_eq_emod_of_nonneg h1, Int.toNat_of_nonneg (Int.emod_nonneg _ (by omega))]
set_option maxRecDepth 100000 in
set_option maxHeartbeats 16000000 in
theorem lawEnded (win : Int) (v0 : Value) (l : List Sc) (w : World) (hW : 1 ≤ win ∧ win ≤ 64) (hT : LkSteps w v0 l) (hll : l.length ≤ maxLen) (hsz : ∀ x ∈ l, x.2.2.size ≤ maxLen) : Calls Try.prog 14 #[.int .i64 win, v0] w fun e w' =>
    ∃ a ma b mb wv sv cv, e = .returned (.tuple #[sv, cv, .pointer (some ⟨a, 0, none⟩), .pointer (some ⟨b, 0, none⟩), .bool true]) ∧ Mem a ma b mb w.heap.size (Ws.run win ((l.take 100).map spOf)) wv sv cv w w' := by
  obtain ⟨a0, c0, rfl⟩ := lksteps_form hT
  obtain ⟨len, hlen⟩ : ∃ len, l.length = len := ⟨_, rfl⟩
  have HT := Lib.hid hT
  have HL := Lib.hid hlen
  have HSZ := Lib.hid hsz
  have HW := Lib.hid hW
  rw [hlen] at hll ⊢
  clear hT hlen hsz
  obtain ⟨hW1, hW2⟩ := hW
  have N1 := fun W => lkNew 1 2 2 win 3 (by decide) (by decide) rfl (.inr rfl) hW1 hW2 (by decide) W
  have N2 := fun W => lkNew 2 1 2 win 4 (by decide) (by decide) rfl (.inr rfl) hW1 hW2 (by decide) W
  have H1 := Lib.hid (show ∀ W, Calls Try.prog 10 #[.int .i64 1, .int .i64 2, .int .i64 2, .int .i64 win, .int .u32 3] W _ from N1)
  have H2 := Lib.hid (show ∀ W, Calls Try.prog 10 #[.int .i64 2, .int .i64 1, .int .i64 2, .int .i64 win, .int .u32 4] W _ from N2)
  clear N1 N2
  go_enter Try.func14, Try.ntmps14
  go_wp2_with (first
    | (go_at_call 10; have H := H1; clear H1; refine (H.out _).mono ?_; rintro e w1 ⟨⟨a, ma, rfl, hla, hlm, hI1⟩, hb1⟩)
    | (go_at_call 10; have H := H2; clear H2; refine (H.out _).mono ?_; rintro e w2 ⟨⟨b, mb, rfl, hlb, hlmb, hI2⟩, hb2⟩))
  have hs1 := hb1.size
  have hM0 : Mem a ma b mb w.heap.size (Ws.begin' win) (.slice none 0 0) (.slice none 0 0) (.slice none 0 0) w w2 :=
    ⟨Pair.mk' hI1 ⟨hla, hlm⟩ hb2 hI2 hlb hlmb, Frames.nil _ _, Words.nil _ _, Words.nil _ _, (fun g e => by cases e), hb1.trans (hb2.mono hs1)⟩
  clear hb1 hb2 hI1 hI2 hla hlm hlb hlmb hs1 hW1 hW2
  go_loopw [13, 14, 15, 16, 17, 18, 19, 20, 21, 22] (fun wv sv cv i _ _ _ _ _ _ W => ∃ k : Nat, k ≤ len ∧ k ≤ 100 ∧ i = .int .i64 k ∧ Mem a ma b mb w.heap.size (Ws.run win ((l.take k).map spOf)) wv sv cv w W) (fun _ _ _ i _ _ _ _ _ _ _ => 100 - (intOf i).toNat)
  case atStart => exact ⟨0, Nat.zero_le _, Nat.zero_le _, rfl, hM0⟩
  case round =>
    obtain ⟨k, hk, hk100, rfl, hM⟩ := hrel
    by_cases hlt : k < len
    · by_cases h100 : k < 100
      · have hkl : k < l.length := by rw [HL.out]; exact hlt
        obtain ⟨ad, c', h0, hx⟩ := lksteps_at HT.out k hkl
        simp only [Value.slice.injEq] at h0
        obtain ⟨rfl, -, -⟩ := h0
        have hxs := HSZ.out _ (List.getElem_mem hkl)
        have hfit := Ws.run_fits HW.out ((l.take k).map spOf) (by simp; omega)
        have hrun : Ws.run win ((l.take (k + 1)).map spOf) = (Ws.run win ((l.take k).map spOf)).step (spOf l[k]) := by rw [List.take_succ_eq_append_getElem hkl, List.map_append, List.map_cons, List.map_nil, Ws.run_snoc]
        have hfit2 : Ws.Fits win 100 (Ws.run win ((l.take k).map spOf)) := hfit.mono (by simp; omega)
        clear hfit
        have hki : (k : Int) < (len : Int) := by omega
        have hki100 : (k : Int) < 100 := by omega
        obtain ⟨q0, q1, q2⟩ := hx wr hM.bel
        clear hx
        generalize l[k] = x at *
        obtain ⟨xd, xa, xs⟩ := x
        dsimp only at q0 q1 q2 hxs
        have HR := Lib.hid hrun
        have HF := Lib.hid hfit2
        clear hrun hfit2
        generalize Ws.run win ((l.take k).map spOf) = S at *
        obtain ⟨cwa, cwc, hwv, hwc⟩ := hM.way.form
        obtain ⟨nw, hnw⟩ : ∃ nw, S.way.length = nw := ⟨_, rfl⟩
        have HNW := Lib.hid hnw
        have hnw264 : nw ≤ 264 := by rw [← hnw]; exact HF.out.len
        rw [hnw] at hwv
        clear hnw hwc
        have HM := Lib.hid hM
        clear hM
        subst hwv
        obtain ⟨K, hK⟩ : ∃ K, Ws.kind ⟨xd, xa, xs⟩ = K := ⟨_, rfl⟩
        obtain ⟨p, hp⟩ : ∃ p, S.pos ⟨xd, xa, xs⟩ = p := ⟨_, rfl⟩
        have hK6 : K < 6 := by rw [← hK]; exact Ws.kind_lt _
        have hkd : (IntKind.u64.wrap xd).tmod 6 = (K : Int) := by rw [← hK]; exact kind_spelled xd
        have HK := Lib.hid hK
        have HP := Lib.hid hp
        have hpl := S.pos_lt ⟨xd, xa, xs⟩
        rw [HNW.out, hp] at hpl
        have hps := pos_spelled S xd xa xs
        rw [HNW.out, hp] at hps
        have htx : xs.size ≤ maxLen := hxs
        have HTX := Lib.hid (fun W => lawText6 xs htx W)
        have HMX := Lib.hid (fun (t : TypeId) (C : Array Value) => HM.out.below ((Below.refl _ wr).alloc (Nat.le_refl _) (.cells C t)))
        clear hK hp hxs htx
        have HQ1 := Lib.hid (show ∀ W3, KeepRows (wr.alloc (.cells #[.int .i64 xd, .int .i64 xa, .string xs] 64)) W3 → W3.cell? ⟨wr.heap.size, 2, none⟩ = some (.string xs) from fun W3 hk => (hk _ _ _ (by decide) (Row.new wr _ _)).cell 2 _ rfl)
        go_upto_if 55 with fail
        go_cut [18] from 39 to 165 (fun s18 wx => s18 = .int .i64 (p : Int) ∧ wx = wr.alloc (.cells #[.int .i64 xd, .int .i64 xa, .string xs] 64))
        case first =>
          by_cases hw0 : nw = 0
          · obtain rfl : nw = 0 := hw0
            have hw0i : ¬ (0 : Int) < ((0 : Nat) : Int) := by decide
            have hp0 : p = 0 := by rw [← HP.out]; unfold Ws.pos; rw [if_pos HNW.out]
            have HP0 := Lib.hid hp0
            clear hp0
            go_wp2_with fail
            go_meet
            exact ⟨by rw [HP0.out]; rfl, rfl⟩
          · have hw0i : (0 : Int) < (nw : Int) := by omega
            have hwn : IntKind.u64.wrap (nw : Int) = (nw : Int) := by rw [IntKind.wrap_u64]; omega
            have hpn := hps hw0
            have hpl2 := hpl hw0
            have hwp : IntKind.i64.wrap (p : Int) = (p : Int) := IntWalk.i64_in _ (by omega)
            have hz0 : ((nw : Int) == 0) = false := by rw [beq_eq_false_iff_ne]; omega
            clear hpl2
            go_wp2_with fail
            go_meet
            exact ⟨rfl, rfl⟩
        case rest =>
          obtain ⟨rfl, rfl⟩ := hcut
          clear hps q0 q1 q2
          rcases (show K = 0 ∨ K = 1 ∨ K = 3 ∨ K = 4 ∨ (K = 2 ∨ K = 5) by omega) with rfl | rfl | rfl | rfl | hK25
          · skip
            have hst : S.step (spOf (xd, xa, xs)) = S.send (hun xs) := step0 HK.out
            have htop : S.a.top < 1000 := by have := HF.out.top; have := HF.out.few; omega
            have HS := Lib.hid (fun W (h : Mem a ma b mb w.heap.size S (.slice cwa nw cwc) u14 u15 w W) => memSend h (hun xs) htop)
            by_cases he : S.a.sendE (hun xs) = 0
            · rw [he] at HS
              have HE := Lib.hid (show S.step (spOf (xd, xa, xs)) = { { S with a := S.a.send (hun xs) } with sent := S.sent ++ [hun xs] } from hst.trans (by unfold Ws.send; rw [if_pos he]))
              have hfw : S.sent.length + 1 ≤ 1000000 := by have := HF.out.few; omega
              have HFW := Lib.hid hfw
              clear hst he hfw htop
              go_wp2_with (first
                | (go_at_call 25; refine (HTX.out _).mono ?_; rintro e w3 ⟨rfl, rfl⟩)
                | (go_at_call 11; refine (HS.out _ (HMX.out _ _)).mono ?_; rintro e w4 ⟨rfl, hM4, hk4⟩; have hq4 := HQ1.out _ hk4)
                | (at_builtin; refine wpList_append_words rfl _ _ rfl w.heap.size _ _ rfl (hM4.below ((Below.refl _ w4).alloc (Nat.le_refl _) _)).sent _ rfl [hun xs] (givenW_one _ (hun xs) _ _) HFW.out (hM4.below ((Below.refl _ w4).alloc (Nat.le_refl _) _)).size ?_; intro v5 w5 ho5 hg5 hat5; have hM5 := (hM4.below ((Below.refl _ w4).alloc (Nat.le_refl _) _)).sent_append ho5 hg5 hat5))
              exact ⟨⟨k + 1, by omega, by omega, by go_num, by rw [HR.out, HE.out]; exact hM5⟩, by simp [intOf]; omega⟩
            · have HE := Lib.hid (show S.step (spOf (xd, xa, xs)) = { S with a := S.a.send (hun xs) } from hst.trans (by unfold Ws.send Lk.send; rw [if_neg he, if_neg he]))
              have hne : (S.a.sendE (hun xs) == 0) = false := beq_eq_false_iff_ne.2 he
              clear hst htop he
              generalize S.a.sendE (hun xs) = E at *
              go_wp2_with (first
                | (go_at_call 25; refine (HTX.out _).mono ?_; rintro e w3 ⟨rfl, rfl⟩)
                | (go_at_call 11; refine (HS.out _ (HMX.out _ _)).mono ?_; rintro e w4 ⟨rfl, hM4, hk4⟩))
              exact ⟨⟨k + 1, by omega, by omega, by go_num, by rw [HR.out, HE.out]; exact hM4⟩, by simp [intOf]; omega⟩
          · skip
            by_cases h200 : nw < 200
            · have h200i : ((nw : Nat) : Int) < 200 := by omega
              have HO := Lib.hid (fun W (h : Mem a ma b mb w.heap.size S (.slice cwa nw cwc) u14 u15 w W) => memOut h)
              have HE := Lib.hid (show S.step (spOf (xd, xa, xs)) = { S with way := S.way ++ S.a.sent } from (step1 HK.out).trans (by unfold Ws.outs; rw [HNW.out, if_pos h200]))
              have hfw : S.way.length + S.a.sent.length ≤ 1000000 := by rw [HNW.out, Lk.sent_length]; have := HF.out.full; have := HF.out.win; omega
              have HFW := Lib.hid hfw
              clear hfw h200
              go_wp2_with (first
                | (go_at_call 12; refine (HO.out _ (HMX.out _ _)).mono ?_; rintro e w4 ⟨⟨u, rfl, hu⟩, hM4, hb4⟩)
                | (at_builtin; refine wpList_append_frames rfl _ _ rfl w.heap.size _ _ rfl hM4.way _ rfl S.a.sent hu.given HFW.out hM4.size ?_; intro v5 w5 ho5 hg5 hat5; have hM5 := hM4.way_append ho5 hg5))
              exact ⟨⟨k + 1, by omega, by omega, by go_num, by rw [HR.out, HE.out]; exact hM5⟩, by simp [intOf]; omega⟩
            · have h200i : ¬ (nw : Int) < 200 := by omega
              have HE := Lib.hid (show S.step (spOf (xd, xa, xs)) = S from (step1 HK.out).trans (by unfold Ws.outs; rw [HNW.out, if_neg h200]))
              clear h200
              go_wp2
              exact ⟨⟨k + 1, by omega, by omega, by go_num, by rw [HR.out, HE.out]; exact HMX.out _ _⟩, by simp [intOf]; omega⟩
          · skip
            by_cases hw0 : nw = 0
            · skip
              obtain rfl : nw = 0 := hw0
              have hw0i : ¬ (0 : Int) < ((0 : Nat) : Int) := by decide
              have HE := Lib.hid (show S.step (spOf (xd, xa, xs)) = S from (step3 HK.out).trans (by unfold Ws.lose; rw [if_pos HNW.out]))
              go_wp2
              exact ⟨⟨k + 1, by omega, by omega, by go_num, by rw [HR.out, HE.out]; exact HMX.out _ _⟩, by simp [intOf]; omega⟩
            · skip
              have hw0i : (0 : Int) < (nw : Int) := by omega
              have hpl2 := hpl hw0
              have hz0 : ((nw : Int) == 0) = false := by rw [beq_eq_false_iff_ne]; omega
              have HP2 := Lib.hid hpl2
              clear hpl hpl2
              have hpl3 : p < S.way.length := by rw [HNW.out]; exact HP2.out
              obtain ⟨g, c', e1, hcn, _, hgw, hfz, hfr⟩ := HM.out.way.at' p hpl3
              rw [HNW.out] at hcn
              simp only [Value.slice.injEq] at e1
              obtain ⟨rfl, -, rfl⟩ := e1
              obtain ⟨y0, y1, y2, y3, y4, y5, y6, y7, y8⟩ := hfr.cells
              have hyg : S.get p = S.way[p] := by unfold Ws.get; rw [List.getElem?_eq_getElem hpl3]; rfl
              have hyd := HF.out.get p hpl3
              rw [hyg] at hyd
              have HYG := Lib.hid hyg
              clear hfr hyg
              generalize S.way[p] = y at *
              obtain ⟨f0, f1, f2, f3, f4, f5, f6, f7, f8⟩ := y
              dsimp only at y0 y1 y2 y3 y4 y5 y6 y7 y8
              have hpw : (p : Int) < (nw : Int) := by have := HP2.out; omega
              have HE := Lib.hid (show S.step (spOf (xd, xa, xs)) = { S with way := ([] ++ S.way.take p) ++ S.way.drop (p + 1) } from (step3 HK.out).trans (by unfold Ws.lose; rw [HNW.out, if_neg hw0, HP.out]; rfl))
              clear hyd y0 y1 y2 y3 y4 y5 y6 y7 y8
              obtain ⟨V, hV⟩ : ∃ V, wr.alloc (.cells #[.int .i64 xd, .int .i64 xa, .string xs] 64) = V := ⟨_, rfl⟩
              have hMd : Mem a ma b mb w.heap.size S (.slice (some ⟨g, 0, none⟩) nw cwc) u14 u15 w V.drew := by rw [← hV]; exact (HMX.out _ _).below (Below.refl _ _).drew
              have HV := Lib.hid hV
              clear hV
              obtain ⟨wm, hmk, hF0, hB0⟩ := run_make_frames V.drew w.heap.size nw (by omega) hMd.size
              have HD := Lib.hid (drop_facts HNW.out hMd hF0 hB0 p (by rw [HNW.out]; exact HP2.out))
              have HD2 := Lib.hid (fun (w5 : World) (hg : wm.grownBy w5 (some V.heap.size)) => drop_facts2 HNW.out hMd hB0 hg p (by rw [HNW.out]; exact HP2.out) hcn)
              have HFW := Lib.hid (show ([] : List Fr).length + (S.way.take p).length ≤ 1000000 by rw [List.length_nil, List.length_take, HNW.out]; omega)
              have HFW2 := Lib.hid (show ([] ++ S.way.take p).length + (S.way.drop (p + 1)).length ≤ 1000000 by rw [List.nil_append, List.length_take, List.length_drop, HNW.out]; omega)
              have HD3 := Lib.hid (fun (w5 : World) (v5 : Value) (hb : Below V.drew.heap.size V.drew w5) (hat : v5.ownBlock = some V.heap.size ∨ v5.ownBlock = some wm.heap.size) (w6 : World) (hg6 : w5.grownBy w6 v5.ownBlock) (v6 : Value) (ho : Frames w6 w.heap.size v6 (([] ++ S.way.take p) ++ S.way.drop (p + 1))) => drop_end (V := V.drew) hMd hB0 hb hat hg6 ho)
              clear hF0 hB0
              have hpc : p ≤ cwc := by have := HP2.out; omega
              have hpci : (p : Int) ≤ (cwc : Int) := by omega
              have hp1n : p + 1 ≤ nw := HP2.out
              have hp1i : (p : Int) + 1 ≤ (nw : Int) := by omega
              have h0p1 : (0 : Int) ≤ (p : Int) + 1 := by omega
              have htp1 : ((p : Int) + 1).toNat = p + 1 := by omega
              have hwp1 : IntKind.i64.wrap ((p : Int) + 1) = (p : Int) + 1 := IntWalk.i64_in _ (by omega)
              go_wp2
              rw [HV.out]
              go_region_law (first
                  | (refine step_append_frames rfl _ _ rfl w.heap.size (.slice (some ⟨V.heap.size, 0, none⟩) 0 (nw)) [] rfl HD.out.1 _ rfl (S.way.take p) HD.out.2.1 HFW.out HD.out.2.2 ?_; intro v5 w5 ho5 hg5 hat5; obtain ⟨hb5, hgr5, hsz5⟩ := HD2.out w5 hg5)
                  | (refine step_append_frames rfl _ _ rfl w.heap.size v5 _ rfl ho5 _ rfl (S.way.drop (p + 1)) (hgr5) HFW2.out hsz5 ?_; intro v6 w6 ho6 hg6 hat6; obtain ⟨hM6, hb6⟩ := HD3.out w5 v5 hb5 hat5 w6 hg6 v6 ho6))
              all_goals
                go_wp2
                exact ⟨⟨k + 1, by omega, by omega, by go_num, by rw [HR.out, HE.out]; exact hM6⟩, by simp [intOf]; omega⟩
          · skip
            by_cases hw0 : nw = 0
            · skip
              obtain rfl : nw = 0 := hw0
              have hw0i : ¬ (0 : Int) < ((0 : Nat) : Int) := by decide
              have HE := Lib.hid (show S.step (spOf (xd, xa, xs)) = S from (step4 HK.out).trans (by unfold Ws.again; rw [if_pos HNW.out]))
              go_wp2
              exact ⟨⟨k + 1, by omega, by omega, by go_num, by rw [HR.out, HE.out]; exact HMX.out _ _⟩, by simp [intOf]; omega⟩
            · skip
              have hw0i : (0 : Int) < (nw : Int) := by omega
              have hpl2 := hpl hw0
              have hz0 : ((nw : Int) == 0) = false := by rw [beq_eq_false_iff_ne]; omega
              have HP2 := Lib.hid hpl2
              clear hpl hpl2
              by_cases h200 : nw < 200
              · have h200i : (nw : Int) < 200 := by omega
                have hpl3 : p < S.way.length := by rw [HNW.out]; exact HP2.out
                obtain ⟨g, c', e1, hcn, _, hgw, hfz, hfr⟩ := HM.out.way.at' p hpl3
                rw [HNW.out] at hcn
                simp only [Value.slice.injEq] at e1
                obtain ⟨rfl, -, rfl⟩ := e1
                obtain ⟨y0, y1, y2, y3, y4, y5, y6, y7, y8⟩ := hfr.cells
                have hyg : S.get p = S.way[p] := by unfold Ws.get; rw [List.getElem?_eq_getElem hpl3]; rfl
                have hyd := HF.out.get p hpl3
                rw [hyg] at hyd
                have HYG := Lib.hid hyg
                clear hfr hyg
                generalize S.way[p] = y at *
                obtain ⟨f0, f1, f2, f3, f4, f5, f6, f7, f8⟩ := y
                dsimp only at y0 y1 y2 y3 y4 y5 y6 y7 y8
                have hpw : (p : Int) < (nw : Int) := by have := HP2.out; omega
                have HE := Lib.hid (show S.step (spOf (xd, xa, xs)) = { S with way := S.way ++ [⟨f0, f1, f2, f3, f4, f5, f6, f7, f8⟩] } from (step4 HK.out).trans (by unfold Ws.again; rw [HNW.out, if_neg hw0, if_pos h200, HP.out, HYG.out]))
                have hfw : S.way.length + 1 ≤ 1000000 := by rw [HNW.out]; omega
                have HFW := Lib.hid hfw
                clear hfw h200 hyd
                go_wp2_with (at_builtin; refine wpList_append_frames rfl _ _ rfl w.heap.size _ _ rfl ((HMX.out _ _).below ((Below.refl _ _).alloc (Nat.le_refl _) _)).way _ rfl [⟨f0, f1, f2, f3, f4, f5, f6, f7, f8⟩] ((given_two wr _ ⟨f0, f1, f2, f3, f4, f5, f6, f7, f8⟩ _ _)) HFW.out ((HMX.out _ _).below ((Below.refl _ _).alloc (Nat.le_refl _) _)).size ?_; intro v5 w5 ho5 hg5 hat5; have hM5 := ((HMX.out _ _).below ((Below.refl _ _).alloc (Nat.le_refl _) _)).way_append ho5 hg5)
                exact ⟨⟨k + 1, by omega, by omega, by go_num, by rw [HR.out, HE.out]; exact hM5⟩, by simp [intOf]; omega⟩
              · have h200i : ¬ (nw : Int) < 200 := by omega
                have HE := Lib.hid (show S.step (spOf (xd, xa, xs)) = S from (step4 HK.out).trans (by unfold Ws.again; rw [HNW.out, if_neg hw0, if_neg h200]))
                clear h200
                go_wp2
                exact ⟨⟨k + 1, by omega, by omega, by go_num, by rw [HR.out, HE.out]; exact HMX.out _ _⟩, by simp [intOf]; omega⟩
          · skip
            have HK25 : Hid (Ws.kind (spOf (xd, xa, xs)) = 2 ∨ Ws.kind (spOf (xd, xa, xs)) = 5) := Lib.hid (by rw [show Ws.kind (spOf (xd, xa, xs)) = K from HK.out]; exact hK25)
            have hkn0 : ((K : Int) == 0) = false := by rw [beq_eq_false_iff_ne]; omega
            have hkn1 : ((K : Int) == 1) = false := by rw [beq_eq_false_iff_ne]; omega
            go_upto_if 91 with fail
            go_cut [91] from 39 to 165 (fun s91 wx => s91 = .bool true ∧ wx = wr.alloc (.cells #[.int .i64 xd, .int .i64 xa, .string xs] 64))
            case first =>
              rcases hK25 with hk | hk
              · have hkb : ((K : Int) == 2) = true := by rw [hk]; rfl
                clear hk
                go_wp2_with fail
                go_meet
                exact ⟨by first | rfl | (rw [hkb]; done) | (rw [hkc]; done), rfl⟩
              · have hkb : ((K : Int) == 2) = false := by rw [hk]; rfl
                have hkc : ((K : Int) == 5) = true := by rw [hk]; rfl
                clear hk
                go_wp2_with fail
                go_meet
                exact ⟨by first | rfl | (rw [hkb]; done) | (rw [hkc]; done), rfl⟩
            case rest =>
              obtain ⟨rfl, rfl⟩ := hcut
              by_cases hw0 : nw = 0
              · skip
                obtain rfl : nw = 0 := hw0
                have hw0i : ¬ (0 : Int) < ((0 : Nat) : Int) := by decide
                have HE := Lib.hid (show S.step (spOf (xd, xa, xs)) = S from (step2 HK25.out).trans (by unfold Ws.comes; rw [if_pos HNW.out]))
                go_wp2
                exact ⟨⟨k + 1, by omega, by omega, by go_num, by rw [HR.out, HE.out]; exact HMX.out _ _⟩, by simp [intOf]; omega⟩
              · skip
                have hw0i : (0 : Int) < (nw : Int) := by omega
                have hpl2 := hpl hw0
                have hz0 : ((nw : Int) == 0) = false := by rw [beq_eq_false_iff_ne]; omega
                have HP2 := Lib.hid hpl2
                clear hpl hpl2
                have hpl3 : p < S.way.length := by rw [HNW.out]; exact HP2.out
                obtain ⟨g, c', e1, hcn, _, hgw, hfz, hfr⟩ := HM.out.way.at' p hpl3
                rw [HNW.out] at hcn
                simp only [Value.slice.injEq] at e1
                obtain ⟨rfl, -, rfl⟩ := e1
                obtain ⟨y0, y1, y2, y3, y4, y5, y6, y7, y8⟩ := hfr.cells
                have hyg : S.get p = S.way[p] := by unfold Ws.get; rw [List.getElem?_eq_getElem hpl3]; rfl
                have hyd := HF.out.get p hpl3
                rw [hyg] at hyd
                have HYG := Lib.hid hyg
                clear hfr hyg
                generalize S.way[p] = y at *
                obtain ⟨f0, f1, f2, f3, f4, f5, f6, f7, f8⟩ := y
                dsimp only at y0 y1 y2 y3 y4 y5 y6 y7 y8
                have hpw : (p : Int) < (nw : Int) := by have := HP2.out; omega
                rcases hyd with hyd | hyd
                · obtain ⟨rfl, rfl, rfl, hy4, nd0⟩ := hyd
                  have hyd : Ws.IsData S.sent ⟨f0, 1, 1, 2, f4, f5, f6, f7, f8⟩ := ⟨rfl, rfl, rfl, hy4, nd0⟩
                  clear hy4 nd0
                  obtain ⟨V, hV⟩ : ∃ V, (wr.alloc (.cells #[.int .i64 xd, .int .i64 xa, .string xs] 64)).alloc (.cells #[.int .i64 f0, .int .i64 1, .int .i64 1, .int .i64 2, .int .u32 (f4.toNat : Int), .int .u32 (f5.toNat : Int), .int .u32 (f6.toNat : Int), .int .u32 (f7.toNat : Int), .string f8] 24) = V := ⟨_, rfl⟩
                  have hMd : Mem a ma b mb w.heap.size S (.slice (some ⟨g, 0, none⟩) nw cwc) u14 u15 w V.drew := by rw [← hV]; exact ((HMX.out _ _).below ((Below.refl _ _).alloc (Nat.le_refl _) _)).below (Below.refl _ _).drew
                  have hrow : Row V (wr.heap.size + 1) #[.int .i64 f0, .int .i64 1, .int .i64 1, .int .i64 2, .int .u32 (f4.toNat : Int), .int .u32 (f5.toNat : Int), .int .u32 (f6.toNat : Int), .int .u32 (f7.toNat : Int), .string f8] 24 := by
                    rw [← hV]
                    have := Row.new (wr.alloc (.cells #[.int .i64 xd, .int .i64 xa, .string xs] 64)) #[.int .i64 f0, .int .i64 1, .int .i64 1, .int .i64 2, .int .u32 (f4.toNat : Int), .int .u32 (f5.toNat : Int), .int .u32 (f6.toNat : Int), .int .u32 (f7.toNat : Int), .string f8] 24
                    rw [World.size_alloc] at this
                    exact this
                  have HV := Lib.hid hV
                  have HY := Lib.hid (fun (W6 : World) (hb : Below V.drew.heap.size V.drew W6) => show W6.cell? ⟨wr.heap.size + 1, 0, none⟩ = some (.int .i64 f0) ∧ W6.cell? ⟨wr.heap.size + 1, 1, none⟩ = some (.int .i64 1) ∧ W6.cell? ⟨wr.heap.size + 1, 2, none⟩ = some (.int .i64 1) ∧ W6.cell? ⟨wr.heap.size + 1, 3, none⟩ = some (.int .i64 2) ∧ W6.cell? ⟨wr.heap.size + 1, 4, none⟩ = some (.int .u32 (f4.toNat : Int)) ∧ W6.cell? ⟨wr.heap.size + 1, 5, none⟩ = some (.int .u32 (f5.toNat : Int)) ∧ W6.cell? ⟨wr.heap.size + 1, 6, none⟩ = some (.int .u32 (f6.toNat : Int)) ∧ W6.cell? ⟨wr.heap.size + 1, 7, none⟩ = some (.int .u32 (f7.toNat : Int)) ∧ W6.cell? ⟨wr.heap.size + 1, 8, none⟩ = some (.string f8) from by have r : Row W6 (wr.heap.size + 1) #[.int .i64 f0, .int .i64 1, .int .i64 1, .int .i64 2, .int .u32 (f4.toNat : Int), .int .u32 (f5.toNat : Int), .int .u32 (f6.toNat : Int), .int .u32 (f7.toNat : Int), .string f8] 24 := Row.below (W := V.drew) hrow hb (Row.lt hrow); exact ⟨r.cell 0 _ rfl, r.cell 1 _ rfl, r.cell 2 _ rfl, r.cell 3 _ rfl, r.cell 4 _ rfl, r.cell 5 _ rfl, r.cell 6 _ rfl, r.cell 7 _ rfl, r.cell 8 _ rfl⟩)
                  clear hV hrow
                  obtain ⟨wm, hmk, hF0, hB0⟩ := run_make_frames V.drew w.heap.size nw (by omega) hMd.size
                  have HD := Lib.hid (drop_facts HNW.out hMd hF0 hB0 p (by rw [HNW.out]; exact HP2.out))
                  have HD2 := Lib.hid (fun (w5 : World) (hg : wm.grownBy w5 (some V.heap.size)) => drop_facts2 HNW.out hMd hB0 hg p (by rw [HNW.out]; exact HP2.out) hcn)
                  have HFW := Lib.hid (show ([] : List Fr).length + (S.way.take p).length ≤ 1000000 by rw [List.length_nil, List.length_take, HNW.out]; omega)
                  have HFW2 := Lib.hid (show ([] ++ S.way.take p).length + (S.way.drop (p + 1)).length ≤ 1000000 by rw [List.nil_append, List.length_take, List.length_drop, HNW.out]; omega)
                  have HD3 := Lib.hid (fun (w5 : World) (v5 : Value) (hb : Below V.drew.heap.size V.drew w5) (hat : v5.ownBlock = some V.heap.size ∨ v5.ownBlock = some wm.heap.size) (w6 : World) (hg6 : w5.grownBy w6 v5.ownBlock) (v6 : Value) (ho : Frames w6 w.heap.size v6 (([] ++ S.way.take p) ++ S.way.drop (p + 1))) => drop_end (V := V.drew) hMd hB0 hb hat hg6 ho)
                  clear hF0 hB0
                  have hpc : p ≤ cwc := by have := HP2.out; omega
                  have hpci : (p : Int) ≤ (cwc : Int) := by omega
                  have hp1n : p + 1 ≤ nw := HP2.out
                  have hp1i : (p : Int) + 1 ≤ (nw : Int) := by omega
                  have h0p1 : (0 : Int) ≤ (p : Int) + 1 := by omega
                  have htp1 : ((p : Int) + 1).toNat = p + 1 := by omega
                  have hwp1 : IntKind.i64.wrap ((p : Int) + 1) = (p : Int) + 1 := IntWalk.i64_in _ (by omega)
                  have hbg : S.b.got < 1000 := by have := HF.out.got; have := HF.out.few; omega
                  obtain ⟨nd, hnd⟩ := hyd.2.2.2.2
                  have hds : f8.size ≤ 1000000 := by have := HF.out.small f8 (List.mem_of_getElem? hnd.2); omega
                  have HRB := Lib.hid (fun (W : World) (wv : Value) (h : Mem a ma b mb w.heap.size { S with way := ([] ++ S.way.take p) ++ S.way.drop (p + 1) } wv u14 u15 w W) => show Calls _ _ #[_, .agg #[.int .i64 f0, .int .i64 1, .int .i64 1, .int .i64 2, .int .u32 (f4.toNat : Int), .int .u32 (f5.toNat : Int), .int .u32 (f6.toNat : Int), .int .u32 (f7.toNat : Int), .string f8]] _ _ from memRecvB h ⟨f0, 1, 1, 2, f4, f5, f6, f7, f8⟩ hbg hds (.inl rfl) HF.out.bm.2.1.symm HF.out.bm.1.symm)
                  have HE := Lib.hid (show S.step (spOf (xd, xa, xs)) = { { { S with way := ([] ++ S.way.take p) ++ S.way.drop (p + 1) } with b := S.b.recv ⟨f0, 1, 1, 2, f4, f5, f6, f7, f8⟩ } with came := S.came ++ S.b.recvD ⟨f0, 1, 1, 2, f4, f5, f6, f7, f8⟩, way := (([] ++ S.way.take p) ++ S.way.drop (p + 1)) ++ S.b.recvA ⟨f0, 1, 1, 2, f4, f5, f6, f7, f8⟩ } from (step2 HK25.out).trans (by unfold Ws.comes; rw [HNW.out, if_neg hw0, show S.pos (spOf (xd, xa, xs)) = p from HP.out, HYG.out]; rfl))
                  have hdl : (S.b.recvD ⟨f0, 1, 1, 2, f4, f5, f6, f7, f8⟩).length ≤ 1 ∧ (S.b.recvA ⟨f0, 1, 1, 2, f4, f5, f6, f7, f8⟩).length ≤ 1 := recv_few _ _
                  have hcl : S.came.length ≤ 1000 := by have h1 := HF.out.came; have h2 := HF.out.few; have h3 := HF.out.got; rw [h1, List.length_take]; omega
                  have HFW3 := Lib.hid (show S.came.length + (S.b.recvD ⟨f0, 1, 1, 2, f4, f5, f6, f7, f8⟩).length ≤ 1000000 by omega)
                  have HFW4 := Lib.hid (show (([] ++ S.way.take p) ++ S.way.drop (p + 1)).length + (S.b.recvA ⟨f0, 1, 1, 2, f4, f5, f6, f7, f8⟩).length ≤ 1000000 by rw [List.length_append, List.nil_append, List.length_take, List.length_drop, HNW.out]; omega)
                  clear hbg hds hdl hcl hnd hyd
                  go_wp2
                  rw [HV.out]
                  go_region_law (first
                    | (refine step_append_frames rfl _ _ rfl w.heap.size (.slice (some ⟨V.heap.size, 0, none⟩) 0 (nw)) [] rfl HD.out.1 _ rfl (S.way.take p) HD.out.2.1 HFW.out HD.out.2.2 ?_; intro v5 w5 ho5 hg5 hat5; obtain ⟨hb5, hgr5, hsz5⟩ := HD2.out w5 hg5)
                    | (refine step_append_frames rfl _ _ rfl w.heap.size v5 _ rfl ho5 _ rfl (S.way.drop (p + 1)) (hgr5) HFW2.out hsz5 ?_; intro v6 w6 ho6 hg6 hat6; obtain ⟨hM6, hb6⟩ := HD3.out w5 v5 hb5 hat5 w6 hg6 v6 ho6))
                  obtain ⟨g0, g1, g2, g3, g4, g5, g6, g7, g8⟩ := HY.out _ hb6
                  go_wp2_with (first
                    | (go_at_call 9; refine (HRB.out _ _ hM6).mono ?_; rintro e w7 ⟨⟨dv, av, rfl, hdv, hav, -, -⟩, hM7⟩)
                    | (at_builtin; refine wpList_append_words rfl _ _ rfl w.heap.size _ _ rfl hM7.came _ rfl _ hdv.given HFW3.out hM7.size ?_; intro v8 w8 ho8 hg8 hat8; have hM8 := hM7.came_append ho8 hg8 hat8; have hav8 := Mem.words_frames hM7.came hav hg8)
                    | (at_builtin; refine wpList_append_frames rfl _ _ rfl w.heap.size _ _ rfl hM8.way _ rfl _ hav8.given HFW4.out hM8.size ?_; intro v9 w9 ho9 hg9 hat9; have hM9 := hM8.way_append ho9 hg9))
                  exact ⟨⟨k + 1, by omega, by omega, by go_num, by rw [HR.out, HE.out]; exact hM9⟩, by simp [intOf]; omega⟩
                · obtain ⟨rfl, rfl, rfl, hy4, hy5, nd0⟩ := hyd
                  have hyd := hy4
                  clear hy4 hy5 nd0
                  obtain ⟨V, hV⟩ : ∃ V, (wr.alloc (.cells #[.int .i64 xd, .int .i64 xa, .string xs] 64)).alloc (.cells #[.int .i64 f0, .int .i64 2, .int .i64 2, .int .i64 1, .int .u32 (f4.toNat : Int), .int .u32 (f5.toNat : Int), .int .u32 (f6.toNat : Int), .int .u32 (f7.toNat : Int), .string f8] 24) = V := ⟨_, rfl⟩
                  have hMd : Mem a ma b mb w.heap.size S (.slice (some ⟨g, 0, none⟩) nw cwc) u14 u15 w V.drew := by rw [← hV]; exact ((HMX.out _ _).below ((Below.refl _ _).alloc (Nat.le_refl _) _)).below (Below.refl _ _).drew
                  have hrow : Row V (wr.heap.size + 1) #[.int .i64 f0, .int .i64 2, .int .i64 2, .int .i64 1, .int .u32 (f4.toNat : Int), .int .u32 (f5.toNat : Int), .int .u32 (f6.toNat : Int), .int .u32 (f7.toNat : Int), .string f8] 24 := by
                    rw [← hV]
                    have := Row.new (wr.alloc (.cells #[.int .i64 xd, .int .i64 xa, .string xs] 64)) #[.int .i64 f0, .int .i64 2, .int .i64 2, .int .i64 1, .int .u32 (f4.toNat : Int), .int .u32 (f5.toNat : Int), .int .u32 (f6.toNat : Int), .int .u32 (f7.toNat : Int), .string f8] 24
                    rw [World.size_alloc] at this
                    exact this
                  have HV := Lib.hid hV
                  have HY := Lib.hid (fun (W6 : World) (hb : Below V.drew.heap.size V.drew W6) => show W6.cell? ⟨wr.heap.size + 1, 0, none⟩ = some (.int .i64 f0) ∧ W6.cell? ⟨wr.heap.size + 1, 1, none⟩ = some (.int .i64 2) ∧ W6.cell? ⟨wr.heap.size + 1, 2, none⟩ = some (.int .i64 2) ∧ W6.cell? ⟨wr.heap.size + 1, 3, none⟩ = some (.int .i64 1) ∧ W6.cell? ⟨wr.heap.size + 1, 4, none⟩ = some (.int .u32 (f4.toNat : Int)) ∧ W6.cell? ⟨wr.heap.size + 1, 5, none⟩ = some (.int .u32 (f5.toNat : Int)) ∧ W6.cell? ⟨wr.heap.size + 1, 6, none⟩ = some (.int .u32 (f6.toNat : Int)) ∧ W6.cell? ⟨wr.heap.size + 1, 7, none⟩ = some (.int .u32 (f7.toNat : Int)) ∧ W6.cell? ⟨wr.heap.size + 1, 8, none⟩ = some (.string f8) from by have r : Row W6 (wr.heap.size + 1) #[.int .i64 f0, .int .i64 2, .int .i64 2, .int .i64 1, .int .u32 (f4.toNat : Int), .int .u32 (f5.toNat : Int), .int .u32 (f6.toNat : Int), .int .u32 (f7.toNat : Int), .string f8] 24 := Row.below (W := V.drew) hrow hb (Row.lt hrow); exact ⟨r.cell 0 _ rfl, r.cell 1 _ rfl, r.cell 2 _ rfl, r.cell 3 _ rfl, r.cell 4 _ rfl, r.cell 5 _ rfl, r.cell 6 _ rfl, r.cell 7 _ rfl, r.cell 8 _ rfl⟩)
                  clear hV hrow
                  obtain ⟨wm, hmk, hF0, hB0⟩ := run_make_frames V.drew w.heap.size nw (by omega) hMd.size
                  have HD := Lib.hid (drop_facts HNW.out hMd hF0 hB0 p (by rw [HNW.out]; exact HP2.out))
                  have HD2 := Lib.hid (fun (w5 : World) (hg : wm.grownBy w5 (some V.heap.size)) => drop_facts2 HNW.out hMd hB0 hg p (by rw [HNW.out]; exact HP2.out) hcn)
                  have HFW := Lib.hid (show ([] : List Fr).length + (S.way.take p).length ≤ 1000000 by rw [List.length_nil, List.length_take, HNW.out]; omega)
                  have HFW2 := Lib.hid (show ([] ++ S.way.take p).length + (S.way.drop (p + 1)).length ≤ 1000000 by rw [List.nil_append, List.length_take, List.length_drop, HNW.out]; omega)
                  have HD3 := Lib.hid (fun (w5 : World) (v5 : Value) (hb : Below V.drew.heap.size V.drew w5) (hat : v5.ownBlock = some V.heap.size ∨ v5.ownBlock = some wm.heap.size) (w6 : World) (hg6 : w5.grownBy w6 v5.ownBlock) (v6 : Value) (ho : Frames w6 w.heap.size v6 (([] ++ S.way.take p) ++ S.way.drop (p + 1))) => drop_end (V := V.drew) hMd hB0 hb hat hg6 ho)
                  clear hF0 hB0
                  have hpc : p ≤ cwc := by have := HP2.out; omega
                  have hpci : (p : Int) ≤ (cwc : Int) := by omega
                  have hp1n : p + 1 ≤ nw := HP2.out
                  have hp1i : (p : Int) + 1 ≤ (nw : Int) := by omega
                  have h0p1 : (0 : Int) ≤ (p : Int) + 1 := by omega
                  have htp1 : ((p : Int) + 1).toNat = p + 1 := by omega
                  have hwp1 : IntKind.i64.wrap ((p : Int) + 1) = (p : Int) + 1 := IntWalk.i64_in _ (by omega)
                  have HRA := Lib.hid (fun (W : World) (wv : Value) (h : Mem a ma b mb w.heap.size { S with way := ([] ++ S.way.take p) ++ S.way.drop (p + 1) } wv u14 u15 w W) => show Calls _ _ #[_, .agg #[.int .i64 f0, .int .i64 2, .int .i64 2, .int .i64 1, .int .u32 (f4.toNat : Int), .int .u32 (f5.toNat : Int), .int .u32 (f6.toNat : Int), .int .u32 (f7.toNat : Int), .string f8]] _ _ from memRecvA h ⟨f0, 2, 2, 1, f4, f5, f6, f7, f8⟩ rfl HF.out.am.2.1.symm HF.out.am.1.symm)
                  have HE := Lib.hid (show S.step (spOf (xd, xa, xs)) = { { S with way := ([] ++ S.way.take p) ++ S.way.drop (p + 1) } with a := S.a.recv ⟨f0, 2, 2, 1, f4, f5, f6, f7, f8⟩ } from (step2 HK25.out).trans (by unfold Ws.comes; rw [HNW.out, if_neg hw0, show S.pos (spOf (xd, xa, xs)) = p from HP.out, HYG.out]; rfl))
                  clear hyd
                  go_wp2
                  rw [HV.out]
                  go_region_law (first
                    | (refine step_append_frames rfl _ _ rfl w.heap.size (.slice (some ⟨V.heap.size, 0, none⟩) 0 (nw)) [] rfl HD.out.1 _ rfl (S.way.take p) HD.out.2.1 HFW.out HD.out.2.2 ?_; intro v5 w5 ho5 hg5 hat5; obtain ⟨hb5, hgr5, hsz5⟩ := HD2.out w5 hg5)
                    | (refine step_append_frames rfl _ _ rfl w.heap.size v5 _ rfl ho5 _ rfl (S.way.drop (p + 1)) (hgr5) HFW2.out hsz5 ?_; intro v6 w6 ho6 hg6 hat6; obtain ⟨hM6, hb6⟩ := HD3.out w5 v5 hb5 hat5 w6 hg6 v6 ho6))
                  obtain ⟨g0, g1, g2, g3, g4, g5, g6, g7, g8⟩ := HY.out _ hb6
                  go_wp2_with (go_at_call 9; refine (HRA.out _ _ hM6).mono ?_; rintro e w7 ⟨⟨dv, av, rfl, -, -⟩, hM7⟩)
                  exact ⟨⟨k + 1, by omega, by omega, by go_num, by rw [HR.out, HE.out]; exact hM7⟩, by simp [intOf]; omega⟩
      · have hki : (k : Int) < (len : Int) := by omega
        have hki100 : ¬ (k : Int) < 100 := by omega
        have hk3 : k = 100 := by omega
        have HM := Lib.hid (show Mem a ma b mb w.heap.size (Ws.run win ((l.take 100).map spOf)) u13 u14 u15 w wr from hk3 ▸ hM)
        clear hM hk3
        go_wp2
        refine bodyPost_ret (v := .tuple #[u14, u15, .pointer (some ⟨a, 0, none⟩), .pointer (some ⟨b, 0, none⟩), .bool true]) ?_ rfl ⟨a, ma, b, mb, u13, u14, u15, rfl, by have h := HM.out; rwa [List.map_take] at h⟩
        simp [results, Try.results14, go_sem]
    · have hki : ¬ (k : Int) < (len : Int) := by omega
      have hk3 : l.take k = l.take 100 := by rw [List.take_of_length_le (by rw [HL.out]; omega), List.take_of_length_le (by rw [HL.out]; omega)]
      have HM := Lib.hid (show Mem a ma b mb w.heap.size (Ws.run win ((l.take 100).map spOf)) u13 u14 u15 w wr from hk3 ▸ hM)
      clear hM hk3
      go_wp2
      refine bodyPost_ret (v := .tuple #[u14, u15, .pointer (some ⟨a, 0, none⟩), .pointer (some ⟨b, 0, none⟩), .bool true]) ?_ rfl ⟨a, ma, b, mb, u13, u14, u15, rfl, by have h := HM.out; rwa [List.map_take] at h⟩
      simp [results, Try.results14, go_sem]
end Go.Proofs.Ytlbhfkiihikimaa
