/-
  The law LinkWindow: walked.
-/
import Derived.Test.YtlbhfkiihikimaaLkOrder
import Derived.Test.YtlbhfkiihikimaaLkAllMath
namespace Go.Proofs.Ytlbhfkiihikimaa
open Go.RowKit Go.Shelf
attribute [local go_sem] Oper.semAt_some
set_option linter.unusedVariables false
set_option linter.unusedSimpArgs false

section
variable {a ma b mb n : Nat} {S : Ws} {wv sv cv : Value} {w W : World}
theorem memMarks (h : Mem a ma b mb n S wv sv cv w W) : Calls Try.prog 13 #[.pointer (some ⟨a, 0, none⟩)] W fun e w' =>
    ∃ g, e = .returned (.slice (some ⟨g, 0, none⟩) 4 4) ∧ Row w' g #[.int .u32 ((S.a.top : Int) + 1), .int .u32 (S.a.out.length : Int), .int .u32 (S.a.plife.toNat : Int), .int .u32 ((S.a.got : Int) + 1)] 22 ∧ Mem a ma b mb n S wv sv cv w w' :=
  (lkMarks S.a a ma W h.pair.l).mono fun e w' ⟨⟨g, h1, _, h2⟩, h3⟩ => ⟨g, h1, h2, h.below h3⟩
end
set_option maxRecDepth 100000 in
set_option maxHeartbeats 8000000 in
theorem windowYes (win : Int) (v0 : Value) (l : List Sc) (w : World) (hW : 1 ≤ win ∧ win ≤ 64) (hT : LkSteps w v0 l) (hll : l.length ≤ maxLen) (hsz : ∀ x ∈ l, x.2.2.size ≤ maxLen) : Calls Try.prog 6 #[.int .i64 win, v0] w fun e w' => e = .returned (.bool true) ∧ Below w.heap.size w w' := by
  have HEN := Lib.hid (fun (W : World) (hb : Below w.heap.size w W) => lawEnded win v0 l W hW (hT.below hb (Nat.le_refl _)) hll hsz)
  have HF := Lib.hid (fits100 hW l)
  clear hT hll hsz hW
  generalize Ws.run win ((l.take 100).map spOf) = S at *
  go_enter Try.func6, Try.ntmps6
  go_upto_region 7 with (first
    | (go_at_call 8; refine (lawShown6 _).mono ?_; rintro e w1 ⟨rfl, hb1⟩)
    | (go_at_call 14; have H := HEN; clear HEN; refine (H.out _ hb1).mono ?_; rintro e w2 ⟨a, ma, b, mb, wv, sv, cv, rfl, hM⟩; clear H)
    | (go_at_call 12; have h := hM; clear hM; refine (memOut h).mono ?_; rintro e w3 ⟨⟨u, rfl, hu⟩, hM3, hb3⟩; clear h hb3; have hM4 := hM3.way_new (Below.refl _ _) hu; clear hM3)
    | (go_at_call 13; refine (memMarks hM4).mono ?_; rintro e w4 ⟨gm, rfl, hrm, hM5⟩; clear hM4))
  obtain ⟨au, cu, hue, hcu⟩ := hu.form
  rw [Lk.sent_length] at hue hcu
  obtain ⟨m, hm⟩ : ∃ m, S.a.out.length = m := ⟨_, rfl⟩
  obtain ⟨ns, hns⟩ : ∃ ns, S.sent.length = ns := ⟨_, rfl⟩
  have HMM := Lib.hid hm
  have HNS := Lib.hid hns
  rw [hm] at hue hcu hrm
  have hm64 : m ≤ 64 := by have := HF.out.full; have := HF.out.win; omega
  have hns100 : ns ≤ 100 := by have := HF.out.few; omega
  have htop : S.a.top = ns := by rw [HF.out.top, hns]
  have hbase : S.a.base + m = ns := by rw [← htop, ← hm]; rfl
  rw [htop] at hrm
  have hwin : decide (win < (m : Int)) = false := decide_eq_false (by have := HF.out.full; rw [hm] at this; omega)
  obtain ⟨ax, cs, hsv, hcs⟩ := hM5.sent.form
  rw [hns] at hsv hcs
  subst hue
  subst hsv
  clear hm hu hns htop
  have hw1 : IntKind.i64.wrap ((ns : Int) + 1) = (ns : Int) + 1 := IntWalk.i64_in _ (by omega)
  have hw2 : IntKind.i64.wrap (m : Int) = (m : Int) := IntWalk.i64_in _ (by omega)
  have c0 := hrm.cell 0 _ rfl
  have c1 := hrm.cell 1 _ rfl
  have HB := Lib.hid hbase
  have HB1 := Lib.hid hb1
  have HGM := Row.lt hrm
  clear hbase hb1
  go_wp2
  go_loopw [13] (fun i W => ∃ j : Nat, j ≤ m ∧ i = .int .i64 j ∧ Row W gm #[.int .u32 ((ns : Int) + 1), .int .u32 (m : Int), .int .u32 (S.a.plife.toNat : Int), .int .u32 ((S.a.got : Int) + 1)] 22 ∧ Mem a ma b mb w1.heap.size { S with way := S.a.sent } (.slice au m cu) (.slice ax ns cs) cv w1 W) (fun i _ => m - (intOf i).toNat)
  case atStart => exact ⟨0, Nat.zero_le _, rfl, hrm, hM5⟩
  case round =>
    clear hrm hM5 c0 c1
    obtain ⟨j, hj, rfl, hrm, hM⟩ := hrel
    by_cases hlt : j < m
    · have hji : (j : Int) < (m : Int) := by omega
      have hjl : j < S.a.out.length := by rw [HMM.out]; exact hlt
      obtain ⟨d, f6, hsd, hd⟩ := Ws.sent_get HF.out j hjl
      have hjs : j < S.a.sent.length := by rw [Lk.sent_length]; exact hjl
      obtain ⟨g, c', e1, _, _, hgw, hfz, hfr⟩ := hM.way.at' j hjs
      rw [List.getElem?_eq_getElem hjs] at hsd
      simp only [Option.some.injEq] at hsd
      have hfr2 : HasFr wr g (j * 9) ⟨2, 1, 1, 2, 3, Lk.bv (S.a.base + j + 1), f6, 0, d⟩ := hsd ▸ hfr
      simp only [Value.slice.injEq] at e1
      obtain ⟨rfl, -, -⟩ := e1
      obtain ⟨y0, y1, y2, y3, y4, y5, y6, y7, y8⟩ := hfr2.cells
      have hsl := (List.getElem?_eq_some_iff.1 hd).1
      obtain ⟨gs, c2, e2, _, _, hgs, hsc⟩ := hM.sent.cell (S.a.base + j) hsl
      simp only [Value.slice.injEq] at e2
      obtain ⟨rfl, -, -⟩ := e2
      have hsc2 : wr.cell? ⟨gs, S.a.base + j, none⟩ = some (.string d) := by
        have h3 := (List.getElem?_eq_some_iff.1 hd).2
        rw [← h3]; exact hsc
      have hbase := HB.out
      obtain ⟨q, hq⟩ : ∃ q, S.a.base + j = q := ⟨_, rfl⟩
      have hqn : q < ns := by rw [← hq, ← hbase]; omega
      have hqi : (q : Int) < (ns : Int) := by omega
      dsimp only at y5 y8
      rw [Lk.bv_toNat _ (by omega), hq] at y5
      rw [hq] at hsc2
      have hv1 : IntKind.u32.wrap ((m : Int) - (j : Int)) = (m : Int) - (j : Int) := IntWalk.u32_in _ (by omega)
      have hv2 : IntKind.u32.wrap ((ns : Int) + 1 - ((m : Int) - (j : Int))) = (q : Int) + 1 := by rw [IntWalk.u32_in _ (by omega)]; omega
      have hv3 : IntKind.u32.wrap ((q : Int) + 1 - 1) = (q : Int) := by rw [IntWalk.u32_in _ (by omega)]; omega
      have hv4 : IntKind.i64.wrap ((m : Int) - (j : Int)) = (m : Int) - (j : Int) := IntWalk.i64_in _ (by omega)
      have hv5 : (q : Int) + 1 - 1 = (q : Int) := by omega
      have hv6 : IntKind.u32.wrap (q : Int) = (q : Int) := IntWalk.u32_in _ (by omega)
      have c0 := hrm.cell 0 _ rfl
      have y5' : wr.cell? ⟨g, j * 9 + 5, none⟩ = some (.int .u32 ((q : Int) + 1)) := y5
      have HRE := Lib.hid (fun k => (⟨hrm, hM.below (drewN_below (Below.refl _ wr) k)⟩ : Row (wr.drewN k) gm _ _ ∧ Mem a ma b mb w1.heap.size { S with way := S.a.sent } (.slice (some ⟨g, 0, none⟩) m cu) (.slice (some ⟨gs, 0, none⟩) ns cs) cv w1 (wr.drewN k)))
      clear y5 hfr2 hfr hsd hd hsc hsl hbase hq hrm hM
      go_wp2
      go_quiet (fail)
      go_wp2
      exact ⟨⟨j + 1, by omega, by go_num, (HRE.out _).1, (HRE.out _).2⟩, by simp [intOf]; omega⟩
    · have hji : ¬ (j : Int) < (m : Int) := by omega
      have HE := Lib.hid (HB1.out.trans (hM.bel.mono HB1.out.size))
      clear hM hrm
      go_wp2
      go_ret
      exact ⟨rfl, HE.out⟩
theorem lawWindow6 (win : Int) (v0 : Value) (l : List Sc) (w : World) (hT : LkSteps w v0 l) (hll : l.length ≤ maxLen) (hsz : ∀ x ∈ l, (x.1 ≤ 2 ^ 63 - 1 ∧ x.2.1 ≤ 2 ^ 63 - 1 ∧ x.2.2.size ≤ maxLen)) : Calls Try.prog 6 #[.int .i64 win, v0] w fun e w' => e = .returned (.bool true) ∧ Below w.heap.size w w' := by
  by_cases hW : 1 ≤ win ∧ win ≤ 64
  · exact windowYes win v0 l w hW hT hll (fun x hx => (hsz x hx).2.2)
  · have HN := Lib.hid (fun W => lawEndedNo win v0 (by omega) W)
    clear hT hll hsz hW
    go_enter Try.func6, Try.ntmps6
    go_wp2_with (first
      | (go_at_call 8; refine (lawShown6 _).mono ?_; rintro e w1 ⟨rfl, hb1⟩)
      | (go_at_call 14; refine (HN.out _).mono ?_; rintro e w2 ⟨rfl, hb2⟩))
    go_ret
    exact ⟨rfl, hb1.trans (hb2.mono hb1.size)⟩
end Go.Proofs.Ytlbhfkiihikimaa
