/-
  The law LinkAll: walked.
-/
import Derived.Test.YtlbhfkiihikimaaLkOrder
import Derived.Test.YtlbhfkiihikimaaLkAllMath
namespace Go.Proofs.Ytlbhfkiihikimaa
open Go.RowKit Go.Shelf
attribute [local go_sem] Oper.semAt_some
set_option linter.unusedVariables false
set_option linter.unusedSimpArgs false

abbrev dataAgg (s5 s6 : BitVec 32) (d : ByteArray) : Value := .agg #[.int .i64 2, .int .i64 1, .int .i64 1, .int .i64 2, .int .u32 3, .int .u32 (s5.toNat : Int), .int .u32 (s6.toNat : Int), .int .u32 0, .string d]
abbrev ackAgg (s6 : BitVec 32) : Value := .agg #[.int .i64 2, .int .i64 2, .int .i64 2, .int .i64 1, .int .u32 3, .int .u32 0, .int .u32 (s6.toNat : Int), .int .u32 0, .string ⟨#[]⟩]
section
variable {a ma b mb n : Nat} {S T : Ws} {wv sv cv : Value} {w W : World} {win : Int} {i : Nat} {f6 : BitVec 32} {d : ByteArray}
theorem all_data (hd : Ws.Dl win S i T) (h : Mem a ma b mb n T wv sv cv w W) (hS : Ws.Fits win 100 S) (hi : i < S.a.out.length) (hsd : S.sent[S.a.base + i]? = some d) :
    Calls Try.prog 9 #[.pointer (some ⟨b, 0, none⟩), dataAgg (Lk.bv (S.a.base + i + 1)) f6 d] W fun e w' => ∃ dv g c m, e = .returned (.tuple #[dv, .slice (some ⟨g, 0, none⟩) 1 c, .int .i64 0]) ∧ 1 ≤ c ∧ Words w' n dv (T.b.recvD ⟨2, 1, 1, 2, 3, Lk.bv (S.a.base + i + 1), f6, 0, d⟩) ∧ Frames w' n (.slice (some ⟨g, 0, none⟩) 1 c) [Ws.ackOf m] ∧
      Mem a ma b mb n { T with b := T.b.recv ⟨2, 1, 1, 2, 3, Lk.bv (S.a.base + i + 1), f6, 0, d⟩ } wv sv cv w w' ∧ (T.came.length + (T.b.recvD ⟨2, 1, 1, 2, 3, Lk.bv (S.a.base + i + 1), f6, 0, d⟩).length ≤ 1000000) ∧
      Ws.Dl win S (i + 1) { { { T with b := T.b.recv ⟨2, 1, 1, 2, 3, Lk.bv (S.a.base + i + 1), f6, 0, d⟩ } with came := T.came ++ T.b.recvD ⟨2, 1, 1, 2, 3, Lk.bv (S.a.base + i + 1), f6, 0, d⟩ } with a := T.a.recv (Ws.ackOf m) } := by
  have hbg : T.b.got < 1000 := by have := hd.fits.got; have := hd.fits.few; omega
  have hds : d.size ≤ 1000000 := by have := hS.small d (List.mem_of_getElem? hsd); omega
  obtain ⟨m, hm, hnx⟩ := hd.step hS hi (f6 := f6) hsd
  refine (memRecvB h ⟨2, 1, 1, 2, 3, Lk.bv (S.a.base + i + 1), f6, 0, d⟩ hbg hds (.inl rfl) hd.fits.bm.2.1.symm hd.fits.bm.1.symm).mono fun e w' ⟨⟨dv, av, e1, e2, e3, _⟩, e4⟩ => ?_
  rw [hm] at e3
  obtain ⟨g, c, e5, hc, _⟩ := e3.get (by simp)
  subst e5
  have hcl : T.came.length ≤ 100 := by have h1 := hd.fits.came; have h2 := hd.fits.few; have h3 := hd.fits.got; rw [h1, List.length_take]; omega
  have hdl := (recv_few T.b ⟨2, 1, 1, 2, 3, Lk.bv (S.a.base + i + 1), f6, 0, d⟩).1
  exact ⟨dv, g, c, m, e1, hc, e2, e3, e4, by omega, hnx⟩
theorem all_ack (h : Mem a ma b mb n T wv sv cv w W) (hf : T.a.peer = 2 ∧ T.a.me = 1) (m : Nat) : Calls Try.prog 9 #[.pointer (some ⟨a, 0, none⟩), ackAgg (Lk.bv m)] W fun e w' => ∃ dv av, e = .returned (.tuple #[dv, av, .int .i64 0]) ∧ Mem a ma b mb n { T with a := T.a.recv (Ws.ackOf m) } wv sv cv w w' :=
  (memRecvA h (Ws.ackOf m) rfl hf.1.symm hf.2.symm).mono fun e w' ⟨⟨dv, av, e1, _⟩, e2⟩ => ⟨dv, av, e1, e2⟩
theorem all_cells (hf : Frames W n wv [Ws.ackOf i]) {g c : Nat} (hv : wv = .slice (some ⟨g, 0, none⟩) 1 c) : W.cell? ⟨g, 0, none⟩ = some (.int .i64 2) ∧ W.cell? ⟨g, 1, none⟩ = some (.int .i64 2) ∧ W.cell? ⟨g, 2, none⟩ = some (.int .i64 2) ∧ W.cell? ⟨g, 3, none⟩ = some (.int .i64 1) ∧ W.cell? ⟨g, 4, none⟩ = some (.int .u32 3) ∧ W.cell? ⟨g, 5, none⟩ = some (.int .u32 0) ∧ W.cell? ⟨g, 6, none⟩ = some (.int .u32 ((Lk.bv i).toNat : Int)) ∧ W.cell? ⟨g, 7, none⟩ = some (.int .u32 0) ∧ W.cell? ⟨g, 8, none⟩ = some (.string ⟨#[]⟩) := by
  obtain ⟨g', c', e, _, _, _, _, hc⟩ := hf.at' 0 (by simp)
  rw [hv] at e
  cases e
  have := hc.cells
  simp only [Nat.zero_mul, Nat.zero_add] at this
  exact this
theorem all_same (hM : Mem a ma b mb n T wv sv cv w W) (hc : T.came = T.sent) (hl : T.came.length ≤ 100000) : Calls Try.prog 15 #[cv, sv] W fun e w' => e = .returned (.bool true) ∧ Below W.heap.size W w' := by
  have h1 := refSame _ _ _ _ _ hM.came.part hM.sent.part hl
  rw [decide_eq_true hc] at h1
  exact h1
theorem all_out (hM : Mem a ma b mb n T wv sv cv w W) (ho : T.a.out = []) : Calls Try.prog 12 #[.pointer (some ⟨a, 0, none⟩)] W fun e w' => ∃ u c, e = .returned (.slice u 0 c) ∧ Mem a ma b mb n T wv sv cv w w' :=
  (memOut hM).mono fun e w' ⟨⟨u, h1, h2⟩, h3, _⟩ => by
    rw [Ws.out_none ho] at h2
    obtain ⟨ao, c, h4, _⟩ := h2.form
    exact ⟨ao, c, by rw [h1, h4]; rfl, h3⟩
end
set_option maxRecDepth 100000 in
set_option maxHeartbeats 8000000 in
theorem allYes (win : Int) (v0 : Value) (l : List Sc) (w : World) (hW : 1 ≤ win ∧ win ≤ 64) (hT : LkSteps w v0 l) (hll : l.length ≤ maxLen) (hsz : ∀ x ∈ l, x.2.2.size ≤ maxLen) : Calls Try.prog 5 #[.int .i64 win, v0] w fun e w' => e = .returned (.bool true) ∧ Below w.heap.size w w' := by
  have HEN := Lib.hid (fun (W : World) (hb : Below w.heap.size w W) => lawEnded win v0 l W hW (hT.below hb (Nat.le_refl _)) hll hsz)
  have HF := Lib.hid (fits100 hW l)
  clear hT hll hsz hW
  generalize Ws.run win ((l.take 100).map spOf) = S at *
  go_enter Try.func5, Try.ntmps5
  go_wp2_with (first
    | (go_at_call 8; refine (lawShown6 _).mono ?_; rintro e w1 ⟨rfl, hb1⟩)
    | (go_at_call 14; have H := HEN; clear HEN; refine (H.out _ hb1).mono ?_; rintro e w2 ⟨a, ma, b, mb, wv, sv, cv, rfl, hM⟩; clear H)
    | (go_at_call 12; have h := hM; clear hM; refine (memOut h).mono ?_; rintro e w3 ⟨⟨u, rfl, hu⟩, hM3, hb3⟩; clear h hb3; have hM4 := hM3.way_new (Below.refl _ _) hu; clear hM3))
  obtain ⟨au, cu, hue, hcu⟩ := hu.form
  rw [Lk.sent_length] at hue hcu
  obtain ⟨m, hm⟩ : ∃ m, S.a.out.length = m := ⟨_, rfl⟩
  have HMM := Lib.hid hm
  rw [hm] at hue hcu
  have hm64 : m ≤ 64 := by have := HF.out.full; have := HF.out.win; omega
  subst hue
  clear hm hu
  go_loopw [7, 12, 13, 14, 15, 16, 17, 18, 19] (fun cv i _ _ _ _ _ _ _ W => ∃ (j : Nat) (T : Ws), j ≤ m ∧ i = .int .i64 j ∧ Ws.Dl win S j T ∧ Mem a ma b mb w1.heap.size T (.slice au m cu) sv cv w1 W) (fun _ i _ _ _ _ _ _ _ _ => m - (intOf i).toNat)
  case atStart => exact ⟨0, _, Nat.zero_le _, rfl, Ws.Dl.begin HF.out, hM4⟩
  case round =>
    clear hM4
    obtain ⟨j, T, hj, rfl, hD, hM⟩ := hrel
    by_cases hlt : j < m
    · have hji : (j : Int) < (m : Int) := by omega
      have hjl : j < S.a.out.length := by rw [HMM.out]; exact hlt
      obtain ⟨d, f6, hsd, hd⟩ := Ws.sent_get HF.out j hjl
      have hway := hM.way
      rw [hD.way] at hway
      have hjs : j < S.a.sent.length := by rw [Lk.sent_length]; exact hjl
      obtain ⟨g, c', e1, _, _, hgw, hfz, hfr⟩ := hway.at' j hjs
      rw [List.getElem?_eq_getElem hjs] at hsd
      simp only [Option.some.injEq] at hsd
      rw [hsd] at hfr
      simp only [Value.slice.injEq] at e1
      obtain ⟨rfl, -, -⟩ := e1
      obtain ⟨y0, y1, y2, y3, y4, y5, y6, y7, y8⟩ := hfr.cells
      have HRB := Lib.hid (all_data (f6 := f6) hD hM HF.out hjl hd)
      have hpm : T.a.peer = 2 ∧ T.a.me = 1 := ⟨hD.fits.am.2.1, hD.fits.am.1⟩
      have HPM := Lib.hid hpm
      clear hway hsd hfr hD hM hd hpm
      dsimp only at y0 y1 y2 y3 y4 y5 y6 y7 y8
      have e3 : ((3 : BitVec 32).toNat : Int) = 3 := rfl
      have e0 : ((0 : BitVec 32).toNat : Int) = 0 := rfl
      rw [e3] at y4
      rw [e0] at y7
      clear e3 e0
      generalize hq5 : Lk.bv (S.a.base + j + 1) = q5 at *
      go_wp2_with (first
        | (go_at_call 9; have h := HRB; clear HRB; refine h.out.mono ?_; rintro e w4 ⟨dv, ga, ca, mm, rfl, hca, hdv, hav, hM5, hfw, hDn⟩; clear h)
        | (at_builtin; refine wpList_append_words rfl _ _ rfl w1.heap.size _ _ rfl hM5.came _ rfl _ hdv.given hfw hM5.size ?_; intro v8 w8 ho8 hg8 hat8; have hM8 := hM5.came_append ho8 hg8 hat8; have hav8 := Mem.words_frames hM5.came hav hg8; obtain ⟨z0, z1, z2, z3, z4, z5, z6, z7, z8⟩ := all_cells hav8 rfl))
      refine wp_loop_rounds 2 ?_
      rw [rounds_succ]
      go_wp2_with (go_at_call 9; refine (all_ack hM8 HPM.out mm).mono ?_; rintro e w9 ⟨dv9, av9, rfl, hM9⟩)
      rw [rounds_succ]
      go_wp2
      exact ⟨⟨j + 1, _, by omega, by go_num, hDn, hM9⟩, by simp [intOf]; omega⟩
    · obtain rfl : j = m := by omega
      have hji : ¬ (j : Int) < (j : Int) := by omega
      obtain ⟨hce, hoe⟩ := Ws.Dl.finish HF.out (by rw [HMM.out]; exact hD)
      have hcl : T.came.length ≤ 100000 := by rw [hce, ← hD.sent]; have := hD.fits.few; omega
      have hcs : T.came = T.sent := by rw [hce, hD.sent]
      have HB := Lib.hid hb1
      have HSM := Lib.hid (fun W (h : Mem a ma b mb w1.heap.size T (.slice au j cu) sv u7 w1 W) => all_same h hcs hcl)
      have HOT := Lib.hid (fun W (h : Mem a ma b mb w1.heap.size T (.slice au j cu) sv u7 w1 W) => all_out h hoe)
      clear hce hoe hcl hcs hD hb1
      go_wp2_with (first
        | (go_at_call 15; have h := hM; clear hM; refine (HSM.out _ h).mono ?_; rintro e w5 ⟨rfl, hb5⟩; have hM5 := h.below hb5; clear h)
        | (go_at_call 12; refine (HOT.out _ hM5).mono ?_; rintro e w6 ⟨uo, co, rfl, hM6⟩))
      go_ret
      exact ⟨rfl, HB.out.trans (hM6.bel.mono HB.out.size)⟩
theorem lawAll6 (win : Int) (v0 : Value) (l : List Sc) (w : World) (hT : LkSteps w v0 l) (hll : l.length ≤ maxLen) (hsz : ∀ x ∈ l, (x.1 ≤ 2 ^ 63 - 1 ∧ x.2.1 ≤ 2 ^ 63 - 1 ∧ x.2.2.size ≤ maxLen)) : Calls Try.prog 5 #[.int .i64 win, v0] w fun e w' => e = .returned (.bool true) ∧ Below w.heap.size w w' := by
  by_cases hW : 1 ≤ win ∧ win ≤ 64
  · exact allYes win v0 l w hW hT hll (fun x hx => (hsz x hx).2.2)
  · have HN := Lib.hid (fun W => lawEndedNo win v0 (by omega) W)
    clear hT hll hsz hW
    go_enter Try.func5, Try.ntmps5
    go_wp2_with (first
      | (go_at_call 8; refine (lawShown6 _).mono ?_; rintro e w1 ⟨rfl, hb1⟩)
      | (go_at_call 14; refine (HN.out _).mono ?_; rintro e w2 ⟨rfl, hb2⟩))
    go_ret
    exact ⟨rfl, hb1.trans (hb2.mono hb1.size)⟩
end Go.Proofs.Ytlbhfkiihikimaa
