/-
  The law BallotMost: walked.
-/
import Derived.Test.YtigameebcicgpaaBtShown
namespace Go.Proofs.Ytigameebcicgpaa
open Go.RowKit Go.Shelf
attribute [local go_sem] Oper.semAt_some
set_option linter.unusedVariables false
set_option linter.unusedSimpArgs false

/-- The first j are one vote. -/
def over (l : List Vt) (x : Vt) (j : Nat) : List Vt := List.replicate (min j l.length) x ++ l.drop j
theorem over_len (l : List Vt) (x : Vt) (j : Nat) : (over l x j).length = l.length := by simp [over]; omega
theorem over_zero (l : List Vt) (x : Vt) : over l x 0 = l := by simp [over]
theorem over_succ (l : List Vt) (x : Vt) (j : Nat) (hj : j < l.length) : (over l x j).set j x = over l x (j + 1) := by
  apply List.ext_getElem?
  intro i
  unfold over
  rw [List.getElem?_set, List.getElem?_append, List.getElem?_append]
  simp only [List.length_replicate, List.length_append, List.length_drop, List.getElem?_replicate, List.getElem?_drop, Nat.min_eq_left (Nat.le_of_lt hj), Nat.min_eq_left (show j + 1 ≤ l.length from hj)]
  by_cases h1 : j = i
  · subst h1
    simp; omega
  · by_cases h2 : i < j
    · simp [h1, h2, show i < j + 1 by omega]
    · rw [if_neg h1, if_neg h2, if_neg (show ¬ i < j + 1 by omega), show j + (i - j) = j + 1 + (i - (j + 1)) by omega]
theorem over_small (l : List Vt) (x : Vt) (j : Nat) (hl : ∀ v ∈ l, v.val'.size ≤ 4100) (hx : x.val'.size ≤ 4100) : ∀ v ∈ over l x j, v.val'.size ≤ 1000000 := fun v hv => by
  rcases List.mem_append.1 hv with h | h
  · rw [(List.mem_replicate.1 h).2]; omega
  · have := hl v (List.mem_of_mem_drop h); omega
/-- What more than half have voted for is decided. -/
theorem over_won (l : List Vt) (b : Nat) (s : ByteArray) (j : Nat) (hb : 1 ≤ b) (h0 : 0 < l.length) (hj : l.length < 2 * j) (hjl : j ≤ l.length) (he : Bt.decE (over l ⟨b, b, s⟩ j) = 0) : Bt.decB (over l ⟨b, b, s⟩ j) = true ∧ Bt.decS (over l ⟨b, b, s⟩ j) = s := by
  have hf : (over l ⟨b, b, s⟩ j).find? (Bt.wins (over l ⟨b, b, s⟩ j)) = some ⟨b, b, s⟩ := by
    obtain ⟨j', rfl⟩ : ∃ j', j = j' + 1 := ⟨j - 1, by omega⟩
    have hw : Bt.wins (over l ⟨b, b, s⟩ (j' + 1)) ⟨b, b, s⟩ = true := by
      unfold Bt.wins
      rw [decide_eq_true_eq]
      refine ⟨hb, ?_⟩
      rw [over_len]
      have : j' + 1 ≤ Bt.count (over l ⟨b, b, s⟩ (j' + 1)) b s := by
        unfold Bt.count over
        rw [List.countP_append, Nat.min_eq_left hjl]
        have e : (List.replicate (j' + 1) (⟨b, b, s⟩ : Vt)).countP (fun v => decide (v.bal = b ∧ v.val' = s)) = j' + 1 := by
          rw [List.countP_replicate]; simp
        rw [e]; omega
      show l.length < 2 * Bt.count (over l ⟨b, b, s⟩ (j' + 1)) b s
      omega
    have hc : over l ⟨b, b, s⟩ (j' + 1) = ⟨b, b, s⟩ :: (List.replicate j' ⟨b, b, s⟩ ++ l.drop (j' + 1)) := by
      unfold over
      rw [Nat.min_eq_left hjl]; rfl
    generalize Bt.wins (over l ⟨b, b, s⟩ (j' + 1)) = P at *
    rw [hc, List.find?_cons, hw]
  unfold Bt.decB Bt.decS Bt.winner
  rw [if_pos he, hf]
  exact ⟨rfl, rfl⟩
theorem Votes.of_owns {w : World} {base n : Nat} {v : Value} {l : List Vt} (h : w.ownsRow base 24 3 v n (flat l)) (hn : l.length = n) : Votes w base v l := by
  subst hn
  rcases h.2 with ⟨h1, h2⟩ | ⟨g, cap, cur, h1, h2, h3, h4, h5, h6, h7⟩
  · exact .inl ⟨h1, List.eq_nil_of_length_eq_zero h2⟩
  · exact .inr ⟨g, cap, cur, h1, h2, h3, h4, h5, by omega, h7⟩
theorem below_grown {w w' : World} (h : w.grownBy w' none) : Below w.heap.size w w' := ⟨h.os, h.tape, h.output, h.size, fun k hk => h.block k hk (by simp)⟩
theorem three_off (w : World) (g B a1 a2 a3 : Nat) (u1 u2 u3 : Value) (h : B ≠ g) : (((w.setCell ⟨g, a1, none⟩ u1).setCell ⟨g, a2, none⟩ u2).setCell ⟨g, a3, none⟩ u3).heap[B]? = w.heap[B]? :=
  (Below.heap_setCell _ ⟨g, a3, none⟩ _ B h).trans ((Below.heap_setCell _ ⟨g, a2, none⟩ _ B h).trans (Below.heap_setCell _ ⟨g, a1, none⟩ _ B h))
theorem castZero (b : Nat) (s : ByteArray) : Bt.castE Vt.zero b s = (if 1 ≤ b ∧ s.size ≤ 4000 then 0 else 2) ∧ ((1 ≤ b ∧ s.size ≤ 4000) → Bt.castV Vt.zero b s = ⟨b, b, s⟩) := by
  have hr : Bt.Right Vt.zero := ⟨Nat.le_refl _, .inr rfl, Nat.zero_le _⟩
  have e : Bt.castE Vt.zero b s = (if 1 ≤ b ∧ s.size ≤ 4000 then 0 else 2) := by
    unfold Bt.castE
    by_cases h : 1 ≤ b ∧ s.size ≤ 4000
    · rw [if_pos ⟨hr, h⟩, if_pos h, if_neg (show ¬ b < Vt.zero.prom from Nat.not_lt_zero _)]
    · rw [if_neg (fun hh => h hh.2), if_neg h]
  refine ⟨e, fun h => ?_⟩
  unfold Bt.castV
  rw [e, if_pos h, if_pos rfl]
set_option maxRecDepth 100000 in
set_option maxHeartbeats 4000000 in
theorem lawMost8 (v0 : Value) (l : List Vi) (s : ByteArray) (b : Nat) (w : World) (hT : VtIn w v0 l) (hl : l.length ≤ maxLen) (hsz : ∀ x ∈ l, x.2.2.size ≤ maxLen) (hs : s.size ≤ maxLen) : Calls Try.prog 8 #[v0, .string s, .int .u64 (b : Int)] w fun e w' => e = .returned (.bool true) ∧ Below w.heap.size w w' := by
  obtain ⟨a0, c0, rfl, hc0⟩ := vtin_form hT
  obtain ⟨mn, hmn⟩ : ∃ mn, min l.length 16 = mn := ⟨_, rfl⟩
  have H1 := Lib.hid (fun W => lawShown8 W)
  have H2 := Lib.hid (fun (W : World) (hb : Below w.heap.size w W) => lawSome8 (.slice a0 mn c0) (l.take mn) W (VtIn.below (vtin_part hT mn (by omega)) hb (Nat.le_refl _)) (by rw [List.length_take]; omega) (fun x hx => hsz x (List.mem_of_mem_take hx)))
  have H3 := Lib.hid (fun W => lawCut8 s hs W)
  have hcs := cut41_size s
  have h4 := fun W => btCast Vt.zero b (cut41 s) (by decide) (Nat.le_trans hcs (by decide)) W
  have hLs := someOf_small (l.take mn)
  have hLn : (someOf (l.take mn)).length = mn := by unfold someOf; rw [List.length_map, List.length_take, List.length_take]; omega
  obtain ⟨len, hlen⟩ : ∃ len, l.length = len := ⟨_, rfl⟩
  rw [hlen] at hmn hc0 hl ⊢
  have hmi : min (len : Int) 16 = (mn : Int) := by omega
  have hmif : (if (16 : Int) < (len : Int) then (16 : Int) else (len : Int)) = (mn : Int) := by split <;> omega
  have hm16 : mn ≤ 16 ∧ mn ≤ len := by omega
  obtain ⟨hm16, hml⟩ := hm16
  unfold maxLen at hl
  have hmc : ¬ (c0 : Int) < (mn : Int) := by omega
  generalize someOf (l.take mn) = L at *
  generalize cut41 s = S at *
  clear hT hsz hs hmn
  obtain ⟨hz1, hz2⟩ := castZero b S
  by_cases hc : 1 ≤ b ∧ S.size ≤ 4000
  · rw [hz1, if_pos hc, hz2 hc] at h4
    have H4 := Lib.hid (show ∀ W, Calls Try.prog 14 #[.agg #[.int .u64 0, .int .u64 0, .string ⟨#[]⟩], .int .u64 (b : Int), .string S] W fun e w' => e = .returned (.tuple #[.agg #[.int .u64 (b : Int), .int .u64 (b : Int), .string S], .int .i64 0]) ∧ Below W.heap.size W w' from h4)
    clear h4 hz1 hz2
    by_cases h0 : mn = 0
    · have hn0 : ((mn : Int) == 0) = true := by rw [beq_iff_eq]; omega
      clear hc h0
      go_enter Try.func8, Try.ntmps8
      go_wp2_with (first
        | (go_at_call 10; refine (H1.out _).mono ?_; rintro e w1 ⟨rfl, hb1⟩)
        | (go_at_call 18; refine (H2.out _ hb1).mono ?_; rintro e w2 ⟨⟨u, rfl, hV⟩, hb2⟩; obtain ⟨a, c, hu, _⟩ := hV.form; rw [hLn] at hu; subst hu)
        | (go_at_call 11; refine (H3.out _).mono ?_; rintro e w3 ⟨rfl, rfl⟩)
        | (go_at_call 14; refine (H4.out _).mono ?_; rintro e w4 ⟨rfl, hb4⟩))
      go_ret
      have hbb := hb1.trans ((hb2.trans (hb4.mono hb2.size)).mono hb1.size)
      exact ⟨rfl, hbb.alloc hbb.size _⟩
    · have HC := Lib.hid hc
      have HW := Lib.hid (fun j (h : mn < 2 * j) (hj : j ≤ mn) he => over_won L b S j hc.1 (by rw [hLn]; omega) (by rw [hLn]; exact h) (by rw [hLn]; exact hj) he)
      have HDC := Lib.hid (fun (u : Value) (W : World) (j : Nat) (hR : VtsR W u (over L ⟨b, b, S⟩ j)) => btDecided u (over L ⟨b, b, S⟩ j) W hR (by rw [over_len, hLn]; omega) (over_small L ⟨b, b, S⟩ j hLs hcs))
      have hn0 : ((mn : Int) == 0) = false := by rw [beq_eq_false_iff_ne]; omega
      have hn0' : ¬ (mn : Int) = 0 := by omega
      obtain ⟨i0, hi, hz0, hz1, hz2⟩ := info_parts info_vote
      clear hc hLs hcs h0
      go_enter Try.func8, Try.ntmps8
      go_wp2_with (first
        | (go_at_call 10; refine (H1.out _).mono ?_; rintro e w1 ⟨rfl, hb1⟩)
        | (go_at_call 18; refine (H2.out _ hb1).mono ?_; rintro e w2 ⟨⟨u, rfl, hV⟩, hb2⟩; obtain ⟨g, c, hu, hcg, hgb, hgs, _, hgc⟩ := hV.get (by rw [hLn]; omega); rw [hLn] at hu; subst hu)
        | (go_at_call 11; refine (H3.out _).mono ?_; rintro e w3 ⟨rfl, rfl⟩)
        | (go_at_call 14; refine (H4.out _).mono ?_; rintro e w4 ⟨rfl, hb4⟩; have hbb := hb1.trans ((hb2.trans (hb4.mono hb2.size)).mono hb1.size); have hgw := hbb.size; have hbx := hbb.alloc hbb.size (.cells #[.int .u64 (b : Int), .int .u64 (b : Int), .string S] 24); have hV4 := (hV.below hb4).below ((Below.refl w4.heap.size w4).alloc (Nat.le_refl _) (.cells #[.int .u64 (b : Int), .int .u64 (b : Int), .string S] 24)); have hrow := World.alloc_heap_new w4 (.cells #[.int .u64 (b : Int), .int .u64 (b : Int), .string S] 24))
        | (at_make; refine wpList_make_own _ rfl _ _ _ rfl (w4.heap.size + 1) 24 i0 _ 3 Try.underlying33 hi hz0 hz1 .i64 .i64 16 16 rfl rfl rfl (by rw [hz2]; omega) (by unfold maxLen; omega) (by simp) ?_; intro w5 hown hgrow; have hM5 : Votes w5 (w4.heap.size + 1) (.slice (some ⟨w4.heap.size + 1, 0, none⟩) 0 16) [] := (by have h := Votes.of_owns hown (rfl : ([] : List Vt).length = 0); rwa [World.size_alloc] at h); have hb5 := below_grown hgrow; have hb25 : Below w2.heap.size w2 w5 := ((hb4.alloc hb4.size _).trans (hb5.mono (by have := hb4.size; simp; omega))); have hrow5 := (hb5.block w4.heap.size (by simp)).trans hrow)
        | (at_builtin; refine wpList_append_votes rfl _ _ rfl (w4.heap.size + 1) (.slice (some ⟨w4.heap.size + 1, 0, none⟩) 0 16) [] rfl hM5 ⟨g, 0, none⟩ mn c L rfl hLn (fun j u hu => (by rw [add0]; exact (hb25.cell (p := ⟨g, j, none⟩) hgs).trans (hgc j u hu))) (by simp; omega) (by have := hb5.size; simp at this; omega) ?_; intro v' w6 ho hg6 hat; rw [List.nil_append] at ho; have HO := Lib.hid ho; have hrow6 : w6.heap[w4.heap.size]? = some (.cells #[.int .u64 (b : Int), .int .u64 (b : Int), .string S] 24 (0, 0)) := (hg6.block w4.heap.size (by have := hb5.size; simp at this; omega) (fun e => (by simp [Value.ownBlock] at e))).trans hrow5; have hbW6 : Below w.heap.size w w6 := (hbx.trans (hb5.mono hbx.size)).grown hg6 (by have := hb5.size; simp at this; have := hbb.size; omega) (fun j ej => (by have := (hM5.lt j ej).1; have := hbb.size; omega)); obtain ⟨g6, c6, hv6, hc6, hg6b, _⟩ := ho.get (by rw [hLn]; omega); rw [hLn] at hv6 hc6; subst hv6))
      have hb5s := hb5.size
      simp at hb5s
      clear hM5 hg6 hgc hrow hrow5 hV hV4 hb25 hbx hgrow hown hat ho hb5 hb4 hb2 hb1 hbb
      have hO0 : Votes w6 (w4.heap.size + 1) (.slice (some ⟨g6, 0, none⟩) mn c6) (over L ⟨b, b, S⟩ 0) := by rw [over_zero]; exact HO.out
      have hmi2 : ∀ k : Nat, k ≤ 16 → IntKind.i64.wrap (2 * (k : Int)) = 2 * (k : Int) := fun k hk => IntWalk.i64_in _ (by omega)
      go_loopw [11] (fun i wr => ∃ k : Nat, k ≤ mn ∧ k ≤ mn / 2 + 1 ∧ i = .int .i64 (k : Int) ∧ Votes wr (w4.heap.size + 1) (.slice (some ⟨g6, 0, none⟩) mn c6) (over L ⟨b, b, S⟩ k) ∧ wr.heap[w4.heap.size]? = some (.cells #[.int .u64 (b : Int), .int .u64 (b : Int), .string S] 24 (0, 0)) ∧ Below w.heap.size w wr) (fun i _ => 20 - (intOf i).toNat)
      case atStart => exact ⟨0, Nat.zero_le _, Nat.zero_le _, rfl, hO0, hrow6, hbW6⟩
      case round =>
        obtain ⟨k, hkm, hk2, rfl, hVk, hrk, hBk⟩ := hrel
        have hw2 := hmi2 k (by omega)
        by_cases hgo : 2 * k ≤ mn
        · have hkl : k < (over L ⟨b, b, S⟩ k).length := by rw [over_len, hLn]; omega
          obtain ⟨g', c', e1, _, _, _, hfz, q0, q1, q2⟩ := hVk.cell k hkl
          simp only [Value.slice.injEq, Option.some.injEq, Addr.mk.injEq, and_true] at e1
          obtain ⟨rfl, -, -⟩ := e1
          have f0 := hfz (k * 3)
          have f1 := hfz (k * 3 + 1)
          have f2 := hfz (k * 3 + 2)
          have x0 : wr.cell? ⟨w4.heap.size, 0, none⟩ = some (.int .u64 (b : Int)) := cell_of hrk rfl
          have x1 : wr.cell? ⟨w4.heap.size, 1, none⟩ = some (.int .u64 (b : Int)) := cell_of hrk rfl
          have x2 : wr.cell? ⟨w4.heap.size, 2, none⟩ = some (.string S) := cell_of hrk rfl
          have d1 : decide (2 * (k : Int) ≤ (mn : Int)) = true := decide_eq_true (by omega)
          have d1' : 2 * (k : Int) ≤ (mn : Int) := by omega
          have hki : (k : Int) < (mn : Int) := by omega
          have hst := hVk.set k hkl ⟨b, b, S⟩ rfl
          rw [over_succ L _ k (by rw [hLn]; omega)] at hst
          have hrk2 := (three_off wr g6 w4.heap.size (k * 3) (k * 3 + 1) (k * 3 + 2) (.int .u64 (b : Int)) (.int .u64 (b : Int)) (.string S) (by omega)).trans hrk
          have hbk2 : Below w.heap.size w (((wr.setCell ⟨g6, k * 3, none⟩ (.int .u64 (b : Int))).setCell ⟨g6, k * 3 + 1, none⟩ (.int .u64 (b : Int))).setCell ⟨g6, k * 3 + 2, none⟩ (.string S)) := ((hBk.setCell (p := ⟨g6, k * 3, none⟩) (show w.heap.size ≤ g6 by omega) _).setCell (p := ⟨g6, k * 3 + 1, none⟩) (show w.heap.size ≤ g6 by omega) _).setCell (p := ⟨g6, k * 3 + 2, none⟩) (show w.heap.size ≤ g6 by omega) _
          clear hfz hmi2
          go_wp2
          go_roundw
          case rel => exact ⟨k + 1, by omega, by omega, by go_num, hst, hrk2, hbk2⟩
          case measure => simp [intOf]; omega
        · have hk : k = mn / 2 + 1 := by omega
          have d1 : decide (2 * (k : Int) ≤ (mn : Int)) = false := decide_eq_false (by omega)
          have d1' : ¬ 2 * (k : Int) ≤ (mn : Int) := by omega
          have HD := Lib.hid (HDC.out _ wr k hVk.toR)
          have HWW := Lib.hid (HW.out k (by omega) (by omega))
          generalize over L ⟨b, b, S⟩ k = F at *
          clear hVk hmi2 hk2 hk
          by_cases he : Bt.decE F = 0
          · obtain ⟨r1, r2⟩ := HWW.out he
            rw [he, r1, r2] at HD
            clear he r1 r2
            go_wp2_with (go_at_call 21; refine HD.out.mono ?_; rintro e w7 ⟨rfl, hb7⟩)
            go_ret
            exact ⟨by simp, hBk.trans (hb7.mono hBk.size)⟩
          · have n1 : (Bt.decE F == 0) = false := beq_eq_false_iff_ne.2 he
            generalize Bt.decE F = E at *
            go_wp2_with (go_at_call 21; refine HD.out.mono ?_; rintro e w7 ⟨rfl, hb7⟩)
            go_ret
            exact ⟨by simp, hBk.trans (hb7.mono hBk.size)⟩
  · rw [hz1, if_neg hc] at h4
    have hv : Bt.castV Vt.zero b S = Vt.zero := by unfold Bt.castV; rw [hz1, if_neg hc]; rfl
    rw [hv] at h4
    have H4 := Lib.hid (show ∀ W, Calls Try.prog 14 #[.agg #[.int .u64 0, .int .u64 0, .string ⟨#[]⟩], .int .u64 (b : Int), .string S] W fun e w' => e = .returned (.tuple #[.agg #[.int .u64 0, .int .u64 0, .string ⟨#[]⟩], .int .i64 2]) ∧ Below W.heap.size W w' from h4)
    clear h4 hz1 hz2 hv hc
    go_enter Try.func8, Try.ntmps8
    go_wp2_with (first
      | (go_at_call 10; refine (H1.out _).mono ?_; rintro e w1 ⟨rfl, hb1⟩)
      | (go_at_call 18; refine (H2.out _ hb1).mono ?_; rintro e w2 ⟨⟨u, rfl, hV⟩, hb2⟩; obtain ⟨a, c, hu, _⟩ := hV.form; rw [hLn] at hu; subst hu)
      | (go_at_call 11; refine (H3.out _).mono ?_; rintro e w3 ⟨rfl, rfl⟩)
      | (go_at_call 14; refine (H4.out _).mono ?_; rintro e w4 ⟨rfl, hb4⟩))
    go_ret
    have hbb := hb1.trans ((hb2.trans (hb4.mono hb2.size)).mono hb1.size)
    exact ⟨rfl, hbb.alloc hbb.size _⟩
theorem lawMost8W (v0 : Value) (l : List Vi) (s : ByteArray) (b : Int) (w : World) (hT : VtIn w v0 l) (hl : l.length ≤ maxLen) (hsz : ∀ x ∈ l, x.1 < 2 ^ 64 ∧ x.2.1 < 2 ^ 64 ∧ x.2.2.size ≤ maxLen) (hs : s.size ≤ maxLen) (hb : (Lit.int .u64 b).wf = true) : Calls Try.prog 8 #[v0, .string s, .int .u64 b] w fun e w' => e = .returned (.bool true) ∧ Below w.heap.size w w' := by
  obtain ⟨x, rfl, _⟩ := u64_of_wf hb
  exact lawMost8 v0 l s x w hT hl (fun y hy => (hsz y hy).2.2) hs
end Go.Proofs.Ytigameebcicgpaa
