/-
  Lists of votes, read; the document's Proposal: walked.
-/
import Derived.Test.YtigameebcicgpaaBtRef
namespace Go.Proofs.Ytigameebcicgpaa
open Go.RowKit Go.Shelf
attribute [local go_sem] Oper.semAt_some
set_option linter.unusedVariables false
set_option linter.unusedSimpArgs false

/-- A list of votes in memory, to be read. -/
def VtsR (w : World) (v : Value) (l : List Vt) : Prop :=
  (v = .slice none 0 0 ∧ l = []) ∨ ∃ g c, v = .slice (some ⟨g, 0, none⟩) l.length c ∧ g < w.heap.size ∧ ∀ j (h : j < l.length),
    w.cell? ⟨g, j * 3, none⟩ = some (.int .u64 (l[j].prom : Int)) ∧ w.cell? ⟨g, j * 3 + 1, none⟩ = some (.int .u64 (l[j].bal : Int)) ∧ w.cell? ⟨g, j * 3 + 2, none⟩ = some (.string l[j].val')
theorem VtsR.form {w : World} {v : Value} {l : List Vt} (h : VtsR w v l) : ∃ a c, v = .slice a l.length c := by
  rcases h with ⟨rfl, rfl⟩ | ⟨g, c, rfl, _⟩
  · exact ⟨_, _, rfl⟩
  · exact ⟨_, _, rfl⟩
theorem VtsR.at' {w : World} {v : Value} {l : List Vt} (h : VtsR w v l) (k : Nat) (hk : k < l.length) : ∃ g c, v = .slice (some ⟨g, 0, none⟩) l.length c ∧ ∀ W, Below w.heap.size w W →
    W.cell? ⟨g, k * 3, none⟩ = some (.int .u64 (l[k].prom : Int)) ∧ W.cell? ⟨g, k * 3 + 1, none⟩ = some (.int .u64 (l[k].bal : Int)) ∧ W.cell? ⟨g, k * 3 + 2, none⟩ = some (.string l[k].val') := by
  rcases h with ⟨rfl, rfl⟩ | ⟨g, c, rfl, hg, hx⟩
  · simp at hk
  · refine ⟨g, c, rfl, fun W hb => ?_⟩
    obtain ⟨h0, h1, h2⟩ := hx k hk
    exact ⟨(hb.cell (p := ⟨g, k * 3, none⟩) hg).trans h0, (hb.cell (p := ⟨g, k * 3 + 1, none⟩) hg).trans h1, (hb.cell (p := ⟨g, k * 3 + 2, none⟩) hg).trans h2⟩
theorem VtsR.below {w w' : World} {v : Value} {l : List Vt} (h : VtsR w v l) (hb : Below w.heap.size w w') : VtsR w' v l := by
  rcases h with h | ⟨g, c, rfl, hg, hx⟩
  · exact .inl h
  · refine .inr ⟨g, c, rfl, by have := hb.size; omega, fun j hj => ?_⟩
    obtain ⟨h0, h1, h2⟩ := hx j hj
    exact ⟨(hb.cell (p := ⟨g, j * 3, none⟩) hg).trans h0, (hb.cell (p := ⟨g, j * 3 + 1, none⟩) hg).trans h1, (hb.cell (p := ⟨g, j * 3 + 2, none⟩) hg).trans h2⟩
theorem Votes.toR {w : World} {base : Nat} {v : Value} {l : List Vt} (h : Votes w base v l) : VtsR w v l := by
  rcases id h with h0 | ⟨g, cap, cur, rfl, hb, hw, hc, hm, hs, ht⟩
  · exact .inl h0
  · refine .inr ⟨g, cap, rfl, (Array.getElem?_eq_some_iff.1 hw).1, fun j hj => ?_⟩
    obtain ⟨g', c', e, _, _, _, _, h0, h1, h2⟩ := h.cell j hj
    cases e
    exact ⟨h0, h1, h2⟩
theorem best_take (l : List Vt) (own : ByteArray) (k : Nat) (hk : k < l.length) : Bt.best (l.take (k + 1)) own = Bt.upTo (Bt.best (l.take k) own) l[k] := by
  rw [Bt.best, List.take_succ_eq_append_getElem hk, List.foldl_append]; rfl
set_option maxRecDepth 100000 in
set_option maxHeartbeats 1000000 in
theorem refProposal (n : Int) (v0 : Value) (l : List Vt) (own : ByteArray) (w : World) (hT : VtsR w v0 l) (hl : l.length ≤ 1000000) (hsz : ∀ v ∈ l, v.val'.size ≤ 1000000) (hown : own.size ≤ 1000000) :
    Calls Try.prog 20 #[.int .i64 n, v0, .string own] w fun e w' => e = .returned (.tuple #[.string (Bt.propS n l own), .int .i64 (Bt.propE n l own)]) ∧ Below w.heap.size w w' := by
  obtain ⟨a0, c0, rfl⟩ := hT.form
  have HE := Lib.hid (show Bt.propE n l own = if 1 ≤ n ∧ n ≤ 16 ∧ (l.length : Int) ≤ n ∧ n < 2 * (l.length : Int) then if own.size ≤ 4000 ∧ ∀ v ∈ l, Bt.Right v then 0 else 2 else 81 from rfl)
  have HS := Lib.hid (show Bt.propS n l own = if Bt.propE n l own = 0 then (Bt.best l own).2 else Bt.none' from rfl)
  obtain ⟨len, hlen⟩ : ∃ len, l.length = len := ⟨_, rfl⟩
  have HT := Lib.hid hT
  have HL := Lib.hid hlen
  have HSZ := Lib.hid hsz
  rw [hlen] at hl HE ⊢
  clear hT hlen hsz
  have hw2 : IntKind.i64.wrap (2 * (len : Int)) = 2 * (len : Int) := IntWalk.i64_in _ (by omega)
  by_cases h1 : n < 1
  · have d1 : decide (n < 1) = true := decide_eq_true (by omega)
    have d1' : n < 1 := by omega
    have hE : Bt.propE n l own = 81 := by rw [HE.out, if_neg (by omega)]
    have hV : Bt.propS n l own = ⟨#[]⟩ := by rw [HS.out, hE]; rfl
    rw [hE, hV]
    clear HE HS hE hV
    go_enter Try.func20, Try.ntmps20
    go_wp2
    go_ret2
    exact ⟨rfl, Below.refl _ _⟩
  · have d1 : decide (n < 1) = false := decide_eq_false (by omega)
    have d1' : ¬ n < 1 := by omega
    by_cases h2 : 16 < n
    · have d2 : decide (16 < n) = true := decide_eq_true (by omega)
      have d2' : 16 < n := by omega
      have hE : Bt.propE n l own = 81 := by rw [HE.out, if_neg (by omega)]
      have hV : Bt.propS n l own = ⟨#[]⟩ := by rw [HS.out, hE]; rfl
      rw [hE, hV]
      clear HE HS hE hV
      go_enter Try.func20, Try.ntmps20
      go_wp2
      go_ret2
      exact ⟨rfl, Below.refl _ _⟩
    · have d2 : decide (16 < n) = false := decide_eq_false (by omega)
      have d2' : ¬ 16 < n := by omega
      by_cases h3 : n < (len : Int)
      · have d3 : decide (n < (len : Int)) = true := decide_eq_true (by omega)
        have d3' : n < (len : Int) := by omega
        have hE : Bt.propE n l own = 81 := by rw [HE.out, if_neg (by omega)]
        have hV : Bt.propS n l own = ⟨#[]⟩ := by rw [HS.out, hE]; rfl
        rw [hE, hV]
        clear HE HS hE hV
        go_enter Try.func20, Try.ntmps20
        go_wp2
        go_ret2
        exact ⟨rfl, Below.refl _ _⟩
      · have d3 : decide (n < (len : Int)) = false := decide_eq_false (by omega)
        have d3' : ¬ n < (len : Int) := by omega
        by_cases h4 : 2 * (len : Int) ≤ n
        · have d4 : decide (2 * (len : Int) ≤ n) = true := decide_eq_true (by omega)
          have d4' : 2 * (len : Int) ≤ n := by omega
          have hE : Bt.propE n l own = 81 := by rw [HE.out, if_neg (by omega)]
          have hV : Bt.propS n l own = ⟨#[]⟩ := by rw [HS.out, hE]; rfl
          rw [hE, hV]
          clear HE HS hE hV
          go_enter Try.func20, Try.ntmps20
          go_wp2
          go_ret2
          exact ⟨rfl, Below.refl _ _⟩
        · have d4 : decide (2 * (len : Int) ≤ n) = false := decide_eq_false (by omega)
          have d4' : ¬ 2 * (len : Int) ≤ n := by omega
          have HG := Lib.hid (show 1 ≤ n ∧ n ≤ 16 ∧ (len : Int) ≤ n ∧ n < 2 * (len : Int) by omega)
          by_cases h5 : 4000 < own.size
          · have d5 : decide ((4000 : Int) < (own.size : Int)) = true := decide_eq_true (by omega)
            have d5' : (4000 : Int) < (own.size : Int) := by omega
            have hE : Bt.propE n l own = 2 := by rw [HE.out, if_pos HG.out, if_neg (fun h => by omega)]
            have hV : Bt.propS n l own = ⟨#[]⟩ := by rw [HS.out, hE]; rfl
            rw [hE, hV]
            clear HE HS hE hV
            go_enter Try.func20, Try.ntmps20
            go_wp2
            go_ret2
            exact ⟨rfl, Below.refl _ _⟩
          · have d5 : decide ((4000 : Int) < (own.size : Int)) = false := decide_eq_false (by omega)
            have d5' : ¬ (4000 : Int) < (own.size : Int) := by omega
            have HO := Lib.hid (show own.size ≤ 4000 by omega)
            clear h1 h2 h3 h4 h5 hown
            go_enter Try.func20, Try.ntmps20
            go_wp2
            go_loopw [8, 9, 10] (fun bv ov i wr => ∃ k : Nat, k ≤ len ∧ i = .int .i64 (k : Int) ∧ bv = .int .u64 ((Bt.best (l.take k) own).1 : Int) ∧ ov = .string (Bt.best (l.take k) own).2 ∧ (∀ j (h : j < l.length), j < k → Bt.Right l[j]) ∧ Below w.heap.size w wr) (fun _ _ i _ => len - (intOf i).toNat)
            case atStart => exact ⟨0, Nat.zero_le _, rfl, rfl, rfl, (fun j h hj => absurd hj (Nat.not_lt_zero _)), Below.refl _ _⟩
            case round =>
              obtain ⟨k, hk, rfl, rfl, rfl, hte, hBW⟩ := hrel
              have HTE := Lib.hid hte
              clear hte
              by_cases hlt : k < len
              · have hkl : k < l.length := by rw [HL.out]; exact hlt
                obtain ⟨g, c', e1, hx⟩ := HT.out.at' k hkl
                simp only [Value.slice.injEq] at e1
                obtain ⟨rfl, -, -⟩ := e1
                have hki : (k : Int) < (len : Int) := by omega
                have HX := Lib.hid hx
                obtain ⟨q0, q1, q2⟩ := hx wr hBW
                have HRT := Lib.hid (fun W => refRight l[k] (HSZ.out _ (List.getElem_mem hkl)) W)
                have HB := Lib.hid (best_take l own k hkl)
                have hmem := List.getElem_mem hkl
                clear hx
                by_cases hr : Bt.Right l[k]
                · have HN := Lib.hid (fun (j : Nat) (h : j < l.length) (hj : j < k + 1) => show Bt.Right l[j] from by
                    by_cases e : j = k
                    · subst e; exact hr
                    · exact HTE.out j h (by omega))
                  rw [decide_eq_true hr] at HRT
                  clear hr hmem
                  generalize Bt.best (l.take k) own = B at *
                  generalize l[k] = x at *
                  obtain ⟨bb, bo⟩ := B
                  obtain ⟨p, c, s⟩ := x
                  unfold Vt.val at HRT
                  dsimp only at q0 q1 q2 HRT
                  by_cases hc : bb < c
                  · have k1 : decide ((bb : Int) < (c : Int)) = true := decide_eq_true (by omega)
                    have k2 : (bb : Int) < (c : Int) := by omega
                    have HU := Lib.hid (show Bt.upTo (bb, bo) ⟨p, c, s⟩ = (c, s) from if_pos hc)
                    clear hc
                    go_wp2_with (go_at_call 17; refine (HRT.out _).mono ?_; rintro e w1 ⟨rfl, hb1⟩; have hbb := hBW.trans (hb1.mono hBW.size); obtain ⟨r0, r1, r2⟩ := HX.out w1 hbb)
                    go_roundw
                    case rel => exact ⟨k + 1, by omega, by go_num, by rw [HB.out, HU.out], by rw [HB.out, HU.out], HN.out, hbb⟩
                    case measure => simp [intOf]; omega
                  · have k1 : decide ((bb : Int) < (c : Int)) = false := decide_eq_false (by omega)
                    have k2 : ¬ (bb : Int) < (c : Int) := by omega
                    have HU := Lib.hid (show Bt.upTo (bb, bo) ⟨p, c, s⟩ = (bb, bo) from if_neg hc)
                    clear hc
                    go_wp2_with (go_at_call 17; refine (HRT.out _).mono ?_; rintro e w1 ⟨rfl, hb1⟩; have hbb := hBW.trans (hb1.mono hBW.size); obtain ⟨r0, r1, r2⟩ := HX.out w1 hbb)
                    go_roundw
                    case rel => exact ⟨k + 1, by omega, by go_num, by rw [HB.out, HU.out], by rw [HB.out, HU.out], HN.out, hbb⟩
                    case measure => simp [intOf]; omega
                · have hE : Bt.propE n l own = 2 := by rw [HE.out, if_pos HG.out, if_neg (fun h => hr (h.2 _ hmem))]
                  have hV : Bt.propS n l own = ⟨#[]⟩ := by rw [HS.out, hE]; rfl
                  have HEE := Lib.hid hE
                  have HVV := Lib.hid hV
                  rw [decide_eq_false hr] at HRT
                  clear hr hmem hE hV HE HS
                  generalize l[k] = x at *
                  obtain ⟨p, c, s⟩ := x
                  unfold Vt.val at HRT
                  dsimp only at q0 q1 q2 HRT
                  go_wp2_with (go_at_call 17; refine (HRT.out _).mono ?_; rintro e w1 ⟨rfl, hb1⟩)
                  go_ret2
                  exact ⟨by rw [HEE.out, HVV.out]; rfl, hBW.trans (hb1.mono hBW.size)⟩
              · obtain rfl : k = len := by omega
                have hall : ∀ v ∈ l, Bt.Right v := fun v hv => by
                  obtain ⟨j, hj, rfl⟩ := List.getElem_of_mem hv
                  exact HTE.out j hj (by have := HL.out; omega)
                have hE : Bt.propE n l own = 0 := by rw [HE.out, if_pos HG.out, if_pos ⟨HO.out, hall⟩]
                have hV : Bt.propS n l own = (Bt.best (l.take k) own).2 := by rw [HS.out, hE, if_pos rfl, List.take_of_length_le (by rw [HL.out]; exact Nat.le_refl _)]
                have HEE := Lib.hid hE
                have HVV := Lib.hid hV
                clear hE hV HE HS hall
                generalize Bt.best (l.take k) own = B at *
                obtain ⟨bb, bo⟩ := B
                go_wp2
                go_ret2
                exact ⟨by rw [HEE.out, HVV.out]; rfl, hBW⟩
end Go.Proofs.Ytigameebcicgpaa
