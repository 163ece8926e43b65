/-
  Package ballot: Proposal; walked.
-/
import Derived.Test.YtigameebcicgpaaBtGoes
import Derived.Test.YtigameebcicgpaaBtSound
namespace Go.Proofs.Ytigameebcicgpaa
open Go.RowKit Go.Shelf
attribute [local go_sem] Oper.semAt_some
set_option linter.unusedVariables false
set_option linter.unusedSimpArgs false

namespace Bt
def pick (a v : Vt) : Vt := if a.bal < v.bal then v else a
def lst (l : List Vt) : Vt := l.foldl pick Vt.zero
theorem lst_succ (l : List Vt) (k : Nat) (x : Vt) (h : l[k]? = some x) : lst (l.take (k + 1)) = pick (lst (l.take k)) x := by
  obtain ⟨hk, rfl⟩ := List.getElem?_eq_some_iff.1 h
  unfold lst
  rw [List.take_succ_eq_append_getElem hk, List.foldl_append]
  rfl
theorem pick_best (l : List Vt) (hr : ∀ v ∈ l, Right v) (a : Vt) (p : Nat × ByteArray) (ha : Right a) (h1 : p.1 = a.bal) (h2 : 0 < a.bal → p.2 = a.val') (h3 : a.bal = 0 → a = Vt.zero) (own : ByteArray) (h4 : a.bal = 0 → p.2 = own) :
    let L := (vd l).foldl pick a
    Right L ∧ (l.foldl upTo p).1 = L.bal ∧ (0 < L.bal → (l.foldl upTo p).2 = L.val') ∧ (L.bal = 0 → L = Vt.zero) ∧ (L.bal = 0 → (l.foldl upTo p).2 = own) := by
  induction l generalizing a p with
  | nil => exact ⟨ha, h1, h2, h3, h4⟩
  | cons v l ih =>
    have hv := hr v (by simp)
    have hl : ∀ x ∈ l, Right x := fun x hx => hr x (List.mem_cons_of_mem _ hx)
    by_cases h : Voted v
    · have e : vd (v :: l) = v :: vd l := by unfold vd; rw [List.filter_cons, if_pos (by simpa using h)]
      rw [e, List.foldl_cons, List.foldl_cons]
      have hb := (voted_of_right hv).1 h
      by_cases hlt : a.bal < v.bal
      · have e1 : pick a v = v := if_pos hlt
        have e2 : upTo p v = (v.bal, v.val') := if_pos (by rw [h1]; exact hlt)
        rw [e1, e2]
        exact ih hl v _ hv rfl (fun _ => rfl) (fun h => by omega) (fun h => by omega)
      · have e1 : pick a v = a := if_neg hlt
        have e2 : upTo p v = p := if_neg (by rw [h1]; exact hlt)
        rw [e1, e2]
        exact ih hl a p ha h1 h2 h3 h4
    · have e : vd (v :: l) = vd l := by unfold vd; rw [List.filter_cons, if_neg (by simpa using h)]
      have hb : v.bal = 0 := by
        have := mt (voted_of_right hv).2 h
        omega
      have e2 : upTo p v = p := if_neg (by omega)
      rw [e, List.foldl_cons, e2]
      exact ih hl a p ha h1 h2 h3 h4
/-- What may be proposed, by the last vote. -/
theorem best_lst (l : List Vt) (hr : ∀ v ∈ l, Right v) (own : ByteArray) : Right (lst (vd l)) ∧ (0 < (lst (vd l)).bal → (best l own).2 = (lst (vd l)).val') ∧ ((lst (vd l)).bal = 0 → lst (vd l) = Vt.zero ∧ (best l own).2 = own) := by
  have h := pick_best l hr Vt.zero (0, own) ⟨Nat.le_refl _, .inr rfl, Nat.zero_le _⟩ rfl (fun h => by cases h) (fun _ => rfl) own (fun _ => rfl)
  exact ⟨h.1, h.2.2.1, fun h0 => ⟨h.2.2.2.1 h0, h.2.2.2.2 h0⟩⟩
end Bt
theorem cell_ofW {w : World} {B j : Nat} {C : Array Value} {T : TypeId} {v : Value} (h : w.heap[B]? = some (.cells C T (0, 0))) (hv : C[j]? = some v) : w.cell? ⟨B, j, none⟩ = some v := by simp [World.cell?, h, hv]
theorem row_kept {A B : Nat} {T : TypeId} {β : Type} (f : β → Array Value) : OwnFrom B (fun (k : β) W => W.heap[A]? = some (.cells (f k) T (0, 0))) :=
  fun k X Y row hs hg hr => (grownBy_keeps_cells hg (fun r e => (hr r e).2) hs rfl).trans hs
theorem set3_keeps {W : World} {A : Nat} {x y z : Value} (n : Nat) : KeepsFrom n W (((W.setCell ⟨A, 0, none⟩ x).setCell ⟨A, 1, none⟩ y).setCell ⟨A, 2, none⟩ z) :=
  ((((KeepsOthers.setCell _ _ _).trans (KeepsOthers.setCell _ _ _)).trans (KeepsOthers.setCell _ _ _))).from _
set_option maxRecDepth 100000 in
set_option maxHeartbeats 4000000 in
theorem btProposalOk (n : Int) (v0 : Value) (l : List Vt) (own : ByteArray) (w : World) (hT : VtsR w v0 l) (hn1 : 1 ≤ n) (hn2 : n ≤ 16) (hl1 : (l.length : Int) ≤ n) (hl2 : n < 2 * (l.length : Int)) (hr : ∀ v ∈ l, Bt.Right v) (hown : own.size ≤ 4000) :
    Calls Try.prog 19 #[.int .i64 n, v0, .string own] w fun e w' => e = .returned (.tuple #[.string (Bt.best l own).2, .int .i64 0]) ∧ Below w.heap.size w w' := by
  obtain ⟨hBr, hB1, hB0⟩ := Bt.best_lst l hr own
  obtain ⟨a0, c0, rfl⟩ := hT.form
  obtain ⟨len, hlen⟩ : ∃ len, l.length = len := ⟨_, rfl⟩
  have HT := Lib.hid hT
  have HL := Lib.hid hlen
  have HSZ := Lib.hid (fun v (hv : v ∈ l) => (hr v hv).2.2)
  have HS := Lib.hid (fun (a1 : Option Addr) (W : World) (hb : Below w.heap.size w W) (hf : _) => btSound (.slice a0 l.length c0) l a1 1 1 true W (hT.below hb) (by omega) (fun v hv => by have := (hr v hv).2.2; omega) hf)
  rw [decide_eq_true hr] at HS
  have HG := Lib.hid (fun W => btGroup n W)
  rw [decide_eq_true (show 1 ≤ n ∧ n ≤ 16 from ⟨hn1, hn2⟩)] at HG
  have HH := Lib.hid (fun W => btHalf l.length n (by omega) W)
  rw [decide_eq_true hl2] at HH
  have HC := Lib.hid (fun W => Try.strings_Clone own W (by omega))
  have HF := Lib.hid (fun g W (h : _) => btFit1 own (by omega) g W h)
  rw [decide_eq_true hown] at HF
  have HLT := Lib.hid hT.lt
  rw [hlen] at hl1 hl2 HS HH HT HLT ⊢
  have hlm : len ≤ 16 := by omega
  have d1 : decide (n < (len : Int)) = false := decide_eq_false (by omega)
  have d1' : ¬ n < (len : Int) := by omega
  clear hT hlen hr hn1 hn2 hl1 hl2
  refine (callsIn_wide (n := 3)).1 ?_
  refine callsIn_of_wp_marks Try.func19 rfl trivial ?_ rfl
  simp only [Try.ntmps19, List.size_toArray, List.length_cons, List.length_nil, Nat.reduceAdd, Nat.reduceSub, Array.replicate_succ, Array.replicate_zero, List.push_toArray, List.append_toArray, List.nil_append, List.cons_append]
  refine wpIn_wide.2 ?_
  go_wp2_with (first
    | (go_at_call 28; refine (HG.out _).mono ?_; rintro e w1 ⟨rfl, rfl⟩)
    | (go_at_call 29; refine (HH.out _).mono ?_; rintro e w1 ⟨rfl, rfl⟩)
    | (go_at_call 30; refine (HS.out _ _ ((Below.refl _ w).alloc (Nat.le_refl _) _) (fun W hb => HF.out _ W ((hb.cell (p := ⟨w.heap.size, 0, none⟩) (by simp)).trans (by simp)))).mono ?_; rintro e w1 ⟨rfl, hb1⟩; have hbA : Below w.heap.size w w1 := ((Below.refl _ w).alloc (Nat.le_refl _) _).trans (hb1.mono (by simp)); have hsA := hbA.size; clear hb1)
    | (go_at_call 31; refine (btVoted _ _ _ _).mono ?_; rintro e w' ⟨rfl, rfl⟩))
  refine (wpIn_wide (n := 3)).1 ?_
  have hl1 := World.alloc_heap_new w1 (.cells #[.int .u64 0, .int .u64 0, .string ⟨#[]⟩] 24)
  have b1 := Boxed.new (w1.alloc (.cells #[.int .u64 0, .int .u64 0, .string ⟨#[]⟩] 24)) 33 (.slice a0 len c0)
  simp only [World.size_alloc] at b1
  have hB0' : Below w.heap.size w ((w1.alloc (.cells #[.int .u64 0, .int .u64 0, .string ⟨#[]⟩] 24)).alloc (.cells #[.slice a0 len c0] 33)) := (hbA.alloc hsA _).alloc (by simp; omega) _
  have hl2 : ((w1.alloc (.cells #[.int .u64 0, .int .u64 0, .string ⟨#[]⟩] 24)).alloc (.cells #[.slice a0 len c0] 33)).heap[w1.heap.size]? = some (.cells #[.int .u64 ((Bt.lst ((vd l).take 0)).prom : Int), .int .u64 ((Bt.lst ((vd l).take 0)).bal : Int), .string (Bt.lst ((vd l).take 0)).val'] 24 (0, 0)) := (Below.heap_alloc _ _ _ (by simp)).trans hl1
  have hsz0 : ((w1.alloc (.cells #[.int .u64 0, .int .u64 0, .string ⟨#[]⟩] 24)).alloc (.cells #[.slice a0 len c0] 33)).heap.size = w1.heap.size + 2 := by simp
  have hgoes := votedGoes (3 - 1) (by omega) w.heap.size _ (w1.heap.size + 1) (.slice a0 len c0) l (by simp) b1.cell (HT.out.below hB0') HLT.out hB0'.size (by have := HL.out; omega)
  obtain ⟨A, hA⟩ : ∃ A, w1.heap.size = A := ⟨_, rfl⟩
  rw [hA] at hl2 hsz0 hgoes hsA b1 ⊢
  generalize ((w1.alloc (.cells #[.int .u64 0, .int .u64 0, .string ⟨#[]⟩] 24)).alloc (.cells #[.slice a0 len c0] 33)) = W0 at *
  clear b1 hl1 HT HLT hbA hA
  refine wpIn_goes_boxed rfl (by omega) (gf := 33) (lb := #[.pointer (some ⟨A + 1, 0, none⟩)]) rfl trivial (enters_of Try.func33 (by kernel_rfl) rfl)
    hgoes (by rintro b h; have : b < w.heap.size := h; omega) (Below.refl _ _) (fun _ => rfl)
    (fun k W => W.heap[A]? = some (.cells #[.int .u64 ((Bt.lst ((vd l).take k)).prom : Int), .int .u64 ((Bt.lst ((vd l).take k)).bal : Int), .string (Bt.lst ((vd l).take k)).val'] 24 (0, 0)) ∧ Below w.heap.size w W ∧ A + 2 ≤ W.heap.size)
    (fun _ _ _ => False)
    (OwnFrom.and (row_kept (fun k => #[.int .u64 ((Bt.lst ((vd l).take k)).prom : Int), .int .u64 ((Bt.lst ((vd l).take k)).bal : Int), .string (Bt.lst ((vd l).take k)).val'])) (OwnFrom.and (ownFrom_below (by omega) (by omega)) (fun _ X Y row hs hg _ => Nat.le_trans hs hg.size)))
    (fun _ _ _ _ _ hs _ _ => hs)
    (by rintro k W ⟨_, _, h⟩; omega)
    ⟨hl2, hB0', by omega⟩
    (fun x => #[.int .u64 (x.prom : Int), .int .u64 (x.bal : Int), .string x.val']) 24
    (fun b W => True) (fun _ _ _ _ h _ _ => h) (fun _ _ _ _ => trivial)
    ⟨_, (by intro l x b W K hb hK; dsimp only [encV, Vt.val]; gi_wp2; exact hK), ?body⟩ ?done ?stop
  case body =>
    rintro lp k ⟨xp, xb, xs⟩ b W hx ⟨hrow, hBw, hsz⟩ hbs hrx -
    have hst := Bt.lst_succ (vd l) k _ hx
    dsimp only at hrx
    have x0 : W.cell? ⟨b, 0, none⟩ = some (.int .u64 (xp : Int)) := cell_ofW hrx rfl
    have x1 : W.cell? ⟨b, 1, none⟩ = some (.int .u64 (xb : Int)) := cell_ofW hrx rfl
    have x2 : W.cell? ⟨b, 2, none⟩ = some (.string xs) := cell_ofW hrx rfl
    have HST := Lib.hid hst
    have hAf0 := row_thawed hrow 0
    have hAf1 := row_thawed hrow 1
    have hAf2 := row_thawed hrow 2
    clear hst hx hgoes hl2 hB0' hrx hBr hB1 hB0
    generalize Bt.lst ((vd l).take k) = L at *
    obtain ⟨lp', lb', ls'⟩ := L
    dsimp only at hrow
    have y0 : W.cell? ⟨A, 0, none⟩ = some (.int .u64 (lp' : Int)) := cell_ofW hrow rfl
    have y1 : W.cell? ⟨A, 1, none⟩ = some (.int .u64 (lb' : Int)) := cell_ofW hrow rfl
    have y2 : W.cell? ⟨A, 2, none⟩ = some (.string ls') := cell_ofW hrow rfl
    have hnA : ¬ A < w.heap.size := by omega
    by_cases he : lb' < xb
    · have d2 : decide ((lb' : Int) < (xb : Int)) = true := decide_eq_true (by omega)
      have d2' : (lb' : Int) < (xb : Int) := by omega
      have HP := Lib.hid (show Bt.lst ((vd l).take (k + 1)) = ⟨xp, xb, xs⟩ from by rw [HST.out]; exact if_pos he)
      have hr3 := row_setB (row_setB (row_setB hrow 0 (.int .u64 (xp : Int))) 1 (.int .u64 (xb : Int))) 2 (.string xs)
      have HR := Lib.hid hr3
      have HBW := Lib.hid hBw
      clear he hr3 hrow hBw
      gi_wp2
      refine ⟨set3_keeps _, (((Keeps.refl _ W).setCell _ _ hnA).setCell _ _ hnA).setCell _ _ hnA, ?_, ((HBW.out.setCell (p := ⟨A, 0, none⟩) (by show w.heap.size ≤ A; omega) _).setCell (p := ⟨A, 1, none⟩) (by show w.heap.size ≤ A; omega) _).setCell (p := ⟨A, 2, none⟩) (by show w.heap.size ≤ A; omega) _, by simpa using hsz⟩
      rw [HP.out]
      exact HR.out
    · have d2 : decide ((lb' : Int) < (xb : Int)) = false := decide_eq_false (by omega)
      have d2' : ¬ (lb' : Int) < (xb : Int) := by omega
      have HP := Lib.hid (show Bt.lst ((vd l).take (k + 1)) = ⟨lp', lb', ls'⟩ from by rw [HST.out]; exact if_neg he)
      clear he
      gi_wp2
      exact ⟨(KeepsOthers.refl _).from _, Keeps.refl _ _, by rw [HP.out]; exact hrow, hBw, hsz⟩
  case stop => rintro D cc k W hD hk h; exact h.elim
  case done =>
    rintro D W hD ⟨hrow, hBw, hsz⟩ hK
    rw [List.take_length] at hrow
    clear hgoes hl2 hB0'
    generalize Bt.lst (vd l) = L at *
    obtain ⟨lp', lb', ls'⟩ := L
    dsimp only at hrow hB1 hB0
    have y0 : W.cell? ⟨A, 0, none⟩ = some (.int .u64 (lp' : Int)) := cell_ofW hrow rfl
    have y1 : W.cell? ⟨A, 1, none⟩ = some (.int .u64 (lb' : Int)) := cell_ofW hrow rfl
    have y2 : W.cell? ⟨A, 2, none⟩ = some (.string ls') := cell_ofW hrow rfl
    by_cases hb : lb' = 0
    · obtain ⟨hz, ho⟩ := hB0 hb
      unfold Vt.zero at hz
      simp only [Vt.mk.injEq] at hz
      obtain ⟨rfl, -, rfl⟩ := hz
      subst hb
      have HO := Lib.hid ho
      have HBW := Lib.hid hBw
      clear hBw ho hB0 hB1 hBr
      go_wp2_with (go_at_call 25; refine (HC.out _).mono ?_; rintro e w3 ⟨rfl, hb3⟩)
      try rw [Exit.noGoto_ret]
      have hK3 := (hb3.block D (Array.getElem?_eq_some_iff.1 hK).1).trans hK
      refine ⟨by simp, .inl ⟨_, _, rfl, run_takeDeferred hK3, ?_⟩⟩
      exact ⟨_, results_tmp2 rfl _ _ _, by rw [HO.out]; rfl, (HBW.out.trans (hb3.mono HBW.out.size)).trans (belowK_b (w := w) (by omega) _ D _ _ (by omega) hK3 rfl rfl)⟩
    · have ho := hB1 (by omega)
      have hp : ¬ (lp' : Int) = 0 := by have := hBr.1; dsimp only at this; omega
      have hp' : ((lp' : Int) == 0) = false := by simpa using hp
      have hls := hBr.2.2
      dsimp only at hls
      have HC2 := Lib.hid (fun W => Try.strings_Clone ls' W (by omega))
      have HO := Lib.hid ho
      have HBW := Lib.hid hBw
      clear hBw ho hB0 hB1 hBr HC hls
      go_wp2_with (go_at_call 25; refine (HC2.out _).mono ?_; rintro e w3 ⟨rfl, hb3⟩)
      try rw [Exit.noGoto_ret]
      have hK3 := (hb3.block D (Array.getElem?_eq_some_iff.1 hK).1).trans hK
      refine ⟨by simp, .inl ⟨_, _, rfl, run_takeDeferred hK3, ?_⟩⟩
      exact ⟨_, results_tmp2 rfl _ _ _, by rw [HO.out]; rfl, (HBW.out.trans (hb3.mono HBW.out.size)).trans (belowK_b (w := w) (by omega) _ D _ _ (by omega) hK3 rfl rfl)⟩
set_option maxRecDepth 100000 in
set_option maxHeartbeats 1000000 in
theorem btProposal (n : Int) (v0 : Value) (l : List Vt) (own : ByteArray) (w : World) (hT : VtsR w v0 l) (hl : l.length ≤ 1000000) (hsz : ∀ v ∈ l, v.val'.size ≤ 1000000) (hown : own.size ≤ 1000000) :
    Calls Try.prog 19 #[.int .i64 n, v0, .string own] w fun e w' => e = .returned (.tuple #[.string (Bt.propS n l own), .int .i64 (Bt.propE n l own)]) ∧ Below w.heap.size w w' := by
  by_cases hok : (1 ≤ n ∧ n ≤ 16 ∧ (l.length : Int) ≤ n ∧ n < 2 * (l.length : Int)) ∧ own.size ≤ 4000 ∧ ∀ v ∈ l, Bt.Right v
  · obtain ⟨⟨h1, h2, h3, h4⟩, h5, h6⟩ := hok
    have hE : Bt.propE n l own = 0 := by unfold Bt.propE; rw [if_pos ⟨h1, h2, h3, h4⟩, if_pos ⟨h5, h6⟩]
    have hV : Bt.propS n l own = (Bt.best l own).2 := by unfold Bt.propS; rw [if_pos hE]
    rw [hE, hV]
    exact btProposalOk n v0 l own w hT h1 h2 h3 h4 h6 h5
  · obtain ⟨a0, c0, rfl⟩ := hT.form
    have HS := Lib.hid (fun (a1 : Option Addr) (W : World) (hb : Below w.heap.size w W) (hf : _) => btSound (.slice a0 l.length c0) l a1 1 1 (decide (own.size ≤ 4000)) W (hT.below hb) hl hsz hf)
    have HG := Lib.hid (fun W => btGroup n W)
    have HH := Lib.hid (fun W => btHalf l.length n hl W)
    have HF := Lib.hid (fun g W (h : _) => btFit1 own hown g W h)
    by_cases hg : 1 ≤ n ∧ n ≤ 16 ∧ (l.length : Int) ≤ n ∧ n < 2 * (l.length : Int)
    · have hE : Bt.propE n l own = 2 := by unfold Bt.propE; rw [if_pos hg, if_neg (fun h => hok ⟨hg, h⟩)]
      have hV : Bt.propS n l own = ⟨#[]⟩ := by unfold Bt.propS; rw [hE]; rfl
      rw [hE, hV]
      rw [decide_eq_true (show 1 ≤ n ∧ n ≤ 16 from ⟨hg.1, hg.2.1⟩)] at HG
      rw [decide_eq_true hg.2.2.2] at HH
      have hf : (decide (∀ v ∈ l, Bt.Right v) && decide (own.size ≤ 4000)) = false := by
        by_cases h6 : ∀ v ∈ l, Bt.Right v
        · by_cases h5 : own.size ≤ 4000
          · exact absurd ⟨hg, h5, h6⟩ hok
          · rw [decide_eq_false h5, Bool.and_false]
        · rw [decide_eq_false h6, Bool.false_and]
      rw [hf] at HS
      obtain ⟨_, _, h3, _⟩ := hg
      generalize decide (own.size ≤ 4000) = of at *
      clear hok hE hV hf hT hsz
      generalize l.length = len at *
      have d1 : decide (n < (len : Int)) = false := decide_eq_false (by omega)
      have d1' : ¬ n < (len : Int) := by omega
      go_enter Try.func19, Try.ntmps19
      go_wp2_with (first
        | (go_at_call 28; refine (HG.out _).mono ?_; rintro e w1 ⟨rfl, rfl⟩)
        | (go_at_call 29; refine (HH.out _).mono ?_; rintro e w1 ⟨rfl, rfl⟩)
        | (go_at_call 30; refine (HS.out _ _ ((Below.refl _ w).alloc (Nat.le_refl _) _) (fun W hb => HF.out _ W ((hb.cell (p := ⟨w.heap.size, 0, none⟩) (by simp)).trans (by simp)))).mono ?_; rintro e w1 ⟨rfl, hb1⟩; have hbA : Below w.heap.size w w1 := ((Below.refl _ w).alloc (Nat.le_refl _) _).trans (hb1.mono (by simp)); clear hb1))
      go_ret2
      exact ⟨rfl, hbA⟩
    · have hE : Bt.propE n l own = 81 := by unfold Bt.propE; rw [if_neg hg]
      have hV : Bt.propS n l own = ⟨#[]⟩ := by unfold Bt.propS; rw [hE]; rfl
      rw [hE, hV]
      clear hE hV hok hT hsz HS
      by_cases h12 : 1 ≤ n ∧ n ≤ 16
      · rw [decide_eq_true h12] at HG
        generalize l.length = len at *
        by_cases h3 : (len : Int) ≤ n
        · have d1 : decide (n < (len : Int)) = false := decide_eq_false (by omega)
          have d1' : ¬ n < (len : Int) := by omega
          rw [decide_eq_false (show ¬ n < 2 * (len : Int) from fun h => hg ⟨h12.1, h12.2, h3, h⟩)] at HH
          clear h12 hg h3
          go_enter Try.func19, Try.ntmps19
          go_wp2_with (first
            | (go_at_call 28; refine (HG.out _).mono ?_; rintro e w1 ⟨rfl, rfl⟩)
            | (go_at_call 29; refine (HH.out _).mono ?_; rintro e w1 ⟨rfl, rfl⟩)
            | (go_at_call 30; refine (HS.out _ _ ((Below.refl _ w).alloc (Nat.le_refl _) _) (fun W hb => HF.out _ W ((hb.cell (p := ⟨w.heap.size, 0, none⟩) (by simp)).trans (by simp)))).mono ?_; rintro e w1 ⟨rfl, hb1⟩; have hbA : Below w.heap.size w w1 := ((Below.refl _ w).alloc (Nat.le_refl _) _).trans (hb1.mono (by simp)); clear hb1))
          go_ret2
          exact ⟨rfl, Below.refl _ _⟩
        · have d1 : decide (n < (len : Int)) = true := decide_eq_true (by omega)
          have d1' : n < (len : Int) := by omega
          clear h12 hg h3
          go_enter Try.func19, Try.ntmps19
          go_wp2_with (first
            | (go_at_call 28; refine (HG.out _).mono ?_; rintro e w1 ⟨rfl, rfl⟩)
            | (go_at_call 29; refine (HH.out _).mono ?_; rintro e w1 ⟨rfl, rfl⟩)
            | (go_at_call 30; refine (HS.out _ _ ((Below.refl _ w).alloc (Nat.le_refl _) _) (fun W hb => HF.out _ W ((hb.cell (p := ⟨w.heap.size, 0, none⟩) (by simp)).trans (by simp)))).mono ?_; rintro e w1 ⟨rfl, hb1⟩; have hbA : Below w.heap.size w w1 := ((Below.refl _ w).alloc (Nat.le_refl _) _).trans (hb1.mono (by simp)); clear hb1))
          go_ret2
          exact ⟨rfl, Below.refl _ _⟩
      · rw [decide_eq_false h12] at HG
        generalize l.length = len at *
        clear hg
        go_enter Try.func19, Try.ntmps19
        go_wp2_with (first
          | (go_at_call 28; refine (HG.out _).mono ?_; rintro e w1 ⟨rfl, rfl⟩)
          | (go_at_call 29; refine (HH.out _).mono ?_; rintro e w1 ⟨rfl, rfl⟩)
          | (go_at_call 30; refine (HS.out _ _ ((Below.refl _ w).alloc (Nat.le_refl _) _) (fun W hb => HF.out _ W ((hb.cell (p := ⟨w.heap.size, 0, none⟩) (by simp)).trans (by simp)))).mono ?_; rintro e w1 ⟨rfl, hb1⟩; have hbA : Below w.heap.size w w1 := ((Below.refl _ w).alloc (Nat.le_refl _) _).trans (hb1.mono (by simp)); clear hb1))
        go_ret2
        exact ⟨rfl, Below.refl _ _⟩
end Go.Proofs.Ytigameebcicgpaa
