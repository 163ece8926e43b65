/-
  journal.Read: walked.
-/
import Derived.Test.YtfbponiiejanfaaJWalk3
import Derived.Test.YtfbponiiejanfaaJWalk4
import Derived.Test.YtfbponiiejanfaaCrcOpen2
import Derived.Test.YtfbponiiejanfaaTail
import Derived.Test.YtfbponiiejanfaaHeld
import Derived.RangeFuncBox
import Derived.RangeFuncNested
import Derived.Maps.AppendAt
import Derived.WalkMore
import Derived.Deep.QuietTactic
import Derived.BigQuiet
import Derived.OwnWalkIn
namespace Go.Proofs.Ytfbponiiejanfaa
open Go.RowKit Go.Shelf
attribute [local go_sem] Oper.semAt_some
set_option linter.unusedVariables false
set_option linter.unusedSimpArgs false

/-- What Open answers, part by part. -/
def openB (s : ByteArray) : Bool := decide (4 ≤ s.size) && CrcM.opened s.data.toList
def openT (s : ByteArray) : ByteArray := if openB s = true then s.extract 0 (s.size - 4) else ⟨#[]⟩
theorem crcOpen (s : ByteArray) (hs : s.size ≤ 100000) (w : World) : Calls Try.prog 30 #[.string s] w fun e w' => e = .returned (.tuple #[.string (openT s), .bool (openB s)]) ∧ Below w.heap.size w w' := by
  by_cases h : 4 ≤ s.size
  · cases ho : CrcM.opened s.data.toList with
    | true =>
      have hb : openB s = true := by rw [openB, ho, decide_eq_true h]; rfl
      rw [openT, if_pos hb, hb]
      exact crcOpenYes s (s.size - 4) (by omega) hs ho w
    | false =>
      have hb : openB s = false := by rw [openB, ho]; simp
      rw [openT, hb]
      exact crcOpenFails s (s.size - 4) (by omega) hs ho w
  · have hb : openB s = false := by rw [openB, decide_eq_false h]; rfl
    rw [openT, hb]
    exact crcOpenNo s (by omega) w
theorem open_piece (p : List UInt8) (h9 : 9 ≤ p.length) : openB (txt p) = J.ok p ∧ (J.ok p = true → 5 ≤ (openT (txt p)).size ∧ (openT (txt p)).extract 5 (openT (txt p)).size = txt (J.data p)) := by
  have hb : openB (txt p) = J.ok p := by rw [openB, txt_toList, txt_size, decide_eq_true (by omega : 4 ≤ p.length)]; rfl
  refine ⟨hb, fun ho => ?_⟩
  have ht : openT (txt p) = txt (p.take (p.length - 4)) := by
    rw [openT, if_pos (by rw [hb, ho])]
    rw [← txt_data ((txt p).extract 0 _), Lib.extract_data, txt_toList, List.drop_zero, Nat.sub_zero, txt_size]
  have hsz : (openT (txt p)).size = p.length - 4 := by rw [ht, txt_size, List.length_take]; omega
  refine ⟨by omega, ?_⟩
  rw [← txt_data ((openT (txt p)).extract 5 _), Lib.extract_data, hsz, ht, txt_toList, J.data, List.take_of_length_le (by rw [List.length_drop, List.length_take]; omega)]
abbrev strV (d : List UInt8) : Value := .string (txt d)
theorem info_str : (Try.prog.info? 9).map (fun i => (i.zero, i.size, i.bytes)) = some (some (.string ⟨#[]⟩), 1, 16) := by kernel_rfl
/-- What Read keeps while it goes on: what it holds, and how many bytes are good. -/
def Reading (n₀ Bh Bg : Nat) (ds : List (List UInt8)) (g : Nat) (v : Value) (W : World) : Prop :=
  Boxed W Bh 24 v ∧ W.ownsRow n₀ 9 1 v ds.length (ds.map strV) ∧ Boxed W Bg 3 (.int .i64 (g : Int))
theorem boxed_stays {W W' : World} {row : Option Nat} {B : Nat} {ty : TypeId} {v : Value} (h : Boxed W B ty v) (hg : W.grownBy W' row) (hr : ∀ r, row = some r → ∃ o : Obj, W.heap[r]? = some o ∧ o.isCells = false) : Boxed W' B ty v :=
  h.kept hg (fun e => by obtain ⟨o, ho, hc⟩ := hr B e.symm; rw [show W.heap[B]? = _ from h] at ho; cases ho; cases hc)
variable {n₀ Bh Bg g : Nat} {ds : List (List UInt8)} {v : Value} {W : World}
theorem Reading.kept (h : Reading n₀ Bh Bg ds g v W) {W' : World} {row : Option Nat} (hg : W.grownBy W' row) (hr : ∀ r, row = some r → ∃ o : Obj, W.heap[r]? = some o ∧ o.isCells = false) : Reading n₀ Bh Bg ds g v W' := by
  obtain ⟨h1, h2, h3⟩ := h
  refine ⟨boxed_stays h1 hg hr, h2.kept hg ?_, boxed_stays h3 hg hr⟩
  rcases h2.2 with ⟨rfl, _⟩ | ⟨g, cap, cur, rfl, _, hgb, _⟩
  · exact .inl rfl
  · refine .inr fun e' => ?_
    obtain ⟨o, ho, hc⟩ := hr g (by simpa [Value.ownBlock] using e'.symm)
    rw [hgb] at ho; cases ho; cases hc
theorem Reading.append (h : Reading n₀ Bh Bg ds g v W) (hne : Bg ≠ Bh) (hn₀ : n₀ ≤ W.heap.size) (hB : n₀ ≤ Bh) {w1 : World} {v' : Value} {d : List UInt8} {tmp : Obj}
    (hown' : w1.ownsRow n₀ 9 1 v' (ds.length + 1) (ds.map strV ++ [strV d])) (hgrow : (W.alloc tmp).grownBy w1 v.ownBlock) :
    Boxed w1 Bh 24 v ∧ Reading n₀ Bh Bg (ds ++ [d]) g v' (w1.setCell ⟨Bh, 0, none⟩ v') ∧ KeepsOthers W (w1.setCell ⟨Bh, 0, none⟩ v') ∧ Below n₀ W (w1.setCell ⟨Bh, 0, none⟩ v') := by
  obtain ⟨h1, h2, h3⟩ := h
  obtain ⟨a1, a2, a3, a4, a5⟩ := h1.appended (by decide) h2 hn₀ hB hown' hgrow
  have other : ∀ {B : Nat} {ty : TypeId} {u : Value}, Boxed W B ty u → ty ≠ 9 → B ≠ Bh → Boxed (w1.setCell ⟨Bh, 0, none⟩ v') B ty u := fun hb hty hne => (((hb.alloc tmp).kept hgrow (hb.not_row hty h2)).other hne v')
  exact ⟨a1, ⟨a2, by simpa using a3, other h3 (by decide) hne⟩, a4, a5⟩
theorem Reading.count (h : Reading n₀ Bh Bg ds g v W) (hne : Bh ≠ Bg) (hBg : n₀ ≤ Bg) (g' : Nat) : Reading n₀ Bh Bg ds g' v (W.setCell ⟨Bg, 0, none⟩ (.int .i64 (g' : Int))) := by
  obtain ⟨h1, h2, h3⟩ := h
  have hg : W.grownBy (W.setCell ⟨Bg, 0, none⟩ (.int .i64 (g' : Int))) (some Bg) := ⟨rfl, rfl, rfl, by simp, fun k _ hk => by
    have : k ≠ Bg := fun e => hk (by rw [e])
    simp [World.setCell, Array.getElem?_modify, Ne.symm this]⟩
  exact ⟨h1.other hne _, h2.kept hg (.inr (h3.not_row (by decide) h2 ·.symm)), h3.set _⟩
theorem Reading.own {β : Type} (n : β → List (List UInt8)) (f : β → Nat) (B : Nat) : OwnFrom B (fun (s : β) W => ∃ v, Reading n₀ Bh Bg (n s) (f s) v W) := fun _ _ _ _ ⟨v, hs⟩ hg hr => ⟨v, hs.kept hg (fun r e => (hr r e).2)⟩
theorem jPieces (s : ByteArray) (w : World) : Calls Try.prog 29 #[.string s] w fun e w' =>
    e = .returned (.func (.func 35) #[] #[.pointer (some ⟨w.heap.size, 0, none⟩)]) ∧ w.alloc (.cells #[.string s] 9) = w' := by
  go_enter Try.func29, Try.ntmps29
  go_wp2
  go_ret
  exact ⟨rfl, rfl⟩
/-- The data of the first k pieces; how many bytes they are. -/
def dataOf (l : List UInt8) (k : Nat) : List (List UInt8) := ((J.pieces l).take k).map J.data
def sumOf (l : List UInt8) (k : Nat) : Nat := (((J.pieces l).take k).map List.length).sum
theorem dataOf_length (l : List UInt8) (k : Nat) (h : k ≤ (J.pieces l).length) : (dataOf l k).length = k := by simp [dataOf]; omega
theorem dataOf_succ (l : List UInt8) (k : Nat) (x : List UInt8) (h : (J.pieces l)[k]? = some x) : dataOf l (k + 1) = dataOf l k ++ [J.data x] := by
  obtain ⟨hk, rfl⟩ := List.getElem?_eq_some_iff.1 h
  rw [dataOf, List.take_succ_eq_append_getElem hk, List.map_append]; rfl
theorem sumOf_succ (l : List UInt8) (k : Nat) (x : List UInt8) (h : (J.pieces l)[k]? = some x) : sumOf l (k + 1) = sumOf l k + x.length := by
  obtain ⟨hk, rfl⟩ := List.getElem?_eq_some_iff.1 h
  rw [sumOf, List.take_succ_eq_append_getElem hk, List.map_append, List.sum_append]; simp [sumOf]
theorem sumOf_le (l : List UInt8) (k : Nat) : sumOf l k ≤ l.length := J.pieces_sum l k
/-- A list of texts, handed back. -/
def Texts (w : World) (v : Value) (ds : List (List UInt8)) : Prop :=
  (v = .slice none 0 0 ∧ ds = []) ∨ ∃ g c, v = .slice (some ⟨g, 0, none⟩) ds.length c ∧ ds.length ≤ c ∧ g < w.heap.size ∧ ∀ j (h : j < ds.length), w.cell? ⟨g, j, none⟩ = some (strV ds[j])
theorem from_below' {n : Nat} {W W' : World} (h : Below W.heap.size W W') : KeepsFrom n W W' := ⟨h.size, fun k o _ hk _ => (h.block k (Array.getElem?_eq_some_iff.1 hk).1).trans hk⟩
theorem anyIn_two {P : Program} {F : Fence} {ops : Array Oper} {md : Region.Mode} {Q : Exit → Act → World → Prop} {m fuel : Nat} {listed : Array Bool} {a : Act} {w : World} (i j : Nat) (hr : Region.ready md ops listed = [i, j])
    (h1 : wpOpIn F m P ops Q i (fun a' w' => wpAnyIn F m P md ops Q fuel (listed.setIfInBounds i true) a' w') a w) (h2 : wpOpIn F m P ops Q j (fun a' w' => wpAnyIn F m P md ops Q fuel (listed.setIfInBounds j true) a' w') a w) :
    wpAnyIn F m P md ops Q (fuel + 1) listed a w := ⟨fun h => (by rw [hr] at h; cases h), fun k hk => by
  rw [hr] at hk
  rcases List.mem_cons.1 hk with rfl | hk
  · exact h1
  · rw [List.mem_singleton.1 hk]; exact h2⟩
theorem Texts.swept {W : World} {D nq : Nat} {v : Value} {ds : List (List UInt8)} {x : Option (List Deferred)} {o' : Obj} (h : Texts W v ds) (hK : (W.drewN nq).heap[D]? = some (.deferred x)) : Texts ((W.drewN nq).putObj D o') v ds := by
  rcases h with h | ⟨g, c, rfl, hc, hg, hx⟩
  · exact .inl h
  · refine .inr ⟨g, c, rfl, hc, by simpa [World.putObj] using hg, fun j hj => ?_⟩
    have hgD : g ≠ D := fun e => by
      subst e
      have h1 := hx j hj
      have h2 : W.heap[g]? = some (.deferred x) := hK
      simp [World.cell?, h2] at h1
    rw [← hx j hj]
    refine World.cell?_of_block ?_
    show ((W.drewN nq).putObj D o').heap[g]? = W.heap[g]?
    simp only [World.putObj]
    rw [Array.getElem?_setIfInBounds_ne (Ne.symm hgD)]
    rfl
set_option maxRecDepth 100000 in
set_option maxHeartbeats 4000000 in
theorem jRead (s : ByteArray) (hs : s.size ≤ 100000) (w : World) : Calls Try.prog 24 #[.string s] w fun e w' =>
    (∃ v, e = .returned (.tuple #[v, .int .i64 (J.end' s.data.toList : Int)]) ∧ Texts w' v (J.read s.data.toList)) ∧ Below w.heap.size w w' := by
  refine (callsIn_wide (n := 3)).1 ?_
  refine callsIn_of_wp_marks Try.func24 rfl trivial ?_ rfl
  simp only [Try.ntmps24, List.size_toArray, List.length_cons, List.length_nil, Nat.reduceAdd, Nat.reduceSub, Array.replicate_succ, Array.replicate_zero, List.push_toArray, List.append_toArray, List.nil_append, List.cons_append]
  refine wpIn_wide.2 ?_
  go_wp2
  go_step3
  go_wp2
  go_step3
  go_wp2_with (go_at_call 29; refine (jPieces _ _).mono ?_; rintro e w' ⟨rfl, rfl⟩)
  refine (wpIn_wide (n := 3)).1 ?_
  obtain ⟨l, hl⟩ : ∃ l, s.data.toList = l := ⟨_, rfl⟩
  have hln : l.length = s.size := by rw [← hl]; simp
  have b0 := Boxed.new w 24 (.slice none 0 0)
  have b1 := Boxed.new (w.alloc (.cells #[.slice none 0 0] 24)) 3 (.int .i64 0)
  have b2 := Boxed.new ((w.alloc (.cells #[.slice none 0 0] 24)).alloc (.cells #[.int .i64 0] 3)) 9 (.string s)
  simp only [World.size_alloc] at b1 b2
  have hB0 : Below w.heap.size w (((w.alloc (.cells #[.slice none 0 0] 24)).alloc (.cells #[.int .i64 0] 3)).alloc (.cells #[.string s] 9)) :=
    (((Below.refl _ w).alloc (Nat.le_refl _) _).alloc (by simp) _).alloc (by simp; omega) _
  have R0 : Reading w.heap.size w.heap.size (w.heap.size + 1) (dataOf l 0) (sumOf l 0) (.slice none 0 0) (((w.alloc (.cells #[.slice none 0 0] 24)).alloc (.cells #[.int .i64 0] 3)).alloc (.cells #[.string s] 9)) :=
    ⟨(b0.alloc _).alloc _, World.ownsRow_nil _ _ _ _, b1.alloc _⟩
  have hms : s.size ≤ maxLen := by unfold maxLen; omega
  have hpl := fun k x h => J.pieces_le l k x h
  clear b0 b1
  refine wpIn_goes_found rfl (by omega) (gf := 35) (lb := #[.pointer (some ⟨w.heap.size + 1 + 1, 0, none⟩)]) rfl trivial (enters_of Try.func35 (by kernel_rfl) rfl)
    (hl ▸ jPiecesGoes _ (by omega) _ (w.heap.size + 1 + 1) s hms (by simp) b2.cell) (by rintro b h; exact h.elim) (Below.refl _ _) (fun _ => rfl)
    (fun k W => (∀ p ∈ (J.pieces l).take k, J.ok p = true) ∧ (∃ v, Reading w.heap.size w.heap.size (w.heap.size + 1) (dataOf l k) (sumOf l k) v W) ∧ Below w.heap.size w W)
    (fun c k W => (c = .exit 0 ∧ (∀ p ∈ (J.pieces l).take k, J.ok p = true) ∧ ∀ h : k < (J.pieces l).length, J.ok (J.pieces l)[k] = false) ∧ (∃ v, Reading w.heap.size w.heap.size (w.heap.size + 1) (dataOf l k) (sumOf l k) v W) ∧ Below w.heap.size w W)
    (OwnFrom.and (ownFrom_pure _ _) (OwnFrom.and (Reading.own (fun k => dataOf l k) (fun k => sumOf l k) _) (ownFrom_below (Nat.le_refl _) (by simp; omega))))
    (fun c => OwnFrom.and (ownFrom_pure _ _) (OwnFrom.and (Reading.own (fun k => dataOf l k) (fun k => sumOf l k) _) (ownFrom_below (Nat.le_refl _) (by simp; omega))))
    ⟨(fun p hp => by simp at hp), ⟨_, R0⟩, hB0⟩
    ⟨_, (by intro l x W K hK; gi_wp2; exact hK), ?body⟩ ?done ?stop
  case body =>
    rintro lp k x W hx ⟨hok, ⟨v, hR⟩, hBw⟩
    obtain ⟨hlt, hxe⟩ := List.getElem?_eq_some_iff.1 hx
    have h9 := J.pieces_long l x (hxe ▸ List.getElem_mem hlt)
    have hxl := hpl k x hx
    have hxs : (txt x).size ≤ 100000 := by rw [txt_size]; omega
    obtain ⟨hob, hod⟩ := open_piece x h9
    have hopen := fun W => crcOpen (txt x) hxs W
    rw [hob] at hopen
    clear R0 hB0 b2
    cases ho : J.ok x with
    | false =>
      rw [ho] at hopen
      have HO := Lib.hid hopen
      clear hopen hob hod
      gi_wp2_with (refine ⟨trivial, ?_⟩; gi_at_call 30; refine (CallsIn.inRound lp (callsIn_wide.2 (HO.out _))).mono ?_; rintro e w1 ⟨rfl, hb1⟩)
      exact ⟨from_below' hb1, ⟨rfl, hok, fun h => by rw [hxe]; exact ho⟩, ⟨v, hR.kept (grown_below' hb1 none) (fun r h => by cases h)⟩, hBw.trans (hb1.mono hBw.size)⟩
    | true =>
      rw [ho] at hopen
      obtain ⟨h5, hcut⟩ := hod ho
      generalize openT (txt x) = T at *
      have HO := Lib.hid hopen
      clear hopen hob hod
      have hi5 : (5 : Int) ≤ (T.size : Int) := by omega
      have hds := dataOf_succ l k x hx
      have hss := sumOf_succ l k x hx
      have hsl := sumOf_le l (k + 1)
      have hdl := dataOf_length l k (by omega)
      have hok' : ∀ p ∈ (J.pieces l).take (k + 1), J.ok p = true := by
        rw [List.take_succ_eq_append_getElem hlt]
        intro p hp
        rcases List.mem_append.1 hp with h | h
        · exact hok p h
        · rw [List.mem_singleton.1 h, hxe, ho]
      obtain ⟨i0, hi, hz0, hz1, hz2⟩ := info_parts info_str
      gi_wp2_with (refine ⟨trivial, ?_⟩; gi_at_call 30; refine (CallsIn.inRound lp (callsIn_wide.2 (HO.out _))).mono ?_; rintro e w1 ⟨rfl, hb1⟩
                   replace hR := hR.kept (grown_below' hb1 none) (fun r h => by cases h)
                   have hc := hR.1.cell
                   have hB1 := hBw.trans (hb1.mono hBw.size))
      refine wpIn_region_any (by kernel_rfl) ?_
      change wpAnyIn _ _ _ _ _ _ 6 _ _ w1.drew
      have hcd : w1.drew.cell? ⟨w.heap.size, 0, none⟩ = some v := hc
      refine wpAnyIn_lead (wide_round lp) 1 (v := .string T) rfl (by kernel_rfl) (fun _ _ _ h => h) (Or.inl ⟨by rfl, fun X => by go_simp⟩) ?_
      simp only [Act.put, List.setIfInBounds_toArray, List.set_cons_zero, List.set_cons_succ]
      refine wpAnyIn_lead (wide_round lp) 2 (v := .string (T.extract 5 T.size)) rfl (by kernel_rfl) (fun _ _ _ h => h) (Or.inl ⟨by rfl, fun X => by go_simp⟩) ?_
      simp only [Act.put, List.setIfInBounds_toArray, List.set_cons_zero, List.set_cons_succ]
      rw [hcut]
      have APP : ∀ {v' : Value} {w2 : World}, w2.ownsRow w.heap.size 9 1 v' (k + 1) ((dataOf l k).map strV ++ [strV (J.data x)]) → ((w1.drew).alloc (.cells #[strV (J.data x)] 9)).grownBy w2 v.ownBlock → _ :=
        fun {v'} {w2} ho' hg' => Reading.append (W := w1.drew) (tmp := .cells #[strV (J.data x)] 9) hR (by omega) (by have := hB1.size; simpa using this) (Nat.le_refl _) (by rw [hdl]; exact ho') hg'
      have hown0 : w1.drew.ownsRow w.heap.size 9 1 v (dataOf l k).length ((dataOf l k).map strV) := hR.2.1
      rw [hdl] at hown0
      have hcnt := J.pieces_count l
      have hbase : w.heap.size ≤ ((w1.drew).alloc (.cells #[strV (J.data x)] 9)).heap.size := by have := hB1.size; simp; omega
      refine anyIn_two 0 3 (by kernel_rfl) ?_ ?_
      · refine wpOpIn_step rfl (fun K hK => ?_)
        go_simp
        refine hK _ _ ?_
        clear hK K
        refine wpAnyIn_of_seq (List.drop 3 (Array.toList _)) 3 _ _ _ (fun j => by rw [List.getElem?_drop, Array.getElem?_toList]) (by kernel_rfl) ?_
        simp only [List.drop_succ_cons, List.drop_zero]
        gi_wp2_with (gi_at_builtin; refine wpListIn_append_own _ rfl _ _ 24 rfl w.heap.size 9 i0 (.string ⟨#[]⟩) 1 16 Try.underlying24 hi hz0 hz1 hz2 rfl (by decide) _ _ _ rfl (hown0.alloc _) ⟨w1.heap.size, 0, none⟩ 1 1 [strV (J.data x)] rfl rfl (cell_one_new _ _ _) (by simp [Value.oneCell']) (by unfold maxLen; omega) (by omega) hbase ?_; intro v' w2 hown' hgrow _; obtain ⟨g, cap, rfl⟩ := ownsRow_succ hown'; obtain ⟨hv1, hR2, hk2, hb2⟩ := APP hown' hgrow; have hc2 := hv1.cell; have hf2 := hv1.frozen; have hcg := hR2.2.2.cell; have hfg := hR2.2.2.frozen)
        refine ⟨(from_below' hb1).trans (((KeepsOthers.drew _).trans (hk2.trans (KeepsOthers.setCell _ _ _))).from _), (fun b h => h.elim), hok', ⟨.slice (some ⟨g, 0, none⟩) (k + 1) cap, ?_⟩, ((hB1.drew).trans hb2).setCell (p := ⟨w.heap.size + 1, 0, none⟩) (Nat.le_succ _) _⟩
        rw [hds, show (sumOf l k : Int) + ((txt x).size : Int) = ((sumOf l (k + 1) : Nat) : Int) from by rw [hss, txt_size]; omega]
        exact hR2.count (by omega) (by omega) (sumOf l (k + 1))
      · refine wpOpIn_step rfl (fun K hK => ?_)
        go_simp
        refine hK _ _ ?_
        clear hK K
        have hca : (w1.alloc (.cells #[strV (J.data x)] 9)).cell? ⟨w.heap.size, 0, none⟩ = some v := (hR.1.alloc _).cell
        refine wpAnyIn_sole 0 (by kernel_rfl) rfl (fun K hK => ?_)
        go_simp
        refine hK _ _ ?_
        clear hK K
        refine wpAnyIn_of_seq (List.drop 4 (Array.toList _)) 4 _ _ _ (fun j => by rw [List.getElem?_drop, Array.getElem?_toList]) (by kernel_rfl) ?_
        simp only [List.drop_succ_cons, List.drop_zero]
        change wpListIn _ _ _ _ _ _ _ ((w1.drew).alloc (.cells #[strV (J.data x)] 9))
        gi_wp2_with (gi_at_builtin; refine wpListIn_append_own _ rfl _ _ 24 rfl w.heap.size 9 i0 (.string ⟨#[]⟩) 1 16 Try.underlying24 hi hz0 hz1 hz2 rfl (by decide) _ _ _ rfl (hown0.alloc _) ⟨w1.heap.size, 0, none⟩ 1 1 [strV (J.data x)] rfl rfl (cell_one_new _ _ _) (by simp [Value.oneCell']) (by unfold maxLen; omega) (by omega) hbase ?_; intro v' w2 hown' hgrow _; obtain ⟨g, cap, rfl⟩ := ownsRow_succ hown'; obtain ⟨hv1, hR2, hk2, hb2⟩ := APP hown' hgrow; have hc2 := hv1.cell; have hf2 := hv1.frozen; have hcg := hR2.2.2.cell; have hfg := hR2.2.2.frozen)
        refine ⟨(from_below' hb1).trans (((KeepsOthers.drew _).trans (hk2.trans (KeepsOthers.setCell _ _ _))).from _), (fun b h => h.elim), hok', ⟨.slice (some ⟨g, 0, none⟩) (k + 1) cap, ?_⟩, ((hB1.drew).trans hb2).setCell (p := ⟨w.heap.size + 1, 0, none⟩) (Nat.le_succ _) _⟩
        rw [hds, show (sumOf l k : Int) + ((txt x).size : Int) = ((sumOf l (k + 1) : Nat) : Int) from by rw [hss, txt_size]; omega]
        exact hR2.count (by omega) (by omega) (sumOf l (k + 1))
  case done =>
    rintro D W hD ⟨hok, ⟨v, hR⟩, hBw⟩ hK
    have hgood : J.good l = (J.pieces l).take (J.pieces l).length := by rw [List.take_length]; exact J.good_all l (fun p hp => hok p (by rw [List.take_length]; exact hp))
    generalize (J.pieces l).length = m at *
    have hread : J.read s.data.toList = dataOf l m := by rw [hl, J.read, hgood]; rfl
    have hend : (J.end' s.data.toList : Int) = (sumOf l m : Int) := by rw [hl, J.end', hgood]; rfl
    have hc := hR.1.cell
    have hcg := hR.2.2.cell
    have hown := hR.2.1
    obtain ⟨hR1, ⟨hlen, hR2⟩, hR3⟩ := hR
    have HRD := Lib.hid hread
    have HEN := Lib.hid hend
    clear R0 hB0 b2 hread hend hgood hok hpl
    rcases hR2 with ⟨rfl, h0⟩ | ⟨g, cap, cur, rfl, hbg, hgb, hnc, hcm, hcs, htake⟩
    · rw [List.length_eq_zero_iff] at h0
      go_wp2
      go_quiet (fail)
      go_wp2
      try rw [Exit.noGoto_ret]
      have hKn : (W.drewN nq).heap[D]? = some (.deferred (some [])) := hK
      refine ⟨by simp, .inl ⟨_, _, rfl, run_takeDeferred hKn, ?_⟩⟩
      exact ⟨_, results_tmp2 rfl _ _ _, ⟨.slice none 0 0, by rw [HEN.out]; rfl, Texts.swept (.inl ⟨rfl, HRD.out.trans h0⟩) hKn⟩, (below_drewN hBw nq).trans (belowK_b (w := w) (Nat.le_refl _) _ D _ _ (by simp at hD; omega) hKn rfl rfl)⟩
    · have hcell : ∀ j (h : j < (dataOf l m).length), W.cell? ⟨g, j, none⟩ = some (strV (dataOf l m)[j]) := fun j h => by
        rw [hown.cellAt j (by omega), List.getElem?_map, List.getElem?_eq_getElem h]; rfl
      have hgl : g < W.heap.size := (Array.getElem?_eq_some_iff.1 hgb).1
      have hT : ∀ n, n = (dataOf l m).length → Texts (W.drewN 0) (.slice (some ⟨g, 0, none⟩) n n) (dataOf l m) := fun n hn => by
        subst hn; exact .inr ⟨g, _, rfl, Nat.le_refl _, hgl, hcell⟩
      have HTX := Lib.hid (hT _ rfl)
      have hni : ((dataOf l m).length : Int) ≤ (cap : Int) := by omega
      clear hT hcell hown hlen htake hcs
      generalize (dataOf l m).length = n at *
      go_wp2
      go_quiet (fail)
      go_wp2
      try rw [Exit.noGoto_ret]
      have hKn : (W.drewN nq).heap[D]? = some (.deferred (some [])) := hK
      refine ⟨by simp, .inl ⟨_, _, rfl, run_takeDeferred hKn, ?_⟩⟩
      exact ⟨_, results_tmp2 rfl _ _ _, ⟨.slice (some ⟨g, 0, none⟩) n n, by rw [HEN.out]; rfl, Texts.swept (HRD.out ▸ HTX.out) hKn⟩, (below_drewN hBw nq).trans (belowK_b (w := w) (Nat.le_refl _) _ D _ _ (by simp at hD; omega) hKn rfl rfl)⟩
  case stop =>
    rintro D c k W hD hk ⟨⟨rfl, hok, hno⟩, ⟨v, hR⟩, hBw⟩ hK
    have hgood : J.good l = (J.pieces l).take k := J.good_stop l k hk hok (hno hk)
    clear hk hno
    generalize k = m at *
    have hread : J.read s.data.toList = dataOf l m := by rw [hl, J.read, hgood]; rfl
    have hend : (J.end' s.data.toList : Int) = (sumOf l m : Int) := by rw [hl, J.end', hgood]; rfl
    have hc := hR.1.cell
    have hcg := hR.2.2.cell
    have hown := hR.2.1
    obtain ⟨hR1, ⟨hlen, hR2⟩, hR3⟩ := hR
    have HRD := Lib.hid hread
    have HEN := Lib.hid hend
    clear R0 hB0 b2 hread hend hgood hok hpl
    rcases hR2 with ⟨rfl, h0⟩ | ⟨g, cap, cur, rfl, hbg, hgb, hnc, hcm, hcs, htake⟩
    · rw [List.length_eq_zero_iff] at h0
      gi_wp2
      go_wp2
      go_quiet (fail)
      go_wp2
      try rw [Exit.noGoto_ret]
      have hKn : (W.drewN nq).heap[D]? = some (.deferred (some [])) := hK
      refine ⟨by simp, .inl ⟨_, _, rfl, run_takeDeferred hKn, ?_⟩⟩
      exact ⟨_, results_tmp2 rfl _ _ _, ⟨.slice none 0 0, by rw [HEN.out]; rfl, Texts.swept (.inl ⟨rfl, HRD.out.trans h0⟩) hKn⟩, (below_drewN hBw nq).trans (belowK_b (w := w) (Nat.le_refl _) _ D _ _ (by simp at hD; omega) hKn rfl rfl)⟩
    · have hcell : ∀ j (h : j < (dataOf l m).length), W.cell? ⟨g, j, none⟩ = some (strV (dataOf l m)[j]) := fun j h => by
        rw [hown.cellAt j (by omega), List.getElem?_map, List.getElem?_eq_getElem h]; rfl
      have hgl : g < W.heap.size := (Array.getElem?_eq_some_iff.1 hgb).1
      have hT : ∀ n, n = (dataOf l m).length → Texts (W.drewN 0) (.slice (some ⟨g, 0, none⟩) n n) (dataOf l m) := fun n hn => by
        subst hn; exact .inr ⟨g, _, rfl, Nat.le_refl _, hgl, hcell⟩
      have HTX := Lib.hid (hT _ rfl)
      have hni : ((dataOf l m).length : Int) ≤ (cap : Int) := by omega
      clear hT hcell hown hlen htake hcs
      generalize (dataOf l m).length = n at *
      gi_wp2
      go_wp2
      go_quiet (fail)
      go_wp2
      try rw [Exit.noGoto_ret]
      have hKn : (W.drewN nq).heap[D]? = some (.deferred (some [])) := hK
      refine ⟨by simp, .inl ⟨_, _, rfl, run_takeDeferred hKn, ?_⟩⟩
      exact ⟨_, results_tmp2 rfl _ _ _, ⟨.slice (some ⟨g, 0, none⟩) n n, by rw [HEN.out]; rfl, Texts.swept (HRD.out ▸ HTX.out) hKn⟩, (below_drewN hBw nq).trans (belowK_b (w := w) (Nat.le_refl _) _ D _ _ (by simp at hD; omega) hKn rfl rfl)⟩
end Go.Proofs.Ytfbponiiejanfaa
