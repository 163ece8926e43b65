/-
  flight.told: walked.
-/
import Derived.Test.YtialmaapahjchaaFlGoes
import Derived.Test.YtialmaapahjchaaRange3
import Derived.Test.YtialmaapahjchaaPhase
namespace Go.Proofs.Ytialmaapahjchaa
open Go.RowKit Go.Shelf
attribute [local go_sem] Oper.semAt_some
set_option linter.unusedVariables false
set_option linter.unusedSimpArgs false

/-- What told keeps while it goes on. -/
def CollN (n₀ B : Nat) (l : List Nt) (W : World) : Prop := ∃ v, Boxed W B 27 v ∧ Notes W n₀ v l ∧ v.ownBlock ≠ some B
theorem boxed_kept {W W' : World} {row : Option Nat} {B : Nat} {t : TypeId} {v : Value} (h : Boxed W B t v) (hg : W.grownBy W' row) (hr : ∀ r, row = some r → ∃ o : Obj, W.heap[r]? = some o ∧ o.isCells = false) : Boxed W' B t v :=
  h.kept hg (fun e => by obtain ⟨o, ho, hc⟩ := hr B e.symm; rw [show W.heap[B]? = _ from h] at ho; cases ho; cases hc)
theorem notes_kept {W W' : World} {row : Option Nat} {n₀ : Nat} {l : List Nt} {v : Value} (h : Notes W n₀ v l) (hg : W.grownBy W' row) (hr : ∀ r, row = some r → ∃ o : Obj, W.heap[r]? = some o ∧ o.isCells = false) : Notes W' n₀ v l :=
  h.keep fun g hgg => hg.block g (h.lt g hgg).2 (fun e => by
    obtain ⟨o, ho, hc⟩ := hr g e.symm
    obtain ⟨cur, hcur⟩ := h.typed g hgg
    rw [hcur] at ho; cases ho; cases hc)
theorem CollN.own {β : Type} (n₀ B : Nat) (f : β → List Nt) : Own (fun k W => CollN n₀ B (f k) W) := fun k W W' row ⟨v, h1, h2, h3⟩ hg hr =>
  ⟨v, boxed_kept h1 hg hr, notes_kept h2 hg hr, h3⟩
theorem Notes.of_owns {w : World} {base n : Nat} {v : Value} {l : List Nt} (h : w.ownsRow base 42 3 v n (flat l)) (hn : l.length = n) : Notes w base v l := by
  subst hn
  rcases h.2 with ⟨h1, h2⟩ | ⟨g, cap, cur, h1, h2, h3, h4, h5, h6, h7⟩
  · exact .inl ⟨h1, List.eq_nil_of_length_eq_zero h2⟩
  · exact .inr ⟨g, cap, cur, h1, h2, h3, h4, h5, by omega, h7⟩
theorem below_grown {w w' : World} (h : w.grownBy w' none) : Below w.heap.size w w' := ⟨h.os, h.tape, h.output, h.size, fun k hk => h.block k hk (by simp)⟩
theorem keepsFrom_below {n : Nat} {W W' : World} (h : Below W.heap.size W W') : KeepsFrom n W W' := ⟨h.size, fun k o _ hk _ => (h.block k (Array.getElem?_eq_some_iff.1 hk).1).trans hk⟩
/-- What a round of told leaves. -/
theorem told_step {n₀ A b B : Nat} {v v' u : Value} {ds : List Nt} {x : Nt} {W w2 w3 : World} {tmp : Obj} {cs : Array Value} (hv : Boxed W A 27 v) (hN : Notes W n₀ v ds) (hvA : v.ownBlock ≠ some A) (hA : n₀ ≤ A) (hb : n₀ ≤ b) (hrow : W.heap[b]? = some (.cells cs 42 (0, 0))) (hAb : ¬ A = b)
    (hb2 : Below W.heap.size W w2) (ho : Notes w3 n₀ v' (ds ++ [x])) (hg : ((w2.setCell ⟨b, 2, none⟩ u).alloc tmp).grownBy w3 v.ownBlock) (hat : v'.ownBlock = v.ownBlock ∨ v'.ownBlock = some ((w2.setCell ⟨b, 2, none⟩ u).alloc tmp).heap.size) :
    (w3.cell? ⟨A, 0, none⟩ = some v ∧ w3.frozen? ⟨A, 0, none⟩ = false) ∧
    KeepsFrom B W (w3.setCell ⟨A, 0, none⟩ v') ∧ Keeps (· < n₀) W (w3.setCell ⟨A, 0, none⟩ v') ∧ CollN n₀ A (ds ++ [x]) (w3.setCell ⟨A, 0, none⟩ v') ∧ Below n₀ W (w3.setCell ⟨A, 0, none⟩ v') ∧ W.heap.size ≤ (w3.setCell ⟨A, 0, none⟩ v').heap.size := by
  have hAW := hv.lt
  have hbW : b < W.heap.size := (Array.getElem?_eq_some_iff.1 hrow).1
  have hs2 := hb2.size
  have hsV : (w2.setCell ⟨b, 2, none⟩ u).heap.size = w2.heap.size := by simp
  have hs3 : W.heap.size ≤ w3.heap.size := by have := hg.size; simp at this; omega
  have hst : ∀ k, k < W.heap.size → k ≠ b → v.ownBlock ≠ some k → w3.heap[k]? = W.heap[k]? := fun k hk h1 h2 =>
    (hg.block k (by simp; omega) (fun e => h2 e.symm)).trans ((Below.heap_alloc _ _ k (by simp; omega)).trans ((Below.heap_setCell _ _ _ k h1).trans (hb2.block k hk)))
  have hvW := fun g (e : v.ownBlock = some g) => hN.typed g e
  have h3A : w3.heap[A]? = some (.cells #[v] 27 (0, 0)) := (hst A hAW hAb hvA).trans hv
  have hlast : (w3.setCell ⟨A, 0, none⟩ v').heap[A]? = some (.cells #[v'] 27 (0, 0)) := by
    simp only [World.setCell, Array.getElem?_modify, if_true]
    rw [h3A]; simp
  have hv'A : v'.ownBlock ≠ some A := by
    rcases hat with e | e
    · rw [e]; exact hvA
    · rw [e]; simp; omega
  have hset : ∀ k, k ≠ A → (w3.setCell ⟨A, 0, none⟩ v').heap[k]? = w3.heap[k]? := fun k hk => Below.heap_setCell _ _ _ k hk
  have hsz : (w3.setCell ⟨A, 0, none⟩ v').heap.size = w3.heap.size := by simp
  have hos : (w3.setCell ⟨A, 0, none⟩ v').os = W.os ∧ (w3.setCell ⟨A, 0, none⟩ v').tape = W.tape ∧ (w3.setCell ⟨A, 0, none⟩ v').output = W.output := ⟨hg.os.trans hb2.os, hg.tape.trans hb2.tape, hg.output.trans hb2.output⟩
  have hlow : ∀ k, k < n₀ → (w3.setCell ⟨A, 0, none⟩ v').heap[k]? = W.heap[k]? := fun k hk => (hset k (by omega)).trans (hst k (by omega) (by omega) (fun e => by have := (hN.lt k e).1; omega))
  refine ⟨by simp [World.cell?, World.frozen?, h3A], ⟨by rw [hsz]; exact hs3, fun k o hBk hk hc => ?_⟩, hlow, ⟨v', hlast, ho.keep (fun g hgg => hset g (fun e => hv'A (e ▸ hgg))), hv'A⟩, ⟨hos.1, hos.2.1, hos.2.2, by rw [hsz]; exact hs3, hlow⟩, by rw [hsz]; exact hs3⟩
  have hkW : k < W.heap.size := (Array.getElem?_eq_some_iff.1 hk).1
  refine ((hset k (fun e => ?_)).trans (hst k hkW (fun e => ?_) (fun e => ?_))).trans hk
  · subst e; rw [show W.heap[k]? = _ from hv] at hk; cases hk; cases hc
  · subst e; rw [hrow] at hk; cases hk; cases hc
  · obtain ⟨cur, hcur⟩ := hvW k e
    rw [hcur] at hk; cases hk; cases hc
set_option maxRecDepth 100000 in
set_option maxHeartbeats 4000000 in
theorem flTold (l : List Nt) (v : Value) (base : Nat) (w : World) (h : Notes w base v l) (hs : ∀ n ∈ l, n.s.size ≤ 10000) (hl : l.length ≤ 1000) : Calls Try.prog 27 #[v] w fun e w' =>
    (∃ u, e = .returned u ∧ Notes w' w.heap.size u l) ∧ Below w.heap.size w w' := by
  obtain ⟨a, c, rfl, hac⟩ := h.form
  have hlt := h.lt
  obtain ⟨m, hm⟩ : ∃ m, l.length = m := ⟨_, rfl⟩
  have HM := Lib.hid hm
  rw [hm] at hlt hl h hac ⊢
  have HT := Lib.hid h
  have HLT := Lib.hid hlt
  have hm1 : ¬ 1000000 < (m : Int) := by omega
  clear h hm hlt
  refine (callsIn_wide (n := 3)).1 ?_
  refine callsIn_of_wp_marks Try.func27 rfl trivial ?_ rfl
  simp only [Try.ntmps27, List.size_toArray, List.length_cons, List.length_nil, Nat.reduceAdd, Nat.reduceSub, Array.replicate_succ, Array.replicate_zero, List.push_toArray, List.append_toArray, List.nil_append, List.cons_append]
  refine wpIn_wide.2 ?_
  obtain ⟨i0, hi, hz0, hz1, hz2⟩ := info_parts info_note
  go_wp2_with (first
    | (at_make; refine wpList_make_own _ rfl _ _ _ rfl w.heap.size 42 i0 _ 3 Try.underlying27 hi hz0 hz1 .i64 .i64 _ m rfl rfl rfl (by rw [hz2]; omega) (by unfold maxLen; omega) (Nat.le_refl _) ?_; intro w1 hown hgrow; have hN0 : Notes w1 w.heap.size (.slice (some ⟨w.heap.size, 0, none⟩) 0 m) [] := Notes.of_owns hown rfl; have hb1 := below_grown hgrow; have hlt1 := (hN0.lt _ rfl).2; clear hown hgrow)
    | (go_at_call 35; refine (notesValues _ _ _ _).mono ?_; rintro e w' ⟨rfl, rfl⟩))
  refine (wpIn_wide (n := 3)).1 ?_
  have b0 := Boxed.new w1 27 (.slice (some ⟨w.heap.size, 0, none⟩) 0 m)
  have b1 := Boxed.new (w1.alloc (.cells #[.slice (some ⟨w.heap.size, 0, none⟩) 0 m] 27)) 27 (.slice a m c)
  simp only [World.size_alloc] at b1
  have hBl : Below w1.heap.size w1 ((w1.alloc (.cells #[.slice (some ⟨w.heap.size, 0, none⟩) 0 m] 27)).alloc (.cells #[.slice a m c] 27)) := ((Below.refl _ w1).alloc (Nat.le_refl _) _).alloc (by simp) _
  have hB0 : Below w.heap.size w ((w1.alloc (.cells #[.slice (some ⟨w.heap.size, 0, none⟩) 0 m] 27)).alloc (.cells #[.slice a m c] 27)) := hb1.trans (hBl.mono hb1.size)
  have R0 : CollN w.heap.size w1.heap.size (l.take 0) ((w1.alloc (.cells #[.slice (some ⟨w.heap.size, 0, none⟩) 0 m] 27)).alloc (.cells #[.slice a m c] 27)) :=
    ⟨_, b0.alloc _, hN0.below hBl, by simp [Value.ownBlock]; omega⟩
  have hsz0 : ((w1.alloc (.cells #[.slice (some ⟨w.heap.size, 0, none⟩) 0 m] 27)).alloc (.cells #[.slice a m c] 27)).heap.size = w1.heap.size + 2 := by simp
  have hgoes := notesGoes (3 - 1) (by omega) w.heap.size _ (w1.heap.size + 1) base (.slice a m c) l (by simp) b1.cell (HT.out.below hB0) (fun g hg => (HLT.out g hg).2) hB0.size (by rw [HM.out]; omega)
  have hs1 := hb1.size
  generalize hA : w1.heap.size = A at *
  generalize ((w1.alloc (.cells #[.slice (some ⟨w.heap.size, 0, none⟩) 0 m] 27)).alloc (.cells #[.slice a m c] 27)) = W0 at *
  clear b0 b1 hN0 hBl HT HLT hb1
  refine wpIn_goes_boxed rfl (by omega) (gf := 41) (lb := #[.pointer (some ⟨A + 1, 0, none⟩)]) rfl trivial (enters_of Try.func41 (by kernel_rfl) rfl)
    hgoes (by rintro b h; have : b < w.heap.size := h; omega) (Below.refl _ _) (fun _ => rfl)
    (fun k W => CollN w.heap.size A (l.take k) W ∧ Below w.heap.size w W ∧ A + 2 ≤ W.heap.size)
    (fun _ _ _ => False)
    (OwnFrom.and ((CollN.own _ _ (fun k => l.take k)).from _) (OwnFrom.and (ownFrom_below (Nat.le_refl _) (by omega)) (fun _ X Y row hs hg _ => Nat.le_trans hs hg.size)))
    (fun _ _ _ _ _ hs _ _ => hs)
    (by rintro k W ⟨_, _, h⟩; omega)
    ⟨R0, hB0, by omega⟩
    (fun x => #[.int .u32 (x.id.toNat : Int), .int .i64 x.to, .string x.s]) 42
    (fun b W => ∃ v, Boxed W A 27 v ∧ v.ownBlock ≠ some b)
    (fun b X Y row ⟨v, h1, h2⟩ hg hr => ⟨v, boxed_kept h1 hg (fun r e => (hr r e).2), h2⟩)
    ?fresh
    ⟨_, (by intro l x b W K hb hK; dsimp only [encN, Nt.val]; gi_wp2; exact hK), ?body⟩ ?done ?stop
  case fresh =>
    rintro k x W ⟨⟨v, h1, h2, h3⟩, _, _⟩
    exact ⟨v, h1.alloc _, fun e => by have := (h2.lt _ e).2; omega⟩
  case body =>
    rintro lp k x b W hx ⟨⟨v, hv, hN, hvA⟩, hBw, hsz⟩ hbs hrow ⟨v', hv', hvb⟩
    obtain ⟨hkl, hxe⟩ := List.getElem?_eq_some_iff.1 hx
    have hxs : x.s.size ≤ 281474976710656 := by have := hs x (hxe ▸ List.getElem_mem hkl); omega
    have e : v' = v := by have h1 := hv.cell; have h2 := hv'.cell; rw [h1] at h2; exact (Option.some.inj h2).symm
    subst e
    have hc := hv.cell
    have hf := hv.frozen
    have hbA : ¬ b = A := by omega
    have hAb : ¬ A = b := by omega
    have hbW : b < W.heap.size := (Array.getElem?_eq_some_iff.1 hrow).1
    have hNs : ∀ u, (W.heap.size ≤ u) → True := fun _ _ => trivial
    have C : ∀ (W' : World), Below W.heap.size W W' → W'.cell? ⟨b, 0, none⟩ = some (.int .u32 (x.id.toNat : Int)) ∧ W'.cell? ⟨b, 1, none⟩ = some (.int .i64 x.to) ∧ W'.cell? ⟨b, 2, none⟩ = some (.string x.s) ∧ W'.frozen? ⟨b, 2, none⟩ = false ∧ W'.cell? ⟨A, 0, none⟩ = some v' ∧ W'.frozen? ⟨A, 0, none⟩ = false := fun W' hb => by
      have h1 := (hb.block b hbW).trans hrow
      have h2 := (hb.block A hv.lt).trans hv
      simp [World.cell?, World.frozen?, h1, h2]
    have C0 := C W (Below.refl _ W)
    obtain ⟨p0, p1, p2, p3, _, _⟩ := C0
    have HC := Lib.hid C
    have HS := Lib.hid (fun (w2 w3 : World) (tmp : Obj) (u v'' : Value) => told_step (B := W0.heap.size) (w2 := w2) (w3 := w3) (tmp := tmp) (u := u) (v' := v'') (x := x) hv hN hvA (by omega) (by omega) hrow hAb)
    have HV := Lib.hid (fun (w2 : World) (u : Value) (o : Obj) (hb : Below W.heap.size W w2) => show Notes ((w2.setCell ⟨b, 2, none⟩ u).alloc o) w.heap.size v' (l.take k) from ((hN.below hb).keep (w' := w2.setCell ⟨b, 2, none⟩ u) (fun g hg => Below.heap_setCell _ _ _ g (fun e => hvb (hg.trans (congrArg some e))))).below ((Below.refl _ _).alloc (Nat.le_refl _) o))
    have hlk : (l.take k).length + 1 ≤ 1000000 := by have := HM.out; rw [List.length_take]; omega
    have hwW := hBw.size
    have htk : l.take (k + 1) = l.take k ++ [x] := by rw [List.take_succ_eq_append_getElem hkl, hxe]
    have HTK := Lib.hid htk
    have HBW := Lib.hid hBw
    clear C hx hgoes R0 hB0 hrow htk hN hkl hxe hBw
    gi_wp2_with (first
      | (refine ⟨trivial, ?_⟩; gi_at_call 30; refine (CallsIn.inRound lp (callsIn_wide.2 (Try.strings_Clone _ _ hxs))).mono ?_; rintro e w2 ⟨rfl, hb2⟩; obtain ⟨r0, r1, r2, r3, r4, r5⟩ := HC.out _ hb2)
      | (gi_at_builtin; refine wpListIn_append_notes rfl _ _ rfl w.heap.size v' (l.take k) rfl (HV.out w2 _ _ hb2) ⟨w2.heap.size, 0, none⟩ 1 1 [x] rfl rfl (by have := cell_note (w2.setCell ⟨b, 2, none⟩ (.string x.s)) x 42; simpa only [World.size_setCell] using this) hlk (by have := hb2.size; simp; omega) ?_; intro v'' w3 ho hg hat; obtain ⟨⟨y0, y1⟩, hend⟩ := HS.out w2 w3 _ _ v'' hb2 ho hg hat; obtain ⟨a2, c2, e2, _⟩ := ho.form; generalize (l.take k ++ [x]).length = q at e2; subst e2))
    obtain ⟨r1, r2, r3, r4, r5⟩ := hend
    exact ⟨r1, r2, by rw [HTK.out]; exact r3, HBW.out.trans r4, by omega⟩
  case done =>
    rintro D W hD ⟨⟨v, hv, hr, -⟩, hBw, _⟩ hK
    have hall : l.take l.length = l := List.take_length
    rw [hall] at hr
    obtain ⟨a2, c2, rfl, hac2⟩ := hr.form
    have hc := hv.cell
    obtain ⟨q, hq⟩ : ∃ q, l.length = q := ⟨_, rfl⟩
    rw [hq] at hc hr
    have HR := Lib.hid hr
    have HBW := Lib.hid hBw
    clear R0 hB0 hgoes hr hv hBw hq
    go_wp2
    refine ⟨by simp, .inl ⟨_, _, rfl, run_takeDeferred hK, ?_⟩⟩
    refine ⟨_, results_tmp rfl _ _ _, ⟨_, rfl, HR.out.keep fun g hg => World.putObj_heap_other (fun e => ?_)⟩, HBW.out.trans (belowK_b (w := w) (Nat.le_refl _) _ D _ _ (by omega) hK rfl rfl)⟩
    obtain ⟨cur, hcur⟩ := HR.out.typed g hg
    subst e
    rw [hcur] at hK; cases hK
  case stop =>
    rintro D cc k W hD hk h hK
    exact h.elim
end Go.Proofs.Ytialmaapahjchaa
