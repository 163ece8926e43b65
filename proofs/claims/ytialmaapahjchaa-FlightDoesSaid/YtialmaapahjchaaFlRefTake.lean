/-
  The document's flight: Take, walked.
-/
import Derived.Test.YtialmaapahjchaaFlRef
import Derived.Test.YtialmaapahjchaaFlTake
namespace Go.Proofs.Ytialmaapahjchaa
open Go.RowKit Go.Shelf
attribute [local go_sem] Oper.semAt_some
set_option linter.unusedVariables false
set_option linter.unusedSimpArgs false

theorem own_fresh {v v' : Value} {n m : Nat} (h : v'.ownBlock = v.ownBlock ∨ v'.ownBlock = some m) (hm : n ≤ m) (hv : ∀ q, v.ownBlock = some q → n ≤ q) : ∀ q, v'.ownBlock = some q → n ≤ q := fun q hq => by
  rcases h with e | e
  · exact hv q (e ▸ hq)
  · rw [e] at hq; cases hq; exact hm
theorem ref_take_end {F : Fl} {B : Nat} {v v4 : Value} {L : List Nt} {w W2 w4 : World} (h : Fl.Is false F B v w) (hW : Below w.heap.size w W2) (hb4 : Below W2.heap.size W2 w4) (ho : Notes w4 (B + 1) v4 L) (hv4 : ∀ g, v4.ownBlock = some g → W2.heap.size ≤ g) (hl : L.length ≤ 1000) (hs : ∀ n ∈ L, n.s.size ≤ 10000) :
    Fl.Turns false { F with notes := L } B v w (w4.setCell ⟨B, 0, none⟩ v4) := by
  have hB := h.lt
  have hs2 := hW.size
  have hrow : w4.heap[B]? = some (.cells (Fl.cells false F v) (Fl.ty false) (0, 0)) := (hb4.block B (by omega)).trans ((hW.block B hB).trans h.row)
  refine ⟨v4, ⟨Fl.row_set hrow 0 v4, ho.keep (fun g hg => Below.heap_setCell _ _ _ g (by have := hv4 g hg; simp; omega)), hl, hs⟩, fun g hg => .inr (Nat.le_trans hs2 (hv4 g hg)), ?_⟩
  exact (Stays.of_below (hW.trans (hb4.mono hs2))).setCell _ _ rfl
theorem refTakeNo (F : Fl) (B : Nat) (v : Value) (at' : Int) (w : World) (h : Fl.Is false F B v w) (hp : ¬ F.place at' = true) : Calls Try.prog 24 #[.pointer (some ⟨B, 0, none⟩), .int .i64 at'] w fun e w' =>
    e = .returned (.tuple #[(F.note at').val, .int .i64 (F.checkE at')]) ∧ Fl.Turns false (F.drop at') B v w w' := by
  have hI1 := h.below ((Below.refl _ w).alloc (Nat.le_refl _) (.cells #[.int .u32 0, .int .i64 0, .string ⟨#[]⟩] 42))
  have hc0 : (w.alloc (.cells #[.int .u32 0, .int .i64 0, .string ⟨#[]⟩] 42)).cell? ⟨B, 0, none⟩ = some v := hI1.cell 0 _ rfl
  have hor : at' < 0 ∨ ¬ at' < 0 ∧ (F.notes.length : Int) ≤ at' := by simp [Fl.place] at hp; omega
  have e1 : F.checkE at' = 2 := by simp [Fl.checkE, hp]
  have e2 : F.drop at' = F := by simp [Fl.drop, hp]
  have e3 : F.note at' = Nt.zero := by simp [Fl.note, hp]
  rw [e1, e2, e3]
  have HT := Lib.hid (fun (w' : World) (hb : Below w.heap.size w w') => Fl.Turns.of_below h hb)
  obtain ⟨a, c, hv, _⟩ := h.own.form
  have hB := h.lt
  have hcw : w.cell? ⟨B, 0, none⟩ = some v := h.cell 0 _ rfl
  generalize F.notes.length = n at *
  clear h hp e1 e2 e3 hI1
  subst hv
  rcases hor with h0 | ⟨h0, h1⟩
  · go_enter Try.func24, Try.ntmps24
    go_wp2
    refine bodyPost_ret (v := .tuple #[.agg #[.int .u32 0, .int .i64 0, .string ⟨#[]⟩], .int .i64 2]) (by simp [results, Try.results24, go_sem]) rfl ?_
    exact ⟨rfl, HT.out _ ((Below.refl _ w).alloc (Nat.le_refl _) _)⟩
  · go_enter Try.func24, Try.ntmps24
    go_wp2
    refine bodyPost_ret (v := .tuple #[.agg #[.int .u32 0, .int .i64 0, .string ⟨#[]⟩], .int .i64 2]) (by simp [results, Try.results24, go_sem]) rfl ?_
    exact ⟨rfl, HT.out _ ((Below.refl _ w).alloc (Nat.le_refl _) _)⟩
set_option maxRecDepth 100000 in
set_option maxHeartbeats 4000000 in
theorem refTakeYes (F : Fl) (B : Nat) (v : Value) (k : Nat) (w : World) (h : Fl.Is false F B v w) (hk : k < F.notes.length) : Calls Try.prog 24 #[.pointer (some ⟨B, 0, none⟩), .int .i64 (k : Int)] w fun e w' =>
    e = .returned (.tuple #[F.notes[k].val, .int .i64 0]) ∧ Fl.Turns false { F with notes := F.notes.eraseIdx k } B v w w' := by
  obtain ⟨W1, hW1⟩ : ∃ W1, w.alloc (.cells #[.int .u32 0, .int .i64 0, .string ⟨#[]⟩] 42) = W1 := ⟨_, rfl⟩
  have hB1 : Below w.heap.size w W1 := hW1 ▸ (Below.refl _ w).alloc (Nat.le_refl _) _
  have hs1 : W1.heap.size = w.heap.size + 1 := by rw [← hW1]; simp
  have hI1 := h.below hB1
  obtain ⟨g, c, hv, hc, hbg, hgw, hfz, q0, q1, q2⟩ := hI1.own.cell k hk
  have hkb : k < 1000 := by have := h.ok.few; omega
  have HI := Lib.hid h
  have HK := Lib.hid hk
  have hsub : ∀ x ∈ F.notes.take k ++ F.notes.drop (k + 1), x.s.size ≤ 10000 := fun x hx => by
    rw [← List.eraseIdx_eq_take_drop_succ] at hx
    exact h.ok.small x (List.mem_of_mem_eraseIdx hx)
  have hlen : (F.notes.take k ++ F.notes.drop (k + 1)).length ≤ 1000 := by
    rw [← List.eraseIdx_eq_take_drop_succ]
    exact Nat.le_trans (List.length_eraseIdx_le _ _) h.ok.few
  have HSUB := Lib.hid hsub
  have HLEN := Lib.hid hlen
  have hown := h.own
  obtain ⟨n, hn⟩ : ∃ n, F.notes.length = n := ⟨_, rfl⟩
  have HN := Lib.hid hn
  generalize hx : F.notes[k] = x at *
  rw [hn] at hv hc
  have hkn : k < n := by omega
  have hki : (k : Int) < (n : Int) := by omega
  have hnk : (k : Int) + 1 ≤ (n : Int) := by omega
  have hkn' : (k : Int) ≤ (n : Int) := by omega
  have hcI : (n : Int) ≤ (c : Int) := by omega
  have hkc : (k : Int) ≤ (c : Int) := by omega
  obtain ⟨xi, xt, xs⟩ := x
  dsimp only at q0 q1 q2
  obtain ⟨W2, hW2⟩ : ∃ W2, W1.alloc (.cells #[.int .u32 (xi.toNat : Int), .int .i64 xt, .string xs] 42) = W2 := ⟨_, rfl⟩
  have hB2' : Below W1.heap.size W1 W2 := hW2 ▸ (Below.refl _ W1).alloc (Nat.le_refl _) _
  have hB2 : Below w.heap.size w W2 := hB1.trans (hB2'.mono hB1.size)
  have hs2 : W2.heap.size = w.heap.size + 2 := by rw [← hW2]; simp [hs1]
  have hr1 : W2.heap[w.heap.size]? = some (.cells #[.int .u32 0, .int .i64 0, .string ⟨#[]⟩] 42 (0, 0)) := (hB2'.block _ (by omega)).trans (hW1 ▸ World.alloc_heap_new w _)
  have hr2 : W2.heap[w.heap.size + 1]? = some (.cells #[.int .u32 (xi.toNat : Int), .int .i64 xt, .string xs] 42 (0, 0)) := by rw [← hs1, ← hW2]; exact World.alloc_heap_new W1 _
  have hI2 := h.below hB2
  have hBlt := h.lt
  have hlt : (F.notes.take k).length = k := by rw [List.length_take]; omega
  have hld : (F.notes.drop (k + 1)).length = n - (k + 1) := by rw [List.length_drop, hn]
  subst hv
  obtain ⟨g1, c1, e1, _, _, hgW, _, hcells⟩ := hI2.own.get (by omega)
  simp only [Value.slice.injEq, Option.some.injEq, Addr.mk.injEq, and_true] at e1
  obtain ⟨e0, -, -⟩ := e1
  subst e0
  have hnews1 : ∀ j u, (flat (F.notes.take k))[j]? = some u → W2.cell? ((⟨g, 0, none⟩ : Addr).add j) = some u := fun j u hu => by
    rw [add0]
    rw [← flat_take, List.getElem?_take] at hu
    split at hu
    · exact hcells _ _ hu
    · cases hu
  have hnews2 : ∀ j u, (flat (F.notes.drop (k + 1)))[j]? = some u → W2.cell? ((⟨g, (k + 1) * 3, none⟩ : Addr).add j) = some u := fun j u hu => by
    rw [← flat_drop, List.getElem?_drop] at hu
    have := hcells _ _ hu
    have e : (⟨g, (k + 1) * 3, none⟩ : Addr).add j = ⟨g, (k + 1) * 3 + j, none⟩ := by unfold Addr.add; split <;> simp_all
    rw [e]; exact this
  have hd1 : W1.cell? ⟨B, 0, none⟩ = some (.slice (some ⟨g, 0, none⟩) n c) := hI1.cell 0 _ rfl
  have hd2 : W2.cell? ⟨B, 0, none⟩ = some (.slice (some ⟨g, 0, none⟩) n c) := hI2.cell 0 _ rfl
  have HE := Lib.hid (fun (w4 : World) (v4 : Value) (hb4 : Below W2.heap.size W2 w4) (ho : Notes w4 (B + 1) v4 (F.notes.take k ++ F.notes.drop (k + 1))) (hv4 : ∀ g, v4.ownBlock = some g → W2.heap.size ≤ g) => ref_take_end h hB2 hb4 ho hv4 hlen hsub)
  have HD := Lib.hid (fun (w3 : World) (hb : Below W2.heap.size W2 w3) => show w3.cell? ⟨B, 0, none⟩ = some (.slice (some ⟨g, 0, none⟩) n c) ∧ w3.frozen? ⟨B, 0, none⟩ = false ∧ w3.heap[w.heap.size]? = some (.cells #[.int .u32 0, .int .i64 0, .string ⟨#[]⟩] 42 (0, 0)) ∧ w3.heap[w.heap.size + 1]? = some (.cells #[.int .u32 (xi.toNat : Int), .int .i64 xt, .string xs] 42 (0, 0)) from
    ⟨(hI2.below hb).cell 0 _ rfl, (hI2.below hb).thawed 0, (hb.block _ (by omega)).trans hr1, (hb.block _ (by omega)).trans hr2⟩)
  have HN1 := Lib.hid hnews1
  have HN2 := Lib.hid hnews2
  have hmid : (F.notes.take k).length + (n - (k + 1)) ≤ 1000000 := by have := h.ok.few; rw [hn] at this; rw [hlt]; omega
  have hgB : g < W2.heap.size := hgW
  have hBw : B + 1 ≤ W2.heap.size := by omega
  clear h hI1 hn hk hfz hI2 hown hcells hnews1 hnews2 hr1 hr2 hsub hlen hx hB2'
  have HT1 : Hid True := Lib.hid trivial
  have h0k : (0 : Int) ≤ (k : Int) + 1 := by omega
  have hne1 : ¬ w.heap.size = B := by omega
  have hne2 : ¬ w.heap.size + 1 = B := by omega
  have hne3 : ¬ B = w.heap.size := by omega
  have hne4 : ¬ B = w.heap.size + 1 := by omega
  by_cases hcn : c = k + 1
  · obtain ⟨m, hm⟩ : ∃ m, k + 1 = m := ⟨_, rfl⟩
    obtain rfl : n = m := by omega
    obtain rfl : n = c := by omega
    have HM := Lib.hid hm
    have hwr : IntKind.i64.wrap ((k : Int) + 1) = (n : Int) := by rw [IntWalk.i64_in _ (by omega)]; omega
    have hld0 : (F.notes.drop (k + 1)).length = 0 := by rw [hld]; omega
    have hd0 : F.notes.drop (k + 1) = [] := List.eq_nil_of_length_eq_zero hld0
    have HD0 := Lib.hid hd0
    have hmid0 : (F.notes.take k).length + 0 ≤ 1000000 := by omega
    clear hm hcn hd0 hmid
    go_enter Try.func24, Try.ntmps24
    go_wp2_with (first
      | (at_builtin; have H := HT1; refine wpList_append_notes rfl _ _ rfl (B + 1) (.slice none 0 0) [] rfl (Notes.nil _ _) ⟨g, 0, none⟩ k n (F.notes.take k) rfl hlt HN1.out (by simp; omega) hBw ?_; clear H HT1; intro v3 w3 ho3 hg3 hat3; have hb3 := below_grown hg3; simp only [List.nil_append] at ho3; have hv3 : ∀ q, v3.ownBlock = some q → W2.heap.size ≤ q := own_fresh hat3 (Nat.le_refl _) (fun q hq => by cases hq); obtain ⟨y0, y1, y2, y3⟩ := HD.out w3 hb3; have HO3 := Lib.hid ho3; have HV3 := Lib.hid hv3; clear y1 y2 y3 ho3 hg3 hat3 hv3)
      | (at_builtin; refine wpList_append_notes rfl _ _ rfl (B + 1) v3 (F.notes.take k) rfl HO3.out ⟨g, 0, none⟩ 0 _ (F.notes.drop (k + 1)) rfl hld0 (fun j u hu => by rw [HD0.out] at hu; simp [flat] at hu) hmid0 (Nat.le_trans hBw hb3.size) ?_; intro v4 w4 ho4 hg4 hat4; have hb4 : Below W2.heap.size W2 w4 := (hb3.grown hg4 hb3.size HV3.out); have hv4 := own_fresh hat4 hb3.size HV3.out; obtain ⟨z0, z1, z2, z3⟩ := HD.out w4 hb4; have hend := HE.out w4 v4 hb4 ho4 hv4; obtain ⟨a4, c4, e4, _⟩ := ho4.form; generalize (List.take k F.notes ++ List.drop (k + 1) F.notes).length = q at e4; subst e4; have s0 : w4.cell? ⟨w.heap.size + 1, 0, none⟩ = some (.int .u32 (xi.toNat : Int)) := (by simp [World.cell?, z3]); have s1 : w4.cell? ⟨w.heap.size + 1, 1, none⟩ = some (.int .i64 xt) := (by simp [World.cell?, z3]); have s2 : w4.cell? ⟨w.heap.size + 1, 2, none⟩ = some (.string xs) := (by simp [World.cell?, z3]); have t0 : w4.cell? ⟨w.heap.size, 0, none⟩ = some (.int .u32 0) := (by simp [World.cell?, z2]); have t1 : w4.cell? ⟨w.heap.size, 1, none⟩ = some (.int .i64 0) := (by simp [World.cell?, z2]); have t2 : w4.cell? ⟨w.heap.size, 2, none⟩ = some (.string ⟨#[]⟩) := (by simp [World.cell?, z2]); have f0 : ∀ j, w4.frozen? ⟨w.heap.size, j, none⟩ = false := (fun j => by simp [World.frozen?, z2]); have f00 := f0 0; have f01 := f0 1; have f02 := f0 2; have Z2 := Lib.hid z2; clear z2 z3))
    have z2' : (w4.setCell ⟨B, 0, none⟩ (.slice a4 q c4)).heap[w.heap.size]? = some (.cells #[.int .u32 0, .int .i64 0, .string ⟨#[]⟩] 42 (0, 0)) := (Below.heap_setCell _ _ _ _ hne1).trans Z2.out
    have hv5 : ∀ v', Fl.Is false { F with notes := F.notes.take k ++ F.notes.drop (k + 1) } B v' (w4.setCell ⟨B, 0, none⟩ (.slice a4 q c4)) → v'.ownBlock ≠ some w.heap.size := fun v' hI e => by
      obtain ⟨v5, h5I, _, _⟩ := hend
      have h1 := hI.cell 0 v' rfl
      have h2 : (w4.setCell ⟨B, 0, none⟩ (.slice a4 q c4)).cell? ⟨B, 0, none⟩ = some (.slice a4 q c4) := World.cell?_setCell_same' _ _ _ (by rw [z0]; rfl)
      rw [h2] at h1
      have e2 := Option.some.inj h1
      subst e2
      have := hv4 _ e
      omega
    have h5 := row_three (w4.setCell ⟨B, 0, none⟩ (.slice a4 q c4)) w.heap.size #[] (.int .u32 (xi.toNat : Int)) (.int .i64 xt) (.string xs) z2'
    obtain ⟨W5, hW5⟩ : ∃ W5, ((((w4.setCell ⟨B, 0, none⟩ (.slice a4 q c4)).setCell ⟨w.heap.size, 0, none⟩ (.int .u32 (xi.toNat : Int))).setCell ⟨w.heap.size, 1, none⟩ (.int .i64 xt)).setCell ⟨w.heap.size, 2, none⟩ (.string xs)) = W5 := ⟨_, rfl⟩
    rw [hW5] at h5 ⊢
    obtain ⟨h5r, h5o, h5s, h5x⟩ := h5
    have s0' : W5.cell? ⟨w.heap.size, 0, none⟩ = some (.int .u32 (xi.toNat : Int)) := by simp [World.cell?, h5r]
    have s1' : W5.cell? ⟨w.heap.size, 1, none⟩ = some (.int .i64 xt) := by simp [World.cell?, h5r]
    have s2' : W5.cell? ⟨w.heap.size, 2, none⟩ = some (.string xs) := by simp [World.cell?, h5r]
    have hfin := hend.other (R := w.heap.size) (Nat.le_refl _) hne1 hv5 h5o h5s h5x
    rw [← List.eraseIdx_eq_take_drop_succ] at hfin
    clear hW5 h5r h5o h5s h5x hv5 hend
    refine bodyPost_ret (v := .tuple #[.agg #[.int .u32 (xi.toNat : Int), .int .i64 xt, .string xs], .int .i64 0]) (by simp [results, Try.results24, go_sem, s0', s1', s2']) rfl ?_
    exact ⟨rfl, hfin⟩
  · have hci : (k : Int) + 1 < (c : Int) := by omega
    have hwr : IntKind.i64.wrap ((k : Int) + 1) = (k : Int) + 1 := IntWalk.i64_in _ (by omega)
    have htn : ((k : Int) + 1).toNat = k + 1 := by omega
    go_enter Try.func24, Try.ntmps24
    go_wp2_with (first
      | (at_builtin; have H := HT1; refine wpList_append_notes rfl _ _ rfl (B + 1) (.slice none 0 0) [] rfl (Notes.nil _ _) ⟨g, 0, none⟩ k c (F.notes.take k) rfl hlt HN1.out (by simp; omega) hBw ?_; clear H HT1; intro v3 w3 ho3 hg3 hat3; have hb3 := below_grown hg3; simp only [List.nil_append] at ho3; have hv3 : ∀ q, v3.ownBlock = some q → W2.heap.size ≤ q := own_fresh hat3 (Nat.le_refl _) (fun q hq => by cases hq); obtain ⟨y0, y1, y2, y3⟩ := HD.out w3 hb3; have HO3 := Lib.hid ho3; have HV3 := Lib.hid hv3; clear y1 y2 y3 ho3 hg3 hat3 hv3)
      | (at_builtin; refine wpList_append_notes rfl _ _ rfl (B + 1) v3 (F.notes.take k) rfl HO3.out ⟨g, (k + 1) * 3, none⟩ (n - (k + 1)) _ (F.notes.drop (k + 1)) rfl hld (fun j u hu => (hb3.cell (p := (⟨g, (k + 1) * 3, none⟩ : Addr).add j) (by rw [add_block]; exact hgB)).trans (HN2.out j u hu)) hmid (Nat.le_trans hBw hb3.size) ?_; intro v4 w4 ho4 hg4 hat4; have hb4 : Below W2.heap.size W2 w4 := (hb3.grown hg4 hb3.size HV3.out); have hv4 := own_fresh hat4 hb3.size HV3.out; obtain ⟨z0, z1, z2, z3⟩ := HD.out w4 hb4; have hend := HE.out w4 v4 hb4 ho4 hv4; obtain ⟨a4, c4, e4, _⟩ := ho4.form; generalize (List.take k F.notes ++ List.drop (k + 1) F.notes).length = q at e4; subst e4; have s0 : w4.cell? ⟨w.heap.size + 1, 0, none⟩ = some (.int .u32 (xi.toNat : Int)) := (by simp [World.cell?, z3]); have s1 : w4.cell? ⟨w.heap.size + 1, 1, none⟩ = some (.int .i64 xt) := (by simp [World.cell?, z3]); have s2 : w4.cell? ⟨w.heap.size + 1, 2, none⟩ = some (.string xs) := (by simp [World.cell?, z3]); have t0 : w4.cell? ⟨w.heap.size, 0, none⟩ = some (.int .u32 0) := (by simp [World.cell?, z2]); have t1 : w4.cell? ⟨w.heap.size, 1, none⟩ = some (.int .i64 0) := (by simp [World.cell?, z2]); have t2 : w4.cell? ⟨w.heap.size, 2, none⟩ = some (.string ⟨#[]⟩) := (by simp [World.cell?, z2]); have f0 : ∀ j, w4.frozen? ⟨w.heap.size, j, none⟩ = false := (fun j => by simp [World.frozen?, z2]); have f00 := f0 0; have f01 := f0 1; have f02 := f0 2; have Z2 := Lib.hid z2; clear z2 z3))
    have z2' : (w4.setCell ⟨B, 0, none⟩ (.slice a4 q c4)).heap[w.heap.size]? = some (.cells #[.int .u32 0, .int .i64 0, .string ⟨#[]⟩] 42 (0, 0)) := (Below.heap_setCell _ _ _ _ hne1).trans Z2.out
    have hv5 : ∀ v', Fl.Is false { F with notes := F.notes.take k ++ F.notes.drop (k + 1) } B v' (w4.setCell ⟨B, 0, none⟩ (.slice a4 q c4)) → v'.ownBlock ≠ some w.heap.size := fun v' hI e => by
      obtain ⟨v5, h5I, _, _⟩ := hend
      have h1 := hI.cell 0 v' rfl
      have h2 : (w4.setCell ⟨B, 0, none⟩ (.slice a4 q c4)).cell? ⟨B, 0, none⟩ = some (.slice a4 q c4) := World.cell?_setCell_same' _ _ _ (by rw [z0]; rfl)
      rw [h2] at h1
      have e2 := Option.some.inj h1
      subst e2
      have := hv4 _ e
      omega
    have h5 := row_three (w4.setCell ⟨B, 0, none⟩ (.slice a4 q c4)) w.heap.size #[] (.int .u32 (xi.toNat : Int)) (.int .i64 xt) (.string xs) z2'
    obtain ⟨W5, hW5⟩ : ∃ W5, ((((w4.setCell ⟨B, 0, none⟩ (.slice a4 q c4)).setCell ⟨w.heap.size, 0, none⟩ (.int .u32 (xi.toNat : Int))).setCell ⟨w.heap.size, 1, none⟩ (.int .i64 xt)).setCell ⟨w.heap.size, 2, none⟩ (.string xs)) = W5 := ⟨_, rfl⟩
    rw [hW5] at h5 ⊢
    obtain ⟨h5r, h5o, h5s, h5x⟩ := h5
    have s0' : W5.cell? ⟨w.heap.size, 0, none⟩ = some (.int .u32 (xi.toNat : Int)) := by simp [World.cell?, h5r]
    have s1' : W5.cell? ⟨w.heap.size, 1, none⟩ = some (.int .i64 xt) := by simp [World.cell?, h5r]
    have s2' : W5.cell? ⟨w.heap.size, 2, none⟩ = some (.string xs) := by simp [World.cell?, h5r]
    have hfin := hend.other (R := w.heap.size) (Nat.le_refl _) hne1 hv5 h5o h5s h5x
    rw [← List.eraseIdx_eq_take_drop_succ] at hfin
    clear hW5 h5r h5o h5s h5x hv5 hend
    refine bodyPost_ret (v := .tuple #[.agg #[.int .u32 (xi.toNat : Int), .int .i64 xt, .string xs], .int .i64 0]) (by simp [results, Try.results24, go_sem, s0', s1', s2']) rfl ?_
    exact ⟨rfl, hfin⟩
end Go.Proofs.Ytialmaapahjchaa
