/-
  Tick: walked.
-/
import Derived.Test.YtdpnmmeecnconaaDtHear
namespace Go.Proofs.Ytdpnmmeecnconaa
open Go.RowKit Go.Shelf
attribute [local go_sem] Oper.semAt_some
set_option linter.unusedVariables false
set_option linter.unusedSimpArgs false

set_option maxRecDepth 100000 in
set_option maxHeartbeats 1000000 in
/-- What Tick asks of a node. -/
theorem dtLate1 (D : Dt) (B M A T : Nat) (t i : Nat) (x : Nd) (w : World) (h : Dt.Is D B M w) (hA : w.cell? ⟨A, 0, none⟩ = some (.pointer (some ⟨B, 0, none⟩))) (hT : w.cell? ⟨T, 0, none⟩ = some (.int .u64 (t : Int))) (hx : x.last ≤ t) (ht : t ≤ Dt.maxTime) :
    Calls Try.prog 18 #[intV i, x.val, .pointer (some ⟨A, 0, none⟩), .pointer (some ⟨T, 0, none⟩)] w fun e w' => e = .returned (.bool (D.late t i x)) ∧ Below w.heap.size w w' := by
  have h0 : w.cell? ⟨B, 0, none⟩ = some (.int .i64 (D.me : Int)) := h.cell 0 _ rfl
  obtain ⟨xl, xo, xs⟩ := x
  dsimp only at hx
  have hbA : Below w.heap.size w (w.alloc (.cells #[.int .u64 (xl : Int), .int .u64 (xo : Int), .bool xs] 51)) := (Below.refl _ w).alloc (Nat.le_refl _) _
  have h0' : (w.alloc (.cells #[.int .u64 (xl : Int), .int .u64 (xo : Int), .bool xs] 51)).cell? ⟨B, 0, none⟩ = some (.int .i64 (D.me : Int)) := (hbA.cell (p := ⟨B, 0, none⟩) (lt_of_cell h0)).trans h0
  have hA' : (w.alloc (.cells #[.int .u64 (xl : Int), .int .u64 (xo : Int), .bool xs] 51)).cell? ⟨A, 0, none⟩ = some (.pointer (some ⟨B, 0, none⟩)) := (hbA.cell (p := ⟨A, 0, none⟩) (lt_of_cell hA)).trans hA
  have hT' : (w.alloc (.cells #[.int .u64 (xl : Int), .int .u64 (xo : Int), .bool xs] 51)).cell? ⟨T, 0, none⟩ = some (.int .u64 (t : Int)) := (hbA.cell (p := ⟨T, 0, none⟩) (lt_of_cell hT)).trans hT
  unfold Dt.maxTime at ht
  have hw : IntKind.u64.wrap ((t : Int) - (xl : Int)) = (t : Int) - (xl : Int) := IntWalk.u64_in _ (by omega)
  have HL := Lib.hid (show D.late t i ⟨xl, xo, xs⟩ = (!(i == D.me) && !xs && decide (xo < t - xl)) from rfl)
  generalize D.late t i ⟨xl, xo, xs⟩ = R at *
  generalize D.me = m at *
  have HX := Lib.hid hx
  clear h hx ht hbA h0 hA hT
  by_cases him : i = m
  · have hb : ((i : Int) != (m : Int)) = false := by rw [him]; simp
    have hb2 : ((i : Int) == (m : Int)) = true := by rw [him]; simp
    have hb3 : (i : Int) = (m : Int) := by rw [him]
    have HR := Lib.hid (show R = false by rw [HL.out, him]; simp)
    clear him
    go_enter Try.func18, Try.ntmps18
    go_wp2
    go_ret
    exact ⟨by rw [HR.out]; rfl, (Below.refl _ w).alloc (Nat.le_refl _) _⟩
  · have hb : ((i : Int) != (m : Int)) = true := by rw [bne_iff_ne]; omega
    have hb2 : ((i : Int) == (m : Int)) = false := by rw [beq_eq_false_iff_ne]; omega
    have hb4 : (i == m) = false := by rw [beq_eq_false_iff_ne]; exact him
    cases xs with
    | true =>
      have HR := Lib.hid (show R = false by rw [HL.out]; simp)
      clear him hb4
      go_enter Try.func18, Try.ntmps18
      go_wp2
      go_ret
      exact ⟨by rw [HR.out]; rfl, (Below.refl _ w).alloc (Nat.le_refl _) _⟩
    | false =>
      by_cases hl : xo < t - xl
      · have HR := Lib.hid (show R = true by rw [HL.out, hb4]; simp [hl])
        have hd : decide ((xo : Int) < (t : Int) - (xl : Int)) = true := decide_eq_true (by have := HX.out; omega)
        have hd2 : (xo : Int) < (t : Int) - (xl : Int) := by have := HX.out; omega
        clear him hb4 hl
        go_enter Try.func18, Try.ntmps18
        go_wp2
        go_ret
        exact ⟨by rw [HR.out]; rfl, (Below.refl _ w).alloc (Nat.le_refl _) _⟩
      · have HR := Lib.hid (show R = false by rw [HL.out, hb4]; simp [hl])
        have hd : decide ((xo : Int) < (t : Int) - (xl : Int)) = false := decide_eq_false (by have := HX.out; omega)
        have hd2 : ¬ (xo : Int) < (t : Int) - (xl : Int) := by have := HX.out; omega
        clear him hb4 hl
        go_enter Try.func18, Try.ntmps18
        go_wp2
        go_ret
        exact ⟨by rw [HR.out]; rfl, (Below.refl _ w).alloc (Nat.le_refl _) _⟩
namespace Dt
/-- A node that is suspected from now on. -/
def susp (x : Nd) : Nd := { x with sus := true }
def mark (D : Dt) (i : Nat) : Dt := { D with nodes := D.nodes.modify i susp }
def marks (D : Dt) (l : List Nat) : Dt := l.foldl mark D
theorem mark_length (D : Dt) (i : Nat) : (D.mark i).nodes.length = D.nodes.length := by simp [mark]
theorem mark_ok {D : Dt} (h : D.Ok) (i : Nat) (hi : i ≠ D.me) : (D.mark i).Ok := by
  have hmem : ∀ x ∈ (D.mark i).nodes, ∃ y ∈ D.nodes, x.out = y.out ∧ x.last = y.last := fun x hx => by
    obtain ⟨j, hj, rfl⟩ := List.mem_iff_getElem.1 hx
    have hj' : j < D.nodes.length := by rwa [mark_length] at hj
    refine ⟨D.nodes[j], List.getElem_mem hj', ?_⟩
    simp only [mark, List.getElem_modify]
    split <;> exact ⟨rfl, rfl⟩
  refine ⟨by rw [mark_length]; exact h.me, fun x hx => ?_, fun x hx => ?_, fun x hx => ?_, by rw [mark_length]; exact h.few, h.most', h.step', h.now'⟩
  · simp only [mark, List.getElem?_modify, if_neg hi] at hx
    exact h.self x (by simpa using hx)
  · obtain ⟨y, hy, e, _⟩ := hmem x hx
    rw [e]; exact h.out y hy
  · obtain ⟨y, hy, _, e⟩ := hmem x hx
    rw [e]; exact h.last y hy
theorem marks_get (l : List Nat) (D : Dt) (j : Nat) : (D.marks l).nodes[j]? = (D.nodes[j]?).map fun x => if j ∈ l then susp x else x := by
  induction l generalizing D with
  | nil => simp [marks]
  | cons i l ih =>
    show ((D.mark i).marks l).nodes[j]? = _
    rw [ih (D.mark i)]
    simp only [mark, List.getElem?_modify]
    cases D.nodes[j]? with
    | none => simp
    | some x =>
      by_cases hi : i = j
      · subst hi
        simp only [if_true, Option.map_some, Option.map_eq_map, List.mem_cons, true_or]
        by_cases hl : i ∈ l <;> simp [hl, susp]
      · simp [hi, Ne.symm hi]
theorem marks_me (l : List Nat) (D : Dt) : (D.marks l).me = D.me ∧ (D.marks l).first = D.first ∧ (D.marks l).most = D.most ∧ (D.marks l).step = D.step ∧ (D.marks l).now = D.now := by
  induction l generalizing D with
  | nil => exact ⟨rfl, rfl, rfl, rfl, rfl⟩
  | cons i l ih => exact ih (D.mark i)
theorem marks_length (l : List Nat) (D : Dt) : (D.marks l).nodes.length = D.nodes.length := by
  induction l generalizing D with
  | nil => rfl
  | cons i l ih => exact (ih (D.mark i)).trans (mark_length D i)
theorem marks_snoc (D : Dt) (l : List Nat) (i : Nat) : D.marks (l ++ [i]) = (D.marks l).mark i := by simp [marks, List.foldl_append]
theorem mem_fresh {D : Dt} (t i : Nat) : i ∈ D.fresh t ↔ ∃ x, D.nodes[i]? = some x ∧ D.late t i x = true := by
  unfold fresh
  rw [List.mem_filter, List.mem_range]
  constructor
  · rintro ⟨h1, h2⟩
    rw [List.getElem?_eq_getElem h1] at h2
    exact ⟨_, List.getElem?_eq_getElem h1, h2⟩
  · rintro ⟨x, h1, h2⟩
    exact ⟨(List.getElem?_eq_some_iff.1 h1).1, by rw [h1]; exact h2⟩
theorem marks_tick (D : Dt) (t : Nat) : (D.at' t).marks (D.fresh t) = D.tick t := by
  obtain ⟨h1, h2, h3, h4, h5⟩ := marks_me (D.fresh t) (D.at' t)
  have hn : ((D.at' t).marks (D.fresh t)).nodes = (D.tick t).nodes := by
    apply List.ext_getElem?
    intro j
    rw [marks_get]
    simp only [tick, List.getElem?_mapIdx]
    show (D.nodes[j]?).map _ = _
    cases hj : D.nodes[j]? with
    | none => rfl
    | some x =>
      simp only [Option.map_some, Option.some.injEq]
      by_cases hm : j ∈ D.fresh t
      · rw [if_pos hm]
        obtain ⟨y, hy, hl⟩ := (mem_fresh t j).1 hm
        rw [hj] at hy; cases hy
        rw [ticked, if_pos hl]; rfl
      · rw [if_neg hm, ticked, if_neg]
        intro hl
        exact hm ((mem_fresh t j).2 ⟨x, hj, hl⟩)
  generalize (D.at' t).marks (D.fresh t) = E at *
  obtain ⟨a, b, c, d, e, f⟩ := E
  simp only at h1 h2 h3 h4 h5 hn
  subst h1 h2 h3 h4 h5 hn
  rfl
theorem fresh_ne {D : Dt} (t i : Nat) (h : i ∈ D.fresh t) : i ≠ D.me ∧ i < D.nodes.length := by
  obtain ⟨x, h1, h2⟩ := (mem_fresh t i).1 h
  refine ⟨fun e => ?_, (List.getElem?_eq_some_iff.1 h1).1⟩
  simp [late, e] at h2
/-- The detector's part: Is, as one more is marked. -/
theorem Is.marked {D : Dt} {B M : Nat} {w : World} (h : Is D B M w) (i : Nat) (hi : i ≠ D.me) (hl : i < D.nodes.length) : Turns (D.mark i) B M w (w.putObj M (mapL (D.nodes.set i (susp D.nodes[i])))) := by
  have e : D.mark i = { D with nodes := D.nodes.set i (susp D.nodes[i]) } := by
    unfold mark
    congr 1
    apply List.ext_getElem?
    intro j
    rw [List.getElem?_modify, List.getElem?_set]
    by_cases hj : i = j
    · subst hj; simp [hl]
    · simp [hj]
  rw [e]
  exact h.lay i _ (e ▸ mark_ok h.ok i hi)
def tickE (D : Dt) (t : Nat) : Int := if D.timely t then 0 else 70
def tickS (D : Dt) (t : Nat) : Dt := if D.timely t then D.tick t else D
def tickL (D : Dt) (t : Nat) : List Nat := if D.timely t then D.fresh t else []
end Dt
set_option maxRecDepth 100000 in
set_option maxHeartbeats 1000000 in
theorem dtTickNo (D : Dt) (B M : Nat) (t : Nat) (w : World) (h : Dt.Is D B M w) (ht : ¬ D.timely t) : Calls Try.prog 9 #[.pointer (some ⟨B, 0, none⟩), .int .u64 (t : Int)] w fun e w' =>
    e = .returned (.tuple #[.slice none 0 0, .int .i64 70]) ∧ Below w.heap.size w w' := by
  have HC := Lib.hid (fun (W : World) (hb : Below w.heap.size w W) => dtComes D B M t W (h.below hb))
  have hb0 : Below w.heap.size w ((w.alloc (.cells #[.pointer (some ⟨B, 0, none⟩)] 24)).alloc (.cells #[.int .u64 (t : Int)] 22)) := ((Below.refl _ w).alloc (Nat.le_refl _) _).alloc (by simp) _
  have hd : decide (D.timely t) = false := decide_eq_false ht
  clear h ht
  generalize hgs : decide (D.timely t) = R at *
  subst hd
  clear hgs
  go_enter Try.func9, Try.ntmps9
  go_wp2_with (go_at_call 16; refine (HC.out _ hb0).mono ?_; rintro e w1 ⟨rfl, hb1⟩)
  go_ret2
  exact ⟨rfl, hb0.trans (hb1.mono hb0.size)⟩
/-- The list that Tick tells: where it is not in the detector's blocks. -/
theorem nums_save {w0 w W : World} {base B M : Nat} {v : Value} {l : List Nat} (h : Nums w base v l) (hs : Save (Dt.Own B M) w W) (hB : B < base) (hM : M < base) : Nums W base v l :=
  h.keep hs.size fun g hg => hs.block g (h.lt g hg).2 (fun e => by have := (h.lt g hg).1; rcases e with e | e <;> omega)
theorem Nums.rebase {w : World} {base b : Nat} {v : Value} {l : List Nat} (h : Nums w base v l) (hb : b ≤ base) : Nums w b v l := by
  rcases h with h | ⟨g, c, rfl, hc, hb', hg, hx⟩
  · exact .inl h
  · exact .inr ⟨g, c, rfl, hc, by omega, hg, hx⟩
set_option maxRecDepth 100000 in
set_option maxHeartbeats 4000000 in
theorem dtTickYes (D : Dt) (B M : Nat) (t : Nat) (w : World) (h : Dt.Is D B M w) (ht : D.timely t) : Calls Try.prog 9 #[.pointer (some ⟨B, 0, none⟩), .int .u64 (t : Int)] w fun e w' =>
    (∃ u, e = .returned (.tuple #[u, .int .i64 0]) ∧ Nums w' w.heap.size u (D.fresh t)) ∧ Dt.Turns (D.tick t) B M w w' := by
  have HC := Lib.hid (fun (W : World) (hb : Below w.heap.size w W) => dtComes D B M t W (h.below hb))
  have hb0 : Below w.heap.size w ((w.alloc (.cells #[.pointer (some ⟨B, 0, none⟩)] 24)).alloc (.cells #[.int .u64 (t : Int)] 22)) := ((Below.refl _ w).alloc (Nat.le_refl _) _).alloc (by simp) _
  have d0 := Boxed.new w 24 (.pointer (some ⟨B, 0, none⟩))
  have d1 := Boxed.new (w.alloc (.cells #[.pointer (some ⟨B, 0, none⟩)] 24)) 22 (.int .u64 (t : Int))
  replace d0 := d0.alloc (.cells #[.int .u64 (t : Int)] 22)
  simp only [World.size_alloc] at d1
  have hd : decide (D.timely t) = true := decide_eq_true ht
  have hB := h.lt
  have hM := h.ltM
  have HH := Lib.hid h
  have HI := Lib.hid (fun (W : World) (hb : Below w.heap.size w W) => (h.below hb).tell t ht)
  have HTH := Lib.hid (fun (W : World) (hI : Dt.Is (D.at' t) B M W) (c0 : W.cell? ⟨w.heap.size, 0, none⟩ = some (.pointer (some ⟨B, 0, none⟩))) (c1 : W.cell? ⟨w.heap.size + 1, 0, none⟩ = some (.int .u64 (t : Int))) =>
    dtThoseIs (D.at' t) B M 18 #[.pointer (some ⟨w.heap.size, 0, none⟩), .pointer (some ⟨w.heap.size + 1, 0, none⟩)] (fun i x => D.late t i x) W hI (enters_of Try.func18 (by kernel_rfl) rfl)
      (fun W' i x hb hx => dtLate1 (D.at' t) B M w.heap.size (w.heap.size + 1) t i x W' (hI.below hb) ((hb.cell (p := ⟨w.heap.size, 0, none⟩) (lt_of_cell c0)).trans c0) ((hb.cell (p := ⟨w.heap.size + 1, 0, none⟩) (lt_of_cell c1)).trans c1)
        (hI.ok.last x (by
          obtain ⟨j, hj⟩ := List.getElem?_of_mem hx
          have hjl : j < (D.at' t).nodes.length := by rw [← Dt.pairs_length]; exact (List.getElem?_eq_some_iff.1 hj).1
          rw [Dt.pairs_get _ j hjl] at hj
          cases hj
          exact List.getElem_mem hjl)) ht.2))
  have HTK := Lib.hid (D.marks_tick t)
  have HF := Lib.hid (fun i (hi : i ∈ D.fresh t) => D.fresh_ne t i hi)
  have hfl : (D.fresh t).length ≤ 16 := Nat.le_trans (D.pick_le (fun i x => D.late t i x)) h.ok.few
  have HPK := Lib.hid (show (D.at' t).pick (fun i x => D.late t i x) = D.fresh t from rfl)
  clear h ht
  generalize hgs : decide (D.timely t) = R at *
  subst hd
  clear hgs
  go_enter Try.func9, Try.ntmps9
  go_wp2_with (first
    | (go_at_call 16; refine (HC.out _ hb0).mono ?_; rintro e w1 ⟨rfl, hb1⟩; have hbb := hb0.trans (hb1.mono hb0.size); have hI1 := HI.out w1 hbb; have p3 : w1.cell? ⟨B, 3, none⟩ = some (.int .u64 (D.now : Int)) := (HH.out.below hbb).cell 3 _ rfl; have q3 : w1.frozen? ⟨B, 3, none⟩ = false := (HH.out.below hbb).thawed 3; have e0 : w1.cell? ⟨w.heap.size, 0, none⟩ = some (.pointer (some ⟨B, 0, none⟩)) := (hb1.cell (p := ⟨w.heap.size, 0, none⟩) (lt_of_cell d0.cell)).trans d0.cell; have e1 : w1.cell? ⟨w.heap.size + 1, 0, none⟩ = some (.int .u64 (t : Int)) := (hb1.cell (p := ⟨w.heap.size + 1, 0, none⟩) (lt_of_cell d1.cell)).trans d1.cell; have f0 : (w1.setCell ⟨B, 3, none⟩ (.int .u64 (t : Int))).cell? ⟨w.heap.size, 0, none⟩ = some (.pointer (some ⟨B, 0, none⟩)) := (World.cell?_of_block (w := w1) (a := ⟨w.heap.size, 0, none⟩) (Below.heap_setCell _ _ _ w.heap.size (by simp; omega))).trans e0; have f1 : (w1.setCell ⟨B, 3, none⟩ (.int .u64 (t : Int))).cell? ⟨w.heap.size + 1, 0, none⟩ = some (.int .u64 (t : Int)) := (World.cell?_of_block (w := w1) (a := ⟨w.heap.size + 1, 0, none⟩) (Below.heap_setCell _ _ _ (w.heap.size + 1) (by simp; omega))).trans e1)
    | (go_at_call 17; refine (HTH.out _ hI1.1 f0 f1).mono ?_; rintro e w2 ⟨⟨u, rfl, hN⟩, hb2⟩; rw [HPK.out] at hN; have hI2 := hI1.1.below hb2; have hS2 : Save (Dt.Own B M) w w2 := (Save.of_below hbb).trans (hI1.2.trans (Save.of_below hb2)); have g0 := (hb2.cell (p := ⟨w.heap.size, 0, none⟩) (lt_of_cell f0)).trans f0; obtain ⟨a, c, hu, _⟩ := hN.form; have HU := Lib.hid (hN.rebase (show w.heap.size ≤ _ from Nat.le_trans hbb.size (by rw [World.size_setCell]; exact Nat.le_refl _))); clear hN; generalize hq : (D.fresh t).length = q at hu; subst hu))
  clear d0 d1 e0 e1 f0 f1 p3 q3 hI1 hb1 hb2
  have HQ := Lib.hid hq
  have HB := Lib.hid (show B < w.heap.size ∧ M < w.heap.size from ⟨hB, hM⟩)
  have hI2' : Dt.Is ((D.at' t).marks ((D.fresh t).take 0)) B M w2 := hI2
  have hw2 := hS2.size
  rw [hq] at hfl
  clear hI2 hq
  go_loopw [27] (fun i wr => ∃ k : Nat, k ≤ q ∧ i = .int .i64 (k : Int) ∧ Dt.Is ((D.at' t).marks ((D.fresh t).take k)) B M wr ∧ Save (Dt.Own B M) w2 wr) (fun i _ => q - (intOf i).toNat)
  case atStart => exact ⟨0, Nat.zero_le _, rfl, hI2', Save.refl _ _⟩
  case round =>
    obtain ⟨k, hk, rfl, hIk, hSk⟩ := hrel
    have hN := nums_save (w0 := w) HU.out hSk HB.out.1 HB.out.2
    have c0 : wr.cell? ⟨w.heap.size, 0, none⟩ = some (.pointer (some ⟨B, 0, none⟩)) := (World.cell?_of_block (w := w2) (a := ⟨w.heap.size, 0, none⟩) (hSk.block w.heap.size (lt_of_cell g0) (fun e => by have := HB.out; rcases e with e | e <;> omega))).trans g0
    have c4 : wr.cell? ⟨B, 4, none⟩ = some (.map (some M)) := hIk.cell 4 _ rfl
    clear hI2'
    by_cases hlt : k < q
    · have hkl : k < (D.fresh t).length := by rw [HQ.out]; exact hlt
      have hki : (k : Int) < (q : Int) := by omega
      obtain ⟨hne, hil⟩ := HF.out _ (List.getElem_mem hkl)
      rcases hN with ⟨_, e0⟩ | ⟨g, c', e1, hc, hg0, hg, hx⟩
      · rw [e0] at hkl; simp at hkl
      simp only [Value.slice.injEq] at e1
      obtain ⟨rfl, -, -⟩ := e1
      have hnum := hx k hkl
      have HTK2 := Lib.hid (List.take_succ_eq_append_getElem hkl)
      obtain ⟨i, hi⟩ : ∃ i, (D.fresh t)[k] = i := ⟨_, rfl⟩
      rw [hi] at hnum hne hil
      have HII := Lib.hid hi
      obtain ⟨E, hE⟩ : ∃ E, (D.at' t).marks ((D.fresh t).take k) = E := ⟨_, rfl⟩
      have HE := Lib.hid hE
      have hlE : E.nodes.length = D.nodes.length := by rw [← hE]; exact Dt.marks_length _ _
      have hmE : E.me = D.me := by rw [← hE]; exact (Dt.marks_me _ _).1
      rw [hE] at hIk
      have hiE : i < E.nodes.length := by rw [hlE]; exact hil
      have hlk := Dt.look hIk.map i hiE
      have hpt := Dt.put (w := (wr.alloc (.cells #[.int .u64 (E.nodes[i].last : Int), .int .u64 (E.nodes[i].out : Int), .bool true] 51)).drew) (hIk.below (((Below.refl _ wr).alloc (Nat.le_refl _) _).drew)).map i hiE (Dt.susp E.nodes[i])
      have hmk := (hIk.below (w' := (wr.alloc (.cells #[.int .u64 (E.nodes[i].last : Int), .int .u64 (E.nodes[i].out : Int), .bool true] 51)).drew) (((Below.refl _ wr).alloc (Nat.le_refl _) _).drew)).marked i (by rw [hmE]; exact hne) hiE
      have hSv : Save (Dt.Own B M) w2 (wr.alloc (.cells #[.int .u64 (E.nodes[i].last : Int), .int .u64 (E.nodes[i].out : Int), .bool true] 51)).drew := hSk.trans (Save.of_below (((Below.refl _ wr).alloc (Nat.le_refl _) _).drew))
      have hrow := World.alloc_heap_new wr (.cells #[.int .u64 (E.nodes[i].last : Int), .int .u64 (E.nodes[i].out : Int), .bool true] 51)
      have v0 : (wr.alloc (.cells #[.int .u64 (E.nodes[i].last : Int), .int .u64 (E.nodes[i].out : Int), .bool true] 51)).drew.cell? ⟨w.heap.size, 0, none⟩ = some (.pointer (some ⟨B, 0, none⟩)) := ((((Below.refl _ wr).alloc (Nat.le_refl _) _).drew).cell (p := ⟨w.heap.size, 0, none⟩) (lt_of_cell c0)).trans c0
      have v4 : (wr.alloc (.cells #[.int .u64 (E.nodes[i].last : Int), .int .u64 (E.nodes[i].out : Int), .bool true] 51)).drew.cell? ⟨B, 4, none⟩ = some (.map (some M)) := ((((Below.refl _ wr).alloc (Nat.le_refl _) _).drew).cell (p := ⟨B, 4, none⟩) (lt_of_cell c4)).trans c4
      dsimp only [Dt.susp, Nd.val] at hpt hlk
      dsimp only [Dt.susp] at hmk
      clear hx hlE hmE hE hi hIk hc hg0
      generalize Dt.mapL (E.nodes.set i _) = O at *
      generalize E.nodes[i] = x at *
      obtain ⟨xl, xo, xs⟩ := x
      dsimp only at *
      go_wp2
      generalize hV : wr.alloc (.cells #[.int .u64 (xl : Int), .int .u64 (xo : Int), .bool true] 51) = V at *
      have hrow' : V.drew.heap[wr.heap.size]? = some (.cells #[.int .u64 (xl : Int), .int .u64 (xo : Int), .bool true] 51 (0, 0)) := hrow
      have y0 : V.drew.cell? ⟨wr.heap.size, 0, none⟩ = some (.int .u64 (xl : Int)) := by simp [World.cell?, hrow']
      have y1 : V.drew.cell? ⟨wr.heap.size, 1, none⟩ = some (.int .u64 (xo : Int)) := by simp [World.cell?, hrow']
      have y2 : V.drew.cell? ⟨wr.heap.size, 2, none⟩ = some (.bool true) := by simp [World.cell?, hrow']
      clear hrow hrow' hV
      go_still_tail 6, (by kernel_rfl)
      change wpList _ _ _ _ _ V.drew
      go_wp2
      go_roundw
      case rel =>
        refine ⟨k + 1, by omega, by go_num, ?_, hSv.trans hmk.2⟩
        rw [HTK2.out, Dt.marks_snoc, HE.out, HII.out]
        exact hmk.1
      case measure => simp [intOf]; omega
    · obtain rfl : k = q := by omega
      have hT : Dt.Is (D.tick t) B M wr := by
        rw [← HTK.out]
        have := hIk
        rwa [show (D.fresh t).take k = D.fresh t from List.take_of_length_le (by rw [HQ.out]; exact Nat.le_refl _)] at this
      have HZ := Lib.hid hT
      have HNN := Lib.hid hN
      have HSS := Lib.hid hSk
      clear hT hN hIk hSk
      go_wp2
      go_ret2
      exact ⟨⟨_, rfl, HNN.out⟩, HZ.out, hS2.trans HSS.out⟩
/-- Tick. -/
theorem dtTick (D : Dt) (B M : Nat) (t : Nat) (w : World) (h : Dt.Is D B M w) : Calls Try.prog 9 #[.pointer (some ⟨B, 0, none⟩), .int .u64 (t : Int)] w fun e w' =>
    (∃ u, e = .returned (.tuple #[u, .int .i64 (D.tickE t)]) ∧ Nums w' w.heap.size u (D.tickL t)) ∧ Dt.Turns (D.tickS t) B M w w' := by
  by_cases ht : D.timely t
  · rw [Dt.tickE, Dt.tickL, Dt.tickS, if_pos ht, if_pos ht, if_pos ht]
    exact dtTickYes D B M t w h ht
  · rw [Dt.tickE, Dt.tickL, Dt.tickS, if_neg ht, if_neg ht, if_neg ht]
    exact (dtTickNo D B M t w h ht).mono fun e w' ⟨he, hb⟩ => ⟨⟨_, he, .inl ⟨rfl, rfl⟩⟩, Dt.Turns.of_below h hb⟩
theorem dtTickNil (t : Nat) (w : World) : Calls Try.prog 9 #[.pointer none, .int .u64 (t : Int)] w fun e w' => e = .returned (.tuple #[.slice none 0 0, .int .i64 1]) ∧ Below w.heap.size w w' := by
  go_enter Try.func9, Try.ntmps9
  go_wp2
  go_ret2
  exact ⟨rfl, ((Below.refl _ w).alloc (Nat.le_refl _) _).alloc (by simp) _⟩
end Go.Proofs.Ytdpnmmeecnconaa
