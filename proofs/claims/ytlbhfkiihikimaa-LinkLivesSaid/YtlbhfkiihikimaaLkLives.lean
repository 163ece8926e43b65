/-
  The law LinkLives: walked.
-/
import Derived.Test.YtlbhfkiihikimaaLkShown
namespace Go.Proofs.Ytlbhfkiihikimaa
open Go.RowKit Go.Shelf
attribute [local go_sem] Oper.semAt_some
set_option linter.unusedVariables false
set_option linter.unusedSimpArgs false

/-- One end beside another one that turns. -/
theorem Lk.Is.beside {L P P' : Lk} {B M a ma : Nat} {W W' : World} (h : Lk.Is L B M W) (hp : Lk.Is P a ma W) (hT : Lk.Turns P' a ma W W') (h1 : B ≠ a) (h2 : M ≠ ma) : Lk.Is L B M W' := by
  refine h.keep (hT.2.block B h.lt h1 (fun e => ?_)) (hT.2.block M h.ltM (fun e => ?_) (fun e => h2 (by cases e; rfl)))
  · cases e
    have h3 := h.row
    rw [hp.map] at h3
    unfold Lk.mapO at h3
    cases h3
  · subst e
    have h3 := h.map
    rw [hp.row] at h3
    unfold Lk.mapO at h3
    cases h3
/-- Three ends; two lists of frames, two of texts. -/
structure Lv (b x y : Lk) (pl ql : List Fr) (il jl : List ByteArray) (B Mb X Mx Y My n : Nat) (pv qv iv jv : Value) (w W : World) : Prop where
  b : Lk.Is b B Mb W
  x : Lk.Is x X Mx W
  y : Lk.Is y Y My W
  ne : B ≠ X ∧ B ≠ Y ∧ X ≠ Y ∧ Mb ≠ Mx ∧ Mb ≠ My ∧ Mx ≠ My
  low : n ≤ B ∧ n ≤ Mb ∧ n ≤ X ∧ n ≤ Mx ∧ n ≤ Y ∧ n ≤ My
  p : Frames W n pv pl
  q : Frames W n qv ql
  i : Words W n iv il
  j : Words W n jv jl
  bel : Below n w W
namespace Lv
variable {b x y b' x' y' : Lk} {pl ql : List Fr} {il jl : List ByteArray} {B Mb X Mx Y My n : Nat} {pv qv iv jv : Value} {w W W' : World}
theorem size (h : Lv b x y pl ql il jl B Mb X Mx Y My n pv qv iv jv w W) : n ≤ W.heap.size := Nat.le_trans h.low.1 (Nat.le_of_lt h.b.lt)
theorem below (h : Lv b x y pl ql il jl B Mb X Mx Y My n pv qv iv jv w W) (hb : Below W.heap.size W W') : Lv b x y pl ql il jl B Mb X Mx Y My n pv qv iv jv w W' :=
  ⟨h.b.below hb, h.x.below hb, h.y.below hb, h.ne, h.low, h.p.below hb, h.q.below hb, h.i.below hb, h.j.below hb, h.bel.trans (hb.mono h.size)⟩
theorem turnB (h : Lv b x y pl ql il jl B Mb X Mx Y My n pv qv iv jv w W) (hT : Lk.Turns b' B Mb W W') : Lv b' x y pl ql il jl B Mb X Mx Y My n pv qv iv jv w W' :=
  ⟨hT.1, h.x.beside h.b hT h.ne.1.symm h.ne.2.2.2.1.symm, h.y.beside h.b hT h.ne.2.1.symm h.ne.2.2.2.2.1.symm, h.ne, h.low, h.p.stay h.b hT.2, h.q.stay h.b hT.2, h.i.stay h.b hT.2, h.j.stay h.b hT.2,
    h.bel.trans (hT.2.below h.size h.low.1 (fun g e => by cases e; exact h.low.2.1))⟩
theorem turnX (h : Lv b x y pl ql il jl B Mb X Mx Y My n pv qv iv jv w W) (hT : Lk.Turns x' X Mx W W') : Lv b x' y pl ql il jl B Mb X Mx Y My n pv qv iv jv w W' :=
  ⟨h.b.beside h.x hT h.ne.1 h.ne.2.2.2.1, hT.1, h.y.beside h.x hT h.ne.2.2.1.symm h.ne.2.2.2.2.2.symm, h.ne, h.low, h.p.stay h.x hT.2, h.q.stay h.x hT.2, h.i.stay h.x hT.2, h.j.stay h.x hT.2,
    h.bel.trans (hT.2.below h.size h.low.2.2.1 (fun g e => by cases e; exact h.low.2.2.2.1))⟩
theorem turnY (h : Lv b x y pl ql il jl B Mb X Mx Y My n pv qv iv jv w W) (hT : Lk.Turns y' Y My W W') : Lv b x y' pl ql il jl B Mb X Mx Y My n pv qv iv jv w W' :=
  ⟨h.b.beside h.y hT h.ne.2.1 h.ne.2.2.2.2.1, h.x.beside h.y hT h.ne.2.2.1 h.ne.2.2.2.2.2, hT.1, h.ne, h.low, h.p.stay h.y hT.2, h.q.stay h.y hT.2, h.i.stay h.y hT.2, h.j.stay h.y hT.2,
    h.bel.trans (hT.2.below h.size h.low.2.2.2.2.1 (fun g e => by cases e; exact h.low.2.2.2.2.2))⟩
theorem sendX (h : Lv b x y pl ql il jl B Mb X Mx Y My n pv qv iv jv w W) (s : ByteArray) (ht : x.top < 1000) : Calls Try.prog 11 #[.pointer (some ⟨X, 0, none⟩), .string s] W fun e w' =>
    e = .returned (.int .i64 (x.sendE s)) ∧ Lv b (x.send s) y pl ql il jl B Mb X Mx Y My n pv qv iv jv w w' := (lkSend x X Mx s W h.x ht).mono fun e w' ⟨h1, h2⟩ => ⟨h1, h.turnX h2⟩
theorem sendY (h : Lv b x y pl ql il jl B Mb X Mx Y My n pv qv iv jv w W) (s : ByteArray) (ht : y.top < 1000) : Calls Try.prog 11 #[.pointer (some ⟨Y, 0, none⟩), .string s] W fun e w' =>
    e = .returned (.int .i64 (y.sendE s)) ∧ Lv b x (y.send s) pl ql il jl B Mb X Mx Y My n pv qv iv jv w w' := (lkSend y Y My s W h.y ht).mono fun e w' ⟨h1, h2⟩ => ⟨h1, h.turnY h2⟩
theorem outX (h : Lv b x y pl ql il jl B Mb X Mx Y My n pv qv iv jv w W) : Calls Try.prog 12 #[.pointer (some ⟨X, 0, none⟩)] W fun e w' => ∃ u, e = .returned u ∧ Lv b x y x.sent ql il jl B Mb X Mx Y My n u qv iv jv w w' :=
  (lkOut x X Mx W h.x).mono fun e w' ⟨⟨u, h1, h2⟩, h3⟩ => ⟨u, h1, { h.below h3 with p := h2.rebase fun g hg => Nat.le_trans h.size (h2.lt g hg).1 }⟩
theorem outY (h : Lv b x y pl ql il jl B Mb X Mx Y My n pv qv iv jv w W) : Calls Try.prog 12 #[.pointer (some ⟨Y, 0, none⟩)] W fun e w' => ∃ u, e = .returned u ∧ Lv b x y pl y.sent il jl B Mb X Mx Y My n pv u iv jv w w' :=
  (lkOut y Y My W h.y).mono fun e w' ⟨⟨u, h1, h2⟩, h3⟩ => ⟨u, h1, { h.below h3 with q := h2.rebase fun g hg => Nat.le_trans h.size (h2.lt g hg).1 }⟩
theorem recv (h : Lv b x y pl ql il jl B Mb X Mx Y My n pv qv iv jv w W) (f : Fr) (hg : b.got < 1000) (hd : f.data.size ≤ 1000000) (hk : f.kind = 1) (hs : f.src = b.peer) (hm : f.dst = b.me) : Calls Try.prog 9 #[.pointer (some ⟨B, 0, none⟩), f.val] W fun e w' =>
    ∃ dv av, e = .returned (.tuple #[dv, av, .int .i64 0]) ∧ Words w' n dv (b.recvD f) ∧ Frames w' n av (b.recvA f) ∧ Lv (b.recv f) x y pl ql il jl B Mb X Mx Y My n pv qv iv jv w w' :=
  (lkRecv b B Mb f W h.b hg hd (.inl hk) hs hm).mono fun e w' ⟨⟨dv, av, h1, h2, h3⟩, h4⟩ => ⟨dv, av, h1, h2.rebase fun g hg => Nat.le_trans h.size (h2.lt g hg).1, h3.rebase fun g hg => Nat.le_trans h.size (h3.lt g hg).1, h.turnB h4⟩
end Lv
namespace Sh
def sa : ByteArray := ⟨#[97]⟩
def sb : ByteArray := ⟨#[98]⟩
def sc : ByteArray := ⟨#[99]⟩
/-- A frame of data of a life, with a number. -/
def fr (life : BitVec 32) (n : BitVec 32) (s : ByteArray) : Fr := ⟨1, 1, 1, 2, life, n, 0, 0, s⟩
def x0 (old : BitVec 32) : Lk := Lk.new 1 2 1 4 old
def b0 : Lk := Lk.new 2 1 1 4 1
theorem x1 (old : BitVec 32) : (x0 old).send sa = { x0 old with out := [sa] } := rfl
theorem x2 (old : BitVec 32) : ((x0 old).send sa).send sb = { x0 old with out := [sa, sb] } := rfl
theorem y1 (life : BitVec 32) : (x0 life).send sc = { x0 life with out := [sc] } := rfl
theorem px (old : BitVec 32) : (((x0 old).send sa).send sb).sent = [fr old 1 sa, fr old 2 sb] := rfl
theorem py (life : BitVec 32) : ((x0 life).send sc).sent = [fr life 1 sc] := rfl
variable {old life : BitVec 32}
theorem pos_ne (h : 1 ≤ old.toNat) : (0#32).toNat < old.toNat := h
theorem one_two : ¬ (1 : Int) = 2 := by decide
theorem r1 (h : 1 ≤ old.toNat) : b0.recv (fr old 1 sa) = { b0 with plife := old, got := 1 } ∧ b0.recvD (fr old 1 sa) = [sa] := by
  have hl : b0.lived (fr old 1 sa) = { b0 with plife := old, got := 0 } := by unfold Lk.lived; rw [if_pos (show b0.plife.toNat < (fr old 1 sa).life.toNat from pos_ne h)]; rfl
  have hs : b0.stale (fr old 1 sa) = false := decide_eq_false (Nat.not_lt.2 (Nat.zero_le _))
  refine ⟨?_, ?_⟩
  · unfold Lk.recv; rw [if_neg (show ¬ (fr old 1 sa).kind = 2 from one_two), hs, if_neg (by decide)]; unfold Lk.took; rw [hl]; rfl
  · unfold Lk.recvD; rw [if_neg (show ¬ (fr old 1 sa).kind = 2 from one_two), hs, if_neg (by decide)]; unfold Lk.came; rw [hl]; rfl
def b1 (old : BitVec 32) : Lk := { b0 with plife := old, got := 1 }
theorem r2 (h : old.toNat < life.toNat) : (b1 old).recv (fr life 1 sc) = { b0 with plife := life, got := 1 } ∧ (b1 old).recvD (fr life 1 sc) = [sc] := by
  have hl : (b1 old).lived (fr life 1 sc) = { b0 with plife := life, got := 0 } := by unfold Lk.lived; rw [if_pos (show (b1 old).plife.toNat < (fr life 1 sc).life.toNat from h)]; rfl
  have hs : (b1 old).stale (fr life 1 sc) = false := decide_eq_false (show ¬ life.toNat < old.toNat by omega)
  refine ⟨?_, ?_⟩
  · unfold Lk.recv; rw [if_neg (show ¬ (fr life 1 sc).kind = 2 from one_two), hs, if_neg (by decide)]; unfold Lk.took; rw [hl]; rfl
  · unfold Lk.recvD; rw [if_neg (show ¬ (fr life 1 sc).kind = 2 from one_two), hs, if_neg (by decide)]; unfold Lk.came; rw [hl]; rfl
def b2 (life : BitVec 32) : Lk := { b0 with plife := life, got := 1 }
theorem r3 (h : old.toNat < life.toNat) : (b2 life).recvD (fr old 2 sb) = [] ∧ (b2 life).recvA (fr old 2 sb) = [] := by
  have hs : (b2 life).stale (fr old 2 sb) = true := decide_eq_true (show old.toNat < life.toNat from h)
  refine ⟨?_, ?_⟩
  · unfold Lk.recvD; rw [if_neg (show ¬ (fr old 2 sb).kind = 2 from one_two), hs, if_pos rfl]
  · unfold Lk.recvA; rw [if_neg (show ¬ (fr old 2 sb).kind = 2 from one_two), hs, if_pos rfl]
abbrev frAgg (life : BitVec 32) (n : Int) (s : ByteArray) : Value := .agg #[.int .i64 1, .int .i64 1, .int .i64 1, .int .i64 2, .int .u32 (life.toNat : Int), .int .u32 n, .int .u32 0, .int .u32 0, .string s]
/-- A frame of such, in memory. -/
def Lies (g k : Nat) (life : BitVec 32) (n : Int) (s : ByteArray) (W : World) : Prop := W.cell? ⟨g, k, none⟩ = some (.int .i64 1) ∧ W.cell? ⟨g, k + 1, none⟩ = some (.int .i64 1) ∧ W.cell? ⟨g, k + 2, none⟩ = some (.int .i64 1) ∧ W.cell? ⟨g, k + 3, none⟩ = some (.int .i64 2) ∧ W.cell? ⟨g, k + 4, none⟩ = some (.int .u32 (life.toNat : Int)) ∧
  W.cell? ⟨g, k + 5, none⟩ = some (.int .u32 n) ∧ W.cell? ⟨g, k + 6, none⟩ = some (.int .u32 0) ∧ W.cell? ⟨g, k + 7, none⟩ = some (.int .u32 0) ∧ W.cell? ⟨g, k + 8, none⟩ = some (.string s)
theorem fr_val (life : BitVec 32) (n : BitVec 32) (m : Int) (hm : (n.toNat : Int) = m) (s : ByteArray) : (fr life n s).val = frAgg life m s := by subst hm; rfl
theorem lies {w : World} {base : Nat} {v : Value} {l : List Fr} (h : Frames w base v l) (k : Nat) (hk : k < l.length) {g n c : Nat} (hv : v = .slice (some ⟨g, 0, none⟩) n c) (life : BitVec 32) (m : BitVec 32) (s : ByteArray) (he : l[k] = fr life m s) : Lies g (k * 9) life (m.toNat : Int) s w := by
  obtain ⟨g', c', e, _, _, _, _, hc⟩ := h.at' k hk
  rw [hv] at e
  cases e
  rw [he] at hc
  exact hc.cells
end Sh
set_option maxRecDepth 100000 in
set_option maxHeartbeats 4000000 in
theorem livesNo (old life : BitVec 32) (h : old.toNat < 1 ∨ life.toNat ≤ old.toNat) (w : World) : Calls Try.prog 7 #[.int .u32 (old.toNat : Int), .int .u32 (life.toNat : Int)] w fun e w' => e = .returned (.bool true) ∧ Below w.heap.size w w' := by
  generalize old.toNat = o at *
  generalize life.toNat = f at *
  by_cases h1 : o < 1
  · have hd : decide ((o : Int) < 1) = true := decide_eq_true (by omega)
    clear h h1
    go_enter Try.func7, Try.ntmps7
    go_wp2_with (go_at_call 8; refine (lawShown6 _).mono ?_; rintro e w1 ⟨rfl, hb1⟩)
    go_ret
    exact ⟨rfl, hb1⟩
  · have h2 : f ≤ o := by omega
    have hd : decide ((o : Int) < 1) = false := decide_eq_false (by omega)
    have hd2 : decide ((f : Int) ≤ (o : Int)) = true := decide_eq_true (by omega)
    have hd3 : decide (f ≤ o) = true := decide_eq_true h2
    clear h h1
    go_enter Try.func7, Try.ntmps7
    go_wp2_with (go_at_call 8; refine (lawShown6 _).mono ?_; rintro e w1 ⟨rfl, hb1⟩)
    go_ret
    exact ⟨rfl, hb1⟩
/-- The frames, wherever their lists lie still. -/
theorem lives_cells {b x y : Lk} {il jl : List ByteArray} {B Mb X Mx Y My n : Nat} {iv jv : Value} {w W : World} {old life : BitVec 32} {g c g' c' : Nat}
    (h : Lv b x y [Sh.fr old 1 Sh.sa, Sh.fr old 2 Sh.sb] [Sh.fr life 1 Sh.sc] il jl B Mb X Mx Y My n (.slice (some ⟨g, 0, none⟩) 2 c) (.slice (some ⟨g', 0, none⟩) 1 c') iv jv w W) :
    Sh.Lies g 0 old 1 Sh.sa W ∧ Sh.Lies g 9 old 2 Sh.sb W ∧ Sh.Lies g' 0 life 1 Sh.sc W :=
  ⟨Sh.lies h.p 0 (by simp) rfl old 1 Sh.sa rfl, Sh.lies h.p 1 (by simp) rfl old 2 Sh.sb rfl, Sh.lies h.q 0 (by simp) rfl life 1 Sh.sc rfl⟩
theorem lives_forms {b x y : Lk} {il jl : List ByteArray} {B Mb X Mx Y My n : Nat} {pv qv iv jv : Value} {w W : World} {f1 f2 f3 : Fr}
    (h : Lv b x y [f1, f2] [f3] il jl B Mb X Mx Y My n pv qv iv jv w W) : ∃ g c g' c', pv = .slice (some ⟨g, 0, none⟩) 2 c ∧ qv = .slice (some ⟨g', 0, none⟩) 1 c' ∧ 2 ≤ c ∧ 1 ≤ c' := by
  obtain ⟨g, c, h1, h2, _⟩ := h.p.get (by simp)
  obtain ⟨g', c', h3, h4, _⟩ := h.q.get (by simp)
  exact ⟨g, c, g', c', h1, h3, h2, h4⟩
theorem lives_begin {w w1 w2 w3 w4 : World} {b x y : Lk} {B Mb X Mx Y My : Nat} (hb1 : Below w.heap.size w w1) (hI1 : Lk.Is b B Mb w2) (hlb : w1.heap.size ≤ B) (hlmb : w1.heap.size ≤ Mb) (hb2 : Below w1.heap.size w1 w2)
    (hI2 : Lk.Is x X Mx w3) (hlx : w2.heap.size ≤ X) (hlmx : w2.heap.size ≤ Mx) (hb3 : Below w2.heap.size w2 w3) (hI3 : Lk.Is y Y My w4) (hly : w3.heap.size ≤ Y) (hlmy : w3.heap.size ≤ My) (hb4 : Below w3.heap.size w3 w4) :
    Lv b x y [] [] [] [] B Mb X Mx Y My w.heap.size (.slice none 0 0) (.slice none 0 0) (.slice none 0 0) (.slice none 0 0) w w4 := by
  have s1 := hb1.size
  have s2 := hb2.size
  have s3 := hb3.size
  have a1 := hI1.lt
  have a2 := hI1.ltM
  have a3 := hI2.lt
  have a4 := hI2.ltM
  refine ⟨(hI1.below hb3).below hb4, hI2.below hb4, hI3, ⟨by omega, by omega, by omega, by omega, by omega, by omega⟩, ⟨by omega, by omega, by omega, by omega, by omega, by omega⟩, Frames.nil _ _, Frames.nil _ _, Words.nil _ _, Words.nil _ _, ?_⟩
  exact ((hb1.trans (hb2.mono s1)).trans (hb3.mono (Nat.le_trans s1 s2))).trans (hb4.mono (Nat.le_trans s1 (Nat.le_trans s2 s3)))
theorem same_word {n : Nat} {v : Value} {W : World} (s : ByteArray) (h : Words W n v [s]) : Calls Try.prog 15 #[v, .slice (some ⟨W.heap.size, 0, none⟩) 1 1] (W.alloc (.cells #[.string s] 9)) fun e w' => e = .returned (.bool true) ∧ Below W.heap.size W w' := by
  have h1 := (h.below ((Below.refl _ W).alloc (Nat.le_refl _) (.cells #[.string s] 9))).part
  have h2 := (one_word W s W.heap.size (Nat.le_refl _)).part
  refine (refSame _ _ _ _ _ h1 h2 (by simp)).mono fun e w' ⟨h3, h4⟩ => ⟨by rw [decide_eq_true rfl] at h3; exact h3, ((Below.refl _ W).alloc (Nat.le_refl _) _).trans (h4.mono (by simp))⟩
section
variable {x y : Lk} {pl ql : List Fr} {B Mb X Mx Y My n : Nat} {pv qv iv jv : Value} {w W : World} {old life : BitVec 32}
theorem lives_r1 (h1 : Sh.b0.recv (Sh.fr old 1 Sh.sa) = { Sh.b0 with plife := old, got := 1 } ∧ Sh.b0.recvD (Sh.fr old 1 Sh.sa) = [Sh.sa]) (h : Lv Sh.b0 x y pl ql [] [] B Mb X Mx Y My n pv qv (.slice none 0 0) (.slice none 0 0) w W) :
    Calls Try.prog 9 #[.pointer (some ⟨B, 0, none⟩), Sh.frAgg old 1 ⟨#[97]⟩] W fun e w' => ∃ iv av, e = .returned (.tuple #[iv, av, .int .i64 0]) ∧ Lv (Sh.b1 old) x y pl ql [Sh.sa] [] B Mb X Mx Y My n pv qv iv (.slice none 0 0) w w' := by
  refine (h.recv (Sh.fr old 1 Sh.sa) (by decide) (by decide : (Sh.sa).size ≤ 1000000) rfl rfl rfl).mono fun e w' ⟨dv, av, e1, e2, _, e4⟩ => ?_
  rw [h1.1] at e4
  rw [h1.2] at e2
  exact ⟨dv, av, e1, { e4 with i := e2 }⟩
theorem lives_r2 (h1 : (Sh.b1 old).recv (Sh.fr life 1 Sh.sc) = { Sh.b0 with plife := life, got := 1 } ∧ (Sh.b1 old).recvD (Sh.fr life 1 Sh.sc) = [Sh.sc]) (h : Lv (Sh.b1 old) x y pl ql [Sh.sa] [] B Mb X Mx Y My n pv qv iv (.slice none 0 0) w W) :
    Calls Try.prog 9 #[.pointer (some ⟨B, 0, none⟩), Sh.frAgg life 1 ⟨#[99]⟩] W fun e w' => ∃ jv av, e = .returned (.tuple #[jv, av, .int .i64 0]) ∧ Lv (Sh.b2 life) x y pl ql [Sh.sa] [Sh.sc] B Mb X Mx Y My n pv qv iv jv w w' := by
  refine (h.recv (Sh.fr life 1 Sh.sc) (by decide : 1 < 1000) (by decide : (Sh.sc).size ≤ 1000000) rfl rfl rfl).mono fun e w' ⟨dv, av, e1, e2, _, e4⟩ => ?_
  rw [h1.1] at e4
  rw [h1.2] at e2
  exact ⟨dv, av, e1, { e4 with j := e2 }⟩
theorem lives_r3 (h1 : (Sh.b2 life).recvD (Sh.fr old 2 Sh.sb) = [] ∧ (Sh.b2 life).recvA (Sh.fr old 2 Sh.sb) = []) (h : Lv (Sh.b2 life) x y pl ql [Sh.sa] [Sh.sc] B Mb X Mx Y My n pv qv iv jv w W) :
    Calls Try.prog 9 #[.pointer (some ⟨B, 0, none⟩), Sh.frAgg old 2 ⟨#[98]⟩] W fun e w' => ∃ ak ck am cm, e = .returned (.tuple #[.slice ak 0 ck, .slice am 0 cm, .int .i64 0]) ∧ Lv ((Sh.b2 life).recv (Sh.fr old 2 Sh.sb)) x y pl ql [Sh.sa] [Sh.sc] B Mb X Mx Y My n pv qv iv jv w w' := by
  refine (h.recv (Sh.fr old 2 Sh.sb) (by decide : 1 < 1000) (by decide : (Sh.sb).size ≤ 1000000) rfl rfl rfl).mono fun e w' ⟨dv, av, e1, e2, e3, e4⟩ => ?_
  rw [h1.1] at e2
  rw [h1.2] at e3
  obtain ⟨a1, c1, rfl, _⟩ := e2.form
  obtain ⟨a2, c2, rfl, _⟩ := e3.form
  exact ⟨a1, c1, a2, c2, e1, e4⟩
end
set_option maxRecDepth 100000 in
set_option maxHeartbeats 8000000 in
theorem livesYes (old life : BitVec 32) (h1 : 1 ≤ old.toNat) (h2 : old.toNat < life.toNat) (w : World) : Calls Try.prog 7 #[.int .u32 (old.toNat : Int), .int .u32 (life.toNat : Int)] w fun e w' => e = .returned (.bool true) ∧ Below w.heap.size w w' := by
  have N1 := fun W => lkNew 2 1 1 4 1 (by decide) (by decide) rfl (.inl rfl) (by decide) (by decide) (by decide) W
  have N2 := fun W => lkNew 1 2 1 4 old (by decide) (by decide) rfl (.inl rfl) (by decide) (by decide) h1 W
  have N3 := fun W => lkNew 1 2 1 4 life (by decide) (by decide) rfl (.inl rfl) (by decide) (by decide) (by omega) W
  have H1 := Lib.hid (show ∀ W, Calls Try.prog 10 #[.int .i64 2, .int .i64 1, .int .i64 1, .int .i64 4, .int .u32 1] W _ from N1)
  have H2 := Lib.hid N2
  have H3 := Lib.hid N3
  have hd : decide ((old.toNat : Int) < 1) = false := decide_eq_false (by omega)
  have hd2 : decide (life.toNat ≤ old.toNat) = false := decide_eq_false (by omega)
  have hd3 : decide (old.toNat < 1) = false := decide_eq_false (by omega)
  have hd4 : decide ((life.toNat : Int) ≤ (old.toNat : Int)) = false := decide_eq_false (by omega)
  have T0 := Lib.hid (show (Sh.x0 old).top < 1000 from (by decide : 0 + 0 < 1000))
  have T1 := Lib.hid (show ((Sh.x0 old).send Sh.sa).top < 1000 from (by decide : 0 + 1 < 1000))
  have T2 := Lib.hid (show (Sh.x0 life).top < 1000 from (by decide : 0 + 0 < 1000))
  have R1 := Lib.hid (Sh.r1 h1)
  have R2 := Lib.hid (Sh.r2 h2)
  have R3 := Lib.hid (Sh.r3 h2)
  clear N1 N2 N3 h1 h2
  go_enter Try.func7, Try.ntmps7
  go_wp2_with (first
    | (go_at_call 8; refine (lawShown6 _).mono ?_; rintro e w1 ⟨rfl, hb1⟩)
    | (go_at_call 10; have H := H1; clear H1; refine (H.out _).mono ?_; rintro e w2 ⟨⟨B, Mb, rfl, hlb, hlmb, hI1⟩, hb2⟩; clear H)
    | (go_at_call 10; have H := H2; clear H2; refine (H.out _).mono ?_; rintro e w3 ⟨⟨X, Mx, rfl, hlx, hlmx, hI2⟩, hb3⟩; clear H)
    | (go_at_call 10; have H := H3; clear H3; refine (H.out _).mono ?_; rintro e w4 ⟨⟨Y, My, rfl, hly, hlmy, hI3⟩, hb4⟩; clear H; have hL0 := lives_begin hb1 hI1 hlb hlmb hb2 hI2 hlx hlmx hb3 hI3 hly hlmy hb4; clear hI1 hI2 hI3 hb1 hb2 hb3 hb4 hlb hlmb hlx hlmx hly hlmy)
    | (go_at_call 11; have h := hL0; clear hL0; refine (h.sendX Sh.sa T0.out).mono ?_; rintro e w5 ⟨rfl, hL1⟩; clear h)
    | (go_at_call 11; have h := hL1; clear hL1; refine (h.sendX Sh.sb T1.out).mono ?_; rintro e w6 ⟨rfl, hL2⟩; clear h)
    | (go_at_call 11; have h := hL2; clear hL2; refine (h.sendY Sh.sc T2.out).mono ?_; rintro e w7 ⟨rfl, hL3⟩; clear h)
    | (go_at_call 12; have h := hL3; clear hL3; refine h.outX.mono ?_; rintro e w8 ⟨pv, rfl, hL4⟩; clear h)
    | (go_at_call 12; have h := hL4; clear hL4; refine h.outY.mono ?_; rintro e w9 ⟨qv, rfl, hL5⟩; clear h; obtain ⟨g, c, g', c', rfl, rfl, hc2, hc1⟩ := lives_forms hL5; obtain ⟨⟨q0, q1, q2, q3, q4, q5, q6, q7, q8⟩, ⟨r0, r1, r2, r3, r4, r5, r6, r7, r8⟩, ⟨t0, t1, t2, t3, t4, t5, t6, t7, t8⟩⟩ := lives_cells hL5)
    | (go_at_call 9; have h := hL5; clear hL5; refine (lives_r1 R1.out h).mono ?_; rintro e w10 ⟨iv, av, rfl, hL6⟩; clear h q0 q1 q2 q3 q4 q5 q6 q7 q8 r0 r1 r2 r3 r4 r5 r6 r7 r8 t0 t1 t2 t3 t4 t5 t6 t7 t8; obtain ⟨⟨q0, q1, q2, q3, q4, q5, q6, q7, q8⟩, ⟨r0, r1, r2, r3, r4, r5, r6, r7, r8⟩, ⟨t0, t1, t2, t3, t4, t5, t6, t7, t8⟩⟩ := lives_cells hL6)
    | (go_at_call 9; have h := hL6; clear hL6; refine (lives_r2 R2.out h).mono ?_; rintro e w11 ⟨jv, av2, rfl, hL7⟩; clear h q0 q1 q2 q3 q4 q5 q6 q7 q8 r0 r1 r2 r3 r4 r5 r6 r7 r8 t0 t1 t2 t3 t4 t5 t6 t7 t8; obtain ⟨⟨q0, q1, q2, q3, q4, q5, q6, q7, q8⟩, ⟨r0, r1, r2, r3, r4, r5, r6, r7, r8⟩, ⟨t0, t1, t2, t3, t4, t5, t6, t7, t8⟩⟩ := lives_cells hL7)
    | (go_at_call 9; have h := hL7; clear hL7; refine (lives_r3 R3.out h).mono ?_; rintro e w12 ⟨ak, ck, am, cm, rfl, hL8⟩; clear h q0 q1 q2 q3 q4 q5 q6 q7 q8 r0 r1 r2 r3 r4 r5 r6 r7 r8 t0 t1 t2 t3 t4 t5 t6 t7 t8)
    | (go_at_call 15; have h := hL8; clear hL8; refine (same_word Sh.sa h.i).mono ?_; rintro e w13 ⟨rfl, hb13⟩; have hL9 := h.below hb13; clear h)
    | (go_at_call 15; have h := hL9; clear hL9; refine (same_word Sh.sc h.j).mono ?_; rintro e w14 ⟨rfl, hb14⟩; have hL10 := h.below hb14; clear h))
  go_ret
  exact ⟨rfl, hL10.bel⟩
theorem lawLives6 (old life : BitVec 32) (w : World) : Calls Try.prog 7 #[.int .u32 (old.toNat : Int), .int .u32 (life.toNat : Int)] w fun e w' => e = .returned (.bool true) ∧ Below w.heap.size w w' := by
  by_cases h1 : 1 ≤ old.toNat
  · by_cases h2 : old.toNat < life.toNat
    · exact livesYes old life h1 h2 w
    · exact livesNo old life (.inr (by omega)) w
  · exact livesNo old life (.inl (by omega)) w
theorem lawLives6_row (a0 a1 : Int) (w0 : (Lit.int .u32 a0).wf = true) (w1 : (Lit.int .u32 a1).wf = true) (w : World) : Calls Try.prog 7 #[.int .u32 a0, .int .u32 a1] w fun e w' => e = .returned (.bool true) ∧ Below w.heap.size w w' := by
  obtain ⟨x, rfl⟩ := b32_of_wf w0
  obtain ⟨y, rfl⟩ := b32_of_wf w1
  exact lawLives6 x y w
end Go.Proofs.Ytlbhfkiihikimaa
