/-
  take: walked.
-/
import Derived.Test.YtlbhfkiihikimaaLkWalk1
import Derived.WalkMore
namespace Go.Proofs.Ytlbhfkiihikimaa
open Go.RowKit Go.Shelf
attribute [local go_sem] Oper.semAt_some
set_option linter.unusedVariables false
set_option linter.unusedSimpArgs false

theorem got_is {L : Lk} {B M : Nat} {w : World} (h : Lk.Is L B M w) (n : Nat) (hn : n ≤ 1000) : Lk.Is { L with got := n } B M (w.setCell ⟨B, 8, none⟩ (.int .u32 ((n + 1 : Nat) : Int))) :=
  ⟨row_set9 h.row 8 _, (Below.heap_setCell _ _ _ M (fun e => h.ne e.symm)).trans h.map, h.ne, ⟨h.ok.few, hn, h.ok.small⟩⟩
theorem life_is {L : Lk} {B M : Nat} {w : World} (h : Lk.Is L B M w) (x : BitVec 32) : Lk.Is { L with plife := x, got := 0 } B M ((w.setCell ⟨B, 7, none⟩ (.int .u32 (x.toNat : Int))).setCell ⟨B, 8, none⟩ (.int .u32 1)) := by
  refine ⟨?_, (Below.heap_setCell _ _ _ M (fun e => h.ne e.symm)).trans ((Below.heap_setCell _ _ _ M (fun e => h.ne e.symm)).trans h.map), h.ne, ⟨h.ok.few, Nat.zero_le _, h.ok.small⟩⟩
  rw [row_set9 (row_set9 h.row 7 _) 8 _]
  rfl
theorem one_word (w : World) (s : ByteArray) (base : Nat) (hb : base ≤ w.heap.size) : Words (w.alloc (.cells #[.string s] 9)) base (.slice (some ⟨w.heap.size, 0, none⟩) 1 1) [s] :=
  .inr ⟨w.heap.size, 1, #[.string s], rfl, hb, World.alloc_heap_new w _, Nat.le_refl _, by unfold maxLen; omega, by simp, by simp [flatW, rowW]⟩
/-- Facts of the receiver's cells, at a world. -/
structure Rc (L : Lk) (B : Nat) (w : World) : Prop where
  c7 : w.cell? ⟨B, 7, none⟩ = some (.int .u32 (L.plife.toNat : Int))
  c8 : w.cell? ⟨B, 8, none⟩ = some (.int .u32 ((L.got : Int) + 1))
  z7 : w.frozen? ⟨B, 7, none⟩ = false
  z8 : w.frozen? ⟨B, 8, none⟩ = false
  lt : B < w.heap.size
theorem Lk.Is.rc {L : Lk} {B M : Nat} {w : World} (h : Lk.Is L B M w) : Rc L B w := ⟨h.cell 7 _ rfl, h.cell 8 _ rfl, h.thawed 7, h.thawed 8, h.lt⟩
theorem stays_set {B M : Nat} {w w' : World} (h : Stays B (some M) w w') (j : Nat) (v : Value) : Stays B (some M) w (w'.setCell ⟨B, j, none⟩ v) := h.setCell _ _ rfl
theorem is_drewN {L : Lk} {B M : Nat} {V : World} (h : Lk.Is L B M V) (k : Nat) : Lk.Is L B M (V.drewN k) := h.below (drewN_below (Below.refl _ _) k)
theorem stays_drewN {B : Nat} {o : Option Nat} {w V : World} (h : Stays B o w V) (k : Nat) : Stays B o w (V.drewN k) := ⟨h.os, h.tape, h.output, h.size, h.block⟩
/-- The end of take, where data come: W, the world in which the receiver was written. -/
theorem took_end {L L' : Lk} {B M : Nat} {w V w1 : World} (h : Lk.Is L' B M V) (hs : Stays B (some M) w V) (hb : Below V.heap.size V w1) (s : ByteArray) :
    (∃ v, Ending.returned (.slice (some ⟨w1.heap.size, 0, none⟩) 1 1) = .returned v ∧ Words (w1.alloc (.cells #[.string s] 9)) w.heap.size v [s]) ∧ Lk.Turns L' B M w (w1.alloc (.cells #[.string s] 9)) := by
  have hb' := hb.alloc hb.size (.cells #[.string s] 9)
  exact ⟨⟨_, rfl, one_word _ _ _ (Nat.le_trans hs.size hb.size)⟩, h.below hb', hs.trans (Stays.of_below (o := some M) hb') fun g hg => .inl hg⟩
theorem none_end {L' : Lk} {B M : Nat} {w V : World} (h : Lk.Is L' B M V) (hs : Stays B (some M) w V) :
    (∃ v, Ending.returned (.slice none 0 0) = .returned v ∧ Words V w.heap.size v []) ∧ Lk.Turns L' B M w V := ⟨⟨_, rfl, Words.nil _ _⟩, h, hs⟩
set_option maxRecDepth 100000 in
set_option maxHeartbeats 2000000 in
theorem lkTakeOldYes (L : Lk) (B M : Nat) (f : Fr) (w : World) (h : Lk.Is L B M w) (hg : L.got < 1000) (hd : f.data.size ≤ 1000000) (hl : ¬ L.plife.toNat < f.life.toNat) (hq : f.seq.toNat = L.got + 1) : Calls Try.prog 16 #[.pointer (some ⟨B, 7, none⟩), f.val] w fun e w' =>
    (∃ v, e = .returned v ∧ Words w' w.heap.size v (L.came f)) ∧ Lk.Turns (L.took f) B M w w' := by
  have e0 : L.lived f = L := by simp [Lk.lived, hl]
  have hli : ¬ (L.plife.toNat : Int) < (f.life.toNat : Int) := by omega
  obtain ⟨c7, c8, z7, z8, hB⟩ := h.rc
  have e1 : L.came f = [f.data] := by simp [Lk.came, e0, Lk.comes, hq]
  have e2 : L.took f = { L with got := L.got + 1 } := by simp [Lk.took, e0, Lk.comes, hq]
  rw [e1, e2]
  have hIs := fun (V : World) (hV : Below w.heap.size w V) => h.below hV
  have HC := Lib.hid (fun W => Try.strings_Clone f.data W (by omega))
  have HE := Lib.hid (fun (V w1 : World) (hV : Below w.heap.size w V) (hb : Below _ _ w1) => took_end (L := L) (got_is (hIs V hV) (L.got + 1) (by omega)) (stays_set (Stays.of_below hV) 8 _) hb f.data)
  have hwr : IntKind.u32.wrap ((L.got : Int) + 1 + 1) = (L.got : Int) + 1 + 1 := IntWalk.u32_in _ (by omega)
  have hnv : ((L.got : Int) + 1 == 4294967295) = false := by rw [beq_eq_false_iff_ne]; omega
  clear e0 e1 e2 hd h
  obtain ⟨wi, ki, sr, ds, li, se, ac, hi, da⟩ := f
  dsimp only at *
  unfold Fr.val Fr.cells
  dsimp only
  rw [hq]
  clear hIs hq hl hg
  go_enter Try.func16, Try.ntmps16
  go_wp2
  go_quiet (fail)
  go_wp2
  go_quiet (fail)
  go_wp2_with (go_at_call 24; refine (HC.out _).mono ?_; rintro e w1 ⟨rfl, hb⟩)
  go_ret
  exact HE.out _ _ (drewN_below ((Below.refl _ w).alloc (Nat.le_refl _) _) _) hb
set_option maxRecDepth 100000 in
set_option maxHeartbeats 2000000 in
theorem lkTakeOldNo (L : Lk) (B M : Nat) (f : Fr) (w : World) (h : Lk.Is L B M w) (hg : L.got < 1000) (hd : f.data.size ≤ 1000000) (hl : ¬ L.plife.toNat < f.life.toNat) (hq : ¬ f.seq.toNat = L.got + 1) : Calls Try.prog 16 #[.pointer (some ⟨B, 7, none⟩), f.val] w fun e w' =>
    (∃ v, e = .returned v ∧ Words w' w.heap.size v (L.came f)) ∧ Lk.Turns (L.took f) B M w w' := by
  have e0 : L.lived f = L := by simp [Lk.lived, hl]
  have hli : ¬ (L.plife.toNat : Int) < (f.life.toNat : Int) := by omega
  obtain ⟨c7, c8, z7, z8, hB⟩ := h.rc
  have e1 : L.came f = [] := by simp [Lk.came, e0, Lk.comes, hq]
  have e2 : L.took f = L := by simp [Lk.took, e0, Lk.comes, hq]
  rw [e1, e2]
  have hIs := fun (V : World) (hV : Below w.heap.size w V) => h.below hV
  have HE := Lib.hid (fun (V : World) (hV : Below w.heap.size w V) => none_end (hIs V hV) (Stays.of_below hV))
  have hnq : ((f.seq.toNat : Int) != ((L.got : Int) + 1)) = true := by rw [bne_iff_ne]; omega
  have hnq2 : ((f.seq.toNat : Int) == ((L.got : Int) + 1)) = false := by rw [beq_eq_false_iff_ne]; omega
  clear e0 e1 e2 hd h
  obtain ⟨wi, ki, sr, ds, li, se, ac, hi, da⟩ := f
  dsimp only at *
  unfold Fr.val Fr.cells
  dsimp only
  clear hIs hq hl hg
  go_enter Try.func16, Try.ntmps16
  go_wp2
  go_quiet (fail)
  go_wp2
  go_quiet (fail)
  go_wp2
  go_ret
  exact HE.out _ (drewN_below (drewN_below ((Below.refl _ w).alloc (Nat.le_refl _) _) _) _)
set_option maxRecDepth 100000 in
set_option maxHeartbeats 2000000 in
theorem lkTakeNewYes (L : Lk) (B M : Nat) (f : Fr) (w : World) (h : Lk.Is L B M w) (hg : L.got < 1000) (hd : f.data.size ≤ 1000000) (hl : L.plife.toNat < f.life.toNat) (hq : f.seq.toNat = 1) : Calls Try.prog 16 #[.pointer (some ⟨B, 7, none⟩), f.val] w fun e w' =>
    (∃ v, e = .returned v ∧ Words w' w.heap.size v (L.came f)) ∧ Lk.Turns (L.took f) B M w w' := by
  have e0 : L.lived f = { L with plife := f.life, got := 0 } := by simp [Lk.lived, hl]
  have hli : (L.plife.toNat : Int) < (f.life.toNat : Int) := by omega
  obtain ⟨c7, c8, z7, z8, hB⟩ := h.rc
  have e1 : L.came f = [f.data] := by simp [Lk.came, e0, Lk.comes, hq]
  have e2 : L.took f = { ({ L with plife := f.life, got := 0 } : Lk) with got := 0 + 1 } := by simp [Lk.took, e0, Lk.comes, hq]
  rw [e1, e2]
  have hIs := fun (V : World) (hV : Below w.heap.size w V) => h.below hV
  have HC := Lib.hid (fun W => Try.strings_Clone f.data W (by omega))
  have HE := Lib.hid (fun (V w1 : World) (k : Nat) (hV : Below w.heap.size w V) (hb : Below _ _ w1) => took_end (L := L) (got_is (is_drewN (life_is (hIs V hV) f.life) k) 1 (by omega)) (stays_set (stays_drewN (stays_set (stays_set (Stays.of_below hV) 7 _) 8 _) k) 8 _) hb f.data)
  clear e0 e1 e2 hd h
  obtain ⟨wi, ki, sr, ds, li, se, ac, hi, da⟩ := f
  dsimp only at *
  unfold Fr.val Fr.cells
  dsimp only
  rw [hq]
  clear hIs hq hl hg
  go_enter Try.func16, Try.ntmps16
  go_wp2
  go_quiet (fail)
  go_wp2
  go_quiet (fail)
  go_wp2_with (go_at_call 24; refine (HC.out _).mono ?_; rintro e w1 ⟨rfl, hb⟩)
  go_ret
  exact HE.out _ _ _ (drewN_below ((Below.refl _ w).alloc (Nat.le_refl _) _) _) hb
set_option maxRecDepth 100000 in
set_option maxHeartbeats 2000000 in
theorem lkTakeNewNo (L : Lk) (B M : Nat) (f : Fr) (w : World) (h : Lk.Is L B M w) (hg : L.got < 1000) (hd : f.data.size ≤ 1000000) (hl : L.plife.toNat < f.life.toNat) (hq : ¬ f.seq.toNat = 1) : Calls Try.prog 16 #[.pointer (some ⟨B, 7, none⟩), f.val] w fun e w' =>
    (∃ v, e = .returned v ∧ Words w' w.heap.size v (L.came f)) ∧ Lk.Turns (L.took f) B M w w' := by
  have e0 : L.lived f = { L with plife := f.life, got := 0 } := by simp [Lk.lived, hl]
  have hli : (L.plife.toNat : Int) < (f.life.toNat : Int) := by omega
  obtain ⟨c7, c8, z7, z8, hB⟩ := h.rc
  have e1 : L.came f = [] := by simp [Lk.came, e0, Lk.comes, hq]
  have e2 : L.took f = { L with plife := f.life, got := 0 } := by simp [Lk.took, e0, Lk.comes, hq]
  rw [e1, e2]
  have hIs := fun (V : World) (hV : Below w.heap.size w V) => h.below hV
  have HE := Lib.hid (fun (V : World) (k : Nat) (hV : Below w.heap.size w V) => none_end (is_drewN (life_is (hIs V hV) f.life) k) (stays_drewN (stays_set (stays_set (Stays.of_below hV) 7 _) 8 _) k))
  have hnq : ((f.seq.toNat : Int) != (1 : Int)) = true := by rw [bne_iff_ne]; omega
  have hnq2 : ((f.seq.toNat : Int) == (1 : Int)) = false := by rw [beq_eq_false_iff_ne]; omega
  clear e0 e1 e2 hd h
  obtain ⟨wi, ki, sr, ds, li, se, ac, hi, da⟩ := f
  dsimp only at *
  unfold Fr.val Fr.cells
  dsimp only
  clear hIs hq hl hg
  go_enter Try.func16, Try.ntmps16
  go_wp2
  go_quiet (fail)
  go_wp2
  go_quiet (fail)
  go_wp2
  go_ret
  exact HE.out _ _ (drewN_below ((Below.refl _ w).alloc (Nat.le_refl _) _) _)
/-- take. -/
theorem lkTake (L : Lk) (B M : Nat) (f : Fr) (w : World) (h : Lk.Is L B M w) (hg : L.got < 1000) (hd : f.data.size ≤ 1000000) : Calls Try.prog 16 #[.pointer (some ⟨B, 7, none⟩), f.val] w fun e w' =>
    (∃ v, e = .returned v ∧ Words w' w.heap.size v (L.came f)) ∧ Lk.Turns (L.took f) B M w w' := by
  by_cases hl : L.plife.toNat < f.life.toNat
  · by_cases hq : f.seq.toNat = 1
    · exact lkTakeNewYes L B M f w h hg hd hl hq
    · exact lkTakeNewNo L B M f w h hg hd hl hq
  · by_cases hq : f.seq.toNat = L.got + 1
    · exact lkTakeOldYes L B M f w h hg hd hl hq
    · exact lkTakeOldNo L B M f w h hg hd hl hq
end Go.Proofs.Ytlbhfkiihikimaa
