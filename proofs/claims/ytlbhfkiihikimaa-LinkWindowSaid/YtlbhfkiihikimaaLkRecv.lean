/-
  Receive: walked.
-/
import Derived.Test.YtlbhfkiihikimaaLkTake
import Derived.Test.YtlbhfkiihikimaaLkAck
import Derived.Test.YtlbhfkiihikimaaLkAddr
import Derived.StillTailTactics
import Derived.WalkMore
namespace Go.Proofs.Ytlbhfkiihikimaa
open Go.RowKit Go.Shelf
attribute [local go_sem] Oper.semAt_some
set_option linter.unusedVariables false
set_option linter.unusedSimpArgs false

/-- What Receive hands back, and leaves. -/
def Got (L : Lk) (B M : Nat) (f : Fr) (w : World) (e : Ending) (w' : World) : Prop :=
  (∃ dv av, e = .returned (.tuple #[dv, av, .int .i64 0]) ∧ Words w' w.heap.size dv (L.recvD f) ∧ Frames w' w.heap.size av (L.recvA f)) ∧ Lk.Turns (L.recv f) B M w w'
/-- A frame's block and the end, at a world. -/
structure Two (L : Lk) (f : Fr) (B b : Nat) (W : World) : Prop where
  l0 : W.cell? ⟨B, 0, none⟩ = some (.int .i64 L.me)
  l1 : W.cell? ⟨B, 1, none⟩ = some (.int .i64 L.peer)
  l7 : W.cell? ⟨B, 7, none⟩ = some (.int .u32 (L.plife.toNat : Int))
theorem lkTwo {L : Lk} {B M : Nat} {W : World} (h : Lk.Is L B M W) (f : Fr) (b : Nat) : Two L f B b W := ⟨h.cell 0 _ rfl, h.cell 1 _ rfl, h.cell 7 _ rfl⟩
/-- The answer, as its frame's cells are laid. -/
abbrev ackCells (L : Lk) : Array Value := #[.int .i64 0, .int .i64 2, .int .i64 0, .int .i64 0, .int .u32 (L.plife.toNat : Int), .int .u32 0, .int .u32 (L.got : Int), .int .u32 0, .string ⟨#[]⟩]
theorem ackAddressed (L : Lk) (B M : Nat) (W : World) (h : Lk.Is L B M W) : Calls Try.prog 17 #[.pointer (some ⟨B, 0, none⟩), .slice (some ⟨W.heap.size, 0, none⟩) 1 1] (W.alloc (.cells (ackCells L) 24)) fun e w' =>
    (∃ u, e = .returned u ∧ Frames w' (W.alloc (.cells (ackCells L) 24)).heap.size u [L.made 2 L.plife 0 ⟨#[]⟩]) ∧ Below (W.alloc (.cells (ackCells L) 24)).heap.size (W.alloc (.cells (ackCells L) 24)) w' := by
  have hc : ackCells L = (⟨0, 2, 0, 0, L.plife, 0, Lk.bv L.got, 0, ⟨#[]⟩⟩ : Fr).cells := by
    unfold Fr.cells ackCells
    simp only [Lk.bv_toNat L.got (by have := h.ok.gots; omega)]
    rfl
  have hf : Frames (W.alloc (.cells (ackCells L) 24)) W.heap.size (.slice (some ⟨W.heap.size, 0, none⟩) 1 1) [⟨0, 2, 0, 0, L.plife, 0, Lk.bv L.got, 0, ⟨#[]⟩⟩] := by
    rw [hc]
    exact .inr ⟨W.heap.size, 1, _, rfl, Nat.le_refl _, World.alloc_heap_new W _, Nat.le_refl _, by unfold maxLen; omega, by simp [Fr.cells], by simp [flatF, Fr.row, Fr.cells]⟩
  exact lkAddressed L B M _ _ _ _ (h.below ((Below.refl _ W).alloc (Nat.le_refl _) _)) hf (by simp)
theorem ack_seven {L : Lk} {B M : Nat} {W w3 : World} {C : Array Value} {t : TypeId} (h : Lk.Is L B M W) (hb : Below (W.alloc (.cells C t)).heap.size (W.alloc (.cells C t)) w3) : w3.cell? ⟨B, 7, none⟩ = some (.int .u32 (L.plife.toNat : Int)) :=
  ((h.below ((Below.refl _ W).alloc (Nat.le_refl _) _)).below hb).cell 7 _ rfl
theorem recv_end {L2 : Lk} {B M : Nat} {w V w2 w3 : World} {ds : List ByteArray} {fs : List Fr} {dv av : Value} {C : Array Value} {t : TypeId} (hV : Below w.heap.size w V) (hdv : Words w2 V.drew.heap.size dv ds) (hT : Lk.Turns L2 B M V.drew w2)
    (hb3 : Below (w2.drew.alloc (.cells C t)).heap.size (w2.drew.alloc (.cells C t)) w3) (hav : Frames w3 (w2.drew.alloc (.cells C t)).heap.size av fs) :
    (∃ dv' av', Ending.returned (.tuple #[dv, av, .int .i64 0]) = .returned (.tuple #[dv', av', .int .i64 0]) ∧ Words w3 w.heap.size dv' ds ∧ Frames w3 w.heap.size av' fs) ∧ Lk.Turns L2 B M w w3 := by
  have h2 : Below w2.heap.size w2 w3 := ((Below.refl _ w2).drew.alloc (by simp) (.cells C t)).trans (hb3.mono (by simp))
  have hsV : w.heap.size ≤ V.heap.size := hV.size
  have hs2 : V.heap.size ≤ w2.heap.size := hT.2.size
  refine ⟨⟨_, _, rfl, (hdv.below h2).rebase (fun g hg => Nat.le_trans hsV (hdv.lt g hg).1), hav.rebase (fun g hg => by have := (hav.lt g hg).1; simp at this; omega)⟩, hT.1.below h2, ?_⟩
  exact ((Stays.of_below (hV.trans ((Below.refl _ V).drew.mono hsV))).trans hT.2 fun g hg => .inl hg).trans (Stays.of_below (o := some M) h2) fun g hg => .inl hg
set_option maxRecDepth 100000 in
set_option maxHeartbeats 2000000 in
/-- Of another one. -/
theorem lkRecvNo (L : Lk) (B M : Nat) (f : Fr) (w : World) (h : Lk.Is L B M w) (hn : f.src ≠ L.peer) : Calls Try.prog 9 #[.pointer (some ⟨B, 0, none⟩), f.val] w fun e w' =>
    e = .returned (.tuple #[.slice none 0 0, .slice none 0 0, .int .i64 60]) ∧ Lk.Turns L B M w w' := by
  obtain ⟨l0, l1, l7⟩ := lkTwo h f 0
  have hB := h.lt
  have HE := Lib.hid (fun (V : World) (hV : Below w.heap.size w V) => Lk.Turns.of_below h hV)
  have hne : (f.src != L.peer) = true := by rw [bne_iff_ne]; exact hn
  have hne2 : (f.src == L.peer) = false := by rw [beq_eq_false_iff_ne]; exact hn
  unfold Fr.val Fr.cells
  clear h hn
  go_enter Try.func9, Try.ntmps9
  go_wp2
  go_quiet (fail)
  go_wp2
  refine bodyPost_ret (v := .tuple #[.slice none 0 0, .slice none 0 0, .int .i64 60]) ?_ rfl ⟨rfl, HE.out _ (drewN_below ((Below.refl _ w).alloc (Nat.le_refl _) _) _)⟩
  simp [results, Try.results9, go_sem]
set_option maxRecDepth 100000 in
set_option maxHeartbeats 2000000 in
/-- An acknowledgement. -/
theorem lkRecvAck (L : Lk) (B M : Nat) (f : Fr) (w : World) (h : Lk.Is L B M w) (hk : f.kind = 2) (hs : f.src = L.peer) (hd : f.dst = L.me) : Calls Try.prog 9 #[.pointer (some ⟨B, 0, none⟩), f.val] w (Got L B M f w) := by
  obtain ⟨l0, l1, l7⟩ := lkTwo h f 0
  have hB := h.lt
  have e1 : L.recvD f = [] := by simp [Lk.recvD, hk]
  have e2 : L.recvA f = [] := by simp [Lk.recvA, hk]
  have e3 : L.recv f = L.acked f := by simp [Lk.recv, hk]
  unfold Got
  rw [e1, e2, e3]
  have HE := Lib.hid (fun (V w' : World) (hV : Below w.heap.size w V) (hT : Lk.Turns (L.acked f) B M V w') => (⟨hT.1, (Stays.of_below hV).trans hT.2 fun g hg => .inl hg⟩ : Lk.Turns (L.acked f) B M w w'))
  have HA := fun (V : World) (hV : Below w.heap.size w V) => lkAck L B M f V (h.below hV)
  unfold Fr.val Fr.cells at *
  rw [hk, hs, hd] at *
  have HA := Lib.hid HA
  clear h hk hs hd e1 e2 e3
  go_enter Try.func9, Try.ntmps9
  go_wp2
  go_quiet (fail)
  go_wp2
  go_quiet (fail)
  go_wp2
  generalize hV : World.drewN _ _ = V
  have hbV : Below w.heap.size w V := by rw [← hV]; exact drewN_below ((Below.refl _ w).alloc (Nat.le_refl _) _) _
  have hrow : Row V w.heap.size #[.int .i64 f.wire, .int .i64 2, .int .i64 L.peer, .int .i64 L.me, .int .u32 (f.life.toNat : Int), .int .u32 (f.seq.toNat : Int), .int .u32 (f.ack.toNat : Int), .int .u32 (f.hint.toNat : Int), .string f.data] 24 := by rw [← hV]; exact Row.new w _ _
  have q0 : V.drew.cell? ⟨w.heap.size, 0, none⟩ = some (.int .i64 f.wire) := hrow.cell 0 _ rfl
  have q1 : V.drew.cell? ⟨w.heap.size, 1, none⟩ = some (.int .i64 2) := hrow.cell 1 _ rfl
  have q2 : V.drew.cell? ⟨w.heap.size, 2, none⟩ = some (.int .i64 L.peer) := hrow.cell 2 _ rfl
  have q3 : V.drew.cell? ⟨w.heap.size, 3, none⟩ = some (.int .i64 L.me) := hrow.cell 3 _ rfl
  have q4 : V.drew.cell? ⟨w.heap.size, 4, none⟩ = some (.int .u32 (f.life.toNat : Int)) := hrow.cell 4 _ rfl
  have q5 : V.drew.cell? ⟨w.heap.size, 5, none⟩ = some (.int .u32 (f.seq.toNat : Int)) := hrow.cell 5 _ rfl
  have q6 : V.drew.cell? ⟨w.heap.size, 6, none⟩ = some (.int .u32 (f.ack.toNat : Int)) := hrow.cell 6 _ rfl
  have q7 : V.drew.cell? ⟨w.heap.size, 7, none⟩ = some (.int .u32 (f.hint.toNat : Int)) := hrow.cell 7 _ rfl
  have q8 : V.drew.cell? ⟨w.heap.size, 8, none⟩ = some (.string f.data) := hrow.cell 8 _ rfl
  have hrl : w.heap.size < V.drew.heap.size := Row.lt hrow
  clear hrow hV
  go_still_tail 4, (by kernel_rfl)
  change wpList _ _ _ _ _ V.drew
  go_wp2_with (go_at_call 19; refine (HA.out _ hbV.drew).mono ?_; rintro e w1 ⟨⟨v, rfl⟩, hT⟩)
  refine bodyPost_ret (v := .tuple #[.slice none 0 0, .slice none 0 0, .int .i64 0]) ?_ rfl ⟨⟨_, _, rfl, Words.nil _ _, Frames.nil _ _⟩, HE.out _ _ hbV.drew hT⟩
  simp [results, Try.results9, go_sem]
set_option maxRecDepth 100000 in
set_option maxHeartbeats 2000000 in
/-- Data of an old life. -/
theorem lkRecvOld (L : Lk) (B M : Nat) (f : Fr) (w : World) (h : Lk.Is L B M w) (hk : f.kind = 1) (hs : f.src = L.peer) (hd : f.dst = L.me) (hl : f.life.toNat < L.plife.toNat) : Calls Try.prog 9 #[.pointer (some ⟨B, 0, none⟩), f.val] w (Got L B M f w) := by
  obtain ⟨l0, l1, l7⟩ := lkTwo h f 0
  have hB := h.lt
  have e1 : L.recvD f = [] := by simp [Lk.recvD, hk, Lk.stale, hl]
  have e2 : L.recvA f = [] := by simp [Lk.recvA, hk, Lk.stale, hl]
  have e3 : L.recv f = L := by simp [Lk.recv, hk, Lk.stale, hl]
  unfold Got
  rw [e1, e2, e3]
  have hli : (f.life.toNat : Int) < (L.plife.toNat : Int) := by omega
  have HE := Lib.hid (fun (V : World) (hV : Below w.heap.size w V) => Lk.Turns.of_below h hV)
  unfold Fr.val Fr.cells at *
  rw [hk, hs, hd] at *
  clear h hk hs hd e1 e2 e3 hl
  go_enter Try.func9, Try.ntmps9
  go_wp2
  go_quiet (fail)
  go_wp2
  go_quiet (fail)
  go_wp2
  go_quiet (fail)
  go_wp2
  refine bodyPost_ret (v := .tuple #[.slice none 0 0, .slice none 0 0, .int .i64 0]) ?_ rfl ⟨⟨_, _, rfl, Words.nil _ _, Frames.nil _ _⟩, HE.out _ (drewN_below (drewN_below ((Below.refl _ w).alloc (Nat.le_refl _) _) _) _)⟩
  simp [results, Try.results9, go_sem]
set_option maxRecDepth 100000 in
set_option maxHeartbeats 2000000 in
/-- Data of the peer's life, or of a newer one. -/
theorem lkRecvNew (L : Lk) (B M : Nat) (f : Fr) (w : World) (h : Lk.Is L B M w) (hg : L.got < 1000) (hds : f.data.size ≤ 1000000) (hk : f.kind = 1) (hs : f.src = L.peer) (hd : f.dst = L.me) (hl : ¬ f.life.toNat < L.plife.toNat) : Calls Try.prog 9 #[.pointer (some ⟨B, 0, none⟩), f.val] w (Got L B M f w) := by
  obtain ⟨l0, l1, l7⟩ := lkTwo h f 0
  have hB := h.lt
  have e1 : L.recvD f = L.came f := by simp [Lk.recvD, hk, Lk.stale, hl]
  have e2 : L.recvA f = [(L.took f).made 2 (L.took f).plife 0 ⟨#[]⟩] := by simp [Lk.recvA, hk, Lk.stale, hl]
  have e3 : L.recv f = L.took f := by simp [Lk.recv, hk, Lk.stale, hl]
  unfold Got
  rw [e1, e2, e3]
  have hli : ¬ (f.life.toNat : Int) < (L.plife.toNat : Int) := by omega
  have HT := fun (V : World) (hV : Below w.heap.size w V) => lkTake L B M f V (h.below hV) hg hds
  unfold Fr.val Fr.cells at *
  rw [hk, hs, hd] at *
  generalize L.took f = L2 at *
  generalize L.came f = ds at *
  have HT := Lib.hid HT
  clear h hk hs hd e1 e2 e3 hl
  go_enter Try.func9, Try.ntmps9
  go_wp2
  go_quiet (fail)
  go_wp2
  go_quiet (fail)
  go_wp2
  go_quiet (fail)
  go_wp2
  generalize hV : World.drewN _ _ = V
  have hbV : Below w.heap.size w V := by rw [← hV]; exact drewN_below (drewN_below ((Below.refl _ w).alloc (Nat.le_refl _) _) _) _
  have hrow : Row V w.heap.size #[.int .i64 f.wire, .int .i64 1, .int .i64 L.peer, .int .i64 L.me, .int .u32 (f.life.toNat : Int), .int .u32 (f.seq.toNat : Int), .int .u32 (f.ack.toNat : Int), .int .u32 (f.hint.toNat : Int), .string f.data] 24 := by rw [← hV]; exact Row.new w _ _
  have q0 : V.drew.cell? ⟨w.heap.size, 0, none⟩ = some (.int .i64 f.wire) := hrow.cell 0 _ rfl
  have q1 : V.drew.cell? ⟨w.heap.size, 1, none⟩ = some (.int .i64 1) := hrow.cell 1 _ rfl
  have q2 : V.drew.cell? ⟨w.heap.size, 2, none⟩ = some (.int .i64 L.peer) := hrow.cell 2 _ rfl
  have q3 : V.drew.cell? ⟨w.heap.size, 3, none⟩ = some (.int .i64 L.me) := hrow.cell 3 _ rfl
  have q4 : V.drew.cell? ⟨w.heap.size, 4, none⟩ = some (.int .u32 (f.life.toNat : Int)) := hrow.cell 4 _ rfl
  have q5 : V.drew.cell? ⟨w.heap.size, 5, none⟩ = some (.int .u32 (f.seq.toNat : Int)) := hrow.cell 5 _ rfl
  have q6 : V.drew.cell? ⟨w.heap.size, 6, none⟩ = some (.int .u32 (f.ack.toNat : Int)) := hrow.cell 6 _ rfl
  have q7 : V.drew.cell? ⟨w.heap.size, 7, none⟩ = some (.int .u32 (f.hint.toNat : Int)) := hrow.cell 7 _ rfl
  have q8 : V.drew.cell? ⟨w.heap.size, 8, none⟩ = some (.string f.data) := hrow.cell 8 _ rfl
  have hrl : w.heap.size < V.drew.heap.size := Row.lt hrow
  clear hrow hV
  go_still_tail 4, (by kernel_rfl)
  change wpList _ _ _ _ _ V.drew
  go_wp2_with (go_at_call 16; refine (HT.out _ hbV.drew).mono ?_; rintro e w2 ⟨⟨dv, rfl, hdv⟩, hT⟩)
  have hI2 : Lk.Is L2 B M w2.drew := hT.1.below (Below.refl _ _).drew
  have r7 := hI2.cell 7 (.int .u32 (L2.plife.toNat : Int)) rfl
  have r7ne := World.new_ne w2.drew _ r7
  have hB2 := hI2.lt
  have HAD : Hid (Calls Try.prog 17 #[.pointer (some ⟨B, 0, none⟩), .slice (some ⟨w2.heap.size, 0, none⟩) 1 1] (w2.alloc (.cells (ackCells L2) 24)).drew fun e w' =>
    (∃ u, e = .returned u ∧ Frames w' (w2.alloc (.cells (ackCells L2) 24)).drew.heap.size u [L2.made 2 L2.plife 0 ⟨#[]⟩]) ∧ Below (w2.alloc (.cells (ackCells L2) 24)).drew.heap.size (w2.alloc (.cells (ackCells L2) 24)).drew w') := Lib.hid (ackAddressed L2 B M w2.drew hI2)
  have HQ := Lib.hid (fun (C : Array Value) (t : TypeId) => show (w2.alloc (.cells C t)).drew.cell? ⟨B, 7, none⟩ = some (.int .u32 (L2.plife.toNat : Int)) from (hI2.below ((Below.refl _ w2.drew).alloc (Nat.le_refl _) (.cells C t))).cell 7 _ rfl)
  have HGT := Lib.hid (fun (W : World) (hI : Lk.Is L2 B M W) => lkGot L2 B M W hI)
  have HE := Lib.hid (fun (w3 : World) (t : TypeId) (C : Array Value) (av : Value) (hb3 : Below (w2.alloc (.cells C t)).drew.heap.size (w2.alloc (.cells C t)).drew w3) (hav : Frames w3 (w2.alloc (.cells C t)).drew.heap.size av [L2.made 2 L2.plife 0 ⟨#[]⟩]) => recv_end hbV hdv hT hb3 hav)
  clear q0 q1 q2 q3 q4 q5 q6 q7 q8 l0 l1 l7 hdv
  go_region_held3 (fun W => W.cell? ⟨B, 7, none⟩ = some (.int .u32 (L2.plife.toNat : Int))) (first | exact r7 | exact hq7 | exact HQ.out _ _ | go_keep) (first
    | (go_at_call 18; refine (HGT.out _ hI2).mono ?_; rintro e w3 ⟨rfl, rfl⟩)
    | (go_at_call 17; refine HAD.out.mono ?_; rintro e w3 ⟨⟨av, rfl, hav⟩, hb3⟩; have hq7 := ack_seven (W := w2.drew) hI2 hb3))
  all_goals
    go_wp2
    refine bodyPost_ret (v := .tuple #[dv, av, .int .i64 0]) ?_ rfl (HE.out _ _ _ _ hb3 hav)
    simp [results, Try.results9, go_sem]
/-- Receive. -/
theorem lkRecv (L : Lk) (B M : Nat) (f : Fr) (w : World) (h : Lk.Is L B M w) (hg : L.got < 1000) (hds : f.data.size ≤ 1000000) (hk : f.kind = 1 ∨ f.kind = 2) (hs : f.src = L.peer) (hd : f.dst = L.me) : Calls Try.prog 9 #[.pointer (some ⟨B, 0, none⟩), f.val] w (Got L B M f w) := by
  rcases hk with hk | hk
  · by_cases hl : f.life.toNat < L.plife.toNat
    · exact lkRecvOld L B M f w h hk hs hd hl
    · exact lkRecvNew L B M f w h hg hds hk hs hd hl
  · exact lkRecvAck L B M f w h hk hs hd
end Go.Proofs.Ytlbhfkiihikimaa
