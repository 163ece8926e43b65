/-
  link.New, full, lay, got: walked.
-/
import Derived.Test.YtlbhfkiihikimaaLkMap
import Derived.Test.YtlbhfkiihikimaaLkSame
import Derived.Test.YtlbhfkiihikimaaHeld
import Derived.Deep.RegionHeld3
namespace Go.Proofs.Ytlbhfkiihikimaa
open Go.RowKit Go.Shelf
attribute [local go_sem] Oper.semAt_some
set_option linter.unusedVariables false
set_option linter.unusedSimpArgs false

namespace Lk
/-- Block B is the end L, block M its map. -/
structure Is (L : Lk) (B M : Nat) (w : World) : Prop where
  row : w.heap[B]? = some (.cells (cells L M) 52 (0, 0))
  map : w.heap[M]? = some L.mapO
  ne : B ≠ M
  ok : L.Ok
/-- Behind a call the end is L', and nothing else has turned. -/
def Turns (L' : Lk) (B M : Nat) (w w' : World) : Prop := Is L' B M w' ∧ Stays B (some M) w w'
variable {L L' : Lk} {B M : Nat} {w w' w'' : World}
theorem Is.lt (h : Is L B M w) : B < w.heap.size := (Array.getElem?_eq_some_iff.1 h.row).1
theorem Is.ltM (h : Is L B M w) : M < w.heap.size := (Array.getElem?_eq_some_iff.1 h.map).1
theorem Is.cell (h : Is L B M w) (j : Nat) (u : Value) (hk : (cells L M)[j]? = some u) : w.cell? ⟨B, j, none⟩ = some u := by simp [World.cell?, h.row, hk]
theorem Is.thawed (h : Is L B M w) (j : Nat) : w.frozen? ⟨B, j, none⟩ = false := by simp [World.frozen?, h.row]
theorem Is.keep (h : Is L B M w) (hB : w'.heap[B]? = w.heap[B]?) (hM : w'.heap[M]? = w.heap[M]?) : Is L B M w' := ⟨hB.trans h.row, hM.trans h.map, h.ne, h.ok⟩
theorem Is.below (h : Is L B M w) (hb : Below w.heap.size w w') : Is L B M w' := h.keep (hb.block B h.lt) (hb.block M h.ltM)
theorem Turns.of_below (h : Is L B M w) (hb : Below w.heap.size w w') : Turns L B M w w' := ⟨h.below hb, Stays.of_below hb⟩
theorem Turns.refl (h : Is L B M w) : Turns L B M w w := Turns.of_below h (Below.refl _ _)
theorem Turns.trans (h : Turns L B M w w') (h' : Turns L' B M w' w'') : Turns L' B M w w'' := ⟨h'.1, h.2.trans h'.2 fun g hg => .inl hg⟩
theorem Is.lenMap (h : Is L B M w) (ty : TypeId) : (Builtin.len_ #[46] ty #[.map (some M)]).run Try.prog w = .ok (.int .i64 (L.out.length : Int)) w := by
  have hm := h.map
  unfold mapO at hm
  simp [Builtin.len_, run_underlying Try.underlying46, MapKept.run_getObj_map hm, Result.andThen, entries_length, goInt]
end Lk
set_option maxRecDepth 100000 in
set_option maxHeartbeats 1000000 in
/-- New, of a window that is right. -/
theorem lkNew (me peer wire window : Int) (life : BitVec 32) (hm : 0 ≤ me ∧ me ≤ 15) (hp : 0 ≤ peer ∧ peer ≤ 15) (hne : (me == peer) = false) (hw : wire = 1 ∨ wire = 2) (h1 : 1 ≤ window) (h2 : window ≤ 64) (hl : 1 ≤ life.toNat) (w : World) :
    Calls Try.prog 10 #[.int .i64 me, .int .i64 peer, .int .i64 wire, .int .i64 window, .int .u32 (life.toNat : Int)] w fun e w' =>
      (∃ B M, e = .returned (.tuple #[.pointer (some ⟨B, 0, none⟩), .int .i64 0]) ∧ w.heap.size ≤ B ∧ w.heap.size ≤ M ∧ Lk.Is (Lk.new me peer wire window life) B M w') ∧ Below w.heap.size w w' := by
  have hr := frameRight ⟨wire, 0, me, peer, 0, 0, 0, 0, ⟨#[]⟩⟩ (Nat.zero_le _) w
  rw [decide_eq_true (show Fr.Right ⟨wire, 0, me, peer, 0, 0, 0, 0, ⟨#[]⟩⟩ from ⟨hw, ⟨Int.le_refl _, (by decide : (0 : Int) ≤ 31)⟩, hm, hp, Nat.zero_le _, fun _ => rfl⟩)] at hr
  have h3 : ¬ window < 1 := by omega
  have h4 : ¬ 64 < window := by omega
  have h5 : ¬ (life.toNat : Int) < 1 := by omega
  have HL := Lib.hid hl
  have hmm := @run_makeMap Try.prog
  clear hm hp hw h1 h2 hl
  go_enter Try.func10, Try.ntmps10
  go_wp2_with (go_at_call 20; refine hr.mono ?_; rintro e w1 ⟨rfl, hb⟩)
  go_ret2
  have hs := hb.size
  refine ⟨⟨w1.heap.size + 1, w1.heap.size, rfl, by omega, hs, ⟨?_, ?_, by omega, ⟨Nat.zero_le _, Nat.zero_le _, fun s hs => by cases hs⟩⟩⟩, (hb.alloc hs _).alloc (by simp; omega) _⟩
  · have := World.alloc_heap_new (w1.alloc (.map #[] 0)) (.cells (Lk.cells (Lk.new me peer wire window life) w1.heap.size) 52)
    rwa [World.size_alloc] at this
  · exact (Below.heap_alloc _ _ _ (by simp)).trans (World.alloc_heap_new w1 _)
set_option maxRecDepth 100000 in
set_option maxHeartbeats 1000000 in
/-- New, of a window that is not. -/
theorem lkNewNo (me peer wire window : Int) (life : BitVec 32) (hm : 0 ≤ me ∧ me ≤ 15) (hp : 0 ≤ peer ∧ peer ≤ 15) (hne : (me == peer) = false) (hw : wire = 1 ∨ wire = 2) (h1 : window < 1 ∨ 64 < window) (w : World) :
    Calls Try.prog 10 #[.int .i64 me, .int .i64 peer, .int .i64 wire, .int .i64 window, .int .u32 (life.toNat : Int)] w fun e w' =>
      e = .returned (.tuple #[.pointer none, .int .i64 2]) ∧ Below w.heap.size w w' := by
  have hr := frameRight ⟨wire, 0, me, peer, 0, 0, 0, 0, ⟨#[]⟩⟩ (Nat.zero_le _) w
  rw [decide_eq_true (show Fr.Right ⟨wire, 0, me, peer, 0, 0, 0, 0, ⟨#[]⟩⟩ from ⟨hw, ⟨Int.le_refl _, (by decide : (0 : Int) ≤ 31)⟩, hm, hp, Nat.zero_le _, fun _ => rfl⟩)] at hr
  clear hm hp hw
  by_cases h2 : window < 1
  · clear h1
    go_enter Try.func10, Try.ntmps10
    go_wp2_with (go_at_call 20; refine hr.mono ?_; rintro e w1 ⟨rfl, hb⟩)
    go_ret2
    exact ⟨rfl, hb⟩
  · have h3 : 64 < window := by omega
    clear h1
    go_enter Try.func10, Try.ntmps10
    go_wp2_with (go_at_call 20; refine hr.mono ?_; rintro e w1 ⟨rfl, hb⟩)
    go_ret2
    exact ⟨rfl, hb⟩
/-- got. -/
theorem lkGot (L : Lk) (B M : Nat) (w : World) (h : Lk.Is L B M w) : Calls Try.prog 18 #[.pointer (some ⟨B, 7, none⟩)] w fun e w' => e = .returned (.int .u32 (L.got : Int)) ∧ w = w' := by
  have hc : w.cell? ⟨B, 8, none⟩ = some (.int .u32 ((L.got + 1 : Nat) : Int)) := h.cell 8 _ rfl
  have hg := h.ok.gots
  clear h
  generalize L.got = n at *
  have hw : IntKind.u32.wrap (((n + 1 : Nat) : Int) - 1) = (n : Int) := by rw [IntWalk.u32_in _ (by omega)]; omega
  go_enter Try.func18, Try.ntmps18
  go_wp2
  go_ret
  exact ⟨by first | rfl | (congr 2; omega), rfl⟩
/-- full. -/
theorem lkFull (L : Lk) (B M : Nat) (w : World) (h : Lk.Is L B M w) : Calls Try.prog 21 #[.pointer (some ⟨B, 3, none⟩)] w fun e w' => e = .returned (.bool (decide (L.window ≤ (L.out.length : Int)))) ∧ Below w.heap.size w w' := by
  have h4 : w.cell? ⟨B, 4, none⟩ = some (.int .i64 L.window) := h.cell 4 _ rfl
  have h5 : w.cell? ⟨B, 5, none⟩ = some (.int .u32 ((L.top + 1 : Nat) : Int)) := h.cell 5 _ rfl
  have h6 : w.cell? ⟨B, 6, none⟩ = some (.map (some M)) := h.cell 6 _ rfl
  have hlen := h.lenMap
  have hlen2 : ∀ k ty, (Builtin.len_ #[46] ty #[.map (some M)]).run Try.prog (w.drewN k) = .ok (.int .i64 (L.out.length : Int)) (w.drewN k) := fun k ty => Lk.Is.lenMap (h.below (drewN_below (Below.refl _ _) k)) ty
  have hf := h.ok.few
  have ht : ((((L.top + 1 : Nat) : Int)) == 4294967295) = false := by rw [beq_eq_false_iff_ne]; omega
  have ht2 : (((L.top : Int) + 1) == 4294967295) = false := by rw [beq_eq_false_iff_ne]; omega
  clear h hf
  generalize L.top = t at *
  generalize L.out.length = n at *
  generalize L.window = W at *
  by_cases hd : W ≤ (n : Int)
  · have hd2 : decide (W ≤ (n : Int)) = true := decide_eq_true hd
    go_enter Try.func21, Try.ntmps21
    go_wp2
    go_quiet (fail)
    go_wp2
    go_ret
    exact ⟨by simp [hd], drewN_below (Below.refl _ _) _⟩
  · have hd2 : decide (W ≤ (n : Int)) = false := decide_eq_false hd
    go_enter Try.func21, Try.ntmps21
    go_wp2
    go_quiet (fail)
    go_wp2
    go_ret
    exact ⟨by simp [hd2, ht2], drewN_below (Below.refl _ _) _⟩
theorem row_set9 {B : Nat} {W : World} {c : Array Value} {t : TypeId} (h : W.heap[B]? = some (.cells c t (0, 0))) (j : Nat) (u : Value) : (W.setCell ⟨B, j, none⟩ u).heap[B]? = some (.cells (c.setIfInBounds j u) t (0, 0)) := by
  simp only [World.setCell, Array.getElem?_modify, if_true]
  rw [h]
  simp
theorem Stays.put {B M : Nat} {w w' : World} (h : Stays B (some M) w w') (o : Obj) : Stays B (some M) w (w'.putObj M o) :=
  ⟨h.os, h.tape, h.output, by have := h.size; simpa [World.putObj] using this, fun k hk hB hn => (World.putObj_heap_other (fun e => hn (by rw [e]))).trans (h.block k hk hB hn)⟩
/-- The end behind a sending. -/
theorem lay_is {L : Lk} {B M : Nat} {w : World} (h : Lk.Is L B M w) (s : ByteArray) (ht : L.top < 1000) (hs : s.size ≤ 4096) :
    Lk.Turns { L with out := L.out ++ [s] } B M w ((w.putObj M ({ L with out := L.out ++ [s] } : Lk).mapO).setCell ⟨B, 5, none⟩ (.int .u32 ((L.top + 1 + 1 : Nat) : Int))) := by
  have hr : (w.putObj M ({ L with out := L.out ++ [s] } : Lk).mapO).heap[B]? = some (.cells (Lk.cells L M) 52 (0, 0)) := (World.putObj_heap_other (fun e => h.ne (by rw [e]))).trans h.row
  refine ⟨⟨?_, ?_, h.ne, ⟨?_, h.ok.gots, fun x hx => ?_⟩⟩, ((Stays.refl B (some M) w).put _).setCell _ _ rfl⟩
  · rw [row_set9 hr]
    simp [Lk.cells, Lk.top, Lk.num, Nat.add_assoc]
  · refine (Below.heap_setCell _ _ _ M (fun e => h.ne e.symm)).trans (World.putObj_heap_same h.ltM)
  · simp only [Lk.top, List.length_append, List.length_cons, List.length_nil] at *; omega
  · rcases List.mem_append.1 hx with hx | hx
    · exact h.ok.small x hx
    · rw [List.mem_singleton.1 hx]; exact hs
theorem put_row {L : Lk} {B M : Nat} {W : World} (h : Lk.Is L B M W) (o : Obj) : (W.putObj M o).heap[B]? = some (.cells (Lk.cells L M) 52 (0, 0)) := (World.putObj_heap_other (fun e => h.ne (by rw [e]))).trans h.row
theorem put_cells {L : Lk} {B M : Nat} {W : World} (h : Lk.Is L B M W) (o : Obj) : (W.putObj M o).cell? ⟨B, 5, none⟩ = some (.int .u32 ((L.top : Int) + 1)) ∧ (W.putObj M o).cell? ⟨B, 6, none⟩ = some (.map (some M)) ∧ (W.putObj M o).frozen? ⟨B, 5, none⟩ = false := by
  have hr := put_row h o
  refine ⟨?_, ?_, by simp [World.frozen?, hr]⟩
  · simp only [World.cell?, hr]; rfl
  · simp only [World.cell?, hr]; rfl
set_option maxRecDepth 100000 in
set_option maxHeartbeats 1000000 in
/-- lay. -/
theorem lkLay (L : Lk) (B M : Nat) (s : ByteArray) (w : World) (h : Lk.Is L B M w) (ht : L.top < 1000) (hs : s.size ≤ 4096) : Calls Try.prog 22 #[.pointer (some ⟨B, 3, none⟩), .string s] w fun e w' =>
    (∃ v, e = .returned v) ∧ Lk.Turns { L with out := L.out ++ [s] } B M w w' := by
  have h5 : w.drew.cell? ⟨B, 5, none⟩ = some (.int .u32 ((L.top : Int) + 1)) := h.cell 5 _ rfl
  have h6 : w.drew.cell? ⟨B, 6, none⟩ = some (.map (some M)) := h.cell 6 _ rfl
  have hc := fun W => Try.strings_Clone s W (by omega)
  have HC := Lib.hid hc
  have HE := Lib.hid (fun (W : World) (hI : Lk.Is L B M W) => lay_is hI s ht hs)
  have HS := Lib.hid (fun (W : World) (hI : Lk.Is L B M W) => show (Instr.mapUpdate 46 (.map (some M)) (.int .u32 ((L.top : Int) + 1)) (.string s)).run Try.prog W = _ from Lk.store hI.map s)
  have hwr : IntKind.u32.wrap ((L.top : Int) + 1 + 1) = (L.top : Int) + 1 + 1 := IntWalk.u32_in _ (by omega)
  obtain ⟨O, hO⟩ : ∃ O, ({ L with out := L.out ++ [s] } : Lk).mapO = O := ⟨_, rfl⟩
  rw [hO] at HE HS
  have HI := Lib.hid (show Lk.Is L B M w.drew from h.below (drewN_below (Below.refl _ _) 1))
  have hB : B < w.drew.heap.size := h.lt
  clear hc h hO
  go_enter Try.func22, Try.ntmps22
  go_wp2
  go_region_held3 (fun W => W.cell? ⟨B, 5, none⟩ = some (.int .u32 ((L.top : Int) + 1)) ∧ W.cell? ⟨B, 6, none⟩ = some (.map (some M))) (first | exact ⟨h5, h6⟩ | exact ⟨hI1.cell 5 _ rfl, hI1.cell 6 _ rfl⟩ | exact ⟨hq5, hq6⟩ | go_keep) (first | (go_at_call 24; refine (HC.out _).mono ?_; rintro e w1 ⟨rfl, hb⟩; have hI1 := HI.out.below hb; have hst := HS.out _ hI1; obtain ⟨hq5, hq6, hq7⟩ := put_cells hI1 O))
  all_goals
    go_wp2
    go_end0
    have hT := HE.out _ hI1
    exact ⟨⟨_, rfl⟩, hT.1, ((Stays.of_below ((Below.refl _ w).drew.trans hb)).trans hT.2 fun g hg => .inl hg)⟩
end Go.Proofs.Ytlbhfkiihikimaa
