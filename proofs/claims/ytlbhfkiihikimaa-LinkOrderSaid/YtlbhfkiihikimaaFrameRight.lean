/-
  What frame.versions, known, turned, limited and Right come to.
-/
import Derived.Test.YtlbhfkiihikimaaCrcOpen2
import Derived.Test.YtlbhfkiihikimaaArrKey
import Derived.Test.YtlbhfkiihikimaaFrameMath
import Derived.Test.YtlbhfkiihikimaaPhase
import Derived.Test.YtlbhfkiihikimaaRange2
namespace Go.Proofs.Ytlbhfkiihikimaa
open Go.RowKit Go.Shelf
attribute [local go_sem] Oper.semAt_some

theorem keyOk : Key2 Try.prog 78 3 := ⟨Try.underlying78, Try.underlying3, fun _ => by kernel_rfl, fun _ => by kernel_rfl⟩
theorem lt_of_cell {w : World} {p : Addr} {v : Value} (h : w.cell? p = some v) : p.block < w.heap.size := by
  rcases Nat.lt_or_ge p.block w.heap.size with h' | h'
  · exact h'
  · simp [World.cell?, Array.getElem?_eq_none h'] at h
/-- The map of the versions: in whichever order they were laid. -/
def Vers (W : World) (m : Nat) : Prop :=
  W.heap[m]? = some (.map #[{ key := key2 72 1, val := .int .i64 24, born := 0 }, { key := key2 72 2, val := .int .i64 28, born := 1 }] 2) ∨
  W.heap[m]? = some (.map #[{ key := key2 72 2, val := .int .i64 28, born := 0 }, { key := key2 72 1, val := .int .i64 24, born := 1 }] 2)
theorem below_put {n : Nat} (W : World) (l : Nat) (o : Obj) (hn : n ≤ l) (h : l < W.heap.size) : Below n W (W.putObj l o) :=
  (Below.refl n W).grown (grownBy_putObj' W l o) (by omega) (fun k e => by cases e; exact hn)
set_option maxRecDepth 100000 in
theorem frameVersions (w : World) : Calls Try.prog 31 #[] w fun e w' => ∃ m, e = .returned (.map (some m)) ∧ w.heap.size ≤ m ∧ Vers w' m ∧ Below w.heap.size w w' := by
  have h0 : (Instr.makeMap 75 none).run Try.prog w.drew = .ok (.map (some w.heap.size)) (w.drew.alloc (.map #[] 0)) := run_makeMap 75 w.drew
  obtain ⟨V, hV⟩ : ∃ V, w.drew.alloc (.map #[] 0) = V := ⟨_, rfl⟩
  rw [hV] at h0
  have b0 : V.heap[w.heap.size]? = some (.map #[] 0) := by rw [← hV]; exact World.alloc_heap_new w.drew _
  have hB : Below w.heap.size w V := by rw [← hV]; exact (Below.refl _ _).drew.alloc (Nat.le_refl _) _
  clear hV
  have i1 := keyOk.first V Try.underlying75 w.heap.size 72 1 (.int .i64 24) b0
  have i2 := keyOk.first V Try.underlying75 w.heap.size 72 2 (.int .i64 28) b0
  have hl : w.heap.size < V.heap.size := (Array.getElem?_eq_some_iff.1 b0).1
  obtain ⟨V1, e1⟩ : ∃ V1, V.putObj w.heap.size (.map #[{ key := key2 72 1, val := .int .i64 24, born := 0 }] 1) = V1 := ⟨_, rfl⟩
  obtain ⟨V2, e2⟩ : ∃ V2, V.putObj w.heap.size (.map #[{ key := key2 72 2, val := .int .i64 28, born := 0 }] 1) = V2 := ⟨_, rfl⟩
  rw [e1] at i1
  rw [e2] at i2
  have b1 : V1.heap[w.heap.size]? = some (.map #[{ key := key2 72 1, val := .int .i64 24, born := 0 }] 1) := by rw [← e1]; exact World.putObj_heap_same hl
  have b2 : V2.heap[w.heap.size]? = some (.map #[{ key := key2 72 2, val := .int .i64 28, born := 0 }] 1) := by rw [← e2]; exact World.putObj_heap_same hl
  have j1 := keyOk.second V1 Try.underlying75 w.heap.size 72 1 72 2 (.int .i64 24) (.int .i64 28) b1 rfl
  have j2 := keyOk.second V2 Try.underlying75 w.heap.size 72 2 72 1 (.int .i64 28) (.int .i64 24) b2 rfl
  have hB1 : Below w.heap.size w V1 := by rw [← e1]; exact hB.trans (below_put _ _ _ (Nat.le_refl _) hl)
  have hB2 : Below w.heap.size w V2 := by rw [← e2]; exact hB.trans (below_put _ _ _ (Nat.le_refl _) hl)
  have hl1 : w.heap.size < V1.heap.size := (Array.getElem?_eq_some_iff.1 b1).1
  have hl2 : w.heap.size < V2.heap.size := (Array.getElem?_eq_some_iff.1 b2).1
  clear e1 e2 b1 b2
  obtain ⟨U1, f1⟩ : ∃ U1, V1.putObj w.heap.size (.map #[{ key := key2 72 1, val := .int .i64 24, born := 0 }, { key := key2 72 2, val := .int .i64 28, born := 1 }] 2) = U1 := ⟨_, rfl⟩
  obtain ⟨U2, f2⟩ : ∃ U2, V2.putObj w.heap.size (.map #[{ key := key2 72 2, val := .int .i64 28, born := 0 }, { key := key2 72 1, val := .int .i64 24, born := 1 }] 2) = U2 := ⟨_, rfl⟩
  rw [f1] at j1
  rw [f2] at j2
  have g1 : Vers U1 w.heap.size ∧ Below w.heap.size w U1 := by rw [← f1]; exact ⟨.inl (World.putObj_heap_same hl1), hB1.trans (below_put _ _ _ (Nat.le_refl _) hl1)⟩
  have g2 : Vers U2 w.heap.size ∧ Below w.heap.size w U2 := by rw [← f2]; exact ⟨.inr (World.putObj_heap_same hl2), hB2.trans (below_put _ _ _ (Nat.le_refl _) hl2)⟩
  have G1 := Lib.hid g1
  have G2 := Lib.hid g2
  clear f1 f2 hl1 hl2 hB1 hB2 hl hB b0 g1 g2
  go_enter Try.func31, Try.ntmps31
  go_wp2
  go_region
  all_goals go_wp2
  · go_ret
    exact ⟨_, rfl, Nat.le_refl _, G1.out.1, G1.out.2⟩
  · go_ret
    exact ⟨_, rfl, Nat.le_refl _, G2.out.1, G2.out.2⟩

/-- Is a number a version? -/
def ver (v : Int) : Bool := v == 1 || v == 2
/-- How many bytes a frame of a version has besides its data. -/
def bare (v : Int) : Int := if v = 1 then 24 else if v = 2 then 28 else 0
theorem Vers.look {W : World} {m : Nat} (h : Vers W m) (v : Int) : (Instr.lookup 75 (.map (some m)) (key2 72 v) true).run Try.prog W = .ok (.tuple #[.int .i64 (bare v), .bool (ver v)]) W := by
  have hz : (zeroValue 3).run Try.prog W = .ok (.int .i64 0) W := by kernel_rfl
  rcases h with h | h
  · rw [keyOk.look W Try.underlying75 m _ _ _ _ _ _ _ 72 v _ _ _ h hz]
    by_cases h1 : v = 1
    · subst h1; rfl
    · by_cases h2 : v = 2
      · subst h2; rfl
      · simp [ver, bare, h1, h2]
  · rw [keyOk.look W Try.underlying75 m _ _ _ _ _ _ _ 72 v _ _ _ h hz]
    by_cases h1 : v = 1
    · subst h1; rfl
    · by_cases h2 : v = 2
      · subst h2; rfl
      · simp [ver, bare, h1, h2, Bool.or_comm]
theorem Vers.none {W : World} {m : Nat} (h : Vers W m) (p v : Int) (hp : p ≠ 72) : (Instr.lookup 75 (.map (some m)) (key2 p v) true).run Try.prog W = .ok (.tuple #[.int .i64 0, .bool false]) W := by
  have hz : (zeroValue 3).run Try.prog W = .ok (.int .i64 0) W := by kernel_rfl
  rcases h with h | h <;> rw [keyOk.look W Try.underlying75 m _ _ _ _ _ _ _ p v _ _ _ h hz] <;> simp [hp]
set_option maxRecDepth 100000 in
set_option maxHeartbeats 400000 in
theorem frameKnown1 (B cap : Nat) (a : Int) (w : World) (hc : w.cell? ⟨B, 0, none⟩ = some (.int .i64 a)) : Calls Try.prog 26 #[.slice (some ⟨B, 0, none⟩) 1 cap] w fun e w' =>
    e = .returned (.bool (ver a)) ∧ Below w.heap.size w w' := by
  have hlt := lt_of_cell hc
  have hl : ∀ W m, Vers W m → (Instr.lookup 75 (.map (some m)) (key2 72 a) true).run Try.prog W = .ok (.tuple #[.int .i64 (bare a), .bool (ver a)]) W := fun W m h => h.look a
  cases hv : ver a
  · rw [hv] at hl
    have HV := Lib.hid hv
    have HL := Lib.hid hl
    clear hv hl
    go_enter Try.func26, Try.ntmps26
    go_wp2_with (go_at_call 31; refine (frameVersions _).mono ?_; rintro e w1 ⟨m, rfl, hm, hvs, hb⟩)
    have hl1 := HL.out w1 m hvs
    have hc1 : w1.cell? ⟨B, 0, none⟩ = some (.int .i64 a) := (hb.cell (p := ⟨B, 0, none⟩) hlt).trans hc
    refine wp_loop_rounds 1 ?_
    rw [rounds_succ]
    go_wp2
    go_ret
    exact ⟨rfl, hb⟩
  · rw [hv] at hl
    have HV := Lib.hid hv
    have HL := Lib.hid hl
    clear hv hl
    go_enter Try.func26, Try.ntmps26
    go_wp2_with (go_at_call 31; refine (frameVersions _).mono ?_; rintro e w1 ⟨m, rfl, hm, hvs, hb⟩)
    have hl1 := HL.out w1 m hvs
    have hc1 : w1.cell? ⟨B, 0, none⟩ = some (.int .i64 a) := (hb.cell (p := ⟨B, 0, none⟩) hlt).trans hc
    refine wp_loop_rounds 2 ?_
    rw [rounds_succ]
    go_wp2
    rw [rounds_succ]
    go_wp2
    go_ret
    exact ⟨rfl, hb⟩
set_option maxRecDepth 100000 in
set_option maxHeartbeats 400000 in
theorem frameKnown2 (B cap : Nat) (a b : Int) (w : World) (hc : w.cell? ⟨B, 0, none⟩ = some (.int .i64 a)) (hd : w.cell? ⟨B, 1, none⟩ = some (.int .i64 b)) : Calls Try.prog 26 #[.slice (some ⟨B, 0, none⟩) 2 cap] w fun e w' =>
    e = .returned (.bool (ver a && ver b)) ∧ Below w.heap.size w w' := by
  have hlt := lt_of_cell hc
  have hl : ∀ W m, Vers W m → (Instr.lookup 75 (.map (some m)) (key2 72 a) true).run Try.prog W = .ok (.tuple #[.int .i64 (bare a), .bool (ver a)]) W := fun W m h => h.look a
  have hk : ∀ W m, Vers W m → (Instr.lookup 75 (.map (some m)) (key2 72 b) true).run Try.prog W = .ok (.tuple #[.int .i64 (bare b), .bool (ver b)]) W := fun W m h => h.look b
  cases hv : ver a
  · rw [hv] at hl
    have HL := Lib.hid hl
    clear hv hl hk
    go_enter Try.func26, Try.ntmps26
    go_wp2_with (go_at_call 31; refine (frameVersions _).mono ?_; rintro e w1 ⟨m, rfl, hm, hvs, hb⟩)
    have hl1 := HL.out w1 m hvs
    have hc1 : w1.cell? ⟨B, 0, none⟩ = some (.int .i64 a) := (hb.cell (p := ⟨B, 0, none⟩) hlt).trans hc
    refine wp_loop_rounds 1 ?_
    rw [rounds_succ]
    go_wp2
    go_ret
    exact ⟨rfl, hb⟩
  · rw [hv] at hl
    cases hu : ver b
    all_goals
      rw [hu] at hk
      have HL := Lib.hid hl
      have HK := Lib.hid hk
      clear hv hl hk hu
      go_enter Try.func26, Try.ntmps26
      go_wp2_with (go_at_call 31; refine (frameVersions _).mono ?_; rintro e w1 ⟨m, rfl, hm, hvs, hb⟩)
      have hl1 := HL.out w1 m hvs
      have hk1 := HK.out w1 m hvs
      have hc1 : w1.cell? ⟨B, 0, none⟩ = some (.int .i64 a) := (hb.cell (p := ⟨B, 0, none⟩) hlt).trans hc
      have hd1 : w1.cell? ⟨B, 1, none⟩ = some (.int .i64 b) := (hb.cell (p := ⟨B, 1, none⟩) hlt).trans hd
      refine wp_loop_rounds 3 ?_
      rw [rounds_succ]
      go_wp2
      rw [rounds_succ]
      go_wp2
      try (rw [rounds_succ]; go_wp2)
      go_ret
      exact ⟨rfl, hb⟩
set_option maxRecDepth 100000 in
theorem frameTurned (f : Fr) (v : Int) (w : World) : Calls Try.prog 27 #[f.val, .int .i64 v] w fun e w' => e = .returned (f.turn v).val ∧ Below w.heap.size w w' := by
  by_cases h1 : v = 1
  · subst h1
    go_enter Try.func27, Try.ntmps27
    unfold Fr.val Fr.cells
    go_wp2
    exact bodyPost_ret (v := (f.turn 1).val) (by simp [results, Try.results27, go_sem, Fr.val, Fr.cells, Fr.turn]) rfl ⟨rfl, ((Below.refl _ _).alloc (Nat.le_refl _) _).alloc (by simp) _⟩
  · have hq : (v == 1) = false := by simpa using h1
    go_enter Try.func27, Try.ntmps27
    unfold Fr.val Fr.cells
    go_wp2
    exact bodyPost_ret (v := (f.turn v).val) (by simp [results, Try.results27, go_sem, Fr.val, Fr.cells, Fr.turn, h1]) rfl ⟨rfl, ((Below.refl _ _).alloc (Nat.le_refl _) _).alloc (by simp) _⟩
end Go.Proofs.Ytlbhfkiihikimaa
