/-
  Hear: walked.
-/
import Derived.Test.YtdpnmmeecnconaaDtLead
namespace Go.Proofs.Ytdpnmmeecnconaa
open Go.RowKit Go.Shelf
attribute [local go_sem] Oper.semAt_some
set_option linter.unusedVariables false
set_option linter.unusedSimpArgs false

theorem new_cell (w : World) (a : Addr) (u : Value) (C : Array Value) (T : TypeId) (j : Nat) (v : Value) (h : C[j]? = some v) : ((w.setCell a u).alloc (.cells C T)).drew.cell? ⟨w.heap.size, j, none⟩ = some v := by
  have h1 := World.alloc_heap_new (w.setCell a u) (.cells C T)
  rw [World.size_setCell] at h1
  show ((w.setCell a u).alloc (.cells C T)).cell? ⟨w.heap.size, j, none⟩ = some v
  simp only [World.cell?, h1]
  simpa using h
namespace Dt
def timelyI (D : Dt) (t : Nat) : Bool := decide (D.timely t)
/-- The detector to which a time was told. -/
def at' (D : Dt) (t : Nat) : Dt := { D with now := t }
theorem at_ok {D : Dt} (h : D.Ok) (t : Nat) (ht : D.timely t) : (D.at' t).Ok := ⟨h.me, h.self, h.out, fun x hx => Nat.le_trans (h.last x hx) ht.1, h.few, h.most', h.step', ht.2⟩
theorem row_setD {B : Nat} {W : World} {c : Array Value} {t : TypeId} (h : W.heap[B]? = some (.cells c t (0, 0))) (j : Nat) (u : Value) : (W.setCell ⟨B, j, none⟩ u).heap[B]? = some (.cells (c.setIfInBounds j u) t (0, 0)) := by
  simp only [World.setCell, Array.getElem?_modify, if_true]
  rw [h]
  simp
theorem Is.tell {D : Dt} {B M : Nat} {w : World} (h : Is D B M w) (t : Nat) (ht : D.timely t) : Turns (D.at' t) B M w (w.setCell ⟨B, 3, none⟩ (.int .u64 (t : Int))) :=
  ⟨⟨(row_setD h.row 3 _).trans (by simp [cells, at']), (Below.heap_setCell w ⟨B, 3, none⟩ _ M (fun e => h.ne e.symm)).trans h.map, h.ne, at_ok h.ok t ht⟩, (Save.refl _ w).setCell ⟨B, 3, none⟩ _ (.inl (.inl rfl))⟩
theorem Is.aside {D : Dt} {B M : Nat} {w : World} (h : Is D B M w) {P j : Nat} (v : Value) (hB : B ≠ P) (hM : M ≠ P) : Is D B M (w.setCell ⟨P, j, none⟩ v) := h.keep (Below.heap_setCell w ⟨P, j, none⟩ v B hB) (Below.heap_setCell w ⟨P, j, none⟩ v M hM)
theorem Is.lay {D : Dt} {B M : Nat} {w : World} (h : Is D B M w) (k : Nat) (x : Nd) (hok : ({ D with nodes := D.nodes.set k x } : Dt).Ok) : Turns { D with nodes := D.nodes.set k x } B M w (w.putObj M (mapL (D.nodes.set k x))) :=
  ⟨⟨(World.putObj_heap_other (fun e => h.ne e)).trans h.row, World.putObj_heap_same h.ltM, h.ne, hok⟩, (Save.refl _ w).put M _ (.inl (.inr rfl))⟩
def hearS (D : Dt) (k : Int) (t : Nat) : Dt := if D.hearE k t = 0 then D.hear k.toNat t else D
end Dt
set_option maxRecDepth 100000 in
set_option maxHeartbeats 1000000 in
theorem dtHearNo (D : Dt) (B M : Nat) (k : Int) (t : Nat) (w : World) (h : Dt.Is D B M w) (hk : ¬ (0 ≤ k ∧ k < (D.nodes.length : Int))) : Calls Try.prog 10 #[.pointer (some ⟨B, 0, none⟩), .int .i64 k, .int .u64 (t : Int)] w fun e w' =>
    e = .returned (.int .i64 2) ∧ Below w.heap.size w w' := by
  have h4 : w.cell? ⟨B, 4, none⟩ = some (.map (some M)) := h.cell 4 _ rfl
  have hlen := h.lenMap
  have hfew := h.ok.few
  have hw : IntKind.i64.wrap ((D.nodes.length : Int) - 1) = (D.nodes.length : Int) - 1 := IntWalk.i64_in _ (by omega)
  have hB := h.lt
  have HT := Lib.hid (show rises [0, k, (D.nodes.length : Int) - 1] = false from by
    rw [rises_three, ← Bool.decide_and]
    exact decide_eq_false (by omega))
  clear h hk
  generalize D.nodes.length = n at *
  go_enter Try.func10, Try.ntmps10
  go_wp2_with (go_at_call 19; refine (dtRisingI [0, k, (n : Int) - 1] _ _ _ (by simp) (row_three _ _ _ _ _ _) (by simp) (by simp)).mono ?_; rintro e w1 ⟨rfl, hb⟩; have hr := HT.out)
  go_ret
  exact ⟨rfl, ((Below.refl _ w).alloc (Nat.le_refl _) _).trans (hb.mono (by simp))⟩
set_option maxRecDepth 100000 in
set_option maxHeartbeats 1000000 in
theorem dtHearLate (D : Dt) (B M : Nat) (k : Int) (t : Nat) (w : World) (h : Dt.Is D B M w) (hk : 0 ≤ k ∧ k < (D.nodes.length : Int)) (ht : ¬ D.timely t) : Calls Try.prog 10 #[.pointer (some ⟨B, 0, none⟩), .int .i64 k, .int .u64 (t : Int)] w fun e w' =>
    e = .returned (.int .i64 70) ∧ Below w.heap.size w w' := by
  have h4 : w.cell? ⟨B, 4, none⟩ = some (.map (some M)) := h.cell 4 _ rfl
  have hlen := h.lenMap
  have hfew := h.ok.few
  have hw : IntKind.i64.wrap ((D.nodes.length : Int) - 1) = (D.nodes.length : Int) - 1 := IntWalk.i64_in _ (by omega)
  have hB := h.lt
  have HT := Lib.hid (show rises [0, k, (D.nodes.length : Int) - 1] = true from by
    rw [rises_three, ← Bool.decide_and]
    exact decide_eq_true (by omega))
  have HC := Lib.hid (fun (W : World) (hb : Below w.heap.size w W) => dtComes D B M t W (h.below hb))
  have hd : decide (D.timely t) = false := decide_eq_false ht
  clear h hk ht
  generalize D.nodes.length = n at *
  generalize decide (D.timely t) = R at *
  subst hd
  go_enter Try.func10, Try.ntmps10
  go_wp2_with (first
    | (go_at_call 19; refine (dtRisingI [0, k, (n : Int) - 1] _ _ _ (by simp) (row_three _ _ _ _ _ _) (by simp) (by simp)).mono ?_; rintro e w1 ⟨rfl, hb⟩; have hr := HT.out; have hb1 := ((Below.refl _ w).alloc (Nat.le_refl _) _).trans (hb.mono (by simp)); clear hb)
    | (go_at_call 16; refine (HC.out _ hb1).mono ?_; rintro e w2 ⟨rfl, hb2⟩))
  go_ret
  exact ⟨rfl, hb1.trans (hb2.mono hb1.size)⟩
set_option maxRecDepth 100000 in
set_option maxHeartbeats 1000000 in
theorem dtHearFree (D : Dt) (B M : Nat) (k : Nat) (t xl xo : Nat) (w : World) (h : Dt.Is D B M w) (hx : D.nodes[k]? = some ⟨xl, xo, false⟩) (ht : D.timely t) : Calls Try.prog 10 #[.pointer (some ⟨B, 0, none⟩), .int .i64 (k : Int), .int .u64 (t : Int)] w fun e w' =>
    e = .returned (.int .i64 0) ∧ Dt.Turns (D.hear k t) B M w w' := by
  have h4 : w.cell? ⟨B, 4, none⟩ = some (.map (some M)) := h.cell 4 _ rfl
  have hlen := h.lenMap
  have hfew := h.ok.few
  have hw : IntKind.i64.wrap ((D.nodes.length : Int) - 1) = (D.nodes.length : Int) - 1 := IntWalk.i64_in _ (by omega)
  have hB := h.lt
  have hk : k < D.nodes.length := (List.getElem?_eq_some_iff.1 hx).1
  have hxe : D.nodes[k] = ⟨xl, xo, false⟩ := (List.getElem?_eq_some_iff.1 hx).2
  have hxo := h.ok.out _ (List.mem_of_getElem? hx)
  have hmo := h.ok.most'
  have hst := h.ok.step'
  dsimp only at hxo
  unfold Dt.maxTime at hmo hst
  have HT := Lib.hid (show rises [0, (k : Int), (D.nodes.length : Int) - 1] = true from by
    rw [rises_three, ← Bool.decide_and]
    exact decide_eq_true (by omega))
  have HC := Lib.hid (fun (W : World) (hb : Below w.heap.size w W) => dtComes D B M t W (h.below hb))
  have HI := Lib.hid (fun (W : World) (hb : Below w.heap.size w W) => (h.below hb).tell t ht)
  have HLK := Lib.hid (fun (W : World) (hI : Dt.Is (D.at' t) B M W) => show (Instr.lookup 46 (.map (some M)) (.int .i64 (k : Int)) false).run Try.prog W = .ok (.agg #[.int .u64 (xl : Int), .int .u64 (xo : Int), .bool false]) W from by
    have := Dt.look hI.map k (show k < (D.at' t).nodes.length from hk)
    rw [show (D.at' t).nodes[k]'(show k < (D.at' t).nodes.length from hk) = ⟨xl, xo, false⟩ from hxe] at this
    exact this)
  have hset : (D.hear k t).nodes = D.nodes.set k ⟨t, xo, false⟩ := by
    apply List.ext_getElem?
    intro i
    simp only [Dt.hear, List.getElem?_modify, List.getElem?_set]
    by_cases hi : k = i
    · subst hi
      rw [hx]
      simp [Dt.heard, hk]
    · simp [hi]
  obtain ⟨O, hO⟩ : ∃ O, Dt.mapL (D.nodes.set k ⟨t, xo, false⟩) = O := ⟨_, rfl⟩
  have HS := Lib.hid (fun (W : World) (hI : Dt.Is (D.at' t) B M W) => show (Instr.mapUpdate 46 (.map (some M)) (.int .i64 (k : Int)) (.agg #[.int .u64 (t : Int), .int .u64 ((xo : Nat) : Int), .bool false])).run Try.prog W = .ok () (W.putObj M O) from by
    have := Dt.put hI.map k (show k < (D.at' t).nodes.length from hk) ⟨t, xo, false⟩
    rw [← hO]
    exact this)
  have HE := Lib.hid (fun (W : World) (hI : Dt.Is (D.at' t) B M W) => show Dt.Turns (D.hear k t) B M W (W.putObj M O) from by
    have e : D.hear k t = { (D.at' t) with nodes := (D.at' t).nodes.set k ⟨t, xo, false⟩ } := by
      rw [show (D.at' t).nodes.set k _ = _ from hset.symm]; rfl
    rw [e, ← hO]
    exact hI.lay k _ (e ▸ Dt.hear_ok h.ok k t ht))
  have hd : decide (D.timely t) = true := decide_eq_true ht
  have HH := Lib.hid h
  have HX := Lib.hid (fun (W : World) (hI : Dt.Is (D.at' t) B M W) (C : Array Value) => show Dt.Is (D.at' t) B M ((W.alloc (.cells C 51)).drew) from hI.below (((Below.refl _ W).alloc (Nat.le_refl _) _).drew))
  clear h hxe hx hk ht hset hO
  generalize D.nodes.length = n at *
  generalize hgs : decide (D.timely t) = R at *
  subst hd
  clear hgs
  go_enter Try.func10, Try.ntmps10
  go_wp2_with (first
    | (go_at_call 19; refine (dtRisingI [0, (k : Int), (n : Int) - 1] _ _ _ (by simp) (row_three _ _ _ _ _ _) (by simp) (by simp)).mono ?_; rintro e w1 ⟨rfl, hb⟩; have hr := HT.out; have hb1 := ((Below.refl _ w).alloc (Nat.le_refl _) _).trans (hb.mono (by simp)); clear hb)
    | (go_at_call 16; refine (HC.out _ hb1).mono ?_; rintro e w2 ⟨rfl, hb2⟩; have hbb := hb1.trans (hb2.mono hb1.size); have hI1 := HI.out w2 hbb; have p3 : w2.cell? ⟨B, 3, none⟩ = some (.int .u64 (D.now : Int)) := (HH.out.below hbb).cell 3 _ rfl; have q3 : w2.frozen? ⟨B, 3, none⟩ = false := (HH.out.below hbb).thawed 3; have q4 : (w2.setCell ⟨B, 3, none⟩ (.int .u64 (t : Int))).cell? ⟨B, 4, none⟩ = some (.map (some M)) := hI1.1.cell 4 _ rfl; have hlk := HLK.out _ hI1.1))
  have hIx := HX.out _ hI1.1 #[.int .u64 (t : Int), .int .u64 (xo : Int), .bool false]
  have hTx : Save (Dt.Own B M) w2 ((w2.setCell ⟨B, 3, none⟩ (.int .u64 (t : Int))).alloc (.cells #[.int .u64 (t : Int), .int .u64 (xo : Int), .bool false] 51)).drew := hI1.2.trans (Save.of_below ((Below.refl _ _).alloc (Nat.le_refl _) _).drew)
  have y0 : ((w2.setCell ⟨B, 3, none⟩ (.int .u64 (t : Int))).alloc (.cells #[.int .u64 (t : Int), .int .u64 (xo : Int), .bool false] 51)).drew.cell? ⟨w2.heap.size, 0, none⟩ = some (.int .u64 (t : Int)) := new_cell w2 _ _ _ _ 0 _ rfl
  have y1 : ((w2.setCell ⟨B, 3, none⟩ (.int .u64 (t : Int))).alloc (.cells #[.int .u64 (t : Int), .int .u64 (xo : Int), .bool false] 51)).drew.cell? ⟨w2.heap.size, 1, none⟩ = some (.int .u64 (xo : Int)) := new_cell w2 _ _ _ _ 1 _ rfl
  have y2 : ((w2.setCell ⟨B, 3, none⟩ (.int .u64 (t : Int))).alloc (.cells #[.int .u64 (t : Int), .int .u64 (xo : Int), .bool false] 51)).drew.cell? ⟨w2.heap.size, 2, none⟩ = some (.bool false) := new_cell w2 _ _ _ _ 2 _ rfl
  generalize (w2.setCell ⟨B, 3, none⟩ (.int .u64 (t : Int))).alloc (.cells #[.int .u64 (t : Int), .int .u64 (xo : Int), .bool false] 51) = V at *
  have x4 : V.drew.cell? ⟨B, 4, none⟩ = some (.map (some M)) := hIx.cell 4 _ rfl
  have hup := HS.out _ hIx
  have hEnd := HE.out _ hIx
  clear q4 hlk p3 q3 hI1
  go_still_tail 6, (by kernel_rfl)
  change wpList _ _ _ _ _ V.drew
  go_wp2
  go_ret
  exact ⟨rfl, hEnd.1, (Save.of_below (hb1.trans (hb2.mono hb1.size))).trans (hTx.trans hEnd.2)⟩
set_option maxRecDepth 100000 in
set_option maxHeartbeats 1000000 in
theorem dtHearSusA (D : Dt) (B M : Nat) (k : Nat) (t xl xo : Nat) (w : World) (h : Dt.Is D B M w) (hx : D.nodes[k]? = some ⟨xl, xo, true⟩) (hm : D.most < xo + D.step) (ht : D.timely t) : Calls Try.prog 10 #[.pointer (some ⟨B, 0, none⟩), .int .i64 (k : Int), .int .u64 (t : Int)] w fun e w' =>
    e = .returned (.int .i64 0) ∧ Dt.Turns (D.hear k t) B M w w' := by
  have h4 : w.cell? ⟨B, 4, none⟩ = some (.map (some M)) := h.cell 4 _ rfl
  have hlen := h.lenMap
  have hfew := h.ok.few
  have hw : IntKind.i64.wrap ((D.nodes.length : Int) - 1) = (D.nodes.length : Int) - 1 := IntWalk.i64_in _ (by omega)
  have hB := h.lt
  have hk : k < D.nodes.length := (List.getElem?_eq_some_iff.1 hx).1
  have hxe : D.nodes[k] = ⟨xl, xo, true⟩ := (List.getElem?_eq_some_iff.1 hx).2
  have hxo := h.ok.out _ (List.mem_of_getElem? hx)
  have hmo := h.ok.most'
  have hst := h.ok.step'
  dsimp only at hxo
  unfold Dt.maxTime at hmo hst
  have HT := Lib.hid (show rises [0, (k : Int), (D.nodes.length : Int) - 1] = true from by
    rw [rises_three, ← Bool.decide_and]
    exact decide_eq_true (by omega))
  have HC := Lib.hid (fun (W : World) (hb : Below w.heap.size w W) => dtComes D B M t W (h.below hb))
  have HI := Lib.hid (fun (W : World) (hb : Below w.heap.size w W) => (h.below hb).tell t ht)
  have HLK := Lib.hid (fun (W : World) (hI : Dt.Is (D.at' t) B M W) => show (Instr.lookup 46 (.map (some M)) (.int .i64 (k : Int)) false).run Try.prog W = .ok (.agg #[.int .u64 (xl : Int), .int .u64 (xo : Int), .bool true]) W from by
    have := Dt.look hI.map k (show k < (D.at' t).nodes.length from hk)
    rw [show (D.at' t).nodes[k]'(show k < (D.at' t).nodes.length from hk) = ⟨xl, xo, true⟩ from hxe] at this
    exact this)
  have hset : (D.hear k t).nodes = D.nodes.set k ⟨t, D.most, false⟩ := by
    apply List.ext_getElem?
    intro i
    simp only [Dt.hear, List.getElem?_modify, List.getElem?_set]
    by_cases hi : k = i
    · subst hi
      rw [hx]
      simp [Dt.heard, hk, Nat.min_eq_left (Nat.le_of_lt hm)]
    · simp [hi]
  obtain ⟨O, hO⟩ : ∃ O, Dt.mapL (D.nodes.set k ⟨t, D.most, false⟩) = O := ⟨_, rfl⟩
  have HS := Lib.hid (fun (W : World) (hI : Dt.Is (D.at' t) B M W) => show (Instr.mapUpdate 46 (.map (some M)) (.int .i64 (k : Int)) (.agg #[.int .u64 (t : Int), .int .u64 ((D.most : Nat) : Int), .bool false])).run Try.prog W = .ok () (W.putObj M O) from by
    have := Dt.put hI.map k (show k < (D.at' t).nodes.length from hk) ⟨t, D.most, false⟩
    rw [← hO]
    exact this)
  have HE := Lib.hid (fun (W : World) (hI : Dt.Is (D.at' t) B M W) => show Dt.Turns (D.hear k t) B M W (W.putObj M O) from by
    have e : D.hear k t = { (D.at' t) with nodes := (D.at' t).nodes.set k ⟨t, D.most, false⟩ } := by
      rw [show (D.at' t).nodes.set k _ = _ from hset.symm]; rfl
    rw [e, ← hO]
    exact hI.lay k _ (e ▸ Dt.hear_ok h.ok k t ht))
  have hd : decide (D.timely t) = true := decide_eq_true ht
  have HH := Lib.hid h
  have HX := Lib.hid (fun (W : World) (hI : Dt.Is (D.at' t) B M W) (C : Array Value) => show Dt.Is (D.at' t) B M ((W.alloc (.cells C 51)).drew) from hI.below (((Below.refl _ W).alloc (Nat.le_refl _) _).drew))
  have hmi : (D.most : Int) < (xo : Int) + (D.step : Int) := by omega
  clear h hxe hx hk ht hset hO hm
  generalize D.nodes.length = n at *
  generalize hgs : decide (D.timely t) = R at *
  subst hd
  clear hgs
  go_enter Try.func10, Try.ntmps10
  go_wp2_with (first
    | (go_at_call 19; refine (dtRisingI [0, (k : Int), (n : Int) - 1] _ _ _ (by simp) (row_three _ _ _ _ _ _) (by simp) (by simp)).mono ?_; rintro e w1 ⟨rfl, hb⟩; have hr := HT.out; have hb1 := ((Below.refl _ w).alloc (Nat.le_refl _) _).trans (hb.mono (by simp)); clear hb)
    | (go_at_call 16; refine (HC.out _ hb1).mono ?_; rintro e w2 ⟨rfl, hb2⟩; have hbb := hb1.trans (hb2.mono hb1.size); have hI1 := HI.out w2 hbb; have p3 : w2.cell? ⟨B, 3, none⟩ = some (.int .u64 (D.now : Int)) := (HH.out.below hbb).cell 3 _ rfl; have q3 : w2.frozen? ⟨B, 3, none⟩ = false := (HH.out.below hbb).thawed 3; have q4 : (w2.setCell ⟨B, 3, none⟩ (.int .u64 (t : Int))).cell? ⟨B, 4, none⟩ = some (.map (some M)) := hI1.1.cell 4 _ rfl; have hlk := HLK.out _ hI1.1))
  have hIx := HX.out _ hI1.1 #[.int .u64 (xl : Int), .int .u64 (xo : Int), .bool true]
  have hTx : Save (Dt.Own B M) w2 ((w2.setCell ⟨B, 3, none⟩ (.int .u64 (t : Int))).alloc (.cells #[.int .u64 (xl : Int), .int .u64 (xo : Int), .bool true] 51)).drew := hI1.2.trans (Save.of_below ((Below.refl _ _).alloc (Nat.le_refl _) _).drew)
  have y := (World.alloc_heap_new (w2.setCell ⟨B, 3, none⟩ (.int .u64 (t : Int))) (.cells #[.int .u64 (xl : Int), .int .u64 (xo : Int), .bool true] 51))
  rw [World.size_setCell] at y
  generalize (w2.setCell ⟨B, 3, none⟩ (.int .u64 (t : Int))).alloc (.cells #[.int .u64 (xl : Int), .int .u64 (xo : Int), .bool true] 51) = V at *
  have hIx0 : Dt.Is (D.at' t) B M V := hIx.keep rfl rfl
  have hPB : B ≠ w2.heap.size ∧ M ≠ w2.heap.size := by
    have h1 := (HH.out.below hbb).lt
    have h2 := (HH.out.below hbb).ltM
    omega
  have x1 : V.drew.cell? ⟨B, 1, none⟩ = some (.int .u64 (D.step : Int)) := hIx.cell 1 _ rfl
  have x2 : V.drew.cell? ⟨B, 2, none⟩ = some (.int .u64 (D.most : Int)) := hIx.cell 2 _ rfl
  have y' : V.drew.heap[w2.heap.size]? = some (.cells #[.int .u64 (xl : Int), .int .u64 (xo : Int), .bool true] 51 (0, 0)) := y
  have y1 : V.drew.cell? ⟨w2.heap.size, 1, none⟩ = some (.int .u64 (xo : Int)) := by simp [World.cell?, y']
  have yf : V.drew.frozen? ⟨w2.heap.size, 1, none⟩ = false := by simp [World.frozen?, y']
  have z0 : V.cell? ⟨w2.heap.size, 0, none⟩ = some (.int .u64 (xl : Int)) := by simp [World.cell?, y]
  have zf0 : V.frozen? ⟨w2.heap.size, 0, none⟩ = false := by simp [World.frozen?, y]
  have z2 : V.cell? ⟨w2.heap.size, 2, none⟩ = some (.bool true) := by simp [World.cell?, y]
  have zf2 : V.frozen? ⟨w2.heap.size, 2, none⟩ = false := by simp [World.frozen?, y]
  have y0 : V.drew.cell? ⟨w2.heap.size, 0, none⟩ = some (.int .u64 (xl : Int)) := by simp [World.cell?, y']
  have yf0 : V.drew.frozen? ⟨w2.heap.size, 0, none⟩ = false := by simp [World.frozen?, y']
  have y2 : V.drew.cell? ⟨w2.heap.size, 2, none⟩ = some (.bool true) := by simp [World.cell?, y']
  have yf2 : V.drew.frozen? ⟨w2.heap.size, 2, none⟩ = false := by simp [World.frozen?, y']
  have hwr : IntKind.u64.wrap ((xo : Int) + (D.step : Int)) = (xo : Int) + (D.step : Int) := IntWalk.u64_in _ (by omega)
  clear q4 hlk p3 q3 hI1 hmo hst hxo
  go_still_tail 12, (by kernel_rfl)
  change wpList _ _ _ _ _ V.drew
  go_wp2
  have r1 := Dt.row_setD (Dt.row_setD (Dt.row_setD y 1 (.int .u64 (D.most : Int))) 0 (.int .u64 (t : Int))) 2 (.bool false)
  have hI2 : Dt.Is (D.at' t) B M (((V.setCell ⟨w2.heap.size, 1, none⟩ (.int .u64 (D.most : Int))).setCell ⟨w2.heap.size, 0, none⟩ (.int .u64 (t : Int))).setCell ⟨w2.heap.size, 2, none⟩ (.bool false)) :=
    ((hIx0.aside _ hPB.1 hPB.2).aside _ hPB.1 hPB.2).aside _ hPB.1 hPB.2
  have hT2 : Save (Dt.Own B M) w2 (((V.setCell ⟨w2.heap.size, 1, none⟩ (.int .u64 (D.most : Int))).setCell ⟨w2.heap.size, 0, none⟩ (.int .u64 (t : Int))).setCell ⟨w2.heap.size, 2, none⟩ (.bool false)) :=
    (((show Save (Dt.Own B M) w2 V from ⟨hTx.os, hTx.tape, hTx.output, hTx.size, hTx.block⟩).setCell ⟨w2.heap.size, 1, none⟩ _ (.inr (Nat.le_refl _))).setCell ⟨w2.heap.size, 0, none⟩ _ (.inr (Nat.le_refl _))).setCell ⟨w2.heap.size, 2, none⟩ _ (.inr (Nat.le_refl _))
  generalize ((V.setCell ⟨w2.heap.size, 1, none⟩ (.int .u64 (D.most : Int))).setCell ⟨w2.heap.size, 0, none⟩ (.int .u64 (t : Int))).setCell ⟨w2.heap.size, 2, none⟩ (.bool false) = V2 at *
  generalize hV3 : V2.drew = V3 at *
  have r3 : V3.drew.heap[w2.heap.size]? = some (.cells #[.int .u64 (t : Int), .int .u64 (D.most : Int), .bool false] 51 (0, 0)) := by rw [← hV3]; exact r1
  have hI3 : Dt.Is (D.at' t) B M V3.drew := by rw [← hV3]; exact hI2.keep rfl rfl
  have hT3 : Save (Dt.Own B M) w2 V3.drew := by rw [← hV3]; exact ⟨hT2.os, hT2.tape, hT2.output, hT2.size, hT2.block⟩
  clear r1 hI2 hT2 hV3 x1 x2 y y' y1 yf y0 yf0 y2 yf2 z0 zf0 z2 zf2 hTx hIx
  have x4 : V3.drew.cell? ⟨B, 4, none⟩ = some (.map (some M)) := hI3.cell 4 _ rfl
  have y0 : V3.drew.cell? ⟨w2.heap.size, 0, none⟩ = some (.int .u64 (t : Int)) := by simp [World.cell?, r3]
  have y1 : V3.drew.cell? ⟨w2.heap.size, 1, none⟩ = some (.int .u64 (D.most : Int)) := by simp [World.cell?, r3]
  have y2 : V3.drew.cell? ⟨w2.heap.size, 2, none⟩ = some (.bool false) := by simp [World.cell?, r3]
  have hup := HS.out _ hI3
  have hEnd := HE.out _ hI3
  clear r3 hI3
  go_still_tail 6, (by kernel_rfl)
  change wpList _ _ _ _ _ V3.drew
  go_wp2
  go_ret
  exact ⟨rfl, hEnd.1, (Save.of_below (hb1.trans (hb2.mono hb1.size))).trans (hT3.trans hEnd.2)⟩
set_option maxRecDepth 100000 in
set_option maxHeartbeats 1000000 in
theorem dtHearSusB (D : Dt) (B M : Nat) (k : Nat) (t xl xo : Nat) (w : World) (h : Dt.Is D B M w) (hx : D.nodes[k]? = some ⟨xl, xo, true⟩) (hm : ¬ D.most < xo + D.step) (ht : D.timely t) : Calls Try.prog 10 #[.pointer (some ⟨B, 0, none⟩), .int .i64 (k : Int), .int .u64 (t : Int)] w fun e w' =>
    e = .returned (.int .i64 0) ∧ Dt.Turns (D.hear k t) B M w w' := by
  have h4 : w.cell? ⟨B, 4, none⟩ = some (.map (some M)) := h.cell 4 _ rfl
  have hlen := h.lenMap
  have hfew := h.ok.few
  have hw : IntKind.i64.wrap ((D.nodes.length : Int) - 1) = (D.nodes.length : Int) - 1 := IntWalk.i64_in _ (by omega)
  have hB := h.lt
  have hk : k < D.nodes.length := (List.getElem?_eq_some_iff.1 hx).1
  have hxe : D.nodes[k] = ⟨xl, xo, true⟩ := (List.getElem?_eq_some_iff.1 hx).2
  have hxo := h.ok.out _ (List.mem_of_getElem? hx)
  have hmo := h.ok.most'
  have hst := h.ok.step'
  dsimp only at hxo
  unfold Dt.maxTime at hmo hst
  have HT := Lib.hid (show rises [0, (k : Int), (D.nodes.length : Int) - 1] = true from by
    rw [rises_three, ← Bool.decide_and]
    exact decide_eq_true (by omega))
  have HC := Lib.hid (fun (W : World) (hb : Below w.heap.size w W) => dtComes D B M t W (h.below hb))
  have HI := Lib.hid (fun (W : World) (hb : Below w.heap.size w W) => (h.below hb).tell t ht)
  have HLK := Lib.hid (fun (W : World) (hI : Dt.Is (D.at' t) B M W) => show (Instr.lookup 46 (.map (some M)) (.int .i64 (k : Int)) false).run Try.prog W = .ok (.agg #[.int .u64 (xl : Int), .int .u64 (xo : Int), .bool true]) W from by
    have := Dt.look hI.map k (show k < (D.at' t).nodes.length from hk)
    rw [show (D.at' t).nodes[k]'(show k < (D.at' t).nodes.length from hk) = ⟨xl, xo, true⟩ from hxe] at this
    exact this)
  have hset : (D.hear k t).nodes = D.nodes.set k ⟨t, xo + D.step, false⟩ := by
    apply List.ext_getElem?
    intro i
    simp only [Dt.hear, List.getElem?_modify, List.getElem?_set]
    by_cases hi : k = i
    · subst hi
      rw [hx]
      simp [Dt.heard, hk, Nat.min_eq_right (Nat.le_of_not_lt hm)]
    · simp [hi]
  obtain ⟨O, hO⟩ : ∃ O, Dt.mapL (D.nodes.set k ⟨t, xo + D.step, false⟩) = O := ⟨_, rfl⟩
  have HS := Lib.hid (fun (W : World) (hI : Dt.Is (D.at' t) B M W) => show (Instr.mapUpdate 46 (.map (some M)) (.int .i64 (k : Int)) (.agg #[.int .u64 (t : Int), .int .u64 ((xo : Int) + (D.step : Int)), .bool false])).run Try.prog W = .ok () (W.putObj M O) from by
    have := Dt.put hI.map k (show k < (D.at' t).nodes.length from hk) ⟨t, xo + D.step, false⟩
    rw [← hO]
    exact this)
  have HE := Lib.hid (fun (W : World) (hI : Dt.Is (D.at' t) B M W) => show Dt.Turns (D.hear k t) B M W (W.putObj M O) from by
    have e : D.hear k t = { (D.at' t) with nodes := (D.at' t).nodes.set k ⟨t, xo + D.step, false⟩ } := by
      rw [show (D.at' t).nodes.set k _ = _ from hset.symm]; rfl
    rw [e, ← hO]
    exact hI.lay k _ (e ▸ Dt.hear_ok h.ok k t ht))
  have hd : decide (D.timely t) = true := decide_eq_true ht
  have HH := Lib.hid h
  have HX := Lib.hid (fun (W : World) (hI : Dt.Is (D.at' t) B M W) (C : Array Value) => show Dt.Is (D.at' t) B M ((W.alloc (.cells C 51)).drew) from hI.below (((Below.refl _ W).alloc (Nat.le_refl _) _).drew))
  have hmi : ¬ (D.most : Int) < (xo : Int) + (D.step : Int) := by omega
  clear h hxe hx hk ht hset hO hm
  generalize D.nodes.length = n at *
  generalize hgs : decide (D.timely t) = R at *
  subst hd
  clear hgs
  go_enter Try.func10, Try.ntmps10
  go_wp2_with (first
    | (go_at_call 19; refine (dtRisingI [0, (k : Int), (n : Int) - 1] _ _ _ (by simp) (row_three _ _ _ _ _ _) (by simp) (by simp)).mono ?_; rintro e w1 ⟨rfl, hb⟩; have hr := HT.out; have hb1 := ((Below.refl _ w).alloc (Nat.le_refl _) _).trans (hb.mono (by simp)); clear hb)
    | (go_at_call 16; refine (HC.out _ hb1).mono ?_; rintro e w2 ⟨rfl, hb2⟩; have hbb := hb1.trans (hb2.mono hb1.size); have hI1 := HI.out w2 hbb; have p3 : w2.cell? ⟨B, 3, none⟩ = some (.int .u64 (D.now : Int)) := (HH.out.below hbb).cell 3 _ rfl; have q3 : w2.frozen? ⟨B, 3, none⟩ = false := (HH.out.below hbb).thawed 3; have q4 : (w2.setCell ⟨B, 3, none⟩ (.int .u64 (t : Int))).cell? ⟨B, 4, none⟩ = some (.map (some M)) := hI1.1.cell 4 _ rfl; have hlk := HLK.out _ hI1.1))
  have hIx := HX.out _ hI1.1 #[.int .u64 (xl : Int), .int .u64 (xo : Int), .bool true]
  have hTx : Save (Dt.Own B M) w2 ((w2.setCell ⟨B, 3, none⟩ (.int .u64 (t : Int))).alloc (.cells #[.int .u64 (xl : Int), .int .u64 (xo : Int), .bool true] 51)).drew := hI1.2.trans (Save.of_below ((Below.refl _ _).alloc (Nat.le_refl _) _).drew)
  have y := (World.alloc_heap_new (w2.setCell ⟨B, 3, none⟩ (.int .u64 (t : Int))) (.cells #[.int .u64 (xl : Int), .int .u64 (xo : Int), .bool true] 51))
  rw [World.size_setCell] at y
  generalize (w2.setCell ⟨B, 3, none⟩ (.int .u64 (t : Int))).alloc (.cells #[.int .u64 (xl : Int), .int .u64 (xo : Int), .bool true] 51) = V at *
  have hIx0 : Dt.Is (D.at' t) B M V := hIx.keep rfl rfl
  have hPB : B ≠ w2.heap.size ∧ M ≠ w2.heap.size := by
    have h1 := (HH.out.below hbb).lt
    have h2 := (HH.out.below hbb).ltM
    omega
  have x1 : V.drew.cell? ⟨B, 1, none⟩ = some (.int .u64 (D.step : Int)) := hIx.cell 1 _ rfl
  have x2 : V.drew.cell? ⟨B, 2, none⟩ = some (.int .u64 (D.most : Int)) := hIx.cell 2 _ rfl
  have y' : V.drew.heap[w2.heap.size]? = some (.cells #[.int .u64 (xl : Int), .int .u64 (xo : Int), .bool true] 51 (0, 0)) := y
  have y1 : V.drew.cell? ⟨w2.heap.size, 1, none⟩ = some (.int .u64 (xo : Int)) := by simp [World.cell?, y']
  have yf : V.drew.frozen? ⟨w2.heap.size, 1, none⟩ = false := by simp [World.frozen?, y']
  have z0 : V.cell? ⟨w2.heap.size, 0, none⟩ = some (.int .u64 (xl : Int)) := by simp [World.cell?, y]
  have zf0 : V.frozen? ⟨w2.heap.size, 0, none⟩ = false := by simp [World.frozen?, y]
  have z2 : V.cell? ⟨w2.heap.size, 2, none⟩ = some (.bool true) := by simp [World.cell?, y]
  have zf2 : V.frozen? ⟨w2.heap.size, 2, none⟩ = false := by simp [World.frozen?, y]
  have y0 : V.drew.cell? ⟨w2.heap.size, 0, none⟩ = some (.int .u64 (xl : Int)) := by simp [World.cell?, y']
  have yf0 : V.drew.frozen? ⟨w2.heap.size, 0, none⟩ = false := by simp [World.frozen?, y']
  have y2 : V.drew.cell? ⟨w2.heap.size, 2, none⟩ = some (.bool true) := by simp [World.cell?, y']
  have yf2 : V.drew.frozen? ⟨w2.heap.size, 2, none⟩ = false := by simp [World.frozen?, y']
  have hwr : IntKind.u64.wrap ((xo : Int) + (D.step : Int)) = (xo : Int) + (D.step : Int) := IntWalk.u64_in _ (by omega)
  clear q4 hlk p3 q3 hI1 hmo hst hxo
  go_still_tail 12, (by kernel_rfl)
  change wpList _ _ _ _ _ V.drew
  go_wp2
  have r1 := Dt.row_setD (Dt.row_setD (Dt.row_setD y 1 (.int .u64 ((xo : Int) + (D.step : Int)))) 0 (.int .u64 (t : Int))) 2 (.bool false)
  have hI2 : Dt.Is (D.at' t) B M (((V.setCell ⟨w2.heap.size, 1, none⟩ (.int .u64 ((xo : Int) + (D.step : Int)))).setCell ⟨w2.heap.size, 0, none⟩ (.int .u64 (t : Int))).setCell ⟨w2.heap.size, 2, none⟩ (.bool false)) :=
    ((hIx0.aside _ hPB.1 hPB.2).aside _ hPB.1 hPB.2).aside _ hPB.1 hPB.2
  have hT2 : Save (Dt.Own B M) w2 (((V.setCell ⟨w2.heap.size, 1, none⟩ (.int .u64 ((xo : Int) + (D.step : Int)))).setCell ⟨w2.heap.size, 0, none⟩ (.int .u64 (t : Int))).setCell ⟨w2.heap.size, 2, none⟩ (.bool false)) :=
    (((show Save (Dt.Own B M) w2 V from ⟨hTx.os, hTx.tape, hTx.output, hTx.size, hTx.block⟩).setCell ⟨w2.heap.size, 1, none⟩ _ (.inr (Nat.le_refl _))).setCell ⟨w2.heap.size, 0, none⟩ _ (.inr (Nat.le_refl _))).setCell ⟨w2.heap.size, 2, none⟩ _ (.inr (Nat.le_refl _))
  generalize ((V.setCell ⟨w2.heap.size, 1, none⟩ (.int .u64 ((xo : Int) + (D.step : Int)))).setCell ⟨w2.heap.size, 0, none⟩ (.int .u64 (t : Int))).setCell ⟨w2.heap.size, 2, none⟩ (.bool false) = V2 at *
  generalize hV3 : V2.drew = V3 at *
  have r3 : V3.drew.heap[w2.heap.size]? = some (.cells #[.int .u64 (t : Int), .int .u64 ((xo : Int) + (D.step : Int)), .bool false] 51 (0, 0)) := by rw [← hV3]; exact r1
  have hI3 : Dt.Is (D.at' t) B M V3.drew := by rw [← hV3]; exact hI2.keep rfl rfl
  have hT3 : Save (Dt.Own B M) w2 V3.drew := by rw [← hV3]; exact ⟨hT2.os, hT2.tape, hT2.output, hT2.size, hT2.block⟩
  clear r1 hI2 hT2 hV3 x1 x2 y y' y1 yf y0 yf0 y2 yf2 z0 zf0 z2 zf2 hTx hIx
  have x4 : V3.drew.cell? ⟨B, 4, none⟩ = some (.map (some M)) := hI3.cell 4 _ rfl
  have y0 : V3.drew.cell? ⟨w2.heap.size, 0, none⟩ = some (.int .u64 (t : Int)) := by simp [World.cell?, r3]
  have y1 : V3.drew.cell? ⟨w2.heap.size, 1, none⟩ = some (.int .u64 ((xo : Int) + (D.step : Int))) := by simp [World.cell?, r3]
  have y2 : V3.drew.cell? ⟨w2.heap.size, 2, none⟩ = some (.bool false) := by simp [World.cell?, r3]
  have hup := HS.out _ hI3
  have hEnd := HE.out _ hI3
  clear r3 hI3
  go_still_tail 6, (by kernel_rfl)
  change wpList _ _ _ _ _ V3.drew
  go_wp2
  go_ret
  exact ⟨rfl, hEnd.1, (Save.of_below (hb1.trans (hb2.mono hb1.size))).trans (hT3.trans hEnd.2)⟩
/-- Hear. -/
theorem dtHear (D : Dt) (B M : Nat) (k : Int) (t : Nat) (w : World) (h : Dt.Is D B M w) : Calls Try.prog 10 #[.pointer (some ⟨B, 0, none⟩), .int .i64 k, .int .u64 (t : Int)] w fun e w' =>
    e = .returned (.int .i64 (D.hearE k t)) ∧ Dt.Turns (D.hearS k t) B M w w' := by
  by_cases hk : 0 ≤ k ∧ k < (D.nodes.length : Int)
  · by_cases ht : D.timely t
    · have e1 : D.hearE k t = 0 := by simp only [Dt.hearE, if_pos hk, if_pos ht]
      have e2 : D.hearS k t = D.hear k.toNat t := by rw [Dt.hearS, if_pos e1]
      rw [e1, e2]
      obtain ⟨j, rfl⟩ := Int.eq_ofNat_of_zero_le hk.1
      have hj : j < D.nodes.length := by omega
      rw [Int.toNat_natCast]
      obtain ⟨⟨xl, xo, xs⟩, hx⟩ : ∃ x, D.nodes[j]? = some x := ⟨_, List.getElem?_eq_getElem hj⟩
      cases xs with
      | false => exact dtHearFree D B M j t xl xo w h hx ht
      | true =>
        by_cases hm : D.most < xo + D.step
        · exact dtHearSusA D B M j t xl xo w h hx hm ht
        · exact dtHearSusB D B M j t xl xo w h hx hm ht
    · have e1 : D.hearE k t = 70 := by simp only [Dt.hearE, if_pos hk, if_neg ht]
      have e2 : D.hearS k t = D := by rw [Dt.hearS, e1]; rfl
      rw [e1, e2]
      exact (dtHearLate D B M k t w h hk ht).mono fun e w' ⟨he, hb⟩ => ⟨he, Dt.Turns.of_below h hb⟩
  · have e1 : D.hearE k t = 2 := by simp only [Dt.hearE, if_neg hk]
    have e2 : D.hearS k t = D := by rw [Dt.hearS, e1]; rfl
    rw [e1, e2]
    exact (dtHearNo D B M k t w h hk).mono fun e w' ⟨he, hb⟩ => ⟨he, Dt.Turns.of_below h hb⟩
theorem dtHearNil (k : Int) (t : Nat) (w : World) : Calls Try.prog 10 #[.pointer none, .int .i64 k, .int .u64 (t : Int)] w fun e w' => e = .returned (.int .i64 1) ∧ w = w' := by
  go_enter Try.func10, Try.ntmps10
  go_wp2
  go_ret
  exact ⟨rfl, rfl⟩
end Go.Proofs.Ytdpnmmeecnconaa
