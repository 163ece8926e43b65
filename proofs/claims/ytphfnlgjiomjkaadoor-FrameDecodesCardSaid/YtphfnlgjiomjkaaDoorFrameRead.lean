/-
  What frame.read and Decode come to.
-/
import Derived.Test.YtphfnlgjiomjkaaDoorFrameDec
import Derived.Test.YtphfnlgjiomjkaaDoorErrIs
import Derived.IntWalk
namespace Go.Proofs.YtphfnlgjiomjkaaDoor
open Go.RowKit Go.Shelf
attribute [local go_sem] Oper.semAt_some
set_option linter.unusedVariables false
set_option linter.unusedSimpArgs false
open Bytes

/-- The two errors of package frame lie where they were laid. -/
structure Errs (w : World) (a0 a1 : Addr) : Prop where
  v0 : w.cell? ⟨0, 0, none⟩ = some (.iface 107 (.pointer (some a0)))
  v1 : w.cell? ⟨1, 0, none⟩ = some (.iface 107 (.pointer (some a1)))
  ne : a0 ≠ a1
  b0 : ∃ c t, w.heap[a0.block]? = some (.cells c t (0, 0))
  b1 : ∃ c t, w.heap[a1.block]? = some (.cells c t (0, 0))
theorem Errs.below {w w' : World} {a0 a1 : Addr} {n : Nat} (h : Errs w a0 a1) (hb : Below n w w') (hn : w.heap.size ≤ n) : Errs w' a0 a1 := by
  obtain ⟨c0, t0, h0⟩ := h.b0
  obtain ⟨c1, t1, h1⟩ := h.b1
  exact ⟨(hb.cell (p := ⟨0, 0, none⟩) (Nat.lt_of_lt_of_le (lt_of_cell h.v0) hn)).trans h.v0, (hb.cell (p := ⟨1, 0, none⟩) (Nat.lt_of_lt_of_le (lt_of_cell h.v1) hn)).trans h.v1, h.ne,
    ⟨c0, t0, (hb.block _ (Nat.lt_of_lt_of_le (Array.getElem?_eq_some_iff.1 h0).1 hn)).trans h0⟩, ⟨c1, t1, (hb.block _ (Nat.lt_of_lt_of_le (Array.getElem?_eq_some_iff.1 h1).1 hn)).trans h1⟩⟩
abbrev errV (a : Addr) : Value := .iface 107 (.pointer (some a))
set_option maxRecDepth 100000 in
set_option maxHeartbeats 1000000 in
theorem readShort (b : ByteArray) (h : b.size < 2) (a0 a1 : Addr) (w : World) (L : Errs w a0 a1) : Calls Tryd.prog 12 #[.string b] w fun e w' =>
    e = .returned (.tuple #[Fr.nil.val, errV a1]) ∧ Below w.heap.size w w' := by
  have hd : decide ((b.size : Int) < 2) = true := by simp; omega
  have l1 : 1 < w.heap.size := lt_of_cell L.v1
  have v1 := L.v1
  go_enter Tryd.func12, Tryd.ntmps12
  go_wp2
  go_region
  all_goals go_wp2
  all_goals exact bodyPost_ret (v := .tuple #[Fr.nil.val, errV a1]) (by simp [results, Tryd.results12, go_sem, Fr.nil, Fr.val, Fr.cells]) rfl ⟨rfl, ((Below.refl _ _).alloc (Nat.le_refl _) _).drew⟩
/-- What read makes of bytes. -/
def readVal (l : List UInt8) (a0 a1 : Addr) : Value := if old l = true then .tuple #[Fr.nil.val, errV a0] else if good l = true then .tuple #[(fr l).val, .nilIface] else .tuple #[Fr.nil.val, errV a1]
theorem at_zero (b : ByteArray) (h : 0 < b.size) : b[0] = at' b.data.toList 0 := by
  rw [at', List.getD_eq_getElem?_getD, List.getElem?_eq_getElem (by simpa using h)]; rfl
theorem at_one (b : ByteArray) (h : 1 < b.size) : b[1] = at' b.data.toList 1 := by
  rw [at', List.getD_eq_getElem?_getD, List.getElem?_eq_getElem (by simpa using h)]; rfl
theorem wrap_byte (x : UInt8) : IntKind.i64.wrap (x.toNat : Int) = (x.toNat : Int) := IntWalk.i64_in _ (by have := x.toNat_lt; omega)
/- READ -/
set_option maxRecDepth 100000 in
set_option maxHeartbeats 4000000 in
theorem readOther (b : ByteArray) (h : 2 ≤ b.size) (h72 : at' b.data.toList 0 ≠ 72) (a0 a1 : Addr) (w : World) (L : Errs w a0 a1) : Calls Tryd.prog 12 #[.string b] w fun e w' =>
    e = .returned (.tuple #[Fr.nil.val, errV a1]) ∧ Below w.heap.size w w' := by
  have hd : decide ((b.size : Int) < 2) = false := by simp; omega
  have h1 : 1 < b.size := by omega
  have h0 : 0 < b.size := by omega
  have hi0 : (0 : Int) < (b.size : Int) := by omega
  have hi1 : (1 : Int) < (b.size : Int) := by omega
  rw [← at_zero b h0] at h72
  have hn : ¬ b[0].toNat = 72 := fun hx => h72 (UInt8.toNat_inj.1 hx)
  have HL := Lib.hid (fun W m hv => by rw [wrap_byte, wrap_byte]; exact hv.none _ _ (by omega) : ∀ W m, Vers W m → (Instr.lookup 64 (.map (some m)) (key2 (IntKind.i64.wrap (b[0].toNat : Int)) (IntKind.i64.wrap (b[1].toNat : Int))) true).run Tryd.prog W = .ok (.tuple #[.int .i64 0, .bool false]) W)
  have hq : ((b[0].toNat : Int) == 72) = false := by rw [beq_eq_false_iff_ne]; omega
  have ul : 0 < w.heap.size := lt_of_cell (p := ⟨0, 0, none⟩) L.v0
  have um : 1 < w.heap.size := lt_of_cell (p := ⟨1, 0, none⟩) L.v1
  clear h72 hn
  refine (callsIn_wide (n := 5)).1 ?_
  refine callsIn_of_wp Tryd.func12 rfl trivial ?_ rfl
  simp only [Tryd.ntmps12, List.size_toArray, List.length_cons, List.length_nil, Nat.reduceAdd, Nat.reduceSub, Array.replicate_succ, Array.replicate_zero, List.push_toArray, List.append_toArray, List.nil_append, List.cons_append]
  gi_wp2
  refine wpIn_region_any (by kernel_rfl) ?_
  change wpAnyIn _ _ _ _ _ _ 14 _ _ (w.alloc (.cells #[.int .i64 0, .int .i64 0, .int .i64 0, .int .i64 0, .int .u32 0, .int .u32 0, .int .u32 0, .int .u32 0, .string ⟨#[]⟩] 26)).drew
  refine wpAnyIn_lead wide_plain 1 (v := (.string b)) rfl (by kernel_rfl) (fun _ _ _ h => h) (Or.inl ⟨by rfl, fun Y => by go_simp⟩) ?_
  simp only [Act.put, List.setIfInBounds_toArray, List.set_cons_zero, List.set_cons_succ]
  refine wpAnyIn_lead wide_plain 2 (v := (.int .u8 (b[0].toNat : Int))) rfl (by kernel_rfl) (fun _ _ _ h => h) (Or.inl ⟨by rfl, fun Y => by go_simp⟩) ?_
  simp only [Act.put, List.setIfInBounds_toArray, List.set_cons_zero, List.set_cons_succ]
  refine wpAnyIn_lead wide_plain 3 (v := (.int .i64 (IntKind.i64.wrap (b[0].toNat : Int)))) rfl (by kernel_rfl) (fun _ _ _ h => h) (Or.inl ⟨by rfl, fun Y => by go_simp⟩) ?_
  simp only [Act.put, List.setIfInBounds_toArray, List.set_cons_zero, List.set_cons_succ]
  refine wpAnyIn_lead wide_plain 4 (v := (.string b)) rfl (by kernel_rfl) (fun _ _ _ h => h) (Or.inl ⟨by rfl, fun Y => by go_simp⟩) ?_
  simp only [Act.put, List.setIfInBounds_toArray, List.set_cons_zero, List.set_cons_succ]
  refine wpAnyIn_lead wide_plain 5 (v := (.int .u8 (b[1].toNat : Int))) rfl (by kernel_rfl) (fun _ _ _ h => h) (Or.inl ⟨by rfl, fun Y => by go_simp⟩) ?_
  simp only [Act.put, List.setIfInBounds_toArray, List.set_cons_zero, List.set_cons_succ]
  refine wpAnyIn_lead wide_plain 6 (v := (.int .i64 (IntKind.i64.wrap (b[1].toNat : Int)))) rfl (by kernel_rfl) (fun _ _ _ h => h) (Or.inl ⟨by rfl, fun Y => by go_simp⟩) ?_
  simp only [Act.put, List.setIfInBounds_toArray, List.set_cons_zero, List.set_cons_succ]
  refine wpAnyIn_lead wide_plain 7 (v := (key2 (IntKind.i64.wrap (b[0].toNat : Int)) (IntKind.i64.wrap (b[1].toNat : Int)))) rfl (by kernel_rfl) (fun _ _ _ h => h) (Or.inl ⟨by rfl, fun Y => by go_simp⟩) ?_
  simp only [Act.put, List.setIfInBounds_toArray, List.set_cons_zero, List.set_cons_succ]
  refine wpAnyIn_sole 0 (by kernel_rfl) rfl (fun K hK => ?_)
  go_simp
  refine ⟨trivial, callsIn_wide.2 ((frameVersions _).mono ?_)⟩
  rintro e w1 ⟨m, rfl, hm, hvs, hb⟩
  have hl1 := HL.out w1 m hvs
  refine hK _ _ ?_
  clear hK K
  refine wpAnyIn_sole 8 (by kernel_rfl) rfl (fun K hK => ?_)
  go_simp
  refine hK _ _ ?_
  clear hK K
  refine wpAnyIn_lead wide_plain 9 (v := (.tuple #[.int .i64 0, .bool false])) rfl (by kernel_rfl) (fun _ _ _ h => h) (Or.inl ⟨by rfl, fun Y => by go_simp⟩) ?_
  simp only [Act.put, List.setIfInBounds_toArray, List.set_cons_zero, List.set_cons_succ]
  refine wpAnyIn_lead wide_plain 10 (v := (.int .i64 0)) rfl (by kernel_rfl) (fun _ _ _ h => h) (Or.inl ⟨by rfl, fun Y => by go_simp⟩) ?_
  simp only [Act.put, List.setIfInBounds_toArray, List.set_cons_zero, List.set_cons_succ]
  refine wpAnyIn_lead wide_plain 11 (v := (.bool false)) rfl (by kernel_rfl) (fun _ _ _ h => h) (Or.inl ⟨by rfl, fun Y => by go_simp⟩) ?_
  simp only [Act.put, List.setIfInBounds_toArray, List.set_cons_zero, List.set_cons_succ]
  refine wpAnyIn_sole 12 (by kernel_rfl) rfl (fun K hK => ?_)
  go_simp
  refine hK _ _ ?_
  clear hK K
  refine wpAnyIn_sole 13 (by kernel_rfl) rfl (fun K hK => ?_)
  go_simp
  refine hK _ _ ?_
  clear hK K
  refine wpAnyIn_done (by kernel_rfl) ?_ _
  have L1 : Errs w1 a0 a1 := (L.below (((Below.refl _ w).alloc (Nat.le_refl _) (.cells #[.int .i64 0, .int .i64 0, .int .i64 0, .int .i64 0, .int .u32 0, .int .u32 0, .int .u32 0, .int .u32 0, .string ⟨#[]⟩] 26)).drew) (Nat.le_refl _)).below hb (by simp)
  have rz : Row w1 w.heap.size #[.int .i64 0, .int .i64 0, .int .i64 0, .int .i64 0, .int .u32 0, .int .u32 0, .int .u32 0, .int .u32 0, .string ⟨#[]⟩] 26 := (Row.new w _ _).drew.below hb (by simp)
  have hB1 : Below w.heap.size w w1 := ((Below.refl _ w).alloc (Nat.le_refl _) _).drew.trans (hb.mono (by simp))
  have u0 := L1.v0
  have u1 := L1.v1
  clear hl1 hvs hb hm
  have z0 := rz.cell 0 _ rfl
  have y0 := rz.thawed 0
  have z1 := rz.cell 1 _ rfl
  have y1 := rz.thawed 1
  have z2 := rz.cell 2 _ rfl
  have y2 := rz.thawed 2
  have z3 := rz.cell 3 _ rfl
  have y3 := rz.thawed 3
  have z4 := rz.cell 4 _ rfl
  have y4 := rz.thawed 4
  have z5 := rz.cell 5 _ rfl
  have y5 := rz.thawed 5
  have z6 := rz.cell 6 _ rfl
  have y6 := rz.thawed 6
  have z7 := rz.cell 7 _ rfl
  have y7 := rz.thawed 7
  have z8 := rz.cell 8 _ rfl
  have y8 := rz.thawed 8
  gi_wp2
  gi_region
  gi_wp2
  have rZ := (row_fill (.int .i64 0) (.int .i64 0) (.int .i64 0) (.int .i64 0) (.int .u32 0) (.int .u32 0) (.int .u32 0) (.int .u32 0) (.string ⟨#[]⟩) (.int .i64 0) (.int .i64 0) (.int .i64 0) (.int .i64 0) (.int .u32 0) (.int .u32 0) (.int .u32 0) (.int .u32 0) (.string ⟨#[]⟩) rz).drew
  have bZ := (below_fill (.int .i64 0) (.int .i64 0) (.int .i64 0) (.int .i64 0) (.int .u32 0) (.int .u32 0) (.int .u32 0) (.int .u32 0) (.string ⟨#[]⟩) hB1 (Nat.le_refl w.heap.size)).drew
  change bodyPost _ _ _ _ _ (fill9 w1 w.heap.size (.int .i64 0) (.int .i64 0) (.int .i64 0) (.int .i64 0) (.int .u32 0) (.int .u32 0) (.int .u32 0) (.int .u32 0) (.string ⟨#[]⟩)).drew
  generalize (fill9 w1 w.heap.size (.int .i64 0) (.int .i64 0) (.int .i64 0) (.int .i64 0) (.int .u32 0) (.int .u32 0) (.int .u32 0) (.int .u32 0) (.string ⟨#[]⟩)).drew = Z at *
  have p0 := rZ.cell 0 _ rfl; have p1 := rZ.cell 1 _ rfl; have p2 := rZ.cell 2 _ rfl; have p3 := rZ.cell 3 _ rfl; have p4 := rZ.cell 4 _ rfl; have p5 := rZ.cell 5 _ rfl; have p6 := rZ.cell 6 _ rfl; have p7 := rZ.cell 7 _ rfl; have p8 := rZ.cell 8 _ rfl
  exact bodyPost_ret (v := .tuple #[.agg #[.int .i64 0, .int .i64 0, .int .i64 0, .int .i64 0, .int .u32 0, .int .u32 0, .int .u32 0, .int .u32 0, .string ⟨#[]⟩], errV a1]) (by simp [results, Tryd.results12, go_sem, p0, p1, p2, p3, p4, p5, p6, p7, p8]) rfl ⟨rfl, bZ⟩
set_option maxRecDepth 100000 in
set_option maxHeartbeats 4000000 in
theorem readOld (b : ByteArray) (h : 2 ≤ b.size) (h72 : at' b.data.toList 0 = 72) (hv : ver ((at' b.data.toList 1).toNat : Int) = false) (a0 a1 : Addr) (w : World) (L : Errs w a0 a1) : Calls Tryd.prog 12 #[.string b] w fun e w' =>
    e = .returned (.tuple #[Fr.nil.val, errV a0]) ∧ Below w.heap.size w w' := by
  have hd : decide ((b.size : Int) < 2) = false := by simp; omega
  have h1 : 1 < b.size := by omega
  have h0 : 0 < b.size := by omega
  have hi0 : (0 : Int) < (b.size : Int) := by omega
  have hi1 : (1 : Int) < (b.size : Int) := by omega
  rw [← at_zero b h0] at h72
  rw [← at_one b h1] at hv
  have hn : (b[0].toNat : Int) = 72 := by rw [h72]; rfl
  obtain ⟨q, hqq⟩ : ∃ q, bare (b[1].toNat : Int) = q := ⟨_, rfl⟩
  have HL := Lib.hid (fun W m hvs => by rw [wrap_byte, wrap_byte, hn]; have hx := hvs.look (b[1].toNat : Int); rw [hv, hqq] at hx; exact hx : ∀ W m, Vers W m → (Instr.lookup 64 (.map (some m)) (key2 (IntKind.i64.wrap (b[0].toNat : Int)) (IntKind.i64.wrap (b[1].toNat : Int))) true).run Tryd.prog W = .ok (.tuple #[.int .i64 q, .bool false]) W)
  have hq : ((b[0].toNat : Int) == 72) = true := by rw [beq_iff_eq]; omega
  have ul : 0 < w.heap.size := lt_of_cell (p := ⟨0, 0, none⟩) L.v0
  have um : 1 < w.heap.size := lt_of_cell (p := ⟨1, 0, none⟩) L.v1
  clear h72 hn hv hqq
  refine (callsIn_wide (n := 5)).1 ?_
  refine callsIn_of_wp Tryd.func12 rfl trivial ?_ rfl
  simp only [Tryd.ntmps12, List.size_toArray, List.length_cons, List.length_nil, Nat.reduceAdd, Nat.reduceSub, Array.replicate_succ, Array.replicate_zero, List.push_toArray, List.append_toArray, List.nil_append, List.cons_append]
  gi_wp2
  refine wpIn_region_any (by kernel_rfl) ?_
  change wpAnyIn _ _ _ _ _ _ 14 _ _ (w.alloc (.cells #[.int .i64 0, .int .i64 0, .int .i64 0, .int .i64 0, .int .u32 0, .int .u32 0, .int .u32 0, .int .u32 0, .string ⟨#[]⟩] 26)).drew
  refine wpAnyIn_lead wide_plain 1 (v := (.string b)) rfl (by kernel_rfl) (fun _ _ _ h => h) (Or.inl ⟨by rfl, fun Y => by go_simp⟩) ?_
  simp only [Act.put, List.setIfInBounds_toArray, List.set_cons_zero, List.set_cons_succ]
  refine wpAnyIn_lead wide_plain 2 (v := (.int .u8 (b[0].toNat : Int))) rfl (by kernel_rfl) (fun _ _ _ h => h) (Or.inl ⟨by rfl, fun Y => by go_simp⟩) ?_
  simp only [Act.put, List.setIfInBounds_toArray, List.set_cons_zero, List.set_cons_succ]
  refine wpAnyIn_lead wide_plain 3 (v := (.int .i64 (IntKind.i64.wrap (b[0].toNat : Int)))) rfl (by kernel_rfl) (fun _ _ _ h => h) (Or.inl ⟨by rfl, fun Y => by go_simp⟩) ?_
  simp only [Act.put, List.setIfInBounds_toArray, List.set_cons_zero, List.set_cons_succ]
  refine wpAnyIn_lead wide_plain 4 (v := (.string b)) rfl (by kernel_rfl) (fun _ _ _ h => h) (Or.inl ⟨by rfl, fun Y => by go_simp⟩) ?_
  simp only [Act.put, List.setIfInBounds_toArray, List.set_cons_zero, List.set_cons_succ]
  refine wpAnyIn_lead wide_plain 5 (v := (.int .u8 (b[1].toNat : Int))) rfl (by kernel_rfl) (fun _ _ _ h => h) (Or.inl ⟨by rfl, fun Y => by go_simp⟩) ?_
  simp only [Act.put, List.setIfInBounds_toArray, List.set_cons_zero, List.set_cons_succ]
  refine wpAnyIn_lead wide_plain 6 (v := (.int .i64 (IntKind.i64.wrap (b[1].toNat : Int)))) rfl (by kernel_rfl) (fun _ _ _ h => h) (Or.inl ⟨by rfl, fun Y => by go_simp⟩) ?_
  simp only [Act.put, List.setIfInBounds_toArray, List.set_cons_zero, List.set_cons_succ]
  refine wpAnyIn_lead wide_plain 7 (v := (key2 (IntKind.i64.wrap (b[0].toNat : Int)) (IntKind.i64.wrap (b[1].toNat : Int)))) rfl (by kernel_rfl) (fun _ _ _ h => h) (Or.inl ⟨by rfl, fun Y => by go_simp⟩) ?_
  simp only [Act.put, List.setIfInBounds_toArray, List.set_cons_zero, List.set_cons_succ]
  refine wpAnyIn_sole 0 (by kernel_rfl) rfl (fun K hK => ?_)
  go_simp
  refine ⟨trivial, callsIn_wide.2 ((frameVersions _).mono ?_)⟩
  rintro e w1 ⟨m, rfl, hm, hvs, hb⟩
  have hl1 := HL.out w1 m hvs
  refine hK _ _ ?_
  clear hK K
  refine wpAnyIn_sole 8 (by kernel_rfl) rfl (fun K hK => ?_)
  go_simp
  refine hK _ _ ?_
  clear hK K
  refine wpAnyIn_lead wide_plain 9 (v := (.tuple #[.int .i64 q, .bool false])) rfl (by kernel_rfl) (fun _ _ _ h => h) (Or.inl ⟨by rfl, fun Y => by go_simp⟩) ?_
  simp only [Act.put, List.setIfInBounds_toArray, List.set_cons_zero, List.set_cons_succ]
  refine wpAnyIn_lead wide_plain 10 (v := (.int .i64 q)) rfl (by kernel_rfl) (fun _ _ _ h => h) (Or.inl ⟨by rfl, fun Y => by go_simp⟩) ?_
  simp only [Act.put, List.setIfInBounds_toArray, List.set_cons_zero, List.set_cons_succ]
  refine wpAnyIn_lead wide_plain 11 (v := (.bool false)) rfl (by kernel_rfl) (fun _ _ _ h => h) (Or.inl ⟨by rfl, fun Y => by go_simp⟩) ?_
  simp only [Act.put, List.setIfInBounds_toArray, List.set_cons_zero, List.set_cons_succ]
  refine wpAnyIn_sole 12 (by kernel_rfl) rfl (fun K hK => ?_)
  go_simp
  refine hK _ _ ?_
  clear hK K
  refine wpAnyIn_sole 13 (by kernel_rfl) rfl (fun K hK => ?_)
  go_simp
  refine hK _ _ ?_
  clear hK K
  refine wpAnyIn_done (by kernel_rfl) ?_ _
  have L1 : Errs w1 a0 a1 := (L.below (((Below.refl _ w).alloc (Nat.le_refl _) (.cells #[.int .i64 0, .int .i64 0, .int .i64 0, .int .i64 0, .int .u32 0, .int .u32 0, .int .u32 0, .int .u32 0, .string ⟨#[]⟩] 26)).drew) (Nat.le_refl _)).below hb (by simp)
  have rz : Row w1 w.heap.size #[.int .i64 0, .int .i64 0, .int .i64 0, .int .i64 0, .int .u32 0, .int .u32 0, .int .u32 0, .int .u32 0, .string ⟨#[]⟩] 26 := (Row.new w _ _).drew.below hb (by simp)
  have hB1 : Below w.heap.size w w1 := ((Below.refl _ w).alloc (Nat.le_refl _) _).drew.trans (hb.mono (by simp))
  have u0 := L1.v0
  have u1 := L1.v1
  clear hl1 hvs hb hm
  have z0 := rz.cell 0 _ rfl
  have y0 := rz.thawed 0
  have z1 := rz.cell 1 _ rfl
  have y1 := rz.thawed 1
  have z2 := rz.cell 2 _ rfl
  have y2 := rz.thawed 2
  have z3 := rz.cell 3 _ rfl
  have y3 := rz.thawed 3
  have z4 := rz.cell 4 _ rfl
  have y4 := rz.thawed 4
  have z5 := rz.cell 5 _ rfl
  have y5 := rz.thawed 5
  have z6 := rz.cell 6 _ rfl
  have y6 := rz.thawed 6
  have z7 := rz.cell 7 _ rfl
  have y7 := rz.thawed 7
  have z8 := rz.cell 8 _ rfl
  have y8 := rz.thawed 8
  gi_wp2
  gi_region
  gi_wp2
  have rZ := (row_fill (.int .i64 0) (.int .i64 0) (.int .i64 0) (.int .i64 0) (.int .u32 0) (.int .u32 0) (.int .u32 0) (.int .u32 0) (.string ⟨#[]⟩) (.int .i64 0) (.int .i64 0) (.int .i64 0) (.int .i64 0) (.int .u32 0) (.int .u32 0) (.int .u32 0) (.int .u32 0) (.string ⟨#[]⟩) rz).drew
  have bZ := (below_fill (.int .i64 0) (.int .i64 0) (.int .i64 0) (.int .i64 0) (.int .u32 0) (.int .u32 0) (.int .u32 0) (.int .u32 0) (.string ⟨#[]⟩) hB1 (Nat.le_refl w.heap.size)).drew
  change bodyPost _ _ _ _ _ (fill9 w1 w.heap.size (.int .i64 0) (.int .i64 0) (.int .i64 0) (.int .i64 0) (.int .u32 0) (.int .u32 0) (.int .u32 0) (.int .u32 0) (.string ⟨#[]⟩)).drew
  generalize (fill9 w1 w.heap.size (.int .i64 0) (.int .i64 0) (.int .i64 0) (.int .i64 0) (.int .u32 0) (.int .u32 0) (.int .u32 0) (.int .u32 0) (.string ⟨#[]⟩)).drew = Z at *
  have p0 := rZ.cell 0 _ rfl; have p1 := rZ.cell 1 _ rfl; have p2 := rZ.cell 2 _ rfl; have p3 := rZ.cell 3 _ rfl; have p4 := rZ.cell 4 _ rfl; have p5 := rZ.cell 5 _ rfl; have p6 := rZ.cell 6 _ rfl; have p7 := rZ.cell 7 _ rfl; have p8 := rZ.cell 8 _ rfl
  exact bodyPost_ret (v := .tuple #[.agg #[.int .i64 0, .int .i64 0, .int .i64 0, .int .i64 0, .int .u32 0, .int .u32 0, .int .u32 0, .int .u32 0, .string ⟨#[]⟩], errV a0]) (by simp [results, Tryd.results12, go_sem, p0, p1, p2, p3, p4, p5, p6, p7, p8]) rfl ⟨rfl, bZ⟩
set_option maxRecDepth 100000 in
set_option maxHeartbeats 4000000 in
theorem readCut (b : ByteArray) (h : 2 ≤ b.size) (h72 : at' b.data.toList 0 = 72) (hv : ver ((at' b.data.toList 1).toNat : Int) = true) (hs : b.size ≤ 100000) (hlt : (b.size : Int) + 4 < bare ((at' b.data.toList 1).toNat : Int)) (a0 a1 : Addr) (w : World) (L : Errs w a0 a1) : Calls Tryd.prog 12 #[.string b] w fun e w' =>
    e = .returned (.tuple #[Fr.nil.val, errV a1]) ∧ Below w.heap.size w w' := by
  have hd : decide ((b.size : Int) < 2) = false := by simp; omega
  have h1 : 1 < b.size := by omega
  have h0 : 0 < b.size := by omega
  have hi0 : (0 : Int) < (b.size : Int) := by omega
  have hi1 : (1 : Int) < (b.size : Int) := by omega
  rw [← at_zero b h0] at h72
  rw [← at_one b h1] at hv
  have hn : (b[0].toNat : Int) = 72 := by rw [h72]; rfl
  obtain ⟨q, hqq⟩ : ∃ q, bare (b[1].toNat : Int) = q := ⟨_, rfl⟩
  have HL := Lib.hid (fun W m hvs => by rw [wrap_byte, wrap_byte, hn]; have hx := hvs.look (b[1].toNat : Int); rw [hv, hqq] at hx; exact hx : ∀ W m, Vers W m → (Instr.lookup 64 (.map (some m)) (key2 (IntKind.i64.wrap (b[0].toNat : Int)) (IntKind.i64.wrap (b[1].toNat : Int))) true).run Tryd.prog W = .ok (.tuple #[.int .i64 q, .bool true]) W)
  have hq : ((b[0].toNat : Int) == 72) = true := by rw [beq_iff_eq]; omega
  have hsI : (b.size : Int) ≤ 100000 := by omega
  rw [← at_one b h1, hqq] at hlt
  have hlt' : decide ((b.size : Int) + 4 < q) = true := by simpa using hlt
  have ul : 0 < w.heap.size := lt_of_cell (p := ⟨0, 0, none⟩) L.v0
  have um : 1 < w.heap.size := lt_of_cell (p := ⟨1, 0, none⟩) L.v1
  clear h72 hn hv hqq
  refine (callsIn_wide (n := 5)).1 ?_
  refine callsIn_of_wp Tryd.func12 rfl trivial ?_ rfl
  simp only [Tryd.ntmps12, List.size_toArray, List.length_cons, List.length_nil, Nat.reduceAdd, Nat.reduceSub, Array.replicate_succ, Array.replicate_zero, List.push_toArray, List.append_toArray, List.nil_append, List.cons_append]
  gi_wp2
  refine wpIn_region_any (by kernel_rfl) ?_
  change wpAnyIn _ _ _ _ _ _ 14 _ _ (w.alloc (.cells #[.int .i64 0, .int .i64 0, .int .i64 0, .int .i64 0, .int .u32 0, .int .u32 0, .int .u32 0, .int .u32 0, .string ⟨#[]⟩] 26)).drew
  refine wpAnyIn_lead wide_plain 1 (v := (.string b)) rfl (by kernel_rfl) (fun _ _ _ h => h) (Or.inl ⟨by rfl, fun Y => by go_simp⟩) ?_
  simp only [Act.put, List.setIfInBounds_toArray, List.set_cons_zero, List.set_cons_succ]
  refine wpAnyIn_lead wide_plain 2 (v := (.int .u8 (b[0].toNat : Int))) rfl (by kernel_rfl) (fun _ _ _ h => h) (Or.inl ⟨by rfl, fun Y => by go_simp⟩) ?_
  simp only [Act.put, List.setIfInBounds_toArray, List.set_cons_zero, List.set_cons_succ]
  refine wpAnyIn_lead wide_plain 3 (v := (.int .i64 (IntKind.i64.wrap (b[0].toNat : Int)))) rfl (by kernel_rfl) (fun _ _ _ h => h) (Or.inl ⟨by rfl, fun Y => by go_simp⟩) ?_
  simp only [Act.put, List.setIfInBounds_toArray, List.set_cons_zero, List.set_cons_succ]
  refine wpAnyIn_lead wide_plain 4 (v := (.string b)) rfl (by kernel_rfl) (fun _ _ _ h => h) (Or.inl ⟨by rfl, fun Y => by go_simp⟩) ?_
  simp only [Act.put, List.setIfInBounds_toArray, List.set_cons_zero, List.set_cons_succ]
  refine wpAnyIn_lead wide_plain 5 (v := (.int .u8 (b[1].toNat : Int))) rfl (by kernel_rfl) (fun _ _ _ h => h) (Or.inl ⟨by rfl, fun Y => by go_simp⟩) ?_
  simp only [Act.put, List.setIfInBounds_toArray, List.set_cons_zero, List.set_cons_succ]
  refine wpAnyIn_lead wide_plain 6 (v := (.int .i64 (IntKind.i64.wrap (b[1].toNat : Int)))) rfl (by kernel_rfl) (fun _ _ _ h => h) (Or.inl ⟨by rfl, fun Y => by go_simp⟩) ?_
  simp only [Act.put, List.setIfInBounds_toArray, List.set_cons_zero, List.set_cons_succ]
  refine wpAnyIn_lead wide_plain 7 (v := (key2 (IntKind.i64.wrap (b[0].toNat : Int)) (IntKind.i64.wrap (b[1].toNat : Int)))) rfl (by kernel_rfl) (fun _ _ _ h => h) (Or.inl ⟨by rfl, fun Y => by go_simp⟩) ?_
  simp only [Act.put, List.setIfInBounds_toArray, List.set_cons_zero, List.set_cons_succ]
  refine wpAnyIn_sole 0 (by kernel_rfl) rfl (fun K hK => ?_)
  go_simp
  refine ⟨trivial, callsIn_wide.2 ((frameVersions _).mono ?_)⟩
  rintro e w1 ⟨m, rfl, hm, hvs, hb⟩
  have hl1 := HL.out w1 m hvs
  refine hK _ _ ?_
  clear hK K
  refine wpAnyIn_sole 8 (by kernel_rfl) rfl (fun K hK => ?_)
  go_simp
  refine hK _ _ ?_
  clear hK K
  refine wpAnyIn_lead wide_plain 9 (v := (.tuple #[.int .i64 q, .bool true])) rfl (by kernel_rfl) (fun _ _ _ h => h) (Or.inl ⟨by rfl, fun Y => by go_simp⟩) ?_
  simp only [Act.put, List.setIfInBounds_toArray, List.set_cons_zero, List.set_cons_succ]
  refine wpAnyIn_lead wide_plain 10 (v := (.int .i64 q)) rfl (by kernel_rfl) (fun _ _ _ h => h) (Or.inl ⟨by rfl, fun Y => by go_simp⟩) ?_
  simp only [Act.put, List.setIfInBounds_toArray, List.set_cons_zero, List.set_cons_succ]
  refine wpAnyIn_lead wide_plain 11 (v := (.bool true)) rfl (by kernel_rfl) (fun _ _ _ h => h) (Or.inl ⟨by rfl, fun Y => by go_simp⟩) ?_
  simp only [Act.put, List.setIfInBounds_toArray, List.set_cons_zero, List.set_cons_succ]
  refine wpAnyIn_sole 12 (by kernel_rfl) rfl (fun K hK => ?_)
  go_simp
  refine hK _ _ ?_
  clear hK K
  refine wpAnyIn_sole 13 (by kernel_rfl) rfl (fun K hK => ?_)
  go_simp
  refine hK _ _ ?_
  clear hK K
  refine wpAnyIn_done (by kernel_rfl) ?_ _
  have L1 : Errs w1 a0 a1 := (L.below (((Below.refl _ w).alloc (Nat.le_refl _) (.cells #[.int .i64 0, .int .i64 0, .int .i64 0, .int .i64 0, .int .u32 0, .int .u32 0, .int .u32 0, .int .u32 0, .string ⟨#[]⟩] 26)).drew) (Nat.le_refl _)).below hb (by simp)
  have rz : Row w1 w.heap.size #[.int .i64 0, .int .i64 0, .int .i64 0, .int .i64 0, .int .u32 0, .int .u32 0, .int .u32 0, .int .u32 0, .string ⟨#[]⟩] 26 := (Row.new w _ _).drew.below hb (by simp)
  have hB1 : Below w.heap.size w w1 := ((Below.refl _ w).alloc (Nat.le_refl _) _).drew.trans (hb.mono (by simp))
  have u0 := L1.v0
  have u1 := L1.v1
  clear hl1 hvs hb hm
  have z0 := rz.cell 0 _ rfl
  have y0 := rz.thawed 0
  have z1 := rz.cell 1 _ rfl
  have y1 := rz.thawed 1
  have z2 := rz.cell 2 _ rfl
  have y2 := rz.thawed 2
  have z3 := rz.cell 3 _ rfl
  have y3 := rz.thawed 3
  have z4 := rz.cell 4 _ rfl
  have y4 := rz.thawed 4
  have z5 := rz.cell 5 _ rfl
  have y5 := rz.thawed 5
  have z6 := rz.cell 6 _ rfl
  have y6 := rz.thawed 6
  have z7 := rz.cell 7 _ rfl
  have y7 := rz.thawed 7
  have z8 := rz.cell 8 _ rfl
  have y8 := rz.thawed 8
  gi_wp2
  gi_region
  gi_wp2
  have rZ := (row_fill (.int .i64 0) (.int .i64 0) (.int .i64 0) (.int .i64 0) (.int .u32 0) (.int .u32 0) (.int .u32 0) (.int .u32 0) (.string ⟨#[]⟩) (.int .i64 0) (.int .i64 0) (.int .i64 0) (.int .i64 0) (.int .u32 0) (.int .u32 0) (.int .u32 0) (.int .u32 0) (.string ⟨#[]⟩) rz).drew
  have bZ := (below_fill (.int .i64 0) (.int .i64 0) (.int .i64 0) (.int .i64 0) (.int .u32 0) (.int .u32 0) (.int .u32 0) (.int .u32 0) (.string ⟨#[]⟩) hB1 (Nat.le_refl w.heap.size)).drew
  change bodyPost _ _ _ _ _ (fill9 w1 w.heap.size (.int .i64 0) (.int .i64 0) (.int .i64 0) (.int .i64 0) (.int .u32 0) (.int .u32 0) (.int .u32 0) (.int .u32 0) (.string ⟨#[]⟩)).drew
  generalize (fill9 w1 w.heap.size (.int .i64 0) (.int .i64 0) (.int .i64 0) (.int .i64 0) (.int .u32 0) (.int .u32 0) (.int .u32 0) (.int .u32 0) (.string ⟨#[]⟩)).drew = Z at *
  have p0 := rZ.cell 0 _ rfl; have p1 := rZ.cell 1 _ rfl; have p2 := rZ.cell 2 _ rfl; have p3 := rZ.cell 3 _ rfl; have p4 := rZ.cell 4 _ rfl; have p5 := rZ.cell 5 _ rfl; have p6 := rZ.cell 6 _ rfl; have p7 := rZ.cell 7 _ rfl; have p8 := rZ.cell 8 _ rfl
  exact bodyPost_ret (v := .tuple #[.agg #[.int .i64 0, .int .i64 0, .int .i64 0, .int .i64 0, .int .u32 0, .int .u32 0, .int .u32 0, .int .u32 0, .string ⟨#[]⟩], errV a1]) (by simp [results, Tryd.results12, go_sem, p0, p1, p2, p3, p4, p5, p6, p7, p8]) rfl ⟨rfl, bZ⟩
end Go.Proofs.YtphfnlgjiomjkaaDoor
