/-
  What frame.read makes of bytes of a version, all of whose head is there.
-/
import Derived.Test.YtphfnlgjiomjkaaDoorFrameRead
namespace Go.Proofs.YtphfnlgjiomjkaaDoor
open Go.RowKit Go.Shelf
attribute [local go_sem] Oper.semAt_some
set_option linter.unusedVariables false
set_option linter.unusedSimpArgs false
open Bytes

/-- The numbers of a head, as split reads them. -/
def headNum (b : ByteArray) (one : Bool) : Nat → BitVec 32
  | 0 => valAt (b.extract 0 b.size) 1
  | 1 => valAt (b.extract 1 b.size) 1
  | 2 => valAt (b.extract 2 b.size) 1
  | 3 => valAt (b.extract 3 b.size) 1
  | 4 => valAt (b.extract 4 b.size) 4
  | 5 => valAt (b.extract 8 b.size) 4
  | 6 => valAt (b.extract 12 b.size) 4
  | 7 => if one = true then 0 else valAt (b.extract 16 b.size) 4
  | _ => if one = true then valAt (b.extract 16 b.size) 4 else valAt (b.extract 20 b.size) 4
theorem after_nums (b : ByteArray) (one : Bool) : (afterFields b (fieldsOf one)).1 = #[.int .u32 ((headNum b one 0).toNat : Int), .int .u32 ((headNum b one 1).toNat : Int), .int .u32 ((headNum b one 2).toNat : Int), .int .u32 ((headNum b one 3).toNat : Int), .int .u32 ((headNum b one 4).toNat : Int), .int .u32 ((headNum b one 5).toNat : Int), .int .u32 ((headNum b one 6).toNat : Int), .int .u32 ((headNum b one 7).toNat : Int), .int .u32 ((headNum b one 8).toNat : Int)] := by
  cases one
  · rw [after_two]; rfl
  · rw [after_one]; rfl
/-- The frame that read makes of a head and what is left. -/
def madeOf (b : ByteArray) (one : Bool) : Fr := Fr.mk ((headNum b one 1).toNat : Int) ((headNum b one 2).toNat : Int) (((headNum b one 3).toNat : Int) / 16) (((headNum b one 3).toNat : Int) % 16) (headNum b one 4) (headNum b one 5) (headNum b one 6) (headNum b one 7) (afterFields b (fieldsOf one)).2
set_option maxRecDepth 100000 in
set_option maxHeartbeats 4000000 in
theorem readRest (b : ByteArray) (h : 2 ≤ b.size) (hs : b.size ≤ 100000) (h72 : at' b.data.toList 0 = 72) (hv : ver ((at' b.data.toList 1).toNat : Int) = true) (one : Bool) (hone : (((at' b.data.toList 1).toNat : Int) == 1) = one) (hlen : (if one = true then 20 else 24) ≤ b.size)
    (hge : bare ((at' b.data.toList 1).toNat : Int) ≤ (b.size : Int) + 4) (a0 a1 : Addr) (w : World) (L : Errs w a0 a1) : Calls Tryd.prog 12 #[.string b] w fun e w' =>
    e = .returned (if (headNum b one 8).toNat = (madeOf b one).data.size ∧ (madeOf b one).Right then .tuple #[(madeOf b one).val, .nilIface] else .tuple #[Fr.nil.val, errV a1]) ∧ Below w.heap.size w w' := by
  have hd : decide ((b.size : Int) < 2) = false := by simp; omega
  have h1 : 1 < b.size := by omega
  have h0 : 0 < b.size := by omega
  have hi0 : (0 : Int) < (b.size : Int) := by omega
  have hi1 : (1 : Int) < (b.size : Int) := by omega
  have hw := after_wire b one h
  have hsp := fun w => frameSplit b one _ hone hlen hs hw w
  rw [after_nums] at hsp
  rw [← at_zero b h0] at h72
  rw [← at_one b h1] at hv hge
  have hn : (b[0].toNat : Int) = 72 := by rw [h72]; rfl
  obtain ⟨q, hqq⟩ : ∃ q, bare (b[1].toNat : Int) = q := ⟨_, rfl⟩
  have HL := Lib.hid (fun W m hvs => by rw [wrap_byte, wrap_byte, hn]; have hx := hvs.look (b[1].toNat : Int); rw [hv, hqq] at hx; exact hx : ∀ W m, Vers W m → (Instr.lookup 64 (.map (some m)) (key2 (IntKind.i64.wrap (b[0].toNat : Int)) (IntKind.i64.wrap (b[1].toNat : Int))) true).run Tryd.prog W = .ok (.tuple #[.int .i64 q, .bool true]) W)
  have hq : ((b[0].toNat : Int) == 72) = true := by rw [beq_iff_eq]; omega
  rw [hqq] at hge
  have hlt' : decide ((b.size : Int) + 4 < q) = false := by simp; omega
  have hsI : (b.size : Int) ≤ 100000 := by omega
  have hds : (madeOf b one).data.size ≤ 100000 := by
    show (afterFields b (fieldsOf one)).2.size ≤ 100000
    rw [afterFields_size]; omega
  have hds2 : (madeOf b one).data.size ≤ maxLen := by unfold maxLen; omega
  have hmk := fun w => frameOf (headNum b one 0) (headNum b one 1) (headNum b one 2) (headNum b one 3) (headNum b one 4) (headNum b one 5) (headNum b one 6) (headNum b one 7) (headNum b one 8) (afterFields b (fieldsOf one)).2 w
  have hF : Fr.mk ((headNum b one 1).toNat : Int) ((headNum b one 2).toNat : Int) (((headNum b one 3).toNat : Int) / 16) (((headNum b one 3).toNat : Int) % 16) (headNum b one 4) (headNum b one 5) (headNum b one 6) (headNum b one 7) (afterFields b (fieldsOf one)).2 = madeOf b one := rfl
  rw [hF] at hmk
  have hD : (madeOf b one).data = (afterFields b (fieldsOf one)).2 := rfl
  generalize headNum b one 8 = N8 at *
  generalize headNum b one 0 = N0 at *
  generalize headNum b one 1 = N1 at *
  generalize headNum b one 2 = N2 at *
  generalize headNum b one 3 = N3 at *
  generalize headNum b one 4 = N4 at *
  generalize headNum b one 5 = N5 at *
  generalize headNum b one 6 = N6 at *
  generalize headNum b one 7 = N7 at *
  generalize (afterFields b (fieldsOf one)).2 = rest at *
  generalize madeOf b one = F at *
  subst hD
  have HSP := Lib.hid hsp
  have HMK := Lib.hid hmk
  have ul : 0 < w.heap.size := lt_of_cell (p := ⟨0, 0, none⟩) L.v0
  have um : 1 < w.heap.size := lt_of_cell (p := ⟨1, 0, none⟩) L.v1
  clear h72 hn hv hqq hw hsp hmk hF hone hlen
  by_cases hsz : N8.toNat = F.data.size
  · have hbs : ((N8.toNat : Int) != (F.data.size : Int)) = false := by rw [bne_eq_false_iff_eq]; omega
    by_cases hr : F.Right
    · have hdr : decide F.Right = true := by simpa using hr
      rw [if_pos ⟨hsz, hr⟩]
      clear hsz hr
      refine (callsIn_wide (n := 5)).1 ?_
      refine callsIn_of_wp Tryd.func12 rfl trivial ?_ rfl
      simp only [Tryd.ntmps12, List.size_toArray, List.length_cons, List.length_nil, Nat.reduceAdd, Nat.reduceSub, Array.replicate_succ, Array.replicate_zero, List.push_toArray, List.append_toArray, List.nil_append, List.cons_append]
      gi_wp2
      refine wpIn_region_any (by kernel_rfl) ?_
      change wpAnyIn _ _ _ _ _ _ 14 _ _ (w.alloc (.cells #[.int .i64 0, .int .i64 0, .int .i64 0, .int .i64 0, .int .u32 0, .int .u32 0, .int .u32 0, .int .u32 0, .string ⟨#[]⟩] 26)).drew
      refine wpAnyIn_lead wide_plain 1 (v := (.string b)) rfl (by kernel_rfl) (fun _ _ _ h => h) (Or.inl ⟨by rfl, fun Y => by go_simp⟩) ?_
      simp only [Act.put, List.setIfInBounds_toArray, List.set_cons_zero, List.set_cons_succ]
      refine wpAnyIn_lead wide_plain 2 (v := (.int .u8 (b[0].toNat : Int))) rfl (by kernel_rfl) (fun _ _ _ h => h) (Or.inl ⟨by rfl, fun Y => by go_simp⟩) ?_
      simp only [Act.put, List.setIfInBounds_toArray, List.set_cons_zero, List.set_cons_succ]
      refine wpAnyIn_lead wide_plain 3 (v := (.int .i64 (IntKind.i64.wrap (b[0].toNat : Int)))) rfl (by kernel_rfl) (fun _ _ _ h => h) (Or.inl ⟨by rfl, fun Y => by go_simp⟩) ?_
      simp only [Act.put, List.setIfInBounds_toArray, List.set_cons_zero, List.set_cons_succ]
      refine wpAnyIn_lead wide_plain 4 (v := (.string b)) rfl (by kernel_rfl) (fun _ _ _ h => h) (Or.inl ⟨by rfl, fun Y => by go_simp⟩) ?_
      simp only [Act.put, List.setIfInBounds_toArray, List.set_cons_zero, List.set_cons_succ]
      refine wpAnyIn_lead wide_plain 5 (v := (.int .u8 (b[1].toNat : Int))) rfl (by kernel_rfl) (fun _ _ _ h => h) (Or.inl ⟨by rfl, fun Y => by go_simp⟩) ?_
      simp only [Act.put, List.setIfInBounds_toArray, List.set_cons_zero, List.set_cons_succ]
      refine wpAnyIn_lead wide_plain 6 (v := (.int .i64 (IntKind.i64.wrap (b[1].toNat : Int)))) rfl (by kernel_rfl) (fun _ _ _ h => h) (Or.inl ⟨by rfl, fun Y => by go_simp⟩) ?_
      simp only [Act.put, List.setIfInBounds_toArray, List.set_cons_zero, List.set_cons_succ]
      refine wpAnyIn_lead wide_plain 7 (v := (key2 (IntKind.i64.wrap (b[0].toNat : Int)) (IntKind.i64.wrap (b[1].toNat : Int)))) rfl (by kernel_rfl) (fun _ _ _ h => h) (Or.inl ⟨by rfl, fun Y => by go_simp⟩) ?_
      simp only [Act.put, List.setIfInBounds_toArray, List.set_cons_zero, List.set_cons_succ]
      refine wpAnyIn_sole 0 (by kernel_rfl) rfl (fun K hK => ?_)
      go_simp
      refine ⟨trivial, callsIn_wide.2 ((frameVersions _).mono ?_)⟩
      rintro e w1 ⟨m, rfl, hm, hvs, hb⟩
      have hl1 := HL.out w1 m hvs
      refine hK _ _ ?_
      clear hK K
      refine wpAnyIn_sole 8 (by kernel_rfl) rfl (fun K hK => ?_)
      go_simp
      refine hK _ _ ?_
      clear hK K
      refine wpAnyIn_lead wide_plain 9 (v := (.tuple #[.int .i64 q, .bool true])) rfl (by kernel_rfl) (fun _ _ _ h => h) (Or.inl ⟨by rfl, fun Y => by go_simp⟩) ?_
      simp only [Act.put, List.setIfInBounds_toArray, List.set_cons_zero, List.set_cons_succ]
      refine wpAnyIn_lead wide_plain 10 (v := (.int .i64 q)) rfl (by kernel_rfl) (fun _ _ _ h => h) (Or.inl ⟨by rfl, fun Y => by go_simp⟩) ?_
      simp only [Act.put, List.setIfInBounds_toArray, List.set_cons_zero, List.set_cons_succ]
      refine wpAnyIn_lead wide_plain 11 (v := (.bool true)) rfl (by kernel_rfl) (fun _ _ _ h => h) (Or.inl ⟨by rfl, fun Y => by go_simp⟩) ?_
      simp only [Act.put, List.setIfInBounds_toArray, List.set_cons_zero, List.set_cons_succ]
      refine wpAnyIn_sole 12 (by kernel_rfl) rfl (fun K hK => ?_)
      go_simp
      refine hK _ _ ?_
      clear hK K
      refine wpAnyIn_sole 13 (by kernel_rfl) rfl (fun K hK => ?_)
      go_simp
      refine hK _ _ ?_
      clear hK K
      refine wpAnyIn_done (by kernel_rfl) ?_ _
      have L1 : Errs w1 a0 a1 := (L.below (((Below.refl _ w).alloc (Nat.le_refl _) (.cells #[.int .i64 0, .int .i64 0, .int .i64 0, .int .i64 0, .int .u32 0, .int .u32 0, .int .u32 0, .int .u32 0, .string ⟨#[]⟩] 26)).drew) (Nat.le_refl _)).below hb (by simp)
      have rz : Row w1 w.heap.size #[.int .i64 0, .int .i64 0, .int .i64 0, .int .i64 0, .int .u32 0, .int .u32 0, .int .u32 0, .int .u32 0, .string ⟨#[]⟩] 26 := (Row.new w _ _).drew.below hb (by simp)
      have hB1 : Below w.heap.size w w1 := ((Below.refl _ w).alloc (Nat.le_refl _) _).drew.trans (hb.mono (by simp))
      have u0 := L1.v0
      have u1 := L1.v1
      clear hl1 hvs hb hm
      gi_wp2_with (first
        | (refine ⟨trivial, ?_⟩; gi_at_call 29; refine (callsIn_wide.2 (HSP.out _)).mono ?_; rintro e w2 ⟨rfl, hb2⟩)
        | (refine ⟨trivial, ?_⟩; gi_at_call 30; refine (callsIn_wide.2 (HMK.out _)).mono ?_; rintro e w3 ⟨rfl, hb3⟩; have hc8 : w3.cell? ⟨w2.heap.size, 8, none⟩ = some (.int .u32 (N8.toNat : Int)) := (hb3.cell (p := ⟨w2.heap.size, 8, none⟩) (by simp)).trans (by simp); have hl8 : w2.heap.size < w3.heap.size := lt_of_cell (p := ⟨w2.heap.size, 8, none⟩) hc8; have hn8 : ¬ w2.heap.size = w3.heap.size := by omega
           have hd8 : ∀ o, (w3.alloc o).cell? ⟨w2.heap.size, 8, none⟩ = some (.int .u32 (N8.toNat : Int)) := fun o => (((Below.refl _ w3).alloc (Nat.le_refl _) o).cell (p := ⟨w2.heap.size, 8, none⟩) hl8).trans hc8
           unfold Fr.val Fr.cells)
        | (refine ⟨trivial, ?_⟩; gi_at_call 18; refine (callsIn_wide.2 (frameRight F hds2 _)).mono ?_; rintro e w4 ⟨rfl, hb4⟩; rw [hdr]
           have hz2 := hb2.size
           have hz3 := hb3.size
           simp only [World.size_alloc] at hz3
           have L2 : Errs (w3.alloc (.cells F.cells 26)) a0 a1 := ((((L1.below hb2 (Nat.le_refl _)).below ((Below.refl _ w2).alloc (Nat.le_refl _) _) (Nat.le_refl _)).below hb3 (Nat.le_refl _)).below ((Below.refl _ w3).alloc (Nat.le_refl _) _) (Nat.le_refl _))
           have hwl := rz.lt
           have rz2 := ((((rz.below hb2 hwl).alloc (.cells #[.int .u32 (N0.toNat : Int), .int .u32 (N1.toNat : Int), .int .u32 (N2.toNat : Int), .int .u32 (N3.toNat : Int), .int .u32 (N4.toNat : Int), .int .u32 (N5.toNat : Int), .int .u32 (N6.toNat : Int), .int .u32 (N7.toNat : Int), .int .u32 (N8.toNat : Int)] 47)).below hb3 (by simp; omega)).alloc (.cells F.cells 26))
           have hB2 : Below w.heap.size w (w3.alloc (.cells F.cells 26)) := (((hB1.trans (hb2.mono hB1.size)).alloc (by have := hB1.size; omega) _).trans (hb3.mono (by have := hB1.size; simp; omega))).alloc (by have := hB1.size; omega) _
           clear rz
           have rz := rz2
           clear hdr
           replace L2 := L2.below hb4 (Nat.le_refl _)
           have rz4 := rz.below hb4 (by simp; omega)
           clear rz
           have rz := rz4
           have rF := (Row.new w3 F.cells 26).below hb4 (by simp)
           have hB4 := hB2.trans (hb4.mono hB2.size)
           have hw3 : ¬ w3.heap.size = w.heap.size := by omega
           have hw3' : ¬ w.heap.size = w3.heap.size := by omega
           have u0 := L2.v0
           have u1 := L2.v1
           obtain ⟨g0, g1, g2, g3, g4, g5, g6, g7, g8⟩ := FrIn.of_row rF
           clear hb4 L1 hc8 hd8 hB2 hb2 hb3
           have z0 := rz.cell 0 _ rfl
           have y0 := rz.thawed 0
           have z1 := rz.cell 1 _ rfl
           have y1 := rz.thawed 1
           have z2 := rz.cell 2 _ rfl
           have y2 := rz.thawed 2
           have z3 := rz.cell 3 _ rfl
           have y3 := rz.thawed 3
           have z4 := rz.cell 4 _ rfl
           have y4 := rz.thawed 4
           have z5 := rz.cell 5 _ rfl
           have y5 := rz.thawed 5
           have z6 := rz.cell 6 _ rfl
           have y6 := rz.thawed 6
           have z7 := rz.cell 7 _ rfl
           have y7 := rz.thawed 7
           have z8 := rz.cell 8 _ rfl
           have y8 := rz.thawed 8))
      have rZ := (row_fill (.int .i64 0) (.int .i64 0) (.int .i64 0) (.int .i64 0) (.int .u32 0) (.int .u32 0) (.int .u32 0) (.int .u32 0) (.string ⟨#[]⟩) (.int .i64 F.wire) (.int .i64 F.kind) (.int .i64 F.src) (.int .i64 F.dst) (.int .u32 (F.life.toNat : Int)) (.int .u32 (F.seq.toNat : Int)) (.int .u32 (F.ack.toNat : Int)) (.int .u32 (F.hint.toNat : Int)) (.string F.data) rz)
      have bZ := (below_fill (.int .i64 F.wire) (.int .i64 F.kind) (.int .i64 F.src) (.int .i64 F.dst) (.int .u32 (F.life.toNat : Int)) (.int .u32 (F.seq.toNat : Int)) (.int .u32 (F.ack.toNat : Int)) (.int .u32 (F.hint.toNat : Int)) (.string F.data) hB4 (Nat.le_refl w.heap.size))
      change bodyPost _ _ _ _ _ (fill9 w4 w.heap.size (.int .i64 F.wire) (.int .i64 F.kind) (.int .i64 F.src) (.int .i64 F.dst) (.int .u32 (F.life.toNat : Int)) (.int .u32 (F.seq.toNat : Int)) (.int .u32 (F.ack.toNat : Int)) (.int .u32 (F.hint.toNat : Int)) (.string F.data))
      generalize (fill9 w4 w.heap.size (.int .i64 F.wire) (.int .i64 F.kind) (.int .i64 F.src) (.int .i64 F.dst) (.int .u32 (F.life.toNat : Int)) (.int .u32 (F.seq.toNat : Int)) (.int .u32 (F.ack.toNat : Int)) (.int .u32 (F.hint.toNat : Int)) (.string F.data)) = Z at *
      have p0 := rZ.cell 0 _ rfl; have p1 := rZ.cell 1 _ rfl; have p2 := rZ.cell 2 _ rfl; have p3 := rZ.cell 3 _ rfl; have p4 := rZ.cell 4 _ rfl; have p5 := rZ.cell 5 _ rfl; have p6 := rZ.cell 6 _ rfl; have p7 := rZ.cell 7 _ rfl; have p8 := rZ.cell 8 _ rfl
      exact bodyPost_ret (v := .tuple #[.agg #[.int .i64 F.wire, .int .i64 F.kind, .int .i64 F.src, .int .i64 F.dst, .int .u32 (F.life.toNat : Int), .int .u32 (F.seq.toNat : Int), .int .u32 (F.ack.toNat : Int), .int .u32 (F.hint.toNat : Int), .string F.data], .nilIface]) (by simp [results, Tryd.results12, go_sem, p0, p1, p2, p3, p4, p5, p6, p7, p8]) rfl ⟨rfl, bZ⟩
    · have hdr : decide F.Right = false := by simpa using hr
      rw [if_neg (fun hx => hr hx.2)]
      clear hsz hr
      refine (callsIn_wide (n := 5)).1 ?_
      refine callsIn_of_wp Tryd.func12 rfl trivial ?_ rfl
      simp only [Tryd.ntmps12, List.size_toArray, List.length_cons, List.length_nil, Nat.reduceAdd, Nat.reduceSub, Array.replicate_succ, Array.replicate_zero, List.push_toArray, List.append_toArray, List.nil_append, List.cons_append]
      gi_wp2
      refine wpIn_region_any (by kernel_rfl) ?_
      change wpAnyIn _ _ _ _ _ _ 14 _ _ (w.alloc (.cells #[.int .i64 0, .int .i64 0, .int .i64 0, .int .i64 0, .int .u32 0, .int .u32 0, .int .u32 0, .int .u32 0, .string ⟨#[]⟩] 26)).drew
      refine wpAnyIn_lead wide_plain 1 (v := (.string b)) rfl (by kernel_rfl) (fun _ _ _ h => h) (Or.inl ⟨by rfl, fun Y => by go_simp⟩) ?_
      simp only [Act.put, List.setIfInBounds_toArray, List.set_cons_zero, List.set_cons_succ]
      refine wpAnyIn_lead wide_plain 2 (v := (.int .u8 (b[0].toNat : Int))) rfl (by kernel_rfl) (fun _ _ _ h => h) (Or.inl ⟨by rfl, fun Y => by go_simp⟩) ?_
      simp only [Act.put, List.setIfInBounds_toArray, List.set_cons_zero, List.set_cons_succ]
      refine wpAnyIn_lead wide_plain 3 (v := (.int .i64 (IntKind.i64.wrap (b[0].toNat : Int)))) rfl (by kernel_rfl) (fun _ _ _ h => h) (Or.inl ⟨by rfl, fun Y => by go_simp⟩) ?_
      simp only [Act.put, List.setIfInBounds_toArray, List.set_cons_zero, List.set_cons_succ]
      refine wpAnyIn_lead wide_plain 4 (v := (.string b)) rfl (by kernel_rfl) (fun _ _ _ h => h) (Or.inl ⟨by rfl, fun Y => by go_simp⟩) ?_
      simp only [Act.put, List.setIfInBounds_toArray, List.set_cons_zero, List.set_cons_succ]
      refine wpAnyIn_lead wide_plain 5 (v := (.int .u8 (b[1].toNat : Int))) rfl (by kernel_rfl) (fun _ _ _ h => h) (Or.inl ⟨by rfl, fun Y => by go_simp⟩) ?_
      simp only [Act.put, List.setIfInBounds_toArray, List.set_cons_zero, List.set_cons_succ]
      refine wpAnyIn_lead wide_plain 6 (v := (.int .i64 (IntKind.i64.wrap (b[1].toNat : Int)))) rfl (by kernel_rfl) (fun _ _ _ h => h) (Or.inl ⟨by rfl, fun Y => by go_simp⟩) ?_
      simp only [Act.put, List.setIfInBounds_toArray, List.set_cons_zero, List.set_cons_succ]
      refine wpAnyIn_lead wide_plain 7 (v := (key2 (IntKind.i64.wrap (b[0].toNat : Int)) (IntKind.i64.wrap (b[1].toNat : Int)))) rfl (by kernel_rfl) (fun _ _ _ h => h) (Or.inl ⟨by rfl, fun Y => by go_simp⟩) ?_
      simp only [Act.put, List.setIfInBounds_toArray, List.set_cons_zero, List.set_cons_succ]
      refine wpAnyIn_sole 0 (by kernel_rfl) rfl (fun K hK => ?_)
      go_simp
      refine ⟨trivial, callsIn_wide.2 ((frameVersions _).mono ?_)⟩
      rintro e w1 ⟨m, rfl, hm, hvs, hb⟩
      have hl1 := HL.out w1 m hvs
      refine hK _ _ ?_
      clear hK K
      refine wpAnyIn_sole 8 (by kernel_rfl) rfl (fun K hK => ?_)
      go_simp
      refine hK _ _ ?_
      clear hK K
      refine wpAnyIn_lead wide_plain 9 (v := (.tuple #[.int .i64 q, .bool true])) rfl (by kernel_rfl) (fun _ _ _ h => h) (Or.inl ⟨by rfl, fun Y => by go_simp⟩) ?_
      simp only [Act.put, List.setIfInBounds_toArray, List.set_cons_zero, List.set_cons_succ]
      refine wpAnyIn_lead wide_plain 10 (v := (.int .i64 q)) rfl (by kernel_rfl) (fun _ _ _ h => h) (Or.inl ⟨by rfl, fun Y => by go_simp⟩) ?_
      simp only [Act.put, List.setIfInBounds_toArray, List.set_cons_zero, List.set_cons_succ]
      refine wpAnyIn_lead wide_plain 11 (v := (.bool true)) rfl (by kernel_rfl) (fun _ _ _ h => h) (Or.inl ⟨by rfl, fun Y => by go_simp⟩) ?_
      simp only [Act.put, List.setIfInBounds_toArray, List.set_cons_zero, List.set_cons_succ]
      refine wpAnyIn_sole 12 (by kernel_rfl) rfl (fun K hK => ?_)
      go_simp
      refine hK _ _ ?_
      clear hK K
      refine wpAnyIn_sole 13 (by kernel_rfl) rfl (fun K hK => ?_)
      go_simp
      refine hK _ _ ?_
      clear hK K
      refine wpAnyIn_done (by kernel_rfl) ?_ _
      have L1 : Errs w1 a0 a1 := (L.below (((Below.refl _ w).alloc (Nat.le_refl _) (.cells #[.int .i64 0, .int .i64 0, .int .i64 0, .int .i64 0, .int .u32 0, .int .u32 0, .int .u32 0, .int .u32 0, .string ⟨#[]⟩] 26)).drew) (Nat.le_refl _)).below hb (by simp)
      have rz : Row w1 w.heap.size #[.int .i64 0, .int .i64 0, .int .i64 0, .int .i64 0, .int .u32 0, .int .u32 0, .int .u32 0, .int .u32 0, .string ⟨#[]⟩] 26 := (Row.new w _ _).drew.below hb (by simp)
      have hB1 : Below w.heap.size w w1 := ((Below.refl _ w).alloc (Nat.le_refl _) _).drew.trans (hb.mono (by simp))
      have u0 := L1.v0
      have u1 := L1.v1
      clear hl1 hvs hb hm
      gi_wp2_with (first
        | (refine ⟨trivial, ?_⟩; gi_at_call 29; refine (callsIn_wide.2 (HSP.out _)).mono ?_; rintro e w2 ⟨rfl, hb2⟩)
        | (refine ⟨trivial, ?_⟩; gi_at_call 30; refine (callsIn_wide.2 (HMK.out _)).mono ?_; rintro e w3 ⟨rfl, hb3⟩; have hc8 : w3.cell? ⟨w2.heap.size, 8, none⟩ = some (.int .u32 (N8.toNat : Int)) := (hb3.cell (p := ⟨w2.heap.size, 8, none⟩) (by simp)).trans (by simp); have hl8 : w2.heap.size < w3.heap.size := lt_of_cell (p := ⟨w2.heap.size, 8, none⟩) hc8; have hn8 : ¬ w2.heap.size = w3.heap.size := by omega
           have hd8 : ∀ o, (w3.alloc o).cell? ⟨w2.heap.size, 8, none⟩ = some (.int .u32 (N8.toNat : Int)) := fun o => (((Below.refl _ w3).alloc (Nat.le_refl _) o).cell (p := ⟨w2.heap.size, 8, none⟩) hl8).trans hc8
           unfold Fr.val Fr.cells)
        | (refine ⟨trivial, ?_⟩; gi_at_call 18; refine (callsIn_wide.2 (frameRight F hds2 _)).mono ?_; rintro e w4 ⟨rfl, hb4⟩; rw [hdr]
           have hz2 := hb2.size
           have hz3 := hb3.size
           simp only [World.size_alloc] at hz3
           have L2 : Errs (w3.alloc (.cells F.cells 26)) a0 a1 := ((((L1.below hb2 (Nat.le_refl _)).below ((Below.refl _ w2).alloc (Nat.le_refl _) _) (Nat.le_refl _)).below hb3 (Nat.le_refl _)).below ((Below.refl _ w3).alloc (Nat.le_refl _) _) (Nat.le_refl _))
           have hwl := rz.lt
           have rz2 := ((((rz.below hb2 hwl).alloc (.cells #[.int .u32 (N0.toNat : Int), .int .u32 (N1.toNat : Int), .int .u32 (N2.toNat : Int), .int .u32 (N3.toNat : Int), .int .u32 (N4.toNat : Int), .int .u32 (N5.toNat : Int), .int .u32 (N6.toNat : Int), .int .u32 (N7.toNat : Int), .int .u32 (N8.toNat : Int)] 47)).below hb3 (by simp; omega)).alloc (.cells F.cells 26))
           have hB2 : Below w.heap.size w (w3.alloc (.cells F.cells 26)) := (((hB1.trans (hb2.mono hB1.size)).alloc (by have := hB1.size; omega) _).trans (hb3.mono (by have := hB1.size; simp; omega))).alloc (by have := hB1.size; omega) _
           clear rz
           have rz := rz2
           clear hdr
           replace L2 := L2.below hb4 (Nat.le_refl _)
           have rz4 := rz.below hb4 (by simp; omega)
           clear rz
           have rz := rz4
           have rF := (Row.new w3 F.cells 26).below hb4 (by simp)
           have hB4 := hB2.trans (hb4.mono hB2.size)
           have hw3 : ¬ w3.heap.size = w.heap.size := by omega
           have hw3' : ¬ w.heap.size = w3.heap.size := by omega
           have u0 := L2.v0
           have u1 := L2.v1
           obtain ⟨g0, g1, g2, g3, g4, g5, g6, g7, g8⟩ := FrIn.of_row rF
           clear hb4 L1 hc8 hd8 hB2 hb2 hb3
           have z0 := rz.cell 0 _ rfl
           have y0 := rz.thawed 0
           have z1 := rz.cell 1 _ rfl
           have y1 := rz.thawed 1
           have z2 := rz.cell 2 _ rfl
           have y2 := rz.thawed 2
           have z3 := rz.cell 3 _ rfl
           have y3 := rz.thawed 3
           have z4 := rz.cell 4 _ rfl
           have y4 := rz.thawed 4
           have z5 := rz.cell 5 _ rfl
           have y5 := rz.thawed 5
           have z6 := rz.cell 6 _ rfl
           have y6 := rz.thawed 6
           have z7 := rz.cell 7 _ rfl
           have y7 := rz.thawed 7
           have z8 := rz.cell 8 _ rfl
           have y8 := rz.thawed 8))
      gi_region
      gi_wp2
      have rZ := (row_fill (.int .i64 0) (.int .i64 0) (.int .i64 0) (.int .i64 0) (.int .u32 0) (.int .u32 0) (.int .u32 0) (.int .u32 0) (.string ⟨#[]⟩) (.int .i64 0) (.int .i64 0) (.int .i64 0) (.int .i64 0) (.int .u32 0) (.int .u32 0) (.int .u32 0) (.int .u32 0) (.string ⟨#[]⟩) rz).drew
      have bZ := (below_fill (.int .i64 0) (.int .i64 0) (.int .i64 0) (.int .i64 0) (.int .u32 0) (.int .u32 0) (.int .u32 0) (.int .u32 0) (.string ⟨#[]⟩) hB4 (Nat.le_refl w.heap.size)).drew
      change bodyPost _ _ _ _ _ (fill9 w4 w.heap.size (.int .i64 0) (.int .i64 0) (.int .i64 0) (.int .i64 0) (.int .u32 0) (.int .u32 0) (.int .u32 0) (.int .u32 0) (.string ⟨#[]⟩)).drew
      generalize (fill9 w4 w.heap.size (.int .i64 0) (.int .i64 0) (.int .i64 0) (.int .i64 0) (.int .u32 0) (.int .u32 0) (.int .u32 0) (.int .u32 0) (.string ⟨#[]⟩)).drew = Z at *
      have p0 := rZ.cell 0 _ rfl; have p1 := rZ.cell 1 _ rfl; have p2 := rZ.cell 2 _ rfl; have p3 := rZ.cell 3 _ rfl; have p4 := rZ.cell 4 _ rfl; have p5 := rZ.cell 5 _ rfl; have p6 := rZ.cell 6 _ rfl; have p7 := rZ.cell 7 _ rfl; have p8 := rZ.cell 8 _ rfl
      exact bodyPost_ret (v := .tuple #[.agg #[.int .i64 0, .int .i64 0, .int .i64 0, .int .i64 0, .int .u32 0, .int .u32 0, .int .u32 0, .int .u32 0, .string ⟨#[]⟩], errV a1]) (by simp [results, Tryd.results12, go_sem, p0, p1, p2, p3, p4, p5, p6, p7, p8]) rfl ⟨rfl, bZ⟩
  · have hbs : ((N8.toNat : Int) != (F.data.size : Int)) = true := by rw [bne_iff_ne]; omega
    rw [if_neg (fun hx => hsz hx.1)]
    clear hsz
    refine (callsIn_wide (n := 5)).1 ?_
    refine callsIn_of_wp Tryd.func12 rfl trivial ?_ rfl
    simp only [Tryd.ntmps12, List.size_toArray, List.length_cons, List.length_nil, Nat.reduceAdd, Nat.reduceSub, Array.replicate_succ, Array.replicate_zero, List.push_toArray, List.append_toArray, List.nil_append, List.cons_append]
    gi_wp2
    refine wpIn_region_any (by kernel_rfl) ?_
    change wpAnyIn _ _ _ _ _ _ 14 _ _ (w.alloc (.cells #[.int .i64 0, .int .i64 0, .int .i64 0, .int .i64 0, .int .u32 0, .int .u32 0, .int .u32 0, .int .u32 0, .string ⟨#[]⟩] 26)).drew
    refine wpAnyIn_lead wide_plain 1 (v := (.string b)) rfl (by kernel_rfl) (fun _ _ _ h => h) (Or.inl ⟨by rfl, fun Y => by go_simp⟩) ?_
    simp only [Act.put, List.setIfInBounds_toArray, List.set_cons_zero, List.set_cons_succ]
    refine wpAnyIn_lead wide_plain 2 (v := (.int .u8 (b[0].toNat : Int))) rfl (by kernel_rfl) (fun _ _ _ h => h) (Or.inl ⟨by rfl, fun Y => by go_simp⟩) ?_
    simp only [Act.put, List.setIfInBounds_toArray, List.set_cons_zero, List.set_cons_succ]
    refine wpAnyIn_lead wide_plain 3 (v := (.int .i64 (IntKind.i64.wrap (b[0].toNat : Int)))) rfl (by kernel_rfl) (fun _ _ _ h => h) (Or.inl ⟨by rfl, fun Y => by go_simp⟩) ?_
    simp only [Act.put, List.setIfInBounds_toArray, List.set_cons_zero, List.set_cons_succ]
    refine wpAnyIn_lead wide_plain 4 (v := (.string b)) rfl (by kernel_rfl) (fun _ _ _ h => h) (Or.inl ⟨by rfl, fun Y => by go_simp⟩) ?_
    simp only [Act.put, List.setIfInBounds_toArray, List.set_cons_zero, List.set_cons_succ]
    refine wpAnyIn_lead wide_plain 5 (v := (.int .u8 (b[1].toNat : Int))) rfl (by kernel_rfl) (fun _ _ _ h => h) (Or.inl ⟨by rfl, fun Y => by go_simp⟩) ?_
    simp only [Act.put, List.setIfInBounds_toArray, List.set_cons_zero, List.set_cons_succ]
    refine wpAnyIn_lead wide_plain 6 (v := (.int .i64 (IntKind.i64.wrap (b[1].toNat : Int)))) rfl (by kernel_rfl) (fun _ _ _ h => h) (Or.inl ⟨by rfl, fun Y => by go_simp⟩) ?_
    simp only [Act.put, List.setIfInBounds_toArray, List.set_cons_zero, List.set_cons_succ]
    refine wpAnyIn_lead wide_plain 7 (v := (key2 (IntKind.i64.wrap (b[0].toNat : Int)) (IntKind.i64.wrap (b[1].toNat : Int)))) rfl (by kernel_rfl) (fun _ _ _ h => h) (Or.inl ⟨by rfl, fun Y => by go_simp⟩) ?_
    simp only [Act.put, List.setIfInBounds_toArray, List.set_cons_zero, List.set_cons_succ]
    refine wpAnyIn_sole 0 (by kernel_rfl) rfl (fun K hK => ?_)
    go_simp
    refine ⟨trivial, callsIn_wide.2 ((frameVersions _).mono ?_)⟩
    rintro e w1 ⟨m, rfl, hm, hvs, hb⟩
    have hl1 := HL.out w1 m hvs
    refine hK _ _ ?_
    clear hK K
    refine wpAnyIn_sole 8 (by kernel_rfl) rfl (fun K hK => ?_)
    go_simp
    refine hK _ _ ?_
    clear hK K
    refine wpAnyIn_lead wide_plain 9 (v := (.tuple #[.int .i64 q, .bool true])) rfl (by kernel_rfl) (fun _ _ _ h => h) (Or.inl ⟨by rfl, fun Y => by go_simp⟩) ?_
    simp only [Act.put, List.setIfInBounds_toArray, List.set_cons_zero, List.set_cons_succ]
    refine wpAnyIn_lead wide_plain 10 (v := (.int .i64 q)) rfl (by kernel_rfl) (fun _ _ _ h => h) (Or.inl ⟨by rfl, fun Y => by go_simp⟩) ?_
    simp only [Act.put, List.setIfInBounds_toArray, List.set_cons_zero, List.set_cons_succ]
    refine wpAnyIn_lead wide_plain 11 (v := (.bool true)) rfl (by kernel_rfl) (fun _ _ _ h => h) (Or.inl ⟨by rfl, fun Y => by go_simp⟩) ?_
    simp only [Act.put, List.setIfInBounds_toArray, List.set_cons_zero, List.set_cons_succ]
    refine wpAnyIn_sole 12 (by kernel_rfl) rfl (fun K hK => ?_)
    go_simp
    refine hK _ _ ?_
    clear hK K
    refine wpAnyIn_sole 13 (by kernel_rfl) rfl (fun K hK => ?_)
    go_simp
    refine hK _ _ ?_
    clear hK K
    refine wpAnyIn_done (by kernel_rfl) ?_ _
    have L1 : Errs w1 a0 a1 := (L.below (((Below.refl _ w).alloc (Nat.le_refl _) (.cells #[.int .i64 0, .int .i64 0, .int .i64 0, .int .i64 0, .int .u32 0, .int .u32 0, .int .u32 0, .int .u32 0, .string ⟨#[]⟩] 26)).drew) (Nat.le_refl _)).below hb (by simp)
    have rz : Row w1 w.heap.size #[.int .i64 0, .int .i64 0, .int .i64 0, .int .i64 0, .int .u32 0, .int .u32 0, .int .u32 0, .int .u32 0, .string ⟨#[]⟩] 26 := (Row.new w _ _).drew.below hb (by simp)
    have hB1 : Below w.heap.size w w1 := ((Below.refl _ w).alloc (Nat.le_refl _) _).drew.trans (hb.mono (by simp))
    have u0 := L1.v0
    have u1 := L1.v1
    clear hl1 hvs hb hm
    gi_wp2_with (first
      | (refine ⟨trivial, ?_⟩; gi_at_call 29; refine (callsIn_wide.2 (HSP.out _)).mono ?_; rintro e w2 ⟨rfl, hb2⟩)
      | (refine ⟨trivial, ?_⟩; gi_at_call 30; refine (callsIn_wide.2 (HMK.out _)).mono ?_; rintro e w3 ⟨rfl, hb3⟩; have hc8 : w3.cell? ⟨w2.heap.size, 8, none⟩ = some (.int .u32 (N8.toNat : Int)) := (hb3.cell (p := ⟨w2.heap.size, 8, none⟩) (by simp)).trans (by simp); have hl8 : w2.heap.size < w3.heap.size := lt_of_cell (p := ⟨w2.heap.size, 8, none⟩) hc8; have hn8 : ¬ w2.heap.size = w3.heap.size := by omega
         have hd8 : ∀ o, (w3.alloc o).cell? ⟨w2.heap.size, 8, none⟩ = some (.int .u32 (N8.toNat : Int)) := fun o => (((Below.refl _ w3).alloc (Nat.le_refl _) o).cell (p := ⟨w2.heap.size, 8, none⟩) hl8).trans hc8
         unfold Fr.val Fr.cells))
    have hz2 := hb2.size
    have hz3 := hb3.size
    simp only [World.size_alloc] at hz3
    have L2 : Errs (w3.alloc (.cells F.cells 26)) a0 a1 := ((((L1.below hb2 (Nat.le_refl _)).below ((Below.refl _ w2).alloc (Nat.le_refl _) _) (Nat.le_refl _)).below hb3 (Nat.le_refl _)).below ((Below.refl _ w3).alloc (Nat.le_refl _) _) (Nat.le_refl _))
    have hwl := rz.lt
    have rz2 := ((((rz.below hb2 hwl).alloc (.cells #[.int .u32 (N0.toNat : Int), .int .u32 (N1.toNat : Int), .int .u32 (N2.toNat : Int), .int .u32 (N3.toNat : Int), .int .u32 (N4.toNat : Int), .int .u32 (N5.toNat : Int), .int .u32 (N6.toNat : Int), .int .u32 (N7.toNat : Int), .int .u32 (N8.toNat : Int)] 47)).below hb3 (by simp; omega)).alloc (.cells F.cells 26))
    have hB2 : Below w.heap.size w (w3.alloc (.cells F.cells 26)) := (((hB1.trans (hb2.mono hB1.size)).alloc (by have := hB1.size; omega) _).trans (hb3.mono (by have := hB1.size; simp; omega))).alloc (by have := hB1.size; omega) _
    clear rz
    have rz := rz2
    refine ⟨trivial, ?_⟩
    gi_wp2
    change Code.wpIn _ _ _ _ _ _ (w3.alloc (.cells F.cells 26))
    generalize w3.alloc (.cells F.cells 26) = Y at *
    have u0 := L2.v0
    have u1 := L2.v1
    have z0 := rz.cell 0 _ rfl
    have y0 := rz.thawed 0
    have z1 := rz.cell 1 _ rfl
    have y1 := rz.thawed 1
    have z2 := rz.cell 2 _ rfl
    have y2 := rz.thawed 2
    have z3 := rz.cell 3 _ rfl
    have y3 := rz.thawed 3
    have z4 := rz.cell 4 _ rfl
    have y4 := rz.thawed 4
    have z5 := rz.cell 5 _ rfl
    have y5 := rz.thawed 5
    have z6 := rz.cell 6 _ rfl
    have y6 := rz.thawed 6
    have z7 := rz.cell 7 _ rfl
    have y7 := rz.thawed 7
    have z8 := rz.cell 8 _ rfl
    have y8 := rz.thawed 8
    gi_region
    gi_wp2
    have rZ := (row_fill (.int .i64 0) (.int .i64 0) (.int .i64 0) (.int .i64 0) (.int .u32 0) (.int .u32 0) (.int .u32 0) (.int .u32 0) (.string ⟨#[]⟩) (.int .i64 0) (.int .i64 0) (.int .i64 0) (.int .i64 0) (.int .u32 0) (.int .u32 0) (.int .u32 0) (.int .u32 0) (.string ⟨#[]⟩) rz).drew
    have bZ := (below_fill (.int .i64 0) (.int .i64 0) (.int .i64 0) (.int .i64 0) (.int .u32 0) (.int .u32 0) (.int .u32 0) (.int .u32 0) (.string ⟨#[]⟩) hB2 (Nat.le_refl w.heap.size)).drew
    change bodyPost _ _ _ _ _ (fill9 Y w.heap.size (.int .i64 0) (.int .i64 0) (.int .i64 0) (.int .i64 0) (.int .u32 0) (.int .u32 0) (.int .u32 0) (.int .u32 0) (.string ⟨#[]⟩)).drew
    generalize (fill9 Y w.heap.size (.int .i64 0) (.int .i64 0) (.int .i64 0) (.int .i64 0) (.int .u32 0) (.int .u32 0) (.int .u32 0) (.int .u32 0) (.string ⟨#[]⟩)).drew = Z at *
    have p0 := rZ.cell 0 _ rfl; have p1 := rZ.cell 1 _ rfl; have p2 := rZ.cell 2 _ rfl; have p3 := rZ.cell 3 _ rfl; have p4 := rZ.cell 4 _ rfl; have p5 := rZ.cell 5 _ rfl; have p6 := rZ.cell 6 _ rfl; have p7 := rZ.cell 7 _ rfl; have p8 := rZ.cell 8 _ rfl
    exact bodyPost_ret (v := .tuple #[.agg #[.int .i64 0, .int .i64 0, .int .i64 0, .int .i64 0, .int .u32 0, .int .u32 0, .int .u32 0, .int .u32 0, .string ⟨#[]⟩], errV a1]) (by simp [results, Tryd.results12, go_sem, p0, p1, p2, p3, p4, p5, p6, p7, p8]) rfl ⟨rfl, bZ⟩
end Go.Proofs.YtphfnlgjiomjkaaDoor
