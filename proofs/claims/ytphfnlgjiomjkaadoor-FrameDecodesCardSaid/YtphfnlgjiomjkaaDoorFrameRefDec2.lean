/-
  The document's frame of bytes, walked: bytes that are long enough.
-/
import Derived.Test.YtphfnlgjiomjkaaDoorFrameRefDec
namespace Go.Proofs.YtphfnlgjiomjkaaDoor
open Go.RowKit Go.Shelf
attribute [local go_sem] Oper.semAt_some
set_option linter.unusedVariables false
set_option linter.unusedSimpArgs false
open Bytes

theorem row_drewN {W : World} {b : Nat} {c : Array Value} {t : TypeId} (h : Row W b c t) (n : Nat) : Row (W.drewN n) b c t := h
theorem at_two (b : ByteArray) (h : 2 < b.size) : b[2] = at' b.data.toList 2 := by
  rw [at', List.getD_eq_getElem?_getD, List.getElem?_eq_getElem (by simpa using h)]; rfl
theorem at_three (b : ByteArray) (h : 3 < b.size) : b[3] = at' b.data.toList 3 := by
  rw [at', List.getD_eq_getElem?_getD, List.getElem?_eq_getElem (by simpa using h)]; rfl
/-- The number at a place, by an int. -/
def numI (b : ByteArray) (o : Int) : Int := ((num b.data.toList o.toNat).toNat : Int)
theorem rowOf {n : Nat} {w W : World} (h : Below n w W) (c : Array Value) (t : TypeId) : Row (W.alloc (.cells c t)) W.heap.size c t := Row.new W c t
theorem row_at {W wp : World} {b nn : Nat} {c : Array Value} {t : TypeId} (hn : wp = W.drewN nn) (h : Row W b c t) : Row wp b c t := by rw [hn]; exact h
theorem below_at {n nn : Nat} {w W wp : World} (hn : wp = W.drewN nn) (h : Below n w W) : Below n w wp := by rw [hn]; exact below_drewN h nn
theorem cutA {n : Nat} {w W : World} {c d : Array Value} {t : TypeId} (rz : Row W n c t) (hB : Below n w W) (hlt : n < W.heap.size) : ∃ B : Nat, n < B ∧ Value.pointer (some ⟨W.heap.size, 0, none⟩) = Value.pointer (some ⟨B, 0, none⟩) ∧ Row (W.alloc (.cells d t)) B d t ∧ Row (W.alloc (.cells d t)) n c t ∧ Below n w (W.alloc (.cells d t)) := ⟨_, hlt, rfl, Row.new _ _ _, rz.alloc _, hB.alloc (Nat.le_of_lt hlt) _⟩
theorem cutB {n b : Nat} {w W : World} {c : Array Value} {t : TypeId} {x0 x1 x2 x3 x4 x5 x6 x7 x8 y0 y1 y2 y3 y4 y5 y6 y7 y8 : Value} (rb : Row W b #[x0, x1, x2, x3, x4, x5, x6, x7, x8] t) (rz : Row W n c t) (hB : Below n w W) (hlt : n < b) : ∃ B : Nat, n < B ∧ Value.pointer (some ⟨b, 0, none⟩) = Value.pointer (some ⟨B, 0, none⟩) ∧ Row (((((((((W.setCell ⟨b, 0, none⟩ y0).setCell ⟨b, 1, none⟩ y1).setCell ⟨b, 2, none⟩ y2).setCell ⟨b, 3, none⟩ y3).setCell ⟨b, 4, none⟩ y4).setCell ⟨b, 5, none⟩ y5).setCell ⟨b, 6, none⟩ y6).setCell ⟨b, 7, none⟩ y7).setCell ⟨b, 8, none⟩ y8) B #[y0, y1, y2, y3, y4, y5, y6, y7, y8] t ∧ Row (((((((((W.setCell ⟨b, 0, none⟩ y0).setCell ⟨b, 1, none⟩ y1).setCell ⟨b, 2, none⟩ y2).setCell ⟨b, 3, none⟩ y3).setCell ⟨b, 4, none⟩ y4).setCell ⟨b, 5, none⟩ y5).setCell ⟨b, 6, none⟩ y6).setCell ⟨b, 7, none⟩ y7).setCell ⟨b, 8, none⟩ y8) n c t ∧ Below n w (((((((((W.setCell ⟨b, 0, none⟩ y0).setCell ⟨b, 1, none⟩ y1).setCell ⟨b, 2, none⟩ y2).setCell ⟨b, 3, none⟩ y3).setCell ⟨b, 4, none⟩ y4).setCell ⟨b, 5, none⟩ y5).setCell ⟨b, 6, none⟩ y6).setCell ⟨b, 7, none⟩ y7).setCell ⟨b, 8, none⟩ y8) := by
  have h1 := row_fill x0 x1 x2 x3 x4 x5 x6 x7 x8 y0 y1 y2 y3 y4 y5 y6 y7 y8 rb
  have h2 : Row (fill9 W b y0 y1 y2 y3 y4 y5 y6 y7 y8) n c t := rz.below (below_fill (n := n + 1) y0 y1 y2 y3 y4 y5 y6 y7 y8 (Below.refl _ _) hlt) (Nat.lt_succ_self n)
  have h3 := below_fill y0 y1 y2 y3 y4 y5 y6 y7 y8 hB (Nat.le_of_lt hlt)
  exact ⟨b, hlt, rfl, h1, h2, h3⟩
def placed (o : Int) : Bool := o == 4 || o == 8 || o == 12 || o == 16 || o == 20
theorem refNum (b : ByteArray) (o : Int) (w : World) (ho : placed o = true) (h : o + 4 ≤ (b.size : Int)) : Calls Tryd.prog 16 #[.string b, .int .i64 o] w fun e w' => e = .returned (.int .u32 (numI b o)) ∧ ∃ n, w' = w.drewN n := by
  simp only [placed, Bool.or_eq_true, beq_iff_eq] at ho
  rcases ho with (((rfl | rfl) | rfl) | rfl) | rfl
  · exact refNum4 b (by omega) w
  · exact refNum8 b (by omega) w
  · exact refNum12 b (by omega) w
  · exact refNum16 b (by omega) w
  · exact refNum20 b (by omega) w
theorem i64_byte (x : UInt8) : IntKind.i64.wrap (x.toNat : Int) = (x.toNat : Int) := by
  have := x.toNat_lt
  exact IntWalk.i64_in _ (by omega)
theorem wrap_small (y : Int) (h0 : 0 ≤ y) (h1 : y < 256) : IntKind.i64.wrap y = y ∧ IntKind.u8.wrap y = y := by
  constructor
  · exact IntWalk.i64_in _ (by omega)
  · exact IntWalk.u8_in _ (by omega)
theorem cvals (b : ByteArray) (h3 : 3 < b.size) (h2 : 2 < b.size) (h1 : 1 < b.size) : (#[.int .i64 (IntKind.i64.wrap ((b[1].toNat : Int))), .int .i64 (IntKind.i64.wrap ((b[2].toNat : Int))), .int .i64 (IntKind.i64.wrap (IntKind.u8.wrap (((b[3].toNat : Int)) / 16))), .int .i64 (IntKind.i64.wrap (((b[3].toNat : Int)).tmod 16)), .int .u32 (numI b 4), .int .u32 (numI b 8), .int .u32 (numI b 12), .int .u32 0, .string ⟨#[]⟩] : Array Value) = #[.int .i64 (fr b.data.toList).wire, .int .i64 (fr b.data.toList).kind, .int .i64 (fr b.data.toList).src, .int .i64 (fr b.data.toList).dst, .int .u32 ((fr b.data.toList).life.toNat : Int), .int .u32 ((fr b.data.toList).seq.toNat : Int), .int .u32 ((fr b.data.toList).ack.toNat : Int), .int .u32 0, .string ⟨#[]⟩] := by
  have e1 := at_one b h1
  have e2 := at_two b h2
  have e3 := at_three b h3
  have l3 := (b[3]).toNat_lt
  have q1 : ((b[3].toNat : Int)).tmod 16 = ((b[3].toNat : Int)) % 16 := Int.tmod_eq_emod_of_nonneg (by omega)
  rw [q1, i64_byte, i64_byte, (wrap_small (((b[3].toNat : Int)) / 16) (by omega) (by omega)).2, (wrap_small (((b[3].toNat : Int)) / 16) (by omega) (by omega)).1, (wrap_small (((b[3].toNat : Int)) % 16) (by omega) (by omega)).1, e1, e2, e3]
  rfl
set_option maxRecDepth 100000 in
set_option maxHeartbeats 4000000 in
theorem refDecTwo (s : ByteArray) (hs : s.size ≤ 100000) (b : ByteArray) (hb : openT s = b) (ho : openB s = true) (hlen : 24 ≤ b.size) (h72 : at' b.data.toList 0 = 72) (h1 : at' b.data.toList 1 = 2) (w : World) : Calls Tryd.prog 7 #[.string s] w fun e w' => e = .returned (.tuple #[(if good b.data.toList = true then fr b.data.toList else Fr.nil).val, .int .i64 (if good b.data.toList = true then 0 else 20)]) ∧ Below w.heap.size w w' := by
  have hv : ver ((at' b.data.toList 1).toNat : Int) = true := by rw [h1]; rfl
  have h := fun W => refOpen s hs W
  have hbs := openT_size s
  rw [ho] at h
  rw [hb] at h hbs
  clear hb
  have HO := Lib.hid h
  clear h
  have hi0 : 0 < b.size := by omega
  have hi1 : 1 < b.size := by omega
  have hj0 : (0 : Int) < (b.size : Int) := by omega
  have hj1 : (1 : Int) < (b.size : Int) := by omega
  have hi2 : 2 < b.size := by omega
  have hi3 : 3 < b.size := by omega
  have hj2 : (2 : Int) < (b.size : Int) := by omega
  have hj3 : (3 : Int) < (b.size : Int) := by omega
  have HCV := Lib.hid (cvals b hi3 hi2 hi1)
  have hwire : (fr b.data.toList).wire = 2 := by show ((at' b.data.toList 1).toNat : Int) = _; rw [h1]; rfl
  have HWIRE := Lib.hid hwire
  clear hwire
  have hd2g : decide (2 ≤ (b.size : Int)) = true := by simp; omega
  have hd20l : decide ((b.size : Int) < 20) = false := by simp; omega
  have hd24l : decide ((b.size : Int) < 24) = false := by simp; omega
  have hq : ((b[0].toNat : Int) == 72) = true := by rw [at_zero b hi0, h72]; rfl
  have hq' : ((b[0].toNat : Int) != 72) = false := by rw [at_zero b hi0, h72]; rfl
  have hvp : ver (b[1].toNat : Int) = true := by rw [at_one b hi1]; exact hv
  have hvv : ver (wrap64 (b[1].toNat : Int)) = true := by rw [wrap64_byte]; exact hvp
  have hw2 : ((b[1].toNat : Int) == 2) = true := by rw [at_one b hi1, h1]; rfl
  have HN := Lib.hid (refNum b)
  have HBS := Lib.hid (show b.size ≤ 100000 by omega)
  have H1 := Lib.hid (And.intro h72 h1)
  clear ho hbs h72 hv h1
  obtain ⟨Res, hRes⟩ : ∃ Res, (Value.tuple #[(if good b.data.toList = true then fr b.data.toList else Fr.nil).val, .int .i64 (if good b.data.toList = true then 0 else 20)]) = Res := ⟨_, rfl⟩
  rw [hRes]
  have HRes := Lib.hid hRes
  clear hRes
  go_enter Tryd.func7, Tryd.ntmps7
  have rz := Row.new w #[.int .i64 0, .int .i64 0, .int .i64 0, .int .i64 0, .int .u32 0, .int .u32 0, .int .u32 0, .int .u32 0, .string ⟨#[]⟩] 26
  have hB0 : Below w.heap.size w (w.alloc (.cells #[.int .i64 0, .int .i64 0, .int .i64 0, .int .i64 0, .int .u32 0, .int .u32 0, .int .u32 0, .int .u32 0, .string ⟨#[]⟩] 26)) := (Below.refl _ w).alloc (Nat.le_refl _) _
  go_upto_region 8 with (first
    | (go_at_call 14
       refine (HO.out _).mono ?_
       rintro e w1 ⟨rfl, hb1⟩
       replace hB0 := hB0.trans (hb1.mono hB0.size)
       replace rz := rz.below hb1 rz.lt
       clear hb1
       have z0 := rz.cell 0 _ rfl
       have y0 := rz.thawed 0
       have z1 := rz.cell 1 _ rfl
       have y1 := rz.thawed 1
       have z2 := rz.cell 2 _ rfl
       have y2 := rz.thawed 2
       have z3 := rz.cell 3 _ rfl
       have y3 := rz.thawed 3
       have z4 := rz.cell 4 _ rfl
       have y4 := rz.thawed 4
       have z5 := rz.cell 5 _ rfl
       have y5 := rz.thawed 5
       have z6 := rz.cell 6 _ rfl
       have y6 := rz.thawed 6
       have z7 := rz.cell 7 _ rfl
       have y7 := rz.thawed 7
       have z8 := rz.cell 8 _ rfl
       have y8 := rz.thawed 8)
    | (go_at_call 15; refine (refVersion _ _).mono ?_; rintro e w2 ⟨rfl, rfl⟩; first | rw [hvv] | rw [hvp]))
  clear z0 z1 z2 z3 z4 z5 z6 z7 z8 y0 y1 y2 y3 y4 y5 y6 y7 y8
  replace rz := rz.drew
  replace hB0 := hB0.drew
  go_cut [6] (fun s6 wx => ∃ B : Nat, w.heap.size < B ∧ s6 = .pointer (some ⟨B, 0, none⟩) ∧ Row wx B #[.int .i64 (IntKind.i64.wrap ((b[1].toNat : Int))), .int .i64 (IntKind.i64.wrap ((b[2].toNat : Int))), .int .i64 (IntKind.i64.wrap (IntKind.u8.wrap (((b[3].toNat : Int)) / 16))), .int .i64 (IntKind.i64.wrap (((b[3].toNat : Int)).tmod 16)), .int .u32 (numI b 4), .int .u32 (numI b 8), .int .u32 (numI b 12), .int .u32 0, .string ⟨#[]⟩] 26 ∧ Row wx w.heap.size #[.int .i64 0, .int .i64 0, .int .i64 0, .int .i64 0, .int .u32 0, .int .u32 0, .int .u32 0, .int .u32 0, .string ⟨#[]⟩] 26 ∧ Below w.heap.size w wx)
  case first =>
    refine wp_region_held_drew (S := fun _ => True) (by kernel_rfl) trivial (fun _ => ?_)
    refine wpAnyH_take (i := 0) (v := .string b) rfl (by kernel_rfl) (by kernel_rfl) (by kernel_rfl) (fun _ _ _ h => h) (Or.inl ⟨by kernel_rfl, fun W hW => by go_simp⟩) trivial ?_
    simp only [Act.put, List.setIfInBounds_toArray, List.set_cons_zero, List.set_cons_succ]
    refine wpAnyH_take (i := 1) (v := .int .u8 ((b[1].toNat : Int))) rfl (by kernel_rfl) (by kernel_rfl) (by kernel_rfl) (fun _ _ _ h => h) (Or.inl ⟨by kernel_rfl, fun W hW => by go_simp⟩) trivial ?_
    simp only [Act.put, List.setIfInBounds_toArray, List.set_cons_zero, List.set_cons_succ]
    refine wpAnyH_take (i := 2) (v := .int .i64 (IntKind.i64.wrap ((b[1].toNat : Int)))) rfl (by kernel_rfl) (by kernel_rfl) (by kernel_rfl) (fun _ _ _ h => h) (Or.inl ⟨by kernel_rfl, fun W hW => by go_simp⟩) trivial ?_
    simp only [Act.put, List.setIfInBounds_toArray, List.set_cons_zero, List.set_cons_succ]
    refine wpAnyH_take (i := 3) (v := .string b) rfl (by kernel_rfl) (by kernel_rfl) (by kernel_rfl) (fun _ _ _ h => h) (Or.inl ⟨by kernel_rfl, fun W hW => by go_simp⟩) trivial ?_
    simp only [Act.put, List.setIfInBounds_toArray, List.set_cons_zero, List.set_cons_succ]
    refine wpAnyH_take (i := 4) (v := .int .u8 ((b[2].toNat : Int))) rfl (by kernel_rfl) (by kernel_rfl) (by kernel_rfl) (fun _ _ _ h => h) (Or.inl ⟨by kernel_rfl, fun W hW => by go_simp⟩) trivial ?_
    simp only [Act.put, List.setIfInBounds_toArray, List.set_cons_zero, List.set_cons_succ]
    refine wpAnyH_take (i := 5) (v := .int .i64 (IntKind.i64.wrap ((b[2].toNat : Int)))) rfl (by kernel_rfl) (by kernel_rfl) (by kernel_rfl) (fun _ _ _ h => h) (Or.inl ⟨by kernel_rfl, fun W hW => by go_simp⟩) trivial ?_
    simp only [Act.put, List.setIfInBounds_toArray, List.set_cons_zero, List.set_cons_succ]
    refine wpAnyH_take (i := 6) (v := .string b) rfl (by kernel_rfl) (by kernel_rfl) (by kernel_rfl) (fun _ _ _ h => h) (Or.inl ⟨by kernel_rfl, fun W hW => by go_simp⟩) trivial ?_
    simp only [Act.put, List.setIfInBounds_toArray, List.set_cons_zero, List.set_cons_succ]
    refine wpAnyH_take (i := 7) (v := .int .u8 ((b[3].toNat : Int))) rfl (by kernel_rfl) (by kernel_rfl) (by kernel_rfl) (fun _ _ _ h => h) (Or.inl ⟨by kernel_rfl, fun W hW => by go_simp⟩) trivial ?_
    simp only [Act.put, List.setIfInBounds_toArray, List.set_cons_zero, List.set_cons_succ]
    refine wpAnyH_take (i := 8) (v := .int .u8 (IntKind.u8.wrap (((b[3].toNat : Int)).tdiv 16))) rfl (by kernel_rfl) (by kernel_rfl) (by kernel_rfl) (fun _ _ _ h => h) (Or.inl ⟨by kernel_rfl, fun W hW => by go_simp⟩) trivial ?_
    simp only [Act.put, List.setIfInBounds_toArray, List.set_cons_zero, List.set_cons_succ]
    refine wpAnyH_take (i := 9) (v := .int .i64 (IntKind.i64.wrap (IntKind.u8.wrap (((b[3].toNat : Int)).tdiv 16)))) rfl (by kernel_rfl) (by kernel_rfl) (by kernel_rfl) (fun _ _ _ h => h) (Or.inl ⟨by kernel_rfl, fun W hW => by go_simp⟩) trivial ?_
    simp only [Act.put, List.setIfInBounds_toArray, List.set_cons_zero, List.set_cons_succ]
    refine wpAnyH_take (i := 10) (v := .string b) rfl (by kernel_rfl) (by kernel_rfl) (by kernel_rfl) (fun _ _ _ h => h) (Or.inl ⟨by kernel_rfl, fun W hW => by go_simp⟩) trivial ?_
    simp only [Act.put, List.setIfInBounds_toArray, List.set_cons_zero, List.set_cons_succ]
    refine wpAnyH_take (i := 11) (v := .int .u8 ((b[3].toNat : Int))) rfl (by kernel_rfl) (by kernel_rfl) (by kernel_rfl) (fun _ _ _ h => h) (Or.inl ⟨by kernel_rfl, fun W hW => by go_simp⟩) trivial ?_
    simp only [Act.put, List.setIfInBounds_toArray, List.set_cons_zero, List.set_cons_succ]
    refine wpAnyH_take (i := 12) (v := .int .u8 ((((b[3].toNat : Int)).tmod 16))) rfl (by kernel_rfl) (by kernel_rfl) (by kernel_rfl) (fun _ _ _ h => h) (Or.inl ⟨by kernel_rfl, fun W hW => by go_simp⟩) trivial ?_
    simp only [Act.put, List.setIfInBounds_toArray, List.set_cons_zero, List.set_cons_succ]
    refine wpAnyH_take (i := 13) (v := .int .i64 (IntKind.i64.wrap ((((b[3].toNat : Int)).tmod 16)))) rfl (by kernel_rfl) (by kernel_rfl) (by kernel_rfl) (fun _ _ _ h => h) (Or.inl ⟨by kernel_rfl, fun W hW => by go_simp⟩) trivial ?_
    simp only [Act.put, List.setIfInBounds_toArray, List.set_cons_zero, List.set_cons_succ]
    refine wpAnyH_take (i := 14) (v := .string b) rfl (by kernel_rfl) (by kernel_rfl) (by kernel_rfl) (fun _ _ _ h => h) (Or.inl ⟨by kernel_rfl, fun W hW => by go_simp⟩) trivial ?_
    simp only [Act.put, List.setIfInBounds_toArray, List.set_cons_zero, List.set_cons_succ]
    refine wpAnyH_take (i := 16) (v := .string b) rfl (by kernel_rfl) (by kernel_rfl) (by kernel_rfl) (fun _ _ _ h => h) (Or.inl ⟨by kernel_rfl, fun W hW => by go_simp⟩) trivial ?_
    simp only [Act.put, List.setIfInBounds_toArray, List.set_cons_zero, List.set_cons_succ]
    refine wpAnyH_take (i := 18) (v := .string b) rfl (by kernel_rfl) (by kernel_rfl) (by kernel_rfl) (fun _ _ _ h => h) (Or.inl ⟨by kernel_rfl, fun W hW => by go_simp⟩) trivial ?_
    simp only [Act.put, List.setIfInBounds_toArray, List.set_cons_zero, List.set_cons_succ]
    refine wpAnyH_ready (rs := [15, 21]) (by kernel_rfl) (by simp) ?_
    refine AllReadyH.cons rfl (fun K hK => ?_) (AllReadyH.cons rfl (fun K hK => ?_) (AllReadyH.nil))
    · go_simp
      go_at_call 16
      refine (HN.out _ _ (by decide) (by omega)).mono ?_
      rintro e wp ⟨rfl, ⟨nn, hn⟩⟩
      replace rz := row_at hn rz
      replace hB0 := below_at hn hB0
      clear hn
      go_simp
      refine hK.out _ _ trivial (fun _ => ?_)
      clear hK K
      refine wpAnyH_ready (rs := [17, 21]) (by kernel_rfl) (by simp) ?_
      refine AllReadyH.cons rfl (fun K hK => ?_) (AllReadyH.cons rfl (fun K hK => ?_) (AllReadyH.nil))
      · go_simp
        go_at_call 16
        refine (HN.out _ _ (by decide) (by omega)).mono ?_
        rintro e wp ⟨rfl, ⟨nn, hn⟩⟩
        replace rz := row_at hn rz
        replace hB0 := below_at hn hB0
        clear hn
        go_simp
        refine hK.out _ _ trivial (fun _ => ?_)
        clear hK K
        refine wpAnyH_ready (rs := [19, 21]) (by kernel_rfl) (by simp) ?_
        refine AllReadyH.cons rfl (fun K hK => ?_) (AllReadyH.cons rfl (fun K hK => ?_) (AllReadyH.nil))
        · go_simp
          go_at_call 16
          refine (HN.out _ _ (by decide) (by omega)).mono ?_
          rintro e wp ⟨rfl, ⟨nn, hn⟩⟩
          replace rz := row_at hn rz
          replace hB0 := below_at hn hB0
          clear hn
          go_simp
          refine hK.out _ _ trivial (fun _ => ?_)
          clear hK K
          refine wpAnyH_take (i := 20) (v := .agg #[.int .i64 (IntKind.i64.wrap ((b[1].toNat : Int))), .int .i64 (IntKind.i64.wrap ((b[2].toNat : Int))), .int .i64 (IntKind.i64.wrap (IntKind.u8.wrap (((b[3].toNat : Int)).tdiv 16))), .int .i64 (IntKind.i64.wrap (((b[3].toNat : Int)).tmod 16)), .int .u32 (numI b 4), .int .u32 (numI b 8), .int .u32 (numI b 12), .int .u32 0, .string ⟨#[]⟩]) rfl (by kernel_rfl) (by kernel_rfl) (by kernel_rfl) (fun _ _ _ h => h) (Or.inl ⟨by kernel_rfl, fun W hW => by go_simp⟩) trivial ?_
          simp only [Act.put, List.setIfInBounds_toArray, List.set_cons_zero, List.set_cons_succ]
          refine wpAnyH_ready (rs := [21]) (by kernel_rfl) (by simp) ?_
          refine AllReadyH.cons rfl (fun K hK => ?_) (AllReadyH.nil)
          · go_simp
            have rb := rowOf hB0 #[.int .i64 0, .int .i64 0, .int .i64 0, .int .i64 0, .int .u32 0, .int .u32 0, .int .u32 0, .int .u32 0, .string ⟨#[]⟩] 26
            have hlt := rz.lt
            have rz0 := rz
            have hB00 := hB0
            replace rz := rz.alloc (.cells #[.int .i64 0, .int .i64 0, .int .i64 0, .int .i64 0, .int .u32 0, .int .u32 0, .int .u32 0, .int .u32 0, .string ⟨#[]⟩] 26)
            replace hB0 := hB0.alloc hB0.size (.cells #[.int .i64 0, .int .i64 0, .int .i64 0, .int .i64 0, .int .u32 0, .int .u32 0, .int .u32 0, .int .u32 0, .string ⟨#[]⟩] 26)
            refine hK.out _ _ trivial (fun _ => ?_)
            clear hK K
            refine wpAnyH_ready (rs := [22]) (by kernel_rfl) (by simp) ?_
            refine AllReadyH.cons rfl (fun K hK => ?_) AllReadyH.nil
            have c0 := rb.cell 0 _ rfl
            have d0 := rb.thawed 0
            have c1 := rb.cell 1 _ rfl
            have d1 := rb.thawed 1
            have c2 := rb.cell 2 _ rfl
            have d2 := rb.thawed 2
            have c3 := rb.cell 3 _ rfl
            have d3 := rb.thawed 3
            have c4 := rb.cell 4 _ rfl
            have d4 := rb.thawed 4
            have c5 := rb.cell 5 _ rfl
            have d5 := rb.thawed 5
            have c6 := rb.cell 6 _ rfl
            have d6 := rb.thawed 6
            have c7 := rb.cell 7 _ rfl
            have d7 := rb.thawed 7
            have c8 := rb.cell 8 _ rfl
            have d8 := rb.thawed 8
            go_simp
            refine hK.out _ _ trivial (fun _ => ?_)
            clear hK K
            clear c0 d0 c1 d1 c2 d2 c3 d3 c4 d4 c5 d5 c6 d6 c7 d7 c8 d8
            refine wpAnyH_done (by kernel_rfl) ?_ _
            go_wp2_with fail
            go_meet
            exact cutA rz0 hB00 hlt
        · go_simp
          have rb := rowOf hB0 #[.int .i64 0, .int .i64 0, .int .i64 0, .int .i64 0, .int .u32 0, .int .u32 0, .int .u32 0, .int .u32 0, .string ⟨#[]⟩] 26
          have hlt := rz.lt
          have rz0 := rz
          have hB00 := hB0
          replace rz := rz.alloc (.cells #[.int .i64 0, .int .i64 0, .int .i64 0, .int .i64 0, .int .u32 0, .int .u32 0, .int .u32 0, .int .u32 0, .string ⟨#[]⟩] 26)
          replace hB0 := hB0.alloc hB0.size (.cells #[.int .i64 0, .int .i64 0, .int .i64 0, .int .i64 0, .int .u32 0, .int .u32 0, .int .u32 0, .int .u32 0, .string ⟨#[]⟩] 26)
          refine hK.out _ _ trivial (fun _ => ?_)
          clear hK K
          refine wpAnyH_ready (rs := [19]) (by kernel_rfl) (by simp) ?_
          refine AllReadyH.cons rfl (fun K hK => ?_) (AllReadyH.nil)
          · go_simp
            go_at_call 16
            refine (HN.out _ _ (by decide) (by omega)).mono ?_
            rintro e wp ⟨rfl, ⟨nn, hn⟩⟩
            replace rz := row_at hn rz
            replace rb := row_at hn rb
            replace hB0 := below_at hn hB0
            clear hn
            go_simp
            refine hK.out _ _ trivial (fun _ => ?_)
            clear hK K
            refine wpAnyH_take (i := 20) (v := .agg #[.int .i64 (IntKind.i64.wrap ((b[1].toNat : Int))), .int .i64 (IntKind.i64.wrap ((b[2].toNat : Int))), .int .i64 (IntKind.i64.wrap (IntKind.u8.wrap (((b[3].toNat : Int)).tdiv 16))), .int .i64 (IntKind.i64.wrap (((b[3].toNat : Int)).tmod 16)), .int .u32 (numI b 4), .int .u32 (numI b 8), .int .u32 (numI b 12), .int .u32 0, .string ⟨#[]⟩]) rfl (by kernel_rfl) (by kernel_rfl) (by kernel_rfl) (fun _ _ _ h => h) (Or.inl ⟨by kernel_rfl, fun W hW => by go_simp⟩) trivial ?_
            simp only [Act.put, List.setIfInBounds_toArray, List.set_cons_zero, List.set_cons_succ]
            refine wpAnyH_ready (rs := [22]) (by kernel_rfl) (by simp) ?_
            refine AllReadyH.cons rfl (fun K hK => ?_) AllReadyH.nil
            have c0 := rb.cell 0 _ rfl
            have d0 := rb.thawed 0
            have c1 := rb.cell 1 _ rfl
            have d1 := rb.thawed 1
            have c2 := rb.cell 2 _ rfl
            have d2 := rb.thawed 2
            have c3 := rb.cell 3 _ rfl
            have d3 := rb.thawed 3
            have c4 := rb.cell 4 _ rfl
            have d4 := rb.thawed 4
            have c5 := rb.cell 5 _ rfl
            have d5 := rb.thawed 5
            have c6 := rb.cell 6 _ rfl
            have d6 := rb.thawed 6
            have c7 := rb.cell 7 _ rfl
            have d7 := rb.thawed 7
            have c8 := rb.cell 8 _ rfl
            have d8 := rb.thawed 8
            go_simp
            refine hK.out _ _ trivial (fun _ => ?_)
            clear hK K
            clear c0 d0 c1 d1 c2 d2 c3 d3 c4 d4 c5 d5 c6 d6 c7 d7 c8 d8
            refine wpAnyH_done (by kernel_rfl) ?_ _
            go_wp2_with fail
            go_meet
            exact cutB rb rz hB0 hlt
      · go_simp
        have rb := rowOf hB0 #[.int .i64 0, .int .i64 0, .int .i64 0, .int .i64 0, .int .u32 0, .int .u32 0, .int .u32 0, .int .u32 0, .string ⟨#[]⟩] 26
        have hlt := rz.lt
        have rz0 := rz
        have hB00 := hB0
        replace rz := rz.alloc (.cells #[.int .i64 0, .int .i64 0, .int .i64 0, .int .i64 0, .int .u32 0, .int .u32 0, .int .u32 0, .int .u32 0, .string ⟨#[]⟩] 26)
        replace hB0 := hB0.alloc hB0.size (.cells #[.int .i64 0, .int .i64 0, .int .i64 0, .int .i64 0, .int .u32 0, .int .u32 0, .int .u32 0, .int .u32 0, .string ⟨#[]⟩] 26)
        refine hK.out _ _ trivial (fun _ => ?_)
        clear hK K
        refine wpAnyH_ready (rs := [17]) (by kernel_rfl) (by simp) ?_
        refine AllReadyH.cons rfl (fun K hK => ?_) (AllReadyH.nil)
        · go_simp
          go_at_call 16
          refine (HN.out _ _ (by decide) (by omega)).mono ?_
          rintro e wp ⟨rfl, ⟨nn, hn⟩⟩
          replace rz := row_at hn rz
          replace rb := row_at hn rb
          replace hB0 := below_at hn hB0
          clear hn
          go_simp
          refine hK.out _ _ trivial (fun _ => ?_)
          clear hK K
          refine wpAnyH_ready (rs := [19]) (by kernel_rfl) (by simp) ?_
          refine AllReadyH.cons rfl (fun K hK => ?_) (AllReadyH.nil)
          · go_simp
            go_at_call 16
            refine (HN.out _ _ (by decide) (by omega)).mono ?_
            rintro e wp ⟨rfl, ⟨nn, hn⟩⟩
            replace rz := row_at hn rz
            replace rb := row_at hn rb
            replace hB0 := below_at hn hB0
            clear hn
            go_simp
            refine hK.out _ _ trivial (fun _ => ?_)
            clear hK K
            refine wpAnyH_take (i := 20) (v := .agg #[.int .i64 (IntKind.i64.wrap ((b[1].toNat : Int))), .int .i64 (IntKind.i64.wrap ((b[2].toNat : Int))), .int .i64 (IntKind.i64.wrap (IntKind.u8.wrap (((b[3].toNat : Int)).tdiv 16))), .int .i64 (IntKind.i64.wrap (((b[3].toNat : Int)).tmod 16)), .int .u32 (numI b 4), .int .u32 (numI b 8), .int .u32 (numI b 12), .int .u32 0, .string ⟨#[]⟩]) rfl (by kernel_rfl) (by kernel_rfl) (by kernel_rfl) (fun _ _ _ h => h) (Or.inl ⟨by kernel_rfl, fun W hW => by go_simp⟩) trivial ?_
            simp only [Act.put, List.setIfInBounds_toArray, List.set_cons_zero, List.set_cons_succ]
            refine wpAnyH_ready (rs := [22]) (by kernel_rfl) (by simp) ?_
            refine AllReadyH.cons rfl (fun K hK => ?_) AllReadyH.nil
            have c0 := rb.cell 0 _ rfl
            have d0 := rb.thawed 0
            have c1 := rb.cell 1 _ rfl
            have d1 := rb.thawed 1
            have c2 := rb.cell 2 _ rfl
            have d2 := rb.thawed 2
            have c3 := rb.cell 3 _ rfl
            have d3 := rb.thawed 3
            have c4 := rb.cell 4 _ rfl
            have d4 := rb.thawed 4
            have c5 := rb.cell 5 _ rfl
            have d5 := rb.thawed 5
            have c6 := rb.cell 6 _ rfl
            have d6 := rb.thawed 6
            have c7 := rb.cell 7 _ rfl
            have d7 := rb.thawed 7
            have c8 := rb.cell 8 _ rfl
            have d8 := rb.thawed 8
            go_simp
            refine hK.out _ _ trivial (fun _ => ?_)
            clear hK K
            clear c0 d0 c1 d1 c2 d2 c3 d3 c4 d4 c5 d5 c6 d6 c7 d7 c8 d8
            refine wpAnyH_done (by kernel_rfl) ?_ _
            go_wp2_with fail
            go_meet
            exact cutB rb rz hB0 hlt
    · go_simp
      have rb := rowOf hB0 #[.int .i64 0, .int .i64 0, .int .i64 0, .int .i64 0, .int .u32 0, .int .u32 0, .int .u32 0, .int .u32 0, .string ⟨#[]⟩] 26
      replace rb : Row _ w1.heap.size _ _ := rb
      have hlt := rz.lt
      have rz0 := rz
      have hB00 := hB0
      replace rz := rz.alloc (.cells #[.int .i64 0, .int .i64 0, .int .i64 0, .int .i64 0, .int .u32 0, .int .u32 0, .int .u32 0, .int .u32 0, .string ⟨#[]⟩] 26)
      replace hB0 := hB0.alloc hB0.size (.cells #[.int .i64 0, .int .i64 0, .int .i64 0, .int .i64 0, .int .u32 0, .int .u32 0, .int .u32 0, .int .u32 0, .string ⟨#[]⟩] 26)
      refine hK.out _ _ trivial (fun _ => ?_)
      clear hK K
      refine wpAnyH_ready (rs := [15]) (by kernel_rfl) (by simp) ?_
      refine AllReadyH.cons rfl (fun K hK => ?_) (AllReadyH.nil)
      · go_simp
        go_at_call 16
        refine (HN.out _ _ (by decide) (by omega)).mono ?_
        rintro e wp ⟨rfl, ⟨nn, hn⟩⟩
        replace rz := row_at hn rz
        replace rb := row_at hn rb
        replace hB0 := below_at hn hB0
        clear hn
        go_simp
        refine hK.out _ _ trivial (fun _ => ?_)
        clear hK K
        refine wpAnyH_ready (rs := [17]) (by kernel_rfl) (by simp) ?_
        refine AllReadyH.cons rfl (fun K hK => ?_) (AllReadyH.nil)
        · go_simp
          go_at_call 16
          refine (HN.out _ _ (by decide) (by omega)).mono ?_
          rintro e wp ⟨rfl, ⟨nn, hn⟩⟩
          replace rz := row_at hn rz
          replace rb := row_at hn rb
          replace hB0 := below_at hn hB0
          clear hn
          go_simp
          refine hK.out _ _ trivial (fun _ => ?_)
          clear hK K
          refine wpAnyH_ready (rs := [19]) (by kernel_rfl) (by simp) ?_
          refine AllReadyH.cons rfl (fun K hK => ?_) (AllReadyH.nil)
          · go_simp
            go_at_call 16
            refine (HN.out _ _ (by decide) (by omega)).mono ?_
            rintro e wp ⟨rfl, ⟨nn, hn⟩⟩
            replace rz := row_at hn rz
            replace rb := row_at hn rb
            replace hB0 := below_at hn hB0
            clear hn
            go_simp
            refine hK.out _ _ trivial (fun _ => ?_)
            clear hK K
            refine wpAnyH_take (i := 20) (v := .agg #[.int .i64 (IntKind.i64.wrap ((b[1].toNat : Int))), .int .i64 (IntKind.i64.wrap ((b[2].toNat : Int))), .int .i64 (IntKind.i64.wrap (IntKind.u8.wrap (((b[3].toNat : Int)).tdiv 16))), .int .i64 (IntKind.i64.wrap (((b[3].toNat : Int)).tmod 16)), .int .u32 (numI b 4), .int .u32 (numI b 8), .int .u32 (numI b 12), .int .u32 0, .string ⟨#[]⟩]) rfl (by kernel_rfl) (by kernel_rfl) (by kernel_rfl) (fun _ _ _ h => h) (Or.inl ⟨by kernel_rfl, fun W hW => by go_simp⟩) trivial ?_
            simp only [Act.put, List.setIfInBounds_toArray, List.set_cons_zero, List.set_cons_succ]
            refine wpAnyH_ready (rs := [22]) (by kernel_rfl) (by simp) ?_
            refine AllReadyH.cons rfl (fun K hK => ?_) AllReadyH.nil
            have c0 := rb.cell 0 _ rfl
            have d0 := rb.thawed 0
            have c1 := rb.cell 1 _ rfl
            have d1 := rb.thawed 1
            have c2 := rb.cell 2 _ rfl
            have d2 := rb.thawed 2
            have c3 := rb.cell 3 _ rfl
            have d3 := rb.thawed 3
            have c4 := rb.cell 4 _ rfl
            have d4 := rb.thawed 4
            have c5 := rb.cell 5 _ rfl
            have d5 := rb.thawed 5
            have c6 := rb.cell 6 _ rfl
            have d6 := rb.thawed 6
            have c7 := rb.cell 7 _ rfl
            have d7 := rb.thawed 7
            have c8 := rb.cell 8 _ rfl
            have d8 := rb.thawed 8
            go_simp
            refine hK.out _ _ trivial (fun _ => ?_)
            clear hK K
            clear c0 d0 c1 d1 c2 d2 c3 d3 c4 d4 c5 d5 c6 d6 c7 d7 c8 d8
            refine wpAnyH_done (by kernel_rfl) ?_ _
            go_wp2_with fail
            go_meet
            exact cutB rb rz hB0 hlt

  case rest =>
    clear rz hB0 hvp hvv hw2 hq hq' hd2g hd20l hd24l
    obtain ⟨B, hBl, rfl, rb, rz, hB⟩ := hcut
    rw [HCV.out] at rb
    clear HCV
    have hw := HWIRE.out
    obtain ⟨fw, hfw⟩ : ∃ fw, (fr b.data.toList).wire = fw := ⟨_, rfl⟩
    obtain ⟨fk, hfk⟩ : ∃ fk, (fr b.data.toList).kind = fk := ⟨_, rfl⟩
    obtain ⟨fs, hfs⟩ : ∃ fs, (fr b.data.toList).src = fs := ⟨_, rfl⟩
    obtain ⟨fd, hfd⟩ : ∃ fd, (fr b.data.toList).dst = fd := ⟨_, rfl⟩
    obtain ⟨fl, hfl⟩ : ∃ fl, ((fr b.data.toList).life.toNat : Int) = fl := ⟨_, rfl⟩
    obtain ⟨fq, hfq⟩ : ∃ fq, ((fr b.data.toList).seq.toNat : Int) = fq := ⟨_, rfl⟩
    obtain ⟨fa, hfa⟩ : ∃ fa, ((fr b.data.toList).ack.toNat : Int) = fa := ⟨_, rfl⟩
    rw [hfw, hfk, hfs, hfd, hfl, hfq, hfa] at rb
    rw [hfw] at hw
    have HF := Lib.hid (And.intro hfw (And.intro hfk (And.intro hfs (And.intro hfd (And.intro hfl (And.intro hfq hfa))))))
    clear hfw hfk hfs hfd hfl hfq hfa
    subst hw
    have c0 := rb.cell 0 _ rfl
    have d0 := rb.thawed 0
    have c1 := rb.cell 1 _ rfl
    have d1 := rb.thawed 1
    have c2 := rb.cell 2 _ rfl
    have d2 := rb.thawed 2
    have c3 := rb.cell 3 _ rfl
    have d3 := rb.thawed 3
    have c4 := rb.cell 4 _ rfl
    have d4 := rb.thawed 4
    have c5 := rb.cell 5 _ rfl
    have d5 := rb.thawed 5
    have c6 := rb.cell 6 _ rfl
    have d6 := rb.thawed 6
    have c7 := rb.cell 7 _ rfl
    have d7 := rb.thawed 7
    have c8 := rb.cell 8 _ rfl
    have d8 := rb.thawed 8
    clear HO
    have H1' := H1.out
    have hone : one b.data.toList = false := by rw [one, H1'.2]; rfl
    have hah : Bytes.ahead b.data.toList = 24 := by rw [Bytes.ahead, hone]; rfl
    have hlen' : b.data.toList.length = b.size := by simp
    have hlong : long b.data.toList = true := by
      rw [long, hah, H1'.1, known, H1'.2, hlen', decide_eq_true (by omega : 2 ≤ b.size), decide_eq_true (by omega : 24 ≤ b.size)]; rfl
    have hgood : good b.data.toList = (decide ((num b.data.toList 20).toNat = b.size - 24) && decide (fr b.data.toList).Right) := by rw [good, hlong, hah, hlen']; rfl
    have hfv : (fr b.data.toList).val = .agg #[.int .i64 2, .int .i64 fk, .int .i64 fs, .int .i64 fd, .int .u32 fl, .int .u32 fq, .int .u32 fa, .int .u32 (numI b 16), .string (b.extract 24 b.size)] := by
      have h := HF.out
      have hd : (fr b.data.toList).data = b.extract 24 b.size := by
        show txt (b.data.toList.drop (Bytes.ahead b.data.toList)) = _
        rw [hah, ← txt_data (b.extract 24 b.size), Lib.extract_data, List.take_of_length_le (by rw [List.length_drop, hlen']; omega)]
      have hh : ((fr b.data.toList).hint.toNat : Int) = (numI b 16) := by
        show (((if one b.data.toList = true then 0 else num b.data.toList 16 : BitVec 32)).toNat : Int) = _
        rw [hone]; rfl
      rw [Fr.val, Fr.cells, h.1, h.2.1, h.2.2.1, h.2.2.2.1, h.2.2.2.2.1, h.2.2.2.2.2.1, h.2.2.2.2.2.2, hh, hd]
    have hN0 : 0 ≤ numI b 20 ∧ numI b 20 < 4294967296 := by
      have := (num b.data.toList 20).isLt
      show 0 ≤ (((num b.data.toList 20).toNat : Nat) : Int) ∧ (((num b.data.toList 20).toNat : Nat) : Int) < 4294967296
      omega
    have hNN : numI b 20 = ((num b.data.toList 20).toNat : Int) := rfl
    have hbs2 : b.size ≤ 100000 := HBS.out
    have hR1 : IntKind.u64.wrap (wrap64 (wrap64 ((b.size : Int) - 20) - 4)) = (b.size : Int) - 24 := by
      have e : wrap64 (wrap64 ((b.size : Int) - 20) - 4) = (b.size : Int) - 24 := by unfold wrap64; omega
      rw [e]; exact IntWalk.u64_in _ (by omega)
    have hR2 : IntKind.u64.wrap (numI b 20) = numI b 20 := IntWalk.u64_in _ (by omega)
    have HRT := Lib.hid (fun W => by have h := refRight (fr b.data.toList) W; rw [hfv] at h; exact h : ∀ W : World, Calls Tryd.prog 17 #[.agg #[.int .i64 2, .int .i64 fk, .int .i64 fs, .int .i64 fd, .int .u32 fl, .int .u32 fq, .int .u32 fa, .int .u32 (numI b 16), .string (b.extract 24 b.size)]] W fun e w' => e = .returned (.bool (decide (fr b.data.toList).Right)) ∧ Below W.heap.size W w')
    clear hlong hah hone hlen' H1' H1 HF HWIRE
    have HN2 := HN
    have HFV := Lib.hid hfv
    have HNN := Lib.hid (And.intro hN0 (And.intro hNN hbs2))
    have hle : (24 : Int) ≤ (b.size : Int) := by omega
    have hBne : B ≠ w.heap.size := by omega
    cases hm : decide ((num b.data.toList 20).toNat = b.size - 24) with
    | false =>
      have hres : Res = .tuple #[.agg #[.int .i64 0, .int .i64 0, .int .i64 0, .int .i64 0, .int .u32 0, .int .u32 0, .int .u32 0, .int .u32 0, .string ⟨#[]⟩], .int .i64 20] := by rw [← HRes.out, if_neg (by rw [hgood, hm]; simp), if_neg (by rw [hgood, hm]; simp)]; rfl
      have hcmp : (IntKind.u64.wrap (numI b 20) != IntKind.u64.wrap (wrap64 (wrap64 ((b.size : Int) - 20) - 4))) = true := by
        have := of_decide_eq_false hm
        rw [hR1, hR2, bne_iff_ne]; omega
      clear hR1 hR2 hfv hgood hm HRT HRes hN0 hNN hbs2
      go_wp2_with (first
          | (go_at_call 16; have H := HN; refine (H.out _ _ (by decide) (by omega)).mono ?_; clear H HN; rintro e wp ⟨rfl, ⟨nn, rfl⟩⟩)
          | (go_at_call 16; have H := HN2; refine (H.out _ _ (by decide) (by omega)).mono ?_; clear H HN2; rintro e wp ⟨rfl, ⟨n2, rfl⟩⟩
             have rb2 : Row (((wc.drewN nn).setCell ⟨B, 7, none⟩ (.int .u32 (numI b 16))).drewN n2) B #[.int .i64 2, .int .i64 fk, .int .i64 fs, .int .i64 fd, .int .u32 fl, .int .u32 fq, .int .u32 fa, .int .u32 (numI b 16), .string ⟨#[]⟩] 26 := row_drewN (by have h := (row_drewN rb nn).set 7 (.int .u32 (numI b 16)); simpa using h) n2
             have rz2 : Row (((wc.drewN nn).setCell ⟨B, 7, none⟩ (.int .u32 (numI b 16))).drewN n2) w.heap.size #[.int .i64 0, .int .i64 0, .int .i64 0, .int .i64 0, .int .u32 0, .int .u32 0, .int .u32 0, .int .u32 0, .string ⟨#[]⟩] 26 := row_drewN ((row_drewN rz nn).other (p := ⟨B, 7, none⟩) hBne _) n2
             have hB2 : Below w.heap.size w (((wc.drewN nn).setCell ⟨B, 7, none⟩ (.int .u32 (numI b 16))).drewN n2) := below_drewN ((below_drewN hB nn).setCell (p := ⟨B, 7, none⟩) (Nat.le_of_lt hBl) _) n2
             clear c0 c1 c2 c3 c4 c5 c6 c7 c8 d0 d1 d2 d3 d4 d5 d6 d7 d8
             have hBv := hB2
             generalize hV : (((wc.drewN nn).setCell ⟨B, 7, none⟩ (.int .u32 (numI b 16))).drewN n2) = V at *
             clear hV
             have c0 := rb2.cell 0 _ rfl
             have d0 := rb2.thawed 0
             have c1 := rb2.cell 1 _ rfl
             have d1 := rb2.thawed 1
             have c2 := rb2.cell 2 _ rfl
             have d2 := rb2.thawed 2
             have c3 := rb2.cell 3 _ rfl
             have d3 := rb2.thawed 3
             have c4 := rb2.cell 4 _ rfl
             have d4 := rb2.thawed 4
             have c5 := rb2.cell 5 _ rfl
             have d5 := rb2.thawed 5
             have c6 := rb2.cell 6 _ rfl
             have d6 := rb2.thawed 6
             have c7 := rb2.cell 7 _ rfl
             have d7 := rb2.thawed 7
             have c8 := rb2.cell 8 _ rfl
             have d8 := rb2.thawed 8
             have z0 := rz2.cell 0 _ rfl
             have y0 := rz2.thawed 0
             have z1 := rz2.cell 1 _ rfl
             have y1 := rz2.thawed 1
             have z2 := rz2.cell 2 _ rfl
             have y2 := rz2.thawed 2
             have z3 := rz2.cell 3 _ rfl
             have y3 := rz2.thawed 3
             have z4 := rz2.cell 4 _ rfl
             have y4 := rz2.thawed 4
             have z5 := rz2.cell 5 _ rfl
             have y5 := rz2.thawed 5
             have z6 := rz2.cell 6 _ rfl
             have y6 := rz2.thawed 6
             have z7 := rz2.cell 7 _ rfl
             have y7 := rz2.thawed 7
             have z8 := rz2.cell 8 _ rfl
             have y8 := rz2.thawed 8)
        )
      exact bodyPost_ret (v := Res) (by rw [hres]; simp [results, Tryd.results7, go_sem, z0, z1, z2, z3, z4, z5, z6, z7, z8]) rfl ⟨rfl, by first | exact below_fill _ _ _ _ _ _ _ _ _ hB2 (b := w.heap.size) (Nat.le_refl _) | exact hB2⟩
    | true =>
      have hcmp : (IntKind.u64.wrap (numI b 20) != IntKind.u64.wrap (wrap64 (wrap64 ((b.size : Int) - 20) - 4))) = false := by
        have := of_decide_eq_true hm
        rw [hR1, hR2, bne_eq_false_iff_eq]; omega
      cases hr : decide (fr b.data.toList).Right with
      | false =>
        have hres : Res = .tuple #[.agg #[.int .i64 0, .int .i64 0, .int .i64 0, .int .i64 0, .int .u32 0, .int .u32 0, .int .u32 0, .int .u32 0, .string ⟨#[]⟩], .int .i64 20] := by rw [← HRes.out, if_neg (by rw [hgood, hr]; simp), if_neg (by rw [hgood, hr]; simp)]; rfl
        rw [hr] at HRT
        clear hR1 hR2 hfv hgood hm HRes hN0 hNN hbs2 hr
        go_wp2_with (first
          | (go_at_call 16; have H := HN; refine (H.out _ _ (by decide) (by omega)).mono ?_; clear H HN; rintro e wp ⟨rfl, ⟨nn, rfl⟩⟩)
          | (go_at_call 16; have H := HN2; refine (H.out _ _ (by decide) (by omega)).mono ?_; clear H HN2; rintro e wp ⟨rfl, ⟨n2, rfl⟩⟩
             have rb2 : Row (((wc.drewN nn).setCell ⟨B, 7, none⟩ (.int .u32 (numI b 16))).drewN n2) B #[.int .i64 2, .int .i64 fk, .int .i64 fs, .int .i64 fd, .int .u32 fl, .int .u32 fq, .int .u32 fa, .int .u32 (numI b 16), .string ⟨#[]⟩] 26 := row_drewN (by have h := (row_drewN rb nn).set 7 (.int .u32 (numI b 16)); simpa using h) n2
             have rz2 : Row (((wc.drewN nn).setCell ⟨B, 7, none⟩ (.int .u32 (numI b 16))).drewN n2) w.heap.size #[.int .i64 0, .int .i64 0, .int .i64 0, .int .i64 0, .int .u32 0, .int .u32 0, .int .u32 0, .int .u32 0, .string ⟨#[]⟩] 26 := row_drewN ((row_drewN rz nn).other (p := ⟨B, 7, none⟩) hBne _) n2
             have hB2 : Below w.heap.size w (((wc.drewN nn).setCell ⟨B, 7, none⟩ (.int .u32 (numI b 16))).drewN n2) := below_drewN ((below_drewN hB nn).setCell (p := ⟨B, 7, none⟩) (Nat.le_of_lt hBl) _) n2
             clear c0 c1 c2 c3 c4 c5 c6 c7 c8 d0 d1 d2 d3 d4 d5 d6 d7 d8
             have hBv := hB2
             generalize hV : (((wc.drewN nn).setCell ⟨B, 7, none⟩ (.int .u32 (numI b 16))).drewN n2) = V at *
             clear hV
             have c0 := rb2.cell 0 _ rfl
             have d0 := rb2.thawed 0
             have c1 := rb2.cell 1 _ rfl
             have d1 := rb2.thawed 1
             have c2 := rb2.cell 2 _ rfl
             have d2 := rb2.thawed 2
             have c3 := rb2.cell 3 _ rfl
             have d3 := rb2.thawed 3
             have c4 := rb2.cell 4 _ rfl
             have d4 := rb2.thawed 4
             have c5 := rb2.cell 5 _ rfl
             have d5 := rb2.thawed 5
             have c6 := rb2.cell 6 _ rfl
             have d6 := rb2.thawed 6
             have c7 := rb2.cell 7 _ rfl
             have d7 := rb2.thawed 7
             have c8 := rb2.cell 8 _ rfl
             have d8 := rb2.thawed 8
             have z0 := rz2.cell 0 _ rfl
             have y0 := rz2.thawed 0
             have z1 := rz2.cell 1 _ rfl
             have y1 := rz2.thawed 1
             have z2 := rz2.cell 2 _ rfl
             have y2 := rz2.thawed 2
             have z3 := rz2.cell 3 _ rfl
             have y3 := rz2.thawed 3
             have z4 := rz2.cell 4 _ rfl
             have y4 := rz2.thawed 4
             have z5 := rz2.cell 5 _ rfl
             have y5 := rz2.thawed 5
             have z6 := rz2.cell 6 _ rfl
             have y6 := rz2.thawed 6
             have z7 := rz2.cell 7 _ rfl
             have y7 := rz2.thawed 7
             have z8 := rz2.cell 8 _ rfl
             have y8 := rz2.thawed 8)
          | (go_at_call 17; refine (HRT.out _).mono ?_; rintro e w5 ⟨rfl, hb5⟩
             have rb5 : Row w5 B #[.int .i64 2, .int .i64 fk, .int .i64 fs, .int .i64 fd, .int .u32 fl, .int .u32 fq, .int .u32 fa, .int .u32 (numI b 16), .string (b.extract 24 b.size)] 26 := Row.below (n₀ := _) (W := V.setCell ⟨B, 8, none⟩ (.string (b.extract 24 b.size))) (by have h := rb2.set 8 (.string (b.extract 24 b.size)); simpa using h) hb5 (by have := rb2.lt; simpa using this)
             have rz5 : Row w5 w.heap.size #[.int .i64 0, .int .i64 0, .int .i64 0, .int .i64 0, .int .u32 0, .int .u32 0, .int .u32 0, .int .u32 0, .string ⟨#[]⟩] 26 := Row.below (W := V.setCell ⟨B, 8, none⟩ (.string (b.extract 24 b.size))) (rz2.other (p := ⟨B, 8, none⟩) hBne _) hb5 (by have := rz2.lt; simpa using this)
             have hB5 : Below w.heap.size w w5 := (hB2.setCell (p := ⟨B, 8, none⟩) (Nat.le_of_lt hBl) _).trans (hb5.mono (by have := hB2.size; simpa using this))
             clear c0 c1 c2 c3 c4 c5 c6 c7 c8 d0 d1 d2 d3 d4 d5 d6 d7 d8 z0 z1 z2 z3 z4 z5 z6 z7 z8 y0 y1 y2 y3 y4 y5 y6 y7 y8
             have c0 := rb5.cell 0 _ rfl
             have d0 := rb5.thawed 0
             have c1 := rb5.cell 1 _ rfl
             have d1 := rb5.thawed 1
             have c2 := rb5.cell 2 _ rfl
             have d2 := rb5.thawed 2
             have c3 := rb5.cell 3 _ rfl
             have d3 := rb5.thawed 3
             have c4 := rb5.cell 4 _ rfl
             have d4 := rb5.thawed 4
             have c5 := rb5.cell 5 _ rfl
             have d5 := rb5.thawed 5
             have c6 := rb5.cell 6 _ rfl
             have d6 := rb5.thawed 6
             have c7 := rb5.cell 7 _ rfl
             have d7 := rb5.thawed 7
             have c8 := rb5.cell 8 _ rfl
             have d8 := rb5.thawed 8
             have z0 := rz5.cell 0 _ rfl
             have y0 := rz5.thawed 0
             have z1 := rz5.cell 1 _ rfl
             have y1 := rz5.thawed 1
             have z2 := rz5.cell 2 _ rfl
             have y2 := rz5.thawed 2
             have z3 := rz5.cell 3 _ rfl
             have y3 := rz5.thawed 3
             have z4 := rz5.cell 4 _ rfl
             have y4 := rz5.thawed 4
             have z5 := rz5.cell 5 _ rfl
             have y5 := rz5.thawed 5
             have z6 := rz5.cell 6 _ rfl
             have y6 := rz5.thawed 6
             have z7 := rz5.cell 7 _ rfl
             have y7 := rz5.thawed 7
             have z8 := rz5.cell 8 _ rfl
             have y8 := rz5.thawed 8))
        exact bodyPost_ret (v := Res) (by rw [hres]; simp [results, Tryd.results7, go_sem, z0, z1, z2, z3, z4, z5, z6, z7, z8]) rfl ⟨rfl, by first | exact below_fill _ _ _ _ _ _ _ _ _ hB5 (b := w.heap.size) (Nat.le_refl _) | exact hB5⟩
      | true =>
        have hres : Res = .tuple #[.agg #[.int .i64 2, .int .i64 fk, .int .i64 fs, .int .i64 fd, .int .u32 fl, .int .u32 fq, .int .u32 fa, .int .u32 (numI b 16), .string (b.extract 24 b.size)], .int .i64 0] := by rw [← HRes.out, if_pos (by rw [hgood, hm, hr]; simp), if_pos (by rw [hgood, hm, hr]; simp), hfv]
        rw [hr] at HRT
        clear hR1 hR2 hfv hgood hm HRes hN0 hNN hbs2 hr
        go_wp2_with (first
          | (go_at_call 16; have H := HN; refine (H.out _ _ (by decide) (by omega)).mono ?_; clear H HN; rintro e wp ⟨rfl, ⟨nn, rfl⟩⟩)
          | (go_at_call 16; have H := HN2; refine (H.out _ _ (by decide) (by omega)).mono ?_; clear H HN2; rintro e wp ⟨rfl, ⟨n2, rfl⟩⟩
             have rb2 : Row (((wc.drewN nn).setCell ⟨B, 7, none⟩ (.int .u32 (numI b 16))).drewN n2) B #[.int .i64 2, .int .i64 fk, .int .i64 fs, .int .i64 fd, .int .u32 fl, .int .u32 fq, .int .u32 fa, .int .u32 (numI b 16), .string ⟨#[]⟩] 26 := row_drewN (by have h := (row_drewN rb nn).set 7 (.int .u32 (numI b 16)); simpa using h) n2
             have rz2 : Row (((wc.drewN nn).setCell ⟨B, 7, none⟩ (.int .u32 (numI b 16))).drewN n2) w.heap.size #[.int .i64 0, .int .i64 0, .int .i64 0, .int .i64 0, .int .u32 0, .int .u32 0, .int .u32 0, .int .u32 0, .string ⟨#[]⟩] 26 := row_drewN ((row_drewN rz nn).other (p := ⟨B, 7, none⟩) hBne _) n2
             have hB2 : Below w.heap.size w (((wc.drewN nn).setCell ⟨B, 7, none⟩ (.int .u32 (numI b 16))).drewN n2) := below_drewN ((below_drewN hB nn).setCell (p := ⟨B, 7, none⟩) (Nat.le_of_lt hBl) _) n2
             clear c0 c1 c2 c3 c4 c5 c6 c7 c8 d0 d1 d2 d3 d4 d5 d6 d7 d8
             have hBv := hB2
             generalize hV : (((wc.drewN nn).setCell ⟨B, 7, none⟩ (.int .u32 (numI b 16))).drewN n2) = V at *
             clear hV
             have c0 := rb2.cell 0 _ rfl
             have d0 := rb2.thawed 0
             have c1 := rb2.cell 1 _ rfl
             have d1 := rb2.thawed 1
             have c2 := rb2.cell 2 _ rfl
             have d2 := rb2.thawed 2
             have c3 := rb2.cell 3 _ rfl
             have d3 := rb2.thawed 3
             have c4 := rb2.cell 4 _ rfl
             have d4 := rb2.thawed 4
             have c5 := rb2.cell 5 _ rfl
             have d5 := rb2.thawed 5
             have c6 := rb2.cell 6 _ rfl
             have d6 := rb2.thawed 6
             have c7 := rb2.cell 7 _ rfl
             have d7 := rb2.thawed 7
             have c8 := rb2.cell 8 _ rfl
             have d8 := rb2.thawed 8
             have z0 := rz2.cell 0 _ rfl
             have y0 := rz2.thawed 0
             have z1 := rz2.cell 1 _ rfl
             have y1 := rz2.thawed 1
             have z2 := rz2.cell 2 _ rfl
             have y2 := rz2.thawed 2
             have z3 := rz2.cell 3 _ rfl
             have y3 := rz2.thawed 3
             have z4 := rz2.cell 4 _ rfl
             have y4 := rz2.thawed 4
             have z5 := rz2.cell 5 _ rfl
             have y5 := rz2.thawed 5
             have z6 := rz2.cell 6 _ rfl
             have y6 := rz2.thawed 6
             have z7 := rz2.cell 7 _ rfl
             have y7 := rz2.thawed 7
             have z8 := rz2.cell 8 _ rfl
             have y8 := rz2.thawed 8)
          | (go_at_call 17; refine (HRT.out _).mono ?_; rintro e w5 ⟨rfl, hb5⟩
             have rb5 : Row w5 B #[.int .i64 2, .int .i64 fk, .int .i64 fs, .int .i64 fd, .int .u32 fl, .int .u32 fq, .int .u32 fa, .int .u32 (numI b 16), .string (b.extract 24 b.size)] 26 := Row.below (n₀ := _) (W := V.setCell ⟨B, 8, none⟩ (.string (b.extract 24 b.size))) (by have h := rb2.set 8 (.string (b.extract 24 b.size)); simpa using h) hb5 (by have := rb2.lt; simpa using this)
             have rz5 : Row w5 w.heap.size #[.int .i64 0, .int .i64 0, .int .i64 0, .int .i64 0, .int .u32 0, .int .u32 0, .int .u32 0, .int .u32 0, .string ⟨#[]⟩] 26 := Row.below (W := V.setCell ⟨B, 8, none⟩ (.string (b.extract 24 b.size))) (rz2.other (p := ⟨B, 8, none⟩) hBne _) hb5 (by have := rz2.lt; simpa using this)
             have hB5 : Below w.heap.size w w5 := (hB2.setCell (p := ⟨B, 8, none⟩) (Nat.le_of_lt hBl) _).trans (hb5.mono (by have := hB2.size; simpa using this))
             clear c0 c1 c2 c3 c4 c5 c6 c7 c8 d0 d1 d2 d3 d4 d5 d6 d7 d8 z0 z1 z2 z3 z4 z5 z6 z7 z8 y0 y1 y2 y3 y4 y5 y6 y7 y8
             have c0 := rb5.cell 0 _ rfl
             have d0 := rb5.thawed 0
             have c1 := rb5.cell 1 _ rfl
             have d1 := rb5.thawed 1
             have c2 := rb5.cell 2 _ rfl
             have d2 := rb5.thawed 2
             have c3 := rb5.cell 3 _ rfl
             have d3 := rb5.thawed 3
             have c4 := rb5.cell 4 _ rfl
             have d4 := rb5.thawed 4
             have c5 := rb5.cell 5 _ rfl
             have d5 := rb5.thawed 5
             have c6 := rb5.cell 6 _ rfl
             have d6 := rb5.thawed 6
             have c7 := rb5.cell 7 _ rfl
             have d7 := rb5.thawed 7
             have c8 := rb5.cell 8 _ rfl
             have d8 := rb5.thawed 8
             have z0 := rz5.cell 0 _ rfl
             have y0 := rz5.thawed 0
             have z1 := rz5.cell 1 _ rfl
             have y1 := rz5.thawed 1
             have z2 := rz5.cell 2 _ rfl
             have y2 := rz5.thawed 2
             have z3 := rz5.cell 3 _ rfl
             have y3 := rz5.thawed 3
             have z4 := rz5.cell 4 _ rfl
             have y4 := rz5.thawed 4
             have z5 := rz5.cell 5 _ rfl
             have y5 := rz5.thawed 5
             have z6 := rz5.cell 6 _ rfl
             have y6 := rz5.thawed 6
             have z7 := rz5.cell 7 _ rfl
             have y7 := rz5.thawed 7
             have z8 := rz5.cell 8 _ rfl
             have y8 := rz5.thawed 8))
        exact bodyPost_ret (v := Res) (by rw [hres]; simp [results, Tryd.results7, go_sem, z0, z1, z2, z3, z4, z5, z6, z7, z8]) rfl ⟨rfl, by first | exact below_fill _ _ _ _ _ _ _ _ _ hB5 (b := w.heap.size) (Nat.le_refl _) | exact hB5⟩
set_option maxRecDepth 100000 in
set_option maxHeartbeats 4000000 in
theorem refDecOne (s : ByteArray) (hs : s.size ≤ 100000) (b : ByteArray) (hb : openT s = b) (ho : openB s = true) (hlen : 20 ≤ b.size) (h72 : at' b.data.toList 0 = 72) (h1 : at' b.data.toList 1 = 1) (w : World) : Calls Tryd.prog 7 #[.string s] w fun e w' => e = .returned (.tuple #[(if good b.data.toList = true then fr b.data.toList else Fr.nil).val, .int .i64 (if good b.data.toList = true then 0 else 20)]) ∧ Below w.heap.size w w' := by
  have hv : ver ((at' b.data.toList 1).toNat : Int) = true := by rw [h1]; rfl
  have h := fun W => refOpen s hs W
  have hbs := openT_size s
  rw [ho] at h
  rw [hb] at h hbs
  clear hb
  have HO := Lib.hid h
  clear h
  have hi0 : 0 < b.size := by omega
  have hi1 : 1 < b.size := by omega
  have hj0 : (0 : Int) < (b.size : Int) := by omega
  have hj1 : (1 : Int) < (b.size : Int) := by omega
  have hi2 : 2 < b.size := by omega
  have hi3 : 3 < b.size := by omega
  have hj2 : (2 : Int) < (b.size : Int) := by omega
  have hj3 : (3 : Int) < (b.size : Int) := by omega
  have HCV := Lib.hid (cvals b hi3 hi2 hi1)
  have hwire : (fr b.data.toList).wire = 1 := by show ((at' b.data.toList 1).toNat : Int) = _; rw [h1]; rfl
  have HWIRE := Lib.hid hwire
  clear hwire
  have hd2g : decide (2 ≤ (b.size : Int)) = true := by simp; omega
  have hd20l : decide ((b.size : Int) < 20) = false := by simp; omega
  have hq : ((b[0].toNat : Int) == 72) = true := by rw [at_zero b hi0, h72]; rfl
  have hq' : ((b[0].toNat : Int) != 72) = false := by rw [at_zero b hi0, h72]; rfl
  have hvp : ver (b[1].toNat : Int) = true := by rw [at_one b hi1]; exact hv
  have hvv : ver (wrap64 (b[1].toNat : Int)) = true := by rw [wrap64_byte]; exact hvp
  have hw2 : ((b[1].toNat : Int) == 2) = false := by rw [at_one b hi1, h1]; rfl
  have HN := Lib.hid (refNum b)
  have HBS := Lib.hid (show b.size ≤ 100000 by omega)
  have H1 := Lib.hid (And.intro h72 h1)
  clear ho hbs h72 hv h1
  obtain ⟨Res, hRes⟩ : ∃ Res, (Value.tuple #[(if good b.data.toList = true then fr b.data.toList else Fr.nil).val, .int .i64 (if good b.data.toList = true then 0 else 20)]) = Res := ⟨_, rfl⟩
  rw [hRes]
  have HRes := Lib.hid hRes
  clear hRes
  go_enter Tryd.func7, Tryd.ntmps7
  have rz := Row.new w #[.int .i64 0, .int .i64 0, .int .i64 0, .int .i64 0, .int .u32 0, .int .u32 0, .int .u32 0, .int .u32 0, .string ⟨#[]⟩] 26
  have hB0 : Below w.heap.size w (w.alloc (.cells #[.int .i64 0, .int .i64 0, .int .i64 0, .int .i64 0, .int .u32 0, .int .u32 0, .int .u32 0, .int .u32 0, .string ⟨#[]⟩] 26)) := (Below.refl _ w).alloc (Nat.le_refl _) _
  go_upto_region 8 with (first
    | (go_at_call 14
       refine (HO.out _).mono ?_
       rintro e w1 ⟨rfl, hb1⟩
       replace hB0 := hB0.trans (hb1.mono hB0.size)
       replace rz := rz.below hb1 rz.lt
       clear hb1
       have z0 := rz.cell 0 _ rfl
       have y0 := rz.thawed 0
       have z1 := rz.cell 1 _ rfl
       have y1 := rz.thawed 1
       have z2 := rz.cell 2 _ rfl
       have y2 := rz.thawed 2
       have z3 := rz.cell 3 _ rfl
       have y3 := rz.thawed 3
       have z4 := rz.cell 4 _ rfl
       have y4 := rz.thawed 4
       have z5 := rz.cell 5 _ rfl
       have y5 := rz.thawed 5
       have z6 := rz.cell 6 _ rfl
       have y6 := rz.thawed 6
       have z7 := rz.cell 7 _ rfl
       have y7 := rz.thawed 7
       have z8 := rz.cell 8 _ rfl
       have y8 := rz.thawed 8)
    | (go_at_call 15; refine (refVersion _ _).mono ?_; rintro e w2 ⟨rfl, rfl⟩; first | rw [hvv] | rw [hvp]))
  clear z0 z1 z2 z3 z4 z5 z6 z7 z8 y0 y1 y2 y3 y4 y5 y6 y7 y8
  replace rz := rz.drew
  replace hB0 := hB0.drew
  go_cut [6] (fun s6 wx => ∃ B : Nat, w.heap.size < B ∧ s6 = .pointer (some ⟨B, 0, none⟩) ∧ Row wx B #[.int .i64 (IntKind.i64.wrap ((b[1].toNat : Int))), .int .i64 (IntKind.i64.wrap ((b[2].toNat : Int))), .int .i64 (IntKind.i64.wrap (IntKind.u8.wrap (((b[3].toNat : Int)) / 16))), .int .i64 (IntKind.i64.wrap (((b[3].toNat : Int)).tmod 16)), .int .u32 (numI b 4), .int .u32 (numI b 8), .int .u32 (numI b 12), .int .u32 0, .string ⟨#[]⟩] 26 ∧ Row wx w.heap.size #[.int .i64 0, .int .i64 0, .int .i64 0, .int .i64 0, .int .u32 0, .int .u32 0, .int .u32 0, .int .u32 0, .string ⟨#[]⟩] 26 ∧ Below w.heap.size w wx)
  case first =>
    refine wp_region_held_drew (S := fun _ => True) (by kernel_rfl) trivial (fun _ => ?_)
    refine wpAnyH_take (i := 0) (v := .string b) rfl (by kernel_rfl) (by kernel_rfl) (by kernel_rfl) (fun _ _ _ h => h) (Or.inl ⟨by kernel_rfl, fun W hW => by go_simp⟩) trivial ?_
    simp only [Act.put, List.setIfInBounds_toArray, List.set_cons_zero, List.set_cons_succ]
    refine wpAnyH_take (i := 1) (v := .int .u8 ((b[1].toNat : Int))) rfl (by kernel_rfl) (by kernel_rfl) (by kernel_rfl) (fun _ _ _ h => h) (Or.inl ⟨by kernel_rfl, fun W hW => by go_simp⟩) trivial ?_
    simp only [Act.put, List.setIfInBounds_toArray, List.set_cons_zero, List.set_cons_succ]
    refine wpAnyH_take (i := 2) (v := .int .i64 (IntKind.i64.wrap ((b[1].toNat : Int)))) rfl (by kernel_rfl) (by kernel_rfl) (by kernel_rfl) (fun _ _ _ h => h) (Or.inl ⟨by kernel_rfl, fun W hW => by go_simp⟩) trivial ?_
    simp only [Act.put, List.setIfInBounds_toArray, List.set_cons_zero, List.set_cons_succ]
    refine wpAnyH_take (i := 3) (v := .string b) rfl (by kernel_rfl) (by kernel_rfl) (by kernel_rfl) (fun _ _ _ h => h) (Or.inl ⟨by kernel_rfl, fun W hW => by go_simp⟩) trivial ?_
    simp only [Act.put, List.setIfInBounds_toArray, List.set_cons_zero, List.set_cons_succ]
    refine wpAnyH_take (i := 4) (v := .int .u8 ((b[2].toNat : Int))) rfl (by kernel_rfl) (by kernel_rfl) (by kernel_rfl) (fun _ _ _ h => h) (Or.inl ⟨by kernel_rfl, fun W hW => by go_simp⟩) trivial ?_
    simp only [Act.put, List.setIfInBounds_toArray, List.set_cons_zero, List.set_cons_succ]
    refine wpAnyH_take (i := 5) (v := .int .i64 (IntKind.i64.wrap ((b[2].toNat : Int)))) rfl (by kernel_rfl) (by kernel_rfl) (by kernel_rfl) (fun _ _ _ h => h) (Or.inl ⟨by kernel_rfl, fun W hW => by go_simp⟩) trivial ?_
    simp only [Act.put, List.setIfInBounds_toArray, List.set_cons_zero, List.set_cons_succ]
    refine wpAnyH_take (i := 6) (v := .string b) rfl (by kernel_rfl) (by kernel_rfl) (by kernel_rfl) (fun _ _ _ h => h) (Or.inl ⟨by kernel_rfl, fun W hW => by go_simp⟩) trivial ?_
    simp only [Act.put, List.setIfInBounds_toArray, List.set_cons_zero, List.set_cons_succ]
    refine wpAnyH_take (i := 7) (v := .int .u8 ((b[3].toNat : Int))) rfl (by kernel_rfl) (by kernel_rfl) (by kernel_rfl) (fun _ _ _ h => h) (Or.inl ⟨by kernel_rfl, fun W hW => by go_simp⟩) trivial ?_
    simp only [Act.put, List.setIfInBounds_toArray, List.set_cons_zero, List.set_cons_succ]
    refine wpAnyH_take (i := 8) (v := .int .u8 (IntKind.u8.wrap (((b[3].toNat : Int)).tdiv 16))) rfl (by kernel_rfl) (by kernel_rfl) (by kernel_rfl) (fun _ _ _ h => h) (Or.inl ⟨by kernel_rfl, fun W hW => by go_simp⟩) trivial ?_
    simp only [Act.put, List.setIfInBounds_toArray, List.set_cons_zero, List.set_cons_succ]
    refine wpAnyH_take (i := 9) (v := .int .i64 (IntKind.i64.wrap (IntKind.u8.wrap (((b[3].toNat : Int)).tdiv 16)))) rfl (by kernel_rfl) (by kernel_rfl) (by kernel_rfl) (fun _ _ _ h => h) (Or.inl ⟨by kernel_rfl, fun W hW => by go_simp⟩) trivial ?_
    simp only [Act.put, List.setIfInBounds_toArray, List.set_cons_zero, List.set_cons_succ]
    refine wpAnyH_take (i := 10) (v := .string b) rfl (by kernel_rfl) (by kernel_rfl) (by kernel_rfl) (fun _ _ _ h => h) (Or.inl ⟨by kernel_rfl, fun W hW => by go_simp⟩) trivial ?_
    simp only [Act.put, List.setIfInBounds_toArray, List.set_cons_zero, List.set_cons_succ]
    refine wpAnyH_take (i := 11) (v := .int .u8 ((b[3].toNat : Int))) rfl (by kernel_rfl) (by kernel_rfl) (by kernel_rfl) (fun _ _ _ h => h) (Or.inl ⟨by kernel_rfl, fun W hW => by go_simp⟩) trivial ?_
    simp only [Act.put, List.setIfInBounds_toArray, List.set_cons_zero, List.set_cons_succ]
    refine wpAnyH_take (i := 12) (v := .int .u8 ((((b[3].toNat : Int)).tmod 16))) rfl (by kernel_rfl) (by kernel_rfl) (by kernel_rfl) (fun _ _ _ h => h) (Or.inl ⟨by kernel_rfl, fun W hW => by go_simp⟩) trivial ?_
    simp only [Act.put, List.setIfInBounds_toArray, List.set_cons_zero, List.set_cons_succ]
    refine wpAnyH_take (i := 13) (v := .int .i64 (IntKind.i64.wrap ((((b[3].toNat : Int)).tmod 16)))) rfl (by kernel_rfl) (by kernel_rfl) (by kernel_rfl) (fun _ _ _ h => h) (Or.inl ⟨by kernel_rfl, fun W hW => by go_simp⟩) trivial ?_
    simp only [Act.put, List.setIfInBounds_toArray, List.set_cons_zero, List.set_cons_succ]
    refine wpAnyH_take (i := 14) (v := .string b) rfl (by kernel_rfl) (by kernel_rfl) (by kernel_rfl) (fun _ _ _ h => h) (Or.inl ⟨by kernel_rfl, fun W hW => by go_simp⟩) trivial ?_
    simp only [Act.put, List.setIfInBounds_toArray, List.set_cons_zero, List.set_cons_succ]
    refine wpAnyH_take (i := 16) (v := .string b) rfl (by kernel_rfl) (by kernel_rfl) (by kernel_rfl) (fun _ _ _ h => h) (Or.inl ⟨by kernel_rfl, fun W hW => by go_simp⟩) trivial ?_
    simp only [Act.put, List.setIfInBounds_toArray, List.set_cons_zero, List.set_cons_succ]
    refine wpAnyH_take (i := 18) (v := .string b) rfl (by kernel_rfl) (by kernel_rfl) (by kernel_rfl) (fun _ _ _ h => h) (Or.inl ⟨by kernel_rfl, fun W hW => by go_simp⟩) trivial ?_
    simp only [Act.put, List.setIfInBounds_toArray, List.set_cons_zero, List.set_cons_succ]
    refine wpAnyH_ready (rs := [15, 21]) (by kernel_rfl) (by simp) ?_
    refine AllReadyH.cons rfl (fun K hK => ?_) (AllReadyH.cons rfl (fun K hK => ?_) (AllReadyH.nil))
    · go_simp
      go_at_call 16
      refine (HN.out _ _ (by decide) (by omega)).mono ?_
      rintro e wp ⟨rfl, ⟨nn, hn⟩⟩
      replace rz := row_at hn rz
      replace hB0 := below_at hn hB0
      clear hn
      go_simp
      refine hK.out _ _ trivial (fun _ => ?_)
      clear hK K
      refine wpAnyH_ready (rs := [17, 21]) (by kernel_rfl) (by simp) ?_
      refine AllReadyH.cons rfl (fun K hK => ?_) (AllReadyH.cons rfl (fun K hK => ?_) (AllReadyH.nil))
      · go_simp
        go_at_call 16
        refine (HN.out _ _ (by decide) (by omega)).mono ?_
        rintro e wp ⟨rfl, ⟨nn, hn⟩⟩
        replace rz := row_at hn rz
        replace hB0 := below_at hn hB0
        clear hn
        go_simp
        refine hK.out _ _ trivial (fun _ => ?_)
        clear hK K
        refine wpAnyH_ready (rs := [19, 21]) (by kernel_rfl) (by simp) ?_
        refine AllReadyH.cons rfl (fun K hK => ?_) (AllReadyH.cons rfl (fun K hK => ?_) (AllReadyH.nil))
        · go_simp
          go_at_call 16
          refine (HN.out _ _ (by decide) (by omega)).mono ?_
          rintro e wp ⟨rfl, ⟨nn, hn⟩⟩
          replace rz := row_at hn rz
          replace hB0 := below_at hn hB0
          clear hn
          go_simp
          refine hK.out _ _ trivial (fun _ => ?_)
          clear hK K
          refine wpAnyH_take (i := 20) (v := .agg #[.int .i64 (IntKind.i64.wrap ((b[1].toNat : Int))), .int .i64 (IntKind.i64.wrap ((b[2].toNat : Int))), .int .i64 (IntKind.i64.wrap (IntKind.u8.wrap (((b[3].toNat : Int)).tdiv 16))), .int .i64 (IntKind.i64.wrap (((b[3].toNat : Int)).tmod 16)), .int .u32 (numI b 4), .int .u32 (numI b 8), .int .u32 (numI b 12), .int .u32 0, .string ⟨#[]⟩]) rfl (by kernel_rfl) (by kernel_rfl) (by kernel_rfl) (fun _ _ _ h => h) (Or.inl ⟨by kernel_rfl, fun W hW => by go_simp⟩) trivial ?_
          simp only [Act.put, List.setIfInBounds_toArray, List.set_cons_zero, List.set_cons_succ]
          refine wpAnyH_ready (rs := [21]) (by kernel_rfl) (by simp) ?_
          refine AllReadyH.cons rfl (fun K hK => ?_) (AllReadyH.nil)
          · go_simp
            have rb := rowOf hB0 #[.int .i64 0, .int .i64 0, .int .i64 0, .int .i64 0, .int .u32 0, .int .u32 0, .int .u32 0, .int .u32 0, .string ⟨#[]⟩] 26
            have hlt := rz.lt
            have rz0 := rz
            have hB00 := hB0
            replace rz := rz.alloc (.cells #[.int .i64 0, .int .i64 0, .int .i64 0, .int .i64 0, .int .u32 0, .int .u32 0, .int .u32 0, .int .u32 0, .string ⟨#[]⟩] 26)
            replace hB0 := hB0.alloc hB0.size (.cells #[.int .i64 0, .int .i64 0, .int .i64 0, .int .i64 0, .int .u32 0, .int .u32 0, .int .u32 0, .int .u32 0, .string ⟨#[]⟩] 26)
            refine hK.out _ _ trivial (fun _ => ?_)
            clear hK K
            refine wpAnyH_ready (rs := [22]) (by kernel_rfl) (by simp) ?_
            refine AllReadyH.cons rfl (fun K hK => ?_) AllReadyH.nil
            have c0 := rb.cell 0 _ rfl
            have d0 := rb.thawed 0
            have c1 := rb.cell 1 _ rfl
            have d1 := rb.thawed 1
            have c2 := rb.cell 2 _ rfl
            have d2 := rb.thawed 2
            have c3 := rb.cell 3 _ rfl
            have d3 := rb.thawed 3
            have c4 := rb.cell 4 _ rfl
            have d4 := rb.thawed 4
            have c5 := rb.cell 5 _ rfl
            have d5 := rb.thawed 5
            have c6 := rb.cell 6 _ rfl
            have d6 := rb.thawed 6
            have c7 := rb.cell 7 _ rfl
            have d7 := rb.thawed 7
            have c8 := rb.cell 8 _ rfl
            have d8 := rb.thawed 8
            go_simp
            refine hK.out _ _ trivial (fun _ => ?_)
            clear hK K
            clear c0 d0 c1 d1 c2 d2 c3 d3 c4 d4 c5 d5 c6 d6 c7 d7 c8 d8
            refine wpAnyH_done (by kernel_rfl) ?_ _
            go_wp2_with fail
            go_meet
            exact cutA rz0 hB00 hlt
        · go_simp
          have rb := rowOf hB0 #[.int .i64 0, .int .i64 0, .int .i64 0, .int .i64 0, .int .u32 0, .int .u32 0, .int .u32 0, .int .u32 0, .string ⟨#[]⟩] 26
          have hlt := rz.lt
          have rz0 := rz
          have hB00 := hB0
          replace rz := rz.alloc (.cells #[.int .i64 0, .int .i64 0, .int .i64 0, .int .i64 0, .int .u32 0, .int .u32 0, .int .u32 0, .int .u32 0, .string ⟨#[]⟩] 26)
          replace hB0 := hB0.alloc hB0.size (.cells #[.int .i64 0, .int .i64 0, .int .i64 0, .int .i64 0, .int .u32 0, .int .u32 0, .int .u32 0, .int .u32 0, .string ⟨#[]⟩] 26)
          refine hK.out _ _ trivial (fun _ => ?_)
          clear hK K
          refine wpAnyH_ready (rs := [19]) (by kernel_rfl) (by simp) ?_
          refine AllReadyH.cons rfl (fun K hK => ?_) (AllReadyH.nil)
          · go_simp
            go_at_call 16
            refine (HN.out _ _ (by decide) (by omega)).mono ?_
            rintro e wp ⟨rfl, ⟨nn, hn⟩⟩
            replace rz := row_at hn rz
            replace rb := row_at hn rb
            replace hB0 := below_at hn hB0
            clear hn
            go_simp
            refine hK.out _ _ trivial (fun _ => ?_)
            clear hK K
            refine wpAnyH_take (i := 20) (v := .agg #[.int .i64 (IntKind.i64.wrap ((b[1].toNat : Int))), .int .i64 (IntKind.i64.wrap ((b[2].toNat : Int))), .int .i64 (IntKind.i64.wrap (IntKind.u8.wrap (((b[3].toNat : Int)).tdiv 16))), .int .i64 (IntKind.i64.wrap (((b[3].toNat : Int)).tmod 16)), .int .u32 (numI b 4), .int .u32 (numI b 8), .int .u32 (numI b 12), .int .u32 0, .string ⟨#[]⟩]) rfl (by kernel_rfl) (by kernel_rfl) (by kernel_rfl) (fun _ _ _ h => h) (Or.inl ⟨by kernel_rfl, fun W hW => by go_simp⟩) trivial ?_
            simp only [Act.put, List.setIfInBounds_toArray, List.set_cons_zero, List.set_cons_succ]
            refine wpAnyH_ready (rs := [22]) (by kernel_rfl) (by simp) ?_
            refine AllReadyH.cons rfl (fun K hK => ?_) AllReadyH.nil
            have c0 := rb.cell 0 _ rfl
            have d0 := rb.thawed 0
            have c1 := rb.cell 1 _ rfl
            have d1 := rb.thawed 1
            have c2 := rb.cell 2 _ rfl
            have d2 := rb.thawed 2
            have c3 := rb.cell 3 _ rfl
            have d3 := rb.thawed 3
            have c4 := rb.cell 4 _ rfl
            have d4 := rb.thawed 4
            have c5 := rb.cell 5 _ rfl
            have d5 := rb.thawed 5
            have c6 := rb.cell 6 _ rfl
            have d6 := rb.thawed 6
            have c7 := rb.cell 7 _ rfl
            have d7 := rb.thawed 7
            have c8 := rb.cell 8 _ rfl
            have d8 := rb.thawed 8
            go_simp
            refine hK.out _ _ trivial (fun _ => ?_)
            clear hK K
            clear c0 d0 c1 d1 c2 d2 c3 d3 c4 d4 c5 d5 c6 d6 c7 d7 c8 d8
            refine wpAnyH_done (by kernel_rfl) ?_ _
            go_wp2_with fail
            go_meet
            exact cutB rb rz hB0 hlt
      · go_simp
        have rb := rowOf hB0 #[.int .i64 0, .int .i64 0, .int .i64 0, .int .i64 0, .int .u32 0, .int .u32 0, .int .u32 0, .int .u32 0, .string ⟨#[]⟩] 26
        have hlt := rz.lt
        have rz0 := rz
        have hB00 := hB0
        replace rz := rz.alloc (.cells #[.int .i64 0, .int .i64 0, .int .i64 0, .int .i64 0, .int .u32 0, .int .u32 0, .int .u32 0, .int .u32 0, .string ⟨#[]⟩] 26)
        replace hB0 := hB0.alloc hB0.size (.cells #[.int .i64 0, .int .i64 0, .int .i64 0, .int .i64 0, .int .u32 0, .int .u32 0, .int .u32 0, .int .u32 0, .string ⟨#[]⟩] 26)
        refine hK.out _ _ trivial (fun _ => ?_)
        clear hK K
        refine wpAnyH_ready (rs := [17]) (by kernel_rfl) (by simp) ?_
        refine AllReadyH.cons rfl (fun K hK => ?_) (AllReadyH.nil)
        · go_simp
          go_at_call 16
          refine (HN.out _ _ (by decide) (by omega)).mono ?_
          rintro e wp ⟨rfl, ⟨nn, hn⟩⟩
          replace rz := row_at hn rz
          replace rb := row_at hn rb
          replace hB0 := below_at hn hB0
          clear hn
          go_simp
          refine hK.out _ _ trivial (fun _ => ?_)
          clear hK K
          refine wpAnyH_ready (rs := [19]) (by kernel_rfl) (by simp) ?_
          refine AllReadyH.cons rfl (fun K hK => ?_) (AllReadyH.nil)
          · go_simp
            go_at_call 16
            refine (HN.out _ _ (by decide) (by omega)).mono ?_
            rintro e wp ⟨rfl, ⟨nn, hn⟩⟩
            replace rz := row_at hn rz
            replace rb := row_at hn rb
            replace hB0 := below_at hn hB0
            clear hn
            go_simp
            refine hK.out _ _ trivial (fun _ => ?_)
            clear hK K
            refine wpAnyH_take (i := 20) (v := .agg #[.int .i64 (IntKind.i64.wrap ((b[1].toNat : Int))), .int .i64 (IntKind.i64.wrap ((b[2].toNat : Int))), .int .i64 (IntKind.i64.wrap (IntKind.u8.wrap (((b[3].toNat : Int)).tdiv 16))), .int .i64 (IntKind.i64.wrap (((b[3].toNat : Int)).tmod 16)), .int .u32 (numI b 4), .int .u32 (numI b 8), .int .u32 (numI b 12), .int .u32 0, .string ⟨#[]⟩]) rfl (by kernel_rfl) (by kernel_rfl) (by kernel_rfl) (fun _ _ _ h => h) (Or.inl ⟨by kernel_rfl, fun W hW => by go_simp⟩) trivial ?_
            simp only [Act.put, List.setIfInBounds_toArray, List.set_cons_zero, List.set_cons_succ]
            refine wpAnyH_ready (rs := [22]) (by kernel_rfl) (by simp) ?_
            refine AllReadyH.cons rfl (fun K hK => ?_) AllReadyH.nil
            have c0 := rb.cell 0 _ rfl
            have d0 := rb.thawed 0
            have c1 := rb.cell 1 _ rfl
            have d1 := rb.thawed 1
            have c2 := rb.cell 2 _ rfl
            have d2 := rb.thawed 2
            have c3 := rb.cell 3 _ rfl
            have d3 := rb.thawed 3
            have c4 := rb.cell 4 _ rfl
            have d4 := rb.thawed 4
            have c5 := rb.cell 5 _ rfl
            have d5 := rb.thawed 5
            have c6 := rb.cell 6 _ rfl
            have d6 := rb.thawed 6
            have c7 := rb.cell 7 _ rfl
            have d7 := rb.thawed 7
            have c8 := rb.cell 8 _ rfl
            have d8 := rb.thawed 8
            go_simp
            refine hK.out _ _ trivial (fun _ => ?_)
            clear hK K
            clear c0 d0 c1 d1 c2 d2 c3 d3 c4 d4 c5 d5 c6 d6 c7 d7 c8 d8
            refine wpAnyH_done (by kernel_rfl) ?_ _
            go_wp2_with fail
            go_meet
            exact cutB rb rz hB0 hlt
    · go_simp
      have rb := rowOf hB0 #[.int .i64 0, .int .i64 0, .int .i64 0, .int .i64 0, .int .u32 0, .int .u32 0, .int .u32 0, .int .u32 0, .string ⟨#[]⟩] 26
      replace rb : Row _ w1.heap.size _ _ := rb
      have hlt := rz.lt
      have rz0 := rz
      have hB00 := hB0
      replace rz := rz.alloc (.cells #[.int .i64 0, .int .i64 0, .int .i64 0, .int .i64 0, .int .u32 0, .int .u32 0, .int .u32 0, .int .u32 0, .string ⟨#[]⟩] 26)
      replace hB0 := hB0.alloc hB0.size (.cells #[.int .i64 0, .int .i64 0, .int .i64 0, .int .i64 0, .int .u32 0, .int .u32 0, .int .u32 0, .int .u32 0, .string ⟨#[]⟩] 26)
      refine hK.out _ _ trivial (fun _ => ?_)
      clear hK K
      refine wpAnyH_ready (rs := [15]) (by kernel_rfl) (by simp) ?_
      refine AllReadyH.cons rfl (fun K hK => ?_) (AllReadyH.nil)
      · go_simp
        go_at_call 16
        refine (HN.out _ _ (by decide) (by omega)).mono ?_
        rintro e wp ⟨rfl, ⟨nn, hn⟩⟩
        replace rz := row_at hn rz
        replace rb := row_at hn rb
        replace hB0 := below_at hn hB0
        clear hn
        go_simp
        refine hK.out _ _ trivial (fun _ => ?_)
        clear hK K
        refine wpAnyH_ready (rs := [17]) (by kernel_rfl) (by simp) ?_
        refine AllReadyH.cons rfl (fun K hK => ?_) (AllReadyH.nil)
        · go_simp
          go_at_call 16
          refine (HN.out _ _ (by decide) (by omega)).mono ?_
          rintro e wp ⟨rfl, ⟨nn, hn⟩⟩
          replace rz := row_at hn rz
          replace rb := row_at hn rb
          replace hB0 := below_at hn hB0
          clear hn
          go_simp
          refine hK.out _ _ trivial (fun _ => ?_)
          clear hK K
          refine wpAnyH_ready (rs := [19]) (by kernel_rfl) (by simp) ?_
          refine AllReadyH.cons rfl (fun K hK => ?_) (AllReadyH.nil)
          · go_simp
            go_at_call 16
            refine (HN.out _ _ (by decide) (by omega)).mono ?_
            rintro e wp ⟨rfl, ⟨nn, hn⟩⟩
            replace rz := row_at hn rz
            replace rb := row_at hn rb
            replace hB0 := below_at hn hB0
            clear hn
            go_simp
            refine hK.out _ _ trivial (fun _ => ?_)
            clear hK K
            refine wpAnyH_take (i := 20) (v := .agg #[.int .i64 (IntKind.i64.wrap ((b[1].toNat : Int))), .int .i64 (IntKind.i64.wrap ((b[2].toNat : Int))), .int .i64 (IntKind.i64.wrap (IntKind.u8.wrap (((b[3].toNat : Int)).tdiv 16))), .int .i64 (IntKind.i64.wrap (((b[3].toNat : Int)).tmod 16)), .int .u32 (numI b 4), .int .u32 (numI b 8), .int .u32 (numI b 12), .int .u32 0, .string ⟨#[]⟩]) rfl (by kernel_rfl) (by kernel_rfl) (by kernel_rfl) (fun _ _ _ h => h) (Or.inl ⟨by kernel_rfl, fun W hW => by go_simp⟩) trivial ?_
            simp only [Act.put, List.setIfInBounds_toArray, List.set_cons_zero, List.set_cons_succ]
            refine wpAnyH_ready (rs := [22]) (by kernel_rfl) (by simp) ?_
            refine AllReadyH.cons rfl (fun K hK => ?_) AllReadyH.nil
            have c0 := rb.cell 0 _ rfl
            have d0 := rb.thawed 0
            have c1 := rb.cell 1 _ rfl
            have d1 := rb.thawed 1
            have c2 := rb.cell 2 _ rfl
            have d2 := rb.thawed 2
            have c3 := rb.cell 3 _ rfl
            have d3 := rb.thawed 3
            have c4 := rb.cell 4 _ rfl
            have d4 := rb.thawed 4
            have c5 := rb.cell 5 _ rfl
            have d5 := rb.thawed 5
            have c6 := rb.cell 6 _ rfl
            have d6 := rb.thawed 6
            have c7 := rb.cell 7 _ rfl
            have d7 := rb.thawed 7
            have c8 := rb.cell 8 _ rfl
            have d8 := rb.thawed 8
            go_simp
            refine hK.out _ _ trivial (fun _ => ?_)
            clear hK K
            clear c0 d0 c1 d1 c2 d2 c3 d3 c4 d4 c5 d5 c6 d6 c7 d7 c8 d8
            refine wpAnyH_done (by kernel_rfl) ?_ _
            go_wp2_with fail
            go_meet
            exact cutB rb rz hB0 hlt

  case rest =>
    clear rz hB0 hvp hvv hw2 hq hq' hd2g hd20l 
    obtain ⟨B, hBl, rfl, rb, rz, hB⟩ := hcut
    rw [HCV.out] at rb
    clear HCV
    have hw := HWIRE.out
    obtain ⟨fw, hfw⟩ : ∃ fw, (fr b.data.toList).wire = fw := ⟨_, rfl⟩
    obtain ⟨fk, hfk⟩ : ∃ fk, (fr b.data.toList).kind = fk := ⟨_, rfl⟩
    obtain ⟨fs, hfs⟩ : ∃ fs, (fr b.data.toList).src = fs := ⟨_, rfl⟩
    obtain ⟨fd, hfd⟩ : ∃ fd, (fr b.data.toList).dst = fd := ⟨_, rfl⟩
    obtain ⟨fl, hfl⟩ : ∃ fl, ((fr b.data.toList).life.toNat : Int) = fl := ⟨_, rfl⟩
    obtain ⟨fq, hfq⟩ : ∃ fq, ((fr b.data.toList).seq.toNat : Int) = fq := ⟨_, rfl⟩
    obtain ⟨fa, hfa⟩ : ∃ fa, ((fr b.data.toList).ack.toNat : Int) = fa := ⟨_, rfl⟩
    rw [hfw, hfk, hfs, hfd, hfl, hfq, hfa] at rb
    rw [hfw] at hw
    have HF := Lib.hid (And.intro hfw (And.intro hfk (And.intro hfs (And.intro hfd (And.intro hfl (And.intro hfq hfa))))))
    clear hfw hfk hfs hfd hfl hfq hfa
    subst hw
    have c0 := rb.cell 0 _ rfl
    have d0 := rb.thawed 0
    have c1 := rb.cell 1 _ rfl
    have d1 := rb.thawed 1
    have c2 := rb.cell 2 _ rfl
    have d2 := rb.thawed 2
    have c3 := rb.cell 3 _ rfl
    have d3 := rb.thawed 3
    have c4 := rb.cell 4 _ rfl
    have d4 := rb.thawed 4
    have c5 := rb.cell 5 _ rfl
    have d5 := rb.thawed 5
    have c6 := rb.cell 6 _ rfl
    have d6 := rb.thawed 6
    have c7 := rb.cell 7 _ rfl
    have d7 := rb.thawed 7
    have c8 := rb.cell 8 _ rfl
    have d8 := rb.thawed 8
    clear HO
    have H1' := H1.out
    have hone : one b.data.toList = true := by rw [one, H1'.2]; rfl
    have hah : Bytes.ahead b.data.toList = 20 := by rw [Bytes.ahead, hone]; rfl
    have hlen' : b.data.toList.length = b.size := by simp
    have hlong : long b.data.toList = true := by
      rw [long, hah, H1'.1, known, H1'.2, hlen', decide_eq_true (by omega : 2 ≤ b.size), decide_eq_true (by omega : 20 ≤ b.size)]; rfl
    have hgood : good b.data.toList = (decide ((num b.data.toList 16).toNat = b.size - 20) && decide (fr b.data.toList).Right) := by rw [good, hlong, hah, hlen']; rfl
    have hfv : (fr b.data.toList).val = .agg #[.int .i64 1, .int .i64 fk, .int .i64 fs, .int .i64 fd, .int .u32 fl, .int .u32 fq, .int .u32 fa, .int .u32 0, .string (b.extract 20 b.size)] := by
      have h := HF.out
      have hd : (fr b.data.toList).data = b.extract 20 b.size := by
        show txt (b.data.toList.drop (Bytes.ahead b.data.toList)) = _
        rw [hah, ← txt_data (b.extract 20 b.size), Lib.extract_data, List.take_of_length_le (by rw [List.length_drop, hlen']; omega)]
      have hh : ((fr b.data.toList).hint.toNat : Int) = 0 := by
        show (((if one b.data.toList = true then 0 else num b.data.toList 16 : BitVec 32)).toNat : Int) = _
        rw [hone]; rfl
      rw [Fr.val, Fr.cells, h.1, h.2.1, h.2.2.1, h.2.2.2.1, h.2.2.2.2.1, h.2.2.2.2.2.1, h.2.2.2.2.2.2, hh, hd]
    have hN0 : 0 ≤ numI b 16 ∧ numI b 16 < 4294967296 := by
      have := (num b.data.toList 16).isLt
      show 0 ≤ (((num b.data.toList 16).toNat : Nat) : Int) ∧ (((num b.data.toList 16).toNat : Nat) : Int) < 4294967296
      omega
    have hNN : numI b 16 = ((num b.data.toList 16).toNat : Int) := rfl
    have hbs2 : b.size ≤ 100000 := HBS.out
    have hR1 : IntKind.u64.wrap (wrap64 (wrap64 ((b.size : Int) - 16) - 4)) = (b.size : Int) - 20 := by
      have e : wrap64 (wrap64 ((b.size : Int) - 16) - 4) = (b.size : Int) - 20 := by unfold wrap64; omega
      rw [e]; exact IntWalk.u64_in _ (by omega)
    have hR2 : IntKind.u64.wrap (numI b 16) = numI b 16 := IntWalk.u64_in _ (by omega)
    have HRT := Lib.hid (fun W => by have h := refRight (fr b.data.toList) W; rw [hfv] at h; exact h : ∀ W : World, Calls Tryd.prog 17 #[.agg #[.int .i64 1, .int .i64 fk, .int .i64 fs, .int .i64 fd, .int .u32 fl, .int .u32 fq, .int .u32 fa, .int .u32 0, .string (b.extract 20 b.size)]] W fun e w' => e = .returned (.bool (decide (fr b.data.toList).Right)) ∧ Below W.heap.size W w')
    clear hlong hah hone hlen' H1' H1 HF HWIRE
    have HN2 := HN
    have HFV := Lib.hid hfv
    have HNN := Lib.hid (And.intro hN0 (And.intro hNN hbs2))
    have hle : (20 : Int) ≤ (b.size : Int) := by omega
    have hBne : B ≠ w.heap.size := by omega
    cases hm : decide ((num b.data.toList 16).toNat = b.size - 20) with
    | false =>
      have hres : Res = .tuple #[.agg #[.int .i64 0, .int .i64 0, .int .i64 0, .int .i64 0, .int .u32 0, .int .u32 0, .int .u32 0, .int .u32 0, .string ⟨#[]⟩], .int .i64 20] := by rw [← HRes.out, if_neg (by rw [hgood, hm]; simp), if_neg (by rw [hgood, hm]; simp)]; rfl
      have hcmp : (IntKind.u64.wrap (numI b 16) != IntKind.u64.wrap (wrap64 (wrap64 ((b.size : Int) - 16) - 4))) = true := by
        have := of_decide_eq_false hm
        rw [hR1, hR2, bne_iff_ne]; omega
      clear hR1 hR2 hfv hgood hm HRT HRes hN0 hNN hbs2
      go_wp2_with (first
          | (go_at_call 16; have H := HN; refine (H.out _ _ (by decide) (by omega)).mono ?_; clear H HN; rintro e wp ⟨rfl, ⟨nn, rfl⟩⟩
             have rb2 : Row (wc.drewN nn) B #[.int .i64 1, .int .i64 fk, .int .i64 fs, .int .i64 fd, .int .u32 fl, .int .u32 fq, .int .u32 fa, .int .u32 0, .string ⟨#[]⟩] 26 := row_drewN rb nn
             have rz2 : Row (wc.drewN nn) w.heap.size #[.int .i64 0, .int .i64 0, .int .i64 0, .int .i64 0, .int .u32 0, .int .u32 0, .int .u32 0, .int .u32 0, .string ⟨#[]⟩] 26 := row_drewN rz nn
             have hB2 : Below w.heap.size w (wc.drewN nn) := below_drewN hB nn
             clear c0 c1 c2 c3 c4 c5 c6 c7 c8 d0 d1 d2 d3 d4 d5 d6 d7 d8
             have hBv := hB2
             generalize hV : (wc.drewN nn) = V at *
             clear hV
             have c0 := rb2.cell 0 _ rfl
             have d0 := rb2.thawed 0
             have c1 := rb2.cell 1 _ rfl
             have d1 := rb2.thawed 1
             have c2 := rb2.cell 2 _ rfl
             have d2 := rb2.thawed 2
             have c3 := rb2.cell 3 _ rfl
             have d3 := rb2.thawed 3
             have c4 := rb2.cell 4 _ rfl
             have d4 := rb2.thawed 4
             have c5 := rb2.cell 5 _ rfl
             have d5 := rb2.thawed 5
             have c6 := rb2.cell 6 _ rfl
             have d6 := rb2.thawed 6
             have c7 := rb2.cell 7 _ rfl
             have d7 := rb2.thawed 7
             have c8 := rb2.cell 8 _ rfl
             have d8 := rb2.thawed 8
             have z0 := rz2.cell 0 _ rfl
             have y0 := rz2.thawed 0
             have z1 := rz2.cell 1 _ rfl
             have y1 := rz2.thawed 1
             have z2 := rz2.cell 2 _ rfl
             have y2 := rz2.thawed 2
             have z3 := rz2.cell 3 _ rfl
             have y3 := rz2.thawed 3
             have z4 := rz2.cell 4 _ rfl
             have y4 := rz2.thawed 4
             have z5 := rz2.cell 5 _ rfl
             have y5 := rz2.thawed 5
             have z6 := rz2.cell 6 _ rfl
             have y6 := rz2.thawed 6
             have z7 := rz2.cell 7 _ rfl
             have y7 := rz2.thawed 7
             have z8 := rz2.cell 8 _ rfl
             have y8 := rz2.thawed 8)
        )
      exact bodyPost_ret (v := Res) (by rw [hres]; simp [results, Tryd.results7, go_sem, z0, z1, z2, z3, z4, z5, z6, z7, z8]) rfl ⟨rfl, by first | exact below_fill _ _ _ _ _ _ _ _ _ hB2 (b := w.heap.size) (Nat.le_refl _) | exact hB2⟩
    | true =>
      have hcmp : (IntKind.u64.wrap (numI b 16) != IntKind.u64.wrap (wrap64 (wrap64 ((b.size : Int) - 16) - 4))) = false := by
        have := of_decide_eq_true hm
        rw [hR1, hR2, bne_eq_false_iff_eq]; omega
      cases hr : decide (fr b.data.toList).Right with
      | false =>
        have hres : Res = .tuple #[.agg #[.int .i64 0, .int .i64 0, .int .i64 0, .int .i64 0, .int .u32 0, .int .u32 0, .int .u32 0, .int .u32 0, .string ⟨#[]⟩], .int .i64 20] := by rw [← HRes.out, if_neg (by rw [hgood, hr]; simp), if_neg (by rw [hgood, hr]; simp)]; rfl
        rw [hr] at HRT
        clear hR1 hR2 hfv hgood hm HRes hN0 hNN hbs2 hr
        go_wp2_with (first
          | (go_at_call 16; have H := HN; refine (H.out _ _ (by decide) (by omega)).mono ?_; clear H HN; rintro e wp ⟨rfl, ⟨nn, rfl⟩⟩
             have rb2 : Row (wc.drewN nn) B #[.int .i64 1, .int .i64 fk, .int .i64 fs, .int .i64 fd, .int .u32 fl, .int .u32 fq, .int .u32 fa, .int .u32 0, .string ⟨#[]⟩] 26 := row_drewN rb nn
             have rz2 : Row (wc.drewN nn) w.heap.size #[.int .i64 0, .int .i64 0, .int .i64 0, .int .i64 0, .int .u32 0, .int .u32 0, .int .u32 0, .int .u32 0, .string ⟨#[]⟩] 26 := row_drewN rz nn
             have hB2 : Below w.heap.size w (wc.drewN nn) := below_drewN hB nn
             clear c0 c1 c2 c3 c4 c5 c6 c7 c8 d0 d1 d2 d3 d4 d5 d6 d7 d8
             have hBv := hB2
             generalize hV : (wc.drewN nn) = V at *
             clear hV
             have c0 := rb2.cell 0 _ rfl
             have d0 := rb2.thawed 0
             have c1 := rb2.cell 1 _ rfl
             have d1 := rb2.thawed 1
             have c2 := rb2.cell 2 _ rfl
             have d2 := rb2.thawed 2
             have c3 := rb2.cell 3 _ rfl
             have d3 := rb2.thawed 3
             have c4 := rb2.cell 4 _ rfl
             have d4 := rb2.thawed 4
             have c5 := rb2.cell 5 _ rfl
             have d5 := rb2.thawed 5
             have c6 := rb2.cell 6 _ rfl
             have d6 := rb2.thawed 6
             have c7 := rb2.cell 7 _ rfl
             have d7 := rb2.thawed 7
             have c8 := rb2.cell 8 _ rfl
             have d8 := rb2.thawed 8
             have z0 := rz2.cell 0 _ rfl
             have y0 := rz2.thawed 0
             have z1 := rz2.cell 1 _ rfl
             have y1 := rz2.thawed 1
             have z2 := rz2.cell 2 _ rfl
             have y2 := rz2.thawed 2
             have z3 := rz2.cell 3 _ rfl
             have y3 := rz2.thawed 3
             have z4 := rz2.cell 4 _ rfl
             have y4 := rz2.thawed 4
             have z5 := rz2.cell 5 _ rfl
             have y5 := rz2.thawed 5
             have z6 := rz2.cell 6 _ rfl
             have y6 := rz2.thawed 6
             have z7 := rz2.cell 7 _ rfl
             have y7 := rz2.thawed 7
             have z8 := rz2.cell 8 _ rfl
             have y8 := rz2.thawed 8)
          | (go_at_call 17; refine (HRT.out _).mono ?_; rintro e w5 ⟨rfl, hb5⟩
             have rb5 : Row w5 B #[.int .i64 1, .int .i64 fk, .int .i64 fs, .int .i64 fd, .int .u32 fl, .int .u32 fq, .int .u32 fa, .int .u32 0, .string (b.extract 20 b.size)] 26 := Row.below (n₀ := _) (W := V.setCell ⟨B, 8, none⟩ (.string (b.extract 20 b.size))) (by have h := rb2.set 8 (.string (b.extract 20 b.size)); simpa using h) hb5 (by have := rb2.lt; simpa using this)
             have rz5 : Row w5 w.heap.size #[.int .i64 0, .int .i64 0, .int .i64 0, .int .i64 0, .int .u32 0, .int .u32 0, .int .u32 0, .int .u32 0, .string ⟨#[]⟩] 26 := Row.below (W := V.setCell ⟨B, 8, none⟩ (.string (b.extract 20 b.size))) (rz2.other (p := ⟨B, 8, none⟩) hBne _) hb5 (by have := rz2.lt; simpa using this)
             have hB5 : Below w.heap.size w w5 := (hB2.setCell (p := ⟨B, 8, none⟩) (Nat.le_of_lt hBl) _).trans (hb5.mono (by have := hB2.size; simpa using this))
             clear c0 c1 c2 c3 c4 c5 c6 c7 c8 d0 d1 d2 d3 d4 d5 d6 d7 d8 z0 z1 z2 z3 z4 z5 z6 z7 z8 y0 y1 y2 y3 y4 y5 y6 y7 y8
             have c0 := rb5.cell 0 _ rfl
             have d0 := rb5.thawed 0
             have c1 := rb5.cell 1 _ rfl
             have d1 := rb5.thawed 1
             have c2 := rb5.cell 2 _ rfl
             have d2 := rb5.thawed 2
             have c3 := rb5.cell 3 _ rfl
             have d3 := rb5.thawed 3
             have c4 := rb5.cell 4 _ rfl
             have d4 := rb5.thawed 4
             have c5 := rb5.cell 5 _ rfl
             have d5 := rb5.thawed 5
             have c6 := rb5.cell 6 _ rfl
             have d6 := rb5.thawed 6
             have c7 := rb5.cell 7 _ rfl
             have d7 := rb5.thawed 7
             have c8 := rb5.cell 8 _ rfl
             have d8 := rb5.thawed 8
             have z0 := rz5.cell 0 _ rfl
             have y0 := rz5.thawed 0
             have z1 := rz5.cell 1 _ rfl
             have y1 := rz5.thawed 1
             have z2 := rz5.cell 2 _ rfl
             have y2 := rz5.thawed 2
             have z3 := rz5.cell 3 _ rfl
             have y3 := rz5.thawed 3
             have z4 := rz5.cell 4 _ rfl
             have y4 := rz5.thawed 4
             have z5 := rz5.cell 5 _ rfl
             have y5 := rz5.thawed 5
             have z6 := rz5.cell 6 _ rfl
             have y6 := rz5.thawed 6
             have z7 := rz5.cell 7 _ rfl
             have y7 := rz5.thawed 7
             have z8 := rz5.cell 8 _ rfl
             have y8 := rz5.thawed 8))
        exact bodyPost_ret (v := Res) (by rw [hres]; simp [results, Tryd.results7, go_sem, z0, z1, z2, z3, z4, z5, z6, z7, z8]) rfl ⟨rfl, by first | exact below_fill _ _ _ _ _ _ _ _ _ hB5 (b := w.heap.size) (Nat.le_refl _) | exact hB5⟩
      | true =>
        have hres : Res = .tuple #[.agg #[.int .i64 1, .int .i64 fk, .int .i64 fs, .int .i64 fd, .int .u32 fl, .int .u32 fq, .int .u32 fa, .int .u32 0, .string (b.extract 20 b.size)], .int .i64 0] := by rw [← HRes.out, if_pos (by rw [hgood, hm, hr]; simp), if_pos (by rw [hgood, hm, hr]; simp), hfv]
        rw [hr] at HRT
        clear hR1 hR2 hfv hgood hm HRes hN0 hNN hbs2 hr
        go_wp2_with (first
          | (go_at_call 16; have H := HN; refine (H.out _ _ (by decide) (by omega)).mono ?_; clear H HN; rintro e wp ⟨rfl, ⟨nn, rfl⟩⟩
             have rb2 : Row (wc.drewN nn) B #[.int .i64 1, .int .i64 fk, .int .i64 fs, .int .i64 fd, .int .u32 fl, .int .u32 fq, .int .u32 fa, .int .u32 0, .string ⟨#[]⟩] 26 := row_drewN rb nn
             have rz2 : Row (wc.drewN nn) w.heap.size #[.int .i64 0, .int .i64 0, .int .i64 0, .int .i64 0, .int .u32 0, .int .u32 0, .int .u32 0, .int .u32 0, .string ⟨#[]⟩] 26 := row_drewN rz nn
             have hB2 : Below w.heap.size w (wc.drewN nn) := below_drewN hB nn
             clear c0 c1 c2 c3 c4 c5 c6 c7 c8 d0 d1 d2 d3 d4 d5 d6 d7 d8
             have hBv := hB2
             generalize hV : (wc.drewN nn) = V at *
             clear hV
             have c0 := rb2.cell 0 _ rfl
             have d0 := rb2.thawed 0
             have c1 := rb2.cell 1 _ rfl
             have d1 := rb2.thawed 1
             have c2 := rb2.cell 2 _ rfl
             have d2 := rb2.thawed 2
             have c3 := rb2.cell 3 _ rfl
             have d3 := rb2.thawed 3
             have c4 := rb2.cell 4 _ rfl
             have d4 := rb2.thawed 4
             have c5 := rb2.cell 5 _ rfl
             have d5 := rb2.thawed 5
             have c6 := rb2.cell 6 _ rfl
             have d6 := rb2.thawed 6
             have c7 := rb2.cell 7 _ rfl
             have d7 := rb2.thawed 7
             have c8 := rb2.cell 8 _ rfl
             have d8 := rb2.thawed 8
             have z0 := rz2.cell 0 _ rfl
             have y0 := rz2.thawed 0
             have z1 := rz2.cell 1 _ rfl
             have y1 := rz2.thawed 1
             have z2 := rz2.cell 2 _ rfl
             have y2 := rz2.thawed 2
             have z3 := rz2.cell 3 _ rfl
             have y3 := rz2.thawed 3
             have z4 := rz2.cell 4 _ rfl
             have y4 := rz2.thawed 4
             have z5 := rz2.cell 5 _ rfl
             have y5 := rz2.thawed 5
             have z6 := rz2.cell 6 _ rfl
             have y6 := rz2.thawed 6
             have z7 := rz2.cell 7 _ rfl
             have y7 := rz2.thawed 7
             have z8 := rz2.cell 8 _ rfl
             have y8 := rz2.thawed 8)
          | (go_at_call 17; refine (HRT.out _).mono ?_; rintro e w5 ⟨rfl, hb5⟩
             have rb5 : Row w5 B #[.int .i64 1, .int .i64 fk, .int .i64 fs, .int .i64 fd, .int .u32 fl, .int .u32 fq, .int .u32 fa, .int .u32 0, .string (b.extract 20 b.size)] 26 := Row.below (n₀ := _) (W := V.setCell ⟨B, 8, none⟩ (.string (b.extract 20 b.size))) (by have h := rb2.set 8 (.string (b.extract 20 b.size)); simpa using h) hb5 (by have := rb2.lt; simpa using this)
             have rz5 : Row w5 w.heap.size #[.int .i64 0, .int .i64 0, .int .i64 0, .int .i64 0, .int .u32 0, .int .u32 0, .int .u32 0, .int .u32 0, .string ⟨#[]⟩] 26 := Row.below (W := V.setCell ⟨B, 8, none⟩ (.string (b.extract 20 b.size))) (rz2.other (p := ⟨B, 8, none⟩) hBne _) hb5 (by have := rz2.lt; simpa using this)
             have hB5 : Below w.heap.size w w5 := (hB2.setCell (p := ⟨B, 8, none⟩) (Nat.le_of_lt hBl) _).trans (hb5.mono (by have := hB2.size; simpa using this))
             clear c0 c1 c2 c3 c4 c5 c6 c7 c8 d0 d1 d2 d3 d4 d5 d6 d7 d8 z0 z1 z2 z3 z4 z5 z6 z7 z8 y0 y1 y2 y3 y4 y5 y6 y7 y8
             have c0 := rb5.cell 0 _ rfl
             have d0 := rb5.thawed 0
             have c1 := rb5.cell 1 _ rfl
             have d1 := rb5.thawed 1
             have c2 := rb5.cell 2 _ rfl
             have d2 := rb5.thawed 2
             have c3 := rb5.cell 3 _ rfl
             have d3 := rb5.thawed 3
             have c4 := rb5.cell 4 _ rfl
             have d4 := rb5.thawed 4
             have c5 := rb5.cell 5 _ rfl
             have d5 := rb5.thawed 5
             have c6 := rb5.cell 6 _ rfl
             have d6 := rb5.thawed 6
             have c7 := rb5.cell 7 _ rfl
             have d7 := rb5.thawed 7
             have c8 := rb5.cell 8 _ rfl
             have d8 := rb5.thawed 8
             have z0 := rz5.cell 0 _ rfl
             have y0 := rz5.thawed 0
             have z1 := rz5.cell 1 _ rfl
             have y1 := rz5.thawed 1
             have z2 := rz5.cell 2 _ rfl
             have y2 := rz5.thawed 2
             have z3 := rz5.cell 3 _ rfl
             have y3 := rz5.thawed 3
             have z4 := rz5.cell 4 _ rfl
             have y4 := rz5.thawed 4
             have z5 := rz5.cell 5 _ rfl
             have y5 := rz5.thawed 5
             have z6 := rz5.cell 6 _ rfl
             have y6 := rz5.thawed 6
             have z7 := rz5.cell 7 _ rfl
             have y7 := rz5.thawed 7
             have z8 := rz5.cell 8 _ rfl
             have y8 := rz5.thawed 8))
        exact bodyPost_ret (v := Res) (by rw [hres]; simp [results, Tryd.results7, go_sem, z0, z1, z2, z3, z4, z5, z6, z7, z8]) rfl ⟨rfl, by first | exact below_fill _ _ _ _ _ _ _ _ _ hB5 (b := w.heap.size) (Nat.le_refl _) | exact hB5⟩
end Go.Proofs.YtphfnlgjiomjkaaDoor
