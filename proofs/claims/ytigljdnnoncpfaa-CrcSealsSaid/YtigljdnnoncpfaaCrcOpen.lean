/-
  What the functions of package crc, and of the document's answers to it, come to: sealing, opening, numbers out of bytes.
-/
import Derived.Test.YtigljdnnoncpfaaCrcPut
import Derived.Test.YtigljdnnoncpfaaTail
import Derived.Deep.QuietTactic
import Derived.BigQuiet
namespace Go.Proofs.Ytigljdnnoncpfaa
open Go.RowKit Go.Shelf
attribute [local go_sem] Oper.semAt_some

theorem txt_size (l : List UInt8) : (txt l).size = l.length := by simp [txt, ByteArray.size]
theorem txt_seal (s : ByteArray) : s ++ txt (CrcM.put (CrcM.sum s.data.toList)) = txt (CrcM.withSum s.data.toList) := by
  apply ByteArray.ext
  simp [txt, CrcM.withSum]
set_option maxRecDepth 100000 in
theorem crcSeal (s : ByteArray) (hs : s.size ≤ 100000) (w : World) : Calls Try.prog 27 #[.string s] w fun e w' => e = .returned (.string (txt (CrcM.withSum s.data.toList))) ∧ Below w.heap.size w w' := by
  have hm : s.size ≤ maxLen := by unfold maxLen; omega
  have hl : ¬ 9223372036854775807 < s.size + (txt (CrcM.put (CrcM.sum s.data.toList))).size := by rw [txt_size, CrcM.put_length]; omega
  go_enter Try.func27, Try.ntmps27
  go_wp2_with (first | (go_at_call 14; refine (crcSum s hm _).mono ?_; rintro e w1 ⟨rfl, hb1⟩) | (go_at_call 25; refine (crcPut _ _).mono ?_; rintro e w2 ⟨rfl, hb2⟩))
  go_ret
  exact ⟨by rw [← txt_seal]; rfl, hb1.trans (hb2.mono hb1.size)⟩
set_option maxRecDepth 100000 in
theorem refSeal (s : ByteArray) (hs : s.size ≤ 100000) (w : World) : Calls Try.prog 28 #[.string s] w fun e w' => e = .returned (.string (txt (CrcM.withSum s.data.toList))) ∧ Below w.heap.size w w' := by
  have hm : s.size ≤ maxLen := by unfold maxLen; omega
  have hl : ¬ 9223372036854775807 < s.size + (txt (CrcM.put (CrcM.sum s.data.toList))).size := by rw [txt_size, CrcM.put_length]; omega
  go_enter Try.func28, Try.ntmps28
  go_wp2_with (first | (go_at_call 16; refine (refSum s hm _).mono ?_; rintro e w1 ⟨rfl, rfl⟩) | (go_at_call 26; refine (refPut _ _).mono ?_; rintro e w2 ⟨rfl, hb2⟩))
  go_ret
  exact ⟨by rw [← txt_seal]; rfl, hb2⟩
theorem bits_or_nat (x y : Nat) (hx : x < 4294967296) (hy : y < 4294967296) : bits .or .u32 (x : Int) (y : Int) = ((x ||| y : Nat) : Int) := by
  have h := bits_or (BitVec.ofNat 32 x) (BitVec.ofNat 32 y)
  rw [BitVec.toNat_or, BitVec.toNat_ofNat, BitVec.toNat_ofNat, Nat.mod_eq_of_lt hx, Nat.mod_eq_of_lt hy] at h
  exact h
theorem bits_or_add (x y i : Nat) (hx : x < 2 ^ i) (hy : y * 2 ^ i + x < 4294967296) : bits .or .u32 (x : Int) ((y * 2 ^ i : Nat) : Int) = ((y * 2 ^ i + x : Nat) : Int) := by
  rw [bits_or_nat _ _ (by omega) (by omega), Nat.or_comm, ← Nat.shiftLeft_eq, ← Nat.shiftLeft_add_eq_or_of_lt hx, Nat.shiftLeft_eq]
theorem get_nat (a b c d : UInt8) : (CrcM.get [a, b, c, d]).toNat = d.toNat * 2 ^ 24 + (c.toNat * 2 ^ 16 + (b.toNat * 2 ^ 8 + a.toNat)) := by
  have ha := a.toNat_lt; have hb := b.toNat_lt; have hc := c.toNat_lt; have hd := d.toNat_lt
  simp only [CrcM.get, List.getD_cons_zero, List.getD_cons_succ, BitVec.toNat_ofNat]
  omega
theorem get_spelled (a b c d : UInt8) : bits .or .u32 (bits .or .u32 (bits .or .u32 ((a.toNat : Int) % 4294967296) ((b.toNat : Int) % 4294967296 * 256 % 4294967296)) ((c.toNat : Int) % 4294967296 * 65536 % 4294967296)) ((d.toNat : Int) % 4294967296 * 16777216 % 4294967296) = ((CrcM.get [a, b, c, d]).toNat : Int) := by
  have ha := a.toNat_lt; have hb := b.toNat_lt; have hc := c.toNat_lt; have hd := d.toNat_lt
  rw [get_nat]
  rw [show (a.toNat : Int) % 4294967296 = (a.toNat : Int) from by omega, show (b.toNat : Int) % 4294967296 * 256 % 4294967296 = ((b.toNat * 2 ^ 8 : Nat) : Int) from by omega,
    show (c.toNat : Int) % 4294967296 * 65536 % 4294967296 = ((c.toNat * 2 ^ 16 : Nat) : Int) from by omega, show (d.toNat : Int) % 4294967296 * 16777216 % 4294967296 = ((d.toNat * 2 ^ 24 : Nat) : Int) from by omega]
  rw [bits_or_add _ _ 8 (by omega) (by omega), bits_or_add _ _ 16 (by omega) (by omega), bits_or_add _ _ 24 (by omega) (by omega)]
set_option maxRecDepth 100000 in
theorem refGet4 (a b c d : UInt8) (w : World) : Calls Try.prog 22 #[.string ⟨#[a, b, c, d]⟩] w fun e w' => e = .returned (.tuple #[.int .u32 ((CrcM.get [a, b, c, d]).toNat : Int), .int .i64 0]) ∧ ∃ n, w' = w.drewN n := by
  go_enter Try.func22, Try.ntmps22
  go_wp2
  go_quiet (fail)
  go_wp2
  go_ret2
  exact ⟨by rw [← get_spelled]; rfl, _, rfl⟩
theorem four (s : ByteArray) (h : s.size = 4) : ∃ a b c d, s = ⟨#[a, b, c, d]⟩ := by
  obtain ⟨⟨l⟩⟩ := s
  match l, h with
  | [a, b, c, d], _ => exact ⟨a, b, c, d, rfl⟩
set_option maxRecDepth 100000 in
theorem refGetNo (s : ByteArray) (h : s.size ≠ 4) (w : World) : Calls Try.prog 22 #[.string s] w fun e w' => e = .returned (.tuple #[.int .u32 0, .int .i64 2]) ∧ w = w' := by
  have hb : ((s.size : Int) != 4) = true := by rw [bne_iff_ne]; omega
  go_enter Try.func22, Try.ntmps22
  go_wp2
  go_ret2
  exact ⟨rfl, rfl⟩

set_option maxRecDepth 100000 in
theorem crcGetNo (s : ByteArray) (h : s.size ≠ 4) (w : World) : Calls Try.prog 21 #[.string s] w fun e w' => e = .returned (.tuple #[.int .u32 0, .int .i64 2]) ∧ w = w' := by
  have hb : ((s.size : Int) != 4) = true := by rw [bne_iff_ne]; omega
  go_enter Try.func21, Try.ntmps21
  go_wp2
  go_ret2
  exact ⟨rfl, rfl⟩

/-- The number of the first bytes of four. -/
def accN (a b c d : UInt8) : Nat → Nat
  | 0 => 0
  | 1 => a.toNat
  | 2 => b.toNat * 2 ^ 8 + a.toNat
  | 3 => c.toNat * 2 ^ 16 + (b.toNat * 2 ^ 8 + a.toNat)
  | _ => d.toNat * 2 ^ 24 + (c.toNat * 2 ^ 16 + (b.toNat * 2 ^ 8 + a.toNat))

theorem acc0 (a b c d : UInt8) : bits .or .u32 (accN a b c d 0 : Int) ((a.toNat : Int) % 4294967296 % 4294967296) = (accN a b c d 1 : Int) := by
  have ha := a.toNat_lt
  have h := bits_or_nat 0 a.toNat (by omega) (by omega)
  rw [Nat.zero_or] at h
  rw [show (a.toNat : Int) % 4294967296 % 4294967296 = (a.toNat : Int) from by omega]
  exact h
theorem acc1 (a b c d : UInt8) : bits .or .u32 (accN a b c d 1 : Int) ((b.toNat : Int) % 4294967296 * 256 % 4294967296) = (accN a b c d 2 : Int) := by
  have ha := a.toNat_lt; have hb := b.toNat_lt
  rw [show (b.toNat : Int) % 4294967296 * 256 % 4294967296 = ((b.toNat * 2 ^ 8 : Nat) : Int) from by omega]
  exact bits_or_add _ _ 8 (by simp only [accN]; omega) (by simp only [accN]; omega)
theorem acc2 (a b c d : UInt8) : bits .or .u32 (accN a b c d 2 : Int) ((c.toNat : Int) % 4294967296 * 65536 % 4294967296) = (accN a b c d 3 : Int) := by
  have ha := a.toNat_lt; have hb := b.toNat_lt; have hc := c.toNat_lt
  rw [show (c.toNat : Int) % 4294967296 * 65536 % 4294967296 = ((c.toNat * 2 ^ 16 : Nat) : Int) from by omega]
  exact bits_or_add _ _ 16 (by simp only [accN]; omega) (by simp only [accN]; omega)
theorem acc3 (a b c d : UInt8) : bits .or .u32 (accN a b c d 3 : Int) ((d.toNat : Int) % 4294967296 * 16777216 % 4294967296) = (accN a b c d 4 : Int) := by
  have ha := a.toNat_lt; have hb := b.toNat_lt; have hc := c.toNat_lt; have hd := d.toNat_lt
  rw [show (d.toNat : Int) % 4294967296 * 16777216 % 4294967296 = ((d.toNat * 2 ^ 24 : Nat) : Int) from by omega]
  exact bits_or_add _ _ 24 (by simp only [accN]; omega) (by simp only [accN]; omega)

set_option maxRecDepth 100000 in
set_option maxHeartbeats 2000000 in
theorem crcGet4 (a b c d : UInt8) (w : World) : Calls Try.prog 21 #[.string ⟨#[a, b, c, d]⟩] w fun e w' =>
    e = .returned (.tuple #[.int .u32 ((CrcM.get [a, b, c, d]).toNat : Int), .int .i64 0]) ∧ Below w.heap.size w w' := by
  refine (callsIn_wide (n := 3)).1 ?_
  refine callsIn_of_wp_marks Try.func21 rfl trivial ?_ rfl
  simp only [Try.ntmps21, List.size_toArray, List.length_cons, List.length_nil, Nat.reduceAdd, Nat.reduceSub, Array.replicate_succ, Array.replicate_zero, List.push_toArray, List.append_toArray, List.nil_append, List.cons_append]
  gi_wp2_with (refine ⟨trivial, ?_⟩; gi_at_call 29; refine (callsIn_wide.2 (crcBytesOf _ _)).mono ?_; rintro e w' ⟨rfl, rfl⟩)
  have c0 := Box.new w (.int .u32 0) 22
  have c1 := Box.new (w.alloc (.cells #[.int .u32 0] 22)) (.string ⟨#[a, b, c, d]⟩) 9
  simp only [World.size_alloc] at c1
  have hB0 : Below w.heap.size w ((w.alloc (.cells #[.int .u32 0] 22)).alloc (.cells #[.string ⟨#[a, b, c, d]⟩] 9)) := ((Below.refl _ w).alloc (Nat.le_refl _) _).alloc (by simp) _
  refine wpIn_goes_plain rfl (by omega) (gf := 33) (lb := #[.pointer (some ⟨w.heap.size + 1, 0, none⟩)]) rfl trivial (enters_of Try.func33 (by kernel_rfl) rfl)
    (crcBytesGoes Fence.wide _ trivial rfl (by omega) _ (w.heap.size + 1) ⟨#[a, b, c, d]⟩ (by show 4 ≤ maxLen; unfold maxLen; omega) (by simp) c1.1) (by rintro b rfl; simp) (Below.refl _ _) (fun _ => rfl)
    (fun k W => Box W w.heap.size (.int .u32 (accN a b c d k : Int)) ∧ Below w.heap.size w W)
    (fun _ _ _ => False)
    (OwnFrom.and ((Box.own _ _).from _) (ownFrom_below (Nat.le_refl _) (by simp; omega)))
    (fun _ _ _ _ _ hs _ _ => hs)
    ⟨c0.alloc _, hB0⟩
    (fun x => { tmps := #[.string ⟨#[a, b, c, d]⟩, undef, .int .u32 0, .int .i64 0, .pointer (some ⟨w.heap.size, 0, none⟩), .int .i64 (x.1 : Int), .int .u8 (x.2.toNat : Int), .string ⟨#[a, b, c, d]⟩,
      .int .i64 4, .bool false, .string ⟨#[a, b, c, d]⟩, .func (.func 33) #[] #[.pointer (some ⟨w.heap.size + 1, 0, none⟩)], .int .i64 (x.1 : Int), .int .u8 (x.2.toNat : Int),
      undef, undef, undef, undef, undef, undef, undef, undef], defers := [] }) ?assign ?body ?done ?stop
  case assign =>
    intro l x W K hK
    gi_wp2
    exact hK
  case body =>
    rintro l k x W hx ⟨bx, hB⟩
    obtain ⟨hc, hf⟩ := bx
    obtain ⟨hlt, rfl⟩ := bytesAt_get _ k x hx
    clear hx
    have hmx : Try.prog.follows .mixedOrders = true := by kernel_rfl
    have hk : k = 0 ∨ k = 1 ∨ k = 2 ∨ k = 3 := by
      have h4 : (⟨#[a, b, c, d]⟩ : ByteArray).size = 4 := rfl
      omega
    have w0 : IntKind.i64.wrap 0 = 0 := by decide
    have w1 : IntKind.i64.wrap 8 = 8 := by decide
    have w2 : IntKind.i64.wrap 16 = 16 := by decide
    have w3 : IntKind.i64.wrap 24 = 24 := by decide
    have ends : ∀ (B k : Nat) (x : Int), x = (accN a b c d (k + 1) : Int) → KeepsFrom B W (W.setCell ⟨w.heap.size, 0, none⟩ (.int .u32 x)).drew ∧ Keeps (fun x => x = w.heap.size + 1) W (W.setCell ⟨w.heap.size, 0, none⟩ (.int .u32 x)).drew ∧
        Box (W.setCell ⟨w.heap.size, 0, none⟩ (.int .u32 x)).drew w.heap.size (.int .u32 (accN a b c d (k + 1) : Int)) ∧ Below w.heap.size w (W.setCell ⟨w.heap.size, 0, none⟩ (.int .u32 x)).drew := fun B k x hx => by
      subst hx
      exact ⟨((KeepsOthers.setCell _ _ _).trans (KeepsOthers.drew _)).from _, (Keeps.refl _ _).setCell _ _ (by simp), Box.drew (Box.set ⟨hc, hf⟩ _), (hB.setCell (p := ⟨w.heap.size, 0, none⟩) (Nat.le_refl _) _).drew⟩
    have ENDS := Lib.hid ends
    clear ends
    rcases hk with rfl | rfl | rfl | rfl
    all_goals
      gi_wp2
      refine wpIn_region_tail 7 hmx (by kernel_rfl) (by kernel_rfl) ?_
      simp only [List.take_succ_cons, List.take_zero, List.drop_succ_cons, List.drop_zero]
      repeat still_step
      refine wpStill_nil ?_
      gi_wp2
    · exact ENDS.out _ 0 _ (acc0 a b c d)
    · exact ENDS.out _ 1 _ (acc1 a b c d)
    · exact ENDS.out _ 2 _ (acc2 a b c d)
    · exact ENDS.out _ 3 _ (acc3 a b c d)
  case done =>
    rintro D W hD ⟨bx, hB⟩ hK
    obtain ⟨hc, hf⟩ := bx
    gi_wp2
    refine ⟨by simp, .inl ⟨_, _, rfl, run_takeDeferred hK, ?_⟩⟩
    refine ⟨_, results_tmp2 rfl _ _ _, ?_, hB.trans (belowK_b (w := w) (Nat.le_refl _) W D _ _ (by simp at hD; omega) hK rfl rfl)⟩
    rw [get_nat]
    rfl
  case stop =>
    rintro D c pre W _ _ h _
    exact h.elim
end Go.Proofs.Ytigljdnnoncpfaa
