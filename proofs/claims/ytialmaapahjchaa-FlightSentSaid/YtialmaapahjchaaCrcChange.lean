/-
  What crc.Change comes to.
-/
import Derived.Test.YtialmaapahjchaaCrcRef
import Derived.Test.YtialmaapahjchaaCrcChgMath
import Derived.RangeFuncNested
import Derived.RangeFuncBox
import Derived.Maps.AppendAt
import Derived.Deep.RegionHeld3
import Derived.WalkMore
import Derived.Deep.QuietTactic
import Derived.BigQuiet
namespace Go.Proofs.Ytialmaapahjchaa
open Go.RowKit Go.Shelf
attribute [local go_sem] Oper.semAt_some

set_option maxRecDepth 100000 in
theorem crcChangeNo (s : ByteArray) (bit : Int) (m : BitVec 32) (hs : s.size ≤ 100000) (h1 : bit ≤ 2 ^ 63 - 1) (h : bit < 0 ∨ 8 * (s.size : Int) ≤ bit) (w : World) :
    Calls Try.prog 33 #[.string s, .int .i64 bit, .int .u32 (m.toNat : Int)] w fun e w' => e = .returned (.tuple #[.string ⟨#[]⟩, .int .i64 2]) ∧ Below w.heap.size w w' := by
  rcases h with h | h
  · have hd : decide (bit < 0) = true := by simp; omega
    clear h1
    go_enter Try.func33, Try.ntmps33
    go_wp2
    go_step3
    go_wp2
    try rw [Exit.noGoto_ret]
    go_ret2
    exact ⟨rfl, ((Below.refl _ _).alloc (Nat.le_refl _) _).alloc (by simp) _⟩
  · have hb : 0 ≤ bit := by omega
    have hd : decide (bit < 0) = false := by simp; omega
    have he : decide ((s.size : Int) ≤ bit / 8) = true := by simp; omega
    go_enter Try.func33, Try.ntmps33
    go_wp2
    go_step3
    go_wp2
    try rw [Exit.noGoto_ret]
    go_ret2
    exact ⟨rfl, ((Below.refl _ _).alloc (Nat.le_refl _) _).alloc (by simp) _⟩

theorem info_u8 : (Try.prog.info? 5).map (fun i => (i.zero, i.size, i.bytes)) = some (some (.int .u8 0), 1, 1) := by kernel_rfl
/-- A byte, as a value. -/
abbrev byteV (b : UInt8) : Value := .int .u8 (b.toNat : Int)
theorem bits_xor8 (a b : UInt8) : bits .xor .u8 (a.toNat : Int) (b.toNat : Int) = ((a ^^^ b).toNat : Int) := by
  have h := (a ^^^ b).toNat_lt
  have e : ∀ x : UInt8, BitVec.ofInt 8 (x.toNat : Int) = x.toBitVec := fun x => by simp
  simp only [bits, IntKind.bits, e, IntKind.wrap, IntKind.signed]
  simp only [Bool.false_and, Bool.false_eq_true, if_false]
  show (((a ^^^ b).toNat : Nat) : Int) % 2 ^ 8 = _
  generalize (a ^^^ b).toNat = n at *
  omega
theorem bits_and_one (x : Nat) (hx : x < 4294967296) : bits .and .u32 (x : Int) 1 = ((x % 2 : Nat) : Int) := by
  have h : bits .and .u32 (((BitVec.ofNat 32 x).toNat : Nat) : Int) 1 = ((BitVec.ofNat 32 x &&& 1#32).toNat : Int) := bits_and (BitVec.ofNat 32 x) 1#32
  rw [BitVec.toNat_and, BitVec.toNat_ofNat, Nat.mod_eq_of_lt hx] at h
  rw [h]
  show ((x &&& 1 : Nat) : Int) = _
  rw [Nat.and_one_is_mod]
theorem turn_spelled (c : UInt8) (m : BitVec 32) (p q : Nat) : bits .xor .u8 (c.toNat : Int) (bits .and .u32 ((m.toNat : Int) / 2 ^ p) 1 % 256 * 2 ^ q % 256) = ((c ^^^ UInt8.ofNat (m.toNat / 2 ^ p % 2 * 2 ^ q)).toNat : Int) := by
  have hm := m.isLt
  have e : (m.toNat : Int) / 2 ^ p = ((m.toNat / 2 ^ p : Nat) : Int) := by simp
  rw [e, bits_and_one _ (Nat.lt_of_le_of_lt (Nat.div_le_self _ _) hm), ← bits_xor8]
  congr 1
  rw [UInt8.toNat_ofNat']
  have h2 : m.toNat / 2 ^ p % 2 < 2 := Nat.mod_lt _ (by omega)
  generalize m.toNat / 2 ^ p % 2 = z at *
  rw [show ((z : Nat) : Int) % 256 = (z : Int) from by omega]
  simp
/-- What memory holds while crc.Change goes: the variables, and the bytes that have been made. -/
def Turning (n₀ Bb Bm Bt Bs : Nat) (bit m : Int) (t : ByteArray) (c : Nat) (l : List UInt8) (v : Value) (W : World) : Prop :=
  Boxed W Bt 75 v ∧ W.ownsRow n₀ 5 1 v c (l.map byteV) ∧ Boxed W Bb 3 (.int .i64 bit) ∧ Boxed W Bm 28 (.int .u32 m) ∧ Boxed W Bs 9 (.string t)
variable {n₀ Bb Bm Bt Bs : Nat} {bit m : Int} {t : ByteArray} {c : Nat} {l : List UInt8} {v : Value} {W : World}
theorem boxed_stays {W W' : World} {row : Option Nat} {B : Nat} {ty : TypeId} {v : Value} (h : Boxed W B ty v) (hg : W.grownBy W' row) (hr : ∀ r, row = some r → ∃ o : Obj, W.heap[r]? = some o ∧ o.isCells = false) : Boxed W' B ty v :=
  h.kept hg (fun e => by obtain ⟨o, ho, hc⟩ := hr B e.symm; rw [show W.heap[B]? = _ from h] at ho; cases ho; cases hc)
theorem Turning.kept (h : Turning n₀ Bb Bm Bt Bs bit m t c l v W) {W' : World} {row : Option Nat} (hg : W.grownBy W' row) (hr : ∀ r, row = some r → ∃ o : Obj, W.heap[r]? = some o ∧ o.isCells = false) : Turning n₀ Bb Bm Bt Bs bit m t c l v W' := by
  obtain ⟨h1, h2, h3, h4, h5⟩ := h
  refine ⟨boxed_stays h1 hg hr, h2.kept hg ?_, boxed_stays h3 hg hr, boxed_stays h4 hg hr, boxed_stays h5 hg hr⟩
  rcases h2.2 with ⟨rfl, _⟩ | ⟨g, cap, cur, rfl, _, hgb, _⟩
  · exact .inl rfl
  · refine .inr fun e' => ?_
    obtain ⟨o, ho, hc⟩ := hr g (by simpa [Value.ownBlock] using e'.symm)
    rw [hgb] at ho; cases ho; cases hc
theorem Turning.append (h : Turning n₀ Bb Bm Bt Bs bit m t c l v W) (hBb : Bb ≠ Bt) (hBm : Bm ≠ Bt) (hBs : Bs ≠ Bt) (hn₀ : n₀ ≤ W.heap.size) (hB : n₀ ≤ Bt) {w1 : World} {v' : Value} {b : UInt8} {tmp : Obj}
    (hown' : w1.ownsRow n₀ 5 1 v' (c + 1) (l.map byteV ++ [byteV b])) (hgrow : (W.alloc tmp).grownBy w1 v.ownBlock) :
    Boxed w1 Bt 75 v ∧ Turning n₀ Bb Bm Bt Bs bit m t (c + 1) (l ++ [b]) v' (w1.setCell ⟨Bt, 0, none⟩ v') ∧ KeepsOthers W (w1.setCell ⟨Bt, 0, none⟩ v') ∧ Below n₀ W (w1.setCell ⟨Bt, 0, none⟩ v') := by
  obtain ⟨h1, h2, h3, h4, h5⟩ := h
  obtain ⟨a1, a2, a3, a4, a5⟩ := h1.appended (by decide) h2 hn₀ hB hown' hgrow
  have other : ∀ {B : Nat} {ty : TypeId} {u : Value}, Boxed W B ty u → ty ≠ 5 → B ≠ Bt → Boxed (w1.setCell ⟨Bt, 0, none⟩ v') B ty u := fun hb hty hne => (((hb.alloc tmp).kept hgrow (hb.not_row hty h2)).other hne v')
  exact ⟨a1, ⟨a2, by simpa using a3, other h3 (by decide) hBb, other h4 (by decide) hBm, other h5 (by decide) hBs⟩, a4, a5⟩
theorem Turning.store {g cap : Nat} (h : Turning n₀ Bb Bm Bt Bs bit m t c l (.slice (some ⟨g, 0, none⟩) c cap) W) (j : Nat) (b : UInt8) :
    Turning n₀ Bb Bm Bt Bs bit m t c (l.set j b) (.slice (some ⟨g, 0, none⟩) c cap) (W.setCell ⟨g, j, none⟩ (byteV b)) ∧ Below n₀ W (W.setCell ⟨g, j, none⟩ (byteV b)) := by
  obtain ⟨h1, h2, h3, h4, h5⟩ := h
  obtain ⟨s1, s2⟩ := h2.stored j (byteV b)
  have hng : n₀ ≤ g := by
    rcases h2.2 with ⟨h', _⟩ | ⟨g', cap', cur, h', hb, _⟩
    · simp at h'
    · simp only [Value.slice.injEq, Option.some.injEq, Addr.mk.injEq, and_true, true_and] at h'
      omega
  have other : ∀ {B : Nat} {ty : TypeId} {u : Value}, Boxed W B ty u → ty ≠ 5 → Boxed (W.setCell ⟨g, j, none⟩ (byteV b)) B ty u := fun hb hty => hb.kept s2 (by have := hb.not_row hty h2; simpa [Value.ownBlock] using this)
  exact ⟨⟨other h1 (by decide), by simpa [List.map_set] using s1, other h3 (by decide), other h4 (by decide), other h5 (by decide)⟩, (Below.refl _ _).setCell (p := ⟨g, j, none⟩) hng _⟩
theorem Turning.keeps {W' : World} {c' : Nat} {l' : List UInt8} {v' : Value} (h : Turning n₀ Bb Bm Bt Bs bit m t c l v W) (h' : Turning n₀ Bb Bm Bt Bs bit m t c' l' v' W') : Keeps (· = Bs) W W' := fun b hb => by
  subst hb
  exact (show W'.heap[b]? = _ from h'.2.2.2.2).trans (show W.heap[b]? = _ from h.2.2.2.2).symm
theorem Turning.own {β : Type} (n : β → Nat) (f : β → List UInt8) (B : Nat) : OwnFrom B (fun (s : β) W => ∃ v, Turning n₀ Bb Bm Bt Bs bit m t (n s) (f s) v W) := fun _ _ _ _ ⟨v, hs⟩ hg hr => ⟨v, hs.kept hg (fun r e => (hr r e).2)⟩

theorem append_toList' (s t : ByteArray) : (s ++ t).data.toList = s.data.toList ++ t.data.toList := by simp
theorem change_final (s t : ByteArray) (B f r : Nat) (m : BitVec 32) (m0 : Nat) (hT : s.extract f s.size = t) (hB : B = 8 * f + r) (hf : f < s.size) (_ : r < 8) (h : m0 = t.size ∨ 32 + r ≤ 8 * m0) :
    s.extract 0 f ++ txt ((CrcM.chg t.data.toList r m.toNat).take m0) ++ s.extract (f + m0) s.size = txt (CrcM.chg s.data.toList B m.toNat) := by
  have hn : s.data.toList.length = s.size := by simp
  have htd : t.data.toList = s.data.toList.drop f := by rw [← hT, Lib.extract_data, List.take_of_length_le (by rw [List.length_drop]; simp)]
  have htl : t.data.toList.length = t.size := by simp
  have e3 : (s.extract (f + m0) s.size).data.toList = t.data.toList.drop m0 := by
    rw [Lib.extract_data, htd, List.drop_drop, List.take_of_length_le (by rw [List.length_drop, hn]; omega)]
  have e1 : (s.extract 0 f).data.toList = s.data.toList.take f := by rw [Lib.extract_data]; simp
  have e4 : t.data.toList.drop m0 = (CrcM.chg t.data.toList r m.toNat).drop m0 := by
    rcases h with h | h
    · rw [List.drop_of_length_le (by omega), List.drop_of_length_le (by rw [CrcM.chg_length]; omega)]
    · rw [CrcM.chg_drop _ _ _ _ m.isLt h]
  apply ByteArray.ext
  apply Array.toList_inj.1
  rw [append_toList', append_toList', txt_toList, txt_toList, e1, e3, e4, List.append_assoc, List.take_append_drop, hB, CrcM.chg_split _ _ _ _ (by omega), ← htd]
set_option maxRecDepth 100000 in
set_option maxHeartbeats 2000000 in
theorem crcChange (s : ByteArray) (B f r : Nat) (m : BitVec 32) (hs : s.size ≤ 100000) (hB : B = 8 * f + r) (hr : r < 8) (hf : f < s.size) (w : World) :
    Calls Try.prog 33 #[.string s, .int .i64 (B : Int), .int .u32 (m.toNat : Int)] w fun e w' => e = .returned (.tuple #[.string (txt (CrcM.chg s.data.toList B m.toNat)), .int .i64 0]) ∧ Below w.heap.size w w' := by
  have hd : decide ((B : Int) < 0) = false := by simp
  have hq : (B : Int) / 8 = (f : Int) := by omega
  have he : decide ((s.size : Int) ≤ (f : Int)) = false := by simp; omega
  have hrem : (B : Int) % 8 = (r : Int) := by omega
  have hBl : B ≤ 1000000 := by omega
  have HB := Lib.hid hB
  clear hB
  refine (callsIn_wide (n := 3)).1 ?_
  refine callsIn_of_wp_marks Try.func33 rfl trivial ?_ rfl
  simp only [Try.ntmps33, List.size_toArray, List.length_cons, List.length_nil, Nat.reduceAdd, Nat.reduceSub, Array.replicate_succ, Array.replicate_zero, List.push_toArray, List.append_toArray, List.nil_append, List.cons_append]
  refine wpIn_wide.2 ?_
  go_wp2
  go_step3
  go_wp2
  go_step3
  go_wp2_with (go_at_call 39; refine (crcBytesOf _ _).mono ?_; rintro e w' ⟨rfl, rfl⟩)
  refine (wpIn_wide (n := 3)).1 ?_
  obtain ⟨t, ht⟩ : ∃ t, s.extract f s.size = t := ⟨_, rfl⟩
  have htn : t.size = s.size - f := by rw [← ht, ByteArray.size_extract]; omega
  have htl : t.size ≤ 100000 := by omega
  have htd : t.data.toList = s.data.toList.drop f := by rw [← ht, Lib.extract_data, List.take_of_length_le (by rw [List.length_drop]; simp)]
  rw [ht]
  have HT := Lib.hid ht
  have HTN := Lib.hid htn
  have HTD := Lib.hid htd
  clear ht htn htd
  have b0 := Boxed.new w 3 (.int .i64 (B : Int))
  have b1 := Boxed.new (w.alloc (.cells #[.int .i64 (B : Int)] 3)) 28 (.int .u32 (m.toNat : Int))
  have b2 := Boxed.new ((w.alloc (.cells #[.int .i64 (B : Int)] 3)).alloc (.cells #[.int .u32 (m.toNat : Int)] 28)) 75 (.slice none 0 0)
  have b3 := Boxed.new (((w.alloc (.cells #[.int .i64 (B : Int)] 3)).alloc (.cells #[.int .u32 (m.toNat : Int)] 28)).alloc (.cells #[.slice none 0 0] 75)) 9 (.string t)
  simp only [World.size_alloc] at b1 b2 b3
  have hB0 : Below w.heap.size w ((((w.alloc (.cells #[.int .i64 (B : Int)] 3)).alloc (.cells #[.int .u32 (m.toNat : Int)] 28)).alloc (.cells #[.slice none 0 0] 75)).alloc (.cells #[.string t] 9)) :=
    ((((Below.refl _ w).alloc (Nat.le_refl _) _).alloc (by simp) _).alloc (by simp; omega) _).alloc (by simp; omega) _
  have T0 : Turning w.heap.size w.heap.size (w.heap.size + 1) (w.heap.size + 1 + 1) (w.heap.size + 1 + 1 + 1) B m.toNat t 0 [] (.slice none 0 0)
      ((((w.alloc (.cells #[.int .i64 (B : Int)] 3)).alloc (.cells #[.int .u32 (m.toNat : Int)] 28)).alloc (.cells #[.slice none 0 0] 75)).alloc (.cells #[.string t] 9)) :=
    ⟨b2.alloc _, World.ownsRow_nil _ _ _ _, ((b0.alloc _).alloc _).alloc _, (b1.alloc _).alloc _, b3⟩
  have hms : t.size ≤ maxLen := by unfold maxLen; omega
  clear b0 b1 b2
  refine wpIn_goes_found rfl (by omega) (gf := 42) (lb := #[.pointer (some ⟨w.heap.size + 1 + 1 + 1, 0, none⟩)]) rfl trivial (enters_of Try.func42 (by kernel_rfl) rfl)
    (crcBytesGoes Fence.wide _ trivial rfl (by omega) _ (w.heap.size + 1 + 1 + 1) t hms (by simp) b3.cell) (by rintro b rfl; simp) (Below.refl _ _) (fun _ => rfl)
    (fun k W => 8 * k ≤ 32 + r ∧ (∃ v, Turning w.heap.size w.heap.size (w.heap.size + 1) (w.heap.size + 1 + 1) (w.heap.size + 1 + 1 + 1) B m.toNat t k ((CrcM.chg t.data.toList r m.toNat).take k) v W) ∧ Below w.heap.size w W)
    (fun c k W => (c = .exit 0 ∧ 32 + r ≤ 8 * (k + 1)) ∧ (∃ v, Turning w.heap.size w.heap.size (w.heap.size + 1) (w.heap.size + 1 + 1) (w.heap.size + 1 + 1 + 1) B m.toNat t (k + 1) ((CrcM.chg t.data.toList r m.toNat).take (k + 1)) v W) ∧ Below w.heap.size w W)
    (OwnFrom.and (ownFrom_pure _ _) (OwnFrom.and (Turning.own (fun k => k) (fun k => (CrcM.chg t.data.toList r m.toNat).take k) _) (ownFrom_below (Nat.le_refl _) (by simp; omega))))
    (fun c => OwnFrom.and (ownFrom_pure _ _) (OwnFrom.and (Turning.own (fun k => k + 1) (fun k => (CrcM.chg t.data.toList r m.toNat).take (k + 1)) _) (ownFrom_below (Nat.le_refl _) (by simp; omega))))
    ⟨by omega, ⟨_, T0⟩, hB0⟩
    ⟨_, (by intro l x W K hK; gi_wp2; exact hK), ?body⟩ ?done ?stop
  case body =>
    rintro l k x W hx ⟨h8, ⟨v, hT⟩, hBw⟩
    obtain ⟨hlt, rfl⟩ := bytesAt_get _ k x hx
    clear hx T0 hB0 b3
    have hk4 : k ≤ 4 := by omega
    obtain ⟨i0, hi, hz0, hz1, hz2⟩ := info_parts info_u8
    have hc := hT.1.cell
    gi_wp2_with (gi_at_builtin; refine wpListIn_append_own _ rfl _ _ 75 rfl w.heap.size 5 i0 (.int .u8 0) 1 1 Try.underlying75 hi hz0 hz1 hz2 rfl (by decide) _ _ _ rfl (hT.2.1.alloc _) ⟨W.heap.size, 0, none⟩ 1 1 [byteV t[k]] rfl rfl (cell_one_new _ _ _) (by simp [Value.oneCell']) (by unfold maxLen; omega) (by omega) (by have := hBw.size; simp; omega) ?_; intro v' w1 hown' hgrow _; obtain ⟨g, cap, rfl⟩ := ownsRow_succ hown'; obtain ⟨hv1, hT2, hk2, hb2⟩ := hT.append (by omega) (by omega) (by omega) hBw.size (by omega) hown' hgrow; have hc1 := hv1.cell; have hf1 := hv1.frozen)
    have hks : KeepsOthers W (w1.setCell ⟨w.heap.size + 1 + 1, 0, none⟩ (.slice (some ⟨g, 0, none⟩) (k + 1) cap)) := hk2
    generalize w1.setCell ⟨w.heap.size + 1 + 1, 0, none⟩ (.slice (some ⟨g, 0, none⟩) (k + 1) cap) = Y at *
    have hBY := hBw.trans hb2
    have hp0 : CrcM.part t.data.toList m.toNat r k 0 = (CrcM.chg t.data.toList r m.toNat).take k ++ [t[k]] := CrcM.part_zero _ _ _ _ (by simpa using hlt)
    rw [← hp0] at hT2
    clear hown' hgrow hv1 hc1 hf1 hc hk2 hb2 hp0 hi hz0 hz1 hz2
    have hkl : k < t.data.toList.length := by simpa using hlt
    have hmB : m.toNat < 2 ^ 32 := m.isLt
    have HMB := Lib.hid hmB
    clear hmB
    gi_loopw [34] (fun i wr => ∃ q : Nat, q ≤ 8 ∧ i = .int .i64 q ∧ 8 * k + q ≤ 32 + r ∧ Turning w.heap.size w.heap.size (w.heap.size + 1) (w.heap.size + 1 + 1) (w.heap.size + 1 + 1 + 1) B m.toNat t (k + 1) (CrcM.part t.data.toList m.toNat r k q) (.slice (some ⟨g, 0, none⟩) (k + 1) cap) wr ∧ KeepsOthers W wr ∧ Below w.heap.size w wr)
      (fun i _ => 8 - (intOf i).toNat)
    case atStart => exact ⟨0, by omega, rfl, by omega, hT2, hks, hBY⟩
    case round =>
      obtain ⟨q, hq8, rfl, hqr, hTq, hkq, hBq⟩ := hrel
      have hcb := hTq.2.2.1.cell
      have hcm := hTq.2.2.2.1.cell
      have hct := hTq.1.cell
      clear hT2 hks hBY
      by_cases hlt8 : q < 8
      · by_cases hA : 8 * k + q < r
        · have hA' : 8 * (k : Int) + (q : Int) - (r : Int) < 0 := by omega
          have hsk := CrcM.low_skip m.toNat r k q hA
          have hps : CrcM.part t.data.toList m.toNat r k q = CrcM.part t.data.toList m.toNat r k (q + 1) := by rw [CrcM.part, CrcM.part, hsk]
          rw [hps] at hTq
          clear hsk hps
          gi_wp2
          go_roundw
          case rel => exact ⟨q + 1, by omega, by go_num, by omega, hTq, hkq, hBq⟩
          case measure => simp [intOf]; omega
        · by_cases hB' : 32 + r ≤ 8 * k + q
          · have hC : 32 ≤ 8 * (k : Int) + (q : Int) - (r : Int) := by omega
            have hpf := CrcM.part_full t.data.toList m.toNat r k q hkl (CrcM.low_over _ _ _ _ HMB.out hB')
            rw [hpf] at hTq
            clear hpf
            gi_wp2
            exact ⟨hkq.from _, ⟨rfl, by omega⟩, ⟨_, hTq⟩, hBq⟩
          · have hC0 : 0 ≤ 8 * (k : Int) + (q : Int) - (r : Int) := by omega
            have hC1 : 8 * (k : Int) + (q : Int) - (r : Int) < 32 := by omega
            gi_wp2
            generalize hpe : 8 * (k : Int) + (q : Int) - (r : Int) = pz at *
            obtain ⟨p, rfl⟩ := Int.eq_ofNat_of_zero_le hC0
            have hpn : 8 * k + q - r = p := by omega
            have HPN := Lib.hid hpn
            obtain ⟨c, hce⟩ : ∃ c, t.data.toList.getD k 0 ^^^ CrcM.low (CrcM.meets m.toNat r k) q = c := ⟨_, rfl⟩
            have hcg : wr.cell? ⟨g, k, none⟩ = some (byteV c) := by
              rw [hTq.2.1.cellAt k (by omega), List.getElem?_map, CrcM.part_last _ _ _ _ _ hkl, hce]; rfl
            have hfg := hTq.2.1.frozenAt k
            have HCE := Lib.hid hce
            have hmx : Try.prog.follows .mixedOrders = true := by kernel_rfl
            clear hpe hpn hce
            have hk1 : (k : Int) < (k : Int) + 1 := by omega
            refine wpIn_region_tail 13 hmx (by kernel_rfl) (by kernel_rfl) ?_
            simp only [List.take_succ_cons, List.take_zero, List.drop_succ_cons, List.drop_zero]
            repeat still_step
            refine wpStill_nil ?_
            gi_wp2
            go_roundw
            case rel =>
              have hval := turn_spelled c m p q
              have hcq := CrcM.low_next m.toNat r k q (by omega)
              rw [HPN.out] at hcq
              obtain ⟨s1, s2⟩ := hTq.store k (c ^^^ UInt8.ofNat (m.toNat / 2 ^ p % 2 * 2 ^ q))
              rw [CrcM.part_set _ _ _ _ _ hkl _ (by rw [hcq, ← HCE.out, UInt8.xor_assoc])] at s1
              rw [hval]
              exact ⟨q + 1, by omega, by go_num, by omega, s1, hkq.trans ((KeepsOthers.setCell _ _ _).trans (KeepsOthers.drew _)), hBq.trans s2.drew⟩
            case measure => simp [intOf]; omega
      · have hpf := CrcM.part_full t.data.toList m.toNat r k q hkl (by rw [show q = 8 from by omega]; exact CrcM.low_eight _)
        rw [hpf] at hTq
        clear hpf
        gi_wp2
        exact ⟨hkq.from _, hT.keeps hTq, by omega, ⟨_, hTq⟩, hBq⟩
  case done =>
    rintro D W hD ⟨h8, ⟨v, hT⟩, hBw⟩ hK
    rw [bytesAt_length] at hT
    obtain ⟨m0, hm0⟩ : ∃ m0, t.size = m0 := ⟨_, rfl⟩
    have hor : m0 = t.size ∨ 32 + r ≤ 8 * m0 := .inl hm0.symm
    rw [hm0] at hT
    have hm1 : 1 ≤ m0 ∧ m0 ≤ t.size := by have := HTN.out; omega
    obtain ⟨hm1, hmt⟩ := hm1
    obtain ⟨g, cap, rfl⟩ : ∃ g cap, v = .slice (some ⟨g, 0, none⟩) m0 cap := by
      obtain ⟨z, rfl⟩ : ∃ z, m0 = z + 1 := ⟨m0 - 1, by omega⟩
      exact ownsRow_succ hT.2.1
    go_wp2
    have hcells : Holds W g 0 ((CrcM.chg t.data.toList r m.toNat).take m0) := fun j hj => by
      have hjm : j < m0 := by rw [List.length_take] at hj; omega
      rw [Nat.zero_add, hT.2.1.cellAt j (by omega), List.getElem?_map, List.getElem?_eq_getElem hj]; rfl
    have hlen : m0 = ((CrcM.chg t.data.toList r m.toNat).take m0).length := by rw [List.length_take, CrcM.chg_length]; simp; omega
    have hcall : ∀ nq : Nat, Calls Try.prog 40 #[.slice (some ⟨g, 0, none⟩) m0 cap] (W.drewN nq) fun e w' => e = .returned (.string (txt ((CrcM.chg t.data.toList r m.toNat).take m0))) ∧ w' = W.drewN nq := fun nq =>
      (crcText (W.drewN nq) g 0 m0 cap _ hlen hcells).mono fun e w' ⟨he, hw⟩ => ⟨he, hw.symm⟩
    have hfin := change_final s t B f r m m0 HT.out HB.out hf hr hor
    have hz : (txt ((CrcM.chg t.data.toList r m.toNat).take m0)).size = m0 := by rw [txt_size, ← hlen]
    have hz1 : (s.extract 0 f).size = f := by rw [ByteArray.size_extract]; omega
    have hz2 : (s.extract (f + m0) s.size).size = s.size - (f + m0) := by rw [ByteArray.size_extract]; omega
    have htn := HTN.out
    have hl1 : ¬ 9223372036854775807 < (s.extract 0 f).size + (txt ((CrcM.chg t.data.toList r m.toNat).take m0)).size := by omega
    have hl2 : ¬ 9223372036854775807 < (s.extract 0 f ++ txt ((CrcM.chg t.data.toList r m.toNat).take m0)).size + (s.extract (f + m0) s.size).size := by rw [ByteArray.size_append]; omega
    have hct := hT.1.cell
    have hfm : f + m0 ≤ s.size := by omega
    generalize txt ((CrcM.chg t.data.toList r m.toNat).take m0) = T at *
    have HC := Lib.hid hcall
    have HF := Lib.hid hfin
    clear hcells hlen hcall hfin hz hz1 hz2 htn T0 hB0 b3 hms hor hm0 hm1 hT
    go_quiet ((go_at_call 40; exact Calls.quiet_of_same (HC.out _)))
    go_wp2
    try rw [Exit.noGoto_ret]
    have hKn : (W.drewN nq).heap[D]? = some (.deferred (some [])) := hK
    refine ⟨by simp, .inl ⟨_, _, rfl, run_takeDeferred hKn, ?_⟩⟩
    exact ⟨_, results_tmp2 rfl _ _ _, by rw [← HF.out]; rfl, (below_drewN hBw nq).trans (belowK_b (w := w) (Nat.le_refl _) _ D _ _ (by simp at hD; omega) hKn rfl rfl)⟩
  case stop =>
    rintro D c k W hD hk ⟨⟨rfl, h8⟩, ⟨v, hT⟩, hBw⟩ hK
    rw [bytesAt_length] at hk
    obtain ⟨g, cap, rfl⟩ := ownsRow_succ hT.2.1
    obtain ⟨m0, hm0⟩ : ∃ m0, k + 1 = m0 := ⟨_, rfl⟩
    have hor : m0 = t.size ∨ 32 + r ≤ 8 * m0 := .inr (by omega)
    rw [hm0] at hT
    have hm1 : 1 ≤ m0 := by omega
    have hmt : m0 ≤ t.size := by omega
    gi_wp2
    go_wp2
    have hcells : Holds W g 0 ((CrcM.chg t.data.toList r m.toNat).take m0) := fun j hj => by
      have hjm : j < m0 := by rw [List.length_take] at hj; omega
      rw [Nat.zero_add, hT.2.1.cellAt j (by omega), List.getElem?_map, List.getElem?_eq_getElem hj]; rfl
    have hlen : m0 = ((CrcM.chg t.data.toList r m.toNat).take m0).length := by rw [List.length_take, CrcM.chg_length]; simp; omega
    have hcall : ∀ nq : Nat, Calls Try.prog 40 #[.slice (some ⟨g, 0, none⟩) m0 cap] (W.drewN nq) fun e w' => e = .returned (.string (txt ((CrcM.chg t.data.toList r m.toNat).take m0))) ∧ w' = W.drewN nq := fun nq =>
      (crcText (W.drewN nq) g 0 m0 cap _ hlen hcells).mono fun e w' ⟨he, hw⟩ => ⟨he, hw.symm⟩
    have hfin := change_final s t B f r m m0 HT.out HB.out hf hr hor
    have hz : (txt ((CrcM.chg t.data.toList r m.toNat).take m0)).size = m0 := by rw [txt_size, ← hlen]
    have hz1 : (s.extract 0 f).size = f := by rw [ByteArray.size_extract]; omega
    have hz2 : (s.extract (f + m0) s.size).size = s.size - (f + m0) := by rw [ByteArray.size_extract]; omega
    have htn := HTN.out
    have hl1 : ¬ 9223372036854775807 < (s.extract 0 f).size + (txt ((CrcM.chg t.data.toList r m.toNat).take m0)).size := by omega
    have hl2 : ¬ 9223372036854775807 < (s.extract 0 f ++ txt ((CrcM.chg t.data.toList r m.toNat).take m0)).size + (s.extract (f + m0) s.size).size := by rw [ByteArray.size_append]; omega
    have hct := hT.1.cell
    have hfm : f + m0 ≤ s.size := by omega
    generalize txt ((CrcM.chg t.data.toList r m.toNat).take m0) = T at *
    have HC := Lib.hid hcall
    have HF := Lib.hid hfin
    clear hcells hlen hcall hfin hz hz1 hz2 htn T0 hB0 b3 hms hor hm0 hm1 hT
    go_quiet ((go_at_call 40; exact Calls.quiet_of_same (HC.out _)))
    go_wp2
    try rw [Exit.noGoto_ret]
    have hKn : (W.drewN nq).heap[D]? = some (.deferred (some [])) := hK
    refine ⟨by simp, .inl ⟨_, _, rfl, run_takeDeferred hKn, ?_⟩⟩
    exact ⟨_, results_tmp2 rfl _ _ _, by rw [← HF.out]; rfl, (below_drewN hBw nq).trans (belowK_b (w := w) (Nat.le_refl _) _ D _ _ (by simp at hD; omega) hKn rfl rfl)⟩
end Go.Proofs.Ytialmaapahjchaa
