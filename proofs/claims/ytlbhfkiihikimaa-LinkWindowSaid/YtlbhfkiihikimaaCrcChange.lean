/-
  What crc.Change comes to.
-/
import Derived.Test.YtlbhfkiihikimaaCrcRef
import Derived.Test.YtlbhfkiihikimaaCrcChgMath
import Derived.RangeFuncNested
import Derived.RangeFuncBox
import Derived.Maps.AppendAt
import Derived.Deep.RegionHeld3
import Derived.WalkMore
import Derived.Deep.QuietTactic
import Derived.BigQuiet
namespace Go.Proofs.Ytlbhfkiihikimaa
open Go.RowKit Go.Shelf
attribute [local go_sem] Oper.semAt_some

theorem info_u8 : (Try.prog.info? 5).map (fun i => (i.zero, i.size, i.bytes)) = some (some (.int .u8 0), 1, 1) := by kernel_rfl
/-- A byte, as a value. -/
abbrev byteV (b : UInt8) : Value := .int .u8 (b.toNat : Int)
theorem bits_xor8 (a b : UInt8) : bits .xor .u8 (a.toNat : Int) (b.toNat : Int) = ((a ^^^ b).toNat : Int) := by
  have h := (a ^^^ b).toNat_lt
  have e : ∀ x : UInt8, BitVec.ofInt 8 (x.toNat : Int) = x.toBitVec := fun x => by simp
  simp only [bits, IntKind.bits, e, IntKind.wrap, IntKind.signed]
  simp only [Bool.false_and, Bool.false_eq_true, if_false]
  show (((a ^^^ b).toNat : Nat) : Int) % 2 ^ 8 = _
  generalize (a ^^^ b).toNat = n at *
  omega
theorem bits_and_one (x : Nat) (hx : x < 4294967296) : bits .and .u32 (x : Int) 1 = ((x % 2 : Nat) : Int) := by
  have h : bits .and .u32 (((BitVec.ofNat 32 x).toNat : Nat) : Int) 1 = ((BitVec.ofNat 32 x &&& 1#32).toNat : Int) := bits_and (BitVec.ofNat 32 x) 1#32
  rw [BitVec.toNat_and, BitVec.toNat_ofNat, Nat.mod_eq_of_lt hx] at h
  rw [h]
  show ((x &&& 1 : Nat) : Int) = _
  rw [Nat.and_one_is_mod]
theorem turn_spelled (c : UInt8) (m : BitVec 32) (p q : Nat) : bits .xor .u8 (c.toNat : Int) (bits .and .u32 ((m.toNat : Int) / 2 ^ p) 1 % 256 * 2 ^ q % 256) = ((c ^^^ UInt8.ofNat (m.toNat / 2 ^ p % 2 * 2 ^ q)).toNat : Int) := by
  have hm := m.isLt
  have e : (m.toNat : Int) / 2 ^ p = ((m.toNat / 2 ^ p : Nat) : Int) := by simp
  rw [e, bits_and_one _ (Nat.lt_of_le_of_lt (Nat.div_le_self _ _) hm), ← bits_xor8]
  congr 1
  rw [UInt8.toNat_ofNat']
  have h2 : m.toNat / 2 ^ p % 2 < 2 := Nat.mod_lt _ (by omega)
  generalize m.toNat / 2 ^ p % 2 = z at *
  rw [show ((z : Nat) : Int) % 256 = (z : Int) from by omega]
  simp
/-- What memory holds while crc.Change goes: the variables, and the bytes that have been made. -/
def Turning (n₀ Bb Bm Bt Bs : Nat) (bit m : Int) (t : ByteArray) (c : Nat) (l : List UInt8) (v : Value) (W : World) : Prop :=
  Boxed W Bt 35 v ∧ W.ownsRow n₀ 5 1 v c (l.map byteV) ∧ Boxed W Bb 3 (.int .i64 bit) ∧ Boxed W Bm 22 (.int .u32 m) ∧ Boxed W Bs 9 (.string t)
variable {n₀ Bb Bm Bt Bs : Nat} {bit m : Int} {t : ByteArray} {c : Nat} {l : List UInt8} {v : Value} {W : World}
theorem boxed_stays {W W' : World} {row : Option Nat} {B : Nat} {ty : TypeId} {v : Value} (h : Boxed W B ty v) (hg : W.grownBy W' row) (hr : ∀ r, row = some r → ∃ o : Obj, W.heap[r]? = some o ∧ o.isCells = false) : Boxed W' B ty v :=
  h.kept hg (fun e => by obtain ⟨o, ho, hc⟩ := hr B e.symm; rw [show W.heap[B]? = _ from h] at ho; cases ho; cases hc)
theorem Turning.kept (h : Turning n₀ Bb Bm Bt Bs bit m t c l v W) {W' : World} {row : Option Nat} (hg : W.grownBy W' row) (hr : ∀ r, row = some r → ∃ o : Obj, W.heap[r]? = some o ∧ o.isCells = false) : Turning n₀ Bb Bm Bt Bs bit m t c l v W' := by
  obtain ⟨h1, h2, h3, h4, h5⟩ := h
  refine ⟨boxed_stays h1 hg hr, h2.kept hg ?_, boxed_stays h3 hg hr, boxed_stays h4 hg hr, boxed_stays h5 hg hr⟩
  rcases h2.2 with ⟨rfl, _⟩ | ⟨g, cap, cur, rfl, _, hgb, _⟩
  · exact .inl rfl
  · refine .inr fun e' => ?_
    obtain ⟨o, ho, hc⟩ := hr g (by simpa [Value.ownBlock] using e'.symm)
    rw [hgb] at ho; cases ho; cases hc
theorem Turning.append (h : Turning n₀ Bb Bm Bt Bs bit m t c l v W) (hBb : Bb ≠ Bt) (hBm : Bm ≠ Bt) (hBs : Bs ≠ Bt) (hn₀ : n₀ ≤ W.heap.size) (hB : n₀ ≤ Bt) {w1 : World} {v' : Value} {b : UInt8} {tmp : Obj}
    (hown' : w1.ownsRow n₀ 5 1 v' (c + 1) (l.map byteV ++ [byteV b])) (hgrow : (W.alloc tmp).grownBy w1 v.ownBlock) :
    Boxed w1 Bt 35 v ∧ Turning n₀ Bb Bm Bt Bs bit m t (c + 1) (l ++ [b]) v' (w1.setCell ⟨Bt, 0, none⟩ v') ∧ KeepsOthers W (w1.setCell ⟨Bt, 0, none⟩ v') ∧ Below n₀ W (w1.setCell ⟨Bt, 0, none⟩ v') := by
  obtain ⟨h1, h2, h3, h4, h5⟩ := h
  obtain ⟨a1, a2, a3, a4, a5⟩ := h1.appended (by decide) h2 hn₀ hB hown' hgrow
  have other : ∀ {B : Nat} {ty : TypeId} {u : Value}, Boxed W B ty u → ty ≠ 5 → B ≠ Bt → Boxed (w1.setCell ⟨Bt, 0, none⟩ v') B ty u := fun hb hty hne => (((hb.alloc tmp).kept hgrow (hb.not_row hty h2)).other hne v')
  exact ⟨a1, ⟨a2, by simpa using a3, other h3 (by decide) hBb, other h4 (by decide) hBm, other h5 (by decide) hBs⟩, a4, a5⟩
theorem Turning.store {g cap : Nat} (h : Turning n₀ Bb Bm Bt Bs bit m t c l (.slice (some ⟨g, 0, none⟩) c cap) W) (j : Nat) (b : UInt8) :
    Turning n₀ Bb Bm Bt Bs bit m t c (l.set j b) (.slice (some ⟨g, 0, none⟩) c cap) (W.setCell ⟨g, j, none⟩ (byteV b)) ∧ Below n₀ W (W.setCell ⟨g, j, none⟩ (byteV b)) := by
  obtain ⟨h1, h2, h3, h4, h5⟩ := h
  obtain ⟨s1, s2⟩ := h2.stored j (byteV b)
  have hng : n₀ ≤ g := by
    rcases h2.2 with ⟨h', _⟩ | ⟨g', cap', cur, h', hb, _⟩
    · simp at h'
    · simp only [Value.slice.injEq, Option.some.injEq, Addr.mk.injEq, and_true, true_and] at h'
      omega
  have other : ∀ {B : Nat} {ty : TypeId} {u : Value}, Boxed W B ty u → ty ≠ 5 → Boxed (W.setCell ⟨g, j, none⟩ (byteV b)) B ty u := fun hb hty => hb.kept s2 (by have := hb.not_row hty h2; simpa [Value.ownBlock] using this)
  exact ⟨⟨other h1 (by decide), by simpa [List.map_set] using s1, other h3 (by decide), other h4 (by decide), other h5 (by decide)⟩, (Below.refl _ _).setCell (p := ⟨g, j, none⟩) hng _⟩
theorem Turning.keeps {W' : World} {c' : Nat} {l' : List UInt8} {v' : Value} (h : Turning n₀ Bb Bm Bt Bs bit m t c l v W) (h' : Turning n₀ Bb Bm Bt Bs bit m t c' l' v' W') : Keeps (· = Bs) W W' := fun b hb => by
  subst hb
  exact (show W'.heap[b]? = _ from h'.2.2.2.2).trans (show W.heap[b]? = _ from h.2.2.2.2).symm
theorem Turning.own {β : Type} (n : β → Nat) (f : β → List UInt8) (B : Nat) : OwnFrom B (fun (s : β) W => ∃ v, Turning n₀ Bb Bm Bt Bs bit m t (n s) (f s) v W) := fun _ _ _ _ ⟨v, hs⟩ hg hr => ⟨v, hs.kept hg (fun r e => (hr r e).2)⟩

theorem append_toList' (s t : ByteArray) : (s ++ t).data.toList = s.data.toList ++ t.data.toList := by simp
theorem change_final (s t : ByteArray) (B f r : Nat) (m : BitVec 32) (m0 : Nat) (hT : s.extract f s.size = t) (hB : B = 8 * f + r) (hf : f < s.size) (_ : r < 8) (h : m0 = t.size ∨ 32 + r ≤ 8 * m0) :
    s.extract 0 f ++ txt ((CrcM.chg t.data.toList r m.toNat).take m0) ++ s.extract (f + m0) s.size = txt (CrcM.chg s.data.toList B m.toNat) := by
  have hn : s.data.toList.length = s.size := by simp
  have htd : t.data.toList = s.data.toList.drop f := by rw [← hT, Lib.extract_data, List.take_of_length_le (by rw [List.length_drop]; simp)]
  have htl : t.data.toList.length = t.size := by simp
  have e3 : (s.extract (f + m0) s.size).data.toList = t.data.toList.drop m0 := by
    rw [Lib.extract_data, htd, List.drop_drop, List.take_of_length_le (by rw [List.length_drop, hn]; omega)]
  have e1 : (s.extract 0 f).data.toList = s.data.toList.take f := by rw [Lib.extract_data]; simp
  have e4 : t.data.toList.drop m0 = (CrcM.chg t.data.toList r m.toNat).drop m0 := by
    rcases h with h | h
    · rw [List.drop_of_length_le (by omega), List.drop_of_length_le (by rw [CrcM.chg_length]; omega)]
    · rw [CrcM.chg_drop _ _ _ _ m.isLt h]
  apply ByteArray.ext
  apply Array.toList_inj.1
  rw [append_toList', append_toList', txt_toList, txt_toList, e1, e3, e4, List.append_assoc, List.take_append_drop, hB, CrcM.chg_split _ _ _ _ (by omega), ← htd]
end Go.Proofs.Ytlbhfkiihikimaa
