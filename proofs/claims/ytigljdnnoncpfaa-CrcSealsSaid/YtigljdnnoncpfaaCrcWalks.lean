/-
  What the functions of package crc, and of the document's answers to it, come to: steps, sums.
-/
import Derived.Test.YtigljdnnoncpfaaRows
import Derived.Test.YtigljdnnoncpfaaCrcWords
import Derived.Test.YtigljdnnoncpfaaRange
import Derived.RangeFuncCalls
import Derived.Shelf.Abstract
import Derived.Shelf.RegionOpen
import Derived.WalkKit
import Derived.OwnWalkIn
import Derived.TacticsInMore
import Derived.LoopNIn
import Derived.LoopIn
namespace Go.Proofs.Ytigljdnnoncpfaa
open Go.RowKit Go.Shelf
attribute [local go_sem] Oper.semAt_some

set_option maxRecDepth 100000 in
set_option maxHeartbeats 400000 in
theorem crcStep (s : BitVec 32) (b : UInt8) (w : World) : Calls Try.prog 12 #[.int .u32 (s.toNat : Int), .int .u8 (b.toNat : Int)] w fun e w' => e = .returned (.int .u32 ((CrcM.step s b).toNat : Int)) ∧ w = w' := by
  have hb : (b.toNat : Int) < 256 := by have := b.toNat_lt; omega
  go_enter Try.func12, Try.ntmps12
  go_wp2
  go_loop [0, 9] (fun x i => ∃ k : Nat, k ≤ 8 ∧ i = .int .i64 k ∧ x = .int .u32 ((CrcM.Fn k (s ^^^ BitVec.ofNat 32 b.toNat)).toNat : Int)) (fun _ i => 8 - (intOf i).toNat)
  case atStart => exact ⟨0, by omega, rfl, by rw [xor_byte]; rfl⟩
  case round =>
    obtain ⟨k, hk, rfl, rfl⟩ := hrel
    have hn := CrcM.Fn_succ' k (s ^^^ BitVec.ofNat 32 b.toNat)
    have hn' : ¬ k < 8 → CrcM.step s b = CrcM.Fn k (s ^^^ BitVec.ofNat 32 b.toNat) := fun h => by rw [show k = 8 from by omega]; rfl
    generalize CrcM.Fn k (s ^^^ BitVec.ofNat 32 b.toNat) = x at *
    have hm := F_masked x
    have HN := Lib.hid hn
    have HM := Lib.hid hm
    have HN' := Lib.hid hn'
    clear hn hm hn'
    by_cases hlt : k < 8
    · go_wp2
      go_round
      case rel => exact ⟨k + 1, by omega, by go_num, by rw [HM.out, HN.out]⟩
      case measure => simp [intOf]; omega
    · go_wp2
      go_ret
      exact ⟨by rw [HN'.out hlt]; rfl, rfl⟩
set_option maxRecDepth 100000 in
set_option maxHeartbeats 400000 in
theorem refStep (s : BitVec 32) (b : UInt8) (w : World) : Calls Try.prog 13 #[.int .u32 (s.toNat : Int), .int .u8 (b.toNat : Int)] w fun e w' => e = .returned (.int .u32 ((CrcM.step s b).toNat : Int)) ∧ w = w' := by
  have hb : (b.toNat : Int) < 256 := by have := b.toNat_lt; omega
  go_enter Try.func13, Try.ntmps13
  go_wp2
  go_loop [0, 5] (fun x i => ∃ k : Nat, k ≤ 8 ∧ i = .int .i64 k ∧ x = .int .u32 ((CrcM.Fn k (s ^^^ BitVec.ofNat 32 b.toNat)).toNat : Int)) (fun _ i => 8 - (intOf i).toNat)
  case atStart => exact ⟨0, by omega, rfl, by rw [xor_byte]; rfl⟩
  case round =>
    obtain ⟨k, hk, rfl, rfl⟩ := hrel
    have hn := CrcM.Fn_succ' k (s ^^^ BitVec.ofNat 32 b.toNat)
    have hn' : ¬ k < 8 → CrcM.step s b = CrcM.Fn k (s ^^^ BitVec.ofNat 32 b.toNat) := fun h => by rw [show k = 8 from by omega]; rfl
    generalize CrcM.Fn k (s ^^^ BitVec.ofNat 32 b.toNat) = x at *
    have HN := Lib.hid hn
    have HN' := Lib.hid hn'
    clear hn hn'
    by_cases hlt : k < 8
    · by_cases hp : x.toNat % 2 = 1
      · have hm := F_odd x hp
        have HM := Lib.hid hm
        have hq : ((x.toNat : Int) % 2 == 1) = true := by rw [beq_iff_eq]; omega
        clear hm hp
        go_wp2
        go_round
        case rel => exact ⟨k + 1, by omega, by go_num, by rw [HM.out, HN.out]⟩
        case measure => simp [intOf]; omega
      · have hm := F_even x hp
        have HM := Lib.hid hm
        have hq : ((x.toNat : Int) % 2 == 1) = false := by rw [beq_eq_false_iff_ne]; omega
        clear hm hp
        go_wp2
        go_round
        case rel => exact ⟨k + 1, by omega, by go_num, by rw [HM.out, HN.out]⟩
        case measure => simp [intOf]; omega
    · go_wp2
      go_ret
      exact ⟨by rw [HN'.out hlt]; rfl, rfl⟩
theorem refOver (s : BitVec 32) (w : World) : Calls Try.prog 30 #[.int .u32 (s.toNat : Int)] w fun e w' => e = .returned (.int .u32 ((~~~ s).toNat : Int)) ∧ w = w' := by
  go_enter Try.func30, Try.ntmps30
  go_wp2
  go_ret
  exact ⟨ret_int (not_xor s), rfl⟩
theorem crcBytesOf (s : ByteArray) (w : World) : Calls Try.prog 29 #[.string s] w fun e w' =>
    e = .returned (.func (.func 33) #[] #[.pointer (some ⟨w.heap.size, 0, none⟩)]) ∧ w.alloc (.cells #[.string s] 9) = w' := by
  go_enter Try.func29, Try.ntmps29
  go_wp2
  go_ret
  exact ⟨rfl, rfl⟩

/-- A text's bytes, each with its place. -/
def bytesAt (s : ByteArray) : List (Nat × UInt8) := s.data.toList.zipIdx.map fun p => (p.2, p.1)
theorem bytesAt_length (s : ByteArray) : (bytesAt s).length = s.size := by simp [bytesAt]
theorem bytesAt_get (s : ByteArray) (k : Nat) (x : Nat × UInt8) (h : (bytesAt s)[k]? = some x) : ∃ h : k < s.size, x = (k, s[k]) := by
  simp only [bytesAt, List.getElem?_map, List.getElem?_zipIdx, Option.map_map, Option.map_eq_some_iff] at h
  obtain ⟨b, hb, rfl⟩ := h
  obtain ⟨hk, rfl⟩ := List.getElem?_eq_some_iff.1 hb
  exact ⟨by simpa using hk, by simp; rfl⟩
theorem bytesAt_at (s : ByteArray) (k : Nat) (h : k < s.size) : (bytesAt s)[k]? = some (k, s[k]) := by
  simp only [bytesAt, List.getElem?_map, List.getElem?_zipIdx]
  rw [List.getElem?_eq_getElem (by simpa using h)]
  simp; rfl
abbrev encAt (x : Nat × UInt8) : Array Value := #[.int .i64 (x.1 : Int), .int .u8 (x.2.toNat : Int)]

set_option maxRecDepth 100000 in
set_option maxHeartbeats 1000000 in
theorem crcBytesGoes (F : Fence) (n : Nat) (hF : F.fn 33) (hro : F.round = none) (hn : 1 ≤ n) (w : World) (B : Nat) (s : ByteArray) (hs : s.size ≤ maxLen) (hB : B < w.heap.size) (hc : w.cell? ⟨B, 0, none⟩ = some (.string s)) :
    Goes F n Try.prog 33 #[.pointer (some ⟨B, 0, none⟩)] encAt (Keeps (· = B)) (bytesAt s) w := by
  intro l J Jx W hW hJ hJx hY h0
  unfold maxLen at hs
  refine callsIn_of_wp Try.func33 rfl hF ?_ hro
  simp only [Try.ntmps33, List.size_toArray, List.length_cons, List.length_nil, Nat.reduceAdd, Nat.reduceSub, Array.replicate_succ, Array.replicate_zero, List.push_toArray, List.append_toArray, List.nil_append, List.cons_append]
  have hcW : W.cell? ⟨B, 0, none⟩ = some (.string s) := (hW.cell (p := ⟨B, 0, none⟩) hB).trans hc
  clear hc
  gi_wp2
  gi_loopw [6] (fun i wr => ∃ k : Nat, k ≤ s.size ∧ i = .int .i64 k ∧ J k wr ∧ wr.cell? ⟨B, 0, none⟩ = some (.string s))
    (fun i _ => s.size - (intOf i).toNat)
  case atStart => exact ⟨0, Nat.zero_le _, rfl, h0, hcW⟩
  case round =>
    obtain ⟨k, hk, rfl, hJs, hcr⟩ := hrel
    by_cases hlt : k < s.size
    · obtain ⟨fn, tmps, assign, body, hy, hR⟩ := hY k _ wr (bytesAt_at s k hlt) hJs
      dsimp only [encAt] at hy
      clear hcW
      gi_wp2
      refine hR.mono ?_
      rintro e W3 (⟨rfl, hJ3, hk3⟩ | ⟨rfl, hJx3⟩)
      · have hc3 : W3.cell? ⟨B, 0, none⟩ = some (.string s) := (hk3.cell (p := ⟨B, 0, none⟩) rfl).trans hcr
        clear hcr
        gi_wp2
        go_roundw
        case rel => exact ⟨k + 1, by omega, by simp, hJ3, hc3⟩
        case measure => simp [intOf]; omega
      · gi_wp2
        refine bodyPost_ret (results_none rfl _ _ _) rfl ?_
        exact ⟨⟨_, rfl⟩, .inr ⟨k, by rw [bytesAt_length]; exact hlt, hJx3⟩⟩
    · obtain rfl : k = s.size := by omega
      clear hcW
      gi_wp2
      go_end0
      exact ⟨⟨_, rfl⟩, .inl (by rw [bytesAt_length]; exact hJs)⟩

theorem take_snoc (s : ByteArray) (k : Nat) (h : k < s.size) : s.data.toList.take (k + 1) = s.data.toList.take k ++ [s[k]] := by
  rw [List.take_succ_eq_append_getElem (by simpa using h)]; rfl
theorem not_max (x : BitVec 32) : bits .xor .u32 IntKind.u32.max (x.toNat : Int) = ((~~~ x).toNat : Int) := by
  have h : bits .xor .u32 IntKind.u32.max (x.toNat : Int) = ((0xffffffff#32 ^^^ x).toNat : Int) := bits_xor 0xffffffff#32 x
  rw [h, BitVec.xor_comm]
  congr 2
  exact CrcM.xor_ones x

set_option maxRecDepth 100000 in
set_option maxHeartbeats 2000000 in
theorem crcMore (m : BitVec 32) (s : ByteArray) (hs : s.size ≤ maxLen) (w : World) : Calls Try.prog 17 #[.int .u32 (m.toNat : Int), .string s] w fun e w' =>
    e = .returned (.int .u32 ((CrcM.more m s.data.toList).toNat : Int)) ∧ Below w.heap.size w w' := by
  refine (callsIn_wide (n := 3)).1 ?_
  refine callsIn_of_wp_marks Try.func17 rfl trivial ?_ rfl
  simp only [Try.ntmps17, List.size_toArray, List.length_cons, List.length_nil, Nat.reduceAdd, Nat.reduceSub, Array.replicate_succ, Array.replicate_zero, List.push_toArray, List.append_toArray, List.nil_append, List.cons_append]
  gi_wp2_with (refine ⟨trivial, ?_⟩; gi_at_call 29; refine (callsIn_wide.2 (crcBytesOf _ _)).mono ?_; rintro e w' ⟨rfl, rfl⟩)
  rw [not_max]
  have hfin : ∀ q, ~~~ m = q → ~~~ (CrcM.reg q s.data.toList) = CrcM.more m s.data.toList := fun q h => by rw [← h]; rfl
  obtain ⟨q, hq⟩ : ∃ q, ~~~ m = q := ⟨_, rfl⟩
  rw [hq]
  replace hfin := hfin q hq
  have HF := Lib.hid hfin
  clear hq hfin
  have c0 := Box.new w (.int .u32 (q.toNat : Int)) 22
  have c1 := Box.new (w.alloc (.cells #[.int .u32 (q.toNat : Int)] 22)) (.string s) 9
  simp only [World.size_alloc] at c1
  have hB0 : Below w.heap.size w ((w.alloc (.cells #[.int .u32 (q.toNat : Int)] 22)).alloc (.cells #[.string s] 9)) := ((Below.refl _ w).alloc (Nat.le_refl _) _).alloc (by simp) _
  refine wpIn_goes_plain rfl (by omega) (gf := 33) (lb := #[.pointer (some ⟨w.heap.size + 1, 0, none⟩)]) rfl trivial (enters_of Try.func33 (by kernel_rfl) rfl)
    (crcBytesGoes Fence.wide _ trivial rfl (by omega) _ (w.heap.size + 1) s hs (by simp) c1.1) (by rintro b rfl; simp) (Below.refl _ _) (fun _ => rfl)
    (fun k W => Box W w.heap.size (.int .u32 ((CrcM.reg q (s.data.toList.take k)).toNat : Int)) ∧ Below w.heap.size w W)
    (fun _ _ _ => False)
    (OwnFrom.and ((Box.own _ _).from _) (ownFrom_below (Nat.le_refl _) (by simp; omega)))
    (fun _ _ _ _ _ hs _ _ => hs)
    ⟨c0.alloc _, hB0⟩
    (fun x => { tmps := #[.int .u32 (m.toNat : Int), .string s, .pointer (some ⟨w.heap.size, 0, none⟩), undef, .int .u32 0, undef, .int .u8 (x.2.toNat : Int), .int .u32 (m.toNat : Int), .int .u32 (q.toNat : Int), .string s,
      .func (.func 33) #[] #[.pointer (some ⟨w.heap.size + 1, 0, none⟩)], .int .i64 (x.1 : Int), .int .u8 (x.2.toNat : Int), undef, undef, undef, undef, undef], defers := [] }) ?assign ?body ?done ?stop
  case assign =>
    intro l x W K hK
    gi_wp2
    exact hK
  case body =>
    rintro l k x W hx ⟨bx, hB⟩
    obtain ⟨hc, hf⟩ := bx
    obtain ⟨hlt, rfl⟩ := bytesAt_get s k x hx
    have hsn := take_snoc s k hlt
    have HS := Lib.hid hsn
    clear hsn hx
    gi_wp2_with (refine ⟨trivial, ?_⟩; gi_at_call 12; refine (CallsIn.inRound l (callsIn_wide.2 (crcStep _ _ _))).mono ?_; rintro e w' ⟨rfl, rfl⟩)
    exact ⟨(KeepsOthers.setCell _ _ _).from _, (Keeps.refl _ _).setCell _ _ (by simp), by rw [HS.out, CrcM.reg_snoc]; exact Box.set ⟨hc, hf⟩ _, hB.setCell (p := ⟨w.heap.size, 0, none⟩) (Nat.le_refl _) _⟩
  case done =>
    rintro D W hD ⟨bx, hB⟩ hK
    obtain ⟨hc, hf⟩ := bx
    gi_wp2
    refine ⟨by simp, .inl ⟨_, _, rfl, run_takeDeferred hK, ?_⟩⟩
    refine ⟨_, results_tmp rfl _ _ _, ?_, hB.trans (belowK_b (w := w) (Nat.le_refl _) W D _ _ (by simp at hD; omega) hK rfl rfl)⟩
    refine ret_int ?_
    rw [not_max, ← HF.out, bytesAt_length, List.take_of_length_le (by simp)]
  case stop =>
    rintro D c pre W _ _ h _
    exact h.elim
end Go.Proofs.Ytigljdnnoncpfaa
