/-
  The law of how many bytes a frame may have, walked.
-/
import Derived.Test.YtlcenfgnmmkcpaaDoorFrameLaw
namespace Go.Proofs.YtlcenfgnmmkcpaaDoor
open Go.RowKit Go.Shelf
attribute [local go_sem] Oper.semAt_some
set_option linter.unusedVariables false
set_option linter.unusedSimpArgs false

/-- So many bytes of 0. -/
def zeros (n : Nat) : ByteArray := txt (List.replicate n 0)
theorem zeros_size (n : Nat) : (zeros n).size = n := by rw [zeros, txt_size, List.length_replicate]
def longFr (v : Int) (n : Nat) : Fr := ⟨v, 0, 0, 0, 0, 0, 0, 0, zeros n⟩
theorem longFr_right (v : Int) (n : Nat) (hv : v = 1 ∨ v = 2) : (longFr v n).Right ↔ n ≤ 4096 := by
  unfold Fr.Right longFr
  rw [zeros_size]
  constructor
  · intro h; exact h.2.2.2.2.1
  · intro h; exact ⟨hv, ⟨by show (0 : Int) ≤ 0; decide, by show (0 : Int) ≤ 31; decide⟩, ⟨by show (0 : Int) ≤ 0; decide, by show (0 : Int) ≤ 15; decide⟩, ⟨by show (0 : Int) ≤ 0; decide, by show (0 : Int) ≤ 15; decide⟩, h, fun _ => rfl⟩
theorem info_byte : (Tryd.prog.info? 5).map (fun i => (i.zero, i.size, i.bytes)) = some (some (.int .u8 0), 1, 1) := by kernel_rfl
theorem holds_zeros {w : World} {base g n : Nat} (h : w.ownsRow base 5 1 (.slice (some ⟨g, 0, none⟩) n n) n (madeCells (Value.int .u8 0).cells (n * 1)).toList) : Holds w g 0 (List.replicate n 0) := by
  intro j hj
  rw [List.length_replicate] at hj
  rw [Nat.zero_add, h.cellAt j (by omega)]
  simp [madeCells, Value.cells, hj, Nat.mod_one]
set_option maxRecDepth 100000 in
set_option maxHeartbeats 1000000 in
theorem longNone (n : Int) (two : Bool) (h : n < 4090 ∨ 4100 < n) (a0 a1 : Addr) (w : World) (L : Errs w a0 a1) : Calls Tryd.prog 8 #[.int .i64 n, .bool two] w fun e w' => e = .returned (.bool true) ∧ Below w.heap.size w w' := by
  rcases h with h | h
  · have hd : decide (n < 4090) = true := decide_eq_true h
    go_enter Tryd.func8, Tryd.ntmps8
    go_wp2_with (go_at_call 9; refine (lawShown a0 a1 _ L).mono ?_; rintro e w1 ⟨rfl, hb1⟩)
    go_ret
    exact ⟨rfl, hb1⟩
  · have hd : decide (n < 4090) = false := decide_eq_false (by omega)
    have hd' : decide (4100 < n) = true := decide_eq_true h
    go_enter Tryd.func8, Tryd.ntmps8
    go_wp2_with (go_at_call 9; refine (lawShown a0 a1 _ L).mono ?_; rintro e w1 ⟨rfl, hb1⟩)
    go_ret
    exact ⟨rfl, hb1⟩
set_option maxRecDepth 100000 in
set_option maxHeartbeats 4000000 in
theorem longOneYes (k : Nat) (h1 : 4090 ≤ k) (h2 : k ≤ 4100) (hk : k ≤ 4096) (a0 a1 : Addr) (w : World) (L : Errs w a0 a1) : Calls Tryd.prog 8 #[.int .i64 (k : Int), .bool false] w fun e w' => e = .returned (.bool true) ∧ Below w.heap.size w w' := by
  have hd1 : decide ((k : Int) < 4090) = false := decide_eq_false (by omega)
  have hd2 : decide (4100 < (k : Int)) = false := decide_eq_false (by omega)
  have hr : (longFr 1 k).Right := (longFr_right 1 k (by decide)).2 hk
  have hT : (txt (CrcM.withSum (longFr 1 k).body)).size = 24 + k := by
    rw [txt_size, CrcM.seal_length, Fr.body, List.length_append, (longFr 1 k).head_length hr]
    show (if (1 : Int) = 1 then 20 else 24) + (zeros k).data.toList.length + 4 = _
    have h3 : (zeros k).data.toList.length = k := by rw [Array.length_toList]; exact zeros_size k
    have h4 : (if (1 : Int) = 1 then 20 else 24 : Nat) = 20 := by decide
    rw [h3, h4]; omega
  have he := fun W => frameEncodeYes (longFr 1 k) hr W
  generalize txt (CrcM.withSum (longFr 1 k).body) = T at *
  have hTi : (T.size : Int) = 24 + (k : Int) := by omega
  have hwr : (24 + (k : Int) == wrap64 (24 + (k : Int))) = true := by rw [beq_iff_eq]; unfold wrap64; omega
  have hle : decide ((k : Int) ≤ 4096) = true := decide_eq_true (by omega)
  unfold Fr.val Fr.cells longFr at he
  have hD0 : txt (List.replicate k 0) = zeros k := rfl
  have hlen : (List.replicate k (0 : UInt8)).length = k := List.length_replicate
  generalize hD : zeros k = D at *
  have HE := Lib.hid he
  clear he hr hT
  have HK := Lib.hid (And.intro h1 h2)
  clear h1 h2 hk
  obtain ⟨i0, hi, hz0, hz1, hz2⟩ := info_parts info_byte
  go_enter Tryd.func8, Tryd.ntmps8
  go_wp2_with (first
    | (go_at_call 9; refine (lawShown a0 a1 _ L).mono ?_; rintro e w1 ⟨rfl, hb1⟩)
    | (at_make; refine wpList_make_full _ rfl _ _ _ rfl w.heap.size 5 i0 (.int .u8 0) 1 Tryd.underlying42 hi hz0 hz1 .i64 .i64 _ _ k rfl rfl rfl rfl (by rw [hz2]; have := HK.out; omega) (by have := HK.out; unfold maxLen; omega) (by have := hb1.size; simp; omega) ?_
       intro w2 hown hgrow
       have hr := run_text w2 w1.heap.size 0 k (List.replicate k 0) (holds_zeros hown)
       rw [hlen, hD0] at hr
       have hB2 : Below w.heap.size w w2 := hb1.grown hgrow hb1.size (by simp)
       clear hown hgrow
       have ra := Row.new w2 #[.int .i64 1, .int .i64 0, .int .i64 0, .int .i64 0, .int .u32 0, .int .u32 0, .int .u32 0, .int .u32 0, .string D] 24)
    | (go_at_call 11; refine (HE.out _).mono ?_; rintro e w3 ⟨rfl, hb3⟩))
  go_ret
  exact ⟨rfl, (hB2.alloc hB2.size _).trans (hb3.mono (hB2.alloc hB2.size _).size)⟩
set_option maxRecDepth 100000 in
set_option maxHeartbeats 4000000 in
theorem longOneNo (k : Nat) (h1 : 4090 ≤ k) (h2 : k ≤ 4100) (hk : 4096 < k) (a0 a1 : Addr) (w : World) (L : Errs w a0 a1) : Calls Tryd.prog 8 #[.int .i64 (k : Int), .bool false] w fun e w' => e = .returned (.bool true) ∧ Below w.heap.size w w' := by
  have hd1 : decide ((k : Int) < 4090) = false := decide_eq_false (by omega)
  have hd2 : decide (4100 < (k : Int)) = false := decide_eq_false (by omega)
  have hr : ¬ (longFr 1 k).Right := fun h => by have := (longFr_right 1 k (by decide)).1 h; omega
  have hT := hr
  have he := fun W => frameEncodeNo (longFr 1 k) hr (by show (zeros k).size ≤ maxLen; rw [zeros_size]; unfold maxLen; omega) W
  have hle : decide ((k : Int) ≤ 4096) = false := decide_eq_false (by omega)
  unfold Fr.val Fr.cells longFr at he
  have hD0 : txt (List.replicate k 0) = zeros k := rfl
  have hlen : (List.replicate k (0 : UInt8)).length = k := List.length_replicate
  generalize hD : zeros k = D at *
  have HE := Lib.hid he
  clear he hr hT
  have HK := Lib.hid (And.intro h1 h2)
  clear h1 h2 hk
  obtain ⟨i0, hi, hz0, hz1, hz2⟩ := info_parts info_byte
  go_enter Tryd.func8, Tryd.ntmps8
  go_wp2_with (first
    | (go_at_call 9; refine (lawShown a0 a1 _ L).mono ?_; rintro e w1 ⟨rfl, hb1⟩)
    | (at_make; refine wpList_make_full _ rfl _ _ _ rfl w.heap.size 5 i0 (.int .u8 0) 1 Tryd.underlying42 hi hz0 hz1 .i64 .i64 _ _ k rfl rfl rfl rfl (by rw [hz2]; have := HK.out; omega) (by have := HK.out; unfold maxLen; omega) (by have := hb1.size; simp; omega) ?_
       intro w2 hown hgrow
       have hr := run_text w2 w1.heap.size 0 k (List.replicate k 0) (holds_zeros hown)
       rw [hlen, hD0] at hr
       have hB2 : Below w.heap.size w w2 := hb1.grown hgrow hb1.size (by simp)
       clear hown hgrow
       have ra := Row.new w2 #[.int .i64 1, .int .i64 0, .int .i64 0, .int .i64 0, .int .u32 0, .int .u32 0, .int .u32 0, .int .u32 0, .string D] 24)
    | (go_at_call 11; refine (HE.out _).mono ?_; rintro e w3 ⟨rfl, hb3⟩))
  go_ret
  exact ⟨rfl, (hB2.alloc hB2.size _).trans (hb3.mono (hB2.alloc hB2.size _).size)⟩
set_option maxRecDepth 100000 in
set_option maxHeartbeats 4000000 in
theorem longTwoYes (k : Nat) (h1 : 4090 ≤ k) (h2 : k ≤ 4100) (hk : k ≤ 4096) (a0 a1 : Addr) (w : World) (L : Errs w a0 a1) : Calls Tryd.prog 8 #[.int .i64 (k : Int), .bool true] w fun e w' => e = .returned (.bool true) ∧ Below w.heap.size w w' := by
  have hd1 : decide ((k : Int) < 4090) = false := decide_eq_false (by omega)
  have hd2 : decide (4100 < (k : Int)) = false := decide_eq_false (by omega)
  have hr : (longFr 2 k).Right := (longFr_right 2 k (by decide)).2 hk
  have hT : (txt (CrcM.withSum (longFr 2 k).body)).size = 28 + k := by
    rw [txt_size, CrcM.seal_length, Fr.body, List.length_append, (longFr 2 k).head_length hr]
    show (if (2 : Int) = 1 then 20 else 24) + (zeros k).data.toList.length + 4 = _
    have h3 : (zeros k).data.toList.length = k := by rw [Array.length_toList]; exact zeros_size k
    have h4 : (if (2 : Int) = 1 then 20 else 24 : Nat) = 24 := by decide
    rw [h3, h4]; omega
  have he := fun W => frameEncodeYes (longFr 2 k) hr W
  generalize txt (CrcM.withSum (longFr 2 k).body) = T at *
  have hTi : (T.size : Int) = 28 + (k : Int) := by omega
  have hwr : (28 + (k : Int) == wrap64 (28 + (k : Int))) = true := by rw [beq_iff_eq]; unfold wrap64; omega
  have hle : decide ((k : Int) ≤ 4096) = true := decide_eq_true (by omega)
  unfold Fr.val Fr.cells longFr at he
  have hD0 : txt (List.replicate k 0) = zeros k := rfl
  have hlen : (List.replicate k (0 : UInt8)).length = k := List.length_replicate
  generalize hD : zeros k = D at *
  have HE := Lib.hid he
  clear he hr hT
  have HK := Lib.hid (And.intro h1 h2)
  clear h1 h2 hk
  obtain ⟨i0, hi, hz0, hz1, hz2⟩ := info_parts info_byte
  go_enter Tryd.func8, Tryd.ntmps8
  go_wp2_with (first
    | (go_at_call 9; refine (lawShown a0 a1 _ L).mono ?_; rintro e w1 ⟨rfl, hb1⟩)
    | (at_make; refine wpList_make_full _ rfl _ _ _ rfl w.heap.size 5 i0 (.int .u8 0) 1 Tryd.underlying42 hi hz0 hz1 .i64 .i64 _ _ k rfl rfl rfl rfl (by rw [hz2]; have := HK.out; omega) (by have := HK.out; unfold maxLen; omega) (by have := hb1.size; simp; omega) ?_
       intro w2 hown hgrow
       have hr := run_text w2 w1.heap.size 0 k (List.replicate k 0) (holds_zeros hown)
       rw [hlen, hD0] at hr
       have hB2 : Below w.heap.size w w2 := hb1.grown hgrow hb1.size (by simp)
       clear hown hgrow
       have ra := Row.new w2 #[.int .i64 1, .int .i64 0, .int .i64 0, .int .i64 0, .int .u32 0, .int .u32 0, .int .u32 0, .int .u32 0, .string D] 24)
    | (go_at_call 11; refine (HE.out _).mono ?_; rintro e w3 ⟨rfl, hb3⟩))
  go_ret
  exact ⟨rfl, (hB2.alloc hB2.size _).trans (hb3.mono (hB2.alloc hB2.size _).size)⟩
set_option maxRecDepth 100000 in
set_option maxHeartbeats 4000000 in
theorem longTwoNo (k : Nat) (h1 : 4090 ≤ k) (h2 : k ≤ 4100) (hk : 4096 < k) (a0 a1 : Addr) (w : World) (L : Errs w a0 a1) : Calls Tryd.prog 8 #[.int .i64 (k : Int), .bool true] w fun e w' => e = .returned (.bool true) ∧ Below w.heap.size w w' := by
  have hd1 : decide ((k : Int) < 4090) = false := decide_eq_false (by omega)
  have hd2 : decide (4100 < (k : Int)) = false := decide_eq_false (by omega)
  have hr : ¬ (longFr 2 k).Right := fun h => by have := (longFr_right 2 k (by decide)).1 h; omega
  have hT := hr
  have he := fun W => frameEncodeNo (longFr 2 k) hr (by show (zeros k).size ≤ maxLen; rw [zeros_size]; unfold maxLen; omega) W
  have hle : decide ((k : Int) ≤ 4096) = false := decide_eq_false (by omega)
  unfold Fr.val Fr.cells longFr at he
  have hD0 : txt (List.replicate k 0) = zeros k := rfl
  have hlen : (List.replicate k (0 : UInt8)).length = k := List.length_replicate
  generalize hD : zeros k = D at *
  have HE := Lib.hid he
  clear he hr hT
  have HK := Lib.hid (And.intro h1 h2)
  clear h1 h2 hk
  obtain ⟨i0, hi, hz0, hz1, hz2⟩ := info_parts info_byte
  go_enter Tryd.func8, Tryd.ntmps8
  go_wp2_with (first
    | (go_at_call 9; refine (lawShown a0 a1 _ L).mono ?_; rintro e w1 ⟨rfl, hb1⟩)
    | (at_make; refine wpList_make_full _ rfl _ _ _ rfl w.heap.size 5 i0 (.int .u8 0) 1 Tryd.underlying42 hi hz0 hz1 .i64 .i64 _ _ k rfl rfl rfl rfl (by rw [hz2]; have := HK.out; omega) (by have := HK.out; unfold maxLen; omega) (by have := hb1.size; simp; omega) ?_
       intro w2 hown hgrow
       have hr := run_text w2 w1.heap.size 0 k (List.replicate k 0) (holds_zeros hown)
       rw [hlen, hD0] at hr
       have hB2 : Below w.heap.size w w2 := hb1.grown hgrow hb1.size (by simp)
       clear hown hgrow
       have ra := Row.new w2 #[.int .i64 1, .int .i64 0, .int .i64 0, .int .i64 0, .int .u32 0, .int .u32 0, .int .u32 0, .int .u32 0, .string D] 24)
    | (go_at_call 11; refine (HE.out _).mono ?_; rintro e w3 ⟨rfl, hb3⟩))
  go_ret
  exact ⟨rfl, (hB2.alloc hB2.size _).trans (hb3.mono (hB2.alloc hB2.size _).size)⟩
theorem lawLong (n : Int) (two : Bool) (a0 a1 : Addr) (w : World) (L : Errs w a0 a1) : Calls Tryd.prog 8 #[.int .i64 n, .bool two] w fun e w' => e = .returned (.bool true) ∧ Below w.heap.size w w' := by
  by_cases h : n < 4090 ∨ 4100 < n
  · exact longNone n two h a0 a1 w L
  · obtain ⟨k, rfl⟩ := Int.eq_ofNat_of_zero_le (show 0 ≤ n by omega)
    have h1 : 4090 ≤ k := by omega
    have h2 : k ≤ 4100 := by omega
    by_cases hk : k ≤ 4096
    · cases two
      · exact longOneYes k h1 h2 hk a0 a1 w L
      · exact longTwoYes k h1 h2 hk a0 a1 w L
    · cases two
      · exact longOneNo k h1 h2 (by omega) a0 a1 w L
      · exact longTwoNo k h1 h2 (by omega) a0 a1 w L
end Go.Proofs.YtlcenfgnmmkcpaaDoor
