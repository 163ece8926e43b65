/-
  The law LinkNone: walked.
-/
import Derived.Test.YtlbhfkiihikimaaLkShown
import Derived.OwnWalk
import Derived.Deep.DeepCutAuto
namespace Go.Proofs.Ytlbhfkiihikimaa
open Go.RowKit Go.Shelf
attribute [local go_sem] Oper.semAt_some
set_option linter.unusedVariables false
set_option linter.unusedSimpArgs false

/-- So many bytes of 0. -/
def zeros (n : Nat) : ByteArray := txt (List.replicate n 0)
theorem zeros_size (n : Nat) : (zeros n).size = n := by rw [zeros, txt_size, List.length_replicate]
theorem info_byte : (Try.prog.info? 5).map (fun i => (i.zero, i.size, i.bytes)) = some (some (.int .u8 0), 1, 1) := by kernel_rfl
theorem holds_zeros {w : World} {base g n : Nat} (h : w.ownsRow base 5 1 (.slice (some ⟨g, 0, none⟩) n n) n (madeCells (Value.int .u8 0).cells (n * 1)).toList) : Holds w g 0 (List.replicate n 0) := by
  intro j hj
  rw [List.length_replicate] at hj
  rw [Nat.zero_add, h.cellAt j (by omega)]
  simp [madeCells, Value.cells, hj, Nat.mod_one]
theorem none_send (k : Nat) {B M : Nat} {W : World} (h : Lk.Is (Lk.new 1 2 2 1 1) B M W) (n : Nat) (hB : n ≤ B) (hM : n ≤ M) : Calls Try.prog 11 #[.pointer (some ⟨B, 0, none⟩), .string (zeros k)] W fun e w' => e = .returned (.int .i64 (if k ≤ 4096 then 0 else 2)) ∧ Below n W w' :=
  (lkSend _ B M (zeros k) W h (by decide)).mono fun e w' ⟨h1, h2⟩ => ⟨by
    rw [h1]
    congr 2
    unfold Lk.sendE
    rw [zeros_size]
    by_cases hk : k ≤ 4096
    · rw [if_neg (by omega), if_pos hk]; rfl
    · rw [if_pos (by omega), if_neg hk], h2.2.below (Nat.le_trans hB (Nat.le_of_lt h.lt)) hB (fun g e => by cases e; exact hM)⟩
theorem frame_kept (f : Fr) {w w1 : World} {t : TypeId} (hb : Below (w.alloc (.cells f.cells t)).heap.size (w.alloc (.cells f.cells t)) w1) : w1.cell? ⟨w.heap.size, 0, none⟩ = some (.int .i64 f.wire) ∧ w1.cell? ⟨w.heap.size, 1, none⟩ = some (.int .i64 f.kind) ∧ w1.cell? ⟨w.heap.size, 2, none⟩ = some (.int .i64 f.src) ∧ w1.cell? ⟨w.heap.size, 3, none⟩ = some (.int .i64 f.dst) ∧
    w1.cell? ⟨w.heap.size, 4, none⟩ = some (.int .u32 (f.life.toNat : Int)) ∧ w1.cell? ⟨w.heap.size, 5, none⟩ = some (.int .u32 (f.seq.toNat : Int)) ∧ w1.cell? ⟨w.heap.size, 6, none⟩ = some (.int .u32 (f.ack.toNat : Int)) ∧ w1.cell? ⟨w.heap.size, 7, none⟩ = some (.int .u32 (f.hint.toNat : Int)) ∧ w1.cell? ⟨w.heap.size, 8, none⟩ = some (.string f.data) := by
  have r : Row w1 w.heap.size f.cells t := Row.below (Row.new w f.cells t) hb (by simp)
  exact ⟨r.cell 0 _ rfl, r.cell 1 _ rfl, r.cell 2 _ rfl, r.cell 3 _ rfl, r.cell 4 _ rfl, r.cell 5 _ rfl, r.cell 6 _ rfl, r.cell 7 _ rfl, r.cell 8 _ rfl⟩
set_option maxRecDepth 100000 in
set_option maxHeartbeats 4000000 in
theorem noneA (s : ByteArray) (f : Fr) (n : Int) (h : n < 4090) (k : Nat) (h1 : k = 4096) (h2 : k ≤ 4100) (w : World) : Calls Try.prog 3 #[.string s, f.val, .int .i64 n] w fun e w' => e = .returned (.bool true) ∧ Below w.heap.size w w' := by
  have hd : decide (n < 4090) = true := decide_eq_true h
  have hle : decide ((k : Int) ≤ 4096) = true := decide_eq_true (by omega)
  have HS := Lib.hid (fun (B M : Nat) (W : World) (h : Lk.Is (Lk.new 1 2 2 1 1) B M W) (hB : w.heap.size ≤ B) (hM : w.heap.size ≤ M) => show Calls _ _ _ _ fun e w' => e = .returned (.int .i64 0) ∧ Below w.heap.size W w' from by have := none_send (k) h w.heap.size hB hM; rw [if_pos (by omega)] at this; exact this)
  have N1 := fun W => lkNew 1 2 2 1 1 (by decide) (by decide) rfl (.inr rfl) (by decide) (by decide) (by decide) W
  have H1 := Lib.hid (show ∀ W, Calls Try.prog 10 #[.int .i64 1, .int .i64 2, .int .i64 2, .int .i64 1, .int .u32 1] W _ from N1)
  have HR := Lib.hid (fun W => lkReceiveNil f W)
  unfold Fr.val Fr.cells at *
  have hD0 : txt (List.replicate (k) 0) = zeros (k) := rfl
  have hlen : (List.replicate (k) (0 : UInt8)).length = k := List.length_replicate
  generalize hD : zeros (k) = D at *
  have HK := Lib.hid (And.intro h1 h2)
  clear h1 h2
  clear N1 hD
  obtain ⟨i0, hi, hz0, hz1, hz2⟩ := info_parts info_byte
  go_enter Try.func3, Try.ntmps3
  go_upto_region 7 with (first
    | (go_at_call 8; refine (lawShown6 _).mono ?_; rintro e w1 ⟨rfl, hb1⟩; have hB1 := (((Below.refl _ w).alloc (Nat.le_refl _) _).trans (hb1.mono (by simp)) : Below w.heap.size w w1); obtain ⟨p0, p1, p2, p3, p4, p5, p6, p7, p8⟩ := frame_kept f hb1)
    | (go_at_call 9; refine (HR.out _).mono ?_; rintro e w2 ⟨rfl, hb2⟩; have hB2 := hB1.trans (hb2.mono hB1.size))
    | (go_at_call 10; refine (H1.out _).mono ?_; rintro e w3 ⟨⟨B, M, rfl, hlb, hlm, hI⟩, hb3⟩; have hB3 := hB2.trans (hb3.mono hB2.size); have hBB : w.heap.size ≤ B := Nat.le_trans hB2.size hlb; have hMM : w.heap.size ≤ M := Nat.le_trans hB2.size hlm))
  rw [show (4096 : Int) = (k : Int) from by have := HK.out; omega]
  go_wp2_with (first
    | (at_make; refine wpList_make_full _ rfl _ _ _ rfl w.heap.size 5 i0 (.int .u8 0) 1 Try.underlying35 hi hz0 hz1 .i64 .i64 _ _ (k) rfl rfl rfl rfl (by rw [hz2]; have := HK.out; omega) (by have := HK.out; unfold maxLen; omega) (by have := hB3.size; simp; omega) ?_
       intro w4 hown hgrow
       have hr := run_text w4 w3.heap.size 0 (k) (List.replicate (k) 0) (holds_zeros hown)
       rw [hlen, hD0] at hr
       have hb4 : Below w3.heap.size w3 w4 := (Below.refl _ w3).grown hgrow (Nat.le_refl _) (by simp)
       have hI4 := hI.below hb4
       have hB4 := hB3.trans (hb4.mono hB3.size))
    | (go_at_call 11; have H := HS; clear HS; refine (H.out B M _ hI4 hBB hMM).mono ?_; rintro e w5 ⟨rfl, hb5⟩; have hB5 := hB4.trans hb5; clear H)
    | (go_at_call 11; refine (lkSendNil _ _).mono ?_; rintro e w6 ⟨rfl, hb6⟩; have hB6 := hB5.trans (hb6.mono hB5.size))
    | (go_at_call 12; refine (lkOutNil _).mono ?_; rintro e w7 ⟨rfl, hb7⟩; have hB7 := hB6.trans (hb7.mono hB6.size))
    | (go_at_call 13; refine (lkMarksNil _).mono ?_; rintro e w8 ⟨rfl, hb8⟩; have hB8 := hB7.trans (hb8.mono hB7.size)))
  go_ret
  exact ⟨rfl, hB8⟩
set_option maxRecDepth 100000 in
set_option maxHeartbeats 4000000 in
theorem noneB (s : ByteArray) (f : Fr) (n : Int) (h : 4100 < n) (k : Nat) (h1 : k = 4096) (h2 : k ≤ 4100) (w : World) : Calls Try.prog 3 #[.string s, f.val, .int .i64 n] w fun e w' => e = .returned (.bool true) ∧ Below w.heap.size w w' := by
  have hd : decide (n < 4090) = false := decide_eq_false (by omega)
  have hd' : decide (4100 < n) = true := decide_eq_true h
  have hle : decide ((k : Int) ≤ 4096) = true := decide_eq_true (by omega)
  have HS := Lib.hid (fun (B M : Nat) (W : World) (h : Lk.Is (Lk.new 1 2 2 1 1) B M W) (hB : w.heap.size ≤ B) (hM : w.heap.size ≤ M) => show Calls _ _ _ _ fun e w' => e = .returned (.int .i64 0) ∧ Below w.heap.size W w' from by have := none_send (k) h w.heap.size hB hM; rw [if_pos (by omega)] at this; exact this)
  have N1 := fun W => lkNew 1 2 2 1 1 (by decide) (by decide) rfl (.inr rfl) (by decide) (by decide) (by decide) W
  have H1 := Lib.hid (show ∀ W, Calls Try.prog 10 #[.int .i64 1, .int .i64 2, .int .i64 2, .int .i64 1, .int .u32 1] W _ from N1)
  have HR := Lib.hid (fun W => lkReceiveNil f W)
  unfold Fr.val Fr.cells at *
  have hD0 : txt (List.replicate (k) 0) = zeros (k) := rfl
  have hlen : (List.replicate (k) (0 : UInt8)).length = k := List.length_replicate
  generalize hD : zeros (k) = D at *
  have HK := Lib.hid (And.intro h1 h2)
  clear h1 h2
  clear N1 hD
  obtain ⟨i0, hi, hz0, hz1, hz2⟩ := info_parts info_byte
  go_enter Try.func3, Try.ntmps3
  go_upto_region 7 with (first
    | (go_at_call 8; refine (lawShown6 _).mono ?_; rintro e w1 ⟨rfl, hb1⟩; have hB1 := (((Below.refl _ w).alloc (Nat.le_refl _) _).trans (hb1.mono (by simp)) : Below w.heap.size w w1); obtain ⟨p0, p1, p2, p3, p4, p5, p6, p7, p8⟩ := frame_kept f hb1)
    | (go_at_call 9; refine (HR.out _).mono ?_; rintro e w2 ⟨rfl, hb2⟩; have hB2 := hB1.trans (hb2.mono hB1.size))
    | (go_at_call 10; refine (H1.out _).mono ?_; rintro e w3 ⟨⟨B, M, rfl, hlb, hlm, hI⟩, hb3⟩; have hB3 := hB2.trans (hb3.mono hB2.size); have hBB : w.heap.size ≤ B := Nat.le_trans hB2.size hlb; have hMM : w.heap.size ≤ M := Nat.le_trans hB2.size hlm))
  rw [show (4096 : Int) = (k : Int) from by have := HK.out; omega]
  go_wp2_with (first
    | (at_make; refine wpList_make_full _ rfl _ _ _ rfl w.heap.size 5 i0 (.int .u8 0) 1 Try.underlying35 hi hz0 hz1 .i64 .i64 _ _ (k) rfl rfl rfl rfl (by rw [hz2]; have := HK.out; omega) (by have := HK.out; unfold maxLen; omega) (by have := hB3.size; simp; omega) ?_
       intro w4 hown hgrow
       have hr := run_text w4 w3.heap.size 0 (k) (List.replicate (k) 0) (holds_zeros hown)
       rw [hlen, hD0] at hr
       have hb4 : Below w3.heap.size w3 w4 := (Below.refl _ w3).grown hgrow (Nat.le_refl _) (by simp)
       have hI4 := hI.below hb4
       have hB4 := hB3.trans (hb4.mono hB3.size))
    | (go_at_call 11; have H := HS; clear HS; refine (H.out B M _ hI4 hBB hMM).mono ?_; rintro e w5 ⟨rfl, hb5⟩; have hB5 := hB4.trans hb5; clear H)
    | (go_at_call 11; refine (lkSendNil _ _).mono ?_; rintro e w6 ⟨rfl, hb6⟩; have hB6 := hB5.trans (hb6.mono hB5.size))
    | (go_at_call 12; refine (lkOutNil _).mono ?_; rintro e w7 ⟨rfl, hb7⟩; have hB7 := hB6.trans (hb7.mono hB6.size))
    | (go_at_call 13; refine (lkMarksNil _).mono ?_; rintro e w8 ⟨rfl, hb8⟩; have hB8 := hB7.trans (hb8.mono hB7.size)))
  go_ret
  exact ⟨rfl, hB8⟩
set_option maxRecDepth 100000 in
set_option maxHeartbeats 4000000 in
theorem noneC (s : ByteArray) (f : Fr) (k : Nat) (h1 : 4090 ≤ k ∧ k ≤ 4096) (h2 : k ≤ 4100) (w : World) : Calls Try.prog 3 #[.string s, f.val, .int .i64 (k : Int)] w fun e w' => e = .returned (.bool true) ∧ Below w.heap.size w w' := by
  have hd1 : decide ((k : Int) < 4090) = false := decide_eq_false (by omega)
  have hd2 : decide (4100 < (k : Int)) = false := decide_eq_false (by omega)
  have hle : decide ((k : Int) ≤ 4096) = true := decide_eq_true (by omega)
  have HS := Lib.hid (fun (B M : Nat) (W : World) (h : Lk.Is (Lk.new 1 2 2 1 1) B M W) (hB : w.heap.size ≤ B) (hM : w.heap.size ≤ M) => show Calls _ _ _ _ fun e w' => e = .returned (.int .i64 0) ∧ Below w.heap.size W w' from by have := none_send (k) h w.heap.size hB hM; rw [if_pos (by omega)] at this; exact this)
  have N1 := fun W => lkNew 1 2 2 1 1 (by decide) (by decide) rfl (.inr rfl) (by decide) (by decide) (by decide) W
  have H1 := Lib.hid (show ∀ W, Calls Try.prog 10 #[.int .i64 1, .int .i64 2, .int .i64 2, .int .i64 1, .int .u32 1] W _ from N1)
  have HR := Lib.hid (fun W => lkReceiveNil f W)
  unfold Fr.val Fr.cells at *
  have hD0 : txt (List.replicate (k) 0) = zeros (k) := rfl
  have hlen : (List.replicate (k) (0 : UInt8)).length = k := List.length_replicate
  generalize hD : zeros (k) = D at *
  have HK := Lib.hid (And.intro h1 h2)
  clear h1 h2
  clear N1 hD
  obtain ⟨i0, hi, hz0, hz1, hz2⟩ := info_parts info_byte
  go_enter Try.func3, Try.ntmps3
  go_wp2_with (first
    | (go_at_call 8; refine (lawShown6 _).mono ?_; rintro e w1 ⟨rfl, hb1⟩; have hB1 := (((Below.refl _ w).alloc (Nat.le_refl _) _).trans (hb1.mono (by simp)) : Below w.heap.size w w1); obtain ⟨p0, p1, p2, p3, p4, p5, p6, p7, p8⟩ := frame_kept f hb1)
    | (go_at_call 9; refine (HR.out _).mono ?_; rintro e w2 ⟨rfl, hb2⟩; have hB2 := hB1.trans (hb2.mono hB1.size))
    | (go_at_call 10; refine (H1.out _).mono ?_; rintro e w3 ⟨⟨B, M, rfl, hlb, hlm, hI⟩, hb3⟩; have hB3 := hB2.trans (hb3.mono hB2.size); have hBB : w.heap.size ≤ B := Nat.le_trans hB2.size hlb; have hMM : w.heap.size ≤ M := Nat.le_trans hB2.size hlm)
    | (at_make; refine wpList_make_full _ rfl _ _ _ rfl w.heap.size 5 i0 (.int .u8 0) 1 Try.underlying35 hi hz0 hz1 .i64 .i64 _ _ (k) rfl rfl rfl rfl (by rw [hz2]; have := HK.out; omega) (by have := HK.out; unfold maxLen; omega) (by have := hB3.size; simp; omega) ?_
       intro w4 hown hgrow
       have hr := run_text w4 w3.heap.size 0 (k) (List.replicate (k) 0) (holds_zeros hown)
       rw [hlen, hD0] at hr
       have hb4 : Below w3.heap.size w3 w4 := (Below.refl _ w3).grown hgrow (Nat.le_refl _) (by simp)
       have hI4 := hI.below hb4
       have hB4 := hB3.trans (hb4.mono hB3.size))
    | (go_at_call 11; have H := HS; clear HS; refine (H.out B M _ hI4 hBB hMM).mono ?_; rintro e w5 ⟨rfl, hb5⟩; have hB5 := hB4.trans hb5; clear H)
    | (go_at_call 11; refine (lkSendNil _ _).mono ?_; rintro e w6 ⟨rfl, hb6⟩; have hB6 := hB5.trans (hb6.mono hB5.size))
    | (go_at_call 12; refine (lkOutNil _).mono ?_; rintro e w7 ⟨rfl, hb7⟩; have hB7 := hB6.trans (hb7.mono hB6.size))
    | (go_at_call 13; refine (lkMarksNil _).mono ?_; rintro e w8 ⟨rfl, hb8⟩; have hB8 := hB7.trans (hb8.mono hB7.size)))
  go_ret
  exact ⟨rfl, hB8⟩
set_option maxRecDepth 100000 in
set_option maxHeartbeats 4000000 in
theorem noneD (s : ByteArray) (f : Fr) (k : Nat) (h1 : 4090 ≤ k ∧ 4096 < k) (h2 : k ≤ 4100) (w : World) : Calls Try.prog 3 #[.string s, f.val, .int .i64 (k : Int)] w fun e w' => e = .returned (.bool true) ∧ Below w.heap.size w w' := by
  have hd1 : decide ((k : Int) < 4090) = false := decide_eq_false (by omega)
  have hd2 : decide (4100 < (k : Int)) = false := decide_eq_false (by omega)
  have hle : decide ((k : Int) ≤ 4096) = false := decide_eq_false (by omega)
  have HS := Lib.hid (fun (B M : Nat) (W : World) (h : Lk.Is (Lk.new 1 2 2 1 1) B M W) (hB : w.heap.size ≤ B) (hM : w.heap.size ≤ M) => show Calls _ _ _ _ fun e w' => e = .returned (.int .i64 2) ∧ Below w.heap.size W w' from by have := none_send (k) h w.heap.size hB hM; rw [if_neg (by omega)] at this; exact this)
  have N1 := fun W => lkNew 1 2 2 1 1 (by decide) (by decide) rfl (.inr rfl) (by decide) (by decide) (by decide) W
  have H1 := Lib.hid (show ∀ W, Calls Try.prog 10 #[.int .i64 1, .int .i64 2, .int .i64 2, .int .i64 1, .int .u32 1] W _ from N1)
  have HR := Lib.hid (fun W => lkReceiveNil f W)
  unfold Fr.val Fr.cells at *
  have hD0 : txt (List.replicate (k) 0) = zeros (k) := rfl
  have hlen : (List.replicate (k) (0 : UInt8)).length = k := List.length_replicate
  generalize hD : zeros (k) = D at *
  have HK := Lib.hid (And.intro h1 h2)
  clear h1 h2
  clear N1 hD
  obtain ⟨i0, hi, hz0, hz1, hz2⟩ := info_parts info_byte
  go_enter Try.func3, Try.ntmps3
  go_wp2_with (first
    | (go_at_call 8; refine (lawShown6 _).mono ?_; rintro e w1 ⟨rfl, hb1⟩; have hB1 := (((Below.refl _ w).alloc (Nat.le_refl _) _).trans (hb1.mono (by simp)) : Below w.heap.size w w1); obtain ⟨p0, p1, p2, p3, p4, p5, p6, p7, p8⟩ := frame_kept f hb1)
    | (go_at_call 9; refine (HR.out _).mono ?_; rintro e w2 ⟨rfl, hb2⟩; have hB2 := hB1.trans (hb2.mono hB1.size))
    | (go_at_call 10; refine (H1.out _).mono ?_; rintro e w3 ⟨⟨B, M, rfl, hlb, hlm, hI⟩, hb3⟩; have hB3 := hB2.trans (hb3.mono hB2.size); have hBB : w.heap.size ≤ B := Nat.le_trans hB2.size hlb; have hMM : w.heap.size ≤ M := Nat.le_trans hB2.size hlm)
    | (at_make; refine wpList_make_full _ rfl _ _ _ rfl w.heap.size 5 i0 (.int .u8 0) 1 Try.underlying35 hi hz0 hz1 .i64 .i64 _ _ (k) rfl rfl rfl rfl (by rw [hz2]; have := HK.out; omega) (by have := HK.out; unfold maxLen; omega) (by have := hB3.size; simp; omega) ?_
       intro w4 hown hgrow
       have hr := run_text w4 w3.heap.size 0 (k) (List.replicate (k) 0) (holds_zeros hown)
       rw [hlen, hD0] at hr
       have hb4 : Below w3.heap.size w3 w4 := (Below.refl _ w3).grown hgrow (Nat.le_refl _) (by simp)
       have hI4 := hI.below hb4
       have hB4 := hB3.trans (hb4.mono hB3.size))
    | (go_at_call 11; have H := HS; clear HS; refine (H.out B M _ hI4 hBB hMM).mono ?_; rintro e w5 ⟨rfl, hb5⟩; have hB5 := hB4.trans hb5; clear H)
    | (go_at_call 11; refine (lkSendNil _ _).mono ?_; rintro e w6 ⟨rfl, hb6⟩; have hB6 := hB5.trans (hb6.mono hB5.size))
    | (go_at_call 12; refine (lkOutNil _).mono ?_; rintro e w7 ⟨rfl, hb7⟩; have hB7 := hB6.trans (hb7.mono hB6.size))
    | (go_at_call 13; refine (lkMarksNil _).mono ?_; rintro e w8 ⟨rfl, hb8⟩; have hB8 := hB7.trans (hb8.mono hB7.size)))
  go_ret
  exact ⟨rfl, hB8⟩
theorem lawNone6 (s : ByteArray) (f : Fr) (n : Int) (w : World) : Calls Try.prog 3 #[.string s, f.val, .int .i64 n] w fun e w' => e = .returned (.bool true) ∧ Below w.heap.size w w' := by
  by_cases h1 : n < 4090
  · exact noneA s f n h1 4096 rfl (by decide) w
  · by_cases h2 : 4100 < n
    · exact noneB s f n h2 4096 rfl (by decide) w
    · obtain ⟨k, rfl⟩ : ∃ k : Nat, n = (k : Int) := ⟨n.toNat, by omega⟩
      by_cases h3 : k ≤ 4096
      · exact noneC s f k ⟨by omega, h3⟩ (by omega) w
      · exact noneD s f k ⟨by omega, by omega⟩ (by omega) w
end Go.Proofs.Ytlbhfkiihikimaa
