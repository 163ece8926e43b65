/-
  (*Store).write: walked; what is put is told by the caller.
-/
import Derived.Test.YtfbponiiejanfaaStReplace
import Derived.Laws.IdiomStrings
namespace Go.Proofs.Ytfbponiiejanfaa
open Go.RowKit Go.Shelf
attribute [local go_sem] Oper.semAt_some
set_option linter.unusedVariables false
set_option linter.unusedSimpArgs false

theorem bytes_new' (w : World) (s : ByteArray) (cap : Nat) (W : World) (hW : (w.drew.alloc (.cells (bytesRow s cap) 5 ((bytesRow s cap).size, (bytesRow s cap).size + 1))) = W) : Holds W w.heap.size 0 s.data.toList := fun j hj => by
  have hj' : j < s.data.size := by simpa using hj
  rw [← hW, Nat.zero_add]
  have := World.cell?_alloc_mark w.drew (bytesRow s cap) 5 ((bytesRow s cap).size, (bytesRow s cap).size + 1) j
  refine Eq.trans this ?_
  rw [bytesRow, Array.getElem?_append_left (by simpa using hj'), Array.getElem?_map, Array.getElem?_eq_getElem hj']
  rfl
theorem bytes_room (w : World) (n : Nat) : n ≤ grownCap w n 0 5 := grownCap_ge w n 0 5
theorem holds_take {W : World} {g : Nat} {l : List UInt8} (h : Holds W g 0 l) (k : Nat) : Holds W g 0 (l.take k) := fun j hj => by
  have hj' : j < l.length := by rw [List.length_take] at hj; omega
  rw [List.getElem_take]; exact h j hj'
/-- What is put leaves S' behind. -/
def Puts (p : Nat) (S S' : St) (B : Nat) (v : Value) (l : List UInt8) : Prop :=
  ∀ W, Is S B v W → ∀ g c, g < W.heap.size → Holds W g 0 l → Calls Try.prog p #[.pointer (some ⟨B, 0, none⟩), .slice (some ⟨g, 0, none⟩) l.length c] W fun e W' => e = .returned (.tuple #[]) ∧ Turns S' B v W W'

theorem crashedLay (S : St) (B : Nat) (v : Value) (d : ByteArray) (beside : Nat) (w : World) (h : Is S B v w) (hs : S.state = 2) : Calls Try.prog 19 #[.pointer (some ⟨B, 0, none⟩), .string d, .int .i64 (beside : Int), .func (.func 20) #[.pointer (some ⟨B, 0, none⟩)] #[]] w fun e w' => e = .returned (.int .i64 31) ∧ w = w' := by
  have hc : w.cell? ⟨B, 4, none⟩ = some (.int .i64 2) := by rw [← hs]; exact h.cell 4 _ rfl
  clear h
  go_enter Try.func19, Try.ntmps19
  go_wp2
  go_ret
  exact ⟨rfl, rfl⟩
theorem longLay (S : St) (B : Nat) (v : Value) (d : ByteArray) (beside : Nat) (w : World) (h : Is S B v w) (hs : S.state ≠ 2) (hd : 4096 < d.size) (hdm : d.size ≤ 100000) : Calls Try.prog 19 #[.pointer (some ⟨B, 0, none⟩), .string d, .int .i64 (beside : Int), .func (.func 20) #[.pointer (some ⟨B, 0, none⟩)] #[]] w fun e w' => e = .returned (.int .i64 30) ∧ Below w.heap.size w w' := by
  have hc : w.cell? ⟨B, 4, none⟩ = some (.int .i64 S.state) := h.cell 4 _ rfl
  have hr := fun W => jRecord d hdm W
  rw [recF, if_neg (by omega)] at hr
  have HR := Lib.hid hr
  clear h hr
  generalize S.state = st at *
  go_enter Try.func19, Try.ntmps19
  go_wp2_with (go_at_call 25; refine (HR.out _).mono ?_; rintro e w1 ⟨rfl, hb1⟩)
  go_ret
  exact ⟨rfl, hb1⟩
theorem fullLay (S : St) (B : Nat) (v : Value) (d : ByteArray) (beside : Nat) (w : World) (h : Is S B v w) (hs : S.state ≠ 2) (hd : d.size ≤ 4096) (hbs : beside ≤ 1048576) (hf : S.cap < beside + d.size + 9) : Calls Try.prog 19 #[.pointer (some ⟨B, 0, none⟩), .string d, .int .i64 (beside : Int), .func (.func 20) #[.pointer (some ⟨B, 0, none⟩)] #[]] w fun e w' => e = .returned (.int .i64 30) ∧ Below w.heap.size w w' := by
  have hc : w.cell? ⟨B, 4, none⟩ = some (.int .i64 S.state) := h.cell 4 _ rfl
  have hr := fun W => jRecord d (by omega) W
  rw [recF, if_pos hd] at hr
  have hz : (txt (J.rec d.data.toList)).size = d.size + 9 := by rw [txt_size, J.rec_length]; simp
  have HR := Lib.hid hr
  have hm := h.ok.most
  have HI := Lib.hid h
  have hw : wrap64 ((S.cap : Int) - (beside : Int)) = (S.cap : Int) - (beside : Int) := by unfold wrap64; omega
  generalize txt (J.rec d.data.toList) = R at *
  have hdec : decide ((S.cap : Int) - (beside : Int) < (R.size : Int)) = true := by rw [decide_eq_true_iff]; omega
  clear h hr
  generalize S.state = st at *
  go_enter Try.func19, Try.ntmps19
  go_wp2_with (go_at_call 25; refine (HR.out _).mono ?_; rintro e w1 ⟨rfl, hb1⟩; have hc3 : w1.cell? ⟨B, 3, none⟩ = some (.int .i64 (S.cap : Int)) := (HI.out.below hb1).cell 3 _ rfl)
  go_ret
  exact ⟨rfl, hb1⟩
set_option maxRecDepth 100000 in
theorem soundLay (S S' : St) (B : Nat) (v : Value) (d : ByteArray) (beside : Nat) (w : World) (h : Is S B v w) (hs : S.state = 0) (hd : d.size ≤ 4096) (hf : beside + d.size + 9 ≤ S.cap) (hp : Puts 20 S S' B v (J.rec d.data.toList)) : Calls Try.prog 19 #[.pointer (some ⟨B, 0, none⟩), .string d, .int .i64 (beside : Int), .func (.func 20) #[.pointer (some ⟨B, 0, none⟩)] #[]] w fun e w' => e = .returned (.int .i64 0) ∧ Turns S' B v w w' := by
  have hc : w.cell? ⟨B, 4, none⟩ = some (.int .i64 0) := by rw [← hs]; exact h.cell 4 _ rfl
  have hr := fun W => jRecord d (by omega) W
  rw [recF, if_pos hd] at hr
  have hl : (J.rec d.data.toList).length = d.size + 9 := by rw [J.rec_length]; simp
  have hz : (txt (J.rec d.data.toList)).size = (J.rec d.data.toList).length := txt_size _
  have hzd : (txt (J.rec d.data.toList)).data.toList = J.rec d.data.toList := txt_toList _
  have HR := Lib.hid hr
  have HP := Lib.hid hp
  have HZD := Lib.hid hzd
  have hm := h.ok.most
  have HI := Lib.hid h
  have hw : wrap64 ((S.cap : Int) - (beside : Int)) = (S.cap : Int) - (beside : Int) := by unfold wrap64; omega
  generalize J.rec d.data.toList = l at *
  generalize txt l = R at *
  have HLR := Lib.hid hz
  have hdec : decide ((S.cap : Int) - (beside : Int) < (R.size : Int)) = false := by rw [decide_eq_false_iff_not]; omega
  clear h hr hp hzd hl hz
  go_enter Try.func19, Try.ntmps19
  go_wp2_with (first
    | (go_at_call 25; refine (HR.out _).mono ?_; rintro e w1 ⟨rfl, hb1⟩
       have hI1 := HI.out.below hb1
       have hc3 : w1.cell? ⟨B, 3, none⟩ = some (.int .i64 (S.cap : Int)) := hI1.cell 3 _ rfl
       have hc4 : w1.cell? ⟨B, 4, none⟩ = some (.int .i64 0) := by rw [← hs]; exact hI1.cell 4 _ rfl
       have hcv := run_bytes_of_string (P := Try.prog) w1 9 52 5 R Try.underlying9 Try.underlying52 Try.underlying5
       generalize grownCap w1 R.size 0 5 = cp at *
       obtain ⟨V, hV⟩ : ∃ V, (w1.drew.alloc (.cells (bytesRow R cp) 5 ((bytesRow R cp).size, (bytesRow R cp).size + 1))) = V := ⟨_, rfl⟩
       have hH := bytes_new' w1 R cp V hV
       have hBV : Below w1.heap.size w1 V := by rw [← hV]; exact (Below.refl _ w1).drew.alloc (by simp) _
       have hVs : w1.heap.size < V.heap.size := by rw [← hV]; simp
       rw [hV] at hcv
       rw [HZD.out] at hH
       clear hV)
    | (go_at_call 20; rw [HLR.out]; refine (HP.out V (hI1.below hBV) _ _ hVs hH).mono ?_; rintro e w2 ⟨rfl, hT2⟩))
  go_ret
  exact ⟨rfl, Turns.trans (Still.of_below (hb1.trans (hBV.mono hb1.size))) (fun g hg => .inl hg) hT2⟩
set_option maxRecDepth 100000 in
theorem aimedLay (S S' : St) (B : Nat) (v : Value) (d : ByteArray) (beside K : Nat) (w : World) (h : Is S B v w) (hs : S.state = 1) (hk : S.keep = (K : Int)) (hd : d.size ≤ 4096) (hf : beside + d.size + 9 ≤ S.cap) (hp : Puts 20 S S' B v ((J.rec d.data.toList).take K)) : Calls Try.prog 19 #[.pointer (some ⟨B, 0, none⟩), .string d, .int .i64 (beside : Int), .func (.func 20) #[.pointer (some ⟨B, 0, none⟩)] #[]] w fun e w' => e = .returned (.int .i64 31) ∧ Turns { S' with state := 2, keep := 0 } B v w w' := by
  have hc : w.cell? ⟨B, 4, none⟩ = some (.int .i64 1) := by rw [← hs]; exact h.cell 4 _ rfl
  have hr := fun W => jRecord d (by omega) W
  rw [recF, if_pos hd] at hr
  have hl : (J.rec d.data.toList).length = d.size + 9 := by rw [J.rec_length]; simp
  have hz : (txt (J.rec d.data.toList)).size = (J.rec d.data.toList).length := txt_size _
  have hzd : (txt (J.rec d.data.toList)).data.toList = J.rec d.data.toList := txt_toList _
  have hlt : ((J.rec d.data.toList).take K).length = min K (d.size + 9) := by rw [List.length_take, hl]
  have HR := Lib.hid hr
  have HP := Lib.hid hp
  have HZD := Lib.hid hzd
  have hm := h.ok.most
  have HI := Lib.hid h
  have hw : wrap64 ((S.cap : Int) - (beside : Int)) = (S.cap : Int) - (beside : Int) := by unfold wrap64; omega
  generalize J.rec d.data.toList = l at *
  generalize txt l = R at *
  obtain ⟨q, hq⟩ : ∃ q, (l.take K).length = q := ⟨_, rfl⟩
  have HQ := Lib.hid hq
  have hmin : min (K : Int) (R.size : Int) = (q : Int) := by omega
  have hqR : q ≤ R.size := by omega
  have hdec : decide ((S.cap : Int) - (beside : Int) < (R.size : Int)) = false := by rw [decide_eq_false_iff_not]; omega
  clear h hr hp hzd hl hz hlt hq
  go_enter Try.func19, Try.ntmps19
  go_wp2_with (first
    | (go_at_call 25; refine (HR.out _).mono ?_; rintro e w1 ⟨rfl, hb1⟩
       have hI1 := HI.out.below hb1
       have hc3 : w1.cell? ⟨B, 3, none⟩ = some (.int .i64 (S.cap : Int)) := hI1.cell 3 _ rfl
       have hc4 : w1.cell? ⟨B, 4, none⟩ = some (.int .i64 1) := by rw [← hs]; exact hI1.cell 4 _ rfl
       have hcv := run_bytes_of_string (P := Try.prog) w1 9 52 5 R Try.underlying9 Try.underlying52 Try.underlying5
       have hcr := bytes_room w1 R.size
       generalize grownCap w1 R.size 0 5 = cp at *
       have hci : (q : Int) ≤ (cp : Int) := by omega
       obtain ⟨V, hV⟩ : ∃ V, (w1.drew.alloc (.cells (bytesRow R cp) 5 ((bytesRow R cp).size, (bytesRow R cp).size + 1))) = V := ⟨_, rfl⟩
       have hH := bytes_new' w1 R cp V hV
       have hBV : Below w1.heap.size w1 V := by rw [← hV]; exact (Below.refl _ w1).drew.alloc (by simp) _
       have hVs : w1.heap.size < V.heap.size := by rw [← hV]; simp
       have hIV := hI1.below hBV
       have hc5 : V.cell? ⟨B, 5, none⟩ = some (.int .i64 (K : Int)) := by rw [← hk]; exact hIV.cell 5 _ rfl
       rw [hV] at hcv
       rw [HZD.out] at hH
       clear hV)
    | (go_at_call 20; rw [← HQ.out]; refine (HP.out V hIV _ _ hVs (holds_take hH K)).mono ?_; rintro e w2 ⟨rfl, hT2⟩
       obtain ⟨v2, hI2, hv2, hS2⟩ := hT2
       have hd4 := hI2.cell 4 _ rfl
       have hd5 := hI2.cell 5 _ rfl
       have hf4 := hI2.thawed 4
       have hf5 := hI2.thawed 5
       have hN := hI2.next 2 0
       have HN := Lib.hid hN
       clear hN))
  go_ret
  have hv2' : ∀ g, v2.ownBlock = some g → v.ownBlock = some g ∨ w.heap.size ≤ g := fun g hg => by
    rcases hv2 g hg with e | e
    · exact .inl e
    · exact .inr (by have := hb1.size; have := hBV.size; omega)
  exact ⟨rfl, Turns.trans ((Still.of_below (hb1.trans (hBV.mono hb1.size))).trans hS2 (fun g hg => .inl hg)) hv2' HN.out⟩

theorem crashedReplace (S : St) (B : Nat) (v : Value) (d : ByteArray) (beside : Nat) (w : World) (h : Is S B v w) (hs : S.state = 2) : Calls Try.prog 19 #[.pointer (some ⟨B, 0, none⟩), .string d, .int .i64 (beside : Int), .func (.func 21) #[.pointer (some ⟨B, 0, none⟩)] #[]] w fun e w' => e = .returned (.int .i64 31) ∧ w = w' := by
  have hc : w.cell? ⟨B, 4, none⟩ = some (.int .i64 2) := by rw [← hs]; exact h.cell 4 _ rfl
  clear h
  go_enter Try.func19, Try.ntmps19
  go_wp2
  go_ret
  exact ⟨rfl, rfl⟩
theorem longReplace (S : St) (B : Nat) (v : Value) (d : ByteArray) (beside : Nat) (w : World) (h : Is S B v w) (hs : S.state ≠ 2) (hd : 4096 < d.size) (hdm : d.size ≤ 100000) : Calls Try.prog 19 #[.pointer (some ⟨B, 0, none⟩), .string d, .int .i64 (beside : Int), .func (.func 21) #[.pointer (some ⟨B, 0, none⟩)] #[]] w fun e w' => e = .returned (.int .i64 30) ∧ Below w.heap.size w w' := by
  have hc : w.cell? ⟨B, 4, none⟩ = some (.int .i64 S.state) := h.cell 4 _ rfl
  have hr := fun W => jRecord d hdm W
  rw [recF, if_neg (by omega)] at hr
  have HR := Lib.hid hr
  clear h hr
  generalize S.state = st at *
  go_enter Try.func19, Try.ntmps19
  go_wp2_with (go_at_call 25; refine (HR.out _).mono ?_; rintro e w1 ⟨rfl, hb1⟩)
  go_ret
  exact ⟨rfl, hb1⟩
theorem fullReplace (S : St) (B : Nat) (v : Value) (d : ByteArray) (beside : Nat) (w : World) (h : Is S B v w) (hs : S.state ≠ 2) (hd : d.size ≤ 4096) (hbs : beside ≤ 1048576) (hf : S.cap < beside + d.size + 9) : Calls Try.prog 19 #[.pointer (some ⟨B, 0, none⟩), .string d, .int .i64 (beside : Int), .func (.func 21) #[.pointer (some ⟨B, 0, none⟩)] #[]] w fun e w' => e = .returned (.int .i64 30) ∧ Below w.heap.size w w' := by
  have hc : w.cell? ⟨B, 4, none⟩ = some (.int .i64 S.state) := h.cell 4 _ rfl
  have hr := fun W => jRecord d (by omega) W
  rw [recF, if_pos hd] at hr
  have hz : (txt (J.rec d.data.toList)).size = d.size + 9 := by rw [txt_size, J.rec_length]; simp
  have HR := Lib.hid hr
  have hm := h.ok.most
  have HI := Lib.hid h
  have hw : wrap64 ((S.cap : Int) - (beside : Int)) = (S.cap : Int) - (beside : Int) := by unfold wrap64; omega
  generalize txt (J.rec d.data.toList) = R at *
  have hdec : decide ((S.cap : Int) - (beside : Int) < (R.size : Int)) = true := by rw [decide_eq_true_iff]; omega
  clear h hr
  generalize S.state = st at *
  go_enter Try.func19, Try.ntmps19
  go_wp2_with (go_at_call 25; refine (HR.out _).mono ?_; rintro e w1 ⟨rfl, hb1⟩; have hc3 : w1.cell? ⟨B, 3, none⟩ = some (.int .i64 (S.cap : Int)) := (HI.out.below hb1).cell 3 _ rfl)
  go_ret
  exact ⟨rfl, hb1⟩
set_option maxRecDepth 100000 in
theorem soundReplace (S S' : St) (B : Nat) (v : Value) (d : ByteArray) (beside : Nat) (w : World) (h : Is S B v w) (hs : S.state = 0) (hd : d.size ≤ 4096) (hf : beside + d.size + 9 ≤ S.cap) (hp : Puts 21 S S' B v (J.rec d.data.toList)) : Calls Try.prog 19 #[.pointer (some ⟨B, 0, none⟩), .string d, .int .i64 (beside : Int), .func (.func 21) #[.pointer (some ⟨B, 0, none⟩)] #[]] w fun e w' => e = .returned (.int .i64 0) ∧ Turns S' B v w w' := by
  have hc : w.cell? ⟨B, 4, none⟩ = some (.int .i64 0) := by rw [← hs]; exact h.cell 4 _ rfl
  have hr := fun W => jRecord d (by omega) W
  rw [recF, if_pos hd] at hr
  have hl : (J.rec d.data.toList).length = d.size + 9 := by rw [J.rec_length]; simp
  have hz : (txt (J.rec d.data.toList)).size = (J.rec d.data.toList).length := txt_size _
  have hzd : (txt (J.rec d.data.toList)).data.toList = J.rec d.data.toList := txt_toList _
  have HR := Lib.hid hr
  have HP := Lib.hid hp
  have HZD := Lib.hid hzd
  have hm := h.ok.most
  have HI := Lib.hid h
  have hw : wrap64 ((S.cap : Int) - (beside : Int)) = (S.cap : Int) - (beside : Int) := by unfold wrap64; omega
  generalize J.rec d.data.toList = l at *
  generalize txt l = R at *
  have HLR := Lib.hid hz
  have hdec : decide ((S.cap : Int) - (beside : Int) < (R.size : Int)) = false := by rw [decide_eq_false_iff_not]; omega
  clear h hr hp hzd hl hz
  go_enter Try.func19, Try.ntmps19
  go_wp2_with (first
    | (go_at_call 25; refine (HR.out _).mono ?_; rintro e w1 ⟨rfl, hb1⟩
       have hI1 := HI.out.below hb1
       have hc3 : w1.cell? ⟨B, 3, none⟩ = some (.int .i64 (S.cap : Int)) := hI1.cell 3 _ rfl
       have hc4 : w1.cell? ⟨B, 4, none⟩ = some (.int .i64 0) := by rw [← hs]; exact hI1.cell 4 _ rfl
       have hcv := run_bytes_of_string (P := Try.prog) w1 9 52 5 R Try.underlying9 Try.underlying52 Try.underlying5
       generalize grownCap w1 R.size 0 5 = cp at *
       obtain ⟨V, hV⟩ : ∃ V, (w1.drew.alloc (.cells (bytesRow R cp) 5 ((bytesRow R cp).size, (bytesRow R cp).size + 1))) = V := ⟨_, rfl⟩
       have hH := bytes_new' w1 R cp V hV
       have hBV : Below w1.heap.size w1 V := by rw [← hV]; exact (Below.refl _ w1).drew.alloc (by simp) _
       have hVs : w1.heap.size < V.heap.size := by rw [← hV]; simp
       rw [hV] at hcv
       rw [HZD.out] at hH
       clear hV)
    | (go_at_call 21; rw [HLR.out]; refine (HP.out V (hI1.below hBV) _ _ hVs hH).mono ?_; rintro e w2 ⟨rfl, hT2⟩))
  go_ret
  exact ⟨rfl, Turns.trans (Still.of_below (hb1.trans (hBV.mono hb1.size))) (fun g hg => .inl hg) hT2⟩
set_option maxRecDepth 100000 in
theorem aimedReplace (S S' : St) (B : Nat) (v : Value) (d : ByteArray) (beside K : Nat) (w : World) (h : Is S B v w) (hs : S.state = 1) (hk : S.keep = (K : Int)) (hd : d.size ≤ 4096) (hf : beside + d.size + 9 ≤ S.cap) (hp : Puts 21 S S' B v ((J.rec d.data.toList).take K)) : Calls Try.prog 19 #[.pointer (some ⟨B, 0, none⟩), .string d, .int .i64 (beside : Int), .func (.func 21) #[.pointer (some ⟨B, 0, none⟩)] #[]] w fun e w' => e = .returned (.int .i64 31) ∧ Turns { S' with state := 2, keep := 0 } B v w w' := by
  have hc : w.cell? ⟨B, 4, none⟩ = some (.int .i64 1) := by rw [← hs]; exact h.cell 4 _ rfl
  have hr := fun W => jRecord d (by omega) W
  rw [recF, if_pos hd] at hr
  have hl : (J.rec d.data.toList).length = d.size + 9 := by rw [J.rec_length]; simp
  have hz : (txt (J.rec d.data.toList)).size = (J.rec d.data.toList).length := txt_size _
  have hzd : (txt (J.rec d.data.toList)).data.toList = J.rec d.data.toList := txt_toList _
  have hlt : ((J.rec d.data.toList).take K).length = min K (d.size + 9) := by rw [List.length_take, hl]
  have HR := Lib.hid hr
  have HP := Lib.hid hp
  have HZD := Lib.hid hzd
  have hm := h.ok.most
  have HI := Lib.hid h
  have hw : wrap64 ((S.cap : Int) - (beside : Int)) = (S.cap : Int) - (beside : Int) := by unfold wrap64; omega
  generalize J.rec d.data.toList = l at *
  generalize txt l = R at *
  obtain ⟨q, hq⟩ : ∃ q, (l.take K).length = q := ⟨_, rfl⟩
  have HQ := Lib.hid hq
  have hmin : min (K : Int) (R.size : Int) = (q : Int) := by omega
  have hqR : q ≤ R.size := by omega
  have hdec : decide ((S.cap : Int) - (beside : Int) < (R.size : Int)) = false := by rw [decide_eq_false_iff_not]; omega
  clear h hr hp hzd hl hz hlt hq
  go_enter Try.func19, Try.ntmps19
  go_wp2_with (first
    | (go_at_call 25; refine (HR.out _).mono ?_; rintro e w1 ⟨rfl, hb1⟩
       have hI1 := HI.out.below hb1
       have hc3 : w1.cell? ⟨B, 3, none⟩ = some (.int .i64 (S.cap : Int)) := hI1.cell 3 _ rfl
       have hc4 : w1.cell? ⟨B, 4, none⟩ = some (.int .i64 1) := by rw [← hs]; exact hI1.cell 4 _ rfl
       have hcv := run_bytes_of_string (P := Try.prog) w1 9 52 5 R Try.underlying9 Try.underlying52 Try.underlying5
       have hcr := bytes_room w1 R.size
       generalize grownCap w1 R.size 0 5 = cp at *
       have hci : (q : Int) ≤ (cp : Int) := by omega
       obtain ⟨V, hV⟩ : ∃ V, (w1.drew.alloc (.cells (bytesRow R cp) 5 ((bytesRow R cp).size, (bytesRow R cp).size + 1))) = V := ⟨_, rfl⟩
       have hH := bytes_new' w1 R cp V hV
       have hBV : Below w1.heap.size w1 V := by rw [← hV]; exact (Below.refl _ w1).drew.alloc (by simp) _
       have hVs : w1.heap.size < V.heap.size := by rw [← hV]; simp
       have hIV := hI1.below hBV
       have hc5 : V.cell? ⟨B, 5, none⟩ = some (.int .i64 (K : Int)) := by rw [← hk]; exact hIV.cell 5 _ rfl
       rw [hV] at hcv
       rw [HZD.out] at hH
       clear hV)
    | (go_at_call 21; rw [← HQ.out]; refine (HP.out V hIV _ _ hVs (holds_take hH K)).mono ?_; rintro e w2 ⟨rfl, hT2⟩
       obtain ⟨v2, hI2, hv2, hS2⟩ := hT2
       have hd4 := hI2.cell 4 _ rfl
       have hd5 := hI2.cell 5 _ rfl
       have hf4 := hI2.thawed 4
       have hf5 := hI2.thawed 5
       have hN := hI2.next 2 0
       have HN := Lib.hid hN
       clear hN))
  go_ret
  have hv2' : ∀ g, v2.ownBlock = some g → v.ownBlock = some g ∨ w.heap.size ≤ g := fun g hg => by
    rcases hv2 g hg with e | e
    · exact .inl e
    · exact .inr (by have := hb1.size; have := hBV.size; omega)
  exact ⟨rfl, Turns.trans ((Still.of_below (hb1.trans (hBV.mono hb1.size))).trans hS2 (fun g hg => .inl hg)) hv2' HN.out⟩
end Go.Proofs.Ytfbponiiejanfaa
